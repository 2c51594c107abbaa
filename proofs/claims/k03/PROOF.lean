import PyProof.Rows.All
import Wide.All
import OpenK.AllK
import Wide.FinOn
import HandS.ForMost
import HandS.HeadHook4
import HandS.Wide
import HandS.CallLocal
import HandS.Style
import HandS.Flow
import HandS.Head0
import HandS.Head1
import HandS.Head2
import HandS.HeadEnd
import HandS.EndBits
import HandS.ForExc
import HandS.ExcInit
import HandS.TryElse
import KE.KExcInit
import KE.KExcSuper
import HandS.IsInst
import HandS.StrMore
import HandS.Replace
import HandS.Steps
import PySem.Challenge.RW_trueimage_k03_whole_deep_texts
set_option Elab.async false
set_option linter.all false
set_option maxRecDepth 100000
set_option maxHeartbeats 2000000
namespace My
open PySem PySem.Spec PyProof.Rows L2
/-! ### promises by the number of arguments -/
def sp1 (p : V → Hp → VK → XK → Prop) : Sp := fun vs H Q E => ∃ a, vs = [a] ∧ p a H Q E
def sp2 (p : V → V → Hp → VK → XK → Prop) : Sp := fun vs H Q E => ∃ a b, vs = [a, b] ∧ p a b H Q E
def sp3 (p : V → V → V → Hp → VK → XK → Prop) : Sp := fun vs H Q E => ∃ a b c, vs = [a, b, c] ∧ p a b c H Q E
def sp4 (p : V → V → V → V → Hp → VK → XK → Prop) : Sp := fun vs H Q E => ∃ a b c d, vs = [a, b, c, d] ∧ p a b c d H Q E
theorem len1 {p} (vs : List V) (H : Hp) (Q : VK) (E : XK) (h : sp1 p vs H Q E) : vs.length = 1 := by obtain ⟨a, rfl, _⟩ := h; rfl
theorem len2 {p} (vs : List V) (H : Hp) (Q : VK) (E : XK) (h : sp2 p vs H Q E) : vs.length = 2 := by obtain ⟨a, b, rfl, _⟩ := h; rfl
theorem len3 {p} (vs : List V) (H : Hp) (Q : VK) (E : XK) (h : sp3 p vs H Q E) : vs.length = 3 := by obtain ⟨a, b, c, rfl, _⟩ := h; rfl
theorem len4 {p} (vs : List V) (H : Hp) (Q : VK) (E : XK) (h : sp4 p vs H Q E) : vs.length = 4 := by obtain ⟨a, b, c, d, rfl, _⟩ := h; rfl
/-! ### a def of the text behind its name, a def that keeps its promise -/
structure Df (K : PySem.W.Frag) (mg : Str → Option Value) (x : Str) (st : Stmt) : Prop where
  ex : ∃ (f : Addr) (fd : FuncData), mg x = some (.ref f) ∧ FunD K x x (defArgs st) (defBody st) (defScope st) [] [] f fd
structure Gd (P : Program) (w : World) (K : PySem.W.Frag) (mg : Str → Option Value) (base : Heap) (CX : CXT) (k : Nat) (x : Str) (ps : List Str) (sp : Sp) : Prop where
  ex : ∃ (f : Addr) (fd : FuncData), mg x = some (.ref f) ∧ FnOk P w K mg base CX k f fd ps sp ∧ Binds K fd ps [] ∧ PySem.W.keepIn K (.ref f) = true ∧ ∃ oc od osl, K.lookup f = some ⟨oc, od, .func fd, osl⟩
section
variable {P : Program} {w : World} {K : PySem.W.Frag} {mg : Str → Option Value} {base : Heap}
theorem Gd.mono {CX : CXT} {j k : Nat} {x : Str} {ps : List Str} {sp : Sp} (h : Gd P w K mg base CX j x ps sp) (hk : j ≤ k) : Gd P w K mg base CX k x ps sp := by
  obtain ⟨f, fd, a, b, c, d, e⟩ := h.ex
  exact ⟨f, fd, a, b.mono hk, c, d, e⟩
/-- a def out of which no exception comes -/
theorem Df.ok {x : Str} {st : Stmt} {N ps : List Str} {k : Nat} {sp : Sp} (D : Df K mg x st) (S : FnScope N ps (defScope st)) (len : ∀ vs H Q E, sp vs H Q E → vs.length = ps.length)
    (hb : ∀ (kV doc pm : Value) (an : Option Addr) (cdv ct : Value) (us : List Value), us.length = ps.length → bindArgs (PySem.W.fnOf x x (defArgs st) (defBody st) (defScope st) .none kV doc pm an cdv ct) ⟨us, []⟩ = pure (ps.zip us))
    (hbody : ∀ (f : Addr) (cdv : Value) (A : Around) (outer : List Env) (s : Shared) (H : Hp) (vs : List V) (Q : VK) (E : XK), Room k (A.deeper (envOfC x (defScope st) s.heap.objs.size f cdv)) → sp vs H Q E →
      ∃ t, PSs (cxOf CX0 P w K mg base N x (defScope st) f cdv A outer s H E).nox (defBody st) t ∧ t { nx := fun _ H' => Q .non H', rt := Q } (start N vs) H) : Gd P w K mg base CX0 (k + 1) x ps sp := by
  obtain ⟨f, fd, hm, F⟩ := D.ex
  have lk : ∃ oc od osl, K.lookup f = some ⟨oc, od, .func fd, osl⟩ := by
    obtain ⟨oc, od, dV, kV, doc, pm, an, cdv, ct, osl, e, l, _⟩ := F.ex
    exact ⟨oc, od, osl, l⟩
  refine ⟨f, fd, hm, F.ok S len fun cdv A outer s H vs Q E hr h => ?_, F.bindsN hb, F.kp, lk⟩
  obtain ⟨t, h1, h2⟩ := hbody f cdv A outer s H vs Q E hr h
  exact ⟨t, h1.nox, h2⟩
end
section
variable {X : Cx} {CX : CXT} {k : Nat} {x : Str} {ps : List Str} {sp : Sp} {E : XK} {e : Expr} {es : List Expr} {t : TA} {p pos : Pos}
def tCallG (sp : Sp) (E : XK) (t : TA) : TE := fun σ H Q => t σ H fun vs H1 => sp vs H1 Q E
theorem pe_g (h : Gd X.prog X.w X.K X.mg X.base CX k x ps sp) (hr : Room k X.A) (hx : Passes CX X E) (ha : PA X (e :: es) t) (hg : Gl X x := by rfl) (hdb : (x == ("__debug__" : Str)) = false := by decide)
    (he : starEach (e :: es) X.env = (false, eval e X.env) :: starEach es X.env := by rfl) (hpl : (backTo pos (starEach es X.env)).any (·.1) = false := by rfl) : PE X (.Call (.Name x p) (e :: es) [] pos) (tCallG sp E t) := by
  obtain ⟨f, fd, hm, F, hb, hk, _⟩ := h.ex
  have z := pe_call (p := p) F hr hg hm hk hb .nil hx ha hdb he hpl
  refine ⟨fun pins s σ H Q I hw => z.run pins s σ H Q I ?_⟩
  have e0 : (fun (vs : List V) (H1 : Hp) => sp (vs ++ []) H1 Q E) = fun vs H1 => sp vs H1 Q E := by
    funext vs H1
    rw [List.append_nil]
  show t σ H (fun vs H1 => sp (vs ++ []) H1 Q E)
  rw [e0]
  exact hw
/-- the module's ints, texts -/
theorem pe_gint {i : Int} (h : ∃ t, X.mg x = some (.int i t)) (hg : Gl X x := by rfl) (hd : (x == ("__debug__" : Str)) = false := by decide) : PE X (.Name x pos) (tC (.int i)) := by
  obtain ⟨t, h⟩ := h
  exact pe_glob hg h ⟨_, rfl⟩ hd
theorem pe_gstr {z : Str} (h : ∃ t, X.mg x = some (.str z t)) (hg : Gl X x := by rfl) (hd : (x == ("__debug__" : Str)) = false := by decide) : PE X (.Name x pos) (tC (.str z)) := by
  obtain ⟨t, h⟩ := h
  exact pe_glob hg h ⟨_, rfl⟩ hd
theorem pe_gref {a : Addr} (h : X.mg x = some (.ref a)) (hg : Gl X x := by rfl) (hd : (x == ("__debug__" : Str)) = false := by decide) : PE X (.Name x pos) (tC (.ref a)) := pe_glob hg h rfl hd
end
end My

set_option maxHeartbeats 4000000
namespace Bt
open PySem PySem.W PySem.Calls PyProof.Rows
abbrev exB : List Value := [.type "Exception", .type "BaseException", .type "object"]
def plainExc (C t : Addr) (dd : Option Addr) : Obj := { cls := .ref C, dict := dd, data := .fields #[.ref t, .none, .none, .none, .bool false, .none] }
section
variable {prog : Program} {w : World} {A : Around} {R : Result → Shared → Prop} {hp : Heap} {g : Array GenState} {d : Drawn} {t : Nat} {os : OsState} {K : Frag} {C x : Addr} {name : Str} {tk : Tok} {v : Value}
/-- the first field of a raised thing: its dict is laid -/
theorem fld_first (X : K.In hp) {t0 : Addr} (hx : hp.get? x = some (plainExc C t0 none)) (hov : excOver K C exB = true) {cd : ClassData} (hcd : clsIn K C = some cd) (hh : cd.hasDict = true) (hno : findIn K (.ref C) name = some none)
    (hq : ∀ h' tk' dx, (∀ b o, b ≠ x → hp.get? b = some o → h'.get? b = some o) → hp.objs.size ≤ dx → dx ≠ x → h'.get? x = some (plainExc C t0 (some dx)) → h'.Ns1 dx (fun y => if y = name then some v else none) →
      R (.ok (.ret .none)) ⟨h', g, d, tk', os⟩) :
    codeAny (model prog w) A (.call (.builtin "object.__setattr__") ⟨[.ref x, .str name tk, v], []⟩) R ⟨hp, g, d, t, os⟩ := by
  have tak : takerIn K C name = some none := by unfold takerIn; rw [hno]; rfl
  have inst : InstAt hp x (plainExc C t0 none) C none := ⟨hx, rfl, rfl, trivial⟩
  have lc : Looks (model prog w) hp (classData C) cd := looks_clsIn X hcd
  have far : x ≠ hp.objs.size := Nat.ne_of_lt (Heap.lt_size hx)
  refine osa_openX (s := ⟨hp, g, d, t, os⟩) PySem.F.store_Exception X inst hov tak fun b => ?_
  obtain ⟨n1, n2, n3, n4, n5, n6, n7, n8, n9, n10, n11⟩ := cd
  dsimp only at hh
  subst hh
  show wpAny _ _ (Builtin.ObjectAttr.storeInOwnDict _ _ _ _ _ _) _ _ _
  unfold Builtin.ObjectAttr.storeInOwnDict Builtin.ObjectAttr.ownDictForStores
  repeat (first | with_reducible refine lc.at ?_ | with_reducible refine wpAny_loadPart_at hx ?_ | with_reducible refine HandSPX.store_in_new ?_ ?_ | wp_step)
  · exact ⟨_, #[], _, (Heap.get?_update_ne _ _ _ _ far.symm).trans (Heap.get?_push_at rfl rfl), rfl, (fun e he => absurd he (by simp)), fun _ => rfl⟩
  · intro h1 tk1 nsd same
    have hx1 : (hp.push { cls := .type "dict", data := .dict #[] }).get? x = some (plainExc C t0 none) := Heap.get?_push_of_some _ hx
    refine hq h1 tk1 hp.objs.size (fun b o hb ho => ?_) (Nat.le_refl _) far.symm ?_ nsd
    · have y := same.2 b (Nat.ne_of_lt (Heap.lt_size ho))
      rw [y, Heap.get?_update_ne _ _ _ _ hb]
      exact Heap.get?_push_of_some _ ho
    · have y := same.2 x far
      rw [y]
      exact Heap.get?_update_self _ hx1 rfl
/-- a further field -/
theorem fld_more (X : K.In hp) {t0 dx : Addr} {m0 : Str → Option Value} {nl : List Str} (hx : hp.get? x = some (plainExc C t0 (some dx))) (hns : hp.Ns1 dx m0) (hw : Within m0 nl) (hz : nl.length ≤ 1000) (hov : excOver K C exB = true) {cd : ClassData} (hcd : clsIn K C = some cd) (hh : cd.hasDict = true) (hno : findIn K (.ref C) name = some none)
    (hq : ∀ h' tk', (∀ b o, b ≠ dx → hp.get? b = some o → h'.get? b = some o) → h'.Ns1 dx (fun y => if y = name then some v else m0 y) → R (.ok (.ret .none)) ⟨h', g, d, tk', os⟩) :
    codeAny (model prog w) A (.call (.builtin "object.__setattr__") ⟨[.ref x, .str name tk, v], []⟩) R ⟨hp, g, d, t, os⟩ := by
  have tak : takerIn K C name = some none := by unfold takerIn; rw [hno]; rfl
  obtain ⟨oD, esD, epD, hoD, hdD, _⟩ := hns.count hw
  have inst : InstAt hp x (plainExc C t0 (some dx)) C (some oD) := ⟨hx, rfl, rfl, hoD⟩
  have lc : Looks (model prog w) hp (classData C) cd := looks_clsIn X hcd
  refine osa_openX (s := ⟨hp, g, d, t, os⟩) PySem.F.store_Exception X inst hov tak fun b => ?_
  obtain ⟨n1, n2, n3, n4, n5, n6, n7, n8, n9, n10, n11⟩ := cd
  dsimp only at hh
  subst hh
  show wpAny _ _ (Builtin.ObjectAttr.storeInOwnDict _ _ _ _ _ _) _ _ _
  unfold Builtin.ObjectAttr.storeInOwnDict Builtin.ObjectAttr.ownDictForStores
  repeat (first | with_reducible refine lc.at ?_ | with_reducible refine wpAny_loadPart_at hx ?_ | with_reducible refine PySem.OEX.store_in_old hns hw hz ?_ | wp_step)
  intro h1 tk1 nsd same
  exact hq h1 tk1 (fun b o hb ho => by rw [same.2 b hb]; exact ho) nsd
end
/-! ### BadText: what the written part says of it; its __init__ -/
def iA (p1 p2 p3 : Pos) : Arguments := { posonlyargs := [], args := [{ arg := "self", annotation := none, pos := p1 }, { arg := "line", annotation := none, pos := p2 }, { arg := "column", annotation := none, pos := p3 }], vararg := none, kwonlyargs := [], kw_defaults := [], kwarg := none, defaults := [] }
def iB (q1 q2 q3 q4 r1 r2 r3 r4 : Pos) : List Stmt := [.Assign [.Attribute (.Name "self" q1) "line" q2] (.Name "line" q3) q4, .Assign [.Attribute (.Name "self" r1) "column" r2] (.Name "column" r3) r4]
def iS : Scope := { kind := .function, names := [(PySem.Str.ofString "self", .local), (PySem.Str.ofString "line", .local), (PySem.Str.ofString "column", .local)], isGenerator := false, isCoroutine := false, more := [] }
structure BtTxt (K : Frag) (mg : Str → Option Value) (C fI : Addr) : Prop where
  gC : mg "BadText" = some (.ref C)
  exI : excInitIn K C exB "Exception.__new__" = true
  over : excOver K C exB = true
  cd : ∃ cd, clsIn K C = some cd ∧ cd.hasDict = true
  sa : findIn K (.ref C) "__setattr__" = some (some (.builtin "object.__setattr__"))
  ga : findIn K (.ref C) "__getattribute__" = some (some (.builtin "BaseException.__getattribute__"))
  gg : findIn K (.ref C) "__getattr__" = some none
  noL : findIn K (.ref C) "line" = some none
  noC : findIn K (.ref C) "column" = some none
  iC : findIn K (.ref C) "__init__" = some (some (.ref fI))
  tC : typeIn K (.ref fI) = some (.type "function")
  kC : keepIn K (.ref C) = true
  exC : subIn K (.ref C) (.type "BaseException") = some true
  tyC : typeIn K (.ref C) = some (.type "type")
  hdC : hasDictIn K C = true
  te : exmOne K (.ref C) (.ref C) = some true
  fn : ∃ (oc : Value) (od : Option Addr) (kV doc pm : Value) (an : Option Addr) (cdv ct : Value) (osl : Array (Option Value)) (p1 p2 p3 q1 q2 q3 q4 r1 r2 r3 r4 : Pos),
    K.lookup fI = some ⟨oc, od, .func (fnOf "__init__" "BadText.__init__" (iA p1 p2 p3) (iB q1 q2 q3 q4 r1 r2 r3 r4) iS .none kV doc pm an cdv ct), osl⟩ ∧ codeIn K cdv "BadText.__init__" = true
theorem one_size (v u : Value) : [v, u].length ≤ sizeLine := by
  rw [sizeLine_eq]
  exact (by decide : 2 ≤ 16777216)
theorem ldC {M : Model} {s : Shared} {name : Str} {scope : Scope} {L a : Addr} {cd : Value} {m : Str → Option Value} {x : Str} {pos : Pos} {v : Value} {Q : Value → Shared → Prop} {A : Around} {E : Value → Shared → Prop} (hn : s.heap.Ns L m) (hv : m x = some v) (h : Q v s)
    (hk : scope.kind = .function := by rfl) (hl : (envOfC name scope L a cd).kindOf x = some .local := by rfl) (hd : (x == ("__debug__" : Str)) = false := by decide) :
    wpAny M A (eval (.Name x pos) (envOfC name scope L a cd)) Q E s := wpAny_Name (wpAny_loadName_local hk hl hn hv h) hd
def two (l c : Value) : Str → Option Value := fun y => if y = "column" then some c else if y = "line" then some l else none
/-- what __init__ leaves of a fresh exception at x -/
structure InitEnd (h h' : Heap) (x C dx t1 : Addr) (l c : Value) : Prop where
  keep : ∀ b o, b ≠ x → h.get? b = some o → h'.get? b = some o
  obj : h'.get? x = some (plainExc C t1 (some dx))
  dbig : h.objs.size ≤ dx
  dne : dx ≠ x
  ns : h'.Ns1 dx (two l c)
/-- a made BadText -/
structure OwnMade (h h' : Heap) (e C d : Addr) (l c : Value) : Prop where
  keep : ∀ b o, h.get? b = some o → h'.get? b = some o
  new : h.objs.size ≤ e
  obj : ∃ oe vs, h'.get? e = some oe ∧ oe.cls = .ref C ∧ oe.dict = some d ∧ oe.data = .fields vs ∧ vs[1]? = some .none
  dbig : h.objs.size ≤ d
  dne : d ≠ e
  ns : h'.Ns1 d (two l c)
section
variable {prog : Program} {w : World} {A : Around} {E : Value → Shared → Prop} {R : Result → Shared → Prop} {s : Shared} {K : Frag} {mg : Str → Option Value} {C fI : Addr}
theorem bt_init (T : BtTxt K mg C fI) {x t0 : Addr} {l c : Value} (X : K.In s.heap) (hlim : s.heap.NoLimit) (hx : s.heap.get? x = some (plainExc C t0 none)) (hnx : K.lookup x = none) (hroom : A.depth < recursionLimit)
    (hq : ∀ h' tk dx, InitEnd s.heap h' x C dx t0 l c → R (.ok (.ret .none)) { s with heap := h', toks := tk }) :
    codeAny (model prog w) A (.call (.ref fI) ⟨[.ref x, l, c], []⟩) R s := by
  obtain ⟨oc, od, kV, doc, pm, an, cdv, ct, osl, p1, p2, p3, q1, q2, q3, q4, r1, r2, r3, r4, ho, hcd⟩ := T.fn
  obtain ⟨cd, hcl, hhd⟩ := T.cd
  refine Att.call_fn (binds := [("self", .ref x), ("line", l), ("column", c)]) X hlim ho hcd hroom (BindsTo.of_eq (by first | rfl | with_unfolding_all rfl)) (by first | rfl | decide | with_unfolding_all rfl) (fun s₁ IC => ?_) rfl rfl rfl
  obtain ⟨h₁, tk₁, rfl⟩ := IC.toInCall.same
  have k : ∀ b o, s.heap.get? b = some o → h₁.get? b = some o := IC.toInCall.keep
  have hn := IC.toInCall.ns
  have hLx : s.heap.objs.size ≠ x := Nat.ne_of_gt (Heap.lt_size hx)
  have X₁ : K.In h₁ := X.keeps k
  have hx₁ := k _ _ hx
  have z : s.heap.objs.size < h₁.objs.size := hn.lt
  -- self.line = line
  show wpAny _ _ (execs _ _) _ _ _
  refine wpAny_execs_cons (plainObj_wpAny_Assign_Attribute ?_)
  refine ldC (v := l) hn (by first | rfl | with_unfolding_all rfl | kernel_rfl) (ldC (v := .ref x) hn (by first | rfl | with_unfolding_all rfl | kernel_rfl) ?_)
  refine set_plain X₁ (ox := plainExc C t0 none) (od := none) ⟨hx₁, rfl, rfl, trivial⟩ T.sa ?_
  refine fld_first X₁ hx₁ T.over hcl hhd T.noL (fun h₂ tk₂ dx k₂ dn dne hx₂ hn₂ => ?_)
  have X₂ : K.In h₂ := fun b o e => k₂ b o (fun q => by rw [q, hnx] at e; cases e) (X₁ b o e)
  have hnL := hn.at (h' := h₂) (fun o e => k₂ _ _ hLx e)
  obtain ⟨oD, hoD⟩ : ∃ o, h₂.get? dx = some o := by
    obtain ⟨o, _, _, e, _⟩ := hn₂
    exact ⟨o, e⟩
  -- self.column = column
  show wpAny _ _ (execs _ _) _ _ _
  refine wpAny_execs_cons (plainObj_wpAny_Assign_Attribute ?_)
  refine ldC (v := c) hnL (by first | rfl | with_unfolding_all rfl | kernel_rfl) (ldC (v := .ref x) hnL (by first | rfl | with_unfolding_all rfl | kernel_rfl) ?_)
  refine set_plain X₂ (ox := plainExc C t0 (some dx)) (od := some oD) ⟨hx₂, rfl, rfl, hoD⟩ T.sa ?_
  have wi : Within (fun y => if y = ("line" : Str) then some l else none) [("line" : Str)] := Within.cons _ _ Within.nil
  refine fld_more X₂ hx₂ hn₂ wi (by decide) T.over hcl hhd T.noC (fun h₃ tk₃ k₃ hn₃ => ?_)
  show wpAny _ _ (execs _ _) _ _ _
  refine wpAny_execs_nil (hq h₃ tk₃ dx ⟨fun b o hb e => k₃ b o (fun q => ?_) (k₂ b o hb (k b o e)), k₃ x _ dne.symm hx₂, Nat.le_of_lt (Nat.lt_of_lt_of_le z dn), dne, hn₃⟩)
  subst q
  exact absurd (Nat.lt_of_lt_of_le (Heap.lt_size (k _ _ e)) dn) (Nat.lt_irrefl _)
theorem bt_made (T : BtTxt K mg C fI) {l c : Value} (X : K.In s.heap) (hlim : s.heap.NoLimit) (hroom : A.depth + 1 < recursionLimit)
    (hq : ∀ h' tk e d, OwnMade s.heap h' e C d l c → R (.ok (.ret (.ref e))) { s with heap := h', toks := tk }) :
    codeAny (model prog w) A (.call (.ref C) ⟨[l, c], []⟩) R s := by
  obtain ⟨nm, N, q, bs, bm, hdct, sn, sub, ab, col, dd, k0, k1, k2, k3, k5, hC, hT⟩ := excInit_of X T.exI
  obtain ⟨hp, g, dr, tk, os⟩ := s
  have k : ∀ b o, hp.get? b = some o → ((hp.push (kdv_tup [l, c])).push (HandSPX.excO C hp.objs.size)).get? b = some o := fun b o e => Heap.get?_push_of_some _ (Heap.get?_push_of_some _ e)
  have hget : ((hp.push (kdv_tup [l, c])).push (HandSPX.excO C hp.objs.size)).get? (hp.objs.size + 1) = some (HandSPX.excO C hp.objs.size) := by heap_get
  have hnx : K.lookup (hp.objs.size + 1) = none := by
    cases e : K.lookup (hp.objs.size + 1) with
    | none => rfl
    | some o =>
      have z : hp.get? (hp.objs.size + 1) = some o := X _ _ e
      exact absurd (Nat.lt_of_succ_lt (Heap.lt_size z)) (Nat.lt_irrefl _)
  refine HandSPX.call_own PySem.F.excBase_Exception hT hC (looks_findIn X T.iC) (fun self => bind_fn X self T.tC) (one_size l c) ?_
  refine bt_init (s := ⟨(hp.push (kdv_tup [l, c])).push (HandSPX.excO C hp.objs.size), g, dr, tk, os⟩) T (X.keeps k) (hlim.keeps k) hget hnx ?_ fun h' tk' dx ⟨k', hx, dn, dne, hns⟩ => ?_
  · show A.depth + 1 < recursionLimit
    exact hroom
  · have old : ∀ b o, hp.get? b = some o → h'.get? b = some o := fun b o e => k' b o (Nat.ne_of_lt (Nat.lt_succ_of_lt (Heap.lt_size e))) (k b o e)
    have z : hp.objs.size + 1 + 1 ≤ dx := by
      first
        | (simpa only [Heap.size_push] using dn)
        | exact dn
        | (have q := dn; rw [Heap.size_push, Heap.size_push] at q; exact q)
    exact ⟨rfl, hq h' tk' (hp.objs.size + 1) dx ⟨old, Nat.le_succ _, ⟨_, _, hx, rfl, rfl, rfl, rfl⟩, Nat.le_trans (Nat.le_trans (Nat.le_succ _) (Nat.le_succ _)) z, dne, hns⟩⟩
end
end Bt
namespace L2
open PySem PySem.Spec PyProof.Rows
def btFs (v u : V) : List (Str × V) := [("column", u), ("line", v)]
theorem bt_line (v u : V) : (btFs v u).lookup ("line" : Str) = some v := by
  have q : (("line" : Str) == ("column" : Str)) = false := by decide +kernel
  unfold btFs
  simp only [List.lookup, q, beq_self_eq_true]
theorem bt_col (v u : V) : (btFs v u).lookup ("column" : Str) = some u := by
  unfold btFs
  simp only [List.lookup, beq_self_eq_true]
theorem bt_rel {v u : V} {v' u' : Value} (r1 : RelV v v') (r2 : RelV u u') (f : Str) : RelO ((btFs v u).lookup f) (Bt.two v' u' f) := by
  unfold Bt.two btFs
  by_cases hc : f = "column"
  · subst hc
    rw [if_pos rfl]
    have q : List.lookup ("column" : Str) [(("column" : Str), u), (("line" : Str), v)] = some u := by simp [List.lookup]
    rw [q]
    exact r2
  · rw [if_neg hc]
    have qc : (f == ("column" : Str)) = false := by simpa using hc
    by_cases hl : f = "line"
    · subst hl
      rw [if_pos rfl]
      have q : List.lookup ("line" : Str) [(("column" : Str), u), (("line" : Str), v)] = some v := by
        simp only [List.lookup, qc]
        simp
      rw [q]
      exact r1
    · rw [if_neg hl]
      have ql : (f == ("line" : Str)) = false := by simpa using hl
      have q : List.lookup f [(("column" : Str), u), (("line" : Str), v)] = none := by
        simp only [List.lookup, qc, ql]
      rw [q]
      trivial
section
variable {X : Cx} {C fI : Addr}
/-- BadText(e, e') -/
def tMkBt (C : Addr) (ta : TA) : St → Hp → XK → Prop := fun σ H Q => ta σ H fun vs H1 => ∃ v u, vs = [v, u] ∧ ∀ d, H1 d = none → Q (.ref C) (some d) (upd H1 d (.xd (btFs v u)))
theorem pmk_bt {a b : Expr} {ta : TA} {p pos : Pos} {k : Nat} (T : Bt.BtTxt X.K X.mg C fI) (hr : Room k X.A) (ha : PA X [a, b] ta) (hg : Gl X "BadText" := by rfl)
    (he : starEach (a :: [b]) X.env = (false, eval a X.env) :: starEach [b] X.env := by rfl) (hpl : (backTo pos (starEach [b] X.env)).any (·.1) = false := by rfl) :
    PMk X (.Call (.Name "BadText" p) [a, b] [] pos) (tMkBt C ta) := by
  intro pins s σ H Q I h
  refine wpAny_Call_Name_kw (ld_glob I hg T.gC ?_)
  refine PySem.W.callWith_K (h₀ := X.base) I.ok.mod.kin T.kC (thn (ha.run pos pins s σ H _ I h) fun us s1 hh => ?_) he hpl
  obtain ⟨vs, H1, I1, r1, v, u, ev, q1⟩ := hh
  subst ev
  refine ⟨I1.kIn, ?_⟩
  obtain ⟨v', u', rfl, rv, ru⟩ := Vals.two r1
  show wpAny _ _ (call (.ref C) [v', u']) _ _ _
  have hlim := I1.nolimit
  obtain ⟨hp, g, dr, tk, os⟩ := s1
  refine wpAny_call (Bt.bt_made T I1.kIn hlim (by have := hr.dp; omega) fun h' tk' e d M => ?_)
  show MkP X pins σ Q (.ref e) ⟨h', g, dr, tk', os⟩
  obtain ⟨oe, fv, hoe, hc, hd, hdat, h1⟩ := M.obj
  have hns := M.ns
  obtain ⟨G', g1, g2⟩ := restrict h' fun b => decide (b ≠ e)
  have gk : ∀ b, b ≠ e → G'.get? b = h'.get? b := fun b hb => g1 b (decide_eq_true hb)
  have ge : G'.get? e = none := g2 e (by simp)
  have old : ∀ b o, hp.get? b = some o → G'.get? b = some o := fun b o q => (gk b (Nat.ne_of_lt (Nat.lt_of_lt_of_le (Heap.lt_size q) M.new))).trans (M.keep b o q)
  have ob : ObjOk X.prog X.w (upd H1 d (.xd (btFs v u))) G' d (.xd (btFs v u)) :=
    ⟨_, hns.at (fun o q => (gk d M.dne).trans q), fun f => bt_rel rv ru f⟩
  have J : Inv X pins σ (upd H1 d (.xd (btFs v u))) ⟨G', g, dr, tk', os⟩ := I1.laid (t' := tk') old M.dbig ob
  refine ⟨e, oe, fv, ⟨G', g, dr, tk', os⟩, _, .ref C, some d, rfl, J, fun b o q => ?_, ge, hoe, ⟨hc, hd⟩, hdat, h1, ?_, rfl, I1.bare, raises_own T.exC T.tyC, q1 d (I1.hok.fresh M.dbig)⟩
  · by_cases hb : b = e
    · have q' : G'.get? b = some o := q
      rw [hb, ge] at q'; cases q'
    · exact (gk b hb).symm.trans q
  · rw [upd_ne (Ne.symm M.dne)]
    exact I1.hok.fresh M.new
/-- raise BadText(e, e') -/
def tRaiseBt (C : Addr) (W : WX) (ta : TA) : TS := fun _ σ H => tMkBt C ta σ H fun cls d H' => W cls d σ H'
theorem ps_raiseBt {a b : Expr} {ta : TA} {W : WX} {p pos pos2 : Pos} {k : Nat} (hc : X.calm = true) (T : Bt.BtTxt X.K X.mg C fI) (hr : Room k X.A) (tk : Takes X W) (ha : PA X [a, b] ta) (hg : Gl X "BadText" := by rfl)
    (he : starEach (a :: [b]) X.env = (false, eval a X.env) :: starEach [b] X.env := by rfl) (hpl : (backTo pos (starEach [b] X.env)).any (·.1) = false := by rfl) :
    PS X (.Raise (some (.Call (.Name "BadText" p) [a, b] [] pos)) none pos2) (tRaiseBt C W ta) := ps_raise hc tk (pmk_bt T hr ha hg he hpl)
/-- error.line, error.column, error the exception that the suite holds (at a; its class cls, its dict d) -/
def tFldBt (C : Addr) (f : Str) (a : Addr) (cls : Value) (d : Option Addr) (te : TE) : TE := fun σ H Q => te σ H fun x H1 => x = .ref a ∧ cls = .ref C ∧ ∃ (dd : Addr) (fs : List (Str × V)) (v : V), d = some dd ∧ H1 dd = some (.xd fs) ∧ fs.lookup f = some v ∧ Q v H1
theorem pe_fldBt {f : Str} {a : Addr} {oe : Obj} {cls : Value} {d : Option Addr} {pn : List (Addr × Obj)} {e : Expr} {te : TE} {pos : Pos} (T : Bt.BtTxt X.K X.mg C fI) (hn : PySem.W.findIn X.K (.ref C) f = some none) (hz : Zc cls d oe) (hf : ∃ vs, oe.data = .fields vs) (he : PE (X.suite a ((a, oe) :: pn)) e te)
    (hb : attributeBase e f X.env (eval e X.env) = eval e X.env := by rfl) :
    PE (X.suite a ((a, oe) :: pn)) (.Attribute e f pos) (tFldBt C f a cls d te) := by
  refine ⟨fun pins s σ H Q I h => ?_⟩
  refine attr_of hb (thn (he.run pins s σ H _ I h) fun u s1 hh => ?_)
  obtain ⟨x, H1, I1, rx, ex, ec, dd, fs, v, ed, ea, l, q⟩ := hh
  subst ex
  obtain rfl : u = Value.ref a := rx
  subst ec
  subst ed
  obtain ⟨ha, _⟩ := I1.pin (a, oe) (List.mem_append_left _ List.mem_cons_self)
  obtain ⟨vs, hd⟩ := hf
  have hx : ObjOk X.prog X.w H1 s1.heap dd (.xd fs) := I1.hok dd _ ea
  obtain ⟨mA, hns, hr⟩ := hx
  obtain ⟨od, ho, hl⟩ := lookIn_ns hns
  obtain ⟨u, hu, ru⟩ := RelO.some_of (v := v) (o := mA f) (by rw [← l]; exact hr f)
  have J : PySem.W.InstAt s1.heap a oe C (some od) := ⟨ha, hz.1, by unfold PySem.W.notCls; rw [hd] <;> rfl, by rw [hz.2]; exact ho⟩
  exact HandSPX.exc_get I1.kIn J T.ga T.gg T.exC (PySem.W.findObj_own T.hdC hn rfl (by rw [hl, hu])) (handed_of ru) ⟨v, H1, I1.tok _, ru, q⟩
end
end L2

namespace L2
open PySem PySem.Spec PyProof.Rows
section
variable {X : Cx} {x n : Str} {c : Value} {i : Nat} {body suite orelse : List Stmt} {b₀ : Stmt} {np pos pos' : Pos} {tb : WX → TS} {ts : Addr → Value → Option Addr → TS} {u : TS}
theorem Inv.thin {pins : List (Addr × Obj)} {σ σ' : St} {H : Hp} {s : Shared} (I : Inv X pins σ H s) (hl : σ'.length = X.N.length) (h : ∀ (j : Nat) (v : V), σ'[j]? = some (some v) → σ[j]? = some (some v)) : Inv X pins σ' H s := by
  obtain ⟨m, hn, hlk⟩ := I.loc
  exact { I with loc := ⟨m, hn, fun j x v e1 e2 e3 => hlk j x v e1 (h j v e2) e3⟩, len := hl }
theorem only_set {n i : Nat} {σ : St} {w : V} (hi : i < σ.length) : ∀ (j : Nat) (v : V), ((List.replicate n (none : Option V)).set i (some w))[j]? = some (some v) → (σ.set i (some w))[j]? = some (some v) := by
  intro j v e
  rw [List.getElem?_set] at e ⊢
  by_cases c : i = j
  · subst c
    rw [if_pos rfl] at e ⊢
    rw [if_pos hi]
    split at e
    · exact e
    · cases e
  · rw [if_neg c] at e
    rw [List.getElem?_replicate] at e
    split at e
    · cases e
    · cases e
/-- what the clause wishes of what the body lets out: it is the clause's own, and the suite returns -/
def wGot (K : PySem.W.Frag) (n : Nat) (c : Value) (i : Nat) (ts : Addr → Value → Option Addr → TS) (D : Ends) : WX := fun cls d _ H =>
  PySem.W.exmOne K cls c = some true ∧ ∀ a, H a = none → ts a cls d { nx := fun _ _ => False, rt := D.rt } ((List.replicate n none).set i (some (.ref a))) H
/-- try: body / except x as n: a suite that returns / else: orelse -/
theorem ps_try_got (ho : PSs X orelse u) (stk : X.stack = X.env :: X.outer) (frm : X.env.frame = some X.env.locals) (nd : X.N.Nodup) (at_ : X.N[i]? = some n) (lo : X.env.kindOf n = some .local) (nm : Names X x c)
    (hb : ∀ (W : WX) (pn : List (Addr × Obj)) (xe : Value → Shared → Prop), Takes (X.tr pn xe) W → PassesOwn (model X.prog X.w) X.A X.env xe → PSs (X.tr pn xe) body (tb W))
    (hsu : ∀ (a : Addr) (oe : Obj) (cls : Value) (d : Option Addr) (pn : List (Addr × Obj)), Zc cls d oe → (∃ vs, oe.data = .fields vs) → PSs (X.suite a ((a, oe) :: pn)) (b₀ :: suite) (ts a cls d)) :
    PS X (.Try body [.ExceptHandler (some (.Name x np)) (some n) (b₀ :: suite) pos'] orelse [] pos) (fun D σ H => tb (wGot X.K X.N.length c i ts D) { D with nx := u D } σ H) := by
  refine ⟨fun ps s0 σ0 H0 D inv rd => wpAny_Try_except ?_⟩
  have xok := inv.ok
  have afr : X.A.frames = some (X.env :: X.outer) := xok.frames.trans (congrArg some stk)
  have run := hb (wGot X.K X.N.length c i ts D) (X.pn ++ ps) (fun e s₁ => wpAny (model X.prog X.w) X.A (noteFrame e X.env) (fun _ s₂ => wpAny (model X.prog X.w) X.A (setFlight e none)
    (fun _ s₃ => wpAny (model X.prog X.w) X.A (handleBy e X.env [.ExceptHandler (some (.Name x np)) (some n) (b₀ :: suite) pos']) (SP X ps D) X.xe s₃) X.xe s₂) X.xe s₁) ?caught PassesOwn.looking
  case caught =>
    rintro ex t ⟨a, B, sI, ps', σ1, H1, cls, d, rfl, Jt, stays, upto, air, fresh, eos, gens, em, rds⟩
    have J1 : Inv X ps σ1 H1 sI := Jt.ofTry xok
    refine Sky.land Zc.steady afr frm (stk ▸ air) fun g1 f1 u1 => ?_
    have K1 : Inv X ps σ1 H1 { t with heap := g1 } := J1.landed stays f1.1 (upto.trans u1) eos gens
    obtain ⟨o1, w1, e1, z1, d1⟩ := f1.there
    have outOf : a ∉ frs (X.env :: X.outer) := by
      intro m
      obtain ⟨_, o', e', no⟩ := f1.2.2.1.mem m
      rw [e1] at e'
      cases e'
      exact no _ d1
    have aL : a ≠ X.env.locals := by
      intro z
      exact outOf (List.mem_filterMap.mpr ⟨X.env, List.mem_cons_self, by rw [frm, z]⟩)
    have aF : a ∉ X.fs := by
      intro m
      obtain ⟨e, he, q⟩ := List.mem_filterMap.mp m
      exact outOf (List.mem_filterMap.mpr ⟨e, List.mem_cons_of_mem _ he, q⟩)
    have C1 := K1.suite e1 d1 fresh aL aF
    refine wpAny_handleBy_cons (codeAny_handlers_test ?_) (fun q => by cases q)
    have ty : PySem.W.Looks (model X.prog X.w) g1 (typeOf (.ref a)) cls := by
      intro A Q E s k q
      exact wpAny_typeOf_ref (k _ _ e1) (by rw [z1.1]; exact q)
    have mt := PySem.W.exm_one (M := model X.prog X.w) K1.kIn ty em
    have nme : wpAny (model X.prog X.w) (X.A.mark (some (.ref a))) (eval (.Name x np) X.env) (fun v s' => v = c ∧ s' = { t with heap := g1 }) (fun _ _ => False) { t with heap := g1 } := by
      obtain ⟨gl, nd', hm | ⟨hm, hv, hn⟩⟩ := nm
      · exact ld_glob (X := X.suite a ((a, o1) :: (X.pn ++ ps))) C1 gl hm ⟨rfl, rfl⟩ nd'
      · exact ld_blt (X := X.suite a ((a, o1) :: (X.pn ++ ps))) C1 gl hm hv ⟨rfl, rfl⟩ hn nd'
    refine wpAny_mono nme ?_ (fun _ _ z => z.elim)
    rintro v s' ⟨rfl, rfl⟩
    refine mt.here ?_
    refine codeAny_handlers_suite_as (HandSPX.lands_againZ f1 fun g2 f2 u2 => ?_)
    have K2 : Inv X ps σ1 H1 { t with heap := g2 } := J1.landed stays f2.1 ((upto.trans u1).trans u2) eos gens
    obtain ⟨o2, w2, e2, z2, d2⟩ := f2.there
    refine store_ok (X := X.suite a ((a, o2) :: (X.pn ++ ps))) (v := .ref a) (K2.suite e2 d2 fresh aL aF) nd at_ (.inl lo) rfl (fun s3 C3 => ?_) (.inr lo)
    have hiN : i < σ1.length := by
      rw [K1.len]
      exact (List.getElem?_eq_some_iff.mp at_).1
    refine wpAny_mono ((hsu a o2 cls d (X.pn ++ ps) z2 ⟨_, d2⟩).run [] s3 _ H1 _ (C3.thin (by rw [List.length_set, List.length_replicate]) (only_set hiN)) (rds a fresh)) (fun fl s4 sp => ?_) (fun _ _ z => z.elim)
    cases fl with
    | ret v4 =>
      obtain ⟨y, σ4, H4, C4, ry, q4⟩ := sp
      exact gone_ok (C4.unsuite xok) nd at_ lo fun s5 K5 => ⟨y, _, H4, K5, ry, q4⟩
    | next =>
      obtain ⟨_, _, _, q⟩ := sp
      exact q.elim
    | brk =>
      obtain ⟨_, _, _, q⟩ := sp
      exact q.elim
    | cont =>
      obtain ⟨_, _, _, q⟩ := sp
      exact q.elim
  refine wpAny_mono (run.run [] s0 σ0 H0 { D with nx := u D } (inv.toTry _) rd) (fun fl s1 sp => ?_) (fun _ _ z => z)
  cases fl with
  | next =>
    obtain ⟨σ1, H1, J1, q1⟩ := sp
    exact ho.run ps s1 σ1 H1 D (J1.ofTry xok) q1
  | ret v =>
    obtain ⟨y, σ1, H1, J1, ry, q1⟩ := sp
    exact ⟨y, σ1, H1, J1.ofTry xok, ry, q1⟩
  | brk =>
    obtain ⟨σ1, H1, J1, q1⟩ := sp
    exact ⟨σ1, H1, J1.ofTry xok, q1⟩
  | cont =>
    obtain ⟨σ1, H1, J1, q1⟩ := sp
    exact ⟨σ1, H1, J1.ofTry xok, q1⟩
end
end L2

/-! The reader as plain functions of the rest of the pieces. A piece: its sort's number, its line, its column. -/
namespace Mir
abbrev Pc := Nat × Nat × Nat
inductive Rs (α : Type) where
  | ok (a : α)
  | bad (l k : Nat)
  | out
def Rs.bind {α β : Type} : Rs α → (α → Rs β) → Rs β
  | .ok a, f => f a
  | .bad l k, _ => .bad l k
  | .out, _ => .out
instance : Monad Rs where
  pure := .ok
  bind := Rs.bind
def Post {α : Type} (m : Rs α) (good : α → Prop) (ill : Nat → Nat → Prop) : Prop := match m with
  | .ok a => good a
  | .bad l k => ill l k
  | .out => False
theorem post_bind {α β : Type} {m : Rs α} {f : α → Rs β} {good : β → Prop} {ill : Nat → Nat → Prop} (h : Post (m >>= f) good ill) : Post m (fun a => Post (f a) good ill) ill := by
  cases m with
  | ok a => exact h
  | bad l k => exact h
  | out => exact h
theorem post_mono {α : Type} {m : Rs α} {g g' : α → Prop} {i i' : Nat → Nat → Prop} (h : Post m g i) (hg : ∀ a, g a → g' a) (hi : ∀ l k, i l k → i' l k) : Post m g' i' := by
  cases m with
  | ok a => exact hg a h
  | bad l k => exact hi l k h
  | out => exact h
/-- the next piece's sort (0 at the end) -/
def hd (r : List Pc) : Nat := match r with
  | (c, _, _) :: _ => c
  | [] => 0
/-- the next piece is wrong -/
def ill {α : Type} (r : List Pc) : Rs α := match r with
  | (_, l, k) :: _ => .bad l k
  | [] => .out
def want (s : Nat) (r : List Pc) : Rs (List Pc) := if hd r = s then .ok r.tail else ill r
/-- sorts by numbers -/
def sorts : List String := ["end", "name", "number", "wrong", "module", "use", "struct", "int", "uint", "void", "if", "else", "while", "do", "for", "break", "continue", "switch", "case", "default", "return", "out", "assert", "in", "more", "length", "mod",
  "<<", ">>", "<=", ">=", "==", "!=", "&&", "||", "+", "-", "*", "/", "&", "|", "^", "~", "!", "<", ">", "=", "?", ":", ";", ",", ".", "(", ")", "[", "]", "{", "}"]
def strn (c : Nat) : Nat := match c with
  | 34 => 1 | 33 => 2 | 40 => 3 | 41 => 4 | 39 => 5 | 31 => 6 | 32 => 6 | 44 => 7 | 29 => 7 | 45 => 7 | 30 => 7 | 27 => 8 | 28 => 8 | 35 => 9 | 36 => 9 | 37 => 10 | 38 => 10 | 26 => 10
  | _ => 0
/-! ### expressions. What is held: 0 one sign, 1 two, 2 a call, 3 a bracket, 4 an index, 5 a choice's middle, 6 its last part; with the strength -/
structure Es where
  r : List Pc
  n : Nat
  d : Int
  h : List (Nat × Nat)
  b : Bool
def counted (s : Es) : Rs Es := if 120 ≤ s.n then ill s.r else .ok { s with r := s.r.tail, n := s.n + 1 }
def take1 (s : Es) : Es := { s with r := s.r.tail, n := s.n + 1 }
def wantE (c : Nat) (s : Es) : Rs Es := if hd s.r = c then .ok (take1 s) else ill s.r
def within (t : Nat) (s : Es) : Rs Es := if 30 < s.d + 1 then ill s.r else .ok { s with d := s.d + 1, h := (t, 0) :: s.h }
/-- one piece that begins: whole or not -/
def begin1 (s : Es) : Rs (Bool × Es) := match hd s.r with
  | 2 => do let s ← counted s; pure (true, { s with b := false })
  | 1 => do
    let s ← counted s
    if hd s.r = 52 then
      let s := take1 s
      if hd s.r = 53 then pure (true, { take1 s with b := true })
      else do let s ← within 2 s; pure (false, s)
    else pure (true, { s with b := false })
  | 52 => do let s ← counted s; let s ← within 3 s; pure (false, s)
  | _ => do let s ← counted s; let s ← wantE 52 s; let s ← wantE 53 s; pure (true, { s with b := false })
def isAhead (c : Nat) : Bool := c == 43 || c == 42 || c == 36
def isBegin (c : Nat) : Bool := c == 2 || c == 1 || c == 23 || c == 24 || c == 52
def operand : Nat → Es → Rs Es
  | 0, _ => .out
  | f + 1, s =>
    if isAhead (hd s.r) then operand f { take1 s with h := (0, 11) :: s.h }
    else if isBegin (hd s.r) then do
      let (w, s) ← begin1 s
      if w then pure s else operand f s
    else ill s.r
def settle (k : Nat) : List (Nat × Nat) → Bool → List (Nat × Nat) × Bool
  | [], b => ([], b)
  | (t, m) :: h, b => if k ≤ m then settle k h false else ((t, m) :: h, b)
def set1 (k : Nat) (s : Es) : Es := { s with h := (settle k s.h s.b).1, b := (settle k s.h s.b).2 }
def thirds : List (Nat × Nat) → Int → Bool → List (Nat × Nat) × Int × Bool
  | [], d, b => ([], d, b)
  | (t, m) :: h, d, b => if t = 6 then thirds h (d - 1) false else ((t, m) :: h, d, b)
def setAll (s : Es) : Es := let s1 := set1 1 s; let (h, d, b) := thirds s1.h s1.d s1.b; { s1 with h := h, d := d, b := b }
def closing (t : Nat) : Nat := match t with
  | 5 => 48 | 2 => 53 | 3 => 53 | _ => 55
def field (s : Es) : Rs Es := do
  let s ← counted s
  if hd s.r = 25 then pure { take1 s with b := false }
  else do let s ← wantE 1 s; pure { s with b := false }
def close (s : Es) : Rs (Bool × Es) := match s.h with
  | [] => .out
  | (t, m) :: h =>
    if t < 2 ∨ 5 < t then .out
    else if t = 5 ∧ hd s.r = 48 then pure (true, { take1 s with h := (6, 0) :: h })
    else if t = 2 ∧ hd s.r = 50 then pure (true, { take1 s with h := (2, 0) :: h })
    else do
      let s ← wantE (closing t) s
      pure (false, { s with d := s.d - 1, h := h, b := if t = 3 then s.b else t == 2 })
def behind : Nat → Es → Rs (Bool × Es)
  | 0, _ => .out
  | f + 1, s =>
    if hd s.r = 51 then do let s ← field s; behind f s
    else if hd s.r = 54 then do let s ← counted s; let s ← within 4 s; pure (true, s)
    else if strn (hd s.r) ≠ 0 then let q := set1 (strn (hd s.r)) s; pure (true, { take1 q with h := (1, strn (hd s.r)) :: q.h })
    else if hd s.r = 47 then do let s ← within 5 (take1 (set1 1 s)); pure (true, s)
    else
      let s := setAll s
      if s.h.isEmpty then pure (false, s)
      else do
        let (g, s) ← close s
        if g then pure (true, s) else behind f s
def turns : Nat → Es → Rs (Bool × List Pc)
  | 0, _ => .out
  | f + 1, s => do
    let s ← operand f s
    let (g, s) ← behind f s
    if g then turns f s else pure (s.b, s.r)
def expr (f : Nat) (d : Nat) (r : List Pc) : Rs (Bool × List Pc) := if 30 < d then ill r else turns f ⟨r, 0, (d : Int), [], false⟩
/-! ### statements -/
def isKind (c : Nat) : Bool := c == 7 || c == 8 || c == 6
def kind (r : List Pc) : Rs (List Pc) := if hd r = 6 then want 1 r.tail else pure r.tail
def many (r : List Pc) : Rs (List Pc) := if hd r = 54 then do let r ← want 2 r.tail; want 55 r else pure r
def more (f d : Nat) : Nat → List Pc → Rs (List Pc)
  | 0, _ => .out
  | g + 1, r => if hd r = 50 then do let (_, r) ← expr f d r.tail; more f d g r else pure r
def firsts (f d : Nat) (r : List Pc) : Rs (List Pc) :=
  if hd r = 46 then
    if hd r.tail = 56 then
      if hd r.tail.tail = 57 then want 57 r.tail.tail
      else do let (_, r) ← expr f d r.tail.tail; let r ← more f d f r; want 57 r
    else do let (_, r) ← expr f d r.tail; pure r
  else pure r
def decl (f d : Nat) (r : List Pc) : Rs (List Pc) := do
  let r ← kind r
  let r ← want 1 r
  let r ← many r
  firsts f (d + 1) r
def plain (f d : Nat) (r : List Pc) : Rs (List Pc) := do
  let (b, r) ← expr f (d + 1) r
  if hd r = 46 then do let (_, r) ← expr f (d + 1) r.tail; pure r
  else if b then pure r else ill r
def test (f d : Nat) (r : List Pc) : Rs (List Pc) := do
  let r ← want 52 r
  let (_, r) ← expr f (d + 1) r
  want 53 r
def isStmt (c : Nat) : Bool := c == 56 || c == 10 || c == 12 || c == 13 || c == 14 || c == 17 || c == 15 || c == 16 || c == 20 || c == 21 || c == 22
mutual
def stmts (f : Nat) (d : Nat) (r : List Pc) : Rs (List Pc) := match f with
  | 0 => .out
  | f + 1 => if hd r = 57 then pure r else do let r ← stmt f d false r; stmts f d r
def stmt (f : Nat) (d : Nat) (alone : Bool) (r : List Pc) : Rs (List Pc) := match f with
  | 0 => .out
  | f + 1 =>
    if 30 < d then ill r
    else if isStmt (hd r) then known f d r
    else if isKind (hd r) && alone then ill r
    else if isKind (hd r) then do let r ← decl f d r; want 49 r
    else do let r ← plain f d r; want 49 r
/-- the sorts that are not read here are .out: nothing is told of them -/
def known (f : Nat) (d : Nat) (r : List Pc) : Rs (List Pc) := match f with
  | 0 => .out
  | f + 1 =>
    if hd r = 56 then do let r ← stmts f (d + 1) r.tail; want 57 r
    else if hd r = 10 then do
      let r ← test f d r.tail
      let r ← stmt f (d + 1) true r
      if hd r = 11 then stmt f (d + 1) true r.tail else pure r
    else if hd r = 20 then (if hd r.tail = 49 then want 49 r.tail else do let (_, r) ← expr f (d + 1) r.tail; want 49 r)
    else if hd r = 21 then do let r ← test f d r.tail; want 49 r
    else .out
end
/-! ### items: what is not read here is .out -/
def function (f : Nat) (r : List Pc) : Rs (List Pc) := do
  let r ← want 52 r
  if hd r ≠ 53 then .out
  else do
    let r ← want 53 r
    let r ← want 56 r
    let r ← stmts f 1 r
    want 57 r
def item (f : Nat) (r : List Pc) : Rs (List Pc) :=
  if hd r = 7 then do
    let r ← kind r
    let r ← want 1 r
    if hd r = 52 then function f r else .out
  else .out
def items (f : Nat) : Nat → List Pc → Rs (List Pc)
  | 0, _ => .out
  | g + 1, r => if hd r ≠ 0 then do let r ← item f r; items f g r else pure r
def modul (f : Nat) (r : List Pc) : Rs (List Pc) := do
  let r ← want 4 r
  let r ← want 1 r
  let r ← want 49 r
  if hd r = 5 then .out else items f f r
/-- sorts of pieces: the last one alone is the end -/
def Wf : List Pc → Prop
  | [] => False
  | [t] => t.1 = 0
  | t :: u :: r => (t.1 ≠ 0 ∧ t.1 < 58) ∧ Wf (u :: r)
theorem Wf.tl {r : List Pc} (h : Wf r) (z : hd r ≠ 0) : Wf r.tail := by
  match r, h with
  | [(c, l, k)], h => exact absurd h z
  | t :: u :: r, h => exact h.2
theorem Wf.cons {r : List Pc} (h : Wf r) : ∃ c l k t, r = (c, l, k) :: t ∧ c < 58 := by
  match r, h with
  | [(c, l, k)], h => exact ⟨c, l, k, [], rfl, by have : c = 0 := h; omega⟩
  | (c, l, k) :: u :: r, h => exact ⟨c, l, k, u :: r, rfl, h.1.2⟩
end Mir

namespace My
open PySem PySem.Spec PyProof.Rows L2
/-! ### more of promises: classes, methods, defs that may raise -/
structure Cl (K : PySem.W.Frag) (mg : Str → Option Value) (x : Str) (C : Addr) : Prop where
  g : mg x = some (.ref C)
  c : Cls K C
structure Dm (K : PySem.W.Frag) (C : Addr) (m qual : Str) (st : Stmt) : Prop where
  ex : ∃ (f : Addr) (fd : FuncData), Meth K C m f ∧ FunD K m qual (defArgs st) (defBody st) (defScope st) [] [] f fd
structure Gm (P : Program) (w : World) (K : PySem.W.Frag) (mg : Str → Option Value) (base : Heap) (CX : CXT) (k : Nat) (C : Addr) (m : Str) (ps : List Str) (sp : Sp) : Prop where
  ex : ∃ (f : Addr) (fd : FuncData), Meth K C m f ∧ FnOk P w K mg base CX k f fd ps sp ∧ Binds K fd ps []
section
variable {P : Program} {w : World} {K : PySem.W.Frag} {mg : Str → Option Value} {base : Heap}
theorem Gm.mono {CX : CXT} {j k : Nat} {C : Addr} {m : Str} {ps : List Str} {sp : Sp} (h : Gm P w K mg base CX j C m ps sp) (hk : j ≤ k) : Gm P w K mg base CX k C m ps sp := by
  obtain ⟨f, fd, a, b, c⟩ := h.ex
  exact ⟨f, fd, a, b.mono hk, c⟩
theorem Df.okX {x : Str} {st : Stmt} {N ps : List Str} {k : Nat} {sp : Sp} (D : Df K mg x st) (S : FnScope N ps (defScope st)) (len : ∀ vs H Q E, sp vs H Q E → vs.length = ps.length)
    (hb : ∀ (kV doc pm : Value) (an : Option Addr) (cdv ct : Value) (us : List Value), us.length = ps.length → bindArgs (PySem.W.fnOf x x (defArgs st) (defBody st) (defScope st) .none kV doc pm an cdv ct) ⟨us, []⟩ = pure (ps.zip us))
    (hbody : ∀ (f : Addr) (cdv : Value) (A : Around) (outer : List Env) (s : Shared) (H : Hp) (vs : List V) (Q : VK) (E : XK), Room k (A.deeper (envOfC x (defScope st) s.heap.objs.size f cdv)) → sp vs H Q E →
      ∃ t, PSs (cxOf (L2.CX P w) P w K mg base N x (defScope st) f cdv A outer s H E) (defBody st) t ∧ t { nx := fun _ H' => Q .non H', rt := Q } (start N vs) H) : Gd P w K mg base (L2.CX P w) (k + 1) x ps sp := by
  obtain ⟨f, fd, hm, F⟩ := D.ex
  have lk : ∃ oc od osl, K.lookup f = some ⟨oc, od, .func fd, osl⟩ := by
    obtain ⟨oc, od, dV, kV, doc, pm, an, cdv, ct, osl, e, l, _⟩ := F.ex
    exact ⟨oc, od, osl, l⟩
  exact ⟨f, fd, hm, F.ok S len fun cdv A outer s H vs Q E hr h => hbody f cdv A outer s H vs Q E hr h, F.bindsN hb, F.kp, lk⟩
theorem Dm.ok {C : Addr} {m qual : Str} {st : Stmt} {N ps : List Str} {k : Nat} {sp : Sp} (D : Dm K C m qual st) (S : FnScope N ps (defScope st)) (len : ∀ vs H Q E, sp vs H Q E → vs.length = ps.length)
    (hb : ∀ (kV doc pm : Value) (an : Option Addr) (cdv ct : Value) (us : List Value), us.length = ps.length → bindArgs (PySem.W.fnOf m qual (defArgs st) (defBody st) (defScope st) .none kV doc pm an cdv ct) ⟨us, []⟩ = pure (ps.zip us))
    (hbody : ∀ (f : Addr) (cdv : Value) (A : Around) (outer : List Env) (s : Shared) (H : Hp) (vs : List V) (Q : VK) (E : XK), Room k (A.deeper (envOfC qual (defScope st) s.heap.objs.size f cdv)) → sp vs H Q E →
      ∃ t, PSs (cxOf CX0 P w K mg base N qual (defScope st) f cdv A outer s H E).nox (defBody st) t ∧ t { nx := fun _ H' => Q .non H', rt := Q } (start N vs) H) : Gm P w K mg base CX0 (k + 1) C m ps sp := by
  obtain ⟨f, fd, hm, F⟩ := D.ex
  refine ⟨f, fd, hm, F.ok S len fun cdv A outer s H vs Q E hr h => ?_, F.bindsN hb⟩
  obtain ⟨t, h1, h2⟩ := hbody f cdv A outer s H vs Q E hr h
  exact ⟨t, h1.nox, h2⟩
theorem Dm.okX {C : Addr} {m qual : Str} {st : Stmt} {N ps : List Str} {k : Nat} {sp : Sp} (D : Dm K C m qual st) (S : FnScope N ps (defScope st)) (len : ∀ vs H Q E, sp vs H Q E → vs.length = ps.length)
    (hb : ∀ (kV doc pm : Value) (an : Option Addr) (cdv ct : Value) (us : List Value), us.length = ps.length → bindArgs (PySem.W.fnOf m qual (defArgs st) (defBody st) (defScope st) .none kV doc pm an cdv ct) ⟨us, []⟩ = pure (ps.zip us))
    (hbody : ∀ (f : Addr) (cdv : Value) (A : Around) (outer : List Env) (s : Shared) (H : Hp) (vs : List V) (Q : VK) (E : XK), Room k (A.deeper (envOfC qual (defScope st) s.heap.objs.size f cdv)) → sp vs H Q E →
      ∃ t, PSs (cxOf (L2.CX P w) P w K mg base N qual (defScope st) f cdv A outer s H E) (defBody st) t ∧ t { nx := fun _ H' => Q .non H', rt := Q } (start N vs) H) : Gm P w K mg base (L2.CX P w) (k + 1) C m ps sp := by
  obtain ⟨f, fd, hm, F⟩ := D.ex
  exact ⟨f, fd, hm, F.ok S len fun cdv A outer s H vs Q E hr h => hbody f cdv A outer s H vs Q E hr h, F.bindsN hb⟩
end
section
variable {X : Cx} {CX : CXT} {k : Nat} {x m : Str} {ps : List Str} {sp : Sp} {E : XK} {e o : Expr} {es : List Expr} {t : TA} {ta : TE} {p pos apos : Pos} {C : Addr}
/-- o.m(..) -/
def tMethG (C : Addr) (m : Str) (sp : Sp) (E : XK) (ta : TE) (t : TA) : TE := fun σ H Q => ta σ H fun x H1 => ∃ a dx fs, x = .ref a ∧ H1 a = some (.ins C dx fs) ∧ fs.lookup m = none ∧ t σ H1 fun vs H2 => sp (x :: vs) H2 Q E
theorem pe_gm {pl : Sem Bool} (he : PE X o ta) (c : Cls X.K C) (G : Gm X.prog X.w X.K X.mg X.base CX k C m ps sp) (hr : Room k X.A) (hx : Passes CX X E) (ha : PA X (e :: es) t)
    (hst : starEach (e :: es) X.env = (false, eval e X.env) :: starEach es X.env := by rfl) (hpl : (backTo pos (starEach es X.env)).any (·.1) = false := by rfl)
    (ht : eval (.Call (.Attribute o m apos) (e :: es) [] pos) X.env = (do
      let ov ← eval o X.env
      standAt apos.atName
      let (f, first) ← holding [ov] (getMethod ov m pl)
      callWith pos f first (backTo pos (starEach (e :: es) X.env)) (backToKw pos (keywordEach [] X.env))) := by rfl) :
    PE X (.Call (.Attribute o m apos) (e :: es) [] pos) (tMethG C m sp E ta t) := by
  obtain ⟨f, fd, hm, F, hb⟩ := G.ex
  have z := pe_meth he c hm F hr hb .nil hx ha hst hpl ht
  refine ⟨fun pins s σ H Q I hw => z.run pins s σ H Q I ?_⟩
  have e0 : (fun (x : V) (H1 : Hp) => ∃ a dx fs, x = .ref a ∧ H1 a = some (.ins C dx fs) ∧ fs.lookup m = none ∧ t σ H1 fun vs H2 => sp (x :: (vs ++ [])) H2 Q E) = fun x H1 => ∃ a dx fs, x = .ref a ∧ H1 a = some (.ins C dx fs) ∧ fs.lookup m = none ∧ t σ H1 fun vs H2 => sp (x :: vs) H2 Q E := by
    funext x H1
    simp only [List.append_nil]
  show ta σ H (fun (x : V) (H1 : Hp) => ∃ a dx fs, x = .ref a ∧ H1 a = some (.ins C dx fs) ∧ fs.lookup m = none ∧ t σ H1 fun vs H2 => sp (x :: (vs ++ [])) H2 Q E)
  rw [e0]
  exact hw
theorem pe_gm0 {pl : Sem Bool} (he : PE X o ta) (c : Cls X.K C) (G : Gm X.prog X.w X.K X.mg X.base CX k C m ps sp) (hr : Room k X.A) (hx : Passes CX X E)
    (ht : eval (.Call (.Attribute o m apos) [] [] pos) X.env = (do
      let ov ← eval o X.env
      standAt apos.atName
      let (f, first) ← holding [ov] (getMethod ov m pl)
      callWith pos f first (backTo pos (starEach [] X.env)) (backToKw pos (keywordEach [] X.env))) := by rfl) :
    PE X (.Call (.Attribute o m apos) [] [] pos) (tMethG C m sp E ta tNil) := by
  obtain ⟨f, fd, hm, F, hb⟩ := G.ex
  have z := pe_meth0 he c hm F hr hb .nil hx ht
  exact ⟨fun pins s σ H Q I hw => z.run pins s σ H Q I hw⟩
end
end My
namespace My
open PySem PySem.Spec PyProof.Rows L2
def sp5 (p : V → V → V → V → V → Hp → VK → XK → Prop) : Sp := fun vs H Q E => ∃ a b c d e, vs = [a, b, c, d, e] ∧ p a b c d e H Q E
theorem len5 {p} (vs : List V) (H : Hp) (Q : VK) (E : XK) (h : sp5 p vs H Q E) : vs.length = 5 := by obtain ⟨a, b, c, d, e, rfl, _⟩ := h; rfl
end My
namespace Rd
open PySem PySem.Spec PyProof.Rows L2 My Mir
def srt (c : Nat) : Str := PySem.Str.ofString (sorts.getD c "")
theorem srt_ix : ∀ a, a < 58 → ∀ b, b < 58 → srt a = srt b → a = b := by decide +kernel
theorem srt_dec {a b : Nat} (ha : a < 58) (hb : b < 58) : decide (V.str (srt a) = V.str (srt b)) = decide (a = b) := by
  by_cases h : a = b
  · subst h; simp
  · rw [decide_eq_false h, decide_eq_false]
    intro z
    exact h (srt_ix a ha b hb (V.str.inj z))
/-- a piece at p -/
def TokAt (H : Hp) (p : Addr) (t : Pc) : Prop := ∃ (w : V) (q : Addr), H p = some (.tup [.str (srt t.1), w, .ref q]) ∧ H q = some (.tup [.int (t.2.1 : Int), .int (t.2.2 : Int)]) ∧
  (t.1 = 2 → ∃ (u : Addr) (z : Int) (kd : V), w = .ref u ∧ H u = some (.tup [.int z, kd]))
def Tks (H : Hp) : List Addr → List Pc → Prop
  | [], [] => True
  | p :: ps, t :: ts => TokAt H p t ∧ Tks H ps ts
  | _, _ => False
/-- the cursor at c: its list at l, its place n, the rest r -/
def Cur (CC : Addr) (H : Hp) (c l : Addr) (n : Nat) (r : List Pc) : Prop :=
  (∃ dx, H c = some (.ins CC dx [("pieces", .ref l), ("at", .int (n : Int))])) ∧ ∃ ps : List Addr, H l = some (.lst (ps.map V.ref)) ∧ Tks H (ps.drop n) r ∧ n + r.length ≤ 4000000
/-- all but these stays -/
def ButL (as : List Addr) (H H' : Hp) : Prop := ∀ b o, H b = some o → ¬ b ∈ as → H' b = some o
theorem ButL.refl {as : List Addr} {H : Hp} : ButL as H H := fun _ _ e _ => e
theorem ButL.trans {as : List Addr} {H H1 H2 : Hp} (a : ButL as H H1) (b : ButL as H1 H2) : ButL as H H2 := fun x o e h => b x o (a x o e h) h
theorem ButL.more {as bs : List Addr} {H H1 : Hp} (a : ButL as H H1) (h : ∀ x, x ∈ as → x ∈ bs) : ButL bs H H1 := fun x o e n => a x o e fun m => n (h x m)
theorem ButL.same {as : List Addr} {H H1 : Hp} (a : Same H H1) : ButL as H H1 := fun x o e _ => a x o e
theorem ButL.put {as : List Addr} {H : Hp} {a : Addr} {o : HO} (h : a ∈ as) : ButL as H (upd H a o) := fun x u e n => by
  rw [upd_ne (fun z => n (by rw [z]; exact h))]; exact e
theorem ButL.new {as : List Addr} {H : Hp} {a : Addr} {o : HO} (h : H a = none) : ButL as H (upd H a o) := fun x u e _ => by
  rw [upd_ne (ne_of_none e h)]; exact e
/-- none of these is a tuple -/
def Mu (as : List Addr) (H : Hp) : Prop := ∀ a, a ∈ as → ∀ xs, H a ≠ some (.tup xs)
theorem ButL.tup {as : List Addr} {H H' : Hp} (h : ButL as H H') (m : Mu as H) {p : Addr} {xs : List V} (e : H p = some (.tup xs)) : H' p = some (.tup xs) := h p _ e fun z => m p z xs e
theorem TokAt.keep {as : List Addr} {H H' : Hp} (h : ButL as H H') (m : Mu as H) {p : Addr} {t : Pc} (x : TokAt H p t) : TokAt H' p t := by
  obtain ⟨w, q, a, b, c⟩ := x
  exact ⟨w, q, h.tup m a, h.tup m b, fun z => by
    obtain ⟨u, i, kd, e, f⟩ := c z
    exact ⟨u, i, kd, e, h.tup m f⟩⟩
theorem Tks.keep {as : List Addr} {H H' : Hp} (h : ButL as H H') (m : Mu as H) : ∀ {ps : List Addr} {ts : List Pc}, Tks H ps ts → Tks H' ps ts
  | [], [], _ => trivial
  | p :: ps, t :: ts, x => ⟨TokAt.keep h m x.1, Tks.keep h m x.2⟩
  | [], _ :: _, x => x.elim
  | _ :: _, [], x => x.elim
theorem mu1 {H : Hp} {c CC dx : Addr} {fs : List (Str × V)} (h : H c = some (.ins CC dx fs)) : Mu [c] H := by
  intro a ha xs e
  have z : a = c := by simpa using ha
  rw [z, h] at e
  cases e
/-- what is let out: BadText of this line and column; all but these stays -/
def Bad (CB : Addr) (as : List Addr) (H : Hp) (E : XK) (l k : Nat) : Prop := ∀ (d : Addr) (H' : Hp), ButL as H H' → H' d = some (.xd (btFs (.int (l : Int)) (.int (k : Int)))) → E (.ref CB) (some d) H'
theorem Bad.after {CB : Addr} {as : List Addr} {H H' : Hp} {E : XK} {l k : Nat} (h : Bad CB as H E l k) (b : ButL as H H') : Bad CB as H' E l k := fun d H2 b2 e => h d H2 (b.trans b2) e
theorem Bad.less {CB : Addr} {as bs : List Addr} {H : Hp} {E : XK} {l k : Nat} (h : Bad CB bs H E l k) (s : ∀ x, x ∈ as → x ∈ bs) : Bad CB as H E l k := fun d H2 b2 e => h d H2 (b2.more s) e
/-- a def that moves a cursor -/
def Runs (CC CB : Addr) {α : Type} (F : List Pc → Rs (α × List Pc)) (Rel : α → V → Hp → Prop) (c : Addr) (H : Hp) (Q : VK) (E : XK) : Prop := ∃ (l : Addr) (n : Nat) (r : List Pc), Cur CC H c l n r ∧ Wf r ∧
  Post (F r) (fun a => ∀ (v : V) (n' : Nat) (H' : Hp), ButL [c] H H' → Cur CC H' c l n' a.2 → Wf a.2 → n' + a.2.length = n + r.length → Rel a.1 v H' → Q v H') (Bad CB [c] H E)
def RunsU (CC CB : Addr) (F : List Pc → Rs (List Pc)) (c : Addr) (H : Hp) (Q : VK) (E : XK) : Prop := ∃ (l : Addr) (n : Nat) (r : List Pc), Cur CC H c l n r ∧ Wf r ∧
  Post (F r) (fun r' => ∀ (v : V) (n' : Nat) (H' : Hp), ButL [c] H H' → Cur CC H' c l n' r' → Wf r' → n' + r'.length = n + r.length → Q v H') (Bad CB [c] H E)
theorem Cur.keep {CC c l : Addr} {n : Nat} {r : List Pc} {as : List Addr} {H H' : Hp} (x : Cur CC H c l n r) (h : ButL as H H') (m : Mu as H) (hc : ¬ c ∈ as) (hl : ¬ l ∈ as) : Cur CC H' c l n r := by
  obtain ⟨⟨dx, a⟩, ps, b, t, z⟩ := x
  exact ⟨⟨dx, h _ _ a hc⟩, ps, h _ _ b hl, Tks.keep h m t, z⟩
/-- something new is laid -/
theorem Cur.laid {CC c l a : Addr} {n : Nat} {r : List Pc} {H : Hp} {o : HO} (x : Cur CC H c l n r) (h : H a = none) : Cur CC (upd H a o) c l n r := x.keep (as := []) (ButL.new h) (fun a ha => by cases ha) (by simp) (by simp)
/-- the piece ahead -/
theorem Cur.tok {CC c l : Addr} {n : Nat} {r : List Pc} {H : Hp} (x : Cur CC H c l n r) (w : Wf r) : ∃ (ps : List Addr) (p : Addr) (t : Pc) (ts : List Pc) (dx : Addr), r = t :: ts ∧ t.1 < 58 ∧ H c = some (.ins CC dx [("pieces", .ref l), ("at", .int (n : Int))]) ∧
    H l = some (.lst (ps.map V.ref)) ∧ ps[n]? = some p ∧ TokAt H p t ∧ Tks H (ps.drop (n + 1)) ts ∧ n + 1 + ts.length ≤ 4000000 := by
  obtain ⟨⟨dx, a⟩, ps, b, t, zz⟩ := x
  obtain ⟨c', l', k', ts, rfl, hc⟩ := w.cons
  cases e : ps.drop n with
  | nil =>
    rw [e] at t
    exact t.elim
  | cons p qs =>
    rw [e] at t
    have hn : n < ps.length := by
      have z := congrArg List.length e
      rw [List.length_drop, List.length_cons] at z
      omega
    have e2 := List.drop_eq_getElem_cons hn
    rw [e] at e2
    obtain ⟨e3, e4⟩ := List.cons.inj e2
    refine ⟨ps, p, (c', l', k'), ts, dx, rfl, hc, a, b, ?_, t.1, ?_⟩
    · rw [List.getElem?_eq_getElem hn, e3]
    · refine ⟨by rw [← e4]; exact t.2, ?_⟩
      have zz' : n + (ts.length + 1) ≤ 4000000 := zz
      omega
end Rd

namespace Rd
open PySem PySem.Spec PyProof.Rows L2 My Mir
/-! ### the signs of a text, as plain lists -/
def LETs : Str := "_ABCDEFGHIJKLMNOPQRSTUVWXYZabcdefghijklmnopqrstuvwxyz"
def FIGs : Str := "0123456789"
def isAl (c : Nat) : Bool := (Nat.ble 97 c && Nat.ble c 122) || (Nat.ble 48 c && Nat.ble c 57) || (Nat.ble 65 c && Nat.ble c 90) || Nat.beq c 95
theorem isAl_low : ∀ c, c < 128 → isAl c = (decide (c ∈ LETs.cps.toList) || decide (c ∈ FIGs.cps.toList)) := by decide +kernel
theorem lets_low : (∀ c, c ∈ LETs.cps.toList → c < 128) ∧ ∀ c, c ∈ FIGs.cps.toList → c < 128 := by decide +kernel
theorem isAl_eq (c : Nat) : (decide (c ∈ LETs.cps.toList) || decide (c ∈ FIGs.cps.toList)) = isAl c := by
  by_cases h : c < 128
  · exact (isAl_low c h).symm
  · rw [decide_eq_false (fun z => h (lets_low.1 c z)), decide_eq_false (fun z => h (lets_low.2 c z))]
    have e1 : Nat.ble c 122 = false := by rw [Bool.eq_false_iff]; intro z; have := Nat.le_of_ble_eq_true z; omega
    have e2 : Nat.ble c 57 = false := by rw [Bool.eq_false_iff]; intro z; have := Nat.le_of_ble_eq_true z; omega
    have e3 : Nat.ble c 90 = false := by rw [Bool.eq_false_iff]; intro z; have := Nat.le_of_ble_eq_true z; omega
    have e4 : Nat.beq c 95 = false := by rw [Bool.eq_false_iff]; intro z; have := Nat.eq_of_beq_eq_true z; omega
    unfold isAl
    rw [e1, e2, e3, e4]
    simp
def wlen : List Nat → Nat
  | [] => 0
  | c :: t => if isAl c = true then wlen t + 1 else 0
def longs : List (List Nat) := [[60, 60], [62, 62], [60, 61], [62, 61], [61, 61], [33, 61], [38, 38], [124, 124]]
def isLong : List Nat → Bool
  | a :: b :: _ => longs.any fun w => w == [a, b]
  | _ => false
def sizeR : List Nat → Nat
  | [] => 0
  | c :: t => if isAl c = true then wlen (c :: t) else if isLong (c :: t) = true then 2 else 1
theorem longs_are : ([27, 28, 29, 30, 31, 32, 33, 34] : List Nat).map srt = longs.map fun w => (⟨w.toArray⟩ : Str) := by decide +kernel
theorem str_beq (a b : List Nat) : ((⟨a.toArray⟩ : Str) == ⟨b.toArray⟩) = (a == b) := by
  rw [Bool.eq_iff_iff, beq_iff_eq, beq_iff_eq]
  constructor
  · intro h
    have := congrArg (fun s : Str => s.cps.toList) h
    simpa using this
  · rintro rfl
    rfl
theorem long_in (r : List Nat) : inV (.str ⟨(r.take 2).toArray⟩) ([27, 28, 29, 30, 31, 32, 33, 34].map fun d => V.str (srt d)) = isLong r := by
  have e : ([27, 28, 29, 30, 31, 32, 33, 34].map fun d => V.str (srt d)) = (longs.map fun w => (⟨w.toArray⟩ : Str)).map V.str := by
    rw [← longs_are]; rfl
  rw [e]
  have e2 : inV (.str ⟨(r.take 2).toArray⟩) ((longs.map fun w => (⟨w.toArray⟩ : Str)).map V.str) = longs.any fun w => w == r.take 2 := by
    unfold inV
    rw [List.any_map, List.any_map]
    congr 1
    funext w
    exact str_beq w (r.take 2)
  rw [e2]
  match r with
  | [] => decide +kernel
  | [a] =>
    show (longs.any fun w => w == [a]) = false
    simp [longs]
  | a :: b :: t => rfl
def voc : List (List Nat × Nat) := [([40], 52), ([41], 53), ([123], 56), ([125], 57), ([59], 49), ([43], 35), ([33], 43), ([45], 36), ([126], 42), ([49], 2), ([48], 2), ([105, 102], 10), ([101, 108, 115, 101], 11), ([109], 1), ([109, 97, 105, 110], 1), ([109, 111, 100, 117, 108, 101], 4), ([105, 110, 116], 7), ([114, 101, 116, 117, 114, 110], 20), ([111, 117, 116], 21)]
def codeOf (w : List Nat) : Option Nat := (voc.find? fun p => p.1 == w).map (·.2)
theorem code_mem {w : List Nat} {k : Nat} (h : codeOf w = some k) : (w, k) ∈ voc := by
  unfold codeOf at h
  cases e : voc.find? fun p => p.1 == w with
  | none => rw [e] at h; cases h
  | some p =>
    rw [e] at h
    have h1 := List.find?_some e
    have h2 := List.mem_of_find?_eq_some e
    obtain ⟨s, j⟩ := p
    have h3 : s = w := by simpa using h1
    have h4 : j = k := by simpa using h
    subst h4 h3
    exact h2
def lexL : Nat → List Nat → Nat → Option (List (Nat × Nat))
  | 0, _, _ => none
  | _ + 1, [], _ => some []
  | f + 1, c :: t, col => if c = 32 then lexL f t (col + 1) else if c = 47 then none else match codeOf ((c :: t).take (sizeR (c :: t))) with
    | none => none
    | some k => (lexL f ((c :: t).drop (sizeR (c :: t))) (col + sizeR (c :: t))).map ((k, col) :: ·)
def lexAll (f : Nat) : Nat → List (List Nat) → Option (List Pc)
  | _, [] => some []
  | n, l :: ls => match lexL f l 1 with
    | none => none
    | some ts => (lexAll f (n + 1) ls).map (ts.map (fun t => (t.1, n, t.2)) ++ ·)
def pos : List Nat → Nat → List Nat
  | [], _ => []
  | c :: t, a => if c = 10 then a :: pos t (a + 1) else pos t (a + 1)
def partsL (cs : List Nat) : Nat → List Nat → List (List Nat)
  | a, [] => [cs.drop a]
  | a, c :: r => (cs.drop a).take (c - a) :: partsL cs (c + 1) r
def linesL (cs : List Nat) : List (List Nat) := partsL cs 0 (pos cs 0)
def lexT (f : Nat) (cs : List Nat) : Option (List Pc) := (lexAll f 1 (linesL cs)).map (· ++ [(0, (linesL cs).length, ((linesL cs).getLast?.getD []).length + 1)])
/-! ### split at the ends of lines -/
open PySem.StrLaws PySem.Builtin.Str in
theorem occ_pos (x : Str) : ∀ (m a : Nat) (st : Array Nat × Nat), a + m = x.length + 1 → st.2 ≤ a → st.1.size ≤ a →
    (forIn (List.range' a m) st (occBody x ⟨#[10]⟩ x.length (x.length + 1))).run.fst.toList = st.1.toList ++ pos (x.cps.toList.drop a) a
  | 0, a, st, h, h1, h2 => by
    have : x.cps.toList.drop a = [] := List.drop_eq_nil_of_le (by have : x.cps.toList.length = x.length := by simp [Str.length]
                                                                  omega)
    rw [this]
    simp [pos]
  | m + 1, a, st, h, h1, h2 => by
    have hl : x.cps.toList.length = x.length := by simp [Str.length]
    rw [List.range'_succ, List.forIn_cons]
    unfold occBody
    have key := subAt_one x 10 a
    by_cases hc : x.cps.toList[a]? = some 10
    · have hk := key.2 hc
      have ha : a < x.length := by
        have := (List.getElem?_eq_some_iff.mp hc).1
        omega
      rw [if_pos ⟨⟨⟨by omega, h1⟩, hk.1⟩, hk.2⟩]
      have e : x.cps.toList.drop a = 10 :: x.cps.toList.drop (a + 1) := by
        rw [List.drop_eq_getElem_cons (by omega)]
        rw [(List.getElem?_eq_some_iff.mp hc).2]
      have ih := occ_pos x m (a + 1) (st.1.push a, a + 1) (by omega) (Nat.le_refl _) (by rw [Array.size_push]; omega)
      rw [e]
      have e2 : pos (10 :: x.cps.toList.drop (a + 1)) a = a :: pos (x.cps.toList.drop (a + 1)) (a + 1) := if_pos rfl
      rw [e2]
      refine Eq.trans ih ?_
      rw [Array.toList_push]
      simp
    · have hn : ¬ (((st.1.size < x.length + 1 ∧ st.2 ≤ a) ∧ a + (⟨#[10]⟩ : Str).length ≤ x.length) ∧ subAt x ⟨#[10]⟩ a = true) := fun z => hc (key.1 ⟨z.1.2, z.2⟩)
      rw [if_neg hn]
      have ih := occ_pos x m (a + 1) st (by omega) (by omega) (by omega)
      have e : pos (x.cps.toList.drop a) a = pos (x.cps.toList.drop (a + 1)) (a + 1) := by
        by_cases hlt : a < x.cps.toList.length
        · rw [List.drop_eq_getElem_cons hlt]
          have : x.cps.toList[a] ≠ 10 := fun z => hc (by rw [List.getElem?_eq_getElem hlt, z])
          exact if_neg this
        · rw [List.drop_eq_nil_of_le (by omega), List.drop_eq_nil_of_le (by omega)]
          rfl
      rw [e]
      exact ih
open PySem.StrLaws PySem.Builtin.Str in
theorem parts_map (x : Str) : ∀ (cuts : List Nat) (a : Nat), (partsFrom x 1 a cuts).map (·.cps.toList) = partsL x.cps.toList a cuts
  | [], a => by
    show [(strSub x a x.length).cps.toList] = [x.cps.toList.drop a]
    rw [strSub_toList]
    have hl : x.cps.toList.length = x.length := by simp [Str.length]
    rw [List.take_of_length_le (by rw [List.length_drop]; omega)]
  | c :: r, a => by
    show (strSub x a c).cps.toList :: (partsFrom x 1 (c + 1) r).map (·.cps.toList) = _
    rw [strSub_toList, parts_map x r (c + 1)]
    rfl
open PySem.StrLaws PySem.Builtin.Str in
theorem split_lines (x : Str) (h : (decide (x.length < (⟨#[10]⟩ : Str).length) || decide (strKind x < strKind ⟨#[10]⟩)) = false) : (Txt.split x ⟨#[10]⟩).map (·.cps.toList) = linesL x.cps.toList := by
  have e : occurrences x ⟨#[10]⟩ 0 x.length (x.length + 1) = pos x.cps.toList 0 := by
    rw [occ_eq]
    have := occ_pos x (x.length + 1) 0 (#[], 0) (by omega) (Nat.le_refl _) (Nat.le_refl _)
    simpa using this
  unfold Txt.split
  rw [if_neg (by rw [h]; exact Bool.false_ne_true), e]
  by_cases z : (pos x.cps.toList 0).isEmpty = true
  · rw [if_pos z]
    have z2 : pos x.cps.toList 0 = [] := List.isEmpty_iff.mp z
    unfold linesL
    rw [z2]
    rfl
  · rw [if_neg z, partsBetween_eq]
    exact parts_map x _ 0
theorem kind_lines (x : Str) (h : 1 ≤ x.length) : (decide (x.length < (⟨#[10]⟩ : Str).length) || decide (Builtin.Str.strKind x < Builtin.Str.strKind ⟨#[10]⟩)) = false := by
  have h1 : Builtin.Str.strKind ⟨#[10]⟩ = 1 := by decide +kernel
  have h2 : 1 ≤ Builtin.Str.strKind x := by
    unfold Builtin.Str.strKind
    split
    · exact Nat.le_refl _
    · split <;> decide
  have h3 : (⟨#[10]⟩ : Str).length = 1 := rfl
  rw [h1, h3, decide_eq_false (by omega), decide_eq_false (by omega)]
  rfl
end Rd

namespace Rd
open PySem PySem.Spec PyProof.Rows L2 My Mir
theorem if_true_of {c : Bool} {A B : Prop} (hc : c = true) (h : A) : if c = true then A else B := by
  rw [if_pos hc]
  exact h
theorem if_false_of {c : Bool} {A B : Prop} (hc : c = false) (h : B) : if c = true then A else B := by
  rw [hc, if_neg Bool.false_ne_true]
  exact h
abbrev CuF0 (l : Addr) : List (Str × V) := [("pieces", .ref l)]
abbrev CuF (l : Addr) (n : Int) : List (Str × V) := [("pieces", .ref l), ("at", .int n)]
theorem cu_pieces (l : Addr) (n : Int) : (CuF l n).lookup ("pieces" : Str) = some (.ref l) := by kernel_rfl
theorem cu_at (l : Addr) (n : Int) : (CuF l n).lookup ("at" : Str) = some (.int n) := by kernel_rfl
theorem cu_put1 (l : Addr) : putF "pieces" (.ref l) [] = CuF0 l := by kernel_rfl
theorem cu_put2 (l : Addr) (n : Int) : putF "at" (.int n) (CuF0 l) = CuF l n := by kernel_rfl
theorem cu_put3 (l : Addr) (n m : Int) : putF "at" (.int m) (CuF l n) = CuF l m := by kernel_rfl
theorem cu_ahead (l : Addr) (n : Int) : (CuF l n).lookup ("ahead" : Str) = none := by kernel_rfl
theorem cu_spot (l : Addr) (n : Int) : (CuF l n).lookup ("spot" : Str) = none := by kernel_rfl
theorem cu_take (l : Addr) (n : Int) : (CuF l n).lookup ("take" : Str) = none := by kernel_rfl
theorem cu_want (l : Addr) (n : Int) : (CuF l n).lookup ("want" : Str) = none := by kernel_rfl
theorem cu_fail (l : Addr) (n : Int) : (CuF l n).lookup ("fail" : Str) = none := by kernel_rfl
abbrev CU (K : PySem.W.Frag) : Addr := He.ga K "Cursor"
abbrev CE' (K : PySem.W.Frag) : Addr := He.ga K "ExpressionReader"
abbrev CB (K : PySem.W.Frag) : Addr := He.ga K "BadText"
theorem at_ref {ps : List Addr} {n : Nat} {p : Addr} (h : ps[n]? = some p) : atI (ps.map V.ref) (n : Int) = some (.ref p) := atI_nat (by rw [List.getElem?_map, h]; rfl)

def top (i : Nat) : Stmt := PySem.Challenge.pw_trueimage_k03_whole_deep_texts.main.body.getD i (.Pass ⟨0, 0, 0, 0⟩)
abbrev s_BadText___init__ : Stmt := inClass (top 2) 0
abbrev s_word_of : Stmt := top 6
abbrev s_Cursor___init__ : Stmt := inClass (top 20) 0
abbrev s_Cursor_ahead : Stmt := inClass (top 20) 1
abbrev s_Cursor_spot : Stmt := inClass (top 20) 2
abbrev s_Cursor_take : Stmt := inClass (top 20) 3
abbrev s_Cursor_want : Stmt := inClass (top 20) 4
abbrev s_Cursor_fail : Stmt := inClass (top 20) 5
abbrev s_pieces_of : Stmt := top 21
abbrev s__pieces_in : Stmt := top 22
abbrev s__size_of : Stmt := top 23
abbrev s__sort_of : Stmt := top 24
abbrev s__number_of : Stmt := top 25
abbrev s__figures_read : Stmt := top 26
abbrev s_ExpressionReader___init__ : Stmt := inClass (top 34) 0
abbrev s_ExpressionReader_look_at_depth : Stmt := inClass (top 34) 1
abbrev s_ExpressionReader_begin_within : Stmt := inClass (top 34) 2
abbrev s_ExpressionReader_end_within : Stmt := inClass (top 34) 3
abbrev s_ExpressionReader_take_counted : Stmt := inClass (top 34) 4
abbrev s_ExpressionReader_settle : Stmt := inClass (top 34) 5
abbrev s_ExpressionReader_settle_all : Stmt := inClass (top 34) 6
abbrev s_read_expression : Stmt := top 35
abbrev s__strength_of : Stmt := top 36
abbrev s__read_operand : Stmt := top 37
abbrev s__read_number : Stmt := top 38
abbrev s__read_name : Stmt := top 39
abbrev s__read_in_or_more : Stmt := top 40
abbrev s__read_bracket : Stmt := top 41
abbrev s__read_behind : Stmt := top 43
abbrev s__read_field : Stmt := top 44
abbrev s__close : Stmt := top 45
abbrev s_read_kind : Stmt := top 48
abbrev s_read_many : Stmt := top 49
abbrev s_read_firsts : Stmt := top 50
abbrev s_read_statements : Stmt := top 51
abbrev s__read_statement : Stmt := top 52
abbrev s__read_declaration : Stmt := top 53
abbrev s__read_plain : Stmt := top 54
abbrev s__read_test : Stmt := top 55
abbrev s__read_braces : Stmt := top 56
abbrev s__read_if : Stmt := top 57
abbrev s__read_while : Stmt := top 58
abbrev s__read_do : Stmt := top 59
abbrev s__read_for : Stmt := top 60
abbrev s__read_switch : Stmt := top 61
abbrev s__read_case : Stmt := top 62
abbrev s__read_leaving : Stmt := top 63
abbrev s__read_return : Stmt := top 64
abbrev s__read_told : Stmt := top 65
abbrev s_read_module : Stmt := top 68
abbrev s__read_item : Stmt := top 69
abbrev s__read_structure : Stmt := top 70
abbrev s__read_function : Stmt := top 71
abbrev s__read_param : Stmt := top 72
abbrev s__law_cell_at : Stmt := top 74
abbrev s__law_draw : Stmt := top 75
abbrev s__law_number : Stmt := top 76
abbrev s__law_next : Stmt := top 77
abbrev s__law_pick : Stmt := top 78
abbrev s__law_wrong : Stmt := top 79
abbrev s_law : Stmt := top 80
def tabOf (f : Nat → Option He.Dv) (K : PySem.W.Frag) (a : Addr) : Prop := ∀ c, c < 58 → (f c = none → PySem.W.nsIn K a (srt c) = some none) ∧ ∀ v, f c = some v → ∃ u, PySem.W.nsIn K a (srt c) = some (some u) ∧ RelV (v.v K) u
def fOWN (c : Nat) : Option He.Dv := if 4 ≤ c ∧ c ≤ 26 then some (.bl true) else none
def fSTRENGTHS (c : Nat) : Option He.Dv := if strn c = 0 then none else some (.int (strn c : Int))
def fBEGINNINGS (c : Nat) : Option He.Dv := match c with
  | 2 => some (.glo "_read_number") | 1 => some (.glo "_read_name") | 23 => some (.glo "_read_in_or_more") | 24 => some (.glo "_read_in_or_more") | 52 => some (.glo "_read_bracket") | _ => none
def fSTATEMENTS (c : Nat) : Option He.Dv := match c with
  | 56 => some (.glo "_read_braces") | 10 => some (.glo "_read_if") | 12 => some (.glo "_read_while") | 13 => some (.glo "_read_do") | 14 => some (.glo "_read_for") | 17 => some (.glo "_read_switch") | 15 => some (.glo "_read_leaving") | 16 => some (.glo "_read_leaving") | 20 => some (.glo "_read_return") | 21 => some (.glo "_read_told") | 22 => some (.glo "_read_told") | _ => none
structure Txt (K : PySem.W.Frag) (mg : Str → Option Value) (w : World) : Prop where
  c_GREATEST : ∃ t, mg "GREATEST" = some (.int 4294967295 t)
  c_HALF : ∃ t, mg "HALF" = some (.int 2147483648 t)
  d_word_of : Df K mg "word_of" s_word_of
  c_NAME : ∃ t, mg "NAME" = some (.str "name" t)
  c_NUMBER : ∃ t, mg "NUMBER" = some (.str "number" t)
  c_WRONG : ∃ t, mg "WRONG" = some (.str "wrong" t)
  c_END : ∃ t, mg "END" = some (.str "end" t)
  c_OWN_WORDS : mg "OWN_WORDS" = some (.ref (He.ga K "OWN_WORDS"))
  k_OWN_WORDS : ∃ es n, KDict K w (He.ga K "OWN_WORDS") es n
  c_LONG_SIGNS : mg "LONG_SIGNS" = some (.ref (He.ga K "LONG_SIGNS"))
  t_LONG_SIGNS : ∀ H, SqT K H (He.ga K "LONG_SIGNS") [.str "<<", .str ">>", .str "<=", .str ">=", .str "==", .str "!=", .str "&&", .str "||"]
  c_SHORT_SIGNS : ∃ t, mg "SHORT_SIGNS" = some (.str "+-*/&|^~!<>=?:;,.()[]{}" t)
  c_FIGURES : ∃ t, mg "FIGURES" = some (.str "0123456789" t)
  c_SMALL_FIGURES : ∃ t, mg "SMALL_FIGURES" = some (.str "0123456789abcdef" t)
  c_LETTERS : ∃ t, mg "LETTERS" = some (.str "_ABCDEFGHIJKLMNOPQRSTUVWXYZabcdefghijklmnopqrstuvwxyz" t)
  c_MOST_SIGNS : ∃ t, mg "MOST_SIGNS" = some (.int 24 t)
  c_MOST_FIGURES : ∃ t, mg "MOST_FIGURES" = some (.int 10 t)
  d_Cursor___init__ : Dm K (He.ga K "Cursor") "__init__" "Cursor.__init__" s_Cursor___init__
  d_Cursor_ahead : Dm K (He.ga K "Cursor") "ahead" "Cursor.ahead" s_Cursor_ahead
  d_Cursor_spot : Dm K (He.ga K "Cursor") "spot" "Cursor.spot" s_Cursor_spot
  d_Cursor_take : Dm K (He.ga K "Cursor") "take" "Cursor.take" s_Cursor_take
  d_Cursor_want : Dm K (He.ga K "Cursor") "want" "Cursor.want" s_Cursor_want
  d_Cursor_fail : Dm K (He.ga K "Cursor") "fail" "Cursor.fail" s_Cursor_fail
  d_pieces_of : Df K mg "pieces_of" s_pieces_of
  d__pieces_in : Df K mg "_pieces_in" s__pieces_in
  d__size_of : Df K mg "_size_of" s__size_of
  d__sort_of : Df K mg "_sort_of" s__sort_of
  d__number_of : Df K mg "_number_of" s__number_of
  d__figures_read : Df K mg "_figures_read" s__figures_read
  c_STRENGTHS : mg "STRENGTHS" = some (.ref (He.ga K "STRENGTHS"))
  k_STRENGTHS : ∃ es n, KDict K w (He.ga K "STRENGTHS") es n
  c_CLOSING : mg "CLOSING" = some (.ref (He.ga K "CLOSING"))
  k_CLOSING : ∃ es n, KDict K w (He.ga K "CLOSING") es n
  c_AHEAD : mg "AHEAD" = some (.ref (He.ga K "AHEAD"))
  t_AHEAD : ∀ H, SqT K H (He.ga K "AHEAD") [.str "!", .str "~", .str "-"]
  c_STRENGTH_AHEAD : ∃ t, mg "STRENGTH_AHEAD" = some (.int 11 t)
  c_MOST_WITHIN : ∃ t, mg "MOST_WITHIN" = some (.int 30 t)
  c_MOST_PIECES : ∃ t, mg "MOST_PIECES" = some (.int 120 t)
  d_ExpressionReader___init__ : Dm K (He.ga K "ExpressionReader") "__init__" "ExpressionReader.__init__" s_ExpressionReader___init__
  d_ExpressionReader_look_at_depth : Dm K (He.ga K "ExpressionReader") "look_at_depth" "ExpressionReader.look_at_depth" s_ExpressionReader_look_at_depth
  d_ExpressionReader_begin_within : Dm K (He.ga K "ExpressionReader") "begin_within" "ExpressionReader.begin_within" s_ExpressionReader_begin_within
  d_ExpressionReader_end_within : Dm K (He.ga K "ExpressionReader") "end_within" "ExpressionReader.end_within" s_ExpressionReader_end_within
  d_ExpressionReader_take_counted : Dm K (He.ga K "ExpressionReader") "take_counted" "ExpressionReader.take_counted" s_ExpressionReader_take_counted
  d_ExpressionReader_settle : Dm K (He.ga K "ExpressionReader") "settle" "ExpressionReader.settle" s_ExpressionReader_settle
  d_ExpressionReader_settle_all : Dm K (He.ga K "ExpressionReader") "settle_all" "ExpressionReader.settle_all" s_ExpressionReader_settle_all
  d_read_expression : Df K mg "read_expression" s_read_expression
  d__strength_of : Df K mg "_strength_of" s__strength_of
  d__read_operand : Df K mg "_read_operand" s__read_operand
  d__read_number : Df K mg "_read_number" s__read_number
  d__read_name : Df K mg "_read_name" s__read_name
  d__read_in_or_more : Df K mg "_read_in_or_more" s__read_in_or_more
  d__read_bracket : Df K mg "_read_bracket" s__read_bracket
  c_BEGINNINGS : mg "BEGINNINGS" = some (.ref (He.ga K "BEGINNINGS"))
  k_BEGINNINGS : ∃ es n, KDict K w (He.ga K "BEGINNINGS") es n
  d__read_behind : Df K mg "_read_behind" s__read_behind
  d__read_field : Df K mg "_read_field" s__read_field
  d__close : Df K mg "_close" s__close
  c_KINDS : mg "KINDS" = some (.ref (He.ga K "KINDS"))
  t_KINDS : ∀ H, SqT K H (He.ga K "KINDS") [.str "int", .str "uint", .str "struct"]
  d_read_kind : Df K mg "read_kind" s_read_kind
  d_read_many : Df K mg "read_many" s_read_many
  d_read_firsts : Df K mg "read_firsts" s_read_firsts
  d_read_statements : Df K mg "read_statements" s_read_statements
  d__read_statement : Df K mg "_read_statement" s__read_statement
  d__read_declaration : Df K mg "_read_declaration" s__read_declaration
  d__read_plain : Df K mg "_read_plain" s__read_plain
  d__read_test : Df K mg "_read_test" s__read_test
  d__read_braces : Df K mg "_read_braces" s__read_braces
  d__read_if : Df K mg "_read_if" s__read_if
  d__read_while : Df K mg "_read_while" s__read_while
  d__read_do : Df K mg "_read_do" s__read_do
  d__read_for : Df K mg "_read_for" s__read_for
  d__read_switch : Df K mg "_read_switch" s__read_switch
  d__read_case : Df K mg "_read_case" s__read_case
  d__read_leaving : Df K mg "_read_leaving" s__read_leaving
  d__read_return : Df K mg "_read_return" s__read_return
  d__read_told : Df K mg "_read_told" s__read_told
  c_STATEMENTS : mg "STATEMENTS" = some (.ref (He.ga K "STATEMENTS"))
  k_STATEMENTS : ∃ es n, KDict K w (He.ga K "STATEMENTS") es n
  d_read_module : Df K mg "read_module" s_read_module
  d__read_item : Df K mg "_read_item" s__read_item
  d__read_structure : Df K mg "_read_structure" s__read_structure
  d__read_function : Df K mg "_read_function" s__read_function
  d__read_param : Df K mg "_read_param" s__read_param
  d__law_cell_at : Df K mg "_law_cell_at" s__law_cell_at
  d__law_draw : Df K mg "_law_draw" s__law_draw
  d__law_number : Df K mg "_law_number" s__law_number
  d__law_next : Df K mg "_law_next" s__law_next
  d__law_pick : Df K mg "_law_pick" s__law_pick
  d__law_wrong : Df K mg "_law_wrong" s__law_wrong
  d_law : Df K mg "law" s_law
  cl_Cursor : Cl K mg "Cursor" (He.ga K "Cursor")
  mk_Cursor : PySem.W.makesIn K (He.ga K "Cursor") = true ∧ PySem.W.keepIn K (.ref (He.ga K "Cursor")) = true
  na_Cursor_pieces : NoAttr K (He.ga K "Cursor") "pieces"
  na_Cursor_at : NoAttr K (He.ga K "Cursor") "at"
  cl_ExpressionReader : Cl K mg "ExpressionReader" (He.ga K "ExpressionReader")
  mk_ExpressionReader : PySem.W.makesIn K (He.ga K "ExpressionReader") = true ∧ PySem.W.keepIn K (.ref (He.ga K "ExpressionReader")) = true
  na_ExpressionReader_cursor : NoAttr K (He.ga K "ExpressionReader") "cursor"
  na_ExpressionReader_first : NoAttr K (He.ga K "ExpressionReader") "first"
  na_ExpressionReader_depth : NoAttr K (He.ga K "ExpressionReader") "depth"
  na_ExpressionReader_parts : NoAttr K (He.ga K "ExpressionReader") "parts"
  na_ExpressionReader_held : NoAttr K (He.ga K "ExpressionReader") "held"
  n_len : mg "len" = none
  n_tuple : mg "tuple" = none
  n_isinstance : mg "isinstance" = none
  n_str : mg "str" = none
  n_enumerate : mg "enumerate" = none
  n_range : mg "range" = none
  n_int : mg "int" = none
  n_max : mg "max" = none
  ga__read_number : mg "_read_number" = some (.ref (He.ga K "_read_number"))
  ga__read_name : mg "_read_name" = some (.ref (He.ga K "_read_name"))
  ga__read_in_or_more : mg "_read_in_or_more" = some (.ref (He.ga K "_read_in_or_more"))
  ga__read_bracket : mg "_read_bracket" = some (.ref (He.ga K "_read_bracket"))
  ga__read_braces : mg "_read_braces" = some (.ref (He.ga K "_read_braces"))
  ga__read_if : mg "_read_if" = some (.ref (He.ga K "_read_if"))
  ga__read_while : mg "_read_while" = some (.ref (He.ga K "_read_while"))
  ga__read_do : mg "_read_do" = some (.ref (He.ga K "_read_do"))
  ga__read_for : mg "_read_for" = some (.ref (He.ga K "_read_for"))
  ga__read_switch : mg "_read_switch" = some (.ref (He.ga K "_read_switch"))
  ga__read_leaving : mg "_read_leaving" = some (.ref (He.ga K "_read_leaving"))
  ga__read_return : mg "_read_return" = some (.ref (He.ga K "_read_return"))
  ga__read_told : mg "_read_told" = some (.ref (He.ga K "_read_told"))
  bt : Bt.BtTxt K mg (CB K) (He.ma K (CB K) "__init__")
  noL : PySem.W.findIn K (.ref (CB K)) "line" = some none
  noC : PySem.W.findIn K (.ref (CB K)) "column" = some none
  v_STRENGTHS : tabOf fSTRENGTHS K (He.ga K "STRENGTHS")
  v_BEGINNINGS : tabOf fBEGINNINGS K (He.ga K "BEGINNINGS")
  v_STATEMENTS : tabOf fSTATEMENTS K (He.ga K "STATEMENTS")
  v_OWN_WORDS : tabOf fOWN K (He.ga K "OWN_WORDS")
  o_OWN : ∀ x, x ∈ (["m", "main", "0", "1"] : List Str) → PySem.W.nsIn K (He.ga K "OWN_WORDS") x = some none
  v_CLOSING_choice : KDct K w (He.ga K "CLOSING") "?" (.str ":")
  v_CLOSING_call : KDct K w (He.ga K "CLOSING") "call" (.str ")")
  v_CLOSING_bracket : KDct K w (He.ga K "CLOSING") "(" (.str ")")
  v_CLOSING_index : KDct K w (He.ga K "CLOSING") "index" (.str "]")
def sp_Cursor___init__ (K : PySem.W.Frag) : Sp := sp2 fun x y H Q _ => ∃ (c l dx : Addr), x = .ref c ∧ y = .ref l ∧ H c = some (.ins (CU K) dx []) ∧ Q .non (upd H c (.ins (CU K) dx (CuF l 0)))
def sp_Cursor_ahead (K : PySem.W.Frag) : Sp := sp1 fun x H Q _ => ∃ (c l : Addr) (n : Nat) (r : List Pc), x = .ref c ∧ Cur (CU K) H c l n r ∧ Wf r ∧ Q (.str (srt (hd r))) H
def sp_Cursor_spot (K : PySem.W.Frag) : Sp := sp1 fun x H Q _ => ∃ (c l : Addr) (n : Nat) (r : List Pc), x = .ref c ∧ Cur (CU K) H c l n r ∧ Wf r ∧ ∀ (q : Addr) (z : Pc) (t : List Pc), r = z :: t → H q = some (.tup [.int (z.2.1 : Int), .int (z.2.2 : Int)]) → Q (.ref q) H
def sp_Cursor_take (K : PySem.W.Frag) : Sp := sp1 fun x H Q _ => ∃ (c l : Addr) (n : Nat) (r : List Pc), x = .ref c ∧ Cur (CU K) H c l n r ∧ Wf r ∧ hd r ≠ 0 ∧
  ∀ (p : Addr) (z : Pc) (H' : Hp), ButL [c] H H' → Cur (CU K) H' c l (n + 1) r.tail → Wf r.tail → TokAt H' p z → r = z :: r.tail → Q (.ref p) H'
def sp_Cursor_fail (K : PySem.W.Frag) : Sp := sp1 fun x H Q E => ∃ (c l : Addr) (n : Nat) (r : List Pc), x = .ref c ∧ Cur (CU K) H c l n r ∧ Wf r ∧ Post (ill r : Rs Unit) (fun _ => False) (Bad (CB K) [c] H E)
def sp_Cursor_want (K : PySem.W.Frag) : Sp := sp2 fun x y H Q E => ∃ (c l : Addr) (n : Nat) (r : List Pc) (s : Nat), x = .ref c ∧ y = .str (srt s) ∧ s < 58 ∧ s ≠ 0 ∧ Cur (CU K) H c l n r ∧ Wf r ∧
  Post (want s r) (fun r' => ∀ (p : Addr) (z : Pc) (H' : Hp), ButL [c] H H' → Cur (CU K) H' c l (n + 1) r' → Wf r' → TokAt H' p z → z.1 = s → r = z :: r' → Q (.ref p) H') (Bad (CB K) [c] H E)
theorem cur_step {K : PySem.W.Frag} {H : Hp} {c l dx : Addr} {n : Nat} {t : List Pc} {ps : List Addr} (hc : H c = some (.ins (CU K) dx (CuF l (n : Int)))) (hl : H l = some (.lst (ps.map V.ref))) (ht : Tks H (ps.drop (n + 1)) t) (hn : n + 1 + t.length ≤ 4000000) :
    ButL [c] H (upd H c (.ins (CU K) dx (CuF l ((n + 1 : Nat) : Int)))) ∧ Cur (CU K) (upd H c (.ins (CU K) dx (CuF l ((n + 1 : Nat) : Int)))) c l (n + 1) t := by
  have b : ButL [c] H (upd H c (.ins (CU K) dx (CuF l ((n + 1 : Nat) : Int)))) := ButL.put (by simp)
  have hlc : l ≠ c := ne_of hl hc (by intro q; cases q)
  exact ⟨b, ⟨dx, upd_same⟩, ps, by rw [upd_ne hlc]; exact hl, Tks.keep b (mu1 hc) ht, hn⟩

/-! ### where a cursor stands, what has been left as it was -/
structure At (K : PySem.W.Frag) (c l : Addr) (H0 H : Hp) (r : List Pc) : Prop where
  cu : ∃ n, Cur (CU K) H c l n r
  b : ButL [c] H0 H
  w : Wf r
  l0 : H0 l ≠ none
section
variable {K : PySem.W.Frag} {c l : Addr} {H0 H H' : Hp} {r : List Pc}
theorem At.begin {n : Nat} (cu : Cur (CU K) H c l n r) (w : Wf r) : At K c l H H r := by
  obtain ⟨_, ps, h, _⟩ := id cu
  exact ⟨⟨n, cu⟩, ButL.refl, w, by rw [h]; intro z; cases z⟩
theorem At.fresh (t : At K c l H0 H r) : At K c l H H r := by
  obtain ⟨n, cu⟩ := t.cu
  exact At.begin cu t.w
theorem At.ins (t : At K c l H0 H r) : ∃ (dx : Addr) (fs : List (Str × V)), H c = some (.ins (CU K) dx fs) := by
  obtain ⟨n, ⟨dx, h⟩, _⟩ := t.cu
  exact ⟨dx, _, h⟩
theorem At.mu (t : At K c l H0 H r) : Mu [c] H := by
  obtain ⟨dx, fs, h⟩ := t.ins
  exact mu1 h
theorem At.laid {p : Addr} {o : HO} (t : At K c l H0 H r) (h : H p = none) : At K c l H0 (upd H p o) r := by
  obtain ⟨n, cu⟩ := t.cu
  exact ⟨⟨n, cu.laid h⟩, t.b.trans (ButL.new h), t.w, t.l0⟩
theorem At.trans {r' : List Pc} (t : At K c l H0 H r) (u : At K c l H H' r') : At K c l H0 H' r' := ⟨u.cu, t.b.trans u.b, u.w, t.l0⟩
theorem At.nothing {q : Addr} (t : At K c l H0 H r) (h : H q = none) (w : H0 c ≠ none) : H0 q = none := by
  cases e : H0 q with
  | none => rfl
  | some o =>
    by_cases z : q = c
    · subst z
      obtain ⟨dx, fs, h'⟩ := t.ins
      rw [h] at h'; cases h'
    · have := t.b q o e (by simpa using z)
      rw [h] at this; cases this
/-- a list of one's own -/
theorem At.own {q : Addr} {o o' : HO} (t : At K c l H0 H r) (h0 : H0 q = none) (hq : H q = some o) (ht : ∀ xs, o ≠ .tup xs) (hc : q ≠ c) : At K c l H0 (upd H q o') r := by
  obtain ⟨n, cu⟩ := t.cu
  have hl : l ≠ q := by
    intro z
    exact t.l0 (by rw [z]; exact h0)
  have b : ButL [q] H (upd H q o') := ButL.put (by simp)
  have m : Mu [q] H := by
    intro a ha xs e
    have z : a = q := by simpa using ha
    rw [z, hq] at e
    exact ht xs (Option.some.inj e)
  refine ⟨⟨n, cu.keep b m (by simpa using hc.symm) (by simpa using hl)⟩, fun x u e hx => ?_, t.w, t.l0⟩
  rw [upd_ne (ne_of_none e h0)]
  exact t.b x u e hx
end
/-! ### calls of the cursor's methods -/
section
variable {K : PySem.W.Frag} {c l : Addr} {H0 H : Hp} {r : List Pc} {σ : L2.St} {E : XK} {ta : TE} {t : TA} {Q : VK} {good : Nat → Prop}
theorem ra_ahead (ha : ∀ Q : VK, Q (.ref c) H → ta σ H Q) (a : At K c l H0 H r) (q : Q (.str (srt (hd r))) H) : tMethG (CU K) "ahead" (sp_Cursor_ahead K) E ta tNil σ H Q := by
  obtain ⟨n, cu⟩ := a.cu
  obtain ⟨⟨dx, hc⟩, _⟩ := id cu
  exact ha _ ⟨c, dx, _, rfl, hc, cu_ahead _ _, _, rfl, c, l, n, r, rfl, cu, a.w, q⟩
theorem ra_spot (ha : ∀ Q : VK, Q (.ref c) H → ta σ H Q) (a : At K c l H0 H r) (q : ∀ q, Q (.ref q) H) : tMethG (CU K) "spot" (sp_Cursor_spot K) E ta tNil σ H Q := by
  obtain ⟨n, cu⟩ := a.cu
  obtain ⟨⟨dx, hc⟩, _⟩ := id cu
  exact ha _ ⟨c, dx, _, rfl, hc, cu_spot _ _, _, rfl, c, l, n, r, rfl, cu, a.w, fun p _ _ _ _ => q p⟩
theorem ra_take (ha : ∀ Q : VK, Q (.ref c) H → ta σ H Q) (a : At K c l H0 H r) (h0 : hd r ≠ 0)
    (q : ∀ (p : Addr) (z : Pc) (H' : Hp), At K c l H0 H' r.tail → ButL [c] H H' → TokAt H' p z → r = z :: r.tail → Q (.ref p) H') : tMethG (CU K) "take" (sp_Cursor_take K) E ta tNil σ H Q := by
  obtain ⟨n, cu⟩ := a.cu
  obtain ⟨⟨dx, hc⟩, _⟩ := id cu
  exact ha _ ⟨c, dx, _, rfl, hc, cu_take _ _, _, rfl, c, l, n, r, rfl, cu, a.w, h0, fun p z H' b cu' w' tk e => q p z H' ⟨⟨_, cu'⟩, a.b.trans b, w', a.l0⟩ b tk e⟩
theorem ra_fail {α : Type} {good : α → Prop} (ha : ∀ Q : VK, Q (.ref c) H → ta σ H Q) (a : At K c l H0 H r) (h : Post (ill r : Rs α) good (Bad (CB K) [c] H0 E)) : tMethG (CU K) "fail" (sp_Cursor_fail K) E ta tNil σ H Q := by
  obtain ⟨n, cu⟩ := a.cu
  obtain ⟨⟨dx, hc⟩, _⟩ := id cu
  refine ha _ ⟨c, dx, _, rfl, hc, cu_fail _ _, _, rfl, c, l, n, r, rfl, cu, a.w, ?_⟩
  cases r with
  | nil => exact h
  | cons z t => exact Bad.after h a.b
theorem ra_want {α : Type} {s : Nat} {k : List Pc → Rs α} {good : α → Prop} (ha : ∀ Q : VK, Q (.ref c) H → ta σ H Q) (hs : ∀ R : List V → Hp → Prop, R [.str (srt s)] H → t σ H R) (h1 : s < 58) (h2 : s ≠ 0) (a : At K c l H0 H r) (h : Post (want s r >>= k) good (Bad (CB K) [c] H0 E))
    (q : ∀ (p : Addr) (z : Pc) (r' : List Pc) (H' : Hp), At K c l H0 H' r' → ButL [c] H H' → TokAt H' p z → z.1 = s → r = z :: r' → Post (k r') good (Bad (CB K) [c] H0 E) → Q (.ref p) H') : tMethG (CU K) "want" (sp_Cursor_want K) E ta t σ H Q := by
  obtain ⟨n, cu⟩ := a.cu
  obtain ⟨⟨dx, hc⟩, _⟩ := id cu
  refine ha _ ⟨c, dx, _, rfl, hc, cu_want _ _, hs _ ⟨_, _, rfl, c, l, n, r, s, rfl, rfl, h1, h2, cu, a.w, ?_⟩⟩
  exact post_mono (post_bind h) (fun r' z p pc H' b cu' w' tk e1 e2 => q p pc r' H' ⟨⟨_, cu'⟩, a.b.trans b, w', a.l0⟩ b tk e1 e2 z) (fun _ _ z => z.after a.b)
end
theorem post_pure {α : Type} {m : Rs α} {good : α → Prop} {ill : Nat → Nat → Prop} (h : Post m good ill) : Post (m >>= fun x => pure x) good ill := by
  cases m <;> exact h
theorem post_pure' {α : Type} {m : Rs α} {good : α → Prop} {ill : Nat → Nat → Prop} (h : Post (m >>= fun x => pure x) good ill) : Post m good ill := by
  cases m <;> exact h
/-! ### defs that move a cursor -/
def RunF (K : PySem.W.Frag) {α : Type} (F : List Pc → Rs (α × List Pc)) (Rel : α → V → Hp → Prop) (c : Addr) (H : Hp) (Q : VK) (E : XK) : Prop := ∃ (l : Addr) (r : List Pc), At K c l H H r ∧
  Post (F r) (fun a => ∀ (v : V) (H' : Hp), At K c l H H' a.2 → Rel a.1 v H' → Q v H') (Bad (CB K) [c] H E)
def RunG (K : PySem.W.Frag) (F : List Pc → Rs (List Pc)) (c : Addr) (H : Hp) (Q : VK) (E : XK) : Prop := ∃ (l : Addr) (r : List Pc), At K c l H H r ∧
  Post (F r) (fun r' => ∀ (v : V) (H' : Hp), At K c l H H' r' → Q v H') (Bad (CB K) [c] H E)
section
variable {K : PySem.W.Frag} {c l : Addr} {H0 H : Hp} {r : List Pc} {E : XK} {Q : VK}
theorem RunF.step {α β : Type} {F : List Pc → Rs (α × List Pc)} {Rel : α → V → Hp → Prop} {k : α × List Pc → Rs β} {good : β → Prop} (t : At K c l H0 H r) (h : Post (F r >>= k) good (Bad (CB K) [c] H0 E))
    (q : ∀ (a : α) (r' : List Pc) (v : V) (H' : Hp), At K c l H0 H' r' → ButL [c] H H' → Rel a v H' → Post (k (a, r')) good (Bad (CB K) [c] H0 E) → Q v H') : RunF K F Rel c H Q E :=
  ⟨l, r, t.fresh, post_mono (post_bind h) (fun a z v H' t' rel => q a.1 a.2 v H' (t.trans t') t'.b rel z) (fun _ _ z => z.after t.b)⟩
theorem RunG.step {β : Type} {F : List Pc → Rs (List Pc)} {k : List Pc → Rs β} {good : β → Prop} (t : At K c l H0 H r) (h : Post (F r >>= k) good (Bad (CB K) [c] H0 E))
    (q : ∀ (r' : List Pc) (v : V) (H' : Hp), At K c l H0 H' r' → ButL [c] H H' → Post (k r') good (Bad (CB K) [c] H0 E) → Q v H') : RunG K F c H Q E :=
  ⟨l, r, t.fresh, post_mono (post_bind h) (fun r' z v H' t' => q r' v H' (t.trans t') t'.b z) (fun _ _ z => z.after t.b)⟩
end
/-- tests of sorts -/
theorem seqT {K : PySem.W.Frag} {H : Hp} {p : Addr} {xs : List V} (h : H p = some (.tup xs)) : SqT K H p xs := SqT.of h
theorem inV_srt {c : Nat} (hc : c < 58) : ∀ (ds : List Nat), (∀ d, d ∈ ds → d < 58) → inV (.str (srt c)) (ds.map fun d => V.str (srt d)) = decide (c ∈ ds)
  | [], _ => rfl
  | d :: ds, h => by
    have e : eqV (.str (srt d)) (.str (srt c)) = decide (d = c) := by
      have e2 := srt_dec (h d (List.mem_cons_self ..)) hc
      show (srt d == srt c) = _
      rw [← e2, Bool.eq_iff_iff]
      simp
    have e3 := inV_srt hc ds fun d' m => h d' (List.mem_cons_of_mem _ m)
    show (eqV (.str (srt d)) (.str (srt c)) || inV (.str (srt c)) (ds.map fun d => V.str (srt d))) = _
    rw [e, e3, Bool.eq_iff_iff]
    simp only [Bool.or_eq_true, decide_eq_true_eq, List.mem_cons]
    constructor
    · rintro (h | h)
      · exact .inl h.symm
      · exact .inr h
    · rintro (h | h)
      · exact .inl h.symm
      · exact .inr h
theorem wf58 {r : List Pc} (w : Wf r) : hd r < 58 := by
  obtain ⟨c, l, k, t, rfl, h⟩ := w.cons
  exact h
/-! ### the reader of an expression -/
def tagS (t : Nat) : Str := PySem.Str.ofString (["one", "two", "call", "(", "index", "?", ":"].getD t "")
theorem tag_ix : ∀ a, a < 7 → ∀ b, b < 7 → tagS a = tagS b → a = b := by decide +kernel
theorem tag_dec {a b : Nat} (ha : a < 7) (hb : b < 7) : decide (V.str (tagS a) = V.str (tagS b)) = decide (a = b) := by
  by_cases h : a = b
  · subst h; simp
  · rw [decide_eq_false h, decide_eq_false]
    intro z
    exact h (tag_ix a ha b hb (V.str.inj z))
/-- one that is held -/
def HeldAt (H : Hp) (q : Addr) (t : Nat × Nat) : Prop := ∃ (w v : V) (i : Int), H q = some (.tup [.str (tagS t.1), w, .int i, v]) ∧ t.1 < 7 ∧ (t.1 = 0 → t.2 = 11) ∧ (t.1 = 1 → ∃ c, w = .str (srt c) ∧ c < 58 ∧ strn c = t.2 ∧ t.2 ≠ 0) ∧ (1 < t.1 → t.2 = 0)
def Helds (H : Hp) : List Addr → List (Nat × Nat) → Prop
  | [], [] => True
  | q :: qs, t :: ts => HeldAt H q t ∧ Helds H qs ts
  | _, _ => False
/-- the parts: the last one is a call or none -/
def Pt (H : Hp) (xs : List V) (b ne : Bool) : Prop := ne = true → ∃ (ys : List V) (p : Addr) (z : Str) (tl : List V), xs = ys ++ [.ref p] ∧ H p = some (.tup (.str z :: tl)) ∧ decide (z = "call") = b
abbrev ReF (c : Addr) (f : Int) (d : Int) (pl hl : Addr) : List (Str × V) := [("cursor", .ref c), ("first", .int f), ("depth", .int d), ("parts", .ref pl), ("held", .ref hl)]
theorem re_cursor (c : Addr) (f d : Int) (pl hl : Addr) : (ReF c f d pl hl).lookup ("cursor" : Str) = some (.ref c) := by kernel_rfl
theorem re_first (c : Addr) (f d : Int) (pl hl : Addr) : (ReF c f d pl hl).lookup ("first" : Str) = some (.int f) := by kernel_rfl
theorem re_depth (c : Addr) (f d : Int) (pl hl : Addr) : (ReF c f d pl hl).lookup ("depth" : Str) = some (.int d) := by kernel_rfl
theorem re_parts (c : Addr) (f d : Int) (pl hl : Addr) : (ReF c f d pl hl).lookup ("parts" : Str) = some (.ref pl) := by kernel_rfl
theorem re_held (c : Addr) (f d : Int) (pl hl : Addr) : (ReF c f d pl hl).lookup ("held" : Str) = some (.ref hl) := by kernel_rfl
theorem re_put (c : Addr) (f d e : Int) (pl hl : Addr) : putF "depth" (.int e) (ReF c f d pl hl) = ReF c f e pl hl := by kernel_rfl
theorem re_none (m : Str) (hm : m = "look_at_depth" ∨ m = "begin_within" ∨ m = "end_within" ∨ m = "take_counted" ∨ m = "settle" ∨ m = "settle_all") (c : Addr) (f d : Int) (pl hl : Addr) : (ReF c f d pl hl).lookup m = none := by
  rcases hm with rfl | rfl | rfl | rfl | rfl | rfl <;> kernel_rfl
/-- the reader at a: its cursor, its lists, where it stands; sl more pieces than things in its lists -/
structure Er (K : PySem.W.Frag) (H : Hp) (a c l pl hl : Addr) (f0 : Nat) (s : Es) (ne : Bool) (sl : Nat) : Prop where
  ob : ∃ dx, H a = some (.ins (CE' K) dx (ReF c (f0 : Int) s.d pl hl))
  cur : Cur (CU K) H c l (f0 + s.n) s.r
  wf : Wf s.r
  lists : ∃ (xs : List V) (qs : List Addr), H pl = some (.lst xs) ∧ H hl = some (.lst (qs.reverse.map V.ref)) ∧ Pt H xs s.b ne ∧ Helds H qs s.h ∧ xs.length + qs.length + sl ≤ s.n
  ne1 : pl ≠ hl
  ne2 : pl ≠ l
  ne3 : hl ≠ l
abbrev M4 (c a pl hl : Addr) : List Addr := [c, a, pl, hl]
theorem HeldAt.keep {as : List Addr} {H H' : Hp} (h : ButL as H H') (m : Mu as H) {q : Addr} {t : Nat × Nat} (x : HeldAt H q t) : HeldAt H' q t := by
  obtain ⟨w, v, i, a, b⟩ := x
  exact ⟨w, v, i, h.tup m a, b⟩
theorem Helds.keep {as : List Addr} {H H' : Hp} (h : ButL as H H') (m : Mu as H) : ∀ {qs : List Addr} {ts : List (Nat × Nat)}, Helds H qs ts → Helds H' qs ts
  | [], [], _ => trivial
  | p :: ps, t :: ts, x => ⟨HeldAt.keep h m x.1, Helds.keep h m x.2⟩
  | [], _ :: _, x => x.elim
  | _ :: _, [], x => x.elim
theorem Helds.len {H : Hp} : ∀ {qs : List Addr} {ts : List (Nat × Nat)}, Helds H qs ts → qs.length = ts.length
  | [], [], _ => rfl
  | p :: ps, t :: ts, x => congrArg Nat.succ (Helds.len x.2)
  | [], _ :: _, x => x.elim
  | _ :: _, [], x => x.elim
theorem Pt.keep {as : List Addr} {H H' : Hp} (h : ButL as H H') (m : Mu as H) {xs : List V} {b ne : Bool} (x : Pt H xs b ne) : Pt H' xs b ne := fun z => by
  obtain ⟨ys, p, w, tl, e, f, g⟩ := x z
  exact ⟨ys, p, w, tl, e, h.tup m f, g⟩
theorem Pt.weak {H : Hp} {xs : List V} {b ne : Bool} (x : Pt H xs b true) : Pt H xs b ne := fun _ => x rfl
theorem small_lists : (4000000 : Nat) < sizeLine := by rw [sizeLine_eq]; decide
section
variable {K : PySem.W.Frag} {H H' : Hp} {a c l pl hl : Addr} {f0 sl : Nat} {s : Es} {ne : Bool}
theorem Er.ac (e : Er K H a c l pl hl f0 s ne sl) : a ≠ c ∧ a ≠ pl ∧ a ≠ hl ∧ a ≠ l ∧ c ≠ pl ∧ c ≠ hl ∧ c ≠ l := by
  obtain ⟨dx, ho⟩ := e.ob
  obtain ⟨⟨dy, hc⟩, ps, hl', _⟩ := e.cur
  obtain ⟨xs, qs, hp, hh, _⟩ := e.lists
  exact ⟨ne_of ho hc (by intro z; injection z with _ _ z; have z2 := congrArg List.length z; simp at z2), ne_of ho hp (by intro z; cases z), ne_of ho hh (by intro z; cases z), ne_of ho hl' (by intro z; cases z), ne_of hc hp (by intro z; cases z), ne_of hc hh (by intro z; cases z), ne_of hc hl' (by intro z; cases z)⟩
theorem Er.mu (e : Er K H a c l pl hl f0 s ne sl) : Mu (M4 c a pl hl) H := by
  obtain ⟨dx, ho⟩ := e.ob
  obtain ⟨⟨dy, hc⟩, _⟩ := e.cur
  obtain ⟨xs, qs, hp, hh, _⟩ := e.lists
  intro x hx ys z
  simp only [List.mem_cons, List.mem_nil_iff, or_false] at hx
  rcases hx with rfl | rfl | rfl | rfl
  · rw [hc] at z; cases z
  · rw [ho] at z; cases z
  · rw [hp] at z; cases z
  · rw [hh] at z; cases z
theorem Er.mu1 (e : Er K H a c l pl hl f0 s ne sl) {x : Addr} (hx : x ∈ M4 c a pl hl) : Mu [x] H := by
  intro y hy
  have z : y = x := by simpa using hy
  rw [z]
  exact e.mu x hx
theorem Er.weak (e : Er K H a c l pl hl f0 s true sl) : Er K H a c l pl hl f0 s ne sl := by
  obtain ⟨xs, qs, h1, h2, h3, h4⟩ := e.lists
  exact ⟨e.ob, e.cur, e.wf, ⟨xs, qs, h1, h2, h3.weak, h4⟩, e.ne1, e.ne2, e.ne3⟩
theorem Er.any {b : Bool} (e : Er K H a c l pl hl f0 s ne sl) : Er K H a c l pl hl f0 { s with b := b } false sl := by
  obtain ⟨xs, qs, h1, h2, h3, h4⟩ := e.lists
  exact ⟨e.ob, e.cur, e.wf, ⟨xs, qs, h1, h2, (fun z => by cases z), h4⟩, e.ne1, e.ne2, e.ne3⟩
theorem Er.less {k : Nat} (e : Er K H a c l pl hl f0 s ne sl) (h : k ≤ sl) : Er K H a c l pl hl f0 s ne k := by
  obtain ⟨xs, qs, h1, h2, h3, h4, h5⟩ := e.lists
  exact ⟨e.ob, e.cur, e.wf, ⟨xs, qs, h1, h2, h3, h4, by omega⟩, e.ne1, e.ne2, e.ne3⟩
theorem Er.at (e : Er K H a c l pl hl f0 s ne sl) : At K c l H H s.r := At.begin e.cur e.wf
/-- a piece is taken -/
theorem Er.took (e : Er K H a c l pl hl f0 s ne sl) (b : ButL [c] H H') (cu : Cur (CU K) H' c l (f0 + s.n + 1) s.r.tail) (w : Wf s.r.tail) : Er K H' a c l pl hl f0 (take1 s) ne (sl + 1) := by
  obtain ⟨dx, ho⟩ := e.ob
  obtain ⟨xs, qs, hp, hh, h1, h2, h3⟩ := e.lists
  obtain ⟨n1, n2, n3, n4, n5, n6, n7⟩ := e.ac
  have m := e.mu1 (x := c) (by simp)
  exact ⟨⟨dx, b _ _ ho (by simp [n1])⟩, cu, w, ⟨xs, qs, b _ _ hp (by simp [n5.symm]), b _ _ hh (by simp [n6.symm]), h1.keep b m, h2.keep b m, Nat.succ_le_succ h3⟩, e.ne1, e.ne2, e.ne3⟩
/-- something new is laid -/
theorem Er.laid (e : Er K H a c l pl hl f0 s ne sl) {p : Addr} {o : HO} (h : H p = none) : Er K (upd H p o) a c l pl hl f0 s ne sl := by
  obtain ⟨dx, ho⟩ := e.ob
  obtain ⟨xs, qs, hp, hh, h1, h2, h3⟩ := e.lists
  have b : ButL [] H (upd H p o) := ButL.new h
  have m : Mu [] H := fun a ha => by cases ha
  exact ⟨⟨dx, b _ _ ho (by simp)⟩, e.cur.laid h, e.wf, ⟨xs, qs, b _ _ hp (by simp), b _ _ hh (by simp), h1.keep b m, h2.keep b m, h3⟩, e.ne1, e.ne2, e.ne3⟩
/-- a part more -/
theorem Er.part (e : Er K H a c l pl hl f0 s ne (sl + 1)) : ∃ xs : List V, H pl = some (.lst xs) ∧ xs.length < sizeLine ∧ ∀ (p : Addr) (z : Str) (tl : List V), H p = some (.tup (.str z :: tl)) →
    Er K (upd H pl (.lst (xs ++ [.ref p]))) a c l pl hl f0 { s with b := decide (z = "call") } true sl := by
  obtain ⟨dx, ho⟩ := e.ob
  obtain ⟨n1, n2, n3, n4, n5, n6, n7⟩ := e.ac
  obtain ⟨xs, qs, hp, hh, h1, h2, h3⟩ := e.lists
  obtain ⟨_, ps, _, _, zz⟩ := e.cur
  refine ⟨xs, hp, Nat.lt_of_le_of_lt (by omega) small_lists, fun p z tl ht => ?_⟩
  have b : ButL [pl] H (upd H pl (.lst (xs ++ [.ref p]))) := ButL.put (by simp)
  have m := e.mu1 (x := pl) (by simp)
  exact ⟨⟨dx, b _ _ ho (by simp [n2])⟩, e.cur.keep b m (by simp [n5]) (by simp [e.ne2.symm]), e.wf, ⟨_, qs, upd_same, b _ _ hh (by simp [e.ne1.symm]), fun _ => ⟨xs, p, z, tl, rfl, b.tup m ht, rfl⟩, h2.keep b m, by rw [List.length_append]; show xs.length + 1 + qs.length + sl ≤ s.n; omega⟩, e.ne1, e.ne2, e.ne3⟩
/-- one more is held -/
theorem Er.hold (e : Er K H a c l pl hl f0 s ne (sl + 1)) : ∃ ys : List V, H hl = some (.lst ys) ∧ ys.length < sizeLine ∧ ∀ (p : Addr) (t : Nat × Nat), HeldAt H p t →
    Er K (upd H hl (.lst (ys ++ [.ref p]))) a c l pl hl f0 { s with h := t :: s.h } ne sl := by
  obtain ⟨dx, ho⟩ := e.ob
  obtain ⟨n1, n2, n3, n4, n5, n6, n7⟩ := e.ac
  obtain ⟨xs, qs, hp, hh, h1, h2, h3⟩ := e.lists
  obtain ⟨_, ps, _, _, zz⟩ := e.cur
  refine ⟨_, hh, Nat.lt_of_le_of_lt (by rw [List.length_map, List.length_reverse]; omega) small_lists, fun p t ht => ?_⟩
  have b : ButL [hl] H (upd H hl (.lst (qs.reverse.map V.ref ++ [.ref p]))) := ButL.put (by simp)
  have m := e.mu1 (x := hl) (by simp)
  exact ⟨⟨dx, b _ _ ho (by simp [n3])⟩, e.cur.keep b m (by simp [n6]) (by simp [e.ne3.symm]), e.wf, ⟨xs, p :: qs, b _ _ hp (by simp [e.ne1]), by rw [upd_same, List.reverse_cons, List.map_append]; rfl, h1.keep b m, ⟨ht.keep b m, h2.keep b m⟩, by
    show xs.length + (qs.length + 1) + sl ≤ s.n
    omega⟩, e.ne1, e.ne2, e.ne3⟩
/-- the innermost one that is held: its tuple; it can go, or be another -/
theorem Er.top (e : Er K H a c l pl hl f0 s ne sl) {t : Nat × Nat} {h : List (Nat × Nat)} (hs : s.h = t :: h) : ∃ (ys : List V) (q : Addr), H hl = some (.lst (ys ++ [.ref q])) ∧ HeldAt H q t ∧
    Er K (upd H hl (.lst ys)) a c l pl hl f0 { s with h := h } ne (sl + 1) ∧
    ∀ (p : Addr) (t' : Nat × Nat), HeldAt H p t' → Er K (upd H hl (.lst (ys ++ [.ref p]))) a c l pl hl f0 { s with h := t' :: h } ne sl := by
  obtain ⟨dx, ho⟩ := e.ob
  obtain ⟨n1, n2, n3, n4, n5, n6, n7⟩ := e.ac
  obtain ⟨xs, qs, hp, hh, h1, h2, h3⟩ := e.lists
  rw [hs] at h2
  cases qs with
  | nil => exact h2.elim
  | cons q qs =>
    have h3' : xs.length + (qs.length + 1) + sl ≤ s.n := h3
    have m := e.mu1 (x := hl) (by simp)
    refine ⟨qs.reverse.map V.ref, q, by rw [hh, List.reverse_cons, List.map_append]; rfl, h2.1, ?_, fun p t' ht => ?_⟩
    · have b : ButL [hl] H (upd H hl (.lst (qs.reverse.map V.ref))) := ButL.put (by simp)
      exact ⟨⟨dx, b _ _ ho (by simp [n3])⟩, e.cur.keep b m (by simp [n6]) (by simp [e.ne3.symm]), e.wf, ⟨xs, qs, b _ _ hp (by simp [e.ne1]), upd_same, h1.keep b m, h2.2.keep b m, by show xs.length + qs.length + (sl + 1) ≤ s.n; omega⟩, e.ne1, e.ne2, e.ne3⟩
    · have b : ButL [hl] H (upd H hl (.lst (qs.reverse.map V.ref ++ [.ref p]))) := ButL.put (by simp)
      exact ⟨⟨dx, b _ _ ho (by simp [n3])⟩, e.cur.keep b m (by simp [n6]) (by simp [e.ne3.symm]), e.wf, ⟨xs, p :: qs, b _ _ hp (by simp [e.ne1]), by rw [upd_same, List.reverse_cons, List.map_append]; rfl, h1.keep b m, ⟨ht.keep b m, h2.2.keep b m⟩, h3⟩, e.ne1, e.ne2, e.ne3⟩
theorem Er.empty (e : Er K H a c l pl hl f0 s ne sl) : ∃ ys : List V, H hl = some (.lst ys) ∧ ys.isEmpty = s.h.isEmpty := by
  obtain ⟨xs, qs, hp, hh, h1, h2, h3⟩ := e.lists
  refine ⟨_, hh, ?_⟩
  have z := h2.len
  cases qs with
  | nil =>
    cases hz : s.h with
    | nil => rfl
    | cons t h => rw [hz] at z; cases z
  | cons q qs =>
    cases hz : s.h with
    | nil => rw [hz] at z; cases z
    | cons t h => rw [List.reverse_cons, List.map_append]; simp
/-- another depth -/
theorem Er.deep (e : Er K H a c l pl hl f0 s ne sl) {dx : Addr} {d : Int} : Er K (upd H a (.ins (CE' K) dx (ReF c (f0 : Int) d pl hl))) a c l pl hl f0 { s with d := d } ne sl := by
  obtain ⟨xs, qs, hp, hh, h1, h2, h3⟩ := e.lists
  obtain ⟨n1, n2, n3, n4, n5, n6, n7⟩ := e.ac
  have b : ButL [a] H (upd H a (.ins (CE' K) dx (ReF c (f0 : Int) d pl hl))) := ButL.put (by simp)
  have m := e.mu1 (x := a) (by simp)
  exact ⟨⟨dx, upd_same⟩, e.cur.keep b m (by simp [n1.symm]) (by simp [n4.symm]), e.wf, ⟨xs, qs, b _ _ hp (by simp [n2.symm]), b _ _ hh (by simp [n3.symm]), h1.keep b m, h2.keep b m, h3⟩, e.ne1, e.ne2, e.ne3⟩
end
theorem ButL.m4 {c a pl hl x : Addr} {H H' : Hp} (b : ButL [x] H H') (h : x ∈ M4 c a pl hl) : ButL (M4 c a pl hl) H H' := b.more fun y hy => by
  have z : y = x := by simpa using hy
  rw [z]; exact h
theorem sub4 {c a pl hl x : Addr} (hx : x ∈ [c]) : x ∈ M4 c a pl hl := by
  have z : x = c := by simpa using hx
  rw [z]; simp
/-- where a reader stands, what has been left as it was -/
structure Ea (K : PySem.W.Frag) (H0 H : Hp) (a c l pl hl : Addr) (f0 : Nat) (s : Es) (ne : Bool) (sl : Nat) : Prop where
  e : Er K H a c l pl hl f0 s ne sl
  b : ButL (M4 c a pl hl) H0 H
abbrev EGood (K : PySem.W.Frag) {β : Type} (Rel : β → V → Prop) (ne' : β → Bool) (a c l pl hl : Addr) (f0 : Nat) (H : Hp) (Q : VK) : β × Es → Prop := fun x => ∀ (v : V) (H' : Hp), Ea K H H' a c l pl hl f0 x.2 (ne' x.1) 0 → Rel x.1 v → Q v H'
/-- a def that moves a reader -/
def RunE (K : PySem.W.Frag) {β : Type} (F : Es → Rs (β × Es)) (Rel : β → V → Prop) (ne : Bool) (ne' : β → Bool) (a : Addr) (H : Hp) (Q : VK) (E : XK) : Prop := ∃ (c l pl hl : Addr) (f0 : Nat) (s : Es), Er K H a c l pl hl f0 s ne 0 ∧
  Post (F s) (EGood K Rel ne' a c l pl hl f0 H Q) (Bad (CB K) (M4 c a pl hl) H E)
section
variable {K : PySem.W.Frag} {a c l pl hl : Addr} {f0 sl : Nat} {s : Es} {ne : Bool} {H0 H : Hp} {E : XK} {Q : VK} {σ : L2.St} {ta : TE} {t : TA}
theorem RunE.step {α β : Type} {F : Es → Rs (α × Es)} {Rel : α → V → Prop} {ne' : α → Bool} {k : α × Es → Rs β} {good : β → Prop} (e : Ea K H0 H a c l pl hl f0 s ne sl) (h : Post (F s >>= k) good (Bad (CB K) (M4 c a pl hl) H0 E))
    (q : ∀ (x : α) (s' : Es) (v : V) (H' : Hp), Ea K H0 H' a c l pl hl f0 s' (ne' x) 0 → Rel x v → Post (k (x, s')) good (Bad (CB K) (M4 c a pl hl) H0 E) → Q v H') : RunE K F Rel ne ne' a H Q E :=
  ⟨c, l, pl, hl, f0, s, e.e.less (Nat.zero_le _), post_mono (post_bind h) (fun x z v H' e' rel => q x.1 x.2 v H' ⟨e'.e, e.b.trans e'.b⟩ rel z) (fun _ _ z => z.after e.b)⟩
theorem Er.start (e : Er K H a c l pl hl f0 s ne sl) : Ea K H H a c l pl hl f0 s ne sl := ⟨e, ButL.refl⟩
theorem Ea.laid (e : Ea K H0 H a c l pl hl f0 s ne sl) {p : Addr} {o : HO} (h : H p = none) : Ea K H0 (upd H p o) a c l pl hl f0 s ne sl := ⟨e.e.laid h, e.b.trans (ButL.new h)⟩
theorem Ea.part (e : Ea K H0 H a c l pl hl f0 s ne (sl + 1)) : ∃ xs : List V, H pl = some (.lst xs) ∧ xs.length < sizeLine ∧ ∀ (p : Addr) (z : Str) (tl : List V), H p = some (.tup (.str z :: tl)) →
    Ea K H0 (upd H pl (.lst (xs ++ [.ref p]))) a c l pl hl f0 { s with b := decide (z = "call") } true sl := by
  obtain ⟨xs, h1, h2, h3⟩ := e.e.part
  exact ⟨xs, h1, h2, fun p z tl ht => ⟨h3 p z tl ht, e.b.trans (ButL.put (by simp))⟩⟩
theorem Ea.hold (e : Ea K H0 H a c l pl hl f0 s ne (sl + 1)) : ∃ ys : List V, H hl = some (.lst ys) ∧ ys.length < sizeLine ∧ ∀ (p : Addr) (t : Nat × Nat), HeldAt H p t →
    Ea K H0 (upd H hl (.lst (ys ++ [.ref p]))) a c l pl hl f0 { s with h := t :: s.h } ne sl := by
  obtain ⟨xs, h1, h2, h3⟩ := e.e.hold
  exact ⟨xs, h1, h2, fun p t ht => ⟨h3 p t ht, e.b.trans (ButL.put (by simp))⟩⟩
/-- e.cursor -/
theorem rf_cursor {tx : TE} (T1 : Cls K (CE' K)) (T2 : NoAttr K (CE' K) "cursor") (ha : ∀ Q : VK, Q (.ref a) H → tx σ H Q) (e : Ea K H0 H a c l pl hl f0 s ne sl) : ∀ Q : VK, Q (.ref c) H → tFld K tx "cursor" σ H Q := by
  intro Q q
  obtain ⟨dx, ho⟩ := e.e.ob
  exact ha _ ⟨a, CE' K, dx, _, _, rfl, ho, T1, T2, re_cursor _ _ _ _ _, q⟩
theorem rf_parts {tx : TE} (T1 : Cls K (CE' K)) (T2 : NoAttr K (CE' K) "parts") (ha : ∀ Q : VK, Q (.ref a) H → tx σ H Q) (e : Ea K H0 H a c l pl hl f0 s ne sl) : ∀ Q : VK, Q (.ref pl) H → tFld K tx "parts" σ H Q := by
  intro Q q
  obtain ⟨dx, ho⟩ := e.e.ob
  exact ha _ ⟨a, CE' K, dx, _, _, rfl, ho, T1, T2, re_parts _ _ _ _ _, q⟩
theorem rf_held {tx : TE} (T1 : Cls K (CE' K)) (T2 : NoAttr K (CE' K) "held") (ha : ∀ Q : VK, Q (.ref a) H → tx σ H Q) (e : Ea K H0 H a c l pl hl f0 s ne sl) : ∀ Q : VK, Q (.ref hl) H → tFld K tx "held" σ H Q := by
  intro Q q
  obtain ⟨dx, ho⟩ := e.e.ob
  exact ha _ ⟨a, CE' K, dx, _, _, rfl, ho, T1, T2, re_held _ _ _ _ _, q⟩
/-- the cursor's methods by a reader -/
theorem rb_ahead (ha : ∀ Q : VK, Q (.ref c) H → ta σ H Q) (e : Ea K H0 H a c l pl hl f0 s ne sl) (q : Q (.str (srt (hd s.r))) H) : tMethG (CU K) "ahead" (sp_Cursor_ahead K) E ta tNil σ H Q := ra_ahead ha e.e.at q
theorem rb_take (ha : ∀ Q : VK, Q (.ref c) H → ta σ H Q) (e : Ea K H0 H a c l pl hl f0 s ne sl) (h0 : hd s.r ≠ 0)
    (q : ∀ (p : Addr) (z : Pc) (H' : Hp), Ea K H0 H' a c l pl hl f0 (take1 s) ne (sl + 1) → TokAt H' p z → s.r = z :: s.r.tail → Q (.ref p) H') : tMethG (CU K) "take" (sp_Cursor_take K) E ta tNil σ H Q := by
  have cu := e.e.cur
  obtain ⟨⟨dx, hc⟩, _⟩ := id cu
  exact ha _ ⟨c, dx, _, rfl, hc, cu_take _ _, _, rfl, c, l, _, s.r, rfl, cu, e.e.wf, h0, fun p z H' b cu' w' tk ee => q p z H' ⟨e.e.took b cu' w', e.b.trans (b.m4 (by simp))⟩ tk ee⟩
theorem rb_fail {α : Type} {good : α → Prop} (ha : ∀ Q : VK, Q (.ref c) H → ta σ H Q) (e : Ea K H0 H a c l pl hl f0 s ne sl) (h : Post (ill s.r : Rs α) good (Bad (CB K) (M4 c a pl hl) H0 E)) : tMethG (CU K) "fail" (sp_Cursor_fail K) E ta tNil σ H Q := by
  have cu := e.e.cur
  obtain ⟨⟨dx, hc⟩, _⟩ := id cu
  refine ha _ ⟨c, dx, _, rfl, hc, cu_fail _ _, _, rfl, c, l, _, s.r, rfl, cu, e.e.wf, ?_⟩
  cases hr : s.r with
  | nil => rw [hr] at h; exact h
  | cons z t => rw [hr] at h; exact Bad.less (bs := M4 c a pl hl) (Bad.after h e.b) (fun _ hx => sub4 hx)
theorem rb_want {α : Type} {u : Nat} {k : Es → Rs α} {good : α → Prop} (ha : ∀ Q : VK, Q (.ref c) H → ta σ H Q) (hs : ∀ R : List V → Hp → Prop, R [.str (srt u)] H → t σ H R) (h1 : u < 58) (h2 : u ≠ 0) (e : Ea K H0 H a c l pl hl f0 s ne sl) (h : Post (wantE u s >>= k) good (Bad (CB K) (M4 c a pl hl) H0 E))
    (q : ∀ (p : Addr) (z : Pc) (H' : Hp), Ea K H0 H' a c l pl hl f0 (take1 s) ne (sl + 1) → TokAt H' p z → z.1 = u → s.r = z :: s.r.tail → Post (k (take1 s)) good (Bad (CB K) (M4 c a pl hl) H0 E) → Q (.ref p) H') : tMethG (CU K) "want" (sp_Cursor_want K) E ta t σ H Q := by
  have cu := e.e.cur
  obtain ⟨⟨dx, hc⟩, _⟩ := id cu
  refine ha _ ⟨c, dx, _, rfl, hc, cu_want _ _, hs _ ⟨_, _, rfl, c, l, _, s.r, u, rfl, rfl, h1, h2, cu, e.e.wf, ?_⟩⟩
  by_cases z : hd s.r = u
  · have e1 : want u s.r = .ok s.r.tail := if_pos z
    have e2 : wantE u s = .ok (take1 s) := if_pos z
    rw [e1]
    rw [e2] at h
    intro p pc H' b cu' w' tk e3 e4
    exact q p pc H' ⟨e.e.took b cu' w', e.b.trans (b.m4 (by simp))⟩ tk e3 e4 h
  · have e1 : want u s.r = ill s.r := if_neg z
    have e2 : wantE u s = ill s.r := if_neg z
    rw [e1]
    rw [e2] at h
    cases hr : s.r with
    | nil => rw [hr] at h; exact h
    | cons z t =>
      rw [hr] at h
      exact Bad.less (bs := M4 c a pl hl) (Bad.after h e.b) (fun _ hx => sub4 hx)
end

theorem one_ix (T : True) : True := trivial
end Rd

namespace K03E
open PySem PySem.Spec PyProof.Rows L2 My Mir Rd
def dd_word_of : He.DefD := ⟨("word_of", none), "word_of", "word_of", defArgs s_word_of, defBody s_word_of, defScope s_word_of, [], []⟩
def dd_pieces_of : He.DefD := ⟨("pieces_of", none), "pieces_of", "pieces_of", defArgs s_pieces_of, defBody s_pieces_of, defScope s_pieces_of, [], []⟩
def dd__pieces_in : He.DefD := ⟨("_pieces_in", none), "_pieces_in", "_pieces_in", defArgs s__pieces_in, defBody s__pieces_in, defScope s__pieces_in, [], []⟩
def dd__size_of : He.DefD := ⟨("_size_of", none), "_size_of", "_size_of", defArgs s__size_of, defBody s__size_of, defScope s__size_of, [], []⟩
def dd__sort_of : He.DefD := ⟨("_sort_of", none), "_sort_of", "_sort_of", defArgs s__sort_of, defBody s__sort_of, defScope s__sort_of, [], []⟩
def dd__number_of : He.DefD := ⟨("_number_of", none), "_number_of", "_number_of", defArgs s__number_of, defBody s__number_of, defScope s__number_of, [], []⟩
def dd__figures_read : He.DefD := ⟨("_figures_read", none), "_figures_read", "_figures_read", defArgs s__figures_read, defBody s__figures_read, defScope s__figures_read, [], []⟩
def dd_read_expression : He.DefD := ⟨("read_expression", none), "read_expression", "read_expression", defArgs s_read_expression, defBody s_read_expression, defScope s_read_expression, [], []⟩
def dd__strength_of : He.DefD := ⟨("_strength_of", none), "_strength_of", "_strength_of", defArgs s__strength_of, defBody s__strength_of, defScope s__strength_of, [], []⟩
def dd__read_operand : He.DefD := ⟨("_read_operand", none), "_read_operand", "_read_operand", defArgs s__read_operand, defBody s__read_operand, defScope s__read_operand, [], []⟩
def dd__read_number : He.DefD := ⟨("_read_number", none), "_read_number", "_read_number", defArgs s__read_number, defBody s__read_number, defScope s__read_number, [], []⟩
def dd__read_name : He.DefD := ⟨("_read_name", none), "_read_name", "_read_name", defArgs s__read_name, defBody s__read_name, defScope s__read_name, [], []⟩
def dd__read_in_or_more : He.DefD := ⟨("_read_in_or_more", none), "_read_in_or_more", "_read_in_or_more", defArgs s__read_in_or_more, defBody s__read_in_or_more, defScope s__read_in_or_more, [], []⟩
def dd__read_bracket : He.DefD := ⟨("_read_bracket", none), "_read_bracket", "_read_bracket", defArgs s__read_bracket, defBody s__read_bracket, defScope s__read_bracket, [], []⟩
def dd__read_behind : He.DefD := ⟨("_read_behind", none), "_read_behind", "_read_behind", defArgs s__read_behind, defBody s__read_behind, defScope s__read_behind, [], []⟩
def dd__read_field : He.DefD := ⟨("_read_field", none), "_read_field", "_read_field", defArgs s__read_field, defBody s__read_field, defScope s__read_field, [], []⟩
def dd__close : He.DefD := ⟨("_close", none), "_close", "_close", defArgs s__close, defBody s__close, defScope s__close, [], []⟩
def dd_read_kind : He.DefD := ⟨("read_kind", none), "read_kind", "read_kind", defArgs s_read_kind, defBody s_read_kind, defScope s_read_kind, [], []⟩
def dd_read_many : He.DefD := ⟨("read_many", none), "read_many", "read_many", defArgs s_read_many, defBody s_read_many, defScope s_read_many, [], []⟩
def dd_read_firsts : He.DefD := ⟨("read_firsts", none), "read_firsts", "read_firsts", defArgs s_read_firsts, defBody s_read_firsts, defScope s_read_firsts, [], []⟩
def dd_read_statements : He.DefD := ⟨("read_statements", none), "read_statements", "read_statements", defArgs s_read_statements, defBody s_read_statements, defScope s_read_statements, [], []⟩
def dd__read_statement : He.DefD := ⟨("_read_statement", none), "_read_statement", "_read_statement", defArgs s__read_statement, defBody s__read_statement, defScope s__read_statement, [], []⟩
def dd__read_declaration : He.DefD := ⟨("_read_declaration", none), "_read_declaration", "_read_declaration", defArgs s__read_declaration, defBody s__read_declaration, defScope s__read_declaration, [], []⟩
def dd__read_plain : He.DefD := ⟨("_read_plain", none), "_read_plain", "_read_plain", defArgs s__read_plain, defBody s__read_plain, defScope s__read_plain, [], []⟩
def dd__read_test : He.DefD := ⟨("_read_test", none), "_read_test", "_read_test", defArgs s__read_test, defBody s__read_test, defScope s__read_test, [], []⟩
def dd__read_braces : He.DefD := ⟨("_read_braces", none), "_read_braces", "_read_braces", defArgs s__read_braces, defBody s__read_braces, defScope s__read_braces, [], []⟩
def dd__read_if : He.DefD := ⟨("_read_if", none), "_read_if", "_read_if", defArgs s__read_if, defBody s__read_if, defScope s__read_if, [], []⟩
def dd__read_while : He.DefD := ⟨("_read_while", none), "_read_while", "_read_while", defArgs s__read_while, defBody s__read_while, defScope s__read_while, [], []⟩
def dd__read_do : He.DefD := ⟨("_read_do", none), "_read_do", "_read_do", defArgs s__read_do, defBody s__read_do, defScope s__read_do, [], []⟩
def dd__read_for : He.DefD := ⟨("_read_for", none), "_read_for", "_read_for", defArgs s__read_for, defBody s__read_for, defScope s__read_for, [], []⟩
def dd__read_switch : He.DefD := ⟨("_read_switch", none), "_read_switch", "_read_switch", defArgs s__read_switch, defBody s__read_switch, defScope s__read_switch, [], []⟩
def dd__read_case : He.DefD := ⟨("_read_case", none), "_read_case", "_read_case", defArgs s__read_case, defBody s__read_case, defScope s__read_case, [], []⟩
def dd__read_leaving : He.DefD := ⟨("_read_leaving", none), "_read_leaving", "_read_leaving", defArgs s__read_leaving, defBody s__read_leaving, defScope s__read_leaving, [], []⟩
def dd__read_return : He.DefD := ⟨("_read_return", none), "_read_return", "_read_return", defArgs s__read_return, defBody s__read_return, defScope s__read_return, [], []⟩
def dd__read_told : He.DefD := ⟨("_read_told", none), "_read_told", "_read_told", defArgs s__read_told, defBody s__read_told, defScope s__read_told, [], []⟩
def dd_read_module : He.DefD := ⟨("read_module", none), "read_module", "read_module", defArgs s_read_module, defBody s_read_module, defScope s_read_module, [], []⟩
def dd__read_item : He.DefD := ⟨("_read_item", none), "_read_item", "_read_item", defArgs s__read_item, defBody s__read_item, defScope s__read_item, [], []⟩
def dd__read_structure : He.DefD := ⟨("_read_structure", none), "_read_structure", "_read_structure", defArgs s__read_structure, defBody s__read_structure, defScope s__read_structure, [], []⟩
def dd__read_function : He.DefD := ⟨("_read_function", none), "_read_function", "_read_function", defArgs s__read_function, defBody s__read_function, defScope s__read_function, [], []⟩
def dd__read_param : He.DefD := ⟨("_read_param", none), "_read_param", "_read_param", defArgs s__read_param, defBody s__read_param, defScope s__read_param, [], []⟩
def dd__law_cell_at : He.DefD := ⟨("_law_cell_at", none), "_law_cell_at", "_law_cell_at", defArgs s__law_cell_at, defBody s__law_cell_at, defScope s__law_cell_at, [], []⟩
def dd__law_draw : He.DefD := ⟨("_law_draw", none), "_law_draw", "_law_draw", defArgs s__law_draw, defBody s__law_draw, defScope s__law_draw, [], []⟩
def dd__law_number : He.DefD := ⟨("_law_number", none), "_law_number", "_law_number", defArgs s__law_number, defBody s__law_number, defScope s__law_number, [], []⟩
def dd__law_next : He.DefD := ⟨("_law_next", none), "_law_next", "_law_next", defArgs s__law_next, defBody s__law_next, defScope s__law_next, [], []⟩
def dd__law_pick : He.DefD := ⟨("_law_pick", none), "_law_pick", "_law_pick", defArgs s__law_pick, defBody s__law_pick, defScope s__law_pick, [], []⟩
def dd__law_wrong : He.DefD := ⟨("_law_wrong", none), "_law_wrong", "_law_wrong", defArgs s__law_wrong, defBody s__law_wrong, defScope s__law_wrong, [], []⟩
def dd_law : He.DefD := ⟨("law", none), "law", "law", defArgs s_law, defBody s_law, defScope s_law, [], []⟩
def dd_BadText___init__ : He.DefD := ⟨("BadText", some "__init__"), "__init__", "BadText.__init__", defArgs s_BadText___init__, defBody s_BadText___init__, defScope s_BadText___init__, [], []⟩
def dd_Cursor___init__ : He.DefD := ⟨("Cursor", some "__init__"), "__init__", "Cursor.__init__", defArgs s_Cursor___init__, defBody s_Cursor___init__, defScope s_Cursor___init__, [], []⟩
def dd_Cursor_ahead : He.DefD := ⟨("Cursor", some "ahead"), "ahead", "Cursor.ahead", defArgs s_Cursor_ahead, defBody s_Cursor_ahead, defScope s_Cursor_ahead, [], []⟩
def dd_Cursor_spot : He.DefD := ⟨("Cursor", some "spot"), "spot", "Cursor.spot", defArgs s_Cursor_spot, defBody s_Cursor_spot, defScope s_Cursor_spot, [], []⟩
def dd_Cursor_take : He.DefD := ⟨("Cursor", some "take"), "take", "Cursor.take", defArgs s_Cursor_take, defBody s_Cursor_take, defScope s_Cursor_take, [], []⟩
def dd_Cursor_want : He.DefD := ⟨("Cursor", some "want"), "want", "Cursor.want", defArgs s_Cursor_want, defBody s_Cursor_want, defScope s_Cursor_want, [], []⟩
def dd_Cursor_fail : He.DefD := ⟨("Cursor", some "fail"), "fail", "Cursor.fail", defArgs s_Cursor_fail, defBody s_Cursor_fail, defScope s_Cursor_fail, [], []⟩
def dd_ExpressionReader___init__ : He.DefD := ⟨("ExpressionReader", some "__init__"), "__init__", "ExpressionReader.__init__", defArgs s_ExpressionReader___init__, defBody s_ExpressionReader___init__, defScope s_ExpressionReader___init__, [], []⟩
def dd_ExpressionReader_look_at_depth : He.DefD := ⟨("ExpressionReader", some "look_at_depth"), "look_at_depth", "ExpressionReader.look_at_depth", defArgs s_ExpressionReader_look_at_depth, defBody s_ExpressionReader_look_at_depth, defScope s_ExpressionReader_look_at_depth, [], []⟩
def dd_ExpressionReader_begin_within : He.DefD := ⟨("ExpressionReader", some "begin_within"), "begin_within", "ExpressionReader.begin_within", defArgs s_ExpressionReader_begin_within, defBody s_ExpressionReader_begin_within, defScope s_ExpressionReader_begin_within, [], []⟩
def dd_ExpressionReader_end_within : He.DefD := ⟨("ExpressionReader", some "end_within"), "end_within", "ExpressionReader.end_within", defArgs s_ExpressionReader_end_within, defBody s_ExpressionReader_end_within, defScope s_ExpressionReader_end_within, [], []⟩
def dd_ExpressionReader_take_counted : He.DefD := ⟨("ExpressionReader", some "take_counted"), "take_counted", "ExpressionReader.take_counted", defArgs s_ExpressionReader_take_counted, defBody s_ExpressionReader_take_counted, defScope s_ExpressionReader_take_counted, [], []⟩
def dd_ExpressionReader_settle : He.DefD := ⟨("ExpressionReader", some "settle"), "settle", "ExpressionReader.settle", defArgs s_ExpressionReader_settle, defBody s_ExpressionReader_settle, defScope s_ExpressionReader_settle, [], []⟩
def dd_ExpressionReader_settle_all : He.DefD := ⟨("ExpressionReader", some "settle_all"), "settle_all", "ExpressionReader.settle_all", defArgs s_ExpressionReader_settle_all, defBody s_ExpressionReader_settle_all, defScope s_ExpressionReader_settle_all, [], []⟩
def hfn : List He.DefD := ([dd_word_of, dd_pieces_of, dd__pieces_in, dd__size_of, dd__sort_of, dd__number_of, dd__figures_read, dd_read_expression, dd__strength_of, dd__read_operand, dd__read_number, dd__read_name, dd__read_in_or_more, dd__read_bracket, dd__read_behind, dd__read_field, dd__close, dd_read_kind, dd_read_many, dd_read_firsts] : List He.DefD) ++ ([dd_read_statements, dd__read_statement, dd__read_declaration, dd__read_plain, dd__read_test, dd__read_braces, dd__read_if, dd__read_while, dd__read_do, dd__read_for, dd__read_switch, dd__read_case, dd__read_leaving, dd__read_return, dd__read_told, dd_read_module, dd__read_item, dd__read_structure, dd__read_function, dd__read_param] : List He.DefD) ++ ([dd__law_cell_at, dd__law_draw, dd__law_number, dd__law_next, dd__law_pick, dd__law_wrong, dd_law, dd_BadText___init__, dd_Cursor___init__, dd_Cursor_ahead, dd_Cursor_spot, dd_Cursor_take, dd_Cursor_want, dd_Cursor_fail, dd_ExpressionReader___init__, dd_ExpressionReader_look_at_depth, dd_ExpressionReader_begin_within, dd_ExpressionReader_end_within, dd_ExpressionReader_take_counted, dd_ExpressionReader_settle] : List He.DefD) ++ ([dd_ExpressionReader_settle_all] : List He.DefD)
def hfa : List He.Fa := ([.glo "word_of", .glo "pieces_of", .glo "_pieces_in", .glo "_size_of", .glo "_sort_of", .glo "_number_of", .glo "_figures_read", .glo "read_expression", .glo "_strength_of", .glo "_read_operand", .glo "_read_number", .glo "_read_name", .glo "_read_in_or_more", .glo "_read_bracket", .glo "_read_behind", .glo "_read_field", .glo "_close", .glo "read_kind", .glo "read_many", .glo "read_firsts"] : List He.Fa) ++ ([.glo "read_statements", .glo "_read_statement", .glo "_read_declaration", .glo "_read_plain", .glo "_read_test", .glo "_read_braces", .glo "_read_if", .glo "_read_while", .glo "_read_do", .glo "_read_for", .glo "_read_switch", .glo "_read_case", .glo "_read_leaving", .glo "_read_return", .glo "_read_told", .glo "read_module", .glo "_read_item", .glo "_read_structure", .glo "_read_function", .glo "_read_param"] : List He.Fa) ++ ([.glo "_law_cell_at", .glo "_law_draw", .glo "_law_number", .glo "_law_next", .glo "_law_pick", .glo "_law_wrong", .glo "law", .glo "OWN_WORDS", .glo "STRENGTHS", .glo "CLOSING", .glo "BEGINNINGS", .glo "STATEMENTS", .glo "LONG_SIGNS", .glo "AHEAD", .glo "KINDS", .glo "Cursor", .glo "ExpressionReader", .glo "BadText", .free "len", .free "tuple"] : List He.Fa) ++ ([.free "isinstance", .free "str", .free "enumerate", .free "range", .free "int", .free "max", .int "GREATEST" 4294967295, .int "HALF" 2147483648, .int "MOST_SIGNS" 24, .int "MOST_FIGURES" 10, .int "STRENGTH_AHEAD" 11, .int "MOST_WITHIN" 30, .int "MOST_PIECES" 120, .str "NAME" "name", .str "NUMBER" "number", .str "WRONG" "wrong", .str "END" "end", .str "SHORT_SIGNS" "+-*/&|^~!<>=?:;,.()[]{}", .str "FIGURES" "0123456789", .str "SMALL_FIGURES" "0123456789abcdef"] : List He.Fa) ++ ([.str "LETTERS" "_ABCDEFGHIJKLMNOPQRSTUVWXYZabcdefghijklmnopqrstuvwxyz", .cls "Cursor", .mkr "Cursor", .cls "ExpressionReader", .mkr "ExpressionReader", .noat "Cursor" "pieces", .noat "Cursor" "at", .noat "ExpressionReader" "cursor", .noat "ExpressionReader" "first", .noat "ExpressionReader" "depth", .noat "ExpressionReader" "parts", .noat "ExpressionReader" "held", .meth "Cursor" "__init__", .meth "Cursor" "ahead", .meth "Cursor" "spot", .meth "Cursor" "take", .meth "Cursor" "want", .meth "Cursor" "fail", .meth "ExpressionReader" "__init__", .meth "ExpressionReader" "look_at_depth"] : List He.Fa) ++ ([.meth "ExpressionReader" "begin_within", .meth "ExpressionReader" "end_within", .meth "ExpressionReader" "take_counted", .meth "ExpressionReader" "settle", .meth "ExpressionReader" "settle_all"] : List He.Fa)
def hts : List He.Tab := [(fun K => He.ga K "OWN_WORDS", ["module", "use", "struct", "int", "uint", "void", "if", "else", "while", "do", "for", "break", "continue", "switch", "case", "default", "return", "out", "assert", "in", "more", "length", "mod"]), (fun K => He.ga K "STRENGTHS", ["||", "&&", "|", "^", "&", "==", "!=", "<", "<=", ">", ">=", "<<", ">>", "+", "-", "*", "/", "mod"]), (fun K => He.ga K "CLOSING", ["?", "call", "(", "index"]), (fun K => He.ga K "BEGINNINGS", ["number", "name", "in", "more", "("]), (fun K => He.ga K "STATEMENTS", ["{", "if", "while", "do", "for", "switch", "break", "continue", "return", "out", "assert"])]
def tabB (f : Nat → Option He.Dv) (K : PySem.W.Frag) (a : Addr) : Bool := (List.range 58).all fun c => match f c with
  | none => He.eqO (PySem.W.nsIn K a (srt c)) (some none)
  | some v => match PySem.W.nsIn K a (srt c) with
    | some (some u) => He.relB (v.v K) u
    | _ => false
theorem tabB_ok {f : Nat → Option He.Dv} {K : PySem.W.Frag} {a : Addr} (h : tabB f K a = true) : tabOf f K a := by
  intro c hc
  have h1 := List.all_eq_true.mp h c (List.mem_range.mpr hc)
  cases e : f c with
  | none =>
    rw [e] at h1
    exact ⟨fun _ => He.eqO_ok h1, (fun v z => by cases z)⟩
  | some v =>
    rw [e] at h1
    refine ⟨(fun z => by cases z), fun u z => ?_⟩
    have : v = u := Option.some.inj z
    subst this
    have h2 : (match PySem.W.nsIn K a (srt c) with
      | some (some u) => He.relB (v.v K) u
      | _ => false) = true := h1
    cases e2 : PySem.W.nsIn K a (srt c) with
    | none => rw [e2] at h2; cases h2
    | some o =>
      rw [e2] at h2
      cases o with
      | none => cases h2
      | some u => exact ⟨u, rfl, He.relB_ok h2⟩
def missB (K : PySem.W.Frag) (a : Addr) (xs : List Str) : Bool := xs.all fun x => He.eqO (PySem.W.nsIn K a x) (some none)
def btB (K : PySem.W.Frag) (C : Addr) : Bool := PySem.W.excInitIn K C Bt.exB "Exception.__new__" && (PySem.W.excOver K C Bt.exB && ((match PySem.W.clsIn K C with
    | some cd => cd.hasDict
    | none => false) && (He.eqO (PySem.W.findIn K (.ref C) "__setattr__") (some (some (.builtin "object.__setattr__"))) && (He.eqO (PySem.W.findIn K (.ref C) "__getattribute__") (some (some (.builtin "BaseException.__getattribute__"))) &&
  (He.eqO (PySem.W.findIn K (.ref C) "__getattr__") (some none) && (He.eqO (PySem.W.findIn K (.ref C) "line") (some none) && (He.eqO (PySem.W.findIn K (.ref C) "column") (some none) && (He.eqO (PySem.W.findIn K (.ref C) "__init__") (some (some (.ref (He.ma K C "__init__")))) &&
  (decide (PySem.W.typeIn K (.ref (He.ma K C "__init__")) = some (.type "function")) && (PySem.W.keepIn K (.ref C) && (decide (PySem.W.subIn K (.ref C) (.type "BaseException") = some true) && (decide (PySem.W.typeIn K (.ref C) = some (.type "type")) && (PySem.W.hasDictIn K C && decide (PySem.W.exmOne K (.ref C) (.ref C) = some true))))))))))))))
def hex (K : PySem.W.Frag) : Bool := (tabB fSTRENGTHS K (He.ga K "STRENGTHS") && (tabB fBEGINNINGS K (He.ga K "BEGINNINGS") && (tabB fSTATEMENTS K (He.ga K "STATEMENTS") && (tabB fOWN K (He.ga K "OWN_WORDS") && (missB K (He.ga K "OWN_WORDS") ["m", "main", "0", "1"] && (He.valsB K (He.ga K "CLOSING") [("?", .str ":"), ("call", .str ")"), ("(", .str ")"), ("index", .str "]")] && (He.tupB K "LONG_SIGNS" [.str "<<", .str ">>", .str "<=", .str ">=", .str "==", .str "!=", .str "&&", .str "||"] && (He.tupB K "AHEAD" [.str "!", .str "~", .str "-"] && (He.tupB K "KINDS" [.str "int", .str "uint", .str "struct"] && (btB K (He.ga K "BadText") && true))))))))))
abbrev hk : PySem.W.Hook := He.hookX 5 hfa hfn hts [] hex
def hob (s : PySem.W.SharedT) : He.AlX := He.obsX 5 hfa hfn hts [] hex (HandSHeadRun.getT s)
theorem hob_eq (s : PySem.W.SharedT) : hob s = hk.obs s.abs := He.obsX_eq (HandSHeadRun.getT_eq s)
def hloose : List Str := (["ImageError", "BadText", "GREATEST", "HALF", "word_of", "NAME", "NUMBER", "WRONG", "END", "OWN_WORDS", "LONG_SIGNS", "SHORT_SIGNS", "FIGURES", "SMALL_FIGURES", "LETTERS", "MOST_SIGNS", "MOST_FIGURES", "Cursor", "pieces_of", "_pieces_in"] : List Str) ++ (["_size_of", "_sort_of", "_number_of", "_figures_read", "STRENGTHS", "CLOSING", "AHEAD", "STRENGTH_AHEAD", "MOST_WITHIN", "MOST_PIECES", "ExpressionReader", "read_expression", "_strength_of", "_read_operand", "_read_number", "_read_name", "_read_in_or_more", "_read_bracket", "BEGINNINGS", "_read_behind"] : List Str) ++ (["_read_field", "_close", "KINDS", "read_kind", "read_many", "read_firsts", "read_statements", "_read_statement", "_read_declaration", "_read_plain", "_read_test", "_read_braces", "_read_if", "_read_while", "_read_do", "_read_for", "_read_switch", "_read_case", "_read_leaving", "_read_return"] : List Str) ++ (["_read_told", "STATEMENTS", "read_module", "_read_item", "_read_structure", "_read_function", "_read_param", "_law_cell_at", "_law_draw", "_law_number", "_law_next", "_law_pick", "_law_wrong"] : List Str)
theorem hrunF (w : World) : HandSHeadRun.RunEq (PySem.W.OpenLaw.row PySem.Challenge.rw_trueimage_k03_whole_deep_texts) (PySem.W.view (PySem.W.OpenLaw.row PySem.Challenge.rw_trueimage_k03_whole_deep_texts).prog [80]) hk hob 9000 hloose (w.withFollow "special-get-raises" false) := by
  intro os
  kernel_rfl
theorem hrunT (w : World) : HandSHeadRun.RunEq (PySem.W.OpenLaw.row PySem.Challenge.rw_trueimage_k03_whole_deep_texts) (PySem.W.view (PySem.W.OpenLaw.row PySem.Challenge.rw_trueimage_k03_whole_deep_texts).prog [80]) hk hob 9000 hloose (w.withFollow "special-get-raises" true) := by
  intro os
  kernel_rfl
theorem hrun (w : World) : HandSHeadRun.RunEq (PySem.W.OpenLaw.row PySem.Challenge.rw_trueimage_k03_whole_deep_texts) (PySem.W.view (PySem.W.OpenLaw.row PySem.Challenge.rw_trueimage_k03_whole_deep_texts).prog [80]) hk hob 9000 hloose w := PySem.W.byRow2 "special-get-raises" (P := fun w => HandSHeadRun.RunEq (PySem.W.OpenLaw.row PySem.Challenge.rw_trueimage_k03_whole_deep_texts) (PySem.W.view (PySem.W.OpenLaw.row PySem.Challenge.rw_trueimage_k03_whole_deep_texts).prog [80]) hk hob 9000 hloose w) hrunF hrunT w
end K03E

namespace Rd
open PySem PySem.Spec PyProof.Rows L2 My Mir
def wfB : List Pc → Bool
  | [] => false
  | [t] => Nat.beq t.1 0
  | t :: u :: r => !(Nat.beq t.1 0) && Nat.ble (t.1 + 1) 58 && wfB (u :: r)
def outB (due : Option (Nat × Nat)) : Rs (List Pc) → Bool
  | .ok _ => due.isNone
  | .bad l k => match due with
    | some (a, b) => Nat.beq l a && Nat.beq k b
    | none => false
  | .out => false
def okB (cs : List Nat) (due : Option (Nat × Nat)) : Bool := match lexT 500 cs with
  | none => false
  | some r => wfB r && outB due (modul 500 r) && Nat.ble r.length 1000000 && Nat.ble 1 cs.length && Nat.ble cs.length 1000000 && Nat.ble (linesL cs).length 1000000 && (linesL cs).all fun l => Nat.ble l.length 1000000
def tA : List Nat := [109, 111, 100, 117, 108, 101, 32, 109, 59, 10, 105, 110, 116, 32, 109, 97, 105, 110, 40, 41, 32, 123, 10]
def tB : List Nat := [10, 114, 101, 116, 117, 114, 110, 32, 48, 59, 32, 125]
def tO : List Nat := [111, 117, 116, 40]
def tI : List Nat := [105, 102, 32, 40, 49, 41, 32, 123, 32, 125, 32, 101, 108, 115, 101, 10]
def tE : List Nat := [123, 32, 125, 10, 114, 101, 116, 117, 114, 110, 32, 48, 59, 32, 125]
def tHead (b : Nat) : List Nat := tA ++ (List.replicate b [123]).flatten
def tTail (b : Nat) : List Nat := (List.replicate b [125]).flatten ++ tB
def tLine (k : Nat) : List Nat := tO ++ (List.replicate k [40]).flatten ++ [49] ++ (List.replicate k [41]).flatten ++ [41, 59]
def tRow (n : Nat) : List Nat := tO ++ ([49] ++ (List.replicate n [43, 49]).flatten) ++ [41, 59]
def tSig (c n : Nat) : List Nat := tO ++ (List.replicate n [c]).flatten ++ [49, 41, 59]
def tChain (n : Nat) : List Nat := tA ++ (List.replicate n tI).flatten ++ tE
theorem all_lines : ∀ b, b < 12 → ∀ m, m < 6 → okB (tHead b ++ tLine (26 + m - b) ++ tTail b) (if 26 + m ≤ 28 then none else some (3, b + 4 + 29 - b + 1)) = true := by decide +kernel
theorem all_rows : ∀ b, b < 12 → ∀ n, n < 10 → okB (tHead b ++ tRow (54 + n) ++ tTail b) (if 2 * (54 + n) < 120 then none else some (3, b + 4 + 121)) = true := by decide +kernel
theorem all_sigs1 : ∀ b, b < 12 → ∀ n, n < 9 → okB (tHead b ++ tSig 33 (115 + n) ++ tTail b) (if 115 + n < 120 then none else some (3, b + 4 + (115 + n) + 1)) = true := by decide +kernel
theorem all_sigs2 : ∀ b, b < 12 → ∀ n, n < 9 → okB (tHead b ++ tSig 45 (115 + n) ++ tTail b) (if 115 + n < 120 then none else some (3, b + 4 + (115 + n) + 1)) = true := by decide +kernel
theorem all_sigs3 : ∀ b, b < 12 → ∀ n, n < 9 → okB (tHead b ++ tSig 126 (115 + n) ++ tTail b) (if 115 + n < 120 then none else some (3, b + 4 + (115 + n) + 1)) = true := by decide +kernel
def badPlace (cs : List Nat) : Option (Nat × Nat) := match lexT 500 cs with
  | none => none
  | some r => match modul 500 r with
    | .bad l k => some (l, k)
    | _ => none
theorem all_chain : ∀ n, n < 12 → okB (tChain (22 + n)) (badPlace (tChain (22 + n))) = true ∧ (badPlace (tChain (22 + n))).isNone = Nat.ble (22 + n + 1) 30 := by decide +kernel
theorem wfB_ok : ∀ {r : List Pc}, wfB r = true → Wf r
  | [], h => by cases h
  | [t], h => Nat.eq_of_beq_eq_true h
  | t :: u :: r, h => by
    have h1 : (!(Nat.beq t.1 0) && Nat.ble (t.1 + 1) 58 && wfB (u :: r)) = true := h
    rw [Bool.and_eq_true, Bool.and_eq_true] at h1
    refine ⟨⟨?_, Nat.le_of_ble_eq_true h1.1.2⟩, wfB_ok h1.2⟩
    intro z
    rw [z] at h1
    exact absurd h1.1.1 (by decide)
end Rd

namespace Rd
open PySem PySem.Spec PyProof.Rows L2 My Mir
section
variable {P : Program} {w : World} {K : PySem.W.Frag} {mg : Str → Option Value} {base : Heap}
theorem sc_Cursor___init__ : FnScope ["self", "pieces"] ["self", "pieces"] (defScope s_Cursor___init__) := ⟨rfl, rfl, rfl, by decide +kernel, rfl, by decide +kernel, by decide +kernel⟩
theorem g_Cursor___init__ (T : Txt K mg w)  : Gm P w K mg base CX0 1 (He.ga K "Cursor") "__init__" ["self", "pieces"] (sp_Cursor___init__ K) := by
  have sc := sc_Cursor___init__
  refine T.d_Cursor___init__.ok sc len2 (fun _ _ _ _ _ _ us hl => match us, hl with | [_, _], _ => rfl) (fun f cdv A outer s H vs Q E hr h => ?_)
  obtain ⟨x0, x1, rfl, h⟩ := h
  obtain ⟨c, l, dx, rfl, rfl, hc, h⟩ := h
  refine ⟨_, (pss_cons (ps_fld (pv 0) (pv 1) rfl)
      (pss_one (ps_fld (pv 0) pe_int rfl))), ?_⟩
  refine ⟨_, rfl, _, rfl, c, CU K, dx, [], rfl, hc, T.cl_Cursor.c, T.na_Cursor_pieces, (by show 0 < 1000; decide), ?_⟩
  refine ⟨_, rfl, c, CU K, dx, _, rfl, upd_same, T.cl_Cursor.c, T.na_Cursor_at, (by rw [cu_put1]; show 1 < 1000; decide), ?_⟩
  rw [cu_put1, cu_put2, upd_upd]
  exact h
theorem sc_Cursor_ahead : FnScope ["self"] ["self"] (defScope s_Cursor_ahead) := ⟨rfl, rfl, rfl, by decide +kernel, rfl, by decide +kernel, by decide +kernel⟩
theorem g_Cursor_ahead (T : Txt K mg w)  : Gm P w K mg base CX0 1 (He.ga K "Cursor") "ahead" ["self"] (sp_Cursor_ahead K) := by
  have sc := sc_Cursor_ahead
  refine T.d_Cursor_ahead.ok sc len1 (fun _ _ _ _ _ _ us hl => match us, hl with | [_], _ => rfl) (fun f cdv A outer s H vs Q E hr h => ?_)
  obtain ⟨x0, rfl, h⟩ := h
  obtain ⟨c, l, n, r, rfl, hcur, hw, h⟩ := h
  refine ⟨_, (pss_one (ps_ret (pe_ix ix_tup (pe_ix ix_list (pe_fld (pv 0) rfl) (pe_fld (pv 0) rfl) (fun _ _ => rfl)) pe_int (fun _ _ => rfl)))), ?_⟩
  obtain ⟨ps, p, z, t, dx, rfl, hz, hc, hl, hp, ⟨w0, q, h1, h2, h3⟩, ht, hn⟩ := hcur.tok hw
  refine ⟨_, rfl, c, CU K, dx, _, _, rfl, hc, T.cl_Cursor.c, T.na_Cursor_pieces, cu_pieces _ _, _, rfl, c, CU K, dx, _, _, rfl, hc, T.cl_Cursor.c, T.na_Cursor_at, cu_at _ _, ?_⟩
  exact ⟨l, _, _, _, rfl, rfl, SqL.of hl, at_ref hp, p, _, _, _, rfl, rfl, SqT.of h1, rfl, h⟩
theorem sc_Cursor_spot : FnScope ["self"] ["self"] (defScope s_Cursor_spot) := ⟨rfl, rfl, rfl, by decide +kernel, rfl, by decide +kernel, by decide +kernel⟩
theorem g_Cursor_spot (T : Txt K mg w)  : Gm P w K mg base CX0 1 (He.ga K "Cursor") "spot" ["self"] (sp_Cursor_spot K) := by
  have sc := sc_Cursor_spot
  refine T.d_Cursor_spot.ok sc len1 (fun _ _ _ _ _ _ us hl => match us, hl with | [_], _ => rfl) (fun f cdv A outer s H vs Q E hr h => ?_)
  obtain ⟨x0, rfl, h⟩ := h
  obtain ⟨c, l, n, r, rfl, hcur, hw, h⟩ := h
  refine ⟨_, (pss_one (ps_ret (pe_ix ix_tup (pe_ix ix_list (pe_fld (pv 0) rfl) (pe_fld (pv 0) rfl) (fun _ _ => rfl)) pe_int (fun _ _ => rfl)))), ?_⟩
  obtain ⟨ps, p, z, t, dx, rfl, hz, hc, hl, hp, ⟨w0, q, h1, h2, h3⟩, ht, hn⟩ := hcur.tok hw
  refine ⟨_, rfl, c, CU K, dx, _, _, rfl, hc, T.cl_Cursor.c, T.na_Cursor_pieces, cu_pieces _ _, _, rfl, c, CU K, dx, _, _, rfl, hc, T.cl_Cursor.c, T.na_Cursor_at, cu_at _ _, ?_⟩
  exact ⟨l, _, _, _, rfl, rfl, SqL.of hl, at_ref hp, p, _, _, _, rfl, rfl, SqT.of h1, rfl, h q z t rfl h2⟩
theorem sc_Cursor_take : FnScope ["self", "piece"] ["self"] (defScope s_Cursor_take) := ⟨rfl, rfl, rfl, by decide +kernel, rfl, by decide +kernel, by decide +kernel⟩
theorem g_Cursor_take (T : Txt K mg w)  : Gm P w K mg base CX0 1 (He.ga K "Cursor") "take" ["self"] (sp_Cursor_take K) := by
  have sc := sc_Cursor_take
  refine T.d_Cursor_take.ok sc len1 (fun _ _ _ _ _ _ us hl => match us, hl with | [_], _ => rfl) (fun f cdv A outer s H vs Q E hr h => ?_)
  obtain ⟨x0, rfl, h⟩ := h
  obtain ⟨c, l, n, r, rfl, hcur, hw, h0, h⟩ := h
  refine ⟨_, (pss_cons (ps_set (i := 1) sc.nd rfl (Or.inl rfl) (pe_ix ix_list (pe_fld (pv 0) rfl) (pe_fld (pv 0) rfl) (fun _ _ => rfl)))
      (pss_cons (ps_fldaug (pv 0) pe_int in_add)
      (pss_one (ps_ret (pv 1))))), ?_⟩
  obtain ⟨ps, p, z, t, dx, rfl, hz, hc, hl, hp, tk, ht, hn⟩ := hcur.tok hw
  refine ⟨_, rfl, c, CU K, dx, _, _, rfl, hc, T.cl_Cursor.c, T.na_Cursor_pieces, cu_pieces _ _, _, rfl, c, CU K, dx, _, _, rfl, hc, T.cl_Cursor.c, T.na_Cursor_at, cu_at _ _, ?_⟩
  refine ⟨l, _, _, _, rfl, rfl, SqL.of hl, at_ref hp, ?_⟩
  refine ⟨_, rfl, c, CU K, dx, _, _, rfl, hc, T.cl_Cursor.c, T.na_Cursor_at, cu_at _ _, _, _, rfl, rfl, _, _, hc, (by show 2 < 1000; decide), ?_⟩
  rw [cu_put3]
  obtain ⟨b, cur⟩ := cur_step hc hl ht hn
  exact ⟨_, rfl, h p z _ b cur (hw.tl h0) (tk.keep b (mu1 hc)) rfl⟩
theorem sc_Cursor_fail : FnScope ["self", "line", "column"] ["self"] (defScope s_Cursor_fail) := ⟨rfl, rfl, rfl, by decide +kernel, rfl, by decide +kernel, by decide +kernel⟩
theorem g_Cursor_fail (T : Txt K mg w) (G_Cursor_spot : Gm P w K mg base CX0 1 (He.ga K "Cursor") "spot" ["self"] (sp_Cursor_spot K)) : Gm P w K mg base (L2.CX P w) 2 (He.ga K "Cursor") "fail" ["self"] (sp_Cursor_fail K) := by
  have sc := sc_Cursor_fail
  refine T.d_Cursor_fail.okX sc len1 (fun _ _ _ _ _ _ us hl => match us, hl with | [_], _ => rfl) (fun f cdv A outer s H vs Q E hr h => ?_)
  obtain ⟨x0, rfl, h⟩ := h
  obtain ⟨c, l, n, r, rfl, hcur, hw, h⟩ := h
  refine ⟨_, (pss_cons (ps_asg (pe_gm0 (pv 0) T.cl_Cursor.c G_Cursor_spot (hr.mono (by omega)) pass0) (pg_tup rfl (pgs_cons (pg_name (i := 1) sc.nd rfl (Or.inl rfl)) (pgs_cons (pg_name (i := 2) sc.nd rfl (Or.inl rfl)) pgs_nil))))
      (pss_one (ps_raiseBt rfl T.bt hr (takes_of rfl rfl rfl rfl) (pa_cons (pv 1) (pa_cons (pv 2) pa_nil))))), ?_⟩
  have hcur' := hcur
  obtain ⟨ps, p, z, t, dx, rfl, hz, hc, hl, hp, tk, ht, hn⟩ := hcur.tok hw
  refine ⟨_, rfl, c, dx, _, rfl, hc, cu_spot _ _, _, rfl, c, l, n, _, rfl, hcur', hw, fun q z' t' e hq => ?_⟩
  obtain ⟨rfl, rfl⟩ := List.cons.inj e
  refine ⟨q, _, rfl, SqT.of hq, rfl, _, _, rfl, _, _, rfl, rfl, ?_⟩
  exact ⟨_, rfl, _, rfl, _, _, rfl, fun d hd => h d _ (ButL.new hd) upd_same⟩
theorem sc_Cursor_want : FnScope ["self", "sort"] ["self", "sort"] (defScope s_Cursor_want) := ⟨rfl, rfl, rfl, by decide +kernel, rfl, by decide +kernel, by decide +kernel⟩
theorem g_Cursor_want (T : Txt K mg w) (G_Cursor_ahead : Gm P w K mg base CX0 1 (He.ga K "Cursor") "ahead" ["self"] (sp_Cursor_ahead K)) (G_Cursor_fail : Gm P w K mg base (L2.CX P w) 2 (He.ga K "Cursor") "fail" ["self"] (sp_Cursor_fail K)) (G_Cursor_take : Gm P w K mg base CX0 1 (He.ga K "Cursor") "take" ["self"] (sp_Cursor_take K)) : Gm P w K mg base (L2.CX P w) 3 (He.ga K "Cursor") "want" ["self", "sort"] (sp_Cursor_want K) := by
  have sc := sc_Cursor_want
  refine T.d_Cursor_want.okX sc len2 (fun _ _ _ _ _ _ us hl => match us, hl with | [_, _], _ => rfl) (fun f cdv A outer s H vs Q E hr h => ?_)
  obtain ⟨x0, x1, rfl, h⟩ := h
  obtain ⟨c, l, n, r, s, rfl, rfl, hs, hs0, hcur, hw, h⟩ := h
  refine ⟨_, (pss_cons (ps_if (pt_cmpR op_ne (pe_gm0 (pv 0) T.cl_Cursor.c G_Cursor_ahead (hr.mono (by omega)) pass0) (pv 1) (nomark _)) (pss_one (ps_expr (pe_gm0 (pv 0) T.cl_Cursor.c G_Cursor_fail (hr.mono (by omega)) (passes_call (takes_of rfl rfl rfl rfl) (fun _ _ _ _ h => h))))) pss_nil)
      (pss_one (ps_ret (pe_gm0 (pv 0) T.cl_Cursor.c G_Cursor_take (hr.mono (by omega)) pass0)))), ?_⟩
  have hcur' := hcur
  obtain ⟨ps, p, z, t, dx, rfl, hz, hc, hl, hp, tk, ht, hn⟩ := hcur.tok hw
  obtain ⟨z1, z2, z3⟩ := z
  refine ⟨_, rfl, c, dx, _, rfl, hc, cu_ahead _ _, _, rfl, c, l, n, _, rfl, hcur', hw, _, rfl, rfl, _, rfl, ?_⟩
  show if (!decide (V.str (srt z1) = V.str (srt s))) = true then _ else _
  rw [srt_dec hz hs]
  by_cases e : z1 = s
  · subst e
    refine if_false_of (by simp) ?_
    have e2 : want z1 ((z1, z2, z3) :: t) = .ok t := if_pos rfl
    rw [e2] at h
    refine ⟨_, rfl, c, dx, _, rfl, hc, cu_take _ _, _, rfl, c, l, n, _, rfl, hcur', hw, hs0, fun p' z' H' b cur w' tk' e3 => ?_⟩
    obtain ⟨rfl, _⟩ := List.cons.inj e3
    exact h p' _ H' b cur w' tk' rfl rfl
  · refine if_true_of (by simp [e]) ?_
    have e2 : want s ((z1, z2, z3) :: t) = ill ((z1, z2, z3) :: t) := if_neg e
    rw [e2] at h
    refine ⟨_, rfl, c, dx, _, rfl, hc, cu_fail _ _, _, rfl, c, l, n, _, rfl, hcur', hw, h⟩
end
end Rd

namespace Rd
open PySem PySem.Spec PyProof.Rows L2 My Mir
theorem sub4' {c a pl hl x : Addr} (hx : x ∈ [c]) : x ∈ M4 c a pl hl := sub4 hx
theorem atI_last {ys : List V} {v : V} : atI (ys ++ [v]) (-1) = some v := by
  unfold atI ixN
  rw [if_neg (by decide), List.length_append]
  have h : (ys.length + [v].length : Nat) = ys.length + 1 := rfl
  rw [h]
  rw [if_pos (by omega)]
  show (ys ++ [v])[(((ys.length + 1 : Nat) : Int) + -1).toNat]? = some v
  rw [show (((ys.length + 1 : Nat) : Int) + -1).toNat = ys.length by omega]
  simp
theorem ixN_last {ys : List V} {v : V} : ixN (ys ++ [v]).length (-1) = some ys.length := by
  unfold ixN
  rw [if_neg (by decide), List.length_append]
  have h : (ys.length + [v].length : Nat) = ys.length + 1 := rfl
  rw [h]
  rw [if_pos (by omega)]
  show some (((ys.length + 1 : Nat) : Int) + -1).toNat = some ys.length
  rw [show (((ys.length + 1 : Nat) : Int) + -1).toNat = ys.length by omega]
theorem set_last {ys : List V} {v u : V} : (ys ++ [v]).set ys.length u = ys ++ [u] := by simp
theorem pop_last {ys : List V} {v : V} : (ys ++ [v])[(ys ++ [v]).length - 1]? = some v := by simp
theorem tup_le {n : Nat} (h : n ≤ 4000000) : n ≤ sizeLine := Nat.le_of_lt (Nat.lt_of_le_of_lt h small_lists)
theorem ty_lst {K : PySem.W.Frag} {H : Hp} {p : Addr} {xs : List V} (h : H p = some (.lst xs)) : tyV K "list" (.ref p) H := .inl ⟨rfl, xs, SqL.of h⟩
theorem tru_lst {K : PySem.W.Frag} {H : Hp} {p : Addr} {xs : List V} (h : H p = some (.lst xs)) : TruV K (.ref p) H (!xs.isEmpty) := .inl ⟨xs, SqL.of h, rfl⟩
/-- making an instance -/
theorem pe_mkG {X : Cx} {CX : CXT} {k : Nat} {C : Addr} {x : Str} {ps : List Str} {sp : Sp} {E : XK} {e : Expr} {es : List Expr} {t : TA} {p pos : Pos} (h : Gm X.prog X.w X.K X.mg X.base CX k C "__init__" ps sp) (M : PySem.W.makesIn X.K C = true ∧ PySem.W.keepIn X.K (.ref C) = true) (hm : X.mg x = some (.ref C)) (hr : Room (k + 1) X.A) (hx : Passes CX X E) (ha : PA X (e :: es) t) (hg : Gl X x := by rfl)
    (hdb : (x == ("__debug__" : Str)) = false := by decide) (he : starEach (e :: es) X.env = (false, eval e X.env) :: starEach es X.env := by rfl) (hpl : (backTo pos (starEach es X.env)).any (·.1) = false := by rfl) :
    PE X (.Call (.Name x p) (e :: es) [] pos) (tMake C sp [] E t) := by
  obtain ⟨f, fd, m, F, b⟩ := h.ex
  exact pe_make ⟨M.1, m.at_, m.fn, M.2⟩ F hr hg hm b .nil hx ha hdb he hpl
/-- a call of what a local name holds -/
def HeldX (P : Program) (w : World) (K : PySem.W.Frag) (mg : Str → Option Value) (base : Heap) (CX : CXT) (k : Nat) (f : Addr) (sp : Sp) : Prop :=
  ∃ (fd : FuncData) (ps : List Str), FnOk P w K mg base CX k f fd ps sp ∧ PySem.W.keepIn K (.ref f) = true ∧ Binds K fd ps []
theorem heldX_of {P : Program} {w : World} {K : PySem.W.Frag} {mg : Str → Option Value} {base : Heap} {CX : CXT} {k : Nat} {x : Str} {ps : List Str} {sp : Sp} (h : Gd P w K mg base CX k x ps sp) {f : Addr} (hf : mg x = some (.ref f)) : HeldX P w K mg base CX k f sp := by
  obtain ⟨f', fd, m, F, b, kp, _⟩ := h.ex
  rw [m] at hf
  cases hf
  exact ⟨fd, ps, F, kp, b⟩
def tCallV (i : Nat) (S : Addr → Sp → Prop) (E : XK) (t : TA) : TE := fun σ H Q => ∃ f sp, σ[i]? = some (some (.ref f)) ∧ S f sp ∧ t σ H fun vs H1 => sp vs H1 Q E
theorem pe_callV {X : Cx} {CX : CXT} {k i : Nat} {E : XK} {x : Str} {p pos : Pos} {e : Expr} {es : List Expr} {t : TA} {S : Addr → Sp → Prop} (A : ∀ f sp, S f sp → HeldX X.prog X.w X.K X.mg X.base CX k f sp) (hr : Room k X.A) (hN : X.N[i]? = some x) (hv : Vis X.env.scope x) (hx : Passes CX X E) (ha : PA X (e :: es) t)
    (hdb : (x == ("__debug__" : Str)) = false := by decide) (hcd : (x == ("__classdict__" : Str)) = false := by decide)
    (he : starEach (e :: es) X.env = (false, eval e X.env) :: starEach es X.env := by rfl) (hpl : (backTo pos (starEach es X.env)).any (·.1) = false := by rfl) : PE X (.Call (.Name x p) (e :: es) [] pos) (tCallV i S E t) := by
  refine ⟨fun pins s σ H Q I h => ?_⟩
  obtain ⟨f, sp, hs, hS, ht⟩ := h
  obtain ⟨fd, ps, F, hk, hb⟩ := A f sp hS
  refine (pe_callL (i := i) (f := f) (sp := sp) (dvs := []) (E := E) F hr hN hv hk hb .nil hx ha hdb hcd he hpl).run pins s σ H Q I ⟨hs, ?_⟩
  have e0 : (fun (vs : List V) (H1 : Hp) => sp (vs ++ []) H1 Q E) = fun vs H1 => sp vs H1 Q E := by
    funext vs H1
    rw [List.append_nil]
  show t σ H (fun vs H1 => sp (vs ++ []) H1 Q E)
  rw [e0]
  exact ht
/-- the kept tables -/
theorem in_kd {f : Nat → Option He.Dv} {K : PySem.W.Frag} {a : Addr} {c : Nat} (t : tabOf f K a) (hc : c < 58) : ∃ r, PySem.W.nsIn K a (srt c) = some r ∧ r.isSome = (f c).isSome := by
  cases e : f c with
  | none => exact ⟨none, (t c hc).1 e, rfl⟩
  | some v =>
    obtain ⟨u, h, _⟩ := (t c hc).2 v e
    exact ⟨some u, h, rfl⟩
theorem kd_of {f : Nat → Option He.Dv} {K : PySem.W.Frag} {w : World} {a : Addr} {c : Nat} {v : He.Dv} (k : ∃ es n, KDict K w a es n) (t : tabOf f K a) (hc : c < 58) (h : f c = some v) : KDct K w a (srt c) (v.v K) := by
  obtain ⟨es, n, d⟩ := k
  obtain ⟨u, h1, h2⟩ := (t c hc).2 v h
  exact ⟨es, n, u, d.at_, d.lit, h1, h2⟩
theorem fS_strn : ∀ c, c < 58 → strn c ≠ 0 → fSTRENGTHS c = some (.int (strn c : Int)) := fun c _ h => if_neg h
theorem fS_isSome (c : Nat) : (fSTRENGTHS c).isSome = decide (strn c ≠ 0) := by
  unfold fSTRENGTHS
  by_cases h : strn c = 0
  · rw [if_pos h]; simp [h]
  · rw [if_neg h]; simp [h]
abbrev Re1 (c : Addr) : List (Str × V) := [("cursor", .ref c)]
abbrev Re2 (c : Addr) (f : Int) : List (Str × V) := [("cursor", .ref c), ("first", .int f)]
abbrev Re3 (c : Addr) (f d : Int) : List (Str × V) := [("cursor", .ref c), ("first", .int f), ("depth", .int d)]
abbrev Re4 (c : Addr) (f d : Int) (p : Addr) : List (Str × V) := [("cursor", .ref c), ("first", .int f), ("depth", .int d), ("parts", .ref p)]
theorem re_put1 (c : Addr) : putF "cursor" (.ref c) [] = Re1 c := by kernel_rfl
theorem re_put2 (c : Addr) (f : Int) : putF "first" (.int f) (Re1 c) = Re2 c f := by kernel_rfl
theorem re_put3 (c : Addr) (f d : Int) : putF "depth" (.int d) (Re2 c f) = Re3 c f d := by kernel_rfl
theorem re_put4 (c : Addr) (f d : Int) (p : Addr) : putF "parts" (.ref p) (Re3 c f d) = Re4 c f d p := by kernel_rfl
theorem re_put5 (c : Addr) (f d : Int) (p h : Addr) : putF "held" (.ref h) (Re4 c f d p) = ReF c f d p h := by kernel_rfl
/-! ### promises of the reader's methods -/
def sp_ExpressionReader___init__ (K : PySem.W.Frag) : Sp := sp3 fun x y z H Q _ => ∃ (a dx c l : Addr) (n : Nat) (r : List Pc) (d : Int), x = .ref a ∧ y = .ref c ∧ z = .int d ∧ H a = some (.ins (CE' K) dx []) ∧ Cur (CU K) H c l n r ∧ Wf r ∧
  ∀ (pl hl : Addr) (H' : Hp), ButL [a] H H' → H pl = none → H hl = none → Er K H' a c l pl hl n ⟨r, 0, d, [], false⟩ false 0 → Q .non H'
def sp_ExpressionReader_look_at_depth (K : PySem.W.Frag) : Sp := sp1 fun x H Q E => ∃ (a c l pl hl : Addr) (f0 : Nat) (s : Es) (ne : Bool) (sl : Nat), x = .ref a ∧ Er K H a c l pl hl f0 s ne sl ∧
  (30 < s.d → Post (ill s.r : Rs Unit) (fun _ => False) (Bad (CB K) (M4 c a pl hl) H E)) ∧ (¬ 30 < s.d → Q .non H)
def sp_ExpressionReader_begin_within (K : PySem.W.Frag) : Sp := sp5 fun x1 x2 x3 x4 x5 H Q E => ∃ (a c l pl hl : Addr) (f0 : Nat) (s : Es) (ne : Bool) (sl t : Nat) (u v : V) (i : Int), x1 = .ref a ∧ x2 = .str (tagS t) ∧ x3 = u ∧ x4 = .int i ∧ x5 = v ∧ 1 < t ∧ t < 7 ∧
  Er K H a c l pl hl f0 s ne (sl + 1) ∧ Post (within t s) (fun s' => ∀ H', Ea K H H' a c l pl hl f0 s' ne sl → Q .non H') (Bad (CB K) (M4 c a pl hl) H E)
def sp_ExpressionReader_end_within (K : PySem.W.Frag) : Sp := sp2 fun x y H Q _ => ∃ (a c l pl hl : Addr) (f0 : Nat) (s : Es) (ne : Bool) (sl : Nat) (z : Str) (t : Nat × Nat) (h : List (Nat × Nat)), x = .ref a ∧ y = .str z ∧ Er K H a c l pl hl f0 s ne sl ∧ s.h = t :: h ∧
  ∀ H', Ea K H H' a c l pl hl f0 { s with h := h, d := s.d - 1, b := decide (z = "call") } true sl → Q .non H'
def sp_ExpressionReader_take_counted (K : PySem.W.Frag) : Sp := sp1 fun x H Q E => ∃ (a c l pl hl : Addr) (f0 : Nat) (s : Es) (ne : Bool) (sl : Nat), x = .ref a ∧ Er K H a c l pl hl f0 s ne sl ∧ hd s.r ≠ 0 ∧
  Post (counted s) (fun s' => ∀ (p : Addr) (z : Pc) (H' : Hp), Ea K H H' a c l pl hl f0 s' ne (sl + 1) → TokAt H' p z → s.r = z :: s.r.tail → Q (.ref p) H') (Bad (CB K) (M4 c a pl hl) H E)
def sp__strength_of (K : PySem.W.Frag) : Sp := sp1 fun x H Q _ => ∃ (q : Addr) (t : Nat × Nat), x = .ref q ∧ HeldAt H q t ∧ Q (.int (t.2 : Int)) H
def sp_ExpressionReader_settle (K : PySem.W.Frag) : Sp := sp2 fun x y H Q _ => ∃ (a c l pl hl : Addr) (f0 : Nat) (s : Es) (sl k : Nat), x = .ref a ∧ y = .int (k : Int) ∧ 1 ≤ k ∧ Er K H a c l pl hl f0 s true sl ∧ ∀ H', Ea K H H' a c l pl hl f0 (set1 k s) true sl → Q .non H'
def sp_ExpressionReader_settle_all (K : PySem.W.Frag) : Sp := sp1 fun x H Q _ => ∃ (a c l pl hl : Addr) (f0 : Nat) (s : Es) (sl : Nat), x = .ref a ∧ Er K H a c l pl hl f0 s true sl ∧ ∀ H', Ea K H H' a c l pl hl f0 (setAll s) true sl → Q .non H'
/-! ### calls of them -/
section
variable {K : PySem.W.Frag} {a c l pl hl : Addr} {f0 sl : Nat} {s : Es} {ne : Bool} {H0 H : Hp} {E : XK} {Q : VK} {σ : L2.St} {ta : TE} {t : TA}
theorem rm_er {m : Str} {sp : Sp} (hm : m = "look_at_depth" ∨ m = "begin_within" ∨ m = "end_within" ∨ m = "take_counted" ∨ m = "settle" ∨ m = "settle_all") (ha : ∀ Q : VK, Q (.ref a) H → ta σ H Q) (e : Er K H a c l pl hl f0 s ne sl) (q : t σ H fun vs H2 => sp (.ref a :: vs) H2 Q E) : tMethG (CE' K) m sp E ta t σ H Q := by
  obtain ⟨dx, ho⟩ := e.ob
  exact ha _ ⟨a, dx, _, rfl, ho, re_none m hm _ _ _ _ _, q⟩
theorem rc_look {α : Type} {good : α → Prop} {m : Rs α} (ha : ∀ Q : VK, Q (.ref a) H → ta σ H Q) (e : Ea K H0 H a c l pl hl f0 s ne sl) (h : Post (if 30 < s.d then ill s.r else m) good (Bad (CB K) (M4 c a pl hl) H0 E)) (q : Post m good (Bad (CB K) (M4 c a pl hl) H0 E) → Q .non H) : tMethG (CE' K) "look_at_depth" (sp_ExpressionReader_look_at_depth K) E ta tNil σ H Q := by
  refine rm_er (.inl rfl) ha e.e ⟨_, rfl, a, c, l, pl, hl, f0, s, ne, sl, rfl, e.e, fun z => ?_, fun z => ?_⟩
  · rw [if_pos z] at h
    cases hr : s.r with
    | nil => rw [hr] at h; exact h
    | cons z t => rw [hr] at h; exact Bad.after h e.b
  · rw [if_neg z] at h
    exact q h
theorem rc_counted {α : Type} {k : Es → Rs α} {good : α → Prop} (ha : ∀ Q : VK, Q (.ref a) H → ta σ H Q) (e : Ea K H0 H a c l pl hl f0 s ne sl) (h0 : hd s.r ≠ 0) (h : Post (counted s >>= k) good (Bad (CB K) (M4 c a pl hl) H0 E))
    (q : ∀ (p : Addr) (z : Pc) (H' : Hp), Ea K H0 H' a c l pl hl f0 (take1 s) ne (sl + 1) → TokAt H' p z → s.r = z :: s.r.tail → Post (k (take1 s)) good (Bad (CB K) (M4 c a pl hl) H0 E) → Q (.ref p) H') : tMethG (CE' K) "take_counted" (sp_ExpressionReader_take_counted K) E ta tNil σ H Q := by
  refine rm_er (.inr (.inr (.inr (.inl rfl)))) ha e.e ⟨_, rfl, a, c, l, pl, hl, f0, s, ne, sl, rfl, e.e, h0, ?_⟩
  by_cases z : 120 ≤ s.n
  · have e1 : counted s = ill s.r := if_pos z
    rw [e1] at h ⊢
    cases hr : s.r with
    | nil => rw [hr] at h; exact h
    | cons z t => rw [hr] at h; exact Bad.after h e.b
  · have e1 : counted s = .ok (take1 s) := if_neg z
    rw [e1] at h ⊢
    exact fun p pc H' e' tk e3 => q p pc H' ⟨e'.e, e.b.trans e'.b⟩ tk e3 h
theorem rc_begin {α : Type} {k : Es → Rs α} {good : α → Prop} {u : Nat} {x3 x5 : V} {i : Int} (ha : ∀ Q : VK, Q (.ref a) H → ta σ H Q) (e : Ea K H0 H a c l pl hl f0 s ne (sl + 1)) (h : Post (within u s >>= k) good (Bad (CB K) (M4 c a pl hl) H0 E)) (h1 : 1 < u) (h2 : u < 7)
    (hs : ∀ R : List V → Hp → Prop, R [.str (tagS u), x3, .int i, x5] H → t σ H R)
    (q : ∀ (s' : Es) (H' : Hp), Ea K H0 H' a c l pl hl f0 s' ne sl → Post (k s') good (Bad (CB K) (M4 c a pl hl) H0 E) → Q .non H') : tMethG (CE' K) "begin_within" (sp_ExpressionReader_begin_within K) E ta t σ H Q := by
  refine rm_er (.inr (.inl rfl)) ha e.e (hs _ ⟨_, _, _, _, _, rfl, a, c, l, pl, hl, f0, s, ne, sl, u, _, _, _, rfl, rfl, rfl, rfl, rfl, h1, h2, e.e, ?_⟩)
  exact post_mono (post_bind h) (fun s' z H' e' => q s' H' ⟨e'.e, e.b.trans e'.b⟩ z) (fun _ _ z => z.after e.b)
theorem rc_end {z : Str} {u : Nat × Nat} {h : List (Nat × Nat)} (ha : ∀ Q : VK, Q (.ref a) H → ta σ H Q) (e : Ea K H0 H a c l pl hl f0 s ne sl) (hh : s.h = u :: h) (hs : ∀ R : List V → Hp → Prop, R [.str z] H → t σ H R)
    (q : ∀ H', Ea K H0 H' a c l pl hl f0 { s with h := h, d := s.d - 1, b := decide (z = "call") } true sl → Q .non H') : tMethG (CE' K) "end_within" (sp_ExpressionReader_end_within K) E ta t σ H Q :=
  rm_er (.inr (.inr (.inl rfl))) ha e.e (hs _ ⟨_, _, rfl, a, c, l, pl, hl, f0, s, ne, sl, z, u, h, rfl, rfl, e.e, hh, fun H' e' => q H' ⟨e'.e, e.b.trans e'.b⟩⟩)
theorem rc_settle {k : Nat} (ha : ∀ Q : VK, Q (.ref a) H → ta σ H Q) (e : Ea K H0 H a c l pl hl f0 s true sl) (h1 : 1 ≤ k) (hs : ∀ R : List V → Hp → Prop, R [.int (k : Int)] H → t σ H R)
    (q : ∀ H', Ea K H0 H' a c l pl hl f0 (set1 k s) true sl → Q .non H') : tMethG (CE' K) "settle" (sp_ExpressionReader_settle K) E ta t σ H Q :=
  rm_er (.inr (.inr (.inr (.inr (.inl rfl))))) ha e.e (hs _ ⟨_, _, rfl, a, c, l, pl, hl, f0, s, sl, k, rfl, rfl, h1, e.e, fun H' e' => q H' ⟨e'.e, e.b.trans e'.b⟩⟩)
theorem rc_settle_all (ha : ∀ Q : VK, Q (.ref a) H → ta σ H Q) (e : Ea K H0 H a c l pl hl f0 s true sl)
    (q : ∀ H', Ea K H0 H' a c l pl hl f0 (setAll s) true sl → Q .non H') : tMethG (CE' K) "settle_all" (sp_ExpressionReader_settle_all K) E ta tNil σ H Q :=
  rm_er (.inr (.inr (.inr (.inr (.inr rfl))))) ha e.e ⟨_, rfl, a, c, l, pl, hl, f0, s, sl, rfl, e.e, fun H' e' => q H' ⟨e'.e, e.b.trans e'.b⟩⟩
/-- a list's append -/
theorem ra_append {q : Addr} {xs : List V} {to : TE} (hto : ∀ Q : VK, Q (.ref q) H → to σ H Q) (hq : H q = some (.lst xs)) (ht : t σ H fun vs H1 => ∃ y ys, vs = [y] ∧ H1 q = some (.lst ys) ∧ ys.length < sizeLine ∧ Q .non (upd H1 q (.lst (ys ++ [y])))) : tBM K "list" rAppend to t σ H Q := by
  refine hto _ ⟨ty_lst hq, ?_⟩
  have z : (fun vs H1 => ∃ y ys, vs = [y] ∧ H1 q = some (.lst ys) ∧ ys.length < sizeLine ∧ Q .non (upd H1 q (.lst (ys ++ [y])))) = fun (vs : List V) (H1 : Hp) => rAppend (.ref q) vs H1 Q := by
    funext vs H1
    apply propext
    constructor
    · rintro ⟨y, ys, h1, h2, h3, h4⟩
      exact ⟨q, ys, y, rfl, h1, h2, h3, h4⟩
    · rintro ⟨p, ys, y, h0, h1, h2, h3, h4⟩
      cases h0
      exact ⟨y, ys, h1, h2, h3, h4⟩
  rw [z] at ht
  exact ht
end
section
variable {P : Program} {w : World} {K : PySem.W.Frag} {mg : Str → Option Value} {base : Heap}
theorem sc_ExpressionReader___init__ : FnScope ["self", "cursor", "depth"] ["self", "cursor", "depth"] (defScope s_ExpressionReader___init__) := ⟨rfl, rfl, rfl, by decide +kernel, rfl, by decide +kernel, by decide +kernel⟩
theorem g_ExpressionReader___init__ (T : Txt K mg w)  : Gm P w K mg base CX0 1 (He.ga K "ExpressionReader") "__init__" ["self", "cursor", "depth"] (sp_ExpressionReader___init__ K) := by
  have sc := sc_ExpressionReader___init__
  refine T.d_ExpressionReader___init__.ok sc len3 (fun _ _ _ _ _ _ us hl => match us, hl with | [_, _, _], _ => rfl) (fun f cdv A outer s H vs Q E hr h => ?_)
  obtain ⟨x0, x1, x2, rfl, h⟩ := h
  obtain ⟨a, dx, c, l, n, r, d, rfl, rfl, rfl, ha, hcur, hw, h⟩ := h
  refine ⟨_, (pss_cons (ps_fld (pv 0) (pv 1) rfl)
      (pss_cons (ps_fld (pv 0) (pe_fld (pv 1) rfl) rfl)
      (pss_cons (ps_fld (pv 0) (pv 2) rfl)
      (pss_cons (ps_fld (pv 0) (pe_lst pa_nil) rfl)
      (pss_one (ps_fld (pv 0) (pe_lst pa_nil) rfl)))))), ?_⟩
  obtain ⟨⟨dc, hc⟩, ps, hl0, htk, hn⟩ := id hcur
  refine ⟨_, rfl, _, rfl, a, CE' K, dx, [], rfl, ha, T.cl_ExpressionReader.c, T.na_ExpressionReader_cursor, (by show 0 < 1000; decide), ?_⟩
  rw [re_put1]
  have hac : a ≠ c := ne_of ha hc (by intro z; injection z with _ _ z; cases z)
  have hal : a ≠ l := ne_of ha hl0 (by intro z; cases z)
  refine ⟨_, rfl, c, CU K, dc, _, _, rfl, (by rw [upd_ne hac.symm]; exact hc), T.cl_Cursor.c, T.na_Cursor_at, cu_at _ _, ?_⟩
  refine ⟨_, rfl, a, CE' K, dx, _, rfl, upd_same, T.cl_ExpressionReader.c, T.na_ExpressionReader_first, (by show 1 < 1000; decide), ?_⟩
  rw [re_put2, upd_upd]
  refine ⟨_, rfl, _, rfl, a, CE' K, dx, _, rfl, upd_same, T.cl_ExpressionReader.c, T.na_ExpressionReader_depth, (by show 2 < 1000; decide), ?_⟩
  rw [re_put3, upd_upd]
  refine ⟨Nat.zero_le _, fun pl hpl => ?_⟩
  have hpa : a ≠ pl := ne_of_none upd_same hpl
  refine ⟨_, rfl, a, CE' K, dx, _, rfl, (by rw [upd_ne hpa]; exact upd_same), T.cl_ExpressionReader.c, T.na_ExpressionReader_parts, (by show 3 < 1000; decide), ?_⟩
  rw [re_put4]
  refine ⟨Nat.zero_le _, fun hl hhl => ?_⟩
  have hha : a ≠ hl := ne_of_none upd_same hhl
  have hph : pl ≠ hl := ne_of_none (by rw [upd_ne hpa.symm]; exact upd_same) hhl
  refine ⟨_, rfl, a, CE' K, dx, _, rfl, (by rw [upd_ne hha]; exact upd_same), T.cl_ExpressionReader.c, T.na_ExpressionReader_held, (by show 4 < 1000; decide), ?_⟩
  rw [re_put5]
  have hpl0 : H pl = none := by rw [upd_ne hpa.symm] at hpl; exact hpl
  have hhl0 : H hl = none := by
    rw [upd_ne hha.symm, upd_ne hph.symm, upd_ne hha.symm] at hhl; exact hhl
  have hb : ButL [a] H (upd (upd (upd (upd (upd H a (.ins (CE' K) dx (Re3 c n d))) pl (.lst [])) a (.ins (CE' K) dx (Re4 c n d pl))) hl (.lst [])) a (.ins (CE' K) dx (ReF c n d pl hl))) := by
    intro x u e hx
    have hxa : x ≠ a := by simpa using hx
    rw [upd_ne hxa, upd_ne (ne_of_none e hhl0), upd_ne hxa, upd_ne (ne_of_none e hpl0), upd_ne hxa]
    exact e
  refine h pl hl _ hb hpl0 hhl0 ⟨⟨dx, upd_same⟩, hcur.keep hb (mu1 ha) (by simpa using hac.symm) (by simpa using hal.symm), hw, ⟨[], [], ?_, ?_, (fun z => by cases z), trivial, Nat.zero_le _⟩, hph, ?_, ?_⟩
  · rw [upd_ne hpa.symm, upd_ne hph, upd_ne hpa.symm]; exact upd_same
  · rw [upd_ne hha.symm]; exact upd_same
  · intro z; rw [z, hl0] at hpl0; cases hpl0
  · intro z; rw [z, hl0] at hhl0; cases hhl0
theorem sc_ExpressionReader_look_at_depth : FnScope ["self"] ["self"] (defScope s_ExpressionReader_look_at_depth) := ⟨rfl, rfl, rfl, by decide +kernel, rfl, by decide +kernel, by decide +kernel⟩
theorem g_ExpressionReader_look_at_depth (T : Txt K mg w) (G_Cursor_fail : Gm P w K mg base (L2.CX P w) 2 (He.ga K "Cursor") "fail" ["self"] (sp_Cursor_fail K)) : Gm P w K mg base (L2.CX P w) 3 (He.ga K "ExpressionReader") "look_at_depth" ["self"] (sp_ExpressionReader_look_at_depth K) := by
  have sc := sc_ExpressionReader_look_at_depth
  refine T.d_ExpressionReader_look_at_depth.okX sc len1 (fun _ _ _ _ _ _ us hl => match us, hl with | [_], _ => rfl) (fun f cdv A outer s H vs Q E hr h => ?_)
  obtain ⟨x0, rfl, h⟩ := h
  obtain ⟨a, c, l, pl, hl, f0, s, ne, sl, rfl, e, h1, h2⟩ := h
  refine ⟨_, (pss_one (ps_if (pt_cmpR op_gt (pe_fld (pv 0) rfl) (pe_gint T.c_MOST_WITHIN) (nomark _)) (pss_one (ps_expr (pe_gm0 (pe_fld (pv 0) rfl) T.cl_Cursor.c G_Cursor_fail (hr.mono (by omega)) (passes_call (takes_of rfl rfl rfl rfl) (fun _ _ _ _ h => h))))) pss_nil)), ?_⟩
  obtain ⟨dx, ho⟩ := e.ob
  refine ⟨_, rfl, a, CE' K, dx, _, _, rfl, ho, T.cl_ExpressionReader.c, T.na_ExpressionReader_depth, re_depth _ _ _ _ _, _, _, rfl, rfl, _, rfl, ?_⟩
  by_cases hd : 30 < s.d
  · refine if_true_of (decide_eq_true hd) ?_
    try dsimp only [L2.tNext, L2.tSeq, L2.tDrop, L2.tRet, L2.tIfS, L2.tAsg, L2.gName]
    refine rb_fail (rf_cursor T.cl_ExpressionReader.c T.na_ExpressionReader_cursor (fun Q q => ⟨_, rfl, q⟩) e.start) e.start (h1 hd)
  · exact if_false_of (decide_eq_false hd) (h2 hd)
theorem sc_ExpressionReader_begin_within : FnScope ["self", "sort", "what", "many", "place"] ["self", "sort", "what", "many", "place"] (defScope s_ExpressionReader_begin_within) := ⟨rfl, rfl, rfl, by decide +kernel, rfl, by decide +kernel, by decide +kernel⟩
theorem g_ExpressionReader_begin_within (T : Txt K mg w) (G_ExpressionReader_look_at_depth : Gm P w K mg base (L2.CX P w) 3 (He.ga K "ExpressionReader") "look_at_depth" ["self"] (sp_ExpressionReader_look_at_depth K)) : Gm P w K mg base (L2.CX P w) 4 (He.ga K "ExpressionReader") "begin_within" ["self", "sort", "what", "many", "place"] (sp_ExpressionReader_begin_within K) := by
  have sc := sc_ExpressionReader_begin_within
  refine T.d_ExpressionReader_begin_within.okX sc len5 (fun _ _ _ _ _ _ us hl => match us, hl with | [_, _, _, _, _], _ => rfl) (fun f cdv A outer s H vs Q E hr h => ?_)
  obtain ⟨x0, x1, x2, x3, x4, rfl, h⟩ := h
  obtain ⟨a, c, l, pl, hl, f0, s, ne, sl, t, u, v, i, rfl, rfl, rfl, rfl, rfl, ht1, ht2, e, h⟩ := h
  refine ⟨_, (pss_cons (ps_expr (pe_bm PySem.F.plainAttrs_list PySem.F.slot_list_append PySem.F.type_list_append mt_append (pe_fld (pv 0) rfl) (pa_cons (pe_tup (pa_cons (pv 1) (pa_cons (pv 2) (pa_cons (pv 3) (pa_cons (pv 4) pa_nil))))) pa_nil)))
      (pss_cons (ps_fldaug (pv 0) pe_int in_add)
      (pss_one (ps_expr (pe_gm0 (pv 0) T.cl_ExpressionReader.c G_ExpressionReader_look_at_depth (hr.mono (by omega)) (passes_call (takes_of rfl rfl rfl rfl) (fun _ _ _ _ h => h))))))), ?_⟩
  obtain ⟨ys, h1, h2, h3⟩ := e.start.hold
  try dsimp only [L2.tNext, L2.tSeq, L2.tDrop, L2.tRet, L2.tIfS, L2.tAsg, L2.gName]
  refine ra_append (rf_held T.cl_ExpressionReader.c T.na_ExpressionReader_held (fun Q q => ⟨_, rfl, q⟩) e.start) h1 ?_
  refine ⟨_, rfl, _, rfl, _, rfl, _, rfl, tup_le (by show 4 ≤ 4000000; decide), fun p hp => ?_⟩
  have e1 := e.start.laid (o := .tup [.str (tagS t), x2, .int i, x4]) hp
  obtain ⟨ys, h1, h2, h3⟩ := e1.hold
  refine ⟨_, ys, rfl, h1, h2, ?_⟩
  have e2 := h3 p (t, 0) ⟨x2, x4, i, upd_same, ht2, (fun z => by subst z; omega), (fun z => by subst z; omega), fun _ => rfl⟩
  obtain ⟨dx, ho⟩ := e2.e.ob
  refine ⟨_, rfl, a, CE' K, dx, _, _, rfl, ho, T.cl_ExpressionReader.c, T.na_ExpressionReader_depth, re_depth _ _ _ _ _, _, _, rfl, rfl, dx, _, ho, (by show 5 < 1000; decide), ?_⟩
  rw [re_put]
  have e3 : Ea K H _ a c l pl hl f0 { s with d := s.d + 1, h := (t, 0) :: s.h } ne sl := ⟨e2.e.deep (dx := dx) (d := s.d + 1), e2.b.trans (ButL.put (by simp))⟩
  have h' : Post (if 30 < s.d + 1 then ill s.r else (.ok { s with d := s.d + 1, h := (t, 0) :: s.h } : Rs Es)) (fun s' => ∀ (H' : Hp), Ea K H H' a c l pl hl f0 s' ne sl → Q V.non H') (Bad (CB K) (M4 c a pl hl) H E) := h
  try dsimp only [L2.tNext, L2.tSeq, L2.tDrop, L2.tRet, L2.tIfS, L2.tAsg, L2.gName]
  refine rc_look (m := (.ok { s with d := s.d + 1, h := (t, 0) :: s.h } : Rs Es)) (fun Q q => ⟨_, rfl, q⟩) e3 h' (fun z => z _ e3)
theorem sc_ExpressionReader_end_within : FnScope ["self", "sort", "_", "what", "many", "place"] ["self", "sort"] (defScope s_ExpressionReader_end_within) := ⟨rfl, rfl, rfl, by decide +kernel, rfl, by decide +kernel, by decide +kernel⟩
theorem g_ExpressionReader_end_within (T : Txt K mg w)  : Gm P w K mg base CX0 1 (He.ga K "ExpressionReader") "end_within" ["self", "sort"] (sp_ExpressionReader_end_within K) := by
  have sc := sc_ExpressionReader_end_within
  refine T.d_ExpressionReader_end_within.ok sc len2 (fun _ _ _ _ _ _ us hl => match us, hl with | [_, _], _ => rfl) (fun f cdv A outer s H vs Q E hr h => ?_)
  obtain ⟨x0, x1, rfl, h⟩ := h
  obtain ⟨a, c, l, pl, hl, f0, s, ne, sl, z, u, hh, rfl, rfl, e, he, h⟩ := h
  refine ⟨_, (pss_cons (ps_asg (pe_bm0 PySem.F.plainAttrs_list PySem.F.slot_list_pop PySem.F.type_list_pop mt_pop (pe_fld (pv 0) rfl)) (pg_tup rfl (pgs_cons (pg_name (i := 2) sc.nd rfl (Or.inl rfl)) (pgs_cons (pg_name (i := 3) sc.nd rfl (Or.inl rfl)) (pgs_cons (pg_name (i := 4) sc.nd rfl (Or.inl rfl)) (pgs_cons (pg_name (i := 5) sc.nd rfl (Or.inl rfl)) pgs_nil))))))
      (pss_cons (ps_fldaug (pv 0) pe_int in_sub)
      (pss_one (ps_expr (pe_bm PySem.F.plainAttrs_list PySem.F.slot_list_append PySem.F.type_list_append mt_append (pe_fld (pv 0) rfl) (pa_cons (pe_tup (pa_cons (pv 1) (pa_cons (pv 3) (pa_cons (pv 4) (pa_cons (pv 5) pa_nil))))) pa_nil)))))), ?_⟩
  obtain ⟨ys, q, h1, h2, h3, _⟩ := e.top he
  obtain ⟨w1, v1, i1, hq, _⟩ := h2
  refine rf_held T.cl_ExpressionReader.c T.na_ExpressionReader_held (fun Q q => ⟨_, rfl, q⟩) e.start _ ⟨ty_lst h1, hl, _, _, rfl, rfl, h1, pop_last, ?_⟩
  rw [List.dropLast_concat]
  have b1 : ButL (M4 c a pl hl) H (upd H hl (.lst ys)) := ButL.put (by simp)
  have hq1 := b1.tup e.mu hq
  refine ⟨q, _, rfl, SqT.of hq1, rfl, ?_⟩
  refine ⟨_, _, rfl, _, _, rfl, _, _, rfl, _, _, rfl, rfl, ?_⟩
  obtain ⟨dx, ho⟩ := h3.ob
  refine ⟨_, rfl, a, CE' K, dx, _, _, rfl, ho, T.cl_ExpressionReader.c, T.na_ExpressionReader_depth, re_depth _ _ _ _ _, _, _, rfl, rfl, dx, _, ho, (by show 5 < 1000; decide), ?_⟩
  rw [re_put]
  have e3 : Ea K H _ a c l pl hl f0 { s with h := hh, d := s.d - 1 } ne (sl + 1) := ⟨h3.deep (dx := dx) (d := s.d - 1), b1.trans (ButL.put (by simp))⟩
  obtain ⟨xs, h4, h5, h6⟩ := e3.part
  try dsimp only [L2.tNext, L2.tSeq, L2.tDrop, L2.tRet, L2.tIfS, L2.tAsg, L2.gName]
  refine ra_append (rf_parts T.cl_ExpressionReader.c T.na_ExpressionReader_parts (fun Q q => ⟨_, rfl, q⟩) e3) h4 ?_
  refine ⟨_, rfl, _, rfl, _, rfl, _, rfl, tup_le (by show 4 ≤ 4000000; decide), fun p hp => ?_⟩
  have e4 := e3.laid (o := .tup [.str z, w1, .int i1, v1]) hp
  obtain ⟨xs, h4, h5, h6⟩ := e4.part
  exact ⟨_, xs, rfl, h4, h5, h _ (h6 p z _ upd_same)⟩
theorem sc_ExpressionReader_take_counted : FnScope ["self"] ["self"] (defScope s_ExpressionReader_take_counted) := ⟨rfl, rfl, rfl, by decide +kernel, rfl, by decide +kernel, by decide +kernel⟩
theorem g_ExpressionReader_take_counted (T : Txt K mg w) (G_Cursor_fail : Gm P w K mg base (L2.CX P w) 2 (He.ga K "Cursor") "fail" ["self"] (sp_Cursor_fail K)) (G_Cursor_take : Gm P w K mg base CX0 1 (He.ga K "Cursor") "take" ["self"] (sp_Cursor_take K)) : Gm P w K mg base (L2.CX P w) 3 (He.ga K "ExpressionReader") "take_counted" ["self"] (sp_ExpressionReader_take_counted K) := by
  have sc := sc_ExpressionReader_take_counted
  refine T.d_ExpressionReader_take_counted.okX sc len1 (fun _ _ _ _ _ _ us hl => match us, hl with | [_], _ => rfl) (fun f cdv A outer s H vs Q E hr h => ?_)
  obtain ⟨x0, rfl, h⟩ := h
  obtain ⟨a, c, l, pl, hl, f0, s, ne, sl, rfl, e, h0, h⟩ := h
  refine ⟨_, (pss_cons (ps_if (pt_cmpR op_ge (pe_op op_sub (pe_fld (pe_fld (pv 0) rfl) rfl) (pe_fld (pv 0) rfl)) (pe_gint T.c_MOST_PIECES) (nomark _)) (pss_one (ps_expr (pe_gm0 (pe_fld (pv 0) rfl) T.cl_Cursor.c G_Cursor_fail (hr.mono (by omega)) (passes_call (takes_of rfl rfl rfl rfl) (fun _ _ _ _ h => h))))) pss_nil)
      (pss_one (ps_ret (pe_gm0 (pe_fld (pv 0) rfl) T.cl_Cursor.c G_Cursor_take (hr.mono (by omega)) pass0)))), ?_⟩
  obtain ⟨dx, ho⟩ := e.ob
  obtain ⟨⟨dc, hc⟩, _⟩ := id e.cur
  refine rf_cursor T.cl_ExpressionReader.c T.na_ExpressionReader_cursor (fun Q q => ⟨_, rfl, q⟩) e.start _ ⟨c, CU K, dc, _, _, rfl, hc, T.cl_Cursor.c, T.na_Cursor_at, cu_at _ _, ?_⟩
  refine ⟨_, rfl, a, CE' K, dx, _, _, rfl, ho, T.cl_ExpressionReader.c, T.na_ExpressionReader_first, re_first _ _ _ _ _, _, _, rfl, rfl, _, _, rfl, rfl, _, rfl, ?_⟩
  by_cases hn : 120 ≤ s.n
  · refine if_true_of (decide_eq_true (by omega)) ?_
    have e1 : counted s = ill s.r := if_pos hn
    rw [e1] at h
    try dsimp only [L2.tNext, L2.tSeq, L2.tDrop, L2.tRet, L2.tIfS, L2.tAsg, L2.gName]
    refine rb_fail (rf_cursor T.cl_ExpressionReader.c T.na_ExpressionReader_cursor (fun Q q => ⟨_, rfl, q⟩) e.start) e.start h
  · refine if_false_of (decide_eq_false (by omega)) ?_
    have e1 : counted s = .ok (take1 s) := if_neg hn
    rw [e1] at h
    try dsimp only [L2.tNext, L2.tSeq, L2.tDrop, L2.tRet, L2.tIfS, L2.tAsg, L2.gName]
    refine rb_take (rf_cursor T.cl_ExpressionReader.c T.na_ExpressionReader_cursor (fun Q q => ⟨_, rfl, q⟩) e.start) e.start h0 fun p z H' e' tk ee => h p z H' e' tk ee
theorem sc__strength_of : FnScope ["held"] ["held"] (defScope s__strength_of) := ⟨rfl, rfl, rfl, by decide +kernel, rfl, by decide +kernel, by decide +kernel⟩
theorem g__strength_of (T : Txt K mg w)  : Gd P w K mg base CX0 1 "_strength_of" ["held"] (sp__strength_of K) := by
  have sc := sc__strength_of
  refine T.d__strength_of.ok sc len1 (fun _ _ _ _ _ _ us hl => match us, hl with | [_], _ => rfl) (fun f cdv A outer s H vs Q E hr h => ?_)
  obtain ⟨x0, rfl, h⟩ := h
  obtain ⟨q, t, rfl, ⟨u, v, i, hq, ht, h0, h1, h2⟩, h⟩ := h
  refine ⟨_, (pss_cons (ps_if (pt_cmpR op_eq (pe_ix ix_tup (pv 0) pe_int (fun _ _ => rfl)) pe_str (nomark _)) (pss_one (ps_ret (pe_gint T.c_STRENGTH_AHEAD))) pss_nil)
      (pss_one (ps_ret (pe_ifExp (pt_cmpR op_eq (pe_ix ix_tup (pv 0) pe_int (fun _ _ => rfl)) pe_str (nomark _)) (pe_ix ix_kdict (pe_gref T.c_STRENGTHS) (pe_ix ix_tup (pv 0) pe_int (fun _ _ => rfl)) (fun _ _ => rfl)) pe_int)))), ?_⟩
  refine ⟨_, rfl, q, _, 0, _, rfl, rfl, SqT.of hq, rfl, rfl, _, rfl, ?_⟩
  show if decide (V.str (tagS t.1) = V.str (tagS 0)) = true then _ else _
  rw [tag_dec ht (by decide)]
  by_cases z : t.1 = 0
  · refine if_true_of (decide_eq_true z) ?_
    rw [h0 z] at h
    exact h
  · refine if_false_of (decide_eq_false z) ?_
    refine ⟨_, rfl, q, _, 0, _, rfl, rfl, SqT.of hq, rfl, rfl, _, rfl, ?_⟩
    show if decide (V.str (tagS t.1) = V.str (tagS 1)) = true then _ else _
    rw [tag_dec ht (by decide)]
    by_cases z1 : t.1 = 1
    · refine if_true_of (decide_eq_true z1) ?_
      obtain ⟨c, rfl, hc, e1, e2⟩ := h1 z1
      refine ⟨_, rfl, q, _, 1, _, rfl, rfl, SqT.of hq, rfl, _, _, _, rfl, rfl, kd_of T.k_STRENGTHS T.v_STRENGTHS hc (fS_strn c hc (by rw [e1]; exact e2)), ?_⟩
      rw [← e1] at h
      exact h
    · refine if_false_of (decide_eq_false z1) ?_
      rw [h2 (by omega)] at h
      exact h
end
end Rd

namespace Rd
open PySem PySem.Spec PyProof.Rows L2 My Mir
theorem settle_stop {k : Nat} : ∀ {h : List (Nat × Nat)} {b : Bool}, (∀ t h', h = t :: h' → ¬ k ≤ t.2) → settle k h b = (h, b)
  | [], _, _ => rfl
  | (t, m) :: h, b, z => by
    show (if k ≤ m then settle k h false else ((t, m) :: h, b)) = _
    rw [if_neg (z (t, m) h rfl)]
theorem set1_stop {k : Nat} {s : Es} (z : ∀ t h', s.h = t :: h' → ¬ k ≤ t.2) : set1 k s = s := by
  unfold set1
  rw [settle_stop z]
theorem set1_go {k : Nat} {s : Es} {t : Nat × Nat} {h : List (Nat × Nat)} (e : s.h = t :: h) (z : k ≤ t.2) : set1 k s = set1 k { s with h := h, b := false } := by
  unfold set1
  rw [e]
  obtain ⟨t, m⟩ := t
  have e1 : settle k ((t, m) :: h) s.b = settle k h false := if_pos z
  rw [e1]
def thE (s : Es) : Es := { s with h := (thirds s.h s.d s.b).1, d := (thirds s.h s.d s.b).2.1, b := (thirds s.h s.d s.b).2.2 }
theorem setAll_eq (s : Es) : setAll s = thE (set1 1 s) := rfl
theorem thE_stop {s : Es} (z : ∀ t h', s.h = t :: h' → t.1 ≠ 6) : thE s = s := by
  obtain ⟨r, n, d, h, b⟩ := s
  cases h with
  | nil => rfl
  | cons t h =>
    obtain ⟨t, m⟩ := t
    have e1 : thirds ((t, m) :: h) d b = ((t, m) :: h, d, b) := if_neg (z (t, m) h rfl)
    unfold thE
    rw [e1]
theorem thE_go {s : Es} {t : Nat × Nat} {h : List (Nat × Nat)} (e : s.h = t :: h) (z : t.1 = 6) : thE s = thE { s with h := h, d := s.d - 1, b := false } := by
  obtain ⟨r, n, d, h0, b⟩ := s
  obtain ⟨t, m⟩ := t
  obtain rfl : h0 = (t, m) :: h := e
  have e1 : thirds ((t, m) :: h) d b = thirds h (d - 1) false := if_pos z
  unfold thE
  rw [e1]
theorem tag_call : ∀ t, t < 7 → decide (tagS t = "call") = (t == 2) := by decide +kernel
theorem Ea.part' {K : PySem.W.Frag} {H0 H : Hp} {a c l pl hl : Addr} {f0 sl : Nat} {s : Es} {ne : Bool} (e : Ea K H0 H a c l pl hl f0 s ne (sl + 1)) : ∃ xs : List V, H pl = some (.lst xs) ∧ xs.length < sizeLine ∧ ∀ (p : Addr) (z : Str) (tl : List V) (b : Bool), H p = some (.tup (.str z :: tl)) → decide (z = "call") = b →
    Ea K H0 (upd H pl (.lst (xs ++ [.ref p]))) a c l pl hl f0 { s with b := b } true sl := by
  obtain ⟨xs, h1, h2, h3⟩ := e.part
  exact ⟨xs, h1, h2, fun p z tl b hp hz => hz ▸ h3 p z tl hp⟩
theorem Ea.less {K : PySem.W.Frag} {H0 H : Hp} {a c l pl hl : Addr} {f0 sl k : Nat} {s : Es} {ne : Bool} (e : Ea K H0 H a c l pl hl f0 s ne sl) (h : k ≤ sl) : Ea K H0 H a c l pl hl f0 s ne k := ⟨e.e.less h, e.b⟩
theorem Ea.weak {K : PySem.W.Frag} {H0 H : Hp} {a c l pl hl : Addr} {f0 sl : Nat} {s : Es} {ne : Bool} (e : Ea K H0 H a c l pl hl f0 s true sl) : Ea K H0 H a c l pl hl f0 s ne sl := ⟨e.e.weak, e.b⟩
theorem Ea.any {K : PySem.W.Frag} {H0 H : Hp} {a c l pl hl : Addr} {f0 sl : Nat} {s : Es} {ne b : Bool} (e : Ea K H0 H a c l pl hl f0 s ne sl) : Ea K H0 H a c l pl hl f0 { s with b := b } false sl := ⟨e.e.any, e.b⟩
/-! ### tests of the piece ahead -/
section
variable {K : PySem.W.Frag} {c l : Addr} {H0 H : Hp} {r : List Pc} {σ : L2.St} {E : XK} {ta : TE} {A B : Hp → Prop} {y : V}
theorem ra_eq (ha : ∀ Q : VK, Q (.ref c) H → ta σ H Q) (a : At K c l H0 H r) (u : Nat) (hu : u < 58) (hy : V.str (srt u) = y) (h1 : hd r = u → A H) (h2 : hd r ≠ u → B H) :
    tTest (tOp rEq (tMethG (CU K) "ahead" (sp_Cursor_ahead K) E ta tNil) (tC y)) σ H (fun k H' => if k = true then A H' else B H') := by
  subst hy
  refine ra_ahead ha a ⟨rfl, _, rfl, ?_⟩
  rw [srt_dec (wf58 a.w) hu]
  by_cases z : hd r = u
  · exact if_true_of (decide_eq_true z) (h1 z)
  · exact if_false_of (decide_eq_false z) (h2 z)
theorem ra_ne (ha : ∀ Q : VK, Q (.ref c) H → ta σ H Q) (a : At K c l H0 H r) (u : Nat) (hu : u < 58) (hy : V.str (srt u) = y) (h1 : hd r = u → B H) (h2 : hd r ≠ u → A H) :
    tTest (tOp rNe (tMethG (CU K) "ahead" (sp_Cursor_ahead K) E ta tNil) (tC y)) σ H (fun k H' => if k = true then A H' else B H') := by
  subst hy
  refine ra_ahead ha a ⟨rfl, _, rfl, ?_⟩
  rw [srt_dec (wf58 a.w) hu]
  by_cases z : hd r = u
  · exact if_false_of (by rw [decide_eq_true z]; rfl) (h1 z)
  · exact if_true_of (by rw [decide_eq_false z]; rfl) (h2 z)
theorem all_flat (ds : List Nat) : (ds.map fun d => V.str (srt d)).all flatV = true := by
  induction ds with
  | nil => rfl
  | cons d ds ih => exact ih
theorem ra_in (ha : ∀ Q : VK, Q (.ref c) H → ta σ H Q) (a : At K c l H0 H r) (ds : List Nat) (hds : ∀ d, d ∈ ds → d < 58) {p : Addr} (hq : SqT K H p (ds.map fun d => V.str (srt d))) (h1 : hd r ∈ ds → A H) (h2 : ¬ hd r ∈ ds → B H) :
    tTest (tOp (rIn K false) (tMethG (CU K) "ahead" (sp_Cursor_ahead K) E ta tNil) (tC (.ref p))) σ H (fun k H' => if k = true then A H' else B H') := by
  refine ra_ahead ha a ⟨p, _, rfl, .inr hq, rfl, all_flat ds, _, rfl, ?_⟩
  show if (inV (V.str (srt (hd r))) (ds.map fun d => V.str (srt d))) = true then A H else B H
  rw [inV_srt (wf58 a.w) ds hds]
  by_cases z : hd r ∈ ds
  · exact if_true_of (decide_eq_true z) (h1 z)
  · exact if_false_of (decide_eq_false z) (h2 z)
theorem ra_notin (ha : ∀ Q : VK, Q (.ref c) H → ta σ H Q) (a : At K c l H0 H r) (ds : List Nat) (hds : ∀ d, d ∈ ds → d < 58) {p : Addr} (hq : SqT K H p (ds.map fun d => V.str (srt d))) (h1 : hd r ∈ ds → B H) (h2 : ¬ hd r ∈ ds → A H) :
    tTest (tOp (rIn K true) (tMethG (CU K) "ahead" (sp_Cursor_ahead K) E ta tNil) (tC (.ref p))) σ H (fun k H' => if k = true then A H' else B H') := by
  refine ra_ahead ha a ⟨p, _, rfl, .inr hq, rfl, all_flat ds, _, rfl, ?_⟩
  show if (!inV (V.str (srt (hd r))) (ds.map fun d => V.str (srt d))) = true then A H else B H
  rw [inV_srt (wf58 a.w) ds hds]
  by_cases z : hd r ∈ ds
  · exact if_false_of (by rw [decide_eq_true z]; rfl) (h1 z)
  · exact if_true_of (by rw [decide_eq_false z]; rfl) (h2 z)
/-- a tuple that is written out -/
theorem ra_inT (ha : ∀ Q : VK, Q (.ref c) H → ta σ H Q) (a : At K c l H0 H r) (ds : List Nat) (hds : ∀ d, d ∈ ds → d < 58) {tt : TA} (hz : ds.length ≤ 4000000) (ht : ∀ R : List V → Hp → Prop, R (ds.map fun d => V.str (srt d)) H → tt σ H R) (h1 : ∀ H', At K c l H0 H' r → ButL [] H H' → hd r ∈ ds → A H') (h2 : ∀ H', At K c l H0 H' r → ButL [] H H' → ¬ hd r ∈ ds → B H') :
    tTest (tOp (rIn K false) (tMethG (CU K) "ahead" (sp_Cursor_ahead K) E ta tNil) (tTup tt)) σ H (fun k H' => if k = true then A H' else B H') := by
  refine ra_ahead ha a (ht _ ⟨by rw [List.length_map]; exact tup_le hz, fun p hp => ?_⟩)
  refine ⟨p, _, rfl, .inr (SqT.of upd_same), rfl, all_flat ds, _, rfl, ?_⟩
  show if (inV (V.str (srt (hd r))) (ds.map fun d => V.str (srt d))) = true then A _ else B _
  rw [inV_srt (wf58 a.w) ds hds]
  by_cases z : hd r ∈ ds
  · exact if_true_of (decide_eq_true z) (h1 _ (a.laid hp) (ButL.new hp) z)
  · exact if_false_of (decide_eq_false z) (h2 _ (a.laid hp) (ButL.new hp) z)
theorem ra_inKd {p : Addr} {f : Nat → Option He.Dv} (ha : ∀ Q : VK, Q (.ref c) H → ta σ H Q) (a : At K c l H0 H r) (t : tabOf f K p) (h1 : (f (hd r)).isSome = true → A H) (h2 : (f (hd r)).isSome = false → B H) :
    tTest (tOp (fun x y H Q => ∃ (z : Str) (r : Option Value), x = .str z ∧ y = .ref p ∧ PySem.W.nsIn K p z = some r ∧ Q (.bl r.isSome) H) (tMethG (CU K) "ahead" (sp_Cursor_ahead K) E ta tNil) (tC (.ref p))) σ H (fun k H' => if k = true then A H' else B H') := by
  obtain ⟨u, hu, hs⟩ := in_kd t (wf58 a.w)
  refine ra_ahead ha a ⟨_, u, rfl, rfl, hu, _, rfl, ?_⟩
  rw [hs]
  cases z : (f (hd r)).isSome with
  | true => exact if_true_of rfl (h1 z)
  | false => exact if_false_of rfl (h2 z)
end
theorem begin1_2 {s : Es} (h : hd s.r = 2) : begin1 s = (counted s >>= fun s => pure (true, { s with b := false })) := by
  unfold begin1
  rw [h]
  rfl
theorem begin1_1 {s : Es} (h : hd s.r = 1) : begin1 s = (counted s >>= fun s => if hd s.r = 52 then (if hd (take1 s).r = 53 then pure (true, { take1 (take1 s) with b := true }) else (within 2 (take1 s) >>= fun s => pure (false, s))) else pure (true, { s with b := false })) := by
  unfold begin1
  rw [h]
  rfl
theorem begin1_52 {s : Es} (h : hd s.r = 52) : begin1 s = (counted s >>= fun s => within 3 s >>= fun s => pure (false, s)) := by
  unfold begin1
  rw [h]
  rfl
theorem begin1_in {s : Es} (h : hd s.r = 23 ∨ hd s.r = 24) : begin1 s = (counted s >>= fun s => wantE 52 s >>= fun s => wantE 53 s >>= fun s => pure (true, { s with b := false })) := by
  unfold begin1
  rcases h with h | h <;> (rw [h]; rfl)
def sp_begin (K : PySem.W.Frag) (cs : List Nat) : Sp := sp1 fun x H Q E => ∃ (a c l pl hl : Addr) (f0 : Nat) (s : Es), x = .ref a ∧ Er K H a c l pl hl f0 s false 0 ∧ hd s.r ∈ cs ∧
  Post (begin1 s) (EGood K (fun (w : Bool) (v : V) => v = .bl w) (fun w => w) a c l pl hl f0 H Q) (Bad (CB K) (M4 c a pl hl) H E)
def sp__read_number (K : PySem.W.Frag) : Sp := sp_begin K [2]
def sp__read_name (K : PySem.W.Frag) : Sp := sp_begin K [1]
def sp__read_in_or_more (K : PySem.W.Frag) : Sp := sp_begin K [23, 24]
def sp__read_bracket (K : PySem.W.Frag) : Sp := sp_begin K [52]
def sp__read_field (K : PySem.W.Frag) : Sp := sp1 fun x H Q E => ∃ (a c l pl hl : Addr) (f0 : Nat) (s : Es), x = .ref a ∧ Er K H a c l pl hl f0 s true 0 ∧ hd s.r = 51 ∧
  Post (field s) (fun s' => ∀ v H', Ea K H H' a c l pl hl f0 s' true 0 → Q v H') (Bad (CB K) (M4 c a pl hl) H E)
def sp__close (K : PySem.W.Frag) : Sp := sp2 fun x y H Q E => ∃ (a c l pl hl : Addr) (f0 : Nat) (s : Es), x = .ref a ∧ y = .str (srt (hd s.r)) ∧ Er K H a c l pl hl f0 s true 0 ∧
  Post (close s) (EGood K (fun (w : Bool) (v : V) => v = .bl w) (fun _ => true) a c l pl hl f0 H Q) (Bad (CB K) (M4 c a pl hl) H E)
def sp__read_operand (K : PySem.W.Frag) : Sp := sp1 fun x H Q E => ∃ (a c l pl hl : Addr) (f0 f : Nat) (s : Es), x = .ref a ∧ Er K H a c l pl hl f0 s false 0 ∧
  Post (operand f s) (fun s' => ∀ v H', Ea K H H' a c l pl hl f0 s' true 0 → Q v H') (Bad (CB K) (M4 c a pl hl) H E)
def sp__read_behind (K : PySem.W.Frag) : Sp := sp1 fun x H Q E => ∃ (a c l pl hl : Addr) (f0 f : Nat) (s : Es), x = .ref a ∧ Er K H a c l pl hl f0 s true 0 ∧
  Post (behind f s) (EGood K (fun (w : Bool) (v : V) => v = .bl w) (fun _ => true) a c l pl hl f0 H Q) (Bad (CB K) (M4 c a pl hl) H E)
def RelE (b : Bool) (v : V) (H : Hp) : Prop := ∃ (p : Addr) (ys : List V) (q : Addr) (z : Str) (tl : List V), v = .ref p ∧ H p = some (.tup (ys ++ [.ref q])) ∧ H q = some (.tup (.str z :: tl)) ∧ decide (z = "call") = b
def sp_read_expression (K : PySem.W.Frag) : Sp := sp2 fun x y H Q E => ∃ (c : Addr) (d f : Nat), x = .ref c ∧ y = .int (d : Int) ∧ RunF K (expr f d) RelE c H Q E
theorem kd_closing {K : PySem.W.Frag} {mg : Str → Option Value} {w : World} (T : Txt K mg w) : ∀ t, 2 ≤ t → t ≤ 5 → KDct K w (He.ga K "CLOSING") (tagS t) (.str (srt (closing t)))
  | 2, _, _ => T.v_CLOSING_call
  | 3, _, _ => T.v_CLOSING_bracket
  | 4, _, _ => T.v_CLOSING_index
  | 5, _, _ => T.v_CLOSING_choice
  | 0, h, _ => absurd h (by decide)
  | 1, h, _ => absurd h (by decide)
  | n + 6, _, h => absurd h (by omega)
theorem tok_hd {s : Es} {z : Pc} {u : Nat} (e : s.r = z :: s.r.tail) (h : hd s.r = u) : z.1 = u := by
  rw [e] at h; exact h
section
variable {P : Program} {w : World} {K : PySem.W.Frag} {mg : Str → Option Value} {base : Heap}
theorem sc_ExpressionReader_settle : FnScope ["self", "strength"] ["self", "strength"] (defScope s_ExpressionReader_settle) := ⟨rfl, rfl, rfl, by decide +kernel, rfl, by decide +kernel, by decide +kernel⟩
theorem g_ExpressionReader_settle (T : Txt K mg w) (G__strength_of : Gd P w K mg base CX0 1 "_strength_of" ["held"] (sp__strength_of K)) : Gm P w K mg base CX0 2 (He.ga K "ExpressionReader") "settle" ["self", "strength"] (sp_ExpressionReader_settle K) := by
  have sc := sc_ExpressionReader_settle
  refine T.d_ExpressionReader_settle.ok sc len2 (fun _ _ _ _ _ _ us hl => match us, hl with | [_, _], _ => rfl) (fun f cdv A outer s H vs Q E hr h => ?_)
  obtain ⟨x0, x1, rfl, h⟩ := h
  obtain ⟨a, c, l, pl, hl, f0, s, sl, k, rfl, rfl, hk1, e, h⟩ := h
  refine ⟨_, (pss_one (ps_while PassesOwn.never (PW.pt (pw_and (pt_truth (pe_fld (pv 0) rfl) (by intro _; rfl)) (pw_and1 (pt_cmpR op_ge (pe_g G__strength_of (hr.mono (by omega)) pass0 (pa_cons (pe_ix ix_list (pe_fld (pv 0) rfl) (pe_un un_neg pe_int) (fun _ _ => rfl)) pa_nil)) (pv 1) (nomark _))))) (pss_one (ps_expr (pe_bm PySem.F.plainAttrs_list PySem.F.slot_list_append PySem.F.type_list_append mt_append (pe_fld (pv 0) rfl) (pa_cons (pe_bm0 PySem.F.plainAttrs_list PySem.F.slot_list_pop PySem.F.type_list_pop mt_pop (pe_fld (pv 0) rfl)) pa_nil)))))), ?_⟩
  refine ⟨fun m σ H' => σ = L2.start ["self", "strength"] [.ref a, .int (k : Int)] ∧ ∃ s', Ea K H H' a c l pl hl f0 s' true sl ∧ s'.h.length = m ∧ set1 k s' = set1 k s, ⟨_, rfl, s, e.start, rfl, rfl⟩, ?_⟩
  rintro m σ H' ⟨rfl, s', e', hm, hs⟩
  obtain ⟨ys, h1, h2⟩ := e'.e.empty
  refine rf_held T.cl_ExpressionReader.c T.na_ExpressionReader_held (fun Q q => ⟨_, rfl, q⟩) e' _ ⟨_, tru_lst h1, ?_⟩
  cases hh : s'.h with
  | nil =>
    refine if_false_of (by rw [h2, hh]; rfl) ?_
    refine if_false_of rfl (h _ ?_)
    rw [← hs, set1_stop (fun t h' z => by rw [hh] at z; cases z)]
    exact e'
  | cons t hr =>
    refine if_true_of (by rw [h2, hh]; rfl) ?_
    obtain ⟨ys, q, h1, hq, e1, _⟩ := e'.e.top hh
    refine rf_held T.cl_ExpressionReader.c T.na_ExpressionReader_held (fun Q q => ⟨_, rfl, q⟩) e' _ ⟨_, rfl, hl, _, _, _, rfl, rfl, SqL.of h1, atI_last, ?_⟩
    refine ⟨_, rfl, q, t, rfl, hq, _, rfl, _, _, rfl, rfl, _, rfl, ?_⟩
    by_cases hk : k ≤ t.2
    · refine if_true_of (decide_eq_true (by omega)) ?_
      refine ⟨_, fun _ _ z => z, ?_⟩
      have b1 : ButL (M4 c a pl hl) H' (upd H' hl (.lst ys)) := ButL.put (by simp)
      have e2 : Ea K H _ a c l pl hl f0 { s' with h := hr } true (sl + 1) := ⟨e1, e'.b.trans b1⟩
      obtain ⟨xs0, qs0, h40, _⟩ := e'.e.lists
      obtain ⟨w1, v1, i1, hq0, ht, g0, g1, g2⟩ := hq
      try dsimp only [L2.tNext, L2.tSeq, L2.tDrop, L2.tRet, L2.tIfS, L2.tAsg, L2.gName]
      refine ra_append (rf_parts T.cl_ExpressionReader.c T.na_ExpressionReader_parts (fun Q q => ⟨_, rfl, q⟩) e') h40 ?_
      refine rf_held T.cl_ExpressionReader.c T.na_ExpressionReader_held (fun Q q => ⟨_, rfl, q⟩) e' _ ⟨ty_lst h1, hl, _, _, rfl, rfl, h1, pop_last, ?_⟩
      rw [List.dropLast_concat]
      obtain ⟨xs, h4, h5, h6⟩ := e2.part'
      have hb : decide (tagS t.1 = "call") = false := by
        rw [tag_call t.1 ht]
        by_cases z : 1 < t.1
        · have := g2 z; omega
        · simp; omega
      refine ⟨_, xs, rfl, h4, h5, hr.length, by rw [← hm, hh]; exact Nat.lt_succ_self _, rfl, _, h6 q _ _ _ (b1.tup e'.e.mu hq0) hb, rfl, ?_⟩
      rw [← hs, set1_go hh hk]
    · refine if_false_of (decide_eq_false (by omega)) (h _ ?_)
      rw [← hs, set1_stop (fun t' h' z => by rw [hh] at z; cases z; exact hk)]
      exact e'
theorem sc_ExpressionReader_settle_all : FnScope ["self"] ["self"] (defScope s_ExpressionReader_settle_all) := ⟨rfl, rfl, rfl, by decide +kernel, rfl, by decide +kernel, by decide +kernel⟩
theorem g_ExpressionReader_settle_all (T : Txt K mg w) (G_ExpressionReader_settle : Gm P w K mg base CX0 2 (He.ga K "ExpressionReader") "settle" ["self", "strength"] (sp_ExpressionReader_settle K)) (G_ExpressionReader_end_within : Gm P w K mg base CX0 1 (He.ga K "ExpressionReader") "end_within" ["self", "sort"] (sp_ExpressionReader_end_within K)) : Gm P w K mg base CX0 3 (He.ga K "ExpressionReader") "settle_all" ["self"] (sp_ExpressionReader_settle_all K) := by
  have sc := sc_ExpressionReader_settle_all
  refine T.d_ExpressionReader_settle_all.ok sc len1 (fun _ _ _ _ _ _ us hl => match us, hl with | [_], _ => rfl) (fun f cdv A outer s H vs Q E hr h => ?_)
  obtain ⟨x0, rfl, h⟩ := h
  obtain ⟨a, c, l, pl, hl, f0, s, sl, rfl, e, h⟩ := h
  refine ⟨_, (pss_cons (ps_expr (pe_gm (pv 0) T.cl_ExpressionReader.c G_ExpressionReader_settle (hr.mono (by omega)) pass0 (pa_cons pe_int pa_nil)))
      (pss_one (ps_while PassesOwn.never (PW.pt (pw_and (pt_truth (pe_fld (pv 0) rfl) (by intro _; rfl)) (pw_and1 (pt_cmpR op_eq (pe_ix ix_tup (pe_ix ix_list (pe_fld (pv 0) rfl) (pe_un un_neg pe_int) (fun _ _ => rfl)) pe_int (fun _ _ => rfl)) pe_str (nomark _))))) (pss_one (ps_expr (pe_gm (pv 0) T.cl_ExpressionReader.c G_ExpressionReader_end_within (hr.mono (by omega)) pass0 (pa_cons pe_str pa_nil))))))), ?_⟩
  try dsimp only [L2.tNext, L2.tSeq, L2.tDrop, L2.tRet, L2.tIfS, L2.tAsg, L2.gName]
  refine rc_settle (k := 1) (fun Q q => ⟨_, rfl, q⟩) e.start (Nat.le_refl _) (fun R q => q) fun H1 e1 => ?_
  refine ⟨fun m σ H' => σ = L2.start ["self"] [.ref a] ∧ ∃ s', Ea K H H' a c l pl hl f0 s' true sl ∧ s'.h.length = m ∧ thE s' = thE (set1 1 s), ⟨_, rfl, _, e1, rfl, rfl⟩, ?_⟩
  rintro m σ H' ⟨rfl, s', e', hm, hs⟩
  obtain ⟨ys, h1, h2⟩ := e'.e.empty
  refine rf_held T.cl_ExpressionReader.c T.na_ExpressionReader_held (fun Q q => ⟨_, rfl, q⟩) e' _ ⟨_, tru_lst h1, ?_⟩
  cases hh : s'.h with
  | nil =>
    refine if_false_of (by rw [h2, hh]; rfl) ?_
    refine if_false_of rfl (h _ ?_)
    rw [setAll_eq, ← hs, thE_stop (fun t h' z => by rw [hh] at z; cases z)]
    exact e'
  | cons t hr =>
    refine if_true_of (by rw [h2, hh]; rfl) ?_
    obtain ⟨ys, q, h1, ⟨w1, v1, i1, hq0, ht, _⟩, _, _⟩ := e'.e.top hh
    refine rf_held T.cl_ExpressionReader.c T.na_ExpressionReader_held (fun Q q => ⟨_, rfl, q⟩) e' _ ⟨_, rfl, hl, _, _, _, rfl, rfl, SqL.of h1, atI_last, q, _, _, _, rfl, rfl, SqT.of hq0, rfl, rfl, _, rfl, ?_⟩
    show if decide (V.str (tagS t.1) = V.str (tagS 6)) = true then _ else _
    rw [tag_dec ht (by decide)]
    by_cases z : t.1 = 6
    · refine if_true_of (decide_eq_true z) ?_
      refine ⟨_, fun _ _ z => z, ?_⟩
      try dsimp only [L2.tNext, L2.tSeq, L2.tDrop, L2.tRet, L2.tIfS, L2.tAsg, L2.gName]
      refine rc_end (z := "three") (fun Q q => ⟨_, rfl, q⟩) e' hh (fun R q => q) fun H2 e2 => ?_
      exact ⟨hr.length, by rw [← hm, hh]; exact Nat.lt_succ_self _, rfl, _, e2, rfl, by rw [← hs, thE_go hh z]; rfl⟩
    · refine if_false_of (decide_eq_false z) (h _ ?_)
      rw [setAll_eq, ← hs, thE_stop (fun t' h' zz => by rw [hh] at zz; cases zz; exact z)]
      exact e'
theorem sc__read_number : FnScope ["reader", "_", "worth", "place"] ["reader"] (defScope s__read_number) := ⟨rfl, rfl, rfl, by decide +kernel, rfl, by decide +kernel, by decide +kernel⟩
theorem g__read_number (T : Txt K mg w) (G_ExpressionReader_take_counted : Gm P w K mg base (L2.CX P w) 3 (He.ga K "ExpressionReader") "take_counted" ["self"] (sp_ExpressionReader_take_counted K)) : Gd P w K mg base (L2.CX P w) 4 "_read_number" ["reader"] (sp__read_number K) := by
  have sc := sc__read_number
  refine T.d__read_number.okX sc len1 (fun _ _ _ _ _ _ us hl => match us, hl with | [_], _ => rfl) (fun f cdv A outer s H vs Q E hr h => ?_)
  obtain ⟨x0, rfl, h⟩ := h
  obtain ⟨a, c, l, pl, hl, f0, s, rfl, e, hc, h⟩ := h
  refine ⟨_, (pss_cons (ps_asg (pe_gm0 (pv 0) T.cl_ExpressionReader.c G_ExpressionReader_take_counted (hr.mono (by omega)) (passes_call (takes_of rfl rfl rfl rfl) (fun _ _ _ _ h => h))) (pg_tup rfl (pgs_cons (pg_name (i := 1) sc.nd rfl (Or.inl rfl)) (pgs_cons (pg_name (i := 2) sc.nd rfl (Or.inl rfl)) (pgs_cons (pg_name (i := 3) sc.nd rfl (Or.inl rfl)) pgs_nil)))))
      (pss_cons (ps_expr (pe_bm PySem.F.plainAttrs_list PySem.F.slot_list_append PySem.F.type_list_append mt_append (pe_fld (pv 0) rfl) (pa_cons (pe_tup (pa_cons pe_str (pa_cons (pe_ix ix_tup (pv 2) pe_int (fun _ _ => rfl)) (pa_cons (pe_ix ix_tup (pv 2) pe_int (fun _ _ => rfl)) (pa_cons (pv 3) pa_nil))))) pa_nil)))
      (pss_one (ps_ret pe_bl)))), ?_⟩
  have hc2 : hd s.r = 2 := by simpa using hc
  rw [begin1_2 hc2] at h
  try dsimp only [L2.tNext, L2.tSeq, L2.tDrop, L2.tRet, L2.tIfS, L2.tAsg, L2.gName]
  refine rc_counted (fun Q q => ⟨_, rfl, q⟩) e.start (by rw [hc2]; decide) h fun p z H1 e1 tk ez h1 => ?_
  obtain ⟨w0, q0, t1, t2, t3⟩ := tk
  obtain ⟨u, zz, kd, rfl, hu⟩ := t3 (tok_hd ez hc2)
  refine ⟨p, _, rfl, SqT.of t1, rfl, _, _, rfl, _, _, rfl, _, _, rfl, rfl, ?_⟩
  obtain ⟨xs, h4, h5, h6⟩ := e1.part'
  try dsimp only [L2.tNext, L2.tSeq, L2.tDrop, L2.tRet, L2.tIfS, L2.tAsg, L2.gName]
  refine ra_append (rf_parts T.cl_ExpressionReader.c T.na_ExpressionReader_parts (fun Q q => ⟨_, rfl, q⟩) e1) h4 ?_
  refine ⟨_, rfl, u, _, _, _, rfl, rfl, SqT.of hu, rfl, _, rfl, u, _, _, _, rfl, rfl, SqT.of hu, rfl, _, rfl, tup_le (by show 4 ≤ 4000000; decide), fun pp hp => ?_⟩
  obtain ⟨xs, h4, h5, h6⟩ := (e1.laid hp).part'
  exact ⟨_, xs, rfl, h4, h5, h1 _ _ (h6 pp _ _ false upd_same (by decide)) rfl⟩
theorem sc__read_name : FnScope ["reader", "cursor", "_", "name", "place"] ["reader"] (defScope s__read_name) := ⟨rfl, rfl, rfl, by decide +kernel, rfl, by decide +kernel, by decide +kernel⟩
theorem g__read_name (T : Txt K mg w) (G_ExpressionReader_take_counted : Gm P w K mg base (L2.CX P w) 3 (He.ga K "ExpressionReader") "take_counted" ["self"] (sp_ExpressionReader_take_counted K)) (G_Cursor_ahead : Gm P w K mg base CX0 1 (He.ga K "Cursor") "ahead" ["self"] (sp_Cursor_ahead K)) (G_Cursor_take : Gm P w K mg base CX0 1 (He.ga K "Cursor") "take" ["self"] (sp_Cursor_take K)) (G_ExpressionReader_begin_within : Gm P w K mg base (L2.CX P w) 4 (He.ga K "ExpressionReader") "begin_within" ["self", "sort", "what", "many", "place"] (sp_ExpressionReader_begin_within K)) : Gd P w K mg base (L2.CX P w) 5 "_read_name" ["reader"] (sp__read_name K) := by
  have sc := sc__read_name
  refine T.d__read_name.okX sc len1 (fun _ _ _ _ _ _ us hl => match us, hl with | [_], _ => rfl) (fun f cdv A outer s H vs Q E hr h => ?_)
  obtain ⟨x0, rfl, h⟩ := h
  obtain ⟨a, c, l, pl, hl, f0, s, rfl, e, hc, h⟩ := h
  refine ⟨_, (pss_cons (ps_set (i := 1) sc.nd rfl (Or.inl rfl) (pe_fld (pv 0) rfl))
      (pss_cons (ps_asg (pe_gm0 (pv 0) T.cl_ExpressionReader.c G_ExpressionReader_take_counted (hr.mono (by omega)) (passes_call (takes_of rfl rfl rfl rfl) (fun _ _ _ _ h => h))) (pg_tup rfl (pgs_cons (pg_name (i := 2) sc.nd rfl (Or.inl rfl)) (pgs_cons (pg_name (i := 3) sc.nd rfl (Or.inl rfl)) (pgs_cons (pg_name (i := 4) sc.nd rfl (Or.inl rfl)) pgs_nil)))))
      (pss_cons (ps_if (pt_cmpR op_ne (pe_gm0 (pv 1) T.cl_Cursor.c G_Cursor_ahead (hr.mono (by omega)) pass0) pe_str (nomark _)) (pss_cons (ps_expr (pe_bm PySem.F.plainAttrs_list PySem.F.slot_list_append PySem.F.type_list_append mt_append (pe_fld (pv 0) rfl) (pa_cons (pe_tup (pa_cons pe_str (pa_cons (pv 3) (pa_cons pe_int (pa_cons (pv 4) pa_nil))))) pa_nil)))
      (pss_one (ps_ret pe_bl))) pss_nil)
      (pss_cons (ps_expr (pe_gm0 (pv 1) T.cl_Cursor.c G_Cursor_take (hr.mono (by omega)) pass0))
      (pss_cons (ps_if (pt_cmpR op_eq (pe_gm0 (pv 1) T.cl_Cursor.c G_Cursor_ahead (hr.mono (by omega)) pass0) pe_str (nomark _)) (pss_cons (ps_expr (pe_gm0 (pv 1) T.cl_Cursor.c G_Cursor_take (hr.mono (by omega)) pass0))
      (pss_cons (ps_expr (pe_bm PySem.F.plainAttrs_list PySem.F.slot_list_append PySem.F.type_list_append mt_append (pe_fld (pv 0) rfl) (pa_cons (pe_tup (pa_cons pe_str (pa_cons (pv 3) (pa_cons pe_int (pa_cons (pv 4) pa_nil))))) pa_nil)))
      (pss_one (ps_ret pe_bl)))) pss_nil)
      (pss_cons (ps_expr (pe_gm (pv 0) T.cl_ExpressionReader.c G_ExpressionReader_begin_within (hr.mono (by omega)) (passes_call (takes_of rfl rfl rfl rfl) (fun _ _ _ _ h => h)) (pa_cons pe_str (pa_cons (pv 3) (pa_cons pe_int (pa_cons (pv 4) pa_nil))))))
      (pss_one (ps_ret pe_bl)))))))), ?_⟩
  have hc2 : hd s.r = 1 := by simpa using hc
  rw [begin1_1 hc2] at h
  try dsimp only [L2.tNext, L2.tSeq, L2.tDrop, L2.tRet, L2.tIfS, L2.tAsg, L2.gName]
  refine rf_cursor T.cl_ExpressionReader.c T.na_ExpressionReader_cursor (fun Q q => ⟨_, rfl, q⟩) e.start _ ?_
  try dsimp only [L2.tNext, L2.tSeq, L2.tDrop, L2.tRet, L2.tIfS, L2.tAsg, L2.gName]
  refine rc_counted (fun Q q => ⟨_, rfl, q⟩) e.start (by rw [hc2]; decide) h fun p z H1 e1 tk ez h1 => ?_
  obtain ⟨w0, q0, t1, t2, t3⟩ := tk
  refine ⟨p, _, rfl, SqT.of t1, rfl, _, _, rfl, _, _, rfl, _, _, rfl, rfl, ?_⟩
  try dsimp only [L2.tNext, L2.tSeq, L2.tDrop, L2.tRet, L2.tIfS, L2.tAsg, L2.gName]
  refine ra_ne (fun Q q => ⟨_, rfl, q⟩) e1.e.at 52 (by decide) rfl (fun y => ?_) (fun y => ?_)
  · rw [if_pos y] at h1
    try dsimp only [L2.tNext, L2.tSeq, L2.tDrop, L2.tRet, L2.tIfS, L2.tAsg, L2.gName]
    refine rb_take (fun Q q => ⟨_, rfl, q⟩) e1 (by rw [y]; decide) fun p2 z2 H2 e2 tk2 ez2 => ?_
    try dsimp only [L2.tNext, L2.tSeq, L2.tDrop, L2.tRet, L2.tIfS, L2.tAsg, L2.gName]
    refine ra_eq (fun Q q => ⟨_, rfl, q⟩) e2.e.at 53 (by decide) rfl (fun y => ?_) (fun y => ?_)
    · rw [if_pos y] at h1
      try dsimp only [L2.tNext, L2.tSeq, L2.tDrop, L2.tRet, L2.tIfS, L2.tAsg, L2.gName]
      refine rb_take (fun Q q => ⟨_, rfl, q⟩) e2 (by rw [y]; decide) fun p3 z3 H3 e3 tk3 ez3 => ?_
      obtain ⟨xs, h4, h5, h6⟩ := e3.part'
      try dsimp only [L2.tNext, L2.tSeq, L2.tDrop, L2.tRet, L2.tIfS, L2.tAsg, L2.gName]
      refine ra_append (rf_parts T.cl_ExpressionReader.c T.na_ExpressionReader_parts (fun Q q => ⟨_, rfl, q⟩) e3) h4 ?_
      refine ⟨_, rfl, _, rfl, tup_le (by show 4 ≤ 4000000; decide), fun pp hp => ?_⟩
      obtain ⟨xs, h4, h5, h6⟩ := (e3.laid hp).part'
      exact ⟨_, xs, rfl, h4, h5, h1 _ _ ((h6 pp _ _ true upd_same (by decide)).less (Nat.zero_le _)) rfl⟩
    · rw [if_neg y] at h1
      try dsimp only [L2.tNext, L2.tSeq, L2.tDrop, L2.tRet, L2.tIfS, L2.tAsg, L2.gName]
      refine rc_begin (u := 2) (fun Q q => ⟨_, rfl, q⟩) e2 h1 (by decide) (by decide) (fun R q => ⟨_, rfl, _, rfl, q⟩) fun s' H3 e3 h3 => ?_
      exact h3 _ _ (e3.less (Nat.zero_le _)) rfl
  · rw [if_neg y] at h1
    obtain ⟨xs, h4, h5, h6⟩ := e1.part'
    try dsimp only [L2.tNext, L2.tSeq, L2.tDrop, L2.tRet, L2.tIfS, L2.tAsg, L2.gName]
    refine ra_append (rf_parts T.cl_ExpressionReader.c T.na_ExpressionReader_parts (fun Q q => ⟨_, rfl, q⟩) e1) h4 ?_
    refine ⟨_, rfl, _, rfl, tup_le (by show 4 ≤ 4000000; decide), fun pp hp => ?_⟩
    obtain ⟨xs, h4, h5, h6⟩ := (e1.laid hp).part'
    exact ⟨_, xs, rfl, h4, h5, h1 _ _ (h6 pp _ _ false upd_same (by decide)) rfl⟩
theorem sc__read_in_or_more : FnScope ["reader", "sort", "_", "place"] ["reader"] (defScope s__read_in_or_more) := ⟨rfl, rfl, rfl, by decide +kernel, rfl, by decide +kernel, by decide +kernel⟩
theorem g__read_in_or_more (T : Txt K mg w) (G_ExpressionReader_take_counted : Gm P w K mg base (L2.CX P w) 3 (He.ga K "ExpressionReader") "take_counted" ["self"] (sp_ExpressionReader_take_counted K)) (G_Cursor_want : Gm P w K mg base (L2.CX P w) 3 (He.ga K "Cursor") "want" ["self", "sort"] (sp_Cursor_want K)) : Gd P w K mg base (L2.CX P w) 4 "_read_in_or_more" ["reader"] (sp__read_in_or_more K) := by
  have sc := sc__read_in_or_more
  refine T.d__read_in_or_more.okX sc len1 (fun _ _ _ _ _ _ us hl => match us, hl with | [_], _ => rfl) (fun f cdv A outer s H vs Q E hr h => ?_)
  obtain ⟨x0, rfl, h⟩ := h
  obtain ⟨a, c, l, pl, hl, f0, s, rfl, e, hc, h⟩ := h
  refine ⟨_, (pss_cons (ps_asg (pe_gm0 (pv 0) T.cl_ExpressionReader.c G_ExpressionReader_take_counted (hr.mono (by omega)) (passes_call (takes_of rfl rfl rfl rfl) (fun _ _ _ _ h => h))) (pg_tup rfl (pgs_cons (pg_name (i := 1) sc.nd rfl (Or.inl rfl)) (pgs_cons (pg_name (i := 2) sc.nd rfl (Or.inl rfl)) (pgs_cons (pg_name (i := 3) sc.nd rfl (Or.inl rfl)) pgs_nil)))))
      (pss_cons (ps_expr (pe_gm (pe_fld (pv 0) rfl) T.cl_Cursor.c G_Cursor_want (hr.mono (by omega)) (passes_call (takes_of rfl rfl rfl rfl) (fun _ _ _ _ h => h)) (pa_cons pe_str pa_nil)))
      (pss_cons (ps_expr (pe_gm (pe_fld (pv 0) rfl) T.cl_Cursor.c G_Cursor_want (hr.mono (by omega)) (passes_call (takes_of rfl rfl rfl rfl) (fun _ _ _ _ h => h)) (pa_cons pe_str pa_nil)))
      (pss_cons (ps_expr (pe_bm PySem.F.plainAttrs_list PySem.F.slot_list_append PySem.F.type_list_append mt_append (pe_fld (pv 0) rfl) (pa_cons (pe_tup (pa_cons (pv 1) (pa_cons pe_str (pa_cons pe_int (pa_cons (pv 3) pa_nil))))) pa_nil)))
      (pss_one (ps_ret pe_bl)))))), ?_⟩
  have hc2 : hd s.r = 23 ∨ hd s.r = 24 := by simpa using hc
  rw [begin1_in hc2] at h
  try dsimp only [L2.tNext, L2.tSeq, L2.tDrop, L2.tRet, L2.tIfS, L2.tAsg, L2.gName]
  refine rc_counted (fun Q q => ⟨_, rfl, q⟩) e.start (by rcases hc2 with z | z <;> rw [z] <;> decide) h fun p z H1 e1 tk ez h1 => ?_
  obtain ⟨w0, q0, t1, t2, t3⟩ := tk
  refine ⟨p, _, rfl, SqT.of t1, rfl, _, _, rfl, _, _, rfl, _, _, rfl, rfl, ?_⟩
  try dsimp only [L2.tNext, L2.tSeq, L2.tDrop, L2.tRet, L2.tIfS, L2.tAsg, L2.gName]
  refine rb_want (u := 52) (rf_cursor T.cl_ExpressionReader.c T.na_ExpressionReader_cursor (fun Q q => ⟨_, rfl, q⟩) e1) (fun R q => q) (by decide) (by decide) e1 h1 fun p2 z2 H2 e2 tk2 eq2 ez2 h2 => ?_
  try dsimp only [L2.tNext, L2.tSeq, L2.tDrop, L2.tRet, L2.tIfS, L2.tAsg, L2.gName]
  refine rb_want (u := 53) (rf_cursor T.cl_ExpressionReader.c T.na_ExpressionReader_cursor (fun Q q => ⟨_, rfl, q⟩) e2) (fun R q => q) (by decide) (by decide) e2 h2 fun p3 z3 H3 e3 tk3 eq3 ez3 h3 => ?_
  obtain ⟨xs, h4, h5, h6⟩ := e3.part'
  try dsimp only [L2.tNext, L2.tSeq, L2.tDrop, L2.tRet, L2.tIfS, L2.tAsg, L2.gName]
  refine ra_append (rf_parts T.cl_ExpressionReader.c T.na_ExpressionReader_parts (fun Q q => ⟨_, rfl, q⟩) e3) h4 ?_
  refine ⟨_, rfl, _, rfl, tup_le (by show 4 ≤ 4000000; decide), fun pp hp => ?_⟩
  obtain ⟨xs, h4, h5, h6⟩ := (e3.laid hp).part'
  have hz : z.1 = 23 ∨ z.1 = 24 := hc2.imp (tok_hd ez) (tok_hd ez)
  exact ⟨_, xs, rfl, h4, h5, h3 _ _ ((h6 pp _ _ false upd_same (by rcases hz with z | z <;> rw [z] <;> decide)).less (Nat.zero_le _)) rfl⟩
theorem sc__read_bracket : FnScope ["reader", "place"] ["reader"] (defScope s__read_bracket) := ⟨rfl, rfl, rfl, by decide +kernel, rfl, by decide +kernel, by decide +kernel⟩
theorem g__read_bracket (T : Txt K mg w) (G_ExpressionReader_take_counted : Gm P w K mg base (L2.CX P w) 3 (He.ga K "ExpressionReader") "take_counted" ["self"] (sp_ExpressionReader_take_counted K)) (G_ExpressionReader_begin_within : Gm P w K mg base (L2.CX P w) 4 (He.ga K "ExpressionReader") "begin_within" ["self", "sort", "what", "many", "place"] (sp_ExpressionReader_begin_within K)) : Gd P w K mg base (L2.CX P w) 5 "_read_bracket" ["reader"] (sp__read_bracket K) := by
  have sc := sc__read_bracket
  refine T.d__read_bracket.okX sc len1 (fun _ _ _ _ _ _ us hl => match us, hl with | [_], _ => rfl) (fun f cdv A outer s H vs Q E hr h => ?_)
  obtain ⟨x0, rfl, h⟩ := h
  obtain ⟨a, c, l, pl, hl, f0, s, rfl, e, hc, h⟩ := h
  refine ⟨_, (pss_cons (ps_set (i := 1) sc.nd rfl (Or.inl rfl) (pe_ix ix_tup (pe_gm0 (pv 0) T.cl_ExpressionReader.c G_ExpressionReader_take_counted (hr.mono (by omega)) (passes_call (takes_of rfl rfl rfl rfl) (fun _ _ _ _ h => h))) pe_int (fun _ _ => rfl)))
      (pss_cons (ps_expr (pe_gm (pv 0) T.cl_ExpressionReader.c G_ExpressionReader_begin_within (hr.mono (by omega)) (passes_call (takes_of rfl rfl rfl rfl) (fun _ _ _ _ h => h)) (pa_cons pe_str (pa_cons pe_str (pa_cons pe_int (pa_cons (pv 1) pa_nil))))))
      (pss_one (ps_ret pe_bl)))), ?_⟩
  have hc2 : hd s.r = 52 := by simpa using hc
  rw [begin1_52 hc2] at h
  try dsimp only [L2.tNext, L2.tSeq, L2.tDrop, L2.tRet, L2.tIfS, L2.tAsg, L2.gName]
  refine rc_counted (fun Q q => ⟨_, rfl, q⟩) e.start (by rw [hc2]; decide) h fun p z H1 e1 tk ez h1 => ?_
  obtain ⟨w0, q0, t1, t2, t3⟩ := tk
  refine ⟨p, _, _, _, rfl, rfl, SqT.of t1, rfl, ?_⟩
  try dsimp only [L2.tNext, L2.tSeq, L2.tDrop, L2.tRet, L2.tIfS, L2.tAsg, L2.gName]
  refine rc_begin (u := 3) (fun Q q => ⟨_, rfl, q⟩) e1 h1 (by decide) (by decide) (fun R q => ⟨_, rfl, q⟩) fun s' H3 e3 h3 => ?_
  exact h3 _ _ e3 rfl
end
end Rd

namespace Rd
open PySem PySem.Spec PyProof.Rows L2 My Mir
section
variable {K : PySem.W.Frag} {a c l pl hl : Addr} {f0 sl : Nat} {s : Es} {ne : Bool} {H0 H : Hp} {E : XK} {Q : VK} {σ : L2.St} {A B : Hp → Prop} {y : V}
theorem Ea.held0 (e : Ea K H0 H a c l pl hl f0 s ne sl) : ∃ ys, H hl = some (.lst ys) := by
  obtain ⟨xs, qs, _, h, _⟩ := e.e.lists
  exact ⟨_, h⟩
theorem Ea.parts0 (e : Ea K H0 H a c l pl hl f0 s ne sl) : ∃ ys, H pl = some (.lst ys) := by
  obtain ⟨xs, qs, h, _⟩ := e.e.lists
  exact ⟨_, h⟩
theorem Ea.top (e : Ea K H0 H a c l pl hl f0 s ne sl) {t : Nat × Nat} {h : List (Nat × Nat)} (hs : s.h = t :: h) : ∃ (ys : List V) (q : Addr), H hl = some (.lst (ys ++ [.ref q])) ∧ HeldAt H q t ∧
    Ea K H0 (upd H hl (.lst ys)) a c l pl hl f0 { s with h := h } ne (sl + 1) ∧
    ∀ (p : Addr) (t' : Nat × Nat), HeldAt H p t' → Ea K H0 (upd H hl (.lst (ys ++ [.ref p]))) a c l pl hl f0 { s with h := t' :: h } ne sl := by
  obtain ⟨ys, q, h1, h2, h3, h4⟩ := e.e.top hs
  exact ⟨ys, q, h1, h2, ⟨h3, e.b.trans (ButL.put (by simp))⟩, fun p t' ht => ⟨h4 p t' ht, e.b.trans (ButL.put (by simp))⟩⟩
theorem sp_begin_of {α : Type} {k : Es → Rs α} {good : α → Prop} {u : Nat} {x3 x5 : V} {i : Int} (e : Ea K H0 H a c l pl hl f0 s ne (sl + 1)) (h : Post (within u s >>= k) good (Bad (CB K) (M4 c a pl hl) H0 E)) (h1 : 1 < u) (h2 : u < 7)
    (q : ∀ (s' : Es) (H' : Hp), Ea K H0 H' a c l pl hl f0 s' ne sl → Post (k s') good (Bad (CB K) (M4 c a pl hl) H0 E) → Q .non H') : sp_ExpressionReader_begin_within K [.ref a, .str (tagS u), x3, .int i, x5] H Q E := by
  refine ⟨_, _, _, _, _, rfl, a, c, l, pl, hl, f0, s, ne, sl, u, _, _, _, rfl, rfl, rfl, rfl, rfl, h1, h2, e.e, ?_⟩
  exact post_mono (post_bind h) (fun s' z H' e' => q s' H' ⟨e'.e, e.b.trans e'.b⟩ z) (fun _ _ z => z.after e.b)
theorem tv_eq {i c : Nat} (hi : σ[i]? = some (some (.str (srt c)))) (hc : c < 58) (u : Nat) (hu : u < 58) (hy : V.str (srt u) = y) (h1 : c = u → A H) (h2 : c ≠ u → B H) :
    tTest (tOp rEq (tVar i) (tC y)) σ H (fun k H' => if k = true then A H' else B H') := by
  subst hy
  refine ⟨_, hi, rfl, _, rfl, ?_⟩
  rw [srt_dec hc hu]
  by_cases z : c = u
  · exact if_true_of (decide_eq_true z) (h1 z)
  · exact if_false_of (decide_eq_false z) (h2 z)
theorem tand_eq {i j t c : Nat} {z : V} (hi : σ[i]? = some (some (.str (tagS t)))) (hj : σ[j]? = some (some (.str (srt c)))) (ht : t < 7) (hc : c < 58) (u v : Nat) (hu : u < 7) (hv : v < 58) (hy : V.str (tagS u) = y) (hz : V.str (srt v) = z) (h1 : t = u ∧ c = v → A H) (h2 : ¬ (t = u ∧ c = v) → B H) :
    tAnd (tTest (tOp rEq (tVar i) (tC y))) (tTest (tOp rEq (tVar j) (tC z))) σ H (fun k H' => if k = true then A H' else B H') := by
  subst hy hz
  refine ⟨_, hi, rfl, _, rfl, ?_⟩
  rw [tag_dec ht hu]
  by_cases w : t = u
  · refine if_true_of (decide_eq_true w) ?_
    refine ⟨_, hj, rfl, _, rfl, ?_⟩
    rw [srt_dec hc hv]
    by_cases x : c = v
    · exact if_true_of (decide_eq_true x) (h1 ⟨w, x⟩)
    · exact if_false_of (decide_eq_false x) (h2 fun q => x q.2)
  · refine if_false_of (decide_eq_false w) ?_
    exact if_false_of rfl (h2 fun q => w q.1)
theorem tv_inKd {i c : Nat} {p : Addr} {f : Nat → Option He.Dv} (hi : σ[i]? = some (some (.str (srt c)))) (hc : c < 58) (t : tabOf f K p) (h1 : (f c).isSome = true → A H) (h2 : (f c).isSome = false → B H) :
    tTest (tOp (fun x y H Q => ∃ (z : Str) (r : Option Value), x = .str z ∧ y = .ref p ∧ PySem.W.nsIn K p z = some r ∧ Q (.bl r.isSome) H) (tVar i) (tC (.ref p))) σ H (fun k H' => if k = true then A H' else B H') := by
  obtain ⟨u, hu, hs⟩ := in_kd t hc
  refine ⟨_, hi, _, u, rfl, rfl, hu, _, rfl, ?_⟩
  rw [hs]
  cases z : (f c).isSome with
  | true => exact if_true_of rfl (h1 z)
  | false => exact if_false_of rfl (h2 z)
end
/-- the defs that begin -/
def Sbe (K : PySem.W.Frag) (f : Addr) (sp : Sp) : Prop := (f = He.ga K "_read_number" ∧ sp = sp__read_number K) ∨ (f = He.ga K "_read_name" ∧ sp = sp__read_name K) ∨ (f = He.ga K "_read_in_or_more" ∧ sp = sp__read_in_or_more K) ∨ (f = He.ga K "_read_bracket" ∧ sp = sp__read_bracket K)
theorem begins (K : PySem.W.Frag) : ∀ c, c < 58 → (fBEGINNINGS c).isSome = true → ∃ (x : Str) (cs : List Nat), fBEGINNINGS c = some (.glo x) ∧ c ∈ cs ∧ Sbe K (He.ga K x) (sp_begin K cs)
  | 2, _, _ => ⟨_, [2], rfl, by simp, .inl ⟨rfl, rfl⟩⟩
  | 1, _, _ => ⟨_, [1], rfl, by simp, .inr (.inl ⟨rfl, rfl⟩)⟩
  | 23, _, _ => ⟨_, [23, 24], rfl, by simp, .inr (.inr (.inl ⟨rfl, rfl⟩))⟩
  | 24, _, _ => ⟨_, [23, 24], rfl, by simp, .inr (.inr (.inl ⟨rfl, rfl⟩))⟩
  | 52, _, _ => ⟨_, [52], rfl, by simp, .inr (.inr (.inr ⟨rfl, rfl⟩))⟩
  | n, hn, h => by
    have z : ∀ n, n < 58 → (fBEGINNINGS n).isSome = true → n = 2 ∨ n = 1 ∨ n = 23 ∨ n = 24 ∨ n = 52 := by decide +kernel
    rcases z n hn h with rfl | rfl | rfl | rfl | rfl
    · exact ⟨_, [2], rfl, by simp, .inl ⟨rfl, rfl⟩⟩
    · exact ⟨_, [1], rfl, by simp, .inr (.inl ⟨rfl, rfl⟩)⟩
    · exact ⟨_, [23, 24], rfl, by simp, .inr (.inr (.inl ⟨rfl, rfl⟩))⟩
    · exact ⟨_, [23, 24], rfl, by simp, .inr (.inr (.inl ⟨rfl, rfl⟩))⟩
    · exact ⟨_, [52], rfl, by simp, .inr (.inr (.inr ⟨rfl, rfl⟩))⟩
theorem begin_is : ∀ c, c < 58 → (fBEGINNINGS c).isSome = isBegin c := by decide +kernel
theorem ahead_is (c : Nat) : c ∈ [43, 42, 36] ↔ isAhead c = true := by
  simp [isAhead, or_assoc]
section
variable {P : Program} {w : World} {K : PySem.W.Frag} {mg : Str → Option Value} {base : Heap}
theorem sc__read_operand : FnScope ["reader", "cursor", "whole", "sign", "_", "place", "begin"] ["reader"] (defScope s__read_operand) := ⟨rfl, rfl, rfl, by decide +kernel, rfl, by decide +kernel, by decide +kernel⟩
theorem g__read_operand (T : Txt K mg w) (G__read_number : Gd P w K mg base (L2.CX P w) 4 "_read_number" ["reader"] (sp__read_number K)) (G__read_name : Gd P w K mg base (L2.CX P w) 5 "_read_name" ["reader"] (sp__read_name K)) (G__read_in_or_more : Gd P w K mg base (L2.CX P w) 4 "_read_in_or_more" ["reader"] (sp__read_in_or_more K)) (G__read_bracket : Gd P w K mg base (L2.CX P w) 5 "_read_bracket" ["reader"] (sp__read_bracket K)) (G_Cursor_ahead : Gm P w K mg base CX0 1 (He.ga K "Cursor") "ahead" ["self"] (sp_Cursor_ahead K)) (G_Cursor_take : Gm P w K mg base CX0 1 (He.ga K "Cursor") "take" ["self"] (sp_Cursor_take K)) (G_Cursor_fail : Gm P w K mg base (L2.CX P w) 2 (He.ga K "Cursor") "fail" ["self"] (sp_Cursor_fail K)) : Gd P w K mg base (L2.CX P w) 6 "_read_operand" ["reader"] (sp__read_operand K) := by
  have sc := sc__read_operand
  refine T.d__read_operand.okX sc len1 (fun _ _ _ _ _ _ us hl => match us, hl with | [_], _ => rfl) (fun f cdv A outer s H vs Q E hr h => ?_)
  obtain ⟨x0, rfl, h⟩ := h
  obtain ⟨a, c, l, pl, hl, f0, f1, s, rfl, e, h⟩ := h
  obtain ⟨es1, n1, kd_BEGINNINGS⟩ := T.k_BEGINNINGS
  have HB_begin : ∀ f sp, Sbe K f sp → HeldX P w K mg base (L2.CX P w) 5 f sp := by
    intro f sp hS
    rcases hS with ⟨rfl, rfl⟩ | ⟨rfl, rfl⟩ | ⟨rfl, rfl⟩ | ⟨rfl, rfl⟩
    · exact heldX_of (G__read_number.mono (by decide : _ ≤ 5)) T.ga__read_number
    · exact heldX_of (G__read_name.mono (by decide : _ ≤ 5)) T.ga__read_name
    · exact heldX_of (G__read_in_or_more.mono (by decide : _ ≤ 5)) T.ga__read_in_or_more
    · exact heldX_of (G__read_bracket.mono (by decide : _ ≤ 5)) T.ga__read_bracket
  refine ⟨_, (pss_cons (ps_set (i := 1) sc.nd rfl (Or.inl rfl) (pe_fld (pv 0) rfl))
      (pss_cons (ps_set (i := 2) sc.nd rfl (Or.inl rfl) pe_bl)
      (pss_one (ps_while (passes_of rfl) (pt_not (pt_val (pv 2))) (pss_one (ps_if (pt_cmpR op_in_seq (pe_gm0 (pv 1) T.cl_Cursor.c G_Cursor_ahead (hr.mono (by omega)) pass0) (pe_gref T.c_AHEAD) rfl) (pss_cons (ps_asg (pe_gm0 (pv 1) T.cl_Cursor.c G_Cursor_take (hr.mono (by omega)) pass0) (pg_tup rfl (pgs_cons (pg_name (i := 3) sc.nd rfl (Or.inl rfl)) (pgs_cons (pg_name (i := 4) sc.nd rfl (Or.inl rfl)) (pgs_cons (pg_name (i := 5) sc.nd rfl (Or.inl rfl)) pgs_nil)))))
      (pss_one (ps_expr (pe_bm PySem.F.plainAttrs_list PySem.F.slot_list_append PySem.F.type_list_append mt_append (pe_fld (pv 0) rfl) (pa_cons (pe_tup (pa_cons pe_str (pa_cons (pv 3) (pa_cons pe_int (pa_cons (pv 5) pa_nil))))) pa_nil))))) (pss_one (ps_if (pt_cmpR (op_in_kd kd_BEGINNINGS) (pe_gm0 (pv 1) T.cl_Cursor.c G_Cursor_ahead (hr.mono (by omega)) pass0) (pe_gref T.c_BEGINNINGS) rfl) (pss_cons (ps_set (i := 6) sc.nd rfl (Or.inl rfl) (pe_ix ix_kdict (pe_gref T.c_BEGINNINGS) (pe_gm0 (pv 1) T.cl_Cursor.c G_Cursor_ahead (hr.mono (by omega)) pass0) (fun _ _ => rfl)))
      (pss_one (ps_set (i := 2) sc.nd rfl (Or.inl rfl) (pe_callV (i := 6) HB_begin (hr.mono (by omega)) rfl (Or.inl rfl) (passes_call (takes_of rfl rfl rfl rfl) (fun _ _ _ _ h => h)) (pa_cons (pv 0) pa_nil))))) (pss_one (ps_expr (pe_gm0 (pv 1) T.cl_Cursor.c G_Cursor_fail (hr.mono (by omega)) (passes_call (takes_of rfl rfl rfl rfl) (fun _ _ _ _ h => h))))))))))))), ?_⟩
  refine rf_cursor T.cl_ExpressionReader.c T.na_ExpressionReader_cursor (fun Q q => ⟨_, rfl, q⟩) e.start _ ?_
  refine ⟨fun m σ H' => ∃ (whole : Bool) (s' : Es) (r1 r2 r3 r4 : Option V), σ = [some (.ref a), some (.ref c), some (.bl whole), r1, r2, r3, r4] ∧ (whole = true → Q .non H') ∧ (whole = false → Ea K H H' a c l pl hl f0 s' false 0 ∧ Post (operand m s') (fun s' => ∀ v H', Ea K H H' a c l pl hl f0 s' true 0 → Q v H') (Bad (CB K) (M4 c a pl hl) H E)), ⟨f1, false, s, none, none, none, none, rfl, (fun z => by cases z), fun _ => ⟨e.start, h⟩⟩, ?_⟩
  rintro m σ H' ⟨whole, s', r1, r2, r3, r4, rfl, hw1, hw2⟩
  refine ⟨_, rfl, _, rfl, ?_⟩
  cases whole with
  | true => exact if_false_of rfl (hw1 rfl)
  | false =>
    refine if_true_of rfl ⟨_, fun _ _ z => z, ?_⟩
    obtain ⟨e', h'⟩ := hw2 rfl
    cases m with
    | zero => exact h'.elim
    | succ m =>
    have h'' : Post (if isAhead (hd s'.r) = true then operand m { take1 s' with h := (0, 11) :: s'.h } else if isBegin (hd s'.r) = true then (begin1 s' >>= fun x => if x.1 = true then pure x.2 else operand m x.2) else ill s'.r) (fun s' => ∀ v H', Ea K H H' a c l pl hl f0 s' true 0 → Q v H') (Bad (CB K) (M4 c a pl hl) H E) := h'
    try dsimp only [L2.tNext, L2.tSeq, L2.tDrop, L2.tRet, L2.tIfS, L2.tAsg, L2.gName]
    refine ra_in (fun Q q => ⟨_, rfl, q⟩) e'.e.at [43, 42, 36] (by decide) (T.t_AHEAD H') (fun y => ?_) (fun y => ?_)
    · have y2 := (ahead_is _).1 y
      rw [if_pos y2] at h''
      try dsimp only [L2.tNext, L2.tSeq, L2.tDrop, L2.tRet, L2.tIfS, L2.tAsg, L2.gName]
      refine rb_take (fun Q q => ⟨_, rfl, q⟩) e' (by intro z; rw [z] at y; simp at y) fun p z H1 e1 tk ez => ?_
      obtain ⟨w0, q0, t1, t2, t3⟩ := tk
      refine ⟨p, _, rfl, SqT.of t1, rfl, _, _, rfl, _, _, rfl, _, _, rfl, rfl, ?_⟩
      obtain ⟨ys, g1, g2, g3⟩ := e1.hold
      try dsimp only [L2.tNext, L2.tSeq, L2.tDrop, L2.tRet, L2.tIfS, L2.tAsg, L2.gName]
      refine ra_append (rf_held T.cl_ExpressionReader.c T.na_ExpressionReader_held (fun Q q => ⟨_, rfl, q⟩) e1) g1 ?_
      refine ⟨_, rfl, _, rfl, tup_le (by show 4 ≤ 4000000; decide), fun pp hp => ?_⟩
      obtain ⟨ys, g1, g2, g3⟩ := (e1.laid (o := .tup [.str (tagS 0), .str (srt z.1), .int 0, .ref q0]) hp).hold
      refine ⟨_, ys, rfl, g1, g2, m, Nat.lt_succ_self _, false, _, _, _, _, _, rfl, (fun z => by cases z), fun _ => ⟨g3 pp (0, 11) ⟨_, _, _, upd_same, (by decide), (fun _ => rfl), (fun z => by cases z), fun z => by cases z⟩, h''⟩⟩
    · have y2 : ¬ isAhead (hd s'.r) = true := fun z => y ((ahead_is _).2 z)
      rw [if_neg y2] at h''
      have hb := begin_is (hd s'.r) (wf58 e'.e.wf)
      try dsimp only [L2.tNext, L2.tSeq, L2.tDrop, L2.tRet, L2.tIfS, L2.tAsg, L2.gName]
      refine ra_inKd (fun Q q => ⟨_, rfl, q⟩) e'.e.at T.v_BEGINNINGS (fun y => ?_) (fun y => ?_)
      · rw [← hb, if_pos y] at h''
        obtain ⟨x, cs, fx, fc, fs⟩ := begins K (hd s'.r) (wf58 e'.e.wf) y
        try dsimp only [L2.tNext, L2.tSeq, L2.tDrop, L2.tRet, L2.tIfS, L2.tAsg, L2.gName]
        refine ra_ahead (fun Q q => ⟨_, rfl, q⟩) e'.e.at ⟨_, _, _, rfl, rfl, kd_of T.k_BEGINNINGS T.v_BEGINNINGS (wf58 e'.e.wf) fx, ?_⟩
        refine ⟨He.ga K x, sp_begin K cs, rfl, fs, _, rfl, _, rfl, a, c, l, pl, hl, f0, s', rfl, e'.e, fc, ?_⟩
        refine post_mono (post_bind h'') (fun x hx v H2 e2 rel => ?_) (fun _ _ z => z.after e'.b)
        obtain ⟨g, s2⟩ := x
        subst rel
        refine ⟨m, Nat.lt_succ_self _, g, s2, _, _, _, _, rfl, fun z => ?_, fun z => ?_⟩
        · subst z
          exact hx _ _ ⟨e2.e, e'.b.trans e2.b⟩
        · subst z
          exact ⟨⟨e2.e, e'.b.trans e2.b⟩, hx⟩
      · rw [← hb, y] at h''
        try dsimp only [L2.tNext, L2.tSeq, L2.tDrop, L2.tRet, L2.tIfS, L2.tAsg, L2.gName]
        refine rb_fail (fun Q q => ⟨_, rfl, q⟩) e' h''
theorem sc__read_field : FnScope ["reader", "place", "name"] ["reader"] (defScope s__read_field) := ⟨rfl, rfl, rfl, by decide +kernel, rfl, by decide +kernel, by decide +kernel⟩
theorem g__read_field (T : Txt K mg w) (G_ExpressionReader_take_counted : Gm P w K mg base (L2.CX P w) 3 (He.ga K "ExpressionReader") "take_counted" ["self"] (sp_ExpressionReader_take_counted K)) (G_Cursor_ahead : Gm P w K mg base CX0 1 (He.ga K "Cursor") "ahead" ["self"] (sp_Cursor_ahead K)) (G_Cursor_take : Gm P w K mg base CX0 1 (He.ga K "Cursor") "take" ["self"] (sp_Cursor_take K)) (G_Cursor_want : Gm P w K mg base (L2.CX P w) 3 (He.ga K "Cursor") "want" ["self", "sort"] (sp_Cursor_want K)) : Gd P w K mg base (L2.CX P w) 4 "_read_field" ["reader"] (sp__read_field K) := by
  have sc := sc__read_field
  refine T.d__read_field.okX sc len1 (fun _ _ _ _ _ _ us hl => match us, hl with | [_], _ => rfl) (fun f cdv A outer s H vs Q E hr h => ?_)
  obtain ⟨x0, rfl, h⟩ := h
  obtain ⟨a, c, l, pl, hl, f0, s, rfl, e, hc, h⟩ := h
  refine ⟨_, (pss_cons (ps_set (i := 1) sc.nd rfl (Or.inl rfl) (pe_ix ix_tup (pe_gm0 (pv 0) T.cl_ExpressionReader.c G_ExpressionReader_take_counted (hr.mono (by omega)) (passes_call (takes_of rfl rfl rfl rfl) (fun _ _ _ _ h => h))) pe_int (fun _ _ => rfl)))
      (pss_one (ps_if (pt_cmpR op_eq (pe_gm0 (pe_fld (pv 0) rfl) T.cl_Cursor.c G_Cursor_ahead (hr.mono (by omega)) pass0) pe_str (nomark _)) (pss_cons (ps_expr (pe_gm0 (pe_fld (pv 0) rfl) T.cl_Cursor.c G_Cursor_take (hr.mono (by omega)) pass0))
      (pss_one (ps_expr (pe_bm PySem.F.plainAttrs_list PySem.F.slot_list_append PySem.F.type_list_append mt_append (pe_fld (pv 0) rfl) (pa_cons (pe_tup (pa_cons pe_str (pa_cons pe_str (pa_cons pe_int (pa_cons (pv 1) pa_nil))))) pa_nil))))) (pss_cons (ps_set (i := 2) sc.nd rfl (Or.inl rfl) (pe_ix ix_tup (pe_gm (pe_fld (pv 0) rfl) T.cl_Cursor.c G_Cursor_want (hr.mono (by omega)) (passes_call (takes_of rfl rfl rfl rfl) (fun _ _ _ _ h => h)) (pa_cons (pe_gstr T.c_NAME) pa_nil)) pe_int (fun _ _ => rfl)))
      (pss_one (ps_expr (pe_bm PySem.F.plainAttrs_list PySem.F.slot_list_append PySem.F.type_list_append mt_append (pe_fld (pv 0) rfl) (pa_cons (pe_tup (pa_cons pe_str (pa_cons (pv 2) (pa_cons pe_int (pa_cons (pv 1) pa_nil))))) pa_nil)))))))), ?_⟩
  have h' : Post (counted s >>= fun s => if hd s.r = 25 then pure { take1 s with b := false } else wantE 1 s >>= fun s => pure { s with b := false }) (fun s' => ∀ v H', Ea K H H' a c l pl hl f0 s' true 0 → Q v H') (Bad (CB K) (M4 c a pl hl) H E) := h
  try dsimp only [L2.tNext, L2.tSeq, L2.tDrop, L2.tRet, L2.tIfS, L2.tAsg, L2.gName]
  refine rc_counted (fun Q q => ⟨_, rfl, q⟩) e.start (by rw [hc]; decide) h' fun p z H1 e1 tk ez h1 => ?_
  obtain ⟨w0, q0, t1, t2, t3⟩ := tk
  refine ⟨p, _, _, _, rfl, rfl, SqT.of t1, rfl, ?_⟩
  try dsimp only [L2.tNext, L2.tSeq, L2.tDrop, L2.tRet, L2.tIfS, L2.tAsg, L2.gName]
  refine ra_eq (rf_cursor T.cl_ExpressionReader.c T.na_ExpressionReader_cursor (fun Q q => ⟨_, rfl, q⟩) e1) e1.e.at 25 (by decide) rfl (fun y => ?_) (fun y => ?_)
  · rw [if_pos y] at h1
    try dsimp only [L2.tNext, L2.tSeq, L2.tDrop, L2.tRet, L2.tIfS, L2.tAsg, L2.gName]
    refine rb_take (rf_cursor T.cl_ExpressionReader.c T.na_ExpressionReader_cursor (fun Q q => ⟨_, rfl, q⟩) e1) e1 (by rw [y]; decide) fun p2 z2 H2 e2 tk2 ez2 => ?_
    obtain ⟨xs, h4⟩ := e2.parts0
    try dsimp only [L2.tNext, L2.tSeq, L2.tDrop, L2.tRet, L2.tIfS, L2.tAsg, L2.gName]
    refine ra_append (rf_parts T.cl_ExpressionReader.c T.na_ExpressionReader_parts (fun Q q => ⟨_, rfl, q⟩) e2) h4 ?_
    refine ⟨_, rfl, tup_le (by show 4 ≤ 4000000; decide), fun pp hp => ?_⟩
    obtain ⟨xs, h4, h5, h6⟩ := (e2.laid hp).part'
    exact ⟨_, xs, rfl, h4, h5, h1 _ _ ((h6 pp _ _ false upd_same (by decide)).less (Nat.zero_le _))⟩
  · rw [if_neg y] at h1
    try dsimp only [L2.tNext, L2.tSeq, L2.tDrop, L2.tRet, L2.tIfS, L2.tAsg, L2.gName]
    refine rb_want (u := 1) (rf_cursor T.cl_ExpressionReader.c T.na_ExpressionReader_cursor (fun Q q => ⟨_, rfl, q⟩) e1) (fun R q => q) (by decide) (by decide) e1 h1 fun p2 z2 H2 e2 tk2 eq2 ez2 h2 => ?_
    obtain ⟨w2, q2, t21, t22, t23⟩ := tk2
    refine ⟨p2, _, _, _, rfl, rfl, SqT.of t21, rfl, ?_⟩
    obtain ⟨xs, h4⟩ := e2.parts0
    try dsimp only [L2.tNext, L2.tSeq, L2.tDrop, L2.tRet, L2.tIfS, L2.tAsg, L2.gName]
    refine ra_append (rf_parts T.cl_ExpressionReader.c T.na_ExpressionReader_parts (fun Q q => ⟨_, rfl, q⟩) e2) h4 ?_
    refine ⟨_, rfl, _, rfl, tup_le (by show 4 ≤ 4000000; decide), fun pp hp => ?_⟩
    obtain ⟨xs, h4, h5, h6⟩ := (e2.laid hp).part'
    exact ⟨_, xs, rfl, h4, h5, h2 _ _ ((h6 pp _ _ false upd_same (by decide)).less (Nat.zero_le _))⟩
theorem sc__close : FnScope ["reader", "sort", "cursor", "within", "what", "many", "place"] ["reader", "sort"] (defScope s__close) := ⟨rfl, rfl, rfl, by decide +kernel, rfl, by decide +kernel, by decide +kernel⟩
theorem g__close (T : Txt K mg w) (G_Cursor_take : Gm P w K mg base CX0 1 (He.ga K "Cursor") "take" ["self"] (sp_Cursor_take K)) (G_Cursor_want : Gm P w K mg base (L2.CX P w) 3 (He.ga K "Cursor") "want" ["self", "sort"] (sp_Cursor_want K)) (G_ExpressionReader_end_within : Gm P w K mg base CX0 1 (He.ga K "ExpressionReader") "end_within" ["self", "sort"] (sp_ExpressionReader_end_within K)) : Gd P w K mg base (L2.CX P w) 4 "_close" ["reader", "sort"] (sp__close K) := by
  have sc := sc__close
  refine T.d__close.okX sc len2 (fun _ _ _ _ _ _ us hl => match us, hl with | [_, _], _ => rfl) (fun f cdv A outer s H vs Q E hr h => ?_)
  obtain ⟨x0, x1, rfl, h⟩ := h
  obtain ⟨a, c, l, pl, hl, f0, s, rfl, rfl, e, h⟩ := h
  refine ⟨_, (pss_cons (ps_set (i := 2) sc.nd rfl (Or.inl rfl) (pe_fld (pv 0) rfl))
      (pss_cons (ps_asg (pe_ix ix_list (pe_fld (pv 0) rfl) (pe_un un_neg pe_int) (fun _ _ => rfl)) (pg_tup rfl (pgs_cons (pg_name (i := 3) sc.nd rfl (Or.inl rfl)) (pgs_cons (pg_name (i := 4) sc.nd rfl (Or.inl rfl)) (pgs_cons (pg_name (i := 5) sc.nd rfl (Or.inl rfl)) (pgs_cons (pg_name (i := 6) sc.nd rfl (Or.inl rfl)) pgs_nil))))))
      (pss_cons (ps_if (PW.pt (pw_and (pt_cmpR op_eq (pv 3) pe_str (nomark _)) (pw_and1 (pt_cmpR op_eq (pv 1) pe_str (nomark _))))) (pss_cons (ps_expr (pe_gm0 (pv 2) T.cl_Cursor.c G_Cursor_take (hr.mono (by omega)) pass0))
      (pss_cons (ps_asg (pe_tup (pa_cons pe_str (pa_cons pe_str (pa_cons pe_int (pa_cons (pv 6) pa_nil))))) (pg_sub (pe_fld (pv 0) rfl) (pe_un un_neg pe_int) set_list))
      (pss_one (ps_ret pe_bl)))) pss_nil)
      (pss_cons (ps_if (PW.pt (pw_and (pt_cmpR op_eq (pv 3) pe_str (nomark _)) (pw_and1 (pt_cmpR op_eq (pv 1) pe_str (nomark _))))) (pss_cons (ps_expr (pe_gm0 (pv 2) T.cl_Cursor.c G_Cursor_take (hr.mono (by omega)) pass0))
      (pss_cons (ps_asg (pe_tup (pa_cons pe_str (pa_cons (pv 4) (pa_cons (pe_op op_add (pv 5) pe_int) (pa_cons (pv 6) pa_nil))))) (pg_sub (pe_fld (pv 0) rfl) (pe_un un_neg pe_int) set_list))
      (pss_one (ps_ret pe_bl)))) pss_nil)
      (pss_cons (ps_expr (pe_gm (pv 2) T.cl_Cursor.c G_Cursor_want (hr.mono (by omega)) (passes_call (takes_of rfl rfl rfl rfl) (fun _ _ _ _ h => h)) (pa_cons (pe_ix ix_kdict (pe_gref T.c_CLOSING) (pv 3) (fun _ _ => rfl)) pa_nil)))
      (pss_cons (ps_if (pt_cmpR op_eq (pv 3) pe_str (nomark _)) (pss_cons (ps_expr (pe_bm0 PySem.F.plainAttrs_list PySem.F.slot_list_pop PySem.F.type_list_pop mt_pop (pe_fld (pv 0) rfl)))
      (pss_one (ps_fldaug (pv 0) pe_int in_sub))) (pss_one (ps_expr (pe_gm (pv 0) T.cl_ExpressionReader.c G_ExpressionReader_end_within (hr.mono (by omega)) pass0 (pa_cons (pv 3) pa_nil)))))
      (pss_one (ps_ret pe_bl)))))))), ?_⟩
  cases hh : s.h with
  | nil =>
    unfold close at h
    rw [hh] at h
    exact h.elim
  | cons t hr =>
  obtain ⟨t, m⟩ := t
  have h' : Post (if t < 2 ∨ 5 < t then .out else if t = 5 ∧ hd s.r = 48 then pure (true, { take1 s with h := (6, 0) :: hr }) else if t = 2 ∧ hd s.r = 50 then pure (true, { take1 s with h := (2, 0) :: hr })
      else wantE (closing t) s >>= fun s => pure (false, { s with d := s.d - 1, h := hr, b := if t = 3 then s.b else t == 2 })) (EGood K (fun (w : Bool) (v : V) => v = .bl w) (fun _ => true) a c l pl hl f0 H Q) (Bad (CB K) (M4 c a pl hl) H E) := by
    unfold close at h
    rw [hh] at h
    exact h
  obtain ⟨ys, q, g1, ⟨w1, v1, i1, gq, ht7, _⟩, _, _⟩ := e.top hh
  by_cases ht : t < 2 ∨ 5 < t
  · rw [if_pos ht] at h'
    exact h'.elim
  rw [if_neg ht] at h'
  refine rf_cursor T.cl_ExpressionReader.c T.na_ExpressionReader_cursor (fun Q q => ⟨_, rfl, q⟩) e.start _ ?_
  try dsimp only [L2.tNext, L2.tSeq, L2.tDrop, L2.tRet, L2.tIfS, L2.tAsg, L2.gName]
  refine rf_held T.cl_ExpressionReader.c T.na_ExpressionReader_held (fun Q q => ⟨_, rfl, q⟩) e.start _ ⟨_, rfl, hl, _, _, _, rfl, rfl, SqL.of g1, atI_last, ?_⟩
  refine ⟨q, _, rfl, SqT.of gq, rfl, _, _, rfl, _, _, rfl, _, _, rfl, _, _, rfl, rfl, ?_⟩
  have hc58 := wf58 e.wf
  have hat := e.start
  try dsimp only [L2.tNext, L2.tSeq, L2.tDrop, L2.tRet, L2.tIfS, L2.tAsg, L2.gName]
  refine tand_eq rfl rfl ht7 hc58 5 48 (by decide) (by decide) rfl rfl (fun y => ?_) (fun y => ?_)
  · rw [if_pos y] at h'
    try dsimp only [L2.tNext, L2.tSeq, L2.tDrop, L2.tRet, L2.tIfS, L2.tAsg, L2.gName]
    refine rb_take (fun Q q => ⟨_, rfl, q⟩) hat (by rw [y.2]; decide) fun p z H1 e1 tk ez => ?_
    refine ⟨_, rfl, tup_le (by show 4 ≤ 4000000; decide), fun pp hp => ?_⟩
    have e2 := e1.laid (o := .tup [.str (tagS 6), .str "", .int 0, v1]) hp
    obtain ⟨ys, q, g1, g2, _, g3⟩ := e2.top hh
    refine rf_held T.cl_ExpressionReader.c T.na_ExpressionReader_held (fun Q q => ⟨_, rfl, q⟩) e2 _ ⟨_, rfl, hl, _, _, _, rfl, rfl, g1, ixN_last, ?_⟩
    rw [set_last]
    exact h' _ _ ((g3 pp (6, 0) ⟨_, _, _, upd_same, (by decide), (fun z => by cases z), (fun z => by cases z), fun _ => rfl⟩).less (Nat.zero_le _)) rfl
  rw [if_neg y] at h'
  try dsimp only [L2.tNext, L2.tSeq, L2.tDrop, L2.tRet, L2.tIfS, L2.tAsg, L2.gName]
  refine tand_eq rfl rfl ht7 hc58 2 50 (by decide) (by decide) rfl rfl (fun y => ?_) (fun y => ?_)
  · rw [if_pos y] at h'
    try dsimp only [L2.tNext, L2.tSeq, L2.tDrop, L2.tRet, L2.tIfS, L2.tAsg, L2.gName]
    refine rb_take (fun Q q => ⟨_, rfl, q⟩) hat (by rw [y.2]; decide) fun p z H1 e1 tk ez => ?_
    refine ⟨_, rfl, _, rfl, _, _, rfl, rfl, _, rfl, tup_le (by show 4 ≤ 4000000; decide), fun pp hp => ?_⟩
    have e2 := e1.laid (o := .tup [.str (tagS 2), w1, .int (i1 + 1), v1]) hp
    obtain ⟨ys, q, g1, g2, _, g3⟩ := e2.top hh
    refine rf_held T.cl_ExpressionReader.c T.na_ExpressionReader_held (fun Q q => ⟨_, rfl, q⟩) e2 _ ⟨_, rfl, hl, _, _, _, rfl, rfl, g1, ixN_last, ?_⟩
    rw [set_last]
    exact h' _ _ ((g3 pp (2, 0) ⟨_, _, _, upd_same, (by decide), (fun z => by cases z), (fun z => by cases z), fun _ => rfl⟩).less (Nat.zero_le _)) rfl
  rw [if_neg y] at h'
  have hcl : ∀ t, t < 7 → closing t < 58 ∧ closing t ≠ 0 := by decide
  try dsimp only [L2.tNext, L2.tSeq, L2.tDrop, L2.tRet, L2.tIfS, L2.tAsg, L2.gName]
  refine rb_want (u := closing t) (fun Q q => ⟨_, rfl, q⟩) (fun R q => ⟨_, rfl, _, _, _, rfl, rfl, kd_closing T t (by omega) (by omega), q⟩) (hcl t ht7).1 (hcl t ht7).2 hat h' fun p z H1 e1 tk eq1 ez h1 => ?_
  refine ⟨_, rfl, rfl, _, rfl, ?_⟩
  show if decide (V.str (tagS t) = V.str (tagS 3)) = true then _ else _
  rw [tag_dec ht7 (by decide)]
  obtain ⟨ys, q, g1, g2, g3, _⟩ := e1.top hh
  by_cases z3 : t = 3
  · refine if_true_of (decide_eq_true z3) ?_
    refine rf_held T.cl_ExpressionReader.c T.na_ExpressionReader_held (fun Q q => ⟨_, rfl, q⟩) e1 _ ⟨ty_lst g1, hl, _, _, rfl, rfl, g1, pop_last, ?_⟩
    rw [List.dropLast_concat]
    obtain ⟨dx, ho⟩ := g3.e.ob
    refine ⟨_, rfl, a, CE' K, dx, _, _, rfl, ho, T.cl_ExpressionReader.c, T.na_ExpressionReader_depth, re_depth _ _ _ _ _, _, _, rfl, rfl, dx, _, ho, (by show 5 < 1000; decide), ?_⟩
    rw [re_put]
    rw [if_pos z3] at h1
    exact h1 _ _ ⟨(g3.e.deep (dx := dx) (d := s.d - 1)).less (Nat.zero_le _), g3.b.trans (ButL.put (by simp))⟩ rfl
  · refine if_false_of (decide_eq_false z3) ?_
    rw [if_neg z3] at h1
    try dsimp only [L2.tNext, L2.tSeq, L2.tDrop, L2.tRet, L2.tIfS, L2.tAsg, L2.gName]
    refine rc_end (z := tagS t) (fun Q q => ⟨_, rfl, q⟩) e1 hh (fun R q => ⟨_, rfl, q⟩) fun H2 e2 => ?_
    rw [tag_call t ht7] at e2
    exact h1 _ _ (e2.less (Nat.zero_le _)) rfl
theorem sc__read_behind : FnScope ["reader", "cursor", "sort"] ["reader"] (defScope s__read_behind) := ⟨rfl, rfl, rfl, by decide +kernel, rfl, by decide +kernel, by decide +kernel⟩
theorem g__read_behind (T : Txt K mg w) (G_Cursor_ahead : Gm P w K mg base CX0 1 (He.ga K "Cursor") "ahead" ["self"] (sp_Cursor_ahead K)) (G__read_field : Gd P w K mg base (L2.CX P w) 4 "_read_field" ["reader"] (sp__read_field K)) (G_ExpressionReader_begin_within : Gm P w K mg base (L2.CX P w) 4 (He.ga K "ExpressionReader") "begin_within" ["self", "sort", "what", "many", "place"] (sp_ExpressionReader_begin_within K)) (G_ExpressionReader_take_counted : Gm P w K mg base (L2.CX P w) 3 (He.ga K "ExpressionReader") "take_counted" ["self"] (sp_ExpressionReader_take_counted K)) (G_ExpressionReader_settle : Gm P w K mg base CX0 2 (He.ga K "ExpressionReader") "settle" ["self", "strength"] (sp_ExpressionReader_settle K)) (G_Cursor_take : Gm P w K mg base CX0 1 (He.ga K "Cursor") "take" ["self"] (sp_Cursor_take K)) (G_ExpressionReader_settle_all : Gm P w K mg base CX0 3 (He.ga K "ExpressionReader") "settle_all" ["self"] (sp_ExpressionReader_settle_all K)) (G__close : Gd P w K mg base (L2.CX P w) 4 "_close" ["reader", "sort"] (sp__close K)) : Gd P w K mg base (L2.CX P w) 5 "_read_behind" ["reader"] (sp__read_behind K) := by
  have sc := sc__read_behind
  refine T.d__read_behind.okX sc len1 (fun _ _ _ _ _ _ us hl => match us, hl with | [_], _ => rfl) (fun f cdv A outer s H vs Q E hr h => ?_)
  obtain ⟨x0, rfl, h⟩ := h
  obtain ⟨a, c, l, pl, hl, f0, f1, s, rfl, e, h⟩ := h
  obtain ⟨es1, n1, kd_STRENGTHS⟩ := T.k_STRENGTHS
  refine ⟨_, (pss_cons (ps_set (i := 1) sc.nd rfl (Or.inl rfl) (pe_fld (pv 0) rfl))
      (pss_one (ps_while (passes_of rfl) (pt_val pe_bl) (pss_cons (ps_set (i := 2) sc.nd rfl (Or.inl rfl) (pe_gm0 (pv 1) T.cl_Cursor.c G_Cursor_ahead (hr.mono (by omega)) pass0))
      (pss_one (ps_if (pt_cmpR op_eq (pv 2) pe_str (nomark _)) (pss_one (ps_expr (pe_g G__read_field (hr.mono (by omega)) (passes_call (takes_of rfl rfl rfl rfl) (fun _ _ _ _ h => h)) (pa_cons (pv 0) pa_nil)))) (pss_one (ps_if (pt_cmpR op_eq (pv 2) pe_str (nomark _)) (pss_cons (ps_expr (pe_gm (pv 0) T.cl_ExpressionReader.c G_ExpressionReader_begin_within (hr.mono (by omega)) (passes_call (takes_of rfl rfl rfl rfl) (fun _ _ _ _ h => h)) (pa_cons pe_str (pa_cons pe_str (pa_cons pe_int (pa_cons (pe_ix ix_tup (pe_gm0 (pv 0) T.cl_ExpressionReader.c G_ExpressionReader_take_counted (hr.mono (by omega)) (passes_call (takes_of rfl rfl rfl rfl) (fun _ _ _ _ h => h))) pe_int (fun _ _ => rfl)) pa_nil))))))
      (pss_one (ps_ret pe_bl))) (pss_one (ps_if (pt_cmpR (op_in_kd kd_STRENGTHS) (pv 2) (pe_gref T.c_STRENGTHS) rfl) (pss_cons (ps_expr (pe_gm (pv 0) T.cl_ExpressionReader.c G_ExpressionReader_settle (hr.mono (by omega)) pass0 (pa_cons (pe_ix ix_kdict (pe_gref T.c_STRENGTHS) (pv 2) (fun _ _ => rfl)) pa_nil)))
      (pss_cons (ps_expr (pe_bm PySem.F.plainAttrs_list PySem.F.slot_list_append PySem.F.type_list_append mt_append (pe_fld (pv 0) rfl) (pa_cons (pe_tup (pa_cons pe_str (pa_cons (pv 2) (pa_cons pe_int (pa_cons (pe_ix ix_tup (pe_gm0 (pv 1) T.cl_Cursor.c G_Cursor_take (hr.mono (by omega)) pass0) pe_int (fun _ _ => rfl)) pa_nil))))) pa_nil)))
      (pss_one (ps_ret pe_bl)))) (pss_one (ps_if (pt_cmpR op_eq (pv 2) pe_str (nomark _)) (pss_cons (ps_expr (pe_gm (pv 0) T.cl_ExpressionReader.c G_ExpressionReader_settle (hr.mono (by omega)) pass0 (pa_cons pe_int pa_nil)))
      (pss_cons (ps_expr (pe_gm (pv 0) T.cl_ExpressionReader.c G_ExpressionReader_begin_within (hr.mono (by omega)) (passes_call (takes_of rfl rfl rfl rfl) (fun _ _ _ _ h => h)) (pa_cons pe_str (pa_cons pe_str (pa_cons pe_int (pa_cons (pe_ix ix_tup (pe_gm0 (pv 1) T.cl_Cursor.c G_Cursor_take (hr.mono (by omega)) pass0) pe_int (fun _ _ => rfl)) pa_nil))))))
      (pss_one (ps_ret pe_bl)))) (pss_cons (ps_expr (pe_gm0 (pv 0) T.cl_ExpressionReader.c G_ExpressionReader_settle_all (hr.mono (by omega)) pass0))
      (pss_cons (ps_if (pt_not (pt_truth (pe_fld (pv 0) rfl) (by intro _; rfl))) (pss_one (ps_ret pe_bl)) pss_nil)
      (pss_one (ps_if (pt_val (pe_g G__close (hr.mono (by omega)) (passes_call (takes_of rfl rfl rfl rfl) (fun _ _ _ _ h => h)) (pa_cons (pv 0) (pa_cons (pv 2) pa_nil)))) (pss_one (ps_ret pe_bl)) pss_nil)))))))))))))))), ?_⟩
  refine rf_cursor T.cl_ExpressionReader.c T.na_ExpressionReader_cursor (fun Q q => ⟨_, rfl, q⟩) e.start _ ?_
  refine ⟨fun m σ H' => ∃ (s' : Es) (r2 : Option V), σ = [some (.ref a), some (.ref c), r2] ∧ Ea K H H' a c l pl hl f0 s' true 0 ∧ Post (behind m s') (EGood K (fun (w : Bool) (v : V) => v = .bl w) (fun _ => true) a c l pl hl f0 H Q) (Bad (CB K) (M4 c a pl hl) H E), ⟨f1, s, none, rfl, e.start, h⟩, ?_⟩
  rintro m σ H' ⟨s', r2, rfl, e', h'⟩
  refine ⟨_, rfl, if_true_of rfl ⟨_, fun _ _ z => z, ?_⟩⟩
  cases m with
  | zero => exact h'.elim
  | succ m =>
  try dsimp only [L2.tNext, L2.tSeq, L2.tDrop, L2.tRet, L2.tIfS, L2.tAsg, L2.gName]
  refine ra_ahead (fun Q q => ⟨_, rfl, q⟩) e'.e.at ?_
  have h'' : Post (if hd s'.r = 51 then field s' >>= fun s => behind m s
    else if hd s'.r = 54 then counted s' >>= fun s => within 4 s >>= fun s => pure (true, s)
    else if strn (hd s'.r) ≠ 0 then pure (true, { take1 (set1 (strn (hd s'.r)) s') with h := (1, strn (hd s'.r)) :: (set1 (strn (hd s'.r)) s').h })
    else if hd s'.r = 47 then within 5 (take1 (set1 1 s')) >>= fun s => pure (true, s)
    else if (setAll s').h.isEmpty = true then pure (false, setAll s') else close (setAll s') >>= fun x => if x.1 = true then pure (true, x.2) else behind m x.2) (EGood K (fun (w : Bool) (v : V) => v = .bl w) (fun _ => true) a c l pl hl f0 H Q) (Bad (CB K) (M4 c a pl hl) H E) := h'
  have hc58 := wf58 e'.e.wf
  try dsimp only [L2.tNext, L2.tSeq, L2.tDrop, L2.tRet, L2.tIfS, L2.tAsg, L2.gName]
  refine tv_eq rfl hc58 51 (by decide) rfl (fun y => ?_) (fun y => ?_)
  · rw [if_pos y] at h''
    refine ⟨_, rfl, _, rfl, a, c, l, pl, hl, f0, s', rfl, e'.e, y, ?_⟩
    refine post_mono (post_bind h'') (fun x hx v H2 e2 => ?_) (fun _ _ z => z.after e'.b)
    exact ⟨m, Nat.lt_succ_self _, x, _, rfl, ⟨e2.e, e'.b.trans e2.b⟩, hx⟩
  rw [if_neg y] at h''
  try dsimp only [L2.tNext, L2.tSeq, L2.tDrop, L2.tRet, L2.tIfS, L2.tAsg, L2.gName]
  refine tv_eq rfl hc58 54 (by decide) rfl (fun y => ?_) (fun y => ?_)
  · rw [if_pos y] at h''
    try dsimp only [L2.tNext, L2.tSeq, L2.tDrop, L2.tRet, L2.tIfS, L2.tAsg, L2.gName]
    refine rm_er (.inr (.inl rfl)) (fun Q q => ⟨_, rfl, q⟩) e'.e ?_
    try dsimp only [L2.tNext, L2.tSeq, L2.tDrop, L2.tRet, L2.tIfS, L2.tAsg, L2.gName]
    refine rc_counted (fun Q q => ⟨_, rfl, q⟩) e' (by rw [y]; decide) h'' fun p z H1 e1 tk ez h1 => ?_
    obtain ⟨w0, q0, t1, t2, t3⟩ := tk
    refine ⟨p, _, _, _, rfl, rfl, SqT.of t1, rfl, ?_⟩
    exact sp_begin_of (u := 4) e1 h1 (by decide) (by decide) fun s2 H2 e2 h2 => h2 _ _ e2 rfl
  rw [if_neg y] at h''
  try dsimp only [L2.tNext, L2.tSeq, L2.tDrop, L2.tRet, L2.tIfS, L2.tAsg, L2.gName]
  refine tv_inKd rfl hc58 T.v_STRENGTHS (fun y => ?_) (fun y => ?_)
  · rw [fS_isSome] at y
    have y2 := of_decide_eq_true y
    rw [if_pos y2] at h''
    try dsimp only [L2.tNext, L2.tSeq, L2.tDrop, L2.tRet, L2.tIfS, L2.tAsg, L2.gName]
    refine rm_er (.inr (.inr (.inr (.inr (.inl rfl))))) (fun Q q => ⟨_, rfl, q⟩) e'.e ?_
    refine ⟨_, rfl, _, _, _, rfl, rfl, kd_of T.k_STRENGTHS T.v_STRENGTHS hc58 (fS_strn _ hc58 y2), ?_⟩
    refine ⟨_, _, rfl, a, c, l, pl, hl, f0, s', 0, strn (hd s'.r), rfl, rfl, Nat.pos_of_ne_zero y2, e'.e, fun H1 e1 => ?_⟩
    have e1' : Ea K H H1 a c l pl hl f0 (set1 (strn (hd s'.r)) s') true 0 := ⟨e1.e, e'.b.trans e1.b⟩
    obtain ⟨ys, g1⟩ := e1'.held0
    try dsimp only [L2.tNext, L2.tSeq, L2.tDrop, L2.tRet, L2.tIfS, L2.tAsg, L2.gName]
    refine ra_append (rf_held T.cl_ExpressionReader.c T.na_ExpressionReader_held (fun Q q => ⟨_, rfl, q⟩) e1') g1 ?_
    refine ⟨_, rfl, ?_⟩
    try dsimp only [L2.tNext, L2.tSeq, L2.tDrop, L2.tRet, L2.tIfS, L2.tAsg, L2.gName]
    refine rb_take (fun Q q => ⟨_, rfl, q⟩) e1' (by intro z; apply y2; show strn (hd (set1 (strn (hd s'.r)) s').r) = 0; rw [z]; rfl) fun p z H2 e2 tk ez => ?_
    obtain ⟨w0, q0, t1, t2, t3⟩ := tk
    refine ⟨p, _, _, _, rfl, rfl, SqT.of t1, rfl, tup_le (by show 4 ≤ 4000000; decide), fun pp hp => ?_⟩
    obtain ⟨ys, g1, g2, g3⟩ := (e2.laid (o := .tup [.str (tagS 1), .str (srt (hd s'.r)), .int 0, .ref q0]) hp).hold
    refine ⟨_, ys, rfl, g1, g2, h'' _ _ (g3 pp (1, strn (hd s'.r)) ⟨_, _, _, upd_same, (by show 1 < 7; decide), (fun z => by cases z), (fun _ => ⟨_, rfl, hc58, rfl, y2⟩), fun z => absurd z (by show ¬ 1 < 1; decide)⟩) rfl⟩
  rw [fS_isSome] at y
  have y2 := of_decide_eq_false y
  rw [if_neg y2] at h''
  try dsimp only [L2.tNext, L2.tSeq, L2.tDrop, L2.tRet, L2.tIfS, L2.tAsg, L2.gName]
  refine tv_eq rfl hc58 47 (by decide) rfl (fun y => ?_) (fun y => ?_)
  · rw [if_pos y] at h''
    try dsimp only [L2.tNext, L2.tSeq, L2.tDrop, L2.tRet, L2.tIfS, L2.tAsg, L2.gName]
    refine rc_settle (k := 1) (fun Q q => ⟨_, rfl, q⟩) e' (Nat.le_refl _) (fun R q => q) fun H1 e1 => ?_
    try dsimp only [L2.tNext, L2.tSeq, L2.tDrop, L2.tRet, L2.tIfS, L2.tAsg, L2.gName]
    refine rm_er (.inr (.inl rfl)) (fun Q q => ⟨_, rfl, q⟩) e1.e ?_
    try dsimp only [L2.tNext, L2.tSeq, L2.tDrop, L2.tRet, L2.tIfS, L2.tAsg, L2.gName]
    refine rb_take (fun Q q => ⟨_, rfl, q⟩) e1 (by show hd s'.r ≠ 0; rw [y]; decide) fun p z H2 e2 tk ez => ?_
    obtain ⟨w0, q0, t1, t2, t3⟩ := tk
    refine ⟨p, _, _, _, rfl, rfl, SqT.of t1, rfl, ?_⟩
    exact sp_begin_of (u := 5) e2 h'' (by decide) (by decide) fun s2 H2 e2 h2 => h2 _ _ e2 rfl
  rw [if_neg y] at h''
  try dsimp only [L2.tNext, L2.tSeq, L2.tDrop, L2.tRet, L2.tIfS, L2.tAsg, L2.gName]
  refine rc_settle_all (fun Q q => ⟨_, rfl, q⟩) e' fun H1 e1 => ?_
  obtain ⟨ys, h1, h2⟩ := e1.e.empty
  refine rf_held T.cl_ExpressionReader.c T.na_ExpressionReader_held (fun Q q => ⟨_, rfl, q⟩) e1 _ ⟨_, tru_lst h1, ?_⟩
  rw [h2]
  cases hz : (setAll s').h.isEmpty with
  | true =>
    rw [if_pos hz] at h''
    exact if_true_of rfl (h'' _ _ e1 rfl)
  | false =>
    rw [if_neg (by rw [hz]; exact Bool.false_ne_true)] at h''
    refine if_false_of rfl ?_
    refine ⟨_, rfl, _, rfl, _, _, rfl, a, c, l, pl, hl, f0, setAll s', rfl, rfl, e1.e, ?_⟩
    refine post_mono (post_bind h'') (fun x hx v H2 e2 rel => ?_) (fun _ _ z => z.after e1.b)
    obtain ⟨g, s2⟩ := x
    subst rel
    refine ⟨_, rfl, ?_⟩
    cases g with
    | true => exact if_true_of rfl (hx _ _ ⟨e2.e, e1.b.trans e2.b⟩ rfl)
    | false => exact if_false_of rfl ⟨m, Nat.lt_succ_self _, s2, _, rfl, ⟨e2.e, e1.b.trans e2.b⟩, hx⟩
theorem sc_read_expression : FnScope ["cursor", "depth", "reader", "going"] ["cursor", "depth"] (defScope s_read_expression) := ⟨rfl, rfl, rfl, by decide +kernel, rfl, by decide +kernel, by decide +kernel⟩
theorem g_read_expression (T : Txt K mg w) (G_ExpressionReader___init__ : Gm P w K mg base CX0 1 (He.ga K "ExpressionReader") "__init__" ["self", "cursor", "depth"] (sp_ExpressionReader___init__ K)) (G_ExpressionReader_look_at_depth : Gm P w K mg base (L2.CX P w) 3 (He.ga K "ExpressionReader") "look_at_depth" ["self"] (sp_ExpressionReader_look_at_depth K)) (G__read_operand : Gd P w K mg base (L2.CX P w) 6 "_read_operand" ["reader"] (sp__read_operand K)) (G__read_behind : Gd P w K mg base (L2.CX P w) 5 "_read_behind" ["reader"] (sp__read_behind K)) : Gd P w K mg base (L2.CX P w) 7 "read_expression" ["cursor", "depth"] (sp_read_expression K) := by
  have sc := sc_read_expression
  refine T.d_read_expression.okX sc len2 (fun _ _ _ _ _ _ us hl => match us, hl with | [_, _], _ => rfl) (fun f cdv A outer s H vs Q E hr h => ?_)
  obtain ⟨x0, x1, rfl, h⟩ := h
  obtain ⟨c, d, f1, rfl, rfl, l, r, hat, h⟩ := h
  refine ⟨_, (pss_cons (ps_set (i := 2) sc.nd rfl (Or.inl rfl) (pe_mkG G_ExpressionReader___init__ T.mk_ExpressionReader T.cl_ExpressionReader.g (hr.mono (by omega)) pass0 (pa_cons (pv 0) (pa_cons (pv 1) pa_nil))))
      (pss_cons (ps_expr (pe_gm0 (pv 2) T.cl_ExpressionReader.c G_ExpressionReader_look_at_depth (hr.mono (by omega)) (passes_call (takes_of rfl rfl rfl rfl) (fun _ _ _ _ h => h))))
      (pss_cons (ps_set (i := 3) sc.nd rfl (Or.inl rfl) pe_bl)
      (pss_cons (ps_while (passes_of rfl) (pt_val (pv 3)) (pss_cons (ps_expr (pe_g G__read_operand (hr.mono (by omega)) (passes_call (takes_of rfl rfl rfl rfl) (fun _ _ _ _ h => h)) (pa_cons (pv 2) pa_nil)))
      (pss_one (ps_set (i := 3) sc.nd rfl (Or.inl rfl) (pe_g G__read_behind (hr.mono (by omega)) (passes_call (takes_of rfl rfl rfl rfl) (fun _ _ _ _ h => h)) (pa_cons (pv 2) pa_nil))))))
      (pss_one (ps_ret (pe_callTy call_tuple_of (by rfl) T.n_tuple (by decide +kernel) (pa_cons (pe_fld (pv 2) rfl) pa_nil)))))))), ?_⟩
  obtain ⟨n, cu⟩ := hat.cu
  have hw := hat.w
  refine ⟨_, rfl, _, rfl, fun a dx ha hdx hne => ?_⟩
  have ha1 : upd H dx (.own a) a = none := by rw [upd_ne hne.symm]; exact ha
  have b1 : ButL [] H (upd (upd H dx (.own a)) a (.ins (CE' K) dx [])) := (ButL.new hdx).trans (ButL.new ha1)
  refine ⟨_, _, _, rfl, a, dx, c, l, n, r, (d : Int), rfl, rfl, rfl, upd_same, (cu.laid hdx).laid ha1, hw, fun pl hl H2 b2 hpl hhl e2 => ⟨rfl, ?_⟩⟩
  have n0 : ∀ q, upd (upd H dx (.own a)) a (.ins (CE' K) dx []) q = none → H q = none := by
    intro q hq
    cases z : H q with
    | none => rfl
    | some o => rw [b1 q o z (by simp)] at hq; cases hq
  have hb : ∀ H', ButL (M4 c a pl hl) H2 H' → ButL [c] H H' := by
    intro H' bb x o e hx
    have xa : x ≠ a := ne_of_none e ha
    have h2x := b2 x o (b1 x o e (by simp)) (by simpa using xa)
    refine bb x o h2x ?_
    intro m
    simp only [List.mem_cons, List.mem_nil_iff, or_false] at m
    rcases m with rfl | rfl | rfl | rfl
    · exact hx (by simp)
    · exact xa rfl
    · rw [n0 _ hpl] at e; cases e
    · rw [n0 _ hhl] at e; cases e
  have h' : Post (if (30 : Int) < (d : Int) then ill r else turns f1 ⟨r, 0, (d : Int), [], false⟩) (fun a => ∀ (v : V) (H' : Hp), At K c l H H' a.2 → RelE a.1 v H' → Q v H') (Bad (CB K) (M4 c a pl hl) H2 E) := by
    have e0 : expr f1 d r = if (30 : Int) < (d : Int) then ill r else turns f1 ⟨r, 0, (d : Int), [], false⟩ := by
      unfold expr
      by_cases z : 30 < d
      · rw [if_pos z, if_pos (by omega)]
      · rw [if_neg z, if_neg (by omega)]
    rw [← e0]
    exact post_mono h (fun _ z => z) (fun l k z q H' b e => z q H' (hb H' b) e)
  try dsimp only [L2.tNext, L2.tSeq, L2.tDrop, L2.tRet, L2.tIfS, L2.tAsg, L2.gName]
  refine rc_look (fun Q q => ⟨_, rfl, q⟩) e2.start h' fun h1 => ?_
  refine ⟨fun m σ H' => ∃ (s : Es) (g : Bool), σ = [some (.ref c), some (.int (d : Int)), some (.ref a), some (.bl g)] ∧ (g = true → Ea K H2 H' a c l pl hl n s false 0 ∧ Post (turns m s) (fun a => ∀ (v : V) (H' : Hp), At K c l H H' a.2 → RelE a.1 v H' → Q v H') (Bad (CB K) (M4 c a pl hl) H2 E)) ∧
    (g = false → Ea K H2 H' a c l pl hl n s true 0 ∧ ∀ (v : V) (H' : Hp), At K c l H H' s.r → RelE s.b v H' → Q v H'), ⟨f1, _, true, rfl, fun _ => ⟨e2.start, h1⟩, fun z => by cases z⟩, ?_⟩
  rintro m σ H' ⟨s, g, rfl, w1, w2⟩
  refine ⟨_, rfl, _, rfl, ?_⟩
  cases g with
  | false =>
    obtain ⟨e3, h3⟩ := w2 rfl
    refine if_false_of rfl ?_
    obtain ⟨xs, qs, hp, hh, hpt, _⟩ := e3.e.lists
    try dsimp only [L2.tNext, L2.tSeq, L2.tDrop, L2.tRet, L2.tIfS, L2.tAsg, L2.gName]
    refine rf_parts T.cl_ExpressionReader.c T.na_ExpressionReader_parts (fun Q q => ⟨_, rfl, q⟩) e3 _ ⟨pl, xs, rfl, .inl ⟨SqL.of hp, fun p hpn => ?_⟩⟩
    obtain ⟨ys, q, z, tl, rfl, hq, hz⟩ := hpt rfl
    refine h3 _ _ (At.laid ⟨⟨_, e3.e.cur⟩, hb _ e3.b, e3.e.wf, hat.l0⟩ hpn) ⟨p, ys, q, z, tl, rfl, upd_same, ?_, hz⟩
    rw [upd_ne (ne_of_none hq hpn)]
    exact hq
  | true =>
    obtain ⟨e3, h3⟩ := w1 rfl
    refine if_true_of rfl ⟨_, fun _ _ z => z, ?_⟩
    cases m with
    | zero => exact h3.elim
    | succ m =>
    have h4 : Post (operand m s >>= fun s => behind m s >>= fun x => if x.1 = true then turns m x.2 else pure (x.2.b, x.2.r)) (fun a => ∀ (v : V) (H' : Hp), At K c l H H' a.2 → RelE a.1 v H' → Q v H') (Bad (CB K) (M4 c a pl hl) H2 E) := h3
    refine ⟨_, rfl, _, rfl, a, c, l, pl, hl, n, m, s, rfl, e3.e, ?_⟩
    refine post_mono (post_bind h4) (fun x hx v H5 e5 => ?_) (fun _ _ z => z.after e3.b)
    have e5' : Ea K H2 H5 a c l pl hl n x true 0 := ⟨e5.e, e3.b.trans e5.b⟩
    refine ⟨_, rfl, _, rfl, a, c, l, pl, hl, n, m, x, rfl, e5.e, ?_⟩
    refine post_mono (post_bind hx) (fun x hx v H6 e6 rel => ?_) (fun _ _ z => z.after e5'.b)
    obtain ⟨g, s2⟩ := x
    subst rel
    have e6' : Ea K H2 H6 a c l pl hl n s2 true 0 := ⟨e6.e, e5'.b.trans e6.b⟩
    refine ⟨m, Nat.lt_succ_self _, s2, g, rfl, fun z => ?_, fun z => ?_⟩
    · subst z
      exact ⟨e6'.weak, hx⟩
    · subst z
      exact ⟨e6', hx⟩
end
end Rd

namespace Rd
open PySem PySem.Spec PyProof.Rows L2 My Mir
abbrev BIG : Nat := 1000000
def spG1 (K : PySem.W.Frag) (P : List Pc → Prop) (F : Nat → List Pc → Rs (List Pc)) : Sp := sp1 fun x H Q E => ∃ (c l : Addr) (r : List Pc) (f : Nat), x = .ref c ∧ f ≤ BIG ∧ At K c l H H r ∧ P r ∧ Post (F f r) (fun r' => ∀ v H', At K c l H H' r' → Q v H') (Bad (CB K) [c] H E)
def spG2 (K : PySem.W.Frag) (P : Nat → List Pc → Prop) (F : Nat → Nat → List Pc → Rs (List Pc)) : Sp := sp2 fun x y H Q E => ∃ (c l : Addr) (r : List Pc) (f d : Nat), x = .ref c ∧ y = .int (d : Int) ∧ f ≤ BIG ∧ At K c l H H r ∧ P d r ∧ Post (F f d r) (fun r' => ∀ v H', At K c l H H' r' → Q v H') (Bad (CB K) [c] H E)
section
variable {K : PySem.W.Frag} {c l : Addr} {H0 H : Hp} {r : List Pc} {E : XK} {Q : VK} {f d : Nat} {β : Type} {good : β → Prop}
theorem spG1.step {P : List Pc → Prop} {F : Nat → List Pc → Rs (List Pc)} {k : List Pc → Rs β} (t : At K c l H0 H r) (hp : P r) (hf : f ≤ BIG) (h : Post (F f r >>= k) good (Bad (CB K) [c] H0 E))
    (q : ∀ (r' : List Pc) (v : V) (H' : Hp), At K c l H0 H' r' → ButL [c] H H' → Post (k r') good (Bad (CB K) [c] H0 E) → Q v H') : spG1 K P F [.ref c] H Q E :=
  ⟨_, rfl, c, l, r, f, rfl, hf, t.fresh, hp, post_mono (post_bind h) (fun r' z v H' t' => q r' v H' (t.trans t') t'.b z) (fun _ _ z => z.after t.b)⟩
theorem spG2.step {P : Nat → List Pc → Prop} {F : Nat → Nat → List Pc → Rs (List Pc)} {k : List Pc → Rs β} (t : At K c l H0 H r) (hp : P d r) (hf : f ≤ BIG) (h : Post (F f d r >>= k) good (Bad (CB K) [c] H0 E))
    (q : ∀ (r' : List Pc) (v : V) (H' : Hp), At K c l H0 H' r' → ButL [c] H H' → Post (k r') good (Bad (CB K) [c] H0 E) → Q v H') : spG2 K P F [.ref c, .int (d : Int)] H Q E :=
  ⟨_, _, rfl, c, l, r, f, d, rfl, rfl, hf, t.fresh, hp, post_mono (post_bind h) (fun r' z v H' t' => q r' v H' (t.trans t') t'.b z) (fun _ _ z => z.after t.b)⟩
theorem spG2.step1 {P : Nat → List Pc → Prop} {F : Nat → Nat → List Pc → Rs (List Pc)} {k : List Pc → Rs β} (t : At K c l H0 H r) (hp : P (d + 1) r) (hf : f ≤ BIG) (h : Post (F f (d + 1) r >>= k) good (Bad (CB K) [c] H0 E))
    (q : ∀ (r' : List Pc) (v : V) (H' : Hp), At K c l H0 H' r' → ButL [c] H H' → Post (k r') good (Bad (CB K) [c] H0 E) → Q v H') : spG2 K P F [.ref c, .int ((d : Int) + 1)] H Q E :=
  spG2.step (d := d + 1) t hp hf h q
theorem rx_expr {k : Bool × List Pc → Rs β} (t : At K c l H0 H r) (h : Post (expr f d r >>= k) good (Bad (CB K) [c] H0 E))
    (q : ∀ (b : Bool) (r' : List Pc) (v : V) (H' : Hp), At K c l H0 H' r' → ButL [c] H H' → RelE b v H' → Post (k (b, r')) good (Bad (CB K) [c] H0 E) → Q v H') : sp_read_expression K [.ref c, .int (d : Int)] H Q E :=
  ⟨_, _, rfl, c, d, f, rfl, rfl, RunF.step t h q⟩
theorem rx_expr1 {k : Bool × List Pc → Rs β} (t : At K c l H0 H r) (h : Post (expr f (d + 1) r >>= k) good (Bad (CB K) [c] H0 E))
    (q : ∀ (b : Bool) (r' : List Pc) (v : V) (H' : Hp), At K c l H0 H' r' → ButL [c] H H' → RelE b v H' → Post (k (b, r')) good (Bad (CB K) [c] H0 E) → Q v H') : sp_read_expression K [.ref c, .int ((d : Int) + 1)] H Q E :=
  rx_expr (d := d + 1) t h q
theorem At.ne_lst {q : Addr} {xs : List V} (t : At K c l H0 H r) (hq : H q = some (.lst xs)) : q ≠ c := by
  obtain ⟨dx, fs, h⟩ := t.ins
  exact ne_of hq h (by intro z; cases z)
theorem At.c0 (t : At K c l H H r) : H c ≠ none := by
  obtain ⟨dx, fs, h⟩ := t.ins
  rw [h]; intro z; cases z
theorem ButL.lst {q : Addr} {xs : List V} {H1 : Hp} (b : ButL [c] H H1) (hq : H q = some (.lst xs)) (hc : q ≠ c) : H1 q = some (.lst xs) := b _ _ hq (by simpa using hc)
end
def RelK (k : Nat) (v : V) (H : Hp) : Prop := ∃ (p : Addr) (nm pl : V), v = .ref p ∧ H p = some (.tup [.str (srt k), nm, pl])
def sp_read_kind (K : PySem.W.Frag) : Sp := sp1 fun x H Q E => ∃ (c l : Addr) (r : List Pc), x = .ref c ∧ At K c l H H r ∧ isKind (hd r) = true ∧ Post (kind r) (fun r' => ∀ v H', At K c l H H' r' → RelK (hd r) v H' → Q v H') (Bad (CB K) [c] H E)
theorem rk_kind {K : PySem.W.Frag} {c l : Addr} {H0 H : Hp} {r : List Pc} {E : XK} {Q : VK} {β : Type} {good : β → Prop} {k : List Pc → Rs β} (t : At K c l H0 H r) (hk : isKind (hd r) = true) (h : Post (kind r >>= k) good (Bad (CB K) [c] H0 E))
    (q : ∀ (r' : List Pc) (v : V) (H' : Hp), At K c l H0 H' r' → ButL [c] H H' → RelK (hd r) v H' → Post (k r') good (Bad (CB K) [c] H0 E) → Q v H') : sp_read_kind K [.ref c] H Q E :=
  ⟨_, rfl, c, l, r, rfl, t.fresh, hk, post_mono (post_bind h) (fun r' z v H' t' rel => q r' v H' (t.trans t') t'.b rel z) (fun _ _ z => z.after t.b)⟩
abbrev anyR : List Pc → Prop := fun _ => True
abbrev anyD : Nat → List Pc → Prop := fun _ _ => True
def sp_read_many (K : PySem.W.Frag) : Sp := spG1 K anyR (fun _ => many)
def sp_read_firsts (K : PySem.W.Frag) : Sp := spG2 K anyD firsts
def sp__read_declaration (K : PySem.W.Frag) : Sp := spG2 K (fun _ r => isKind (hd r) = true) decl
def sp__read_plain (K : PySem.W.Frag) : Sp := spG2 K anyD plain
def sp__read_test (K : PySem.W.Frag) : Sp := spG2 K anyD test
theorem big_lists {n : Nat} (h : n ≤ 3000000) : n < sizeLine := Nat.lt_of_le_of_lt (by omega) small_lists
section
variable {P : Program} {w : World} {K : PySem.W.Frag} {mg : Str → Option Value} {base : Heap}
theorem sc_read_kind : FnScope ["cursor", "name", "sort", "_", "place"] ["cursor"] (defScope s_read_kind) := ⟨rfl, rfl, rfl, by decide +kernel, rfl, by decide +kernel, by decide +kernel⟩
theorem g_read_kind (T : Txt K mg w) (G_Cursor_take : Gm P w K mg base CX0 1 (He.ga K "Cursor") "take" ["self"] (sp_Cursor_take K)) (G_Cursor_want : Gm P w K mg base (L2.CX P w) 3 (He.ga K "Cursor") "want" ["self", "sort"] (sp_Cursor_want K)) : Gd P w K mg base (L2.CX P w) 4 "read_kind" ["cursor"] (sp_read_kind K) := by
  have sc := sc_read_kind
  refine T.d_read_kind.okX sc len1 (fun _ _ _ _ _ _ us hl => match us, hl with | [_], _ => rfl) (fun f cdv A outer s H vs Q E hr h => ?_)
  obtain ⟨x0, rfl, h⟩ := h
  obtain ⟨c, l, r, rfl, t, hk, h⟩ := h
  refine ⟨_, (pss_cons (ps_asg (pe_gm0 (pv 0) T.cl_Cursor.c G_Cursor_take (hr.mono (by omega)) pass0) (pg_tup rfl (pgs_cons (pg_name (i := 2) sc.nd rfl (Or.inl rfl)) (pgs_cons (pg_name (i := 3) sc.nd rfl (Or.inl rfl)) (pgs_cons (pg_name (i := 4) sc.nd rfl (Or.inl rfl)) pgs_nil)))))
      (pss_cons (ps_set (i := 1) sc.nd rfl (Or.inl rfl) (pe_ifExp (pt_cmpR op_eq (pv 2) pe_str (nomark _)) (pe_ix ix_tup (pe_gm (pv 0) T.cl_Cursor.c G_Cursor_want (hr.mono (by omega)) (passes_call (takes_of rfl rfl rfl rfl) (fun _ _ _ _ h => h)) (pa_cons (pe_gstr T.c_NAME) pa_nil)) pe_int (fun _ _ => rfl)) pe_str))
      (pss_one (ps_ret (pe_tup (pa_cons (pv 2) (pa_cons (pv 1) (pa_cons (pv 4) pa_nil)))))))), ?_⟩
  have hd0 : hd r ≠ 0 := by intro z; rw [z] at hk; cases hk
  have hd58 := wf58 t.w
  try dsimp only [L2.tNext, L2.tSeq, L2.tDrop, L2.tRet, L2.tIfS, L2.tAsg, L2.gName]
  refine ra_take (fun Q q => ⟨_, rfl, q⟩) t hd0 fun p z H1 t1 b1 tk ez => ?_
  obtain ⟨w0, q0, g1, g2, g3⟩ := tk
  have hz : z.1 = hd r := by rw [ez]; rfl
  refine ⟨p, _, rfl, SqT.of g1, rfl, _, _, rfl, _, _, rfl, _, _, rfl, rfl, ?_⟩
  rw [hz] at g1
  refine ⟨_, rfl, rfl, _, rfl, ?_⟩
  show if decide (V.str (srt z.1) = V.str (srt 6)) = true then _ else _
  rw [hz, srt_dec hd58 (by decide)]
  by_cases y : hd r = 6
  · have e1 : kind r = (want 1 r.tail >>= fun r => pure r) := by
      unfold kind
      rw [if_pos y]
      cases want 1 r.tail <;> rfl
    rw [e1] at h
    refine if_true_of (decide_eq_true y) ?_
    try dsimp only [L2.tNext, L2.tSeq, L2.tDrop, L2.tRet, L2.tIfS, L2.tAsg, L2.gName]
    refine ra_want (s := 1) (fun Q q => ⟨_, rfl, q⟩) (fun R q => q) (by decide) (by decide) t1 h fun p2 z2 r2 H2 t2 b2 tk2 eq2 ez2 h2 => ?_
    obtain ⟨w2, q2, g4, g5, g6⟩ := tk2
    refine ⟨p2, _, _, _, rfl, rfl, SqT.of g4, rfl, ?_⟩
    refine ⟨_, rfl, _, rfl, _, rfl, tup_le (by show 3 ≤ 4000000; decide), fun pp hp => ?_⟩
    exact h2 _ _ (t2.laid hp) ⟨pp, _, _, rfl, upd_same⟩
  · have e1 : kind r = .ok r.tail := by
      unfold kind
      rw [if_neg y]
      rfl
    rw [e1] at h
    refine if_false_of (decide_eq_false y) ?_
    refine ⟨_, rfl, _, rfl, _, rfl, tup_le (by show 3 ≤ 4000000; decide), fun pp hp => ?_⟩
    exact h _ _ (t1.laid hp) ⟨pp, _, _, rfl, upd_same⟩
theorem sc_read_many : FnScope ["cursor", "many"] ["cursor"] (defScope s_read_many) := ⟨rfl, rfl, rfl, by decide +kernel, rfl, by decide +kernel, by decide +kernel⟩
theorem g_read_many (T : Txt K mg w) (G_Cursor_ahead : Gm P w K mg base CX0 1 (He.ga K "Cursor") "ahead" ["self"] (sp_Cursor_ahead K)) (G_Cursor_take : Gm P w K mg base CX0 1 (He.ga K "Cursor") "take" ["self"] (sp_Cursor_take K)) (G_Cursor_want : Gm P w K mg base (L2.CX P w) 3 (He.ga K "Cursor") "want" ["self", "sort"] (sp_Cursor_want K)) : Gd P w K mg base (L2.CX P w) 4 "read_many" ["cursor"] (sp_read_many K) := by
  have sc := sc_read_many
  refine T.d_read_many.okX sc len1 (fun _ _ _ _ _ _ us hl => match us, hl with | [_], _ => rfl) (fun f cdv A outer s H vs Q E hr h => ?_)
  obtain ⟨x0, rfl, h⟩ := h
  obtain ⟨c, l, r, f1, rfl, hf, t, hp, h⟩ := h
  refine ⟨_, (pss_cons (ps_if (pt_cmpR op_ne (pe_gm0 (pv 0) T.cl_Cursor.c G_Cursor_ahead (hr.mono (by omega)) pass0) pe_str (nomark _)) (pss_one (ps_ret pe_non)) pss_nil)
      (pss_cons (ps_expr (pe_gm0 (pv 0) T.cl_Cursor.c G_Cursor_take (hr.mono (by omega)) pass0))
      (pss_cons (ps_set (i := 1) sc.nd rfl (Or.inl rfl) (pe_ix ix_tup (pe_ix ix_tup (pe_gm (pv 0) T.cl_Cursor.c G_Cursor_want (hr.mono (by omega)) (passes_call (takes_of rfl rfl rfl rfl) (fun _ _ _ _ h => h)) (pa_cons (pe_gstr T.c_NUMBER) pa_nil)) pe_int (fun _ _ => rfl)) pe_int (fun _ _ => rfl)))
      (pss_cons (ps_expr (pe_gm (pv 0) T.cl_Cursor.c G_Cursor_want (hr.mono (by omega)) (passes_call (takes_of rfl rfl rfl rfl) (fun _ _ _ _ h => h)) (pa_cons pe_str pa_nil)))
      (pss_one (ps_ret (pv 1))))))), ?_⟩
  have h' : Post (if hd r = 54 then want 2 r.tail >>= fun r => want 55 r else pure r) (fun r' => ∀ v H', At K c l H H' r' → Q v H') (Bad (CB K) [c] H E) := h
  try dsimp only [L2.tNext, L2.tSeq, L2.tDrop, L2.tRet, L2.tIfS, L2.tAsg, L2.gName]
  refine ra_ne (fun Q q => ⟨_, rfl, q⟩) t 54 (by decide) rfl (fun y => ?_) (fun y => ?_)
  · rw [if_pos y] at h'
    try dsimp only [L2.tNext, L2.tSeq, L2.tDrop, L2.tRet, L2.tIfS, L2.tAsg, L2.gName]
    refine ra_take (fun Q q => ⟨_, rfl, q⟩) t (by rw [y]; decide) fun p z H1 t1 b1 tk ez => ?_
    try dsimp only [L2.tNext, L2.tSeq, L2.tDrop, L2.tRet, L2.tIfS, L2.tAsg, L2.gName]
    refine ra_want (s := 2) (fun Q q => ⟨_, rfl, q⟩) (fun R q => q) (by decide) (by decide) t1 h' fun p2 z2 r2 H2 t2 b2 tk2 eq2 ez2 h2 => ?_
    obtain ⟨w2, q2, g4, g5, g6⟩ := tk2
    obtain ⟨u, zz, kd, rfl, hu⟩ := g6 eq2
    refine ⟨p2, _, _, _, rfl, rfl, SqT.of g4, rfl, u, _, _, _, rfl, rfl, SqT.of hu, rfl, ?_⟩
    try dsimp only [L2.tNext, L2.tSeq, L2.tDrop, L2.tRet, L2.tIfS, L2.tAsg, L2.gName]
    refine ra_want (s := 55) (fun Q q => ⟨_, rfl, q⟩) (fun R q => q) (by decide) (by decide) t2 (post_pure h2) fun p3 z3 r3 H3 t3 b3 tk3 eq3 ez3 h3 => ?_
    exact ⟨_, rfl, h3 _ _ t3⟩
  · rw [if_neg y] at h'
    exact h' _ _ t
theorem sc_read_firsts : FnScope ["cursor", "depth", "firsts"] ["cursor", "depth"] (defScope s_read_firsts) := ⟨rfl, rfl, rfl, by decide +kernel, rfl, by decide +kernel, by decide +kernel⟩
theorem g_read_firsts (T : Txt K mg w) (G_Cursor_ahead : Gm P w K mg base CX0 1 (He.ga K "Cursor") "ahead" ["self"] (sp_Cursor_ahead K)) (G_Cursor_take : Gm P w K mg base CX0 1 (He.ga K "Cursor") "take" ["self"] (sp_Cursor_take K)) (G_read_expression : Gd P w K mg base (L2.CX P w) 7 "read_expression" ["cursor", "depth"] (sp_read_expression K)) (G_Cursor_want : Gm P w K mg base (L2.CX P w) 3 (He.ga K "Cursor") "want" ["self", "sort"] (sp_Cursor_want K)) : Gd P w K mg base (L2.CX P w) 8 "read_firsts" ["cursor", "depth"] (sp_read_firsts K) := by
  have sc := sc_read_firsts
  refine T.d_read_firsts.okX sc len2 (fun _ _ _ _ _ _ us hl => match us, hl with | [_, _], _ => rfl) (fun f cdv A outer s H vs Q E hr h => ?_)
  obtain ⟨x0, x1, rfl, h⟩ := h
  obtain ⟨c, l, r, f1, d, rfl, rfl, hf, t, hp, h⟩ := h
  refine ⟨_, (pss_cons (ps_if (pt_cmpR op_ne (pe_gm0 (pv 0) T.cl_Cursor.c G_Cursor_ahead (hr.mono (by omega)) pass0) pe_str (nomark _)) (pss_one (ps_ret pe_non)) pss_nil)
      (pss_cons (ps_expr (pe_gm0 (pv 0) T.cl_Cursor.c G_Cursor_take (hr.mono (by omega)) pass0))
      (pss_cons (ps_if (pt_cmpR op_ne (pe_gm0 (pv 0) T.cl_Cursor.c G_Cursor_ahead (hr.mono (by omega)) pass0) pe_str (nomark _)) (pss_one (ps_ret (pe_tup (pa_cons pe_str (pa_cons (pe_g G_read_expression (hr.mono (by omega)) (passes_call (takes_of rfl rfl rfl rfl) (fun _ _ _ _ h => h)) (pa_cons (pv 0) (pa_cons (pv 1) pa_nil))) pa_nil))))) pss_nil)
      (pss_cons (ps_expr (pe_gm0 (pv 0) T.cl_Cursor.c G_Cursor_take (hr.mono (by omega)) pass0))
      (pss_cons (ps_set (i := 2) sc.nd rfl (Or.inl rfl) (pe_lst pa_nil))
      (pss_cons (ps_if (pt_cmpR op_ne (pe_gm0 (pv 0) T.cl_Cursor.c G_Cursor_ahead (hr.mono (by omega)) pass0) pe_str (nomark _)) (pss_cons (ps_expr (pe_bm PySem.F.plainAttrs_list PySem.F.slot_list_append PySem.F.type_list_append mt_append (pv 2) (pa_cons (pe_g G_read_expression (hr.mono (by omega)) (passes_call (takes_of rfl rfl rfl rfl) (fun _ _ _ _ h => h)) (pa_cons (pv 0) (pa_cons (pv 1) pa_nil))) pa_nil)))
      (pss_one (ps_while (passes_of rfl) (pt_cmpR op_eq (pe_gm0 (pv 0) T.cl_Cursor.c G_Cursor_ahead (hr.mono (by omega)) pass0) pe_str (nomark _)) (pss_cons (ps_expr (pe_gm0 (pv 0) T.cl_Cursor.c G_Cursor_take (hr.mono (by omega)) pass0))
      (pss_one (ps_expr (pe_bm PySem.F.plainAttrs_list PySem.F.slot_list_append PySem.F.type_list_append mt_append (pv 2) (pa_cons (pe_g G_read_expression (hr.mono (by omega)) (passes_call (takes_of rfl rfl rfl rfl) (fun _ _ _ _ h => h)) (pa_cons (pv 0) (pa_cons (pv 1) pa_nil))) pa_nil)))))))) pss_nil)
      (pss_cons (ps_expr (pe_gm (pv 0) T.cl_Cursor.c G_Cursor_want (hr.mono (by omega)) (passes_call (takes_of rfl rfl rfl rfl) (fun _ _ _ _ h => h)) (pa_cons pe_str pa_nil)))
      (pss_one (ps_ret (pe_tup (pa_cons pe_str (pa_cons (pe_callTy call_tuple_of (by rfl) T.n_tuple (by decide +kernel) (pa_cons (pv 2) pa_nil)) pa_nil)))))))))))), ?_⟩
  have hc0 := t.c0
  have h' : Post (if hd r = 46 then (if hd r.tail = 56 then (if hd r.tail.tail = 57 then want 57 r.tail.tail else expr f1 d r.tail.tail >>= fun x => more f1 d f1 x.2 >>= fun r => want 57 r) else expr f1 d r.tail >>= fun x => pure x.2) else pure r) (fun r' => ∀ v H', At K c l H H' r' → Q v H') (Bad (CB K) [c] H E) := h
  try dsimp only [L2.tNext, L2.tSeq, L2.tDrop, L2.tRet, L2.tIfS, L2.tAsg, L2.gName]
  refine ra_ne (fun Q q => ⟨_, rfl, q⟩) t 46 (by decide) rfl (fun y => ?_) (fun y => ?_)
  · rw [if_pos y] at h'
    try dsimp only [L2.tNext, L2.tSeq, L2.tDrop, L2.tRet, L2.tIfS, L2.tAsg, L2.gName]
    refine ra_take (fun Q q => ⟨_, rfl, q⟩) t (by rw [y]; decide) fun p z H1 t1 b1 tk ez => ?_
    try dsimp only [L2.tNext, L2.tSeq, L2.tDrop, L2.tRet, L2.tIfS, L2.tAsg, L2.gName]
    refine ra_ne (fun Q q => ⟨_, rfl, q⟩) t1 56 (by decide) rfl (fun y => ?_) (fun y => ?_)
    · rw [if_pos y] at h'
      try dsimp only [L2.tNext, L2.tSeq, L2.tDrop, L2.tRet, L2.tIfS, L2.tAsg, L2.gName]
      refine ra_take (fun Q q => ⟨_, rfl, q⟩) t1 (by rw [y]; decide) fun p z H2 t2 b2 tk ez => ?_
      refine ⟨Nat.zero_le _, fun q hq => ?_⟩
      have t3 := t2.laid (o := .lst []) hq
      have hq0 : H q = none := t2.nothing hq hc0
      have hqc : q ≠ c := t3.ne_lst upd_same
      try dsimp only [L2.tNext, L2.tSeq, L2.tDrop, L2.tRet, L2.tIfS, L2.tAsg, L2.gName]
      refine ra_ne (fun Q q => ⟨_, rfl, q⟩) t3 57 (by decide) rfl (fun y => ?_) (fun y => ?_)
      · rw [if_pos y] at h'
        try dsimp only [L2.tNext, L2.tSeq, L2.tDrop, L2.tRet, L2.tIfS, L2.tAsg, L2.gName]
        refine ra_want (s := 57) (fun Q q => ⟨_, rfl, q⟩) (fun R q => q) (by decide) (by decide) t3 (post_pure h') fun p4 z4 r4 H4 t4 b4 tk4 eq4 ez4 h4 => ?_
        refine ⟨_, rfl, q, _, rfl, .inl ⟨SqL.of (b4.lst upd_same hqc), fun pp hpp => ⟨tup_le (by show 2 ≤ 4000000; decide), fun p2 hp2 => ?_⟩⟩⟩
        exact h4 _ _ ((t4.laid hpp).laid hp2)
      · rw [if_neg y] at h'
        try dsimp only [L2.tNext, L2.tSeq, L2.tDrop, L2.tRet, L2.tIfS, L2.tAsg, L2.gName]
        refine ra_append (fun Q q => ⟨_, rfl, q⟩) upd_same ?_
        refine ⟨_, rfl, _, rfl, rx_expr t3 h' fun b r5 v5 H5 t5 b5 rel5 h5 => ?_⟩
        refine ⟨_, _, rfl, b5.lst upd_same hqc, big_lists (by show 0 ≤ 3000000; decide), ?_⟩
        have t6 := t5.own (o' := .lst ([] ++ [v5])) hq0 (b5.lst upd_same hqc) (by intro _ z; cases z) hqc
        refine ⟨fun m σ H' => ∃ (r' : List Pc) (xs : List V), σ = [some (.ref c), some (.int (d : Int)), some (.ref q)] ∧ At K c l H H' r' ∧ H' q = some (.lst xs) ∧ xs.length + m ≤ 2000000 ∧ Post (more f1 d m r' >>= fun r => want 57 r) (fun r' => ∀ v H', At K c l H H' r' → Q v H') (Bad (CB K) [c] H E), ⟨f1, r5, _, rfl, t6, upd_same, (by show 1 + f1 ≤ 2000000; have : f1 ≤ 1000000 := hf; omega), h5⟩, ?_⟩
        rintro m σ H7 ⟨r7, xs, rfl, t7, hq7, hm, h7⟩
        cases m with
        | zero => exact h7.elim
        | succ m =>
        have h8 : Post ((if hd r7 = 50 then expr f1 d r7.tail >>= fun x => more f1 d m x.2 else pure r7) >>= fun r => want 57 r) (fun r' => ∀ v H', At K c l H H' r' → Q v H') (Bad (CB K) [c] H E) := h7
        try dsimp only [L2.tNext, L2.tSeq, L2.tDrop, L2.tRet, L2.tIfS, L2.tAsg, L2.gName]
        refine ra_eq (fun Q q => ⟨_, rfl, q⟩) t7 50 (by decide) rfl (fun y => ?_) (fun y => ?_)
        · rw [if_pos y] at h8
          refine ⟨_, fun _ _ z => z, ?_⟩
          try dsimp only [L2.tNext, L2.tSeq, L2.tDrop, L2.tRet, L2.tIfS, L2.tAsg, L2.gName]
          refine ra_take (fun Q q => ⟨_, rfl, q⟩) t7 (by rw [y]; decide) fun p z H9 t9 b9 tk ez => ?_
          try dsimp only [L2.tNext, L2.tSeq, L2.tDrop, L2.tRet, L2.tIfS, L2.tAsg, L2.gName]
          refine ra_append (fun Q q => ⟨_, rfl, q⟩) (b9.lst hq7 hqc) ?_
          have h9 : Post (expr f1 d r7.tail >>= fun x => (more f1 d m x.2 >>= fun r => want 57 r)) (fun r' => ∀ v H', At K c l H H' r' → Q v H') (Bad (CB K) [c] H E) := by
            cases hx : expr f1 d r7.tail <;> rw [hx] at h8 <;> exact h8
          refine ⟨_, rfl, _, rfl, rx_expr t9 h9 fun b r10 v10 H10 t10 b10 rel10 h10 => ?_⟩
          have hq10 := b10.lst (b9.lst hq7 hqc) hqc
          refine ⟨_, xs, rfl, hq10, big_lists (by omega), m, Nat.lt_succ_self _, r10, _, rfl, t10.own (o' := .lst (xs ++ [v10])) hq0 hq10 (by intro _ z; cases z) hqc, upd_same, (by rw [List.length_append]; show xs.length + 1 + m ≤ 2000000; omega), h10⟩
        · rw [if_neg y] at h8
          try dsimp only [L2.tNext, L2.tSeq, L2.tDrop, L2.tRet, L2.tIfS, L2.tAsg, L2.gName]
          refine ra_want (s := 57) (fun Q q => ⟨_, rfl, q⟩) (fun R q => q) (by decide) (by decide) t7 (post_pure h8) fun p4 z4 r4 H4 t4 b4 tk4 eq4 ez4 h4 => ?_
          refine ⟨_, rfl, q, _, rfl, .inl ⟨SqL.of (b4.lst hq7 hqc), fun pp hpp => ⟨tup_le (by show 2 ≤ 4000000; decide), fun p2 hp2 => ?_⟩⟩⟩
          exact h4 _ _ ((t4.laid hpp).laid hp2)
    · rw [if_neg y] at h'
      refine ⟨_, rfl, _, rfl, rx_expr t1 h' fun b r5 v5 H5 t5 b5 rel5 h5 => ?_⟩
      exact ⟨tup_le (by show 2 ≤ 4000000; decide), fun p2 hp2 => h5 _ _ (t5.laid hp2)⟩
  · rw [if_neg y] at h'
    exact h' _ _ t
theorem sc__read_declaration : FnScope ["cursor", "depth", "kind", "many", "_", "name", "place"] ["cursor", "depth"] (defScope s__read_declaration) := ⟨rfl, rfl, rfl, by decide +kernel, rfl, by decide +kernel, by decide +kernel⟩
theorem g__read_declaration (T : Txt K mg w) (G_read_kind : Gd P w K mg base (L2.CX P w) 4 "read_kind" ["cursor"] (sp_read_kind K)) (G_Cursor_want : Gm P w K mg base (L2.CX P w) 3 (He.ga K "Cursor") "want" ["self", "sort"] (sp_Cursor_want K)) (G_read_many : Gd P w K mg base (L2.CX P w) 4 "read_many" ["cursor"] (sp_read_many K)) (G_read_firsts : Gd P w K mg base (L2.CX P w) 8 "read_firsts" ["cursor", "depth"] (sp_read_firsts K)) : Gd P w K mg base (L2.CX P w) 9 "_read_declaration" ["cursor", "depth"] (sp__read_declaration K) := by
  have sc := sc__read_declaration
  refine T.d__read_declaration.okX sc len2 (fun _ _ _ _ _ _ us hl => match us, hl with | [_, _], _ => rfl) (fun f cdv A outer s H vs Q E hr h => ?_)
  obtain ⟨x0, x1, rfl, h⟩ := h
  obtain ⟨c, l, r, f1, d, rfl, rfl, hf, t, hp, h⟩ := h
  refine ⟨_, (pss_cons (ps_set (i := 2) sc.nd rfl (Or.inl rfl) (pe_g G_read_kind (hr.mono (by omega)) (passes_call (takes_of rfl rfl rfl rfl) (fun _ _ _ _ h => h)) (pa_cons (pv 0) pa_nil)))
      (pss_cons (ps_asg (pe_gm (pv 0) T.cl_Cursor.c G_Cursor_want (hr.mono (by omega)) (passes_call (takes_of rfl rfl rfl rfl) (fun _ _ _ _ h => h)) (pa_cons (pe_gstr T.c_NAME) pa_nil)) (pg_tup rfl (pgs_cons (pg_name (i := 4) sc.nd rfl (Or.inl rfl)) (pgs_cons (pg_name (i := 5) sc.nd rfl (Or.inl rfl)) (pgs_cons (pg_name (i := 6) sc.nd rfl (Or.inl rfl)) pgs_nil)))))
      (pss_cons (ps_set (i := 3) sc.nd rfl (Or.inl rfl) (pe_g G_read_many (hr.mono (by omega)) (passes_call (takes_of rfl rfl rfl rfl) (fun _ _ _ _ h => h)) (pa_cons (pv 0) pa_nil)))
      (pss_one (ps_ret (pe_tup (pa_cons pe_str (pa_cons (pv 6) (pa_cons (pv 2) (pa_cons (pv 5) (pa_cons (pv 3) (pa_cons (pe_g G_read_firsts (hr.mono (by omega)) (passes_call (takes_of rfl rfl rfl rfl) (fun _ _ _ _ h => h)) (pa_cons (pv 0) (pa_cons (pe_op op_add (pv 1) pe_int) pa_nil))) pa_nil)))))))))))), ?_⟩
  have h' : Post (kind r >>= fun r => want 1 r >>= fun r => many r >>= fun r => firsts f1 (d + 1) r) (fun r' => ∀ v H', At K c l H H' r' → Q v H') (Bad (CB K) [c] H E) := h
  refine ⟨_, rfl, rk_kind t hp h' fun r1 v1 H1 t1 b1 rel1 h1 => ?_⟩
  try dsimp only [L2.tNext, L2.tSeq, L2.tDrop, L2.tRet, L2.tIfS, L2.tAsg, L2.gName]
  refine ra_want (s := 1) (fun Q q => ⟨_, rfl, q⟩) (fun R q => q) (by decide) (by decide) t1 h1 fun p2 z2 r2 H2 t2 b2 tk2 eq2 ez2 h2 => ?_
  obtain ⟨w0, q0, g1, g2, g3⟩ := tk2
  refine ⟨p2, _, rfl, SqT.of g1, rfl, _, _, rfl, _, _, rfl, _, _, rfl, rfl, ?_⟩
  refine ⟨_, rfl, spG1.step (f := 0) t2 trivial (by decide) h2 fun r3 v3 H3 t3 b3 h3 => ?_⟩
  refine ⟨_, rfl, _, rfl, _, rfl, _, rfl, _, rfl, _, rfl, _, _, rfl, rfl, spG2.step1 t3 trivial hf (post_pure h3) fun r4 v4 H4 t4 b4 h4 => ?_⟩
  exact ⟨tup_le (by show 6 ≤ 4000000; decide), fun p2 hp2 => h4 _ _ (t4.laid hp2)⟩
theorem sc__read_plain : FnScope ["cursor", "depth", "place", "expression"] ["cursor", "depth"] (defScope s__read_plain) := ⟨rfl, rfl, rfl, by decide +kernel, rfl, by decide +kernel, by decide +kernel⟩
theorem g__read_plain (T : Txt K mg w) (G_Cursor_spot : Gm P w K mg base CX0 1 (He.ga K "Cursor") "spot" ["self"] (sp_Cursor_spot K)) (G_read_expression : Gd P w K mg base (L2.CX P w) 7 "read_expression" ["cursor", "depth"] (sp_read_expression K)) (G_Cursor_ahead : Gm P w K mg base CX0 1 (He.ga K "Cursor") "ahead" ["self"] (sp_Cursor_ahead K)) (G_Cursor_take : Gm P w K mg base CX0 1 (He.ga K "Cursor") "take" ["self"] (sp_Cursor_take K)) (G_Cursor_fail : Gm P w K mg base (L2.CX P w) 2 (He.ga K "Cursor") "fail" ["self"] (sp_Cursor_fail K)) : Gd P w K mg base (L2.CX P w) 8 "_read_plain" ["cursor", "depth"] (sp__read_plain K) := by
  have sc := sc__read_plain
  refine T.d__read_plain.okX sc len2 (fun _ _ _ _ _ _ us hl => match us, hl with | [_, _], _ => rfl) (fun f cdv A outer s H vs Q E hr h => ?_)
  obtain ⟨x0, x1, rfl, h⟩ := h
  obtain ⟨c, l, r, f1, d, rfl, rfl, hf, t, hp, h⟩ := h
  refine ⟨_, (pss_cons (ps_set (i := 2) sc.nd rfl (Or.inl rfl) (pe_gm0 (pv 0) T.cl_Cursor.c G_Cursor_spot (hr.mono (by omega)) pass0))
      (pss_cons (ps_set (i := 3) sc.nd rfl (Or.inl rfl) (pe_g G_read_expression (hr.mono (by omega)) (passes_call (takes_of rfl rfl rfl rfl) (fun _ _ _ _ h => h)) (pa_cons (pv 0) (pa_cons (pe_op op_add (pv 1) pe_int) pa_nil))))
      (pss_cons (ps_if (pt_cmpR op_eq (pe_gm0 (pv 0) T.cl_Cursor.c G_Cursor_ahead (hr.mono (by omega)) pass0) pe_str (nomark _)) (pss_cons (ps_expr (pe_gm0 (pv 0) T.cl_Cursor.c G_Cursor_take (hr.mono (by omega)) pass0))
      (pss_one (ps_ret (pe_tup (pa_cons pe_str (pa_cons (pv 2) (pa_cons (pv 3) (pa_cons (pe_g G_read_expression (hr.mono (by omega)) (passes_call (takes_of rfl rfl rfl rfl) (fun _ _ _ _ h => h)) (pa_cons (pv 0) (pa_cons (pe_op op_add (pv 1) pe_int) pa_nil))) pa_nil)))))))) pss_nil)
      (pss_cons (ps_if (pt_cmpR op_ne (pe_ix ix_tup (pe_ix ix_tup (pv 3) (pe_un un_neg pe_int) (fun _ _ => rfl)) pe_int (fun _ _ => rfl)) pe_str (nomark _)) (pss_one (ps_expr (pe_gm0 (pv 0) T.cl_Cursor.c G_Cursor_fail (hr.mono (by omega)) (passes_call (takes_of rfl rfl rfl rfl) (fun _ _ _ _ h => h))))) pss_nil)
      (pss_one (ps_ret (pe_tup (pa_cons pe_str (pa_cons (pv 2) (pa_cons (pv 3) pa_nil)))))))))), ?_⟩
  have h' : Post (expr f1 (d + 1) r >>= fun x => if hd x.2 = 46 then expr f1 (d + 1) x.2.tail >>= fun x => pure x.2 else if x.1 = true then pure x.2 else ill x.2) (fun r' => ∀ v H', At K c l H H' r' → Q v H') (Bad (CB K) [c] H E) := h
  try dsimp only [L2.tNext, L2.tSeq, L2.tDrop, L2.tRet, L2.tIfS, L2.tAsg, L2.gName]
  refine ra_spot (fun Q q => ⟨_, rfl, q⟩) t fun q0 => ?_
  refine ⟨_, rfl, _, rfl, _, _, rfl, rfl, rx_expr1 t h' fun b r1 v1 H1 t1 b1 rel1 h1 => ?_⟩
  try dsimp only [L2.tNext, L2.tSeq, L2.tDrop, L2.tRet, L2.tIfS, L2.tAsg, L2.gName]
  refine ra_eq (fun Q q => ⟨_, rfl, q⟩) t1 46 (by decide) rfl (fun y => ?_) (fun y => ?_)
  · rw [if_pos y] at h1
    try dsimp only [L2.tNext, L2.tSeq, L2.tDrop, L2.tRet, L2.tIfS, L2.tAsg, L2.gName]
    refine ra_take (fun Q q => ⟨_, rfl, q⟩) t1 (by rw [y]; decide) fun p z H2 t2 b2 tk ez => ?_
    refine ⟨_, rfl, _, rfl, _, rfl, _, rfl, _, _, rfl, rfl, rx_expr1 t2 h1 fun b r3 v3 H3 t3 b3 rel3 h3 => ?_⟩
    exact ⟨tup_le (by show 4 ≤ 4000000; decide), fun p2 hp2 => h3 _ _ (t3.laid hp2)⟩
  · rw [if_neg y] at h1
    obtain ⟨p, ys, q, z, tl, rfl, g1, g2, g3⟩ := rel1
    refine ⟨_, rfl, _, rfl, p, _, _, _, rfl, rfl, SqT.of g1, atI_last, q, _, _, _, rfl, rfl, SqT.of g2, atI_nat (j := 0) rfl, (by show scal (V.str z) (V.str "call") = true; rfl), _, rfl, ?_⟩
    have e1 : decide (V.str z = V.str "call") = b := by
      rw [← g3, Bool.eq_iff_iff]
      simp
    show if (!decide (V.str z = V.str "call")) = true then _ else _
    rw [e1]
    cases b with
    | true =>
      rw [if_pos rfl] at h1
      refine if_false_of rfl ?_
      refine ⟨_, rfl, _, rfl, tup_le (by show 3 ≤ 4000000; decide), fun p2 hp2 => h1 _ _ (t1.laid hp2)⟩
    | false =>
      rw [if_neg Bool.false_ne_true] at h1
      refine if_true_of rfl ?_
      try dsimp only [L2.tNext, L2.tSeq, L2.tDrop, L2.tRet, L2.tIfS, L2.tAsg, L2.gName]
      refine ra_fail (fun Q q => ⟨_, rfl, q⟩) t1 h1
theorem sc__read_test : FnScope ["cursor", "depth", "test"] ["cursor", "depth"] (defScope s__read_test) := ⟨rfl, rfl, rfl, by decide +kernel, rfl, by decide +kernel, by decide +kernel⟩
theorem g__read_test (T : Txt K mg w) (G_Cursor_want : Gm P w K mg base (L2.CX P w) 3 (He.ga K "Cursor") "want" ["self", "sort"] (sp_Cursor_want K)) (G_read_expression : Gd P w K mg base (L2.CX P w) 7 "read_expression" ["cursor", "depth"] (sp_read_expression K)) : Gd P w K mg base (L2.CX P w) 8 "_read_test" ["cursor", "depth"] (sp__read_test K) := by
  have sc := sc__read_test
  refine T.d__read_test.okX sc len2 (fun _ _ _ _ _ _ us hl => match us, hl with | [_, _], _ => rfl) (fun f cdv A outer s H vs Q E hr h => ?_)
  obtain ⟨x0, x1, rfl, h⟩ := h
  obtain ⟨c, l, r, f1, d, rfl, rfl, hf, t, hp, h⟩ := h
  refine ⟨_, (pss_cons (ps_expr (pe_gm (pv 0) T.cl_Cursor.c G_Cursor_want (hr.mono (by omega)) (passes_call (takes_of rfl rfl rfl rfl) (fun _ _ _ _ h => h)) (pa_cons pe_str pa_nil)))
      (pss_cons (ps_set (i := 2) sc.nd rfl (Or.inl rfl) (pe_g G_read_expression (hr.mono (by omega)) (passes_call (takes_of rfl rfl rfl rfl) (fun _ _ _ _ h => h)) (pa_cons (pv 0) (pa_cons (pe_op op_add (pv 1) pe_int) pa_nil))))
      (pss_cons (ps_expr (pe_gm (pv 0) T.cl_Cursor.c G_Cursor_want (hr.mono (by omega)) (passes_call (takes_of rfl rfl rfl rfl) (fun _ _ _ _ h => h)) (pa_cons pe_str pa_nil)))
      (pss_one (ps_ret (pv 2)))))), ?_⟩
  have h' : Post (want 52 r >>= fun r => expr f1 (d + 1) r >>= fun x => want 53 x.2) (fun r' => ∀ v H', At K c l H H' r' → Q v H') (Bad (CB K) [c] H E) := h
  try dsimp only [L2.tNext, L2.tSeq, L2.tDrop, L2.tRet, L2.tIfS, L2.tAsg, L2.gName]
  refine ra_want (s := 52) (fun Q q => ⟨_, rfl, q⟩) (fun R q => q) (by decide) (by decide) t h' fun p2 z2 r2 H2 t2 b2 tk2 eq2 ez2 h2 => ?_
  refine ⟨_, rfl, _, rfl, _, _, rfl, rfl, rx_expr1 t2 h2 fun b r3 v3 H3 t3 b3 rel3 h3 => ?_⟩
  try dsimp only [L2.tNext, L2.tSeq, L2.tDrop, L2.tRet, L2.tIfS, L2.tAsg, L2.gName]
  refine ra_want (s := 53) (fun Q q => ⟨_, rfl, q⟩) (fun R q => q) (by decide) (by decide) t3 (post_pure h3) fun p4 z4 r4 H4 t4 b4 tk4 eq4 ez4 h4 => ?_
  exact ⟨_, rfl, h4 _ _ t4⟩
end
end Rd

namespace Rd
open PySem PySem.Spec PyProof.Rows L2 My Mir
def spK (K : PySem.W.Frag) (j : Nat) (cs : List Nat) : Sp := spG2 K (fun d r => hd r ∈ cs ∧ 31 ≤ d + j) known
def sp__read_braces (K : PySem.W.Frag) (j : Nat) : Sp := spK K j [56]
def sp__read_if (K : PySem.W.Frag) (j : Nat) : Sp := spK K j [10]
def sp__read_return (K : PySem.W.Frag) (j : Nat) : Sp := spK K j [20]
def sp__read_told (K : PySem.W.Frag) (j : Nat) : Sp := spK K j [21]
def sp__read_statement (K : PySem.W.Frag) (j : Nat) : Sp := sp3 fun x y z H Q E => ∃ (c l : Addr) (r : List Pc) (f d : Nat) (alone : Bool), x = .ref c ∧ y = .int (d : Int) ∧ z = .bl alone ∧ f ≤ BIG ∧ 31 ≤ d + j ∧ At K c l H H r ∧
  Post (stmt f d alone r) (fun r' => ∀ v H', At K c l H H' r' → Q v H') (Bad (CB K) [c] H E)
def sp_read_statements (K : PySem.W.Frag) (j : Nat) : Sp := sp3 fun x y z H Q E => ∃ (c l p : Addr) (r : List Pc) (f d : Nat), x = .ref c ∧ y = .int (d : Int) ∧ z = .ref p ∧ H p = some (.tup [.str (srt 57)]) ∧ f ≤ BIG ∧ 31 ≤ d + j ∧ At K c l H H r ∧
  Post (stmts f d r) (fun r' => ∀ v H', At K c l H H' r' → Q v H') (Bad (CB K) [c] H E)
structure Kn (P : Program) (w : World) (K : PySem.W.Frag) (mg : Str → Option Value) (base : Heap) (j k : Nat) : Prop where
  braces : Gd P w K mg base (L2.CX P w) k "_read_braces" ["cursor", "depth"] (sp__read_braces K j)
  ifs : Gd P w K mg base (L2.CX P w) k "_read_if" ["cursor", "depth"] (sp__read_if K j)
  ret : Gd P w K mg base (L2.CX P w) k "_read_return" ["cursor", "depth"] (sp__read_return K j)
  told : Gd P w K mg base (L2.CX P w) k "_read_told" ["cursor", "depth"] (sp__read_told K j)
def Sst (K : PySem.W.Frag) (j : Nat) (f : Addr) (sp : Sp) : Prop := j ≠ 0 ∧ ((f = He.ga K "_read_braces" ∧ sp = sp__read_braces K j) ∨ (f = He.ga K "_read_if" ∧ sp = sp__read_if K j) ∨ (f = He.ga K "_read_return" ∧ sp = sp__read_return K j) ∨ (f = He.ga K "_read_told" ∧ sp = sp__read_told K j))
theorem un_C {v : V} {σ : L2.St} {H : Hp} {Q : VK} (h : Q v H) : tC v σ H Q := h
theorem stmt_is : ∀ c, c < 58 → (fSTATEMENTS c).isSome = isStmt c := by decide +kernel
theorem kinds_is (c : Nat) : c ∈ [7, 8, 6] ↔ isKind c = true := by
  simp [isKind, or_assoc]
section
variable {K : PySem.W.Frag} {c l : Addr} {H0 H : Hp} {r : List Pc} {E : XK} {Q : VK} {f d j : Nat} {β : Type} {good : β → Prop} {σ : L2.St} {A B : Hp → Prop} {ta tb : TE}
theorem rx_stmt {al : Bool} {k : List Pc → Rs β} (t : At K c l H0 H r) (hf : f ≤ BIG) (hd : 31 ≤ d + j) (h : Post (stmt f d al r >>= k) good (Bad (CB K) [c] H0 E))
    (q : ∀ (r' : List Pc) (v : V) (H' : Hp), At K c l H0 H' r' → ButL [c] H H' → Post (k r') good (Bad (CB K) [c] H0 E) → Q v H') : sp__read_statement K j [.ref c, .int (d : Int), .bl al] H Q E :=
  ⟨_, _, _, rfl, c, l, r, f, d, al, rfl, rfl, rfl, hf, hd, t.fresh, post_mono (post_bind h) (fun r' z v H' t' => q r' v H' (t.trans t') t'.b z) (fun _ _ z => z.after t.b)⟩
theorem rx_stmt1 {al : Bool} {k : List Pc → Rs β} (t : At K c l H0 H r) (hf : f ≤ BIG) (hd : 31 ≤ d + (j + 1)) (h : Post (stmt f (d + 1) al r >>= k) good (Bad (CB K) [c] H0 E))
    (q : ∀ (r' : List Pc) (v : V) (H' : Hp), At K c l H0 H' r' → ButL [c] H H' → Post (k r') good (Bad (CB K) [c] H0 E) → Q v H') : sp__read_statement K j [.ref c, .int ((d : Int) + 1), .bl al] H Q E :=
  rx_stmt (d := d + 1) t hf (by omega) h q
theorem rx_stmts {p : Addr} {k : List Pc → Rs β} (t : At K c l H0 H r) (hp : H p = some (.tup [.str (srt 57)])) (hf : f ≤ BIG) (hd : 31 ≤ d + j) (h : Post (stmts f d r >>= k) good (Bad (CB K) [c] H0 E))
    (q : ∀ (r' : List Pc) (v : V) (H' : Hp), At K c l H0 H' r' → ButL [c] H H' → Post (k r') good (Bad (CB K) [c] H0 E) → Q v H') : sp_read_statements K j [.ref c, .int (d : Int), .ref p] H Q E :=
  ⟨_, _, _, rfl, c, l, p, r, f, d, rfl, rfl, rfl, hp, hf, hd, t.fresh, post_mono (post_bind h) (fun r' z v H' t' => q r' v H' (t.trans t') t'.b z) (fun _ _ z => z.after t.b)⟩
theorem rx_stmts1 {p : Addr} {k : List Pc → Rs β} (t : At K c l H0 H r) (hp : H p = some (.tup [.str (srt 57)])) (hf : f ≤ BIG) (hd : 31 ≤ d + (j + 1)) (h : Post (stmts f (d + 1) r >>= k) good (Bad (CB K) [c] H0 E))
    (q : ∀ (r' : List Pc) (v : V) (H' : Hp), At K c l H0 H' r' → ButL [c] H H' → Post (k r') good (Bad (CB K) [c] H0 E) → Q v H') : sp_read_statements K j [.ref c, .int ((d : Int) + 1), .ref p] H Q E :=
  rx_stmts (d := d + 1) t hp hf (by omega) h q
theorem ra_notinV (ha : ∀ Q : VK, Q (.ref c) H → ta σ H Q) (a : At K c l H0 H r) (ds : List Nat) (hds : ∀ d, d ∈ ds → d < 58) {p : Addr} (hb : ∀ Q : VK, Q (.ref p) H → tb σ H Q) (hq : SqT K H p (ds.map fun d => V.str (srt d))) (h1 : hd r ∈ ds → B H) (h2 : ¬ hd r ∈ ds → A H) :
    tTest (tOp (rIn K true) (tMethG (CU K) "ahead" (sp_Cursor_ahead K) E ta tNil) tb) σ H (fun k H' => if k = true then A H' else B H') := by
  refine ra_ahead ha a (hb _ ⟨p, _, rfl, .inr hq, rfl, all_flat ds, _, rfl, ?_⟩)
  show if (!inV (V.str (srt (hd r))) (ds.map fun d => V.str (srt d))) = true then A H else B H
  rw [inV_srt (wf58 a.w) ds hds]
  by_cases z : hd r ∈ ds
  · exact if_false_of (by rw [decide_eq_true z]; rfl) (h1 z)
  · exact if_true_of (by rw [decide_eq_false z]; rfl) (h2 z)
/-- a local sort in a kept tuple -/
theorem tv_in {i c : Nat} {R : Bool → Hp → Prop} (hi : σ[i]? = some (some (.str (srt c)))) (hc : c < 58) (ds : List Nat) (hds : ∀ d, d ∈ ds → d < 58) {p : Addr} (hq : SqT K H p (ds.map fun d => V.str (srt d))) (h1 : R (decide (c ∈ ds)) H) :
    tTest (tOp (rIn K false) (tVar i) (tC (.ref p))) σ H R := by
  refine ⟨_, hi, p, _, rfl, .inr hq, rfl, all_flat ds, _, rfl, ?_⟩
  show R (inV (V.str (srt c)) (ds.map fun d => V.str (srt d))) H
  rw [inV_srt hc ds hds]
  exact h1
end
section
variable {P : Program} {w : World} {K : PySem.W.Frag} {mg : Str → Option Value} {base : Heap}
variable {j : Nat}
theorem sc_read_statements : FnScope ["cursor", "depth", "ends", "statements"] ["cursor", "depth", "ends"] (defScope s_read_statements) := ⟨rfl, rfl, rfl, by decide +kernel, rfl, by decide +kernel, by decide +kernel⟩
theorem g_read_statements (T : Txt K mg w) (G_Cursor_ahead : Gm P w K mg base CX0 1 (He.ga K "Cursor") "ahead" ["self"] (sp_Cursor_ahead K)) (G__read_statement : Gd P w K mg base (L2.CX P w) (19 + 5 * j + 1) "_read_statement" ["cursor", "depth", "alone"] (sp__read_statement K j)) : Gd P w K mg base (L2.CX P w) (20 + 5 * j + 1) "read_statements" ["cursor", "depth", "ends"] (sp_read_statements K j) := by
  have sc := sc_read_statements
  refine T.d_read_statements.okX sc len3 (fun _ _ _ _ _ _ us hl => match us, hl with | [_, _, _], _ => rfl) (fun f cdv A outer s H vs Q E hr h => ?_)
  obtain ⟨x0, x1, x2, rfl, h⟩ := h
  obtain ⟨c, l, p, r, f1, d, rfl, rfl, rfl, hp, hf, hj, t, h⟩ := h
  refine ⟨_, (pss_cons (ps_set (i := 3) sc.nd rfl (Or.inl rfl) (pe_lst pa_nil))
      (pss_cons (ps_while (passes_of rfl) (pt_cmpR op_notIn_seq (pe_gm0 (pv 0) T.cl_Cursor.c G_Cursor_ahead (hr.mono (by omega)) pass0) (pv 2) rfl) (pss_one (ps_expr (pe_bm PySem.F.plainAttrs_list PySem.F.slot_list_append PySem.F.type_list_append mt_append (pv 3) (pa_cons (pe_g G__read_statement (hr.mono (by omega)) (passes_call (takes_of rfl rfl rfl rfl) (fun _ _ _ _ h => h)) (pa_cons (pv 0) (pa_cons (pv 1) (pa_cons pe_bl pa_nil)))) pa_nil)))))
      (pss_one (ps_ret (pe_callTy call_tuple_of (by rfl) T.n_tuple (by decide +kernel) (pa_cons (pv 3) pa_nil)))))), ?_⟩
  have hc0 := t.c0
  refine ⟨Nat.zero_le _, fun q hq => ?_⟩
  have t3 := t.laid (o := .lst []) hq
  have hqc : q ≠ c := t3.ne_lst upd_same
  refine ⟨fun m σ H' => ∃ (r' : List Pc) (xs : List V), σ = [some (.ref c), some (.int (d : Int)), some (.ref p), some (.ref q)] ∧ At K c l H H' r' ∧ H' q = some (.lst xs) ∧ xs.length + m ≤ 2000000 ∧ m ≤ BIG ∧ Post (stmts m d r') (fun r' => ∀ v H', At K c l H H' r' → Q v H') (Bad (CB K) [c] H E), ⟨f1, r, _, rfl, t3, upd_same, (by show 0 + f1 ≤ 2000000; have : f1 ≤ 1000000 := hf; omega), hf, h⟩, ?_⟩
  rintro m σ H7 ⟨r7, xs, rfl, t7, hq7, hm, hmb, h7⟩
  cases m with
  | zero =>
    unfold stmts at h7
    exact h7.elim
  | succ m =>
  have h8 : Post (if hd r7 = 57 then pure r7 else stmt m d false r7 >>= fun r => stmts m d r) (fun r' => ∀ v H', At K c l H H' r' → Q v H') (Bad (CB K) [c] H E) := by
    unfold stmts at h7
    exact h7
  try dsimp only [L2.tNext, L2.tSeq, L2.tDrop, L2.tRet, L2.tIfS, L2.tAsg, L2.gName]
  refine ra_notinV (fun Q q => ⟨_, rfl, q⟩) t7 [57] (by decide) (fun Q q => ⟨_, rfl, q⟩) (SqT.of (t7.b.tup t.mu hp)) (fun y => ?_) (fun y => ?_)
  · rw [if_pos (by simpa using y)] at h8
    exact ⟨_, rfl, q, _, rfl, .inl ⟨SqL.of hq7, fun pp hpp => h8 _ _ (t7.laid hpp)⟩⟩
  · rw [if_neg (by simpa using y)] at h8
    refine ⟨_, fun _ _ z => z, ?_⟩
    try dsimp only [L2.tNext, L2.tSeq, L2.tDrop, L2.tRet, L2.tIfS, L2.tAsg, L2.gName]
    refine ra_append (fun Q q => ⟨_, rfl, q⟩) hq7 ?_
    refine ⟨_, rfl, _, rfl, rx_stmt (f := m) t7 (Nat.le_of_succ_le hmb) hj h8 fun r10 v10 H10 t10 b10 h10 => ?_⟩
    have hq10 := b10.lst hq7 hqc
    exact ⟨_, xs, rfl, hq10, big_lists (by omega), m, Nat.lt_succ_self _, r10, _, rfl, t10.own (o' := .lst (xs ++ [v10])) hq hq10 (by intro _ z; cases z) hqc, upd_same, (by rw [List.length_append]; show xs.length + 1 + m ≤ 2000000; omega), Nat.le_of_succ_le hmb, h10⟩
theorem sc__read_statement : FnScope ["cursor", "depth", "alone", "sort", "statement", "read"] ["cursor", "depth", "alone"] (defScope s__read_statement) := ⟨rfl, rfl, rfl, by decide +kernel, rfl, by decide +kernel, by decide +kernel⟩
theorem g__read_statement (T : Txt K mg w) (HK : j ≠ 0 → Kn P w K mg base j (19 + 5 * j)) (G_Cursor_fail : Gm P w K mg base (L2.CX P w) 2 (He.ga K "Cursor") "fail" ["self"] (sp_Cursor_fail K)) (G_Cursor_ahead : Gm P w K mg base CX0 1 (He.ga K "Cursor") "ahead" ["self"] (sp_Cursor_ahead K)) (G__read_declaration : Gd P w K mg base (L2.CX P w) 9 "_read_declaration" ["cursor", "depth"] (sp__read_declaration K)) (G__read_plain : Gd P w K mg base (L2.CX P w) 8 "_read_plain" ["cursor", "depth"] (sp__read_plain K)) (G_Cursor_want : Gm P w K mg base (L2.CX P w) 3 (He.ga K "Cursor") "want" ["self", "sort"] (sp_Cursor_want K)) : Gd P w K mg base (L2.CX P w) (19 + 5 * j + 1) "_read_statement" ["cursor", "depth", "alone"] (sp__read_statement K j) := by
  have sc := sc__read_statement
  refine T.d__read_statement.okX sc len3 (fun _ _ _ _ _ _ us hl => match us, hl with | [_, _, _], _ => rfl) (fun f cdv A outer s H vs Q E hr h => ?_)
  obtain ⟨x0, x1, x2, rfl, h⟩ := h
  obtain ⟨c, l, r, f1, d, al, rfl, rfl, rfl, hf, hj, t, h⟩ := h
  obtain ⟨es1, n1, kd_STATEMENTS⟩ := T.k_STATEMENTS
  have HB_read : ∀ f sp, Sst K j f sp → HeldX P w K mg base (L2.CX P w) (19 + 5 * j) f sp := by
    intro f sp hS
    obtain ⟨hj0, hS⟩ := hS
    have kn := HK hj0
    rcases hS with ⟨rfl, rfl⟩ | ⟨rfl, rfl⟩ | ⟨rfl, rfl⟩ | ⟨rfl, rfl⟩
    · exact heldX_of kn.braces T.ga__read_braces
    · exact heldX_of kn.ifs T.ga__read_if
    · exact heldX_of kn.ret T.ga__read_return
    · exact heldX_of kn.told T.ga__read_told
  refine ⟨_, (pss_cons (ps_if (pt_cmpR op_gt (pv 1) (pe_gint T.c_MOST_WITHIN) (nomark _)) (pss_one (ps_expr (pe_gm0 (pv 0) T.cl_Cursor.c G_Cursor_fail (hr.mono (by omega)) (passes_call (takes_of rfl rfl rfl rfl) (fun _ _ _ _ h => h))))) pss_nil)
      (pss_cons (ps_set (i := 3) sc.nd rfl (Or.inl rfl) (pe_gm0 (pv 0) T.cl_Cursor.c G_Cursor_ahead (hr.mono (by omega)) pass0))
      (pss_cons (ps_if (pt_cmpR (op_in_kd kd_STATEMENTS) (pv 3) (pe_gref T.c_STATEMENTS) rfl) (pss_cons (ps_set (i := 5) sc.nd rfl (Or.inl rfl) (pe_ix ix_kdict (pe_gref T.c_STATEMENTS) (pv 3) (fun _ _ => rfl)))
      (pss_one (ps_ret (pe_callV (i := 5) HB_read (hr.mono (by omega)) rfl (Or.inl rfl) (passes_call (takes_of rfl rfl rfl rfl) (fun _ _ _ _ h => h)) (pa_cons (pv 0) (pa_cons (pv 1) pa_nil)))))) pss_nil)
      (pss_cons (ps_if (PW.pt (pw_and (pt_cmpR op_in_seq (pv 3) (pe_gref T.c_KINDS) rfl) (pw_and1 (pt_val (pv 2))))) (pss_one (ps_expr (pe_gm0 (pv 0) T.cl_Cursor.c G_Cursor_fail (hr.mono (by omega)) (passes_call (takes_of rfl rfl rfl rfl) (fun _ _ _ _ h => h))))) pss_nil)
      (pss_cons (ps_set (i := 4) sc.nd rfl (Or.inl rfl) (pe_ifExp (pt_cmpR op_in_seq (pv 3) (pe_gref T.c_KINDS) rfl) (pe_g G__read_declaration (hr.mono (by omega)) (passes_call (takes_of rfl rfl rfl rfl) (fun _ _ _ _ h => h)) (pa_cons (pv 0) (pa_cons (pv 1) pa_nil))) (pe_g G__read_plain (hr.mono (by omega)) (passes_call (takes_of rfl rfl rfl rfl) (fun _ _ _ _ h => h)) (pa_cons (pv 0) (pa_cons (pv 1) pa_nil)))))
      (pss_cons (ps_expr (pe_gm (pv 0) T.cl_Cursor.c G_Cursor_want (hr.mono (by omega)) (passes_call (takes_of rfl rfl rfl rfl) (fun _ _ _ _ h => h)) (pa_cons pe_str pa_nil)))
      (pss_one (ps_ret (pv 4))))))))), ?_⟩
  cases f1 with
  | zero =>
    unfold stmt at h
    exact h.elim
  | succ m =>
  have hm : m ≤ BIG := Nat.le_of_succ_le hf
  have h' : Post (if 30 < d then ill r else if isStmt (hd r) = true then known m d r else if (isKind (hd r) && al) = true then ill r else if isKind (hd r) = true then decl m d r >>= fun r => want 49 r else Mir.plain m d r >>= fun r => want 49 r) (fun r' => ∀ v H', At K c l H H' r' → Q v H') (Bad (CB K) [c] H E) := by
    unfold stmt at h
    exact h
  refine ⟨_, rfl, _, _, rfl, rfl, _, rfl, ?_⟩
  by_cases hd30 : 30 < d
  · rw [if_pos hd30] at h'
    refine if_true_of (decide_eq_true (by omega)) ?_
    try dsimp only [L2.tNext, L2.tSeq, L2.tDrop, L2.tRet, L2.tIfS, L2.tAsg, L2.gName]
    refine ra_fail (fun Q q => ⟨_, rfl, q⟩) t h'
  rw [if_neg hd30] at h'
  refine if_false_of (decide_eq_false (by omega)) ?_
  have hc58 := wf58 t.w
  try dsimp only [L2.tNext, L2.tSeq, L2.tDrop, L2.tRet, L2.tIfS, L2.tAsg, L2.gName]
  refine ra_ahead (fun Q q => ⟨_, rfl, q⟩) t ?_
  have hb := stmt_is (hd r) hc58
  try dsimp only [L2.tNext, L2.tSeq, L2.tDrop, L2.tRet, L2.tIfS, L2.tAsg, L2.gName]
  refine tv_inKd rfl hc58 T.v_STATEMENTS (fun y => ?_) (fun y => ?_)
  · rw [← hb, if_pos y] at h'
    have hj0 : j ≠ 0 := by omega
    have call : ∀ (x : Str) (cs : List Nat), fSTATEMENTS (hd r) = some (.glo x) → hd r ∈ cs → Sst K j (He.ga K x) (spK K j cs) → tAsg (tOp (rIxD K w) (tC (.ref (He.ga K "STATEMENTS"))) (tVar 3)) (gName 5) { nx := tRet (tCallV 5 (Sst K j) E (tCons (tVar 0) (tCons (tVar 1) tNil))) { nx := fun _ H' => Q .non H', rt := Q }, rt := Q } [some (.ref c), some (.int (d : Int)), some (.bl al), some (.str (srt (hd r))), none, none] H := by
      intro x cs hx hin hS
      refine ⟨_, rfl, _, _, _, rfl, rfl, kd_of T.k_STATEMENTS T.v_STATEMENTS hc58 hx, ?_⟩
      refine ⟨He.ga K x, spK K j cs, rfl, hS, _, rfl, _, rfl, ?_⟩
      exact spG2.step (f := m) t ⟨hin, hj⟩ hm (post_pure h') fun r' v H' t' b' z => z _ _ t'
    by_cases c56 : hd r = 56
    · exact call "_read_braces" [56] (by rw [c56]; rfl) (by simp [c56]) ⟨hj0, .inl ⟨rfl, rfl⟩⟩
    by_cases c10 : hd r = 10
    · exact call "_read_if" [10] (by rw [c10]; rfl) (by simp [c10]) ⟨hj0, .inr (.inl ⟨rfl, rfl⟩)⟩
    by_cases c20 : hd r = 20
    · exact call "_read_return" [20] (by rw [c20]; rfl) (by simp [c20]) ⟨hj0, .inr (.inr (.inl ⟨rfl, rfl⟩))⟩
    by_cases c21 : hd r = 21
    · exact call "_read_told" [21] (by rw [c21]; rfl) (by simp [c21]) ⟨hj0, .inr (.inr (.inr ⟨rfl, rfl⟩))⟩
    exfalso
    cases m with
    | zero =>
      unfold known at h'
      exact h'
    | succ m =>
      unfold known at h'
      rw [if_neg c56, if_neg c10, if_neg c20, if_neg c21] at h'
      exact h'
  rw [← hb, y] at h'
  rw [if_neg Bool.false_ne_true] at h'
  have hk : decide (hd r ∈ [7, 8, 6]) = isKind (hd r) := by
    rw [Bool.eq_iff_iff, decide_eq_true_eq]
    exact kinds_is _
  try dsimp only [L2.tNext, L2.tSeq, L2.tDrop, L2.tRet, L2.tIfS, L2.tAsg, L2.gName]
  refine tv_in rfl hc58 [7, 8, 6] (by decide) (T.t_KINDS H) ?_
  rw [hk]
  have rest : Post (if isKind (hd r) = true then decl m d r >>= fun r => want 49 r else Mir.plain m d r >>= fun r => want 49 r) (fun r' => ∀ v H', At K c l H H' r' → Q v H') (Bad (CB K) [c] H E) → tAsg (tIf (tTest (tOp (rIn K false) (tVar 3) (tC (.ref (He.ga K "KINDS"))))) (tCallG (sp__read_declaration K) E (tCons (tVar 0) (tCons (tVar 1) tNil))) (tCallG (sp__read_plain K) E (tCons (tVar 0) (tCons (tVar 1) tNil)))) (gName 4) { nx := tSeq (tDrop (tMethG (CU K) "want" (sp_Cursor_want K) E (tVar 0) (tCons (tC (.str ";")) tNil))) (tRet (tVar 4)) { nx := fun _ H' => Q .non H', rt := Q }, rt := Q } [some (.ref c), some (.int (d : Int)), some (.bl al), some (.str (srt (hd r))), none, none] H := by
    intro h'
    try dsimp only [L2.tNext, L2.tSeq, L2.tDrop, L2.tRet, L2.tIfS, L2.tAsg, L2.gName]
    refine tv_in rfl hc58 [7, 8, 6] (by decide) (T.t_KINDS H) ?_
    rw [hk]
    cases yk : isKind (hd r) with
    | true =>
      rw [yk, if_pos rfl] at h'
      refine if_true_of rfl ?_
      refine ⟨_, rfl, _, rfl, spG2.step t yk hm h' fun r3 v3 H3 t3 b3 h3 => ?_⟩
      try dsimp only [L2.tNext, L2.tSeq, L2.tDrop, L2.tRet, L2.tIfS, L2.tAsg, L2.gName]
      refine ra_want (s := 49) (fun Q q => ⟨_, rfl, q⟩) (fun R q => q) (by decide) (by decide) t3 (post_pure h3) fun p4 z4 r4 H4 t4 b4 tk4 eq4 ez4 h4 => ?_
      exact ⟨_, rfl, h4 _ _ t4⟩
    | false =>
      rw [yk, if_neg Bool.false_ne_true] at h'
      refine if_false_of rfl ?_
      refine ⟨_, rfl, _, rfl, spG2.step t trivial hm h' fun r3 v3 H3 t3 b3 h3 => ?_⟩
      try dsimp only [L2.tNext, L2.tSeq, L2.tDrop, L2.tRet, L2.tIfS, L2.tAsg, L2.gName]
      refine ra_want (s := 49) (fun Q q => ⟨_, rfl, q⟩) (fun R q => q) (by decide) (by decide) t3 (post_pure h3) fun p4 z4 r4 H4 t4 b4 tk4 eq4 ez4 h4 => ?_
      exact ⟨_, rfl, h4 _ _ t4⟩
  cases yk : isKind (hd r) with
  | true =>
    refine if_true_of rfl ⟨_, rfl, _, rfl, ?_⟩
    cases al with
    | true =>
      rw [yk, if_pos rfl] at h'
      refine if_true_of rfl ?_
      try dsimp only [L2.tNext, L2.tSeq, L2.tDrop, L2.tRet, L2.tIfS, L2.tAsg, L2.gName]
      refine ra_fail (fun Q q => ⟨_, rfl, q⟩) t h'
    | false =>
      rw [Bool.and_false, if_neg Bool.false_ne_true] at h'
      exact if_false_of rfl (rest h')
  | false =>
    rw [yk, Bool.false_and, if_neg Bool.false_ne_true, ← yk] at h'
    exact if_false_of rfl (if_false_of rfl (rest h'))
theorem sc__read_braces : FnScope ["cursor", "depth", "place", "statements"] ["cursor", "depth"] (defScope s__read_braces) := ⟨rfl, rfl, rfl, by decide +kernel, rfl, by decide +kernel, by decide +kernel⟩
theorem g__read_braces (T : Txt K mg w) (G_Cursor_take : Gm P w K mg base CX0 1 (He.ga K "Cursor") "take" ["self"] (sp_Cursor_take K)) (G_read_statements : Gd P w K mg base (L2.CX P w) (20 + 5 * j + 1) "read_statements" ["cursor", "depth", "ends"] (sp_read_statements K j)) (G_Cursor_want : Gm P w K mg base (L2.CX P w) 3 (He.ga K "Cursor") "want" ["self", "sort"] (sp_Cursor_want K)) : Gd P w K mg base (L2.CX P w) (21 + 5 * j + 1) "_read_braces" ["cursor", "depth"] (sp__read_braces K (j + 1)) := by
  have sc := sc__read_braces
  refine T.d__read_braces.okX sc len2 (fun _ _ _ _ _ _ us hl => match us, hl with | [_, _], _ => rfl) (fun f cdv A outer s H vs Q E hr h => ?_)
  obtain ⟨x0, x1, rfl, h⟩ := h
  obtain ⟨c, l, r, f1, d, rfl, rfl, hf, t, ⟨hc, hj⟩, h⟩ := h
  refine ⟨_, (pss_cons (ps_set (i := 2) sc.nd rfl (Or.inl rfl) (pe_ix ix_tup (pe_gm0 (pv 0) T.cl_Cursor.c G_Cursor_take (hr.mono (by omega)) pass0) pe_int (fun _ _ => rfl)))
      (pss_cons (ps_set (i := 3) sc.nd rfl (Or.inl rfl) (pe_g G_read_statements (hr.mono (by omega)) (passes_call (takes_of rfl rfl rfl rfl) (fun _ _ _ _ h => h)) (pa_cons (pv 0) (pa_cons (pe_op op_add (pv 1) pe_int) (pa_cons (pe_tup (pa_cons pe_str pa_nil)) pa_nil)))))
      (pss_cons (ps_expr (pe_gm (pv 0) T.cl_Cursor.c G_Cursor_want (hr.mono (by omega)) (passes_call (takes_of rfl rfl rfl rfl) (fun _ _ _ _ h => h)) (pa_cons pe_str pa_nil)))
      (pss_one (ps_ret (pe_tup (pa_cons pe_str (pa_cons (pv 2) (pa_cons (pv 3) pa_nil))))))))), ?_⟩
  have hc2 : hd r = 56 := by simpa using hc
  cases f1 with
  | zero =>
    unfold known at h
    exact h.elim
  | succ m =>
  have hm : m ≤ BIG := Nat.le_of_succ_le hf
  have h' : Post (stmts m (d + 1) r.tail >>= fun r => want 57 r) (fun r' => ∀ v H', At K c l H H' r' → Q v H') (Bad (CB K) [c] H E) := by
    unfold known at h
    rw [if_pos hc2] at h
    exact h
  try dsimp only [L2.tNext, L2.tSeq, L2.tDrop, L2.tRet, L2.tIfS, L2.tAsg, L2.gName]
  refine ra_take (fun Q q => ⟨_, rfl, q⟩) t (by rw [hc2]; decide) fun p z H1 t1 b1 tk ez => ?_
  obtain ⟨w0, q0, g1, g2, g3⟩ := tk
  refine ⟨p, _, _, _, rfl, rfl, SqT.of g1, rfl, ?_⟩
  refine ⟨_, rfl, _, rfl, _, _, rfl, rfl, tup_le (by show 1 ≤ 4000000; decide), fun pe hpe => ?_⟩
  have t2 := t1.laid (o := .tup [.str (srt 57)]) hpe
  refine rx_stmts1 t2 upd_same hm hj h' fun r3 v3 H3 t3 b3 h3 => ?_
  try dsimp only [L2.tNext, L2.tSeq, L2.tDrop, L2.tRet, L2.tIfS, L2.tAsg, L2.gName]
  refine ra_want (s := 57) (fun Q q => ⟨_, rfl, q⟩) (fun R q => q) (by decide) (by decide) t3 (post_pure h3) fun p4 z4 r4 H4 t4 b4 tk4 eq4 ez4 h4 => ?_
  exact ⟨_, rfl, _, rfl, tup_le (by show 3 ≤ 4000000; decide), fun p2 hp2 => h4 _ _ (t4.laid hp2)⟩
theorem sc__read_if : FnScope ["cursor", "depth", "place", "test", "then", "other"] ["cursor", "depth"] (defScope s__read_if) := ⟨rfl, rfl, rfl, by decide +kernel, rfl, by decide +kernel, by decide +kernel⟩
theorem g__read_if (T : Txt K mg w) (G_Cursor_take : Gm P w K mg base CX0 1 (He.ga K "Cursor") "take" ["self"] (sp_Cursor_take K)) (G__read_test : Gd P w K mg base (L2.CX P w) 8 "_read_test" ["cursor", "depth"] (sp__read_test K)) (G__read_statement : Gd P w K mg base (L2.CX P w) (19 + 5 * j + 1) "_read_statement" ["cursor", "depth", "alone"] (sp__read_statement K j)) (G_Cursor_ahead : Gm P w K mg base CX0 1 (He.ga K "Cursor") "ahead" ["self"] (sp_Cursor_ahead K)) : Gd P w K mg base (L2.CX P w) (20 + 5 * j + 1) "_read_if" ["cursor", "depth"] (sp__read_if K (j + 1)) := by
  have sc := sc__read_if
  refine T.d__read_if.okX sc len2 (fun _ _ _ _ _ _ us hl => match us, hl with | [_, _], _ => rfl) (fun f cdv A outer s H vs Q E hr h => ?_)
  obtain ⟨x0, x1, rfl, h⟩ := h
  obtain ⟨c, l, r, f1, d, rfl, rfl, hf, t, ⟨hc, hj⟩, h⟩ := h
  refine ⟨_, (pss_cons (ps_set (i := 2) sc.nd rfl (Or.inl rfl) (pe_ix ix_tup (pe_gm0 (pv 0) T.cl_Cursor.c G_Cursor_take (hr.mono (by omega)) pass0) pe_int (fun _ _ => rfl)))
      (pss_cons (ps_set (i := 3) sc.nd rfl (Or.inl rfl) (pe_g G__read_test (hr.mono (by omega)) (passes_call (takes_of rfl rfl rfl rfl) (fun _ _ _ _ h => h)) (pa_cons (pv 0) (pa_cons (pv 1) pa_nil))))
      (pss_cons (ps_set (i := 4) sc.nd rfl (Or.inl rfl) (pe_g G__read_statement (hr.mono (by omega)) (passes_call (takes_of rfl rfl rfl rfl) (fun _ _ _ _ h => h)) (pa_cons (pv 0) (pa_cons (pe_op op_add (pv 1) pe_int) (pa_cons pe_bl pa_nil)))))
      (pss_cons (ps_set (i := 5) sc.nd rfl (Or.inl rfl) pe_non)
      (pss_cons (ps_if (pt_cmpR op_eq (pe_gm0 (pv 0) T.cl_Cursor.c G_Cursor_ahead (hr.mono (by omega)) pass0) pe_str (nomark _)) (pss_cons (ps_expr (pe_gm0 (pv 0) T.cl_Cursor.c G_Cursor_take (hr.mono (by omega)) pass0))
      (pss_one (ps_set (i := 5) sc.nd rfl (Or.inl rfl) (pe_g G__read_statement (hr.mono (by omega)) (passes_call (takes_of rfl rfl rfl rfl) (fun _ _ _ _ h => h)) (pa_cons (pv 0) (pa_cons (pe_op op_add (pv 1) pe_int) (pa_cons pe_bl pa_nil))))))) pss_nil)
      (pss_one (ps_ret (pe_tup (pa_cons pe_str (pa_cons (pv 2) (pa_cons (pv 3) (pa_cons (pv 4) (pa_cons (pv 5) pa_nil))))))))))))), ?_⟩
  have hc2 : hd r = 10 := by simpa using hc
  cases f1 with
  | zero =>
    unfold known at h
    exact h.elim
  | succ m =>
  have hm : m ≤ BIG := Nat.le_of_succ_le hf
  have h' : Post (test m d r.tail >>= fun r => stmt m (d + 1) true r >>= fun r => if hd r = 11 then stmt m (d + 1) true r.tail else pure r) (fun r' => ∀ v H', At K c l H H' r' → Q v H') (Bad (CB K) [c] H E) := by
    unfold known at h
    rw [if_neg (by rw [hc2]; decide), if_pos hc2] at h
    exact h
  try dsimp only [L2.tNext, L2.tSeq, L2.tDrop, L2.tRet, L2.tIfS, L2.tAsg, L2.gName]
  refine ra_take (fun Q q => ⟨_, rfl, q⟩) t (by rw [hc2]; decide) fun p z H1 t1 b1 tk ez => ?_
  obtain ⟨w0, q0, g1, g2, g3⟩ := tk
  refine ⟨p, _, _, _, rfl, rfl, SqT.of g1, rfl, ?_⟩
  refine ⟨_, rfl, _, rfl, spG2.step t1 trivial hm h' fun r3 v3 H3 t3 b3 h3 => ?_⟩
  refine ⟨_, rfl, _, rfl, _, _, rfl, rfl, rx_stmt1 t3 hm hj h3 fun r4 v4 H4 t4 b4 h4 => ?_⟩
  try dsimp only [L2.tNext, L2.tSeq, L2.tDrop, L2.tRet, L2.tIfS, L2.tAsg, L2.gName]
  refine un_C ?_
  try dsimp only [L2.tNext, L2.tSeq, L2.tDrop, L2.tRet, L2.tIfS, L2.tAsg, L2.gName]
  refine ra_eq (fun Q q => ⟨_, rfl, q⟩) t4 11 (by decide) rfl (fun y => ?_) (fun y => ?_)
  · rw [if_pos y] at h4
    try dsimp only [L2.tNext, L2.tSeq, L2.tDrop, L2.tRet, L2.tIfS, L2.tAsg, L2.gName]
    refine ra_take (fun Q q => ⟨_, rfl, q⟩) t4 (by rw [y]; decide) fun p5 z5 H5 t5 b5 tk5 ez5 => ?_
    refine ⟨_, rfl, _, rfl, _, _, rfl, rfl, rx_stmt1 t5 hm hj (post_pure h4) fun r6 v6 H6 t6 b6 h6 => ?_⟩
    exact ⟨_, rfl, _, rfl, _, rfl, _, rfl, tup_le (by show 5 ≤ 4000000; decide), fun p2 hp2 => h6 _ _ (t6.laid hp2)⟩
  · rw [if_neg y] at h4
    exact ⟨_, rfl, _, rfl, _, rfl, _, rfl, tup_le (by show 5 ≤ 4000000; decide), fun p2 hp2 => h4 _ _ (t4.laid hp2)⟩
theorem sc__read_return : FnScope ["cursor", "depth", "place", "value"] ["cursor", "depth"] (defScope s__read_return) := ⟨rfl, rfl, rfl, by decide +kernel, rfl, by decide +kernel, by decide +kernel⟩
theorem g__read_return (T : Txt K mg w) (G_Cursor_take : Gm P w K mg base CX0 1 (He.ga K "Cursor") "take" ["self"] (sp_Cursor_take K)) (G_Cursor_ahead : Gm P w K mg base CX0 1 (He.ga K "Cursor") "ahead" ["self"] (sp_Cursor_ahead K)) (G_read_expression : Gd P w K mg base (L2.CX P w) 7 "read_expression" ["cursor", "depth"] (sp_read_expression K)) (G_Cursor_want : Gm P w K mg base (L2.CX P w) 3 (He.ga K "Cursor") "want" ["self", "sort"] (sp_Cursor_want K)) : Gd P w K mg base (L2.CX P w) 8 "_read_return" ["cursor", "depth"] (sp__read_return K j) := by
  have sc := sc__read_return
  refine T.d__read_return.okX sc len2 (fun _ _ _ _ _ _ us hl => match us, hl with | [_, _], _ => rfl) (fun f cdv A outer s H vs Q E hr h => ?_)
  obtain ⟨x0, x1, rfl, h⟩ := h
  obtain ⟨c, l, r, f1, d, rfl, rfl, hf, t, ⟨hc, hj⟩, h⟩ := h
  refine ⟨_, (pss_cons (ps_set (i := 2) sc.nd rfl (Or.inl rfl) (pe_ix ix_tup (pe_gm0 (pv 0) T.cl_Cursor.c G_Cursor_take (hr.mono (by omega)) pass0) pe_int (fun _ _ => rfl)))
      (pss_cons (ps_set (i := 3) sc.nd rfl (Or.inl rfl) pe_non)
      (pss_cons (ps_if (pt_cmpR op_ne (pe_gm0 (pv 0) T.cl_Cursor.c G_Cursor_ahead (hr.mono (by omega)) pass0) pe_str (nomark _)) (pss_one (ps_set (i := 3) sc.nd rfl (Or.inl rfl) (pe_g G_read_expression (hr.mono (by omega)) (passes_call (takes_of rfl rfl rfl rfl) (fun _ _ _ _ h => h)) (pa_cons (pv 0) (pa_cons (pe_op op_add (pv 1) pe_int) pa_nil))))) pss_nil)
      (pss_cons (ps_expr (pe_gm (pv 0) T.cl_Cursor.c G_Cursor_want (hr.mono (by omega)) (passes_call (takes_of rfl rfl rfl rfl) (fun _ _ _ _ h => h)) (pa_cons pe_str pa_nil)))
      (pss_one (ps_ret (pe_tup (pa_cons pe_str (pa_cons (pv 2) (pa_cons (pv 3) pa_nil)))))))))), ?_⟩
  have hc2 : hd r = 20 := by simpa using hc
  cases f1 with
  | zero =>
    unfold known at h
    exact h.elim
  | succ m =>
  have h' : Post (if hd r.tail = 49 then want 49 r.tail else expr m (d + 1) r.tail >>= fun x => want 49 x.2) (fun r' => ∀ v H', At K c l H H' r' → Q v H') (Bad (CB K) [c] H E) := by
    unfold known at h
    rw [if_neg (by rw [hc2]; decide), if_neg (by rw [hc2]; decide), if_pos hc2] at h
    exact h
  try dsimp only [L2.tNext, L2.tSeq, L2.tDrop, L2.tRet, L2.tIfS, L2.tAsg, L2.gName]
  refine ra_take (fun Q q => ⟨_, rfl, q⟩) t (by rw [hc2]; decide) fun p z H1 t1 b1 tk ez => ?_
  obtain ⟨w0, q0, g1, g2, g3⟩ := tk
  refine ⟨p, _, _, _, rfl, rfl, SqT.of g1, rfl, ?_⟩
  try dsimp only [L2.tNext, L2.tSeq, L2.tDrop, L2.tRet, L2.tIfS, L2.tAsg, L2.gName]
  refine un_C ?_
  try dsimp only [L2.tNext, L2.tSeq, L2.tDrop, L2.tRet, L2.tIfS, L2.tAsg, L2.gName]
  refine ra_ne (fun Q q => ⟨_, rfl, q⟩) t1 49 (by decide) rfl (fun y => ?_) (fun y => ?_)
  · rw [if_pos y] at h'
    try dsimp only [L2.tNext, L2.tSeq, L2.tDrop, L2.tRet, L2.tIfS, L2.tAsg, L2.gName]
    refine ra_want (s := 49) (fun Q q => ⟨_, rfl, q⟩) (fun R q => q) (by decide) (by decide) t1 (post_pure h') fun p4 z4 r4 H4 t4 b4 tk4 eq4 ez4 h4 => ?_
    exact ⟨_, rfl, _, rfl, tup_le (by show 3 ≤ 4000000; decide), fun p2 hp2 => h4 _ _ (t4.laid hp2)⟩
  · rw [if_neg y] at h'
    refine ⟨_, rfl, _, rfl, _, _, rfl, rfl, rx_expr1 t1 h' fun b r3 v3 H3 t3 b3 rel3 h3 => ?_⟩
    try dsimp only [L2.tNext, L2.tSeq, L2.tDrop, L2.tRet, L2.tIfS, L2.tAsg, L2.gName]
    refine ra_want (s := 49) (fun Q q => ⟨_, rfl, q⟩) (fun R q => q) (by decide) (by decide) t3 (post_pure h3) fun p4 z4 r4 H4 t4 b4 tk4 eq4 ez4 h4 => ?_
    exact ⟨_, rfl, _, rfl, tup_le (by show 3 ≤ 4000000; decide), fun p2 hp2 => h4 _ _ (t4.laid hp2)⟩
theorem sc__read_told : FnScope ["cursor", "depth", "value", "sort", "_", "place"] ["cursor", "depth"] (defScope s__read_told) := ⟨rfl, rfl, rfl, by decide +kernel, rfl, by decide +kernel, by decide +kernel⟩
theorem g__read_told (T : Txt K mg w) (G_Cursor_take : Gm P w K mg base CX0 1 (He.ga K "Cursor") "take" ["self"] (sp_Cursor_take K)) (G__read_test : Gd P w K mg base (L2.CX P w) 8 "_read_test" ["cursor", "depth"] (sp__read_test K)) (G_Cursor_want : Gm P w K mg base (L2.CX P w) 3 (He.ga K "Cursor") "want" ["self", "sort"] (sp_Cursor_want K)) : Gd P w K mg base (L2.CX P w) 9 "_read_told" ["cursor", "depth"] (sp__read_told K j) := by
  have sc := sc__read_told
  refine T.d__read_told.okX sc len2 (fun _ _ _ _ _ _ us hl => match us, hl with | [_, _], _ => rfl) (fun f cdv A outer s H vs Q E hr h => ?_)
  obtain ⟨x0, x1, rfl, h⟩ := h
  obtain ⟨c, l, r, f1, d, rfl, rfl, hf, t, ⟨hc, hj⟩, h⟩ := h
  refine ⟨_, (pss_cons (ps_asg (pe_gm0 (pv 0) T.cl_Cursor.c G_Cursor_take (hr.mono (by omega)) pass0) (pg_tup rfl (pgs_cons (pg_name (i := 3) sc.nd rfl (Or.inl rfl)) (pgs_cons (pg_name (i := 4) sc.nd rfl (Or.inl rfl)) (pgs_cons (pg_name (i := 5) sc.nd rfl (Or.inl rfl)) pgs_nil)))))
      (pss_cons (ps_set (i := 2) sc.nd rfl (Or.inl rfl) (pe_g G__read_test (hr.mono (by omega)) (passes_call (takes_of rfl rfl rfl rfl) (fun _ _ _ _ h => h)) (pa_cons (pv 0) (pa_cons (pv 1) pa_nil))))
      (pss_cons (ps_expr (pe_gm (pv 0) T.cl_Cursor.c G_Cursor_want (hr.mono (by omega)) (passes_call (takes_of rfl rfl rfl rfl) (fun _ _ _ _ h => h)) (pa_cons pe_str pa_nil)))
      (pss_one (ps_ret (pe_tup (pa_cons (pv 3) (pa_cons (pv 5) (pa_cons (pv 2) pa_nil))))))))), ?_⟩
  have hc2 : hd r = 21 := by simpa using hc
  cases f1 with
  | zero =>
    unfold known at h
    exact h.elim
  | succ m =>
  have hm : m ≤ BIG := Nat.le_of_succ_le hf
  have h' : Post (test m d r.tail >>= fun r => want 49 r) (fun r' => ∀ v H', At K c l H H' r' → Q v H') (Bad (CB K) [c] H E) := by
    unfold known at h
    rw [if_neg (by rw [hc2]; decide), if_neg (by rw [hc2]; decide), if_neg (by rw [hc2]; decide), if_pos hc2] at h
    exact h
  try dsimp only [L2.tNext, L2.tSeq, L2.tDrop, L2.tRet, L2.tIfS, L2.tAsg, L2.gName]
  refine ra_take (fun Q q => ⟨_, rfl, q⟩) t (by rw [hc2]; decide) fun p z H1 t1 b1 tk ez => ?_
  obtain ⟨w0, q0, g1, g2, g3⟩ := tk
  refine ⟨p, _, rfl, SqT.of g1, rfl, _, _, rfl, _, _, rfl, _, _, rfl, rfl, ?_⟩
  refine ⟨_, rfl, _, rfl, spG2.step t1 trivial hm h' fun r3 v3 H3 t3 b3 h3 => ?_⟩
  try dsimp only [L2.tNext, L2.tSeq, L2.tDrop, L2.tRet, L2.tIfS, L2.tAsg, L2.gName]
  refine ra_want (s := 49) (fun Q q => ⟨_, rfl, q⟩) (fun R q => q) (by decide) (by decide) t3 (post_pure h3) fun p4 z4 r4 H4 t4 b4 tk4 eq4 ez4 h4 => ?_
  exact ⟨_, rfl, _, rfl, _, rfl, tup_le (by show 3 ≤ 4000000; decide), fun p2 hp2 => h4 _ _ (t4.laid hp2)⟩
end
end Rd

namespace Rd
open PySem PySem.Spec PyProof.Rows L2 My Mir
def rInSign : R2 := fun x y H Q => ∃ (c : Nat) (z : Str), x = .str ⟨#[c]⟩ ∧ y = .str z ∧ Q (.bl (decide (c ∈ z.cps.toList))) H
theorem t_al {σ : L2.St} {H : Hp} {i j n c : Nat} {z : Str} {R : Bool → Hp → Prop} (hi : σ[i]? = some (some (.str z))) (hj : σ[j]? = some (some (.int (n : Int)))) (hz : z.length ≤ sizeLine) (hc : z.cps.toList[n]? = some c) (h : R (isAl c) H) :
    tOr (tTest (tOp rInSign (tOp rIxS (tVar i) (tVar j)) (tC (.str LETs)))) (tTest (tOp rInSign (tOp rIxS (tVar i) (tVar j)) (tC (.str FIGs)))) σ H R := by
  refine ⟨_, hi, _, hj, z, _, c, rfl, rfl, hz, atI_nat hc, c, _, rfl, rfl, _, rfl, ?_⟩
  rw [← isAl_eq c] at h
  cases e : decide (c ∈ LETs.cps.toList) with
  | true =>
    rw [e] at h
    exact if_true_of rfl h
  | false =>
    rw [e] at h
    refine if_false_of rfl ?_
    exact ⟨_, hi, _, hj, z, _, c, rfl, rfl, hz, atI_nat hc, c, _, rfl, rfl, _, rfl, h⟩
theorem len_str {z : Str} : z.length = z.cps.toList.length := by simp [Str.length]
theorem cut_take {z : Str} {a n : Nat} (ha : a ≤ z.cps.toList.length) : cutS z (some (a : Int)) (some ((a : Int) + (n : Int))) = ⟨((z.cps.toList.drop a).take n).toArray⟩ := by
  unfold cutS
  have hl := @len_str z
  have e1 : HT.sIx z.length 0 (some (a : Int)) = a := by
    unfold HT.sIx
    simp only []
    split <;> omega
  have e2 : HT.sIx z.length z.length (some ((a : Int) + (n : Int))) = min (a + n) z.length := by
    unfold HT.sIx
    simp only []
    split <;> omega
  rw [e1, e2]
  congr 2
  rw [List.take_eq_take_iff, List.length_drop]
  omega
def sp__size_of (K : PySem.W.Frag) : Sp := sp2 fun x y H Q _ => ∃ (z : Str) (n : Nat), x = .str z ∧ y = .int (n : Int) ∧ n < z.cps.toList.length ∧ z.length ≤ 3000000 ∧ Q (.int (sizeR (z.cps.toList.drop n) : Int)) H
def sp__figures_read (K : PySem.W.Frag) : Sp := sp2 fun x y H Q _ => ∃ n : Nat, n < 2 ∧ x = .str ⟨#[48 + n]⟩ ∧ y = .str FIGs ∧ Q (.int (n : Int)) H
def sp__number_of (K : PySem.W.Frag) : Sp := sp1 fun x H Q _ => ∃ n : Nat, n < 2 ∧ x = .str ⟨#[48 + n]⟩ ∧ ∀ p, H p = none → Q (.ref p) (upd H p (.tup [.int (n : Int), .str "int"]))
def sp__sort_of (K : PySem.W.Frag) : Sp := sp1 fun x H Q _ => ∃ (w : List Nat) (k : Nat), x = .str ⟨w.toArray⟩ ∧ (w, k) ∈ voc ∧ ∀ (p : Addr) (v : V) (H' : Hp), ButL [] H H' → H' p = some (.tup [.str (srt k), v]) → (k = 2 → ∃ (u : Addr) (z : Int) (kd : V), v = .ref u ∧ H' u = some (.tup [.int z, kd])) → Q (.ref p) H'
theorem voc_is : ∀ q, q ∈ voc → ((q.2 ∈ [4, 7, 20, 21, 10, 11] ∨ q.2 ∈ [52, 53, 56, 57, 49, 35, 43, 36, 42]) ∧ (⟨q.1.toArray⟩ : Str) = srt q.2) ∨ (q.2 = 1 ∧ (q.1 = [109] ∨ q.1 = [109, 97, 105, 110])) ∨ (q.2 = 2 ∧ (q.1 = [48] ∨ q.1 = [49])) := by decide +kernel
theorem signs_in : ∀ k, k ∈ [52, 53, 56, 57, 49, 35, 43, 36, 42] → (!(Builtin.Str.occurrences ("+-*/&|^~!<>=?:;,.()[]{}" : Str) (srt k) 0 ("+-*/&|^~!<>=?:;,.()[]{}" : Str).length 1).isEmpty) = true := by decide +kernel
section
variable {P : Program} {w : World} {K : PySem.W.Frag} {mg : Str → Option Value} {base : Heap}
theorem sc__size_of : FnScope ["line", "at", "behind"] ["line", "at"] (defScope s__size_of) := ⟨rfl, rfl, rfl, by decide +kernel, rfl, by decide +kernel, by decide +kernel⟩
theorem g__size_of (T : Txt K mg w)  : Gd P w K mg base CX0 1 "_size_of" ["line", "at"] (sp__size_of K) := by
  have sc := sc__size_of
  refine T.d__size_of.ok sc len2 (fun _ _ _ _ _ _ us hl => match us, hl with | [_, _], _ => rfl) (fun f cdv A outer s H vs Q E hr h => ?_)
  obtain ⟨x0, x1, rfl, h⟩ := h
  obtain ⟨z, n, rfl, rfl, hn, hz, h⟩ := h
  refine ⟨_, (pss_cons (ps_if (PW.pt (pw_or (pt_cmpR op_in_sign (pe_ix ix_str (pv 0) (pv 1) (fun _ _ => rfl)) (pe_gstr T.c_LETTERS) rfl) (pw_or1 (pt_cmpR op_in_sign (pe_ix ix_str (pv 0) (pv 1) (fun _ _ => rfl)) (pe_gstr T.c_FIGURES) rfl)))) (pss_cons (ps_set (i := 2) sc.nd rfl (Or.inl rfl) (pe_op op_add (pv 1) pe_int))
      (pss_cons (ps_while PassesOwn.never (PW.pt (pw_and (pt_cmpR op_lt (pv 2) (pe_callB call_len_str (by rfl) T.n_len PySem.boot_len (pa_cons (pv 0) pa_nil)) (nomark _)) (pw_and1 (PW.pt (pw_or (pt_cmpR op_in_sign (pe_ix ix_str (pv 0) (pv 2) (fun _ _ => rfl)) (pe_gstr T.c_LETTERS) rfl) (pw_or1 (pt_cmpR op_in_sign (pe_ix ix_str (pv 0) (pv 2) (fun _ _ => rfl)) (pe_gstr T.c_FIGURES) rfl))))))) (pss_one (ps_aug (i := 2) sc.nd rfl (Or.inl rfl) pe_int ip_add)))
      (pss_one (ps_ret (pe_op op_sub (pv 2) (pv 1)))))) pss_nil)
      (pss_one (ps_ret (pe_ifExp (pt_cmpR op_in_seq (pe_slice sl_str (pv 0) (po_some (pv 1)) (po_some (pe_op op_add (pv 1) pe_int))) (pe_gref T.c_LONG_SIGNS) rfl) pe_int pe_int)))), ?_⟩
  have hzl : z.length ≤ sizeLine := tup_le (by omega)
  have hlen := @len_str z
  obtain ⟨c, hc⟩ : ∃ c, z.cps.toList[n]? = some c := ⟨_, List.getElem?_eq_getElem hn⟩
  have hd0 : z.cps.toList.drop n = c :: z.cps.toList.drop (n + 1) := by
    rw [List.drop_eq_getElem_cons hn]
    have := (List.getElem?_eq_some_iff.mp hc).2
    rw [this]
  refine t_al rfl rfl hzl hc ?_
  cases ha : isAl c with
  | true =>
    refine if_true_of rfl ?_
    refine ⟨_, rfl, _, _, rfl, rfl, ?_⟩
    have hs : sizeR (z.cps.toList.drop n) = wlen (z.cps.toList.drop n) := by
      rw [hd0]
      exact if_pos ha
    have hw0 : wlen (z.cps.toList.drop n) = wlen (z.cps.toList.drop (n + 1)) + 1 := by
      rw [hd0]
      exact if_pos ha
    refine ⟨fun m σ H' => H' = H ∧ ∃ b : Nat, σ = [some (.str z), some (.int (n : Int)), some (.int (b : Int))] ∧ n ≤ b ∧ b ≤ z.cps.toList.length ∧ m = z.cps.toList.length - b ∧ wlen (z.cps.toList.drop n) = (b - n) + wlen (z.cps.toList.drop b), ⟨_, rfl, n + 1, rfl, by omega, by omega, rfl, by rw [hw0]; omega⟩, ?_⟩
    rintro m σ H' ⟨rfl, b, rfl, h1, h2, rfl, h3⟩
    refine ⟨_, rfl, _, rfl, _, rfl, hzl, _, _, rfl, rfl, _, rfl, ?_⟩
    by_cases hb : b < z.cps.toList.length
    · refine if_true_of (decide_eq_true (by rw [hlen]; omega)) ?_
      obtain ⟨c', hc'⟩ : ∃ c, z.cps.toList[b]? = some c := ⟨_, List.getElem?_eq_getElem hb⟩
      have hd1 : z.cps.toList.drop b = c' :: z.cps.toList.drop (b + 1) := by
        rw [List.drop_eq_getElem_cons hb]
        have := (List.getElem?_eq_some_iff.mp hc').2
        rw [this]
      refine t_al rfl rfl hzl hc' ?_
      cases ha' : isAl c' with
      | true =>
        refine if_true_of rfl ⟨_, fun _ _ z => z, ?_⟩
        have hw1 : wlen (z.cps.toList.drop b) = wlen (z.cps.toList.drop (b + 1)) + 1 := by
          rw [hd1]
          exact if_pos ha'
        exact ⟨_, rfl, _, _, rfl, rfl, z.cps.toList.length - (b + 1), by omega, rfl, b + 1, rfl, by omega, by omega, rfl, by omega⟩
      | false =>
        refine if_false_of rfl ⟨_, rfl, _, rfl, _, _, rfl, rfl, ?_⟩
        have hw1 : wlen (z.cps.toList.drop b) = 0 := by
          rw [hd1]
          exact if_neg (by rw [ha']; exact Bool.false_ne_true)
        rw [hs, h3, hw1] at h
        have e : (((b - n) + 0 : Nat) : Int) = (b : Int) - (n : Int) := by omega
        rw [e] at h
        exact h
    · refine if_false_of (decide_eq_false (by rw [hlen]; omega)) ?_
      refine if_false_of rfl ⟨_, rfl, _, rfl, _, _, rfl, rfl, ?_⟩
      have hw1 : wlen (z.cps.toList.drop b) = 0 := by
        rw [List.drop_eq_nil_of_le (by omega)]
        rfl
      rw [hs, h3, hw1] at h
      have e : (((b - n) + 0 : Nat) : Int) = (b : Int) - (n : Int) := by omega
      rw [e] at h
      exact h
  | false =>
    refine if_false_of rfl ?_
    have hs : sizeR (z.cps.toList.drop n) = if isLong (z.cps.toList.drop n) = true then 2 else 1 := by
      rw [hd0]
      exact if_neg (by rw [ha]; exact Bool.false_ne_true)
    refine ⟨_, rfl, _, rfl, _, rfl, _, rfl, _, _, rfl, rfl, _, rfl, z, rfl, hzl, ?_⟩
    refine ⟨_, _, rfl, .inr (T.t_LONG_SIGNS H), rfl, rfl, _, rfl, ?_⟩
    have ct := cut_take (z := z) (a := n) (n := 2) (Nat.le_of_lt hn)
    show if (inV (.str (cutS z (some (n : Int)) (some ((n : Int) + ((2 : Nat) : Int))))) ([27, 28, 29, 30, 31, 32, 33, 34].map fun d => V.str (srt d))) = true then _ else _
    rw [ct, long_in]
    cases hl : isLong (z.cps.toList.drop n) with
    | true =>
      rw [hs, hl] at h
      exact if_true_of rfl h
    | false =>
      rw [hs, hl] at h
      exact if_false_of rfl h
theorem sc__figures_read : FnScope ["text", "figures", "number", "figure"] ["text", "figures"] (defScope s__figures_read) := ⟨rfl, rfl, rfl, by decide +kernel, rfl, by decide +kernel, by decide +kernel⟩
theorem g__figures_read (T : Txt K mg w)  : Gd P w K mg base CX0 1 "_figures_read" ["text", "figures"] (sp__figures_read K) := by
  have sc := sc__figures_read
  refine T.d__figures_read.ok sc len2 (fun _ _ _ _ _ _ us hl => match us, hl with | [_, _], _ => rfl) (fun f cdv A outer s H vs Q E hr h => ?_)
  obtain ⟨x0, x1, rfl, h⟩ := h
  obtain ⟨n, hn, rfl, rfl, h⟩ := h
  refine ⟨_, (pss_cons (ps_if (PW.pt (pw_or (pt_cmpR op_eq (pv 0) pe_str (nomark _)) (pw_or1 (pt_cmpR op_gt (pe_callB call_len_str (by rfl) T.n_len PySem.boot_len (pa_cons (pv 0) pa_nil)) (pe_gint T.c_MOST_FIGURES) (nomark _))))) (pss_one (ps_ret pe_non)) pss_nil)
      (pss_cons (ps_set (i := 2) sc.nd rfl (Or.inl rfl) pe_int)
      (pss_cons (ps_for PassesOwn.never rfl (pi_str (pv 0)) (pg_name (i := 3) sc.nd rfl (Or.inl rfl)) (pss_cons (ps_if (pt_cmpR op_notIn_sign (pv 3) (pv 1) rfl) (pss_one (ps_ret pe_non)) pss_nil)
      (pss_one (ps_set (i := 2) sc.nd rfl (Or.inl rfl) (pe_op op_add (pe_op op_mul (pv 2) (pe_callB call_len_str (by rfl) T.n_len PySem.boot_len (pa_cons (pv 1) pa_nil))) (pe_m1 PySem.F.slot_str_index PySem.F.type_str_index mt_sindex (pv 1) (pv 3)))))))
      (pss_one (ps_ret (pv 2)))))), ?_⟩
  have hn' : n = 0 ∨ n = 1 := by omega
  have h1 : decide (V.str (⟨#[48 + n]⟩ : Str) = V.str "") = false := by rcases hn' with rfl | rfl <;> decide +kernel
  refine ⟨_, rfl, rfl, _, rfl, if_false_of h1 ?_⟩
  refine ⟨_, rfl, _, rfl, tup_le (by show 1 ≤ 4000000; decide), _, _, rfl, rfl, _, rfl, if_false_of (by show decide ((10 : Int) < 1) = false; decide) ?_⟩
  refine ⟨_, rfl, _, rfl, ?_⟩
  refine ⟨fun i m σ H' => H' = H ∧ ((i = 0 ∧ m = 1 ∧ ∃ r, σ = [some (.str ⟨#[48 + n]⟩), some (.str FIGs), some (.int 0), r]) ∨ (i = 1 ∧ ∃ r, σ = [some (.str ⟨#[48 + n]⟩), some (.str FIGs), some (.int (n : Int)), r])), ⟨1, rfl, .inl ⟨rfl, rfl, _, rfl⟩⟩, ?_⟩
  rintro i m σ H' ⟨rfl, hi⟩
  rcases hi with ⟨rfl, rfl, r, rfl⟩ | ⟨rfl, r, rfl⟩
  · refine .inr ⟨(by show 0 < 1; decide), _, fun _ _ z => z, ?_⟩
    rintro x H2 ⟨rfl, c, hc, rfl⟩
    have hc2 : c = 48 + n := by
      have : (#[48 + n] : Array Nat)[0]? = some c := hc
      simpa using this.symm
    subst hc2
    refine ⟨_, rfl, _, rfl, _, _, rfl, rfl, _, rfl, if_false_of (by rcases hn' with rfl | rfl <;> decide +kernel) ?_⟩
    refine ⟨_, rfl, _, rfl, _, rfl, tup_le (by show 10 ≤ 4000000; decide), _, _, rfl, rfl, .inl ⟨by decide, by decide⟩, ?_⟩
    refine ⟨_, rfl, ⟨_, rfl⟩, _, rfl, _, _, n, [], rfl, rfl, (by rcases hn' with rfl | rfl <;> decide +kernel), _, _, rfl, rfl, 0, Nat.zero_lt_one, rfl, .inr ⟨rfl, some (.str ⟨#[48 + n]⟩), ?_⟩⟩
    rcases hn' with rfl | rfl <;> rfl
  · exact .inl ⟨Nat.le_refl _, _, rfl, h⟩
theorem sc__number_of : FnScope ["text", "body", "word"] ["text"] (defScope s__number_of) := ⟨rfl, rfl, rfl, by decide +kernel, rfl, by decide +kernel, by decide +kernel⟩
theorem g__number_of (T : Txt K mg w) (G__figures_read : Gd P w K mg base CX0 1 "_figures_read" ["text", "figures"] (sp__figures_read K)) : Gd P w K mg base CX0 2 "_number_of" ["text"] (sp__number_of K) := by
  have sc := sc__number_of
  refine T.d__number_of.ok sc len1 (fun _ _ _ _ _ _ us hl => match us, hl with | [_], _ => rfl) (fun f cdv A outer s H vs Q E hr h => ?_)
  obtain ⟨x0, rfl, h⟩ := h
  obtain ⟨n, hn, rfl, h⟩ := h
  refine ⟨_, (pss_cons (ps_set (i := 1) sc.nd rfl (Or.inl rfl) (pe_bm PySem.F.plainAttrs_str PySem.F.slot_str_removesuffix PySem.F.type_str_removesuffix mt_removesuffix (pv 0) (pa_cons pe_str pa_nil)))
      (pss_cons (ps_if (pt_val (pe_m1 PySem.F.slot_str_startswith PySem.F.type_str_startswith mt_startswith (pv 1) pe_str)) (pss_one (ps_set (i := 2) sc.nd rfl (Or.inl rfl) (pe_g G__figures_read (hr.mono (by omega)) pass0 (pa_cons (pe_slice sl_str (pv 1) (po_some pe_int) po_none) (pa_cons (pe_gstr T.c_SMALL_FIGURES) pa_nil))))) (pss_one (ps_if (PW.pt (pw_and (pt_val (pe_m1 PySem.F.slot_str_startswith PySem.F.type_str_startswith mt_startswith (pv 1) pe_str)) (pw_and1 (pt_cmpR op_ne (pv 1) pe_str (nomark _))))) (pss_one (ps_set (i := 2) sc.nd rfl (Or.inl rfl) pe_non)) (pss_one (ps_set (i := 2) sc.nd rfl (Or.inl rfl) (pe_g G__figures_read (hr.mono (by omega)) pass0 (pa_cons (pv 1) (pa_cons (pe_gstr T.c_FIGURES) pa_nil))))))))
      (pss_cons (ps_if (PW.pt (pw_or (pt_cmpR op_isN (pv 2) pe_non (nomark _)) (pw_or1 (pt_cmpR op_gt (pv 2) (pe_gint T.c_GREATEST) (nomark _))))) (pss_one (ps_ret pe_non)) pss_nil)
      (pss_one (ps_ret (pe_tup (pa_cons (pv 2) (pa_cons (pe_ifExp (PW.pt (pw_or (pt_cmpR op_ne (pv 1) (pv 0) (nomark _)) (pw_or1 (pt_cmpR op_ge (pv 2) (pe_gint T.c_HALF) (nomark _))))) pe_str pe_str) pa_nil)))))))), ?_⟩
  have hn' : n = 0 ∨ n = 1 := by omega
  refine ⟨_, rfl, rfl, _, _, rfl, rfl, tup_le (by show 1 ≤ 4000000; decide), ?_⟩
  have e1 : Txt.removesuffix (⟨#[48 + n]⟩ : Str) "u" = ⟨#[48 + n]⟩ := by rcases hn' with rfl | rfl <;> decide +kernel
  rw [e1]
  have e2 : Txt.startswith (⟨#[48 + n]⟩ : Str) "0x" = false := by rcases hn' with rfl | rfl <;> decide +kernel
  refine ⟨_, rfl, ⟨_, rfl⟩, _, _, rfl, rfl, _, rfl, if_false_of e2 ?_⟩
  by_cases h0 : n = 0
  · have e3 : Txt.startswith (⟨#[48 + n]⟩ : Str) "0" = true := by subst h0; decide +kernel
    have e4 : (!decide (V.str (⟨#[48 + n]⟩ : Str) = V.str "0")) = false := by subst h0; decide +kernel
    refine ⟨_, rfl, ⟨_, rfl⟩, _, _, rfl, rfl, _, rfl, if_true_of e3 ⟨_, rfl, rfl, _, rfl, if_false_of e4 ?_⟩⟩
    refine ⟨_, rfl, _, _, rfl, n, hn, rfl, rfl, ?_⟩
    refine ⟨_, rfl, rfl, _, rfl, if_false_of rfl ⟨_, rfl, _, _, rfl, rfl, _, rfl, if_false_of (decide_eq_false (by omega)) ?_⟩⟩
    refine ⟨_, rfl, _, rfl, _, rfl, rfl, _, rfl, ?_⟩
    refine if_false_of (by simp) ⟨_, rfl, _, _, rfl, rfl, _, rfl, if_false_of (decide_eq_false (by omega)) ⟨tup_le (by show 2 ≤ 4000000; decide), h⟩⟩
  · have e3 : Txt.startswith (⟨#[48 + n]⟩ : Str) "0" = false := by
      have : n = 1 := by omega
      subst this; decide +kernel
    refine ⟨_, rfl, ⟨_, rfl⟩, _, _, rfl, rfl, _, rfl, if_false_of e3 (if_false_of rfl ?_)⟩
    refine ⟨_, rfl, _, _, rfl, n, hn, rfl, rfl, ?_⟩
    refine ⟨_, rfl, rfl, _, rfl, if_false_of rfl ⟨_, rfl, _, _, rfl, rfl, _, rfl, if_false_of (decide_eq_false (by omega)) ?_⟩⟩
    refine ⟨_, rfl, _, rfl, _, rfl, rfl, _, rfl, ?_⟩
    refine if_false_of (by simp) ⟨_, rfl, _, _, rfl, rfl, _, rfl, if_false_of (decide_eq_false (by omega)) ⟨tup_le (by show 2 ≤ 4000000; decide), h⟩⟩
theorem sc__sort_of : FnScope ["text", "number"] ["text"] (defScope s__sort_of) := ⟨rfl, rfl, rfl, by decide +kernel, rfl, by decide +kernel, by decide +kernel⟩
theorem g__sort_of (T : Txt K mg w) (G__number_of : Gd P w K mg base CX0 2 "_number_of" ["text"] (sp__number_of K)) : Gd P w K mg base CX0 3 "_sort_of" ["text"] (sp__sort_of K) := by
  have sc := sc__sort_of
  refine T.d__sort_of.ok sc len1 (fun _ _ _ _ _ _ us hl => match us, hl with | [_], _ => rfl) (fun f cdv A outer s H vs Q E hr h => ?_)
  obtain ⟨x0, rfl, h⟩ := h
  obtain ⟨w, k, rfl, hv, h⟩ := h
  obtain ⟨es1, n1, kd_OWN_WORDS⟩ := T.k_OWN_WORDS
  refine ⟨_, (pss_cons (ps_if (PW.pt (pw_or (pt_cmpR (op_in_kd kd_OWN_WORDS) (pv 0) (pe_gref T.c_OWN_WORDS) rfl) (pw_or (pt_cmpR op_in_seq (pv 0) (pe_gref T.c_LONG_SIGNS) rfl) (pw_or1 (pt_cmpR op_in_str (pv 0) (pe_gstr T.c_SHORT_SIGNS) rfl))))) (pss_one (ps_ret (pe_tup (pa_cons (pv 0) (pa_cons pe_str pa_nil))))) pss_nil)
      (pss_cons (ps_if (PW.pt (pw_and (pt_cmpR op_in_str (pe_ix ix_str (pv 0) pe_int (fun _ _ => rfl)) (pe_gstr T.c_LETTERS) rfl) (pw_and1 (pt_cmpR op_le (pe_callB call_len_str (by rfl) T.n_len PySem.boot_len (pa_cons (pv 0) pa_nil)) (pe_gint T.c_MOST_SIGNS) (nomark _))))) (pss_one (ps_ret (pe_tup (pa_cons (pe_gstr T.c_NAME) (pa_cons (pv 0) pa_nil))))) pss_nil)
      (pss_cons (ps_if (pt_cmpR op_in_str (pe_ix ix_str (pv 0) pe_int (fun _ _ => rfl)) (pe_gstr T.c_FIGURES) rfl) (pss_cons (ps_set (i := 1) sc.nd rfl (Or.inl rfl) (pe_g G__number_of (hr.mono (by omega)) pass0 (pa_cons (pv 0) pa_nil)))
      (pss_one (ps_if (pt_cmpR op_notN (pv 1) pe_non (nomark _)) (pss_one (ps_ret (pe_tup (pa_cons (pe_gstr T.c_NUMBER) (pa_cons (pv 1) pa_nil))))) pss_nil))) pss_nil)
      (pss_one (ps_ret (pe_tup (pa_cons (pe_gstr T.c_WRONG) (pa_cons pe_str pa_nil)))))))), ?_⟩
  have out : ∀ x, x ∈ (["m", "main", "0", "1"] : List Str) → inV (V.str x) ([27, 28, 29, 30, 31, 32, 33, 34].map fun d => V.str (srt d)) = false ∧ (!(Builtin.Str.occurrences ("+-*/&|^~!<>=?:;,.()[]{}" : Str) x 0 ("+-*/&|^~!<>=?:;,.()[]{}" : Str).length 1).isEmpty) = false := by decide +kernel
  rcases voc_is _ hv with ⟨hk, hw⟩ | ⟨hk, hw⟩ | ⟨hk, hw⟩
  · have hw' : (⟨w.toArray⟩ : Str) = srt k := hw
    have hk' : k ∈ [4, 7, 20, 21, 10, 11] ∨ k ∈ [52, 53, 56, 57, 49, 35, 43, 36, 42] := hk
    have hk58 : k < 58 := by
      have : ∀ k, (k ∈ [4, 7, 20, 21, 10, 11] ∨ k ∈ [52, 53, 56, 57, 49, 35, 43, 36, 42]) → k < 58 := by
        intro k h
        simp only [List.mem_cons, List.mem_nil_iff, or_false] at h
        omega
      exact this k hk'
    have hk2 : k ≠ 2 := by
      intro z; subst z; simp at hk'
    rw [hw']
    obtain ⟨u, hu, hs⟩ := in_kd T.v_OWN_WORDS hk58
    refine ⟨_, rfl, _, u, rfl, rfl, hu, _, rfl, ?_⟩
    have ret : ∀ p, H p = none → Q (.ref p) (upd H p (.tup [.str (srt k), .str ""])) := fun p hp => h p _ _ (ButL.new hp) upd_same (fun z => absurd z hk2)
    rw [hs]
    rcases hk' with hk' | hk'
    · have e : (fOWN k).isSome = true := by
        have : ∀ k, k ∈ [4, 7, 20, 21, 10, 11] → (fOWN k).isSome = true := by decide
        exact this k hk'
      refine if_true_of e (if_true_of rfl ⟨_, rfl, tup_le (by show 2 ≤ 4000000; decide), ret⟩)
    · have e : (fOWN k).isSome = false ∧ ¬ k ∈ [27, 28, 29, 30, 31, 32, 33, 34] := by
        have : ∀ k, k ∈ [52, 53, 56, 57, 49, 35, 43, 36, 42] → (fOWN k).isSome = false ∧ ¬ k ∈ [27, 28, 29, 30, 31, 32, 33, 34] := by decide
        exact this k hk'
      refine if_false_of e.1 ⟨_, rfl, _, _, rfl, .inr (T.t_LONG_SIGNS H), rfl, rfl, _, rfl, ?_⟩
      have e2 : inV (V.str (srt k)) ([27, 28, 29, 30, 31, 32, 33, 34].map fun d => V.str (srt d)) = false := by
        rw [inV_srt hk58 _ (by decide)]
        exact decide_eq_false e.2
      refine if_false_of e2 ⟨_, rfl, _, _, rfl, rfl, _, rfl, if_true_of (signs_in k hk') ⟨_, rfl, tup_le (by show 2 ≤ 4000000; decide), ret⟩⟩
  · have hk2 : k = 1 := hk
    subst hk2
    have ret : ∀ p, H p = none → Q (.ref p) (upd H p (.tup [.str (srt 1), .str ⟨w.toArray⟩])) := fun p hp => h p _ _ (ButL.new hp) upd_same (fun z => absurd z (by decide))
    rcases hw with hw | hw
    · have hw' : w = [109] := hw
      subst hw'
      have o := out (⟨[109].toArray⟩ : Str) (by decide +kernel)
      refine ⟨_, rfl, _, none, rfl, rfl, T.o_OWN _ (by decide +kernel), _, rfl, if_false_of rfl ⟨_, rfl, _, _, rfl, .inr (T.t_LONG_SIGNS H), rfl, rfl, _, rfl, if_false_of o.1 ⟨_, rfl, _, _, rfl, rfl, _, rfl, if_false_of o.2 ?_⟩⟩⟩
      refine ⟨_, rfl, _, 0, 109, rfl, rfl, tup_le (by show 1 ≤ 4000000; decide), rfl, _, _, rfl, rfl, _, rfl, if_true_of (by decide +kernel) ?_⟩
      exact ⟨_, rfl, _, rfl, tup_le (by show 1 ≤ 4000000; decide), _, _, rfl, rfl, _, rfl, if_true_of (by decide +kernel) ⟨_, rfl, tup_le (by show 2 ≤ 4000000; decide), ret⟩⟩
    · have hw' : w = [109, 97, 105, 110] := hw
      subst hw'
      have o := out (⟨[109, 97, 105, 110].toArray⟩ : Str) (by decide +kernel)
      refine ⟨_, rfl, _, none, rfl, rfl, T.o_OWN _ (by decide +kernel), _, rfl, if_false_of rfl ⟨_, rfl, _, _, rfl, .inr (T.t_LONG_SIGNS H), rfl, rfl, _, rfl, if_false_of o.1 ⟨_, rfl, _, _, rfl, rfl, _, rfl, if_false_of o.2 ?_⟩⟩⟩
      refine ⟨_, rfl, _, 0, 109, rfl, rfl, tup_le (by show 4 ≤ 4000000; decide), rfl, _, _, rfl, rfl, _, rfl, if_true_of (by decide +kernel) ?_⟩
      exact ⟨_, rfl, _, rfl, tup_le (by show 4 ≤ 4000000; decide), _, _, rfl, rfl, _, rfl, if_true_of (by decide +kernel) ⟨_, rfl, tup_le (by show 2 ≤ 4000000; decide), ret⟩⟩
  · have hk2 : k = 2 := hk
    subst hk2
    have hn : ∃ n, n < 2 ∧ w = [48 + n] := by
      rcases hw with hw | hw
      · exact ⟨0, by decide, hw⟩
      · exact ⟨1, by decide, hw⟩
    obtain ⟨n, hn, hw'⟩ := hn
    subst hw'
    have hn' : n = 0 ∨ n = 1 := by omega
    have o := out (⟨[48 + n].toArray⟩ : Str) (by rcases hn' with rfl | rfl <;> decide +kernel)
    refine ⟨_, rfl, _, none, rfl, rfl, T.o_OWN _ (by rcases hn' with rfl | rfl <;> decide +kernel), _, rfl, if_false_of rfl ⟨_, rfl, _, _, rfl, .inr (T.t_LONG_SIGNS H), rfl, rfl, _, rfl, if_false_of o.1 ⟨_, rfl, _, _, rfl, rfl, _, rfl, if_false_of o.2 ?_⟩⟩⟩
    refine ⟨_, rfl, _, 0, 48 + n, rfl, rfl, tup_le (by show 1 ≤ 4000000; decide), rfl, _, _, rfl, rfl, _, rfl, if_false_of (by rcases hn' with rfl | rfl <;> decide +kernel) (if_false_of rfl ?_)⟩
    refine ⟨_, rfl, _, 0, 48 + n, rfl, rfl, tup_le (by show 1 ≤ 4000000; decide), rfl, _, _, rfl, rfl, _, rfl, if_true_of (by rcases hn' with rfl | rfl <;> decide +kernel) ?_⟩
    refine ⟨_, rfl, _, rfl, n, hn, rfl, fun p hp => ?_⟩
    refine ⟨_, rfl, rfl, _, rfl, if_true_of rfl ⟨_, rfl, tup_le (by show 2 ≤ 4000000; decide), fun p2 hp2 => ?_⟩⟩
    exact h p2 _ _ ((ButL.new hp).trans (ButL.new hp2)) upd_same (fun _ => ⟨p, _, _, rfl, by rw [upd_ne (ne_of_none upd_same hp2)]; exact upd_same⟩)
end
end Rd

namespace Rd
open PySem PySem.Spec PyProof.Rows L2 My Mir
def sp__pieces_in (K : PySem.W.Frag) : Sp := sp2 fun x y H Q _ => ∃ (z : Str) (num f : Nat) (ts : List (Nat × Nat)), x = .str z ∧ y = .int (num : Int) ∧ f ≤ BIG ∧ z.length ≤ 1000000 ∧ lexL f z.cps.toList 1 = some ts ∧
  ∀ (q : Addr) (ps : List Addr) (H' : Hp), ButL [] H H' → H q = none → H' q = some (.lst (ps.map V.ref)) → Tks H' ps (ts.map fun t => (t.1, num, t.2)) → Q (.ref q) H'
def sp_pieces_of (K : PySem.W.Frag) : Sp := sp1 fun x H Q _ => ∃ (z : Str) (f : Nat) (r : List Pc), x = .str z ∧ f ≤ BIG ∧ 1 ≤ z.length ∧ z.length ≤ 1000000 ∧ r.length ≤ 1000000 ∧ (linesL z.cps.toList).length ≤ 1000000 ∧ (∀ l, l ∈ linesL z.cps.toList → l.length ≤ 1000000) ∧ lexT f z.cps.toList = some r ∧
  ∀ (q : Addr) (ps : List Addr) (H' : Hp), ButL [] H H' → H' q = some (.lst (ps.map V.ref)) → Tks H' ps r → Q (.ref q) H'
theorem Tks.len {H : Hp} : ∀ {ps : List Addr} {ts : List Pc}, Tks H ps ts → ps.length = ts.length
  | [], [], _ => rfl
  | p :: ps, t :: ts, x => congrArg Nat.succ (Tks.len x.2)
  | [], _ :: _, x => x.elim
  | _ :: _, [], x => x.elim
theorem Tks.app {H : Hp} : ∀ {ps qs : List Addr} {ts us : List Pc}, Tks H ps ts → Tks H qs us → Tks H (ps ++ qs) (ts ++ us)
  | [], _, [], _, _, y => y
  | p :: ps, _, t :: ts, _, x, y => ⟨x.1, Tks.app x.2 y⟩
  | [], _, _ :: _, _, x, _ => x.elim
  | _ :: _, _, [], _, x, _ => x.elim
theorem lexL_len : ∀ (f : Nat) (r : List Nat) (col : Nat) (ts : List (Nat × Nat)), lexL f r col = some ts → ts.length + 1 ≤ f
  | 0, _, _, _, h => by cases h
  | f + 1, [], _, ts, h => by
    have : ts = [] := (Option.some.inj h).symm
    subst this
    exact Nat.succ_le_succ (Nat.zero_le _)
  | f + 1, c :: t, col, ts, h => by
    unfold lexL at h
    split at h
    · exact Nat.le_succ_of_le (lexL_len f _ _ _ h)
    · split at h
      · cases h
      · split at h
        · cases h
        · rename_i k hk
          cases e : lexL f ((c :: t).drop (sizeR (c :: t))) (col + sizeR (c :: t)) with
          | none => rw [e] at h; cases h
          | some us =>
            rw [e] at h
            have : ts = (k, col) :: us := (Option.some.inj h).symm
            subst this
            exact Nat.succ_le_succ (lexL_len f _ _ _ e)
theorem starts_no {z : Str} {n c : Nat} (hc : z.cps.toList[n]? = some c) (h : c ≠ 47) : Txt.startswith3 z "//" (n : Int) = false := by
  have hl : n < z.length := by
    have := (List.getElem?_eq_some_iff.mp hc).1
    rw [len_str]; exact this
  have h47 : ("//" : Str).cps.toList = [47, 47] := by decide +kernel
  have hi : PySem.fromIndex z.length (n : Int) = n := by
    unfold PySem.fromIndex
    split <;> omega
  unfold Txt.startswith3
  rw [hi, Bool.and_eq_false_iff]
  right
  rw [StrLaws.subAt_eq, h47]
  have hl2 : n < z.cps.toList.length := (List.getElem?_eq_some_iff.mp hc).1
  rw [List.drop_eq_getElem_cons hl2]
  have hc' := (List.getElem?_eq_some_iff.mp hc).2
  rw [hc']
  have : ("//" : Str).length = 2 := by decide +kernel
  rw [this]
  simp [h]
theorem partsL_ne (cs : List Nat) (a : Nat) : ∀ cuts, partsL cs a cuts ≠ []
  | [], h => by cases h
  | _ :: _, h => by cases h
theorem wlen_le : ∀ r, wlen r ≤ r.length
  | [] => Nat.le_refl _
  | c :: t => by
    by_cases h : isAl c = true
    · rw [show wlen (c :: t) = wlen t + 1 from if_pos h]
      exact Nat.succ_le_succ (wlen_le t)
    · rw [show wlen (c :: t) = 0 from if_neg h]
      exact Nat.zero_le _
theorem sizeR_le : ∀ r, sizeR r ≤ r.length
  | [] => Nat.le_refl _
  | c :: t => by
    by_cases h : isAl c = true
    · rw [show sizeR (c :: t) = wlen (c :: t) from if_pos h]
      exact wlen_le _
    · rw [show sizeR (c :: t) = if isLong (c :: t) = true then 2 else 1 from if_neg h]
      by_cases h2 : isLong (c :: t) = true
      · rw [if_pos h2]
        match t, h2 with
        | b :: u, _ => exact Nat.succ_le_succ (Nat.succ_le_succ (Nat.zero_le _))
      · rw [if_neg h2]
        exact Nat.succ_le_succ (Nat.zero_le _)
section
variable {P : Program} {w : World} {K : PySem.W.Frag} {mg : Str → Option Value} {base : Heap}
theorem sc__pieces_in : FnScope ["line", "number", "pieces", "at", "size", "sort", "worth"] ["line", "number"] (defScope s__pieces_in) := ⟨rfl, rfl, rfl, by decide +kernel, rfl, by decide +kernel, by decide +kernel⟩
theorem g__pieces_in (T : Txt K mg w) (G__size_of : Gd P w K mg base CX0 1 "_size_of" ["line", "at"] (sp__size_of K)) (G__sort_of : Gd P w K mg base CX0 3 "_sort_of" ["text"] (sp__sort_of K)) : Gd P w K mg base CX0 4 "_pieces_in" ["line", "number"] (sp__pieces_in K) := by
  have sc := sc__pieces_in
  refine T.d__pieces_in.ok sc len2 (fun _ _ _ _ _ _ us hl => match us, hl with | [_, _], _ => rfl) (fun f cdv A outer s H vs Q E hr h => ?_)
  obtain ⟨x0, x1, rfl, h⟩ := h
  obtain ⟨z, num, f1, ts, rfl, rfl, hf, hz, hlex, h⟩ := h
  refine ⟨_, (pss_cons (ps_set (i := 2) sc.nd rfl (Or.inl rfl) (pe_lst pa_nil))
      (pss_cons (ps_set (i := 3) sc.nd rfl (Or.inl rfl) pe_int)
      (pss_cons (ps_while PassesOwn.never (PW.pt (pw_and (pt_cmpR op_lt (pv 3) (pe_callB call_len_str (by rfl) T.n_len PySem.boot_len (pa_cons (pv 0) pa_nil)) (nomark _)) (pw_and1 (pt_not (pt_val (pe_bm PySem.F.plainAttrs_str PySem.F.slot_str_startswith PySem.F.type_str_startswith mt_startswith3 (pv 0) (pa_cons pe_str (pa_cons (pv 3) pa_nil)))))))) (pss_one (ps_if (pt_cmpR op_eq (pe_ix ix_str (pv 0) (pv 3) (fun _ _ => rfl)) pe_str (nomark _)) (pss_one (ps_aug (i := 3) sc.nd rfl (Or.inl rfl) pe_int ip_add)) (pss_cons (ps_set (i := 4) sc.nd rfl (Or.inl rfl) (pe_g G__size_of (hr.mono (by omega)) pass0 (pa_cons (pv 0) (pa_cons (pv 3) pa_nil))))
      (pss_cons (ps_asg (pe_g G__sort_of (hr.mono (by omega)) pass0 (pa_cons (pe_slice sl_str (pv 0) (po_some (pv 3)) (po_some (pe_op op_add (pv 3) (pv 4)))) pa_nil)) (pg_tup rfl (pgs_cons (pg_name (i := 5) sc.nd rfl (Or.inl rfl)) (pgs_cons (pg_name (i := 6) sc.nd rfl (Or.inl rfl)) pgs_nil))))
      (pss_cons (ps_expr (pe_bm PySem.F.plainAttrs_list PySem.F.slot_list_append PySem.F.type_list_append mt_append (pv 2) (pa_cons (pe_tup (pa_cons (pv 5) (pa_cons (pv 6) (pa_cons (pe_tup (pa_cons (pv 1) (pa_cons (pe_op op_add (pv 3) pe_int) pa_nil))) pa_nil)))) pa_nil)))
      (pss_one (ps_aug (i := 3) sc.nd rfl (Or.inl rfl) (pv 4) ip_add))))))))
      (pss_one (ps_ret (pv 2)))))), ?_⟩
  have hzl : z.length ≤ sizeLine := tup_le (by omega)
  have hlen := @len_str z
  refine ⟨Nat.zero_le _, fun q hq => ?_⟩
  have hts := lexL_len _ _ _ _ hlex
  refine ⟨fun m σ H' => ∃ (n : Nat) (rest : List (Nat × Nat)) (done : List Pc) (ps : List Addr) (r4 r5 r6 : Option V), σ = [some (.str z), some (.int (num : Int)), some (.ref q), some (.int (n : Int)), r4, r5, r6] ∧ n ≤ z.cps.toList.length ∧ lexL m (z.cps.toList.drop n) (n + 1) = some rest ∧
    (ts.map fun t => (t.1, num, t.2)) = done ++ (rest.map fun t => (t.1, num, t.2)) ∧ H' q = some (.lst (ps.map V.ref)) ∧ Tks H' ps done ∧ ButL [] H H', ⟨f1, 0, ts, [], [], none, none, none, rfl, Nat.zero_le _, by simpa using hlex, rfl, upd_same, trivial, ButL.new hq⟩, ?_⟩
  rintro m σ H' ⟨n, rest, done, ps, r4, r5, r6, rfl, hn, hl, hall, hq', htk, hb⟩
  refine ⟨_, rfl, _, rfl, _, rfl, hzl, _, _, rfl, rfl, _, rfl, ?_⟩
  cases m with
  | zero => cases hl
  | succ m =>
  by_cases hlt : n < z.cps.toList.length
  · refine if_true_of (decide_eq_true (by rw [hlen]; omega)) ?_
    obtain ⟨c, hc⟩ : ∃ c, z.cps.toList[n]? = some c := ⟨_, List.getElem?_eq_getElem hlt⟩
    have hd0 : z.cps.toList.drop n = c :: z.cps.toList.drop (n + 1) := by
      rw [List.drop_eq_getElem_cons hlt]
      have := (List.getElem?_eq_some_iff.mp hc).2
      rw [this]
    have hl2 : (if c = 32 then lexL m (z.cps.toList.drop (n + 1)) (n + 1 + 1) else if c = 47 then none else match codeOf ((z.cps.toList.drop n).take (sizeR (z.cps.toList.drop n))) with
        | none => none
        | some k => (lexL m ((z.cps.toList.drop n).drop (sizeR (z.cps.toList.drop n))) (n + 1 + sizeR (z.cps.toList.drop n))).map ((k, n + 1) :: ·)) = some rest := by
      rw [hd0] at hl ⊢
      exact hl
    have hc47 : c ≠ 47 := by
      intro z47
      subst z47
      rw [if_neg (by decide), if_pos rfl] at hl2
      cases hl2
    refine ⟨_, rfl, rfl, _, rfl, _, _, _, rfl, rfl, _, rfl, ?_⟩
    have e3 := starts_no hc hc47
    show if (!Txt.startswith3 z "//" (n : Int)) = true then _ else _
    rw [e3]
    refine if_true_of rfl ⟨_, fun _ _ z => z, ?_⟩
    refine ⟨_, rfl, _, rfl, z, _, c, rfl, rfl, hzl, atI_nat hc, rfl, _, rfl, ?_⟩
    have e4 : decide (V.str (⟨#[c]⟩ : Str) = V.str " ") = decide (c = 32) := by
      have e5 : (" " : Str) = ⟨#[32]⟩ := by decide +kernel
      rw [e5, Bool.eq_iff_iff, decide_eq_true_eq, decide_eq_true_eq]
      constructor
      · intro z
        have z2 := V.str.inj z
        have z3 := congrArg (fun s : Str => s.cps.toList) z2
        simpa using z3
      · rintro rfl; rfl
    show if decide (V.str (⟨#[c]⟩ : Str) = V.str " ") = true then _ else _
    rw [e4]
    by_cases h32 : c = 32
    · refine if_true_of (decide_eq_true h32) ?_
      rw [if_pos h32] at hl2
      exact ⟨_, rfl, _, _, rfl, rfl, m, Nat.lt_succ_self _, n + 1, rest, done, ps, _, _, _, rfl, hlt, hl2, hall, hq', htk, hb⟩
    · refine if_false_of (decide_eq_false h32) ?_
      rw [if_neg h32, if_neg hc47] at hl2
      cases hk : codeOf ((z.cps.toList.drop n).take (sizeR (z.cps.toList.drop n))) with
      | none => rw [hk] at hl2; cases hl2
      | some k =>
      rw [hk] at hl2
      cases hr : lexL m ((z.cps.toList.drop n).drop (sizeR (z.cps.toList.drop n))) (n + 1 + sizeR (z.cps.toList.drop n)) with
      | none =>
        have : (lexL m ((z.cps.toList.drop n).drop (sizeR (z.cps.toList.drop n))) (n + 1 + sizeR (z.cps.toList.drop n))).map ((k, n + 1) :: ·) = some rest := hl2
        rw [hr] at this; cases this
      | some us =>
      have hrest : rest = (k, n + 1) :: us := by
        have : (lexL m ((z.cps.toList.drop n).drop (sizeR (z.cps.toList.drop n))) (n + 1 + sizeR (z.cps.toList.drop n))).map ((k, n + 1) :: ·) = some rest := hl2
        rw [hr] at this
        exact (Option.some.inj this).symm
      subst hrest
      refine ⟨_, rfl, _, rfl, _, _, rfl, z, n, rfl, rfl, hlt, by omega, ?_⟩
      refine ⟨_, rfl, _, rfl, _, rfl, _, rfl, _, rfl, _, _, rfl, rfl, _, rfl, z, rfl, hzl, ?_⟩
      rw [cut_take (Nat.le_of_lt hlt)]
      refine ⟨_, rfl, _, k, rfl, code_mem hk, fun p v H2 b2 hp hv => ?_⟩
      refine ⟨p, _, rfl, SqT.of hp, rfl, _, _, rfl, _, _, rfl, rfl, ?_⟩
      have hq2 := b2 _ _ hq' (by simp)
      try dsimp only [L2.tNext, L2.tSeq, L2.tDrop, L2.tRet, L2.tIfS, L2.tAsg, L2.gName]
      refine ra_append (fun Q q => ⟨_, rfl, q⟩) hq2 ?_
      refine ⟨_, rfl, _, rfl, _, rfl, _, rfl, _, _, rfl, rfl, tup_le (by show 2 ≤ 4000000; decide), fun pa hpa => ⟨tup_le (by show 3 ≤ 4000000; decide), fun pb hpb => ?_⟩⟩
      have b3 : ButL [] H' (upd (upd H2 pa (.tup [.int (num : Int), .int ((n : Int) + 1)])) pb (.tup [.str (srt k), v, .ref pa])) := (b2.trans (ButL.new hpa)).trans (ButL.new hpb)
      have hlenps : ps.length ≤ ts.length := by
        have e1 := htk.len
        have e2 := congrArg List.length hall
        rw [List.length_append, List.length_map] at e2
        omega
      refine ⟨_, _, rfl, b3 _ _ hq' (by simp), big_lists (by rw [List.length_map]; have : f1 ≤ 1000000 := hf; omega), ?_⟩
      have mu0 : Mu [] H' := fun a ha => by cases ha
      have hb2 := hb.trans b3
      have hq3 := b3 _ _ hq' (by simp)
      have hqn : ∀ x u, H x = some u → x ≠ q := fun x u e => ne_of_none e hq
      have muq : Mu [q] (upd (upd H2 pa (.tup [.int (num : Int), .int ((n : Int) + 1)])) pb (.tup [.str (srt k), v, .ref pa])) := by
        intro a ha xs e
        have z : a = q := by simpa using ha
        rw [z, hq3] at e
        cases e
      have hpa3 : upd (upd H2 pa (.tup [.int (num : Int), .int ((n : Int) + 1)])) pb (.tup [.str (srt k), v, .ref pa]) pa = some (.tup [.int (num : Int), .int ((n : Int) + 1)]) := by
        rw [upd_ne (ne_of_none upd_same hpb)]
        exact upd_same
      have tk : TokAt (upd (upd H2 pa (.tup [.int (num : Int), .int ((n : Int) + 1)])) pb (.tup [.str (srt k), v, .ref pa])) pb (k, num, n + 1) := by
        refine ⟨v, pa, upd_same, hpa3, fun z2 => ?_⟩
        obtain ⟨u, i, kd, e1, e2⟩ := hv z2
        exact ⟨u, i, kd, e1, ((ButL.new (as := []) hpa).trans (ButL.new hpb)) _ _ e2 (by simp)⟩
      have tks := Tks.keep (ButL.put (a := q) (as := [q]) (o := .lst (ps.map V.ref ++ [.ref pb])) (by simp)) muq (Tks.app (Tks.keep b3 mu0 htk) (show Tks _ [pb] [(k, num, n + 1)] from ⟨tk, trivial⟩))
      refine ⟨_, rfl, _, rfl, _, _, rfl, rfl, m, Nat.lt_succ_self _, n + sizeR (z.cps.toList.drop n), us, done ++ [(k, num, n + 1)], ps ++ [pb], _, _, _, rfl, ?_, ?_, ?_, ?_, tks, ?_⟩
      · have := sizeR_le (z.cps.toList.drop n)
        rw [List.length_drop] at this
        omega
      · rw [List.drop_drop] at hr
        rw [show n + sizeR (z.cps.toList.drop n) + 1 = n + 1 + sizeR (z.cps.toList.drop n) by omega]
        exact hr
      · rw [hall]; simp
      · rw [upd_same, List.map_append]; rfl
      · intro x u e hx
        rw [upd_ne (hqn x u e)]
        exact hb2 x u e hx
  · refine if_false_of (decide_eq_false (by rw [hlen]; omega)) (if_false_of rfl ⟨_, rfl, ?_⟩)
    rw [List.drop_eq_nil_of_le (by omega)] at hl
    have : rest = [] := (Option.some.inj hl).symm
    subst this
    refine h q ps _ hb hq hq' ?_
    rw [hall, List.map_nil, List.append_nil]
    exact htk
theorem sc_pieces_of : FnScope ["text", "pieces", "lines", "at", "line"] ["text"] (defScope s_pieces_of) := ⟨rfl, rfl, rfl, by decide +kernel, rfl, by decide +kernel, by decide +kernel⟩
theorem g_pieces_of (T : Txt K mg w) (G__pieces_in : Gd P w K mg base CX0 4 "_pieces_in" ["line", "number"] (sp__pieces_in K)) : Gd P w K mg base CX0 5 "pieces_of" ["text"] (sp_pieces_of K) := by
  have sc := sc_pieces_of
  refine T.d_pieces_of.ok sc len1 (fun _ _ _ _ _ _ us hl => match us, hl with | [_], _ => rfl) (fun f cdv A outer s H vs Q E hr h => ?_)
  obtain ⟨x0, rfl, h⟩ := h
  obtain ⟨z, f1, r, rfl, hf, hz1, hz, hrl, hll, hlc, hlex, h⟩ := h
  refine ⟨_, (pss_cons (ps_set (i := 1) sc.nd rfl (Or.inl rfl) (pe_lst pa_nil))
      (pss_cons (ps_set (i := 2) sc.nd rfl (Or.inl rfl) (pe_split (pv 0) pe_str))
      (pss_cons (ps_for PassesOwn.never rfl (pi_enum rfl T.n_enumerate (pa_cons (pv 2) pa_nil)) (pg_tup rfl (pgs_cons (pg_name (i := 3) sc.nd rfl (Or.inl rfl)) (pgs_cons (pg_name (i := 4) sc.nd rfl (Or.inl rfl)) pgs_nil))) (pss_one (ps_expr (pe_bm PySem.F.plainAttrs_list PySem.F.slot_list_extend PySem.F.type_list_extend mt_extend (pv 1) (pa_cons (pe_g G__pieces_in (hr.mono (by omega)) pass0 (pa_cons (pv 4) (pa_cons (pe_op op_add (pv 3) pe_int) pa_nil))) pa_nil)))))
      (pss_cons (ps_expr (pe_bm PySem.F.plainAttrs_list PySem.F.slot_list_append PySem.F.type_list_append mt_append (pv 1) (pa_cons (pe_tup (pa_cons (pe_gstr T.c_END) (pa_cons pe_str (pa_cons (pe_tup (pa_cons (pe_callB call_len_seq (by rfl) T.n_len PySem.boot_len (pa_cons (pv 2) pa_nil)) (pa_cons (pe_op op_add (pe_callB call_len_str (by rfl) T.n_len PySem.boot_len (pa_cons (pe_ix ix_list (pv 2) (pe_un un_neg pe_int) (fun _ _ => rfl)) pa_nil)) pe_int) pa_nil))) pa_nil)))) pa_nil)))
      (pss_one (ps_ret (pv 1))))))), ?_⟩
  have hzl : z.length ≤ sizeLine := tup_le (by omega)
  obtain ⟨body, hbody, hr⟩ : ∃ body, lexAll f1 1 (linesL z.cps.toList) = some body ∧ r = body ++ [(0, (linesL z.cps.toList).length, ((linesL z.cps.toList).getLast?.getD []).length + 1)] := by
    unfold lexT at hlex
    cases e : lexAll f1 1 (linesL z.cps.toList) with
    | none => rw [e] at hlex; cases hlex
    | some body =>
      rw [e] at hlex
      exact ⟨body, rfl, (Option.some.inj hlex).symm⟩
  have hsp := split_lines z (kind_lines z hz1)
  have hnl : ("\n" : Str) = ⟨#[10]⟩ := by decide +kernel
  obtain ⟨L, hL⟩ : ∃ L, L = Txt.split z ⟨#[10]⟩ := ⟨_, rfl⟩
  have hL2 : L.map (·.cps.toList) = linesL z.cps.toList := by rw [hL]; exact hsp
  have hLl : L.length ≤ 1000000 := by
    have := congrArg List.length hL2
    rw [List.length_map] at this
    omega
  have hLs : ∀ x, x ∈ L → x.length ≤ 1000000 := by
    intro x hx
    rw [len_str]
    exact hlc _ (by rw [← hL2]; exact List.mem_map_of_mem hx)
  refine ⟨Nat.zero_le _, fun q hq => ?_⟩
  refine ⟨_, rfl, ⟨_, rfl⟩, _, _, rfl, rfl, rfl, tup_le (by omega), fun a ha => ?_⟩
  rw [hnl, ← hL] at *
  have hqa : q ≠ a := ne_of_none upd_same ha
  have ha0 : H a = none := by rw [upd_ne hqa.symm] at ha; exact ha
  have hqn : ∀ x u, H x = some u → x ≠ q := fun x u e => ne_of_none e hq
  refine ⟨_, rfl, a, _, rfl, SqL.of upd_same, ?_⟩
  refine ⟨fun i m σ H' => m = L.length - i ∧ i ≤ L.length ∧ ∃ (r3 r4 : Option V) (done rest : List Pc) (ps : List Addr), σ = [some (.str z), some (.ref q), some (.ref a), r3, r4] ∧ lexAll f1 (i + 1) ((L.drop i).map (·.cps.toList)) = some rest ∧ body = done ++ rest ∧
    H' q = some (.lst (ps.map V.ref)) ∧ Tks H' ps done ∧ H' a = some (.lst (L.map V.str)) ∧ ButL [] H H', ⟨L.length, rfl, Nat.zero_le _, none, none, [], body, [], rfl, ?_, rfl, ?_, trivial, upd_same, ?_⟩, ?_⟩
  · rw [List.drop_zero, hL2]; exact hbody
  · rw [upd_ne hqa]; exact upd_same
  · exact (ButL.new hq).trans (ButL.new ha)
  rintro i m σ H' ⟨rfl, hi, r3, r4, done, rest, ps, rfl, hlx, hall, hq', htk, ha', hb⟩
  by_cases hlt : i < L.length
  · refine .inr ⟨⟨_, .str L[i], SqL.of ha', by rw [List.getElem?_map, List.getElem?_eq_getElem hlt]; rfl⟩, _, fun _ _ z => z, ?_⟩
    rintro x H2 ⟨t, y, rfl, ht, rfl, hy⟩
    have hy2 := hy _ (SqL.of ha')
    rw [List.getElem?_map, List.getElem?_eq_getElem hlt] at hy2
    have hy3 : y = .str L[i] := (Option.some.inj hy2).symm
    subst hy3
    refine ⟨t, _, rfl, SqT.of upd_same, rfl, _, _, rfl, _, _, rfl, rfl, ?_⟩
    have hd0 : L.drop i = L[i] :: L.drop (i + 1) := List.drop_eq_getElem_cons hlt
    rw [hd0] at hlx
    have hlx2 : (match lexL f1 L[i].cps.toList 1 with
      | none => none
      | some ts => (lexAll f1 (i + 1 + 1) ((L.drop (i + 1)).map (·.cps.toList))).map (ts.map (fun t => (t.1, i + 1, t.2)) ++ ·)) = some rest := hlx
    cases e1 : lexL f1 L[i].cps.toList 1 with
    | none => rw [e1] at hlx2; cases hlx2
    | some ts =>
    rw [e1] at hlx2
    have hlx3 : (lexAll f1 (i + 1 + 1) ((L.drop (i + 1)).map (·.cps.toList))).map (ts.map (fun t => (t.1, i + 1, t.2)) ++ ·) = some rest := hlx2
    cases e2 : lexAll f1 (i + 1 + 1) ((L.drop (i + 1)).map (·.cps.toList)) with
    | none => rw [e2] at hlx3; cases hlx3
    | some rs =>
    rw [e2] at hlx3
    have hrest : rest = ts.map (fun t => (t.1, i + 1, t.2)) ++ rs := (Option.some.inj hlx3).symm
    have hq2 : upd H' t (.tup [.int (i : Nat), .str L[i]]) q = some (.lst (ps.map V.ref)) := by
      rw [upd_ne (ne_of_none hq' ht)]; exact hq'
    refine ⟨_, rfl, ty_lst hq2, _, rfl, _, rfl, _, _, rfl, rfl, _, _, rfl, L[i], i + 1, f1, ts, rfl, rfl, hf, hLs _ (List.getElem_mem hlt), e1, fun q2 ps2 H3 b3 hq2n hq3 htk3 => ?_⟩
    have hq4 : H3 q = some (.lst (ps.map V.ref)) := b3 _ _ hq2 (by simp)
    have mu0 : Mu [] H' := fun a ha => by cases ha
    have muq : Mu [q] H3 := by
      intro a ha xs e
      have z : a = q := by simpa using ha
      rw [z, hq4] at e
      cases e
    have b4 : ButL [] H' H3 := (ButL.new ht).trans b3
    have hlen1 := htk.len
    have hlen2 := htk3.len
    have hlen3 := congrArg List.length hall
    rw [hrest, List.length_append, List.length_append, List.length_map] at hlen3
    rw [List.length_map] at hlen2
    have hlen4 := congrArg List.length hr
    rw [List.length_append] at hlen4
    refine ⟨q, q2, _, _, rfl, rfl, hq4, hq3, tup_le (by rw [List.length_map, List.length_map]; omega), ?_⟩
    refine ⟨L.length - (i + 1), by omega, rfl, hlt, _, _, done ++ ts.map (fun t => (t.1, i + 1, t.2)), rs, ps ++ ps2, rfl, e2, ?_, ?_, ?_, ?_, ?_⟩
    · rw [hall, hrest, List.append_assoc]
    · rw [upd_same, List.map_append]
    · exact Tks.keep (ButL.put (as := [q]) (by simp)) muq (Tks.app (Tks.keep b4 mu0 htk) htk3)
    · rw [upd_ne hqa.symm]; exact b4 _ _ ha' (by simp)
    · intro x u e hx
      rw [upd_ne (hqn x u e)]
      exact (hb.trans b4) x u e hx
  · refine .inl ⟨⟨_, SqL.of ha', by rw [List.length_map]; omega⟩, ?_⟩
    have hi2 : i = L.length := by omega
    subst hi2
    rw [List.drop_length] at hlx
    have : rest = [] := (Option.some.inj hlx).symm
    subst this
    rw [List.append_nil] at hall
    subst hall
    have hLne : L ≠ [] := by
      intro zz
      have := hL2
      rw [zz] at this
      have : linesL z.cps.toList = [] := this.symm
      exact partsL_ne _ _ _ this
    obtain ⟨L0, last, hLL⟩ : ∃ L0 last, L = L0 ++ [last] := ⟨L.dropLast, L.getLast hLne, (List.dropLast_concat_getLast hLne).symm⟩
    have hlast : (linesL z.cps.toList).getLast?.getD [] = last.cps.toList := by
      rw [← hL2, hLL]; simp
    have hnum : (linesL z.cps.toList).length = L.length := by rw [← hL2, List.length_map]
    try dsimp only [L2.tNext, L2.tSeq, L2.tDrop, L2.tRet, L2.tIfS, L2.tAsg, L2.gName]
    refine ra_append (fun Q q => ⟨_, rfl, q⟩) hq' ?_
    refine ⟨_, rfl, a, _, rfl, .inl (SqL.of ha'), _, rfl, _, rfl, a, _, _, _, rfl, rfl, SqL.of ha', ?_, last, rfl, tup_le (by have := hLs last (by rw [hLL]; simp); omega), _, _, rfl, rfl, tup_le (by show 2 ≤ 4000000; decide), fun pa hpa => ⟨tup_le (by show 3 ≤ 4000000; decide), fun pb hpb => ?_⟩⟩
    · rw [hLL, List.map_append]; exact atI_last
    have b3 : ButL [] H' (upd (upd H' pa (.tup [.int ((L.map V.str).length : Int), .int ((last.length : Int) + 1)])) pb (.tup [.str (srt 0), .str "", .ref pa])) := (ButL.new hpa).trans (ButL.new hpb)
    have hq3 := b3 _ _ hq' (by simp)
    have mu0 : Mu [] H' := fun a ha => by cases ha
    have muq : Mu [q] (upd (upd H' pa (.tup [.int ((L.map V.str).length : Int), .int ((last.length : Int) + 1)])) pb (.tup [.str (srt 0), .str "", .ref pa])) := by
      intro a ha xs e
      have z : a = q := by simpa using ha
      rw [z, hq3] at e
      cases e
    have hlen1 := htk.len
    have hlen4 := congrArg List.length hr
    rw [List.length_append] at hlen4
    refine ⟨_, _, rfl, hq3, big_lists (by rw [List.length_map]; omega), _, rfl, ?_⟩
    refine h q (ps ++ [pb]) _ ?_ ?_ ?_
    · intro x u e hx
      rw [upd_ne (hqn x u e)]
      exact (hb.trans b3) x u e hx
    · rw [upd_same, List.map_append]; rfl
    · rw [hr]
      refine Tks.keep (ButL.put (as := [q]) (by simp)) muq (Tks.app (Tks.keep b3 mu0 htk) (show Tks _ [pb] [_] from ⟨⟨_, pa, upd_same, ?_, fun z => by cases z⟩, trivial⟩))
      rw [upd_ne (ne_of_none upd_same hpb), upd_same, hnum, hlast, List.length_map, ← len_str]
      rfl
end
end Rd

namespace Rd
open PySem PySem.Spec PyProof.Rows L2 My Mir
def sp__read_param (K : PySem.W.Frag) : Sp := sp1 fun _ _ _ _ => False
def sp__read_structure (K : PySem.W.Frag) : Sp := sp2 fun _ _ _ _ _ => False
def sp__read_function (K : PySem.W.Frag) : Sp := sp4 fun x _ _ _ H Q E => ∃ (c l : Addr) (r : List Pc) (f : Nat), x = .ref c ∧ f ≤ BIG ∧ At K c l H H r ∧ Post (function f r) (fun r' => ∀ v H', At K c l H H' r' → Q v H') (Bad (CB K) [c] H E)
def sp__read_item (K : PySem.W.Frag) : Sp := spG1 K anyR item
def sp_read_module (K : PySem.W.Frag) : Sp := sp1 fun x H Q E => ∃ (z : Str) (f : Nat) (r : List Pc), x = .str z ∧ f ≤ BIG ∧ 1 ≤ z.length ∧ z.length ≤ 1000000 ∧ r.length ≤ 1000000 ∧ (linesL z.cps.toList).length ≤ 1000000 ∧ (∀ l, l ∈ linesL z.cps.toList → l.length ≤ 1000000) ∧ lexT f z.cps.toList = some r ∧ Wf r ∧
  Post (modul f r) (fun _ => ∀ v H', ButL [] H H' → Q v H') (fun l k => ∀ d H', ButL [] H H' → H' d = some (.xd (btFs (.int (l : Int)) (.int (k : Int)))) → E (.ref (CB K)) (some d) H')
section
variable {P : Program} {w : World} {K : PySem.W.Frag} {mg : Str → Option Value} {base : Heap}
theorem sc__read_param : FnScope ["cursor", "kind", "is_slice", "_", "name", "place"] ["cursor"] (defScope s__read_param) := ⟨rfl, rfl, rfl, by decide +kernel, rfl, by decide +kernel, by decide +kernel⟩
theorem g__read_param (T : Txt K mg w) (G_Cursor_ahead : Gm P w K mg base CX0 1 (He.ga K "Cursor") "ahead" ["self"] (sp_Cursor_ahead K)) (G_Cursor_fail : Gm P w K mg base (L2.CX P w) 2 (He.ga K "Cursor") "fail" ["self"] (sp_Cursor_fail K)) (G_read_kind : Gd P w K mg base (L2.CX P w) 4 "read_kind" ["cursor"] (sp_read_kind K)) (G_Cursor_want : Gm P w K mg base (L2.CX P w) 3 (He.ga K "Cursor") "want" ["self", "sort"] (sp_Cursor_want K)) (G_Cursor_take : Gm P w K mg base CX0 1 (He.ga K "Cursor") "take" ["self"] (sp_Cursor_take K)) : Gd P w K mg base (L2.CX P w) 5 "_read_param" ["cursor"] (sp__read_param K) := by
  have sc := sc__read_param
  refine T.d__read_param.okX sc len1 (fun _ _ _ _ _ _ us hl => match us, hl with | [_], _ => rfl) (fun f cdv A outer s H vs Q E hr h => ?_)
  obtain ⟨x0, rfl, h⟩ := h
  refine ⟨_, (pss_cons (ps_if (pt_cmpR op_notIn_seq (pe_gm0 (pv 0) T.cl_Cursor.c G_Cursor_ahead (hr.mono (by omega)) pass0) (pe_gref T.c_KINDS) rfl) (pss_one (ps_expr (pe_gm0 (pv 0) T.cl_Cursor.c G_Cursor_fail (hr.mono (by omega)) (passes_call (takes_of rfl rfl rfl rfl) (fun _ _ _ _ h => h))))) pss_nil)
      (pss_cons (ps_set (i := 1) sc.nd rfl (Or.inl rfl) (pe_g G_read_kind (hr.mono (by omega)) (passes_call (takes_of rfl rfl rfl rfl) (fun _ _ _ _ h => h)) (pa_cons (pv 0) pa_nil)))
      (pss_cons (ps_asg (pe_gm (pv 0) T.cl_Cursor.c G_Cursor_want (hr.mono (by omega)) (passes_call (takes_of rfl rfl rfl rfl) (fun _ _ _ _ h => h)) (pa_cons (pe_gstr T.c_NAME) pa_nil)) (pg_tup rfl (pgs_cons (pg_name (i := 3) sc.nd rfl (Or.inl rfl)) (pgs_cons (pg_name (i := 4) sc.nd rfl (Or.inl rfl)) (pgs_cons (pg_name (i := 5) sc.nd rfl (Or.inl rfl)) pgs_nil)))))
      (pss_cons (ps_set (i := 2) sc.nd rfl (Or.inl rfl) (pe_cmpR op_eq (pe_gm0 (pv 0) T.cl_Cursor.c G_Cursor_ahead (hr.mono (by omega)) pass0) pe_str (nomark _)))
      (pss_cons (ps_if (pt_val (pv 2)) (pss_cons (ps_expr (pe_gm0 (pv 0) T.cl_Cursor.c G_Cursor_take (hr.mono (by omega)) pass0))
      (pss_one (ps_expr (pe_gm (pv 0) T.cl_Cursor.c G_Cursor_want (hr.mono (by omega)) (passes_call (takes_of rfl rfl rfl rfl) (fun _ _ _ _ h => h)) (pa_cons pe_str pa_nil))))) pss_nil)
      (pss_one (ps_ret (pe_tup (pa_cons (pv 1) (pa_cons (pv 4) (pa_cons (pv 2) (pa_cons (pv 5) pa_nil)))))))))))), ?_⟩
  exact h.elim
theorem sc__read_structure : FnScope ["cursor", "kind", "fields", "sort", "many", "_", "name", "place"] ["cursor", "kind"] (defScope s__read_structure) := ⟨rfl, rfl, rfl, by decide +kernel, rfl, by decide +kernel, by decide +kernel⟩
theorem g__read_structure (T : Txt K mg w) (G_Cursor_want : Gm P w K mg base (L2.CX P w) 3 (He.ga K "Cursor") "want" ["self", "sort"] (sp_Cursor_want K)) (G_Cursor_ahead : Gm P w K mg base CX0 1 (He.ga K "Cursor") "ahead" ["self"] (sp_Cursor_ahead K)) (G_Cursor_take : Gm P w K mg base CX0 1 (He.ga K "Cursor") "take" ["self"] (sp_Cursor_take K)) (G_read_many : Gd P w K mg base (L2.CX P w) 4 "read_many" ["cursor"] (sp_read_many K)) : Gd P w K mg base (L2.CX P w) 5 "_read_structure" ["cursor", "kind"] (sp__read_structure K) := by
  have sc := sc__read_structure
  refine T.d__read_structure.okX sc len2 (fun _ _ _ _ _ _ us hl => match us, hl with | [_, _], _ => rfl) (fun f cdv A outer s H vs Q E hr h => ?_)
  obtain ⟨x0, x1, rfl, h⟩ := h
  refine ⟨_, (pss_cons (ps_expr (pe_gm (pv 0) T.cl_Cursor.c G_Cursor_want (hr.mono (by omega)) (passes_call (takes_of rfl rfl rfl rfl) (fun _ _ _ _ h => h)) (pa_cons pe_str pa_nil)))
      (pss_cons (ps_set (i := 2) sc.nd rfl (Or.inl rfl) (pe_lst pa_nil))
      (pss_cons (ps_while (passes_of rfl) (pt_cmpR op_in_seq (pe_gm0 (pv 0) T.cl_Cursor.c G_Cursor_ahead (hr.mono (by omega)) pass0) (pe_tup (pa_cons pe_str (pa_cons pe_str pa_nil))) rfl) (pss_cons (ps_set (i := 3) sc.nd rfl (Or.inl rfl) (pe_ix ix_tup (pe_gm0 (pv 0) T.cl_Cursor.c G_Cursor_take (hr.mono (by omega)) pass0) pe_int (fun _ _ => rfl)))
      (pss_cons (ps_asg (pe_gm (pv 0) T.cl_Cursor.c G_Cursor_want (hr.mono (by omega)) (passes_call (takes_of rfl rfl rfl rfl) (fun _ _ _ _ h => h)) (pa_cons (pe_gstr T.c_NAME) pa_nil)) (pg_tup rfl (pgs_cons (pg_name (i := 5) sc.nd rfl (Or.inl rfl)) (pgs_cons (pg_name (i := 6) sc.nd rfl (Or.inl rfl)) (pgs_cons (pg_name (i := 7) sc.nd rfl (Or.inl rfl)) pgs_nil)))))
      (pss_cons (ps_set (i := 4) sc.nd rfl (Or.inl rfl) (pe_g G_read_many (hr.mono (by omega)) (passes_call (takes_of rfl rfl rfl rfl) (fun _ _ _ _ h => h)) (pa_cons (pv 0) pa_nil)))
      (pss_cons (ps_expr (pe_gm (pv 0) T.cl_Cursor.c G_Cursor_want (hr.mono (by omega)) (passes_call (takes_of rfl rfl rfl rfl) (fun _ _ _ _ h => h)) (pa_cons pe_str pa_nil)))
      (pss_one (ps_expr (pe_bm PySem.F.plainAttrs_list PySem.F.slot_list_append PySem.F.type_list_append mt_append (pv 2) (pa_cons (pe_tup (pa_cons (pv 3) (pa_cons (pv 6) (pa_cons (pv 4) (pa_cons (pv 7) pa_nil))))) pa_nil)))))))))
      (pss_cons (ps_expr (pe_gm (pv 0) T.cl_Cursor.c G_Cursor_want (hr.mono (by omega)) (passes_call (takes_of rfl rfl rfl rfl) (fun _ _ _ _ h => h)) (pa_cons pe_str pa_nil)))
      (pss_cons (ps_expr (pe_gm (pv 0) T.cl_Cursor.c G_Cursor_want (hr.mono (by omega)) (passes_call (takes_of rfl rfl rfl rfl) (fun _ _ _ _ h => h)) (pa_cons pe_str pa_nil)))
      (pss_one (ps_ret (pe_tup (pa_cons pe_str (pa_cons (pe_ix ix_tup (pv 1) pe_int (fun _ _ => rfl)) (pa_cons (pe_ix ix_tup (pv 1) pe_int (fun _ _ => rfl)) (pa_cons (pe_callTy call_tuple_of (by rfl) T.n_tuple (by decide +kernel) (pa_cons (pv 2) pa_nil)) pa_nil)))))))))))), ?_⟩
  exact h.elim
theorem sc__read_function : FnScope ["cursor", "kind", "name", "place", "params", "statements"] ["cursor", "kind", "name", "place"] (defScope s__read_function) := ⟨rfl, rfl, rfl, by decide +kernel, rfl, by decide +kernel, by decide +kernel⟩
theorem g__read_function (T : Txt K mg w) (G_Cursor_want : Gm P w K mg base (L2.CX P w) 3 (He.ga K "Cursor") "want" ["self", "sort"] (sp_Cursor_want K)) (G_Cursor_ahead : Gm P w K mg base CX0 1 (He.ga K "Cursor") "ahead" ["self"] (sp_Cursor_ahead K)) (G__read_param : Gd P w K mg base (L2.CX P w) 5 "_read_param" ["cursor"] (sp__read_param K)) (G_Cursor_take : Gm P w K mg base CX0 1 (He.ga K "Cursor") "take" ["self"] (sp_Cursor_take K)) (G_read_statements : Gd P w K mg base (L2.CX P w) 171 "read_statements" ["cursor", "depth", "ends"] (sp_read_statements K 30)) : Gd P w K mg base (L2.CX P w) 172 "_read_function" ["cursor", "kind", "name", "place"] (sp__read_function K) := by
  have sc := sc__read_function
  refine T.d__read_function.okX sc len4 (fun _ _ _ _ _ _ us hl => match us, hl with | [_, _, _, _], _ => rfl) (fun f cdv A outer s H vs Q E hr h => ?_)
  obtain ⟨x0, x1, x2, x3, rfl, h⟩ := h
  obtain ⟨c, l, r, f1, rfl, hf, t, h⟩ := h
  refine ⟨_, (pss_cons (ps_expr (pe_gm (pv 0) T.cl_Cursor.c G_Cursor_want (hr.mono (by omega)) (passes_call (takes_of rfl rfl rfl rfl) (fun _ _ _ _ h => h)) (pa_cons pe_str pa_nil)))
      (pss_cons (ps_set (i := 4) sc.nd rfl (Or.inl rfl) (pe_lst pa_nil))
      (pss_cons (ps_if (pt_cmpR op_ne (pe_gm0 (pv 0) T.cl_Cursor.c G_Cursor_ahead (hr.mono (by omega)) pass0) pe_str (nomark _)) (pss_cons (ps_expr (pe_bm PySem.F.plainAttrs_list PySem.F.slot_list_append PySem.F.type_list_append mt_append (pv 4) (pa_cons (pe_g G__read_param (hr.mono (by omega)) (passes_call (takes_of rfl rfl rfl rfl) (fun _ _ _ _ h => h)) (pa_cons (pv 0) pa_nil)) pa_nil)))
      (pss_one (ps_while (passes_of rfl) (pt_cmpR op_eq (pe_gm0 (pv 0) T.cl_Cursor.c G_Cursor_ahead (hr.mono (by omega)) pass0) pe_str (nomark _)) (pss_cons (ps_expr (pe_gm0 (pv 0) T.cl_Cursor.c G_Cursor_take (hr.mono (by omega)) pass0))
      (pss_one (ps_expr (pe_bm PySem.F.plainAttrs_list PySem.F.slot_list_append PySem.F.type_list_append mt_append (pv 4) (pa_cons (pe_g G__read_param (hr.mono (by omega)) (passes_call (takes_of rfl rfl rfl rfl) (fun _ _ _ _ h => h)) (pa_cons (pv 0) pa_nil)) pa_nil)))))))) pss_nil)
      (pss_cons (ps_expr (pe_gm (pv 0) T.cl_Cursor.c G_Cursor_want (hr.mono (by omega)) (passes_call (takes_of rfl rfl rfl rfl) (fun _ _ _ _ h => h)) (pa_cons pe_str pa_nil)))
      (pss_cons (ps_expr (pe_gm (pv 0) T.cl_Cursor.c G_Cursor_want (hr.mono (by omega)) (passes_call (takes_of rfl rfl rfl rfl) (fun _ _ _ _ h => h)) (pa_cons pe_str pa_nil)))
      (pss_cons (ps_set (i := 5) sc.nd rfl (Or.inl rfl) (pe_g G_read_statements (hr.mono (by omega)) (passes_call (takes_of rfl rfl rfl rfl) (fun _ _ _ _ h => h)) (pa_cons (pv 0) (pa_cons pe_int (pa_cons (pe_tup (pa_cons pe_str pa_nil)) pa_nil)))))
      (pss_cons (ps_expr (pe_gm (pv 0) T.cl_Cursor.c G_Cursor_want (hr.mono (by omega)) (passes_call (takes_of rfl rfl rfl rfl) (fun _ _ _ _ h => h)) (pa_cons pe_str pa_nil)))
      (pss_one (ps_ret (pe_tup (pa_cons pe_str (pa_cons (pv 3) (pa_cons (pv 1) (pa_cons (pv 2) (pa_cons (pe_callTy call_tuple_of (by rfl) T.n_tuple (by decide +kernel) (pa_cons (pv 4) pa_nil)) (pa_cons (pv 5) pa_nil)))))))))))))))), ?_⟩
  have hc0 := t.c0
  have h' : Post (want 52 r >>= fun r => if hd r ≠ 53 then .out else want 53 r >>= fun r => want 56 r >>= fun r => stmts f1 1 r >>= fun r => want 57 r) (fun r' => ∀ v H', At K c l H H' r' → Q v H') (Bad (CB K) [c] H E) := h
  try dsimp only [L2.tNext, L2.tSeq, L2.tDrop, L2.tRet, L2.tIfS, L2.tAsg, L2.gName]
  refine ra_want (s := 52) (fun Q q => ⟨_, rfl, q⟩) (fun R q => q) (by decide) (by decide) t h' fun p1 z1 r1 H1 t1 b1 tk1 eq1 ez1 h1 => ?_
  refine ⟨Nat.zero_le _, fun q hq => ?_⟩
  have t2 := t1.laid (o := .lst []) hq
  have hqc : q ≠ c := t2.ne_lst upd_same
  try dsimp only [L2.tNext, L2.tSeq, L2.tDrop, L2.tRet, L2.tIfS, L2.tAsg, L2.gName]
  refine ra_ne (fun Q q => ⟨_, rfl, q⟩) t2 53 (by decide) rfl (fun y => ?_) (fun y => ?_)
  · rw [if_neg (fun z => z y)] at h1
    try dsimp only [L2.tNext, L2.tSeq, L2.tDrop, L2.tRet, L2.tIfS, L2.tAsg, L2.gName]
    refine ra_want (s := 53) (fun Q q => ⟨_, rfl, q⟩) (fun R q => q) (by decide) (by decide) t2 h1 fun p3 z3 r3 H3 t3 b3 tk3 eq3 ez3 h3 => ?_
    try dsimp only [L2.tNext, L2.tSeq, L2.tDrop, L2.tRet, L2.tIfS, L2.tAsg, L2.gName]
    refine ra_want (s := 56) (fun Q q => ⟨_, rfl, q⟩) (fun R q => q) (by decide) (by decide) t3 h3 fun p4 z4 r4 H4 t4 b4 tk4 eq4 ez4 h4 => ?_
    refine ⟨_, rfl, tup_le (by show 1 ≤ 4000000; decide), fun pe hpe => ?_⟩
    have t5 := t4.laid (o := .tup [.str (srt 57)]) hpe
    refine rx_stmts (d := 1) t5 upd_same hf (by decide) h4 fun r6 v6 H6 t6 b6 h6 => ?_
    try dsimp only [L2.tNext, L2.tSeq, L2.tDrop, L2.tRet, L2.tIfS, L2.tAsg, L2.gName]
    refine ra_want (s := 57) (fun Q q => ⟨_, rfl, q⟩) (fun R q => q) (by decide) (by decide) t6 (post_pure h6) fun p7 z7 r7 H7 t7 b7 tk7 eq7 ez7 h7 => ?_
    have e5 : upd H4 pe (.tup [.str (srt 57)]) q = some (.lst []) := by
      have e4 := b4.lst (b3.lst upd_same hqc) hqc
      rw [upd_ne (ne_of_none e4 hpe)]; exact e4
    have e7 := b7.lst (b6.lst e5 hqc) hqc
    refine ⟨_, rfl, _, rfl, _, rfl, _, rfl, q, [], rfl, .inl ⟨SqL.of e7, fun pp hpp => ⟨_, rfl, tup_le (by show 6 ≤ 4000000; decide), fun p2 hp2 => ?_⟩⟩⟩
    exact h7 _ _ ((t7.laid hpp).laid hp2)
  · rw [if_pos y] at h1
    exact h1.elim
theorem sc__read_item : FnScope ["cursor", "kind", "many", "firsts", "_", "name", "place"] ["cursor"] (defScope s__read_item) := ⟨rfl, rfl, rfl, by decide +kernel, rfl, by decide +kernel, by decide +kernel⟩
theorem g__read_item (T : Txt K mg w) (G_Cursor_ahead : Gm P w K mg base CX0 1 (He.ga K "Cursor") "ahead" ["self"] (sp_Cursor_ahead K)) (G_Cursor_take : Gm P w K mg base CX0 1 (He.ga K "Cursor") "take" ["self"] (sp_Cursor_take K)) (G_Cursor_want : Gm P w K mg base (L2.CX P w) 3 (He.ga K "Cursor") "want" ["self", "sort"] (sp_Cursor_want K)) (G__read_function : Gd P w K mg base (L2.CX P w) 172 "_read_function" ["cursor", "kind", "name", "place"] (sp__read_function K)) (G_Cursor_fail : Gm P w K mg base (L2.CX P w) 2 (He.ga K "Cursor") "fail" ["self"] (sp_Cursor_fail K)) (G_read_kind : Gd P w K mg base (L2.CX P w) 4 "read_kind" ["cursor"] (sp_read_kind K)) (G__read_structure : Gd P w K mg base (L2.CX P w) 5 "_read_structure" ["cursor", "kind"] (sp__read_structure K)) (G_read_many : Gd P w K mg base (L2.CX P w) 4 "read_many" ["cursor"] (sp_read_many K)) (G_read_firsts : Gd P w K mg base (L2.CX P w) 8 "read_firsts" ["cursor", "depth"] (sp_read_firsts K)) : Gd P w K mg base (L2.CX P w) 173 "_read_item" ["cursor"] (sp__read_item K) := by
  have sc := sc__read_item
  refine T.d__read_item.okX sc len1 (fun _ _ _ _ _ _ us hl => match us, hl with | [_], _ => rfl) (fun f cdv A outer s H vs Q E hr h => ?_)
  obtain ⟨x0, rfl, h⟩ := h
  obtain ⟨c, l, r, f1, rfl, hf, t, _, h⟩ := h
  refine ⟨_, (pss_cons (ps_if (pt_cmpR op_eq (pe_gm0 (pv 0) T.cl_Cursor.c G_Cursor_ahead (hr.mono (by omega)) pass0) pe_str (nomark _)) (pss_cons (ps_set (i := 1) sc.nd rfl (Or.inl rfl) (pe_tup (pa_cons pe_str (pa_cons pe_str (pa_cons (pe_ix ix_tup (pe_gm0 (pv 0) T.cl_Cursor.c G_Cursor_take (hr.mono (by omega)) pass0) pe_int (fun _ _ => rfl)) pa_nil)))))
      (pss_cons (ps_asg (pe_gm (pv 0) T.cl_Cursor.c G_Cursor_want (hr.mono (by omega)) (passes_call (takes_of rfl rfl rfl rfl) (fun _ _ _ _ h => h)) (pa_cons (pe_gstr T.c_NAME) pa_nil)) (pg_tup rfl (pgs_cons (pg_name (i := 4) sc.nd rfl (Or.inl rfl)) (pgs_cons (pg_name (i := 5) sc.nd rfl (Or.inl rfl)) (pgs_cons (pg_name (i := 6) sc.nd rfl (Or.inl rfl)) pgs_nil)))))
      (pss_one (ps_ret (pe_g G__read_function (hr.mono (by omega)) (passes_call (takes_of rfl rfl rfl rfl) (fun _ _ _ _ h => h)) (pa_cons (pv 0) (pa_cons (pv 1) (pa_cons (pv 5) (pa_cons (pv 6) pa_nil))))))))) pss_nil)
      (pss_cons (ps_if (pt_cmpR op_notIn_seq (pe_gm0 (pv 0) T.cl_Cursor.c G_Cursor_ahead (hr.mono (by omega)) pass0) (pe_gref T.c_KINDS) rfl) (pss_one (ps_expr (pe_gm0 (pv 0) T.cl_Cursor.c G_Cursor_fail (hr.mono (by omega)) (passes_call (takes_of rfl rfl rfl rfl) (fun _ _ _ _ h => h))))) pss_nil)
      (pss_cons (ps_set (i := 1) sc.nd rfl (Or.inl rfl) (pe_g G_read_kind (hr.mono (by omega)) (passes_call (takes_of rfl rfl rfl rfl) (fun _ _ _ _ h => h)) (pa_cons (pv 0) pa_nil)))
      (pss_cons (ps_if (PW.pt (pw_and (pt_cmpR op_eq (pe_ix ix_tup (pv 1) pe_int (fun _ _ => rfl)) pe_str (nomark _)) (pw_and1 (pt_cmpR op_eq (pe_gm0 (pv 0) T.cl_Cursor.c G_Cursor_ahead (hr.mono (by omega)) pass0) pe_str (nomark _))))) (pss_one (ps_ret (pe_g G__read_structure (hr.mono (by omega)) (passes_call (takes_of rfl rfl rfl rfl) (fun _ _ _ _ h => h)) (pa_cons (pv 0) (pa_cons (pv 1) pa_nil))))) pss_nil)
      (pss_cons (ps_asg (pe_gm (pv 0) T.cl_Cursor.c G_Cursor_want (hr.mono (by omega)) (passes_call (takes_of rfl rfl rfl rfl) (fun _ _ _ _ h => h)) (pa_cons (pe_gstr T.c_NAME) pa_nil)) (pg_tup rfl (pgs_cons (pg_name (i := 4) sc.nd rfl (Or.inl rfl)) (pgs_cons (pg_name (i := 5) sc.nd rfl (Or.inl rfl)) (pgs_cons (pg_name (i := 6) sc.nd rfl (Or.inl rfl)) pgs_nil)))))
      (pss_cons (ps_if (pt_cmpR op_eq (pe_gm0 (pv 0) T.cl_Cursor.c G_Cursor_ahead (hr.mono (by omega)) pass0) pe_str (nomark _)) (pss_one (ps_ret (pe_g G__read_function (hr.mono (by omega)) (passes_call (takes_of rfl rfl rfl rfl) (fun _ _ _ _ h => h)) (pa_cons (pv 0) (pa_cons (pv 1) (pa_cons (pv 5) (pa_cons (pv 6) pa_nil))))))) pss_nil)
      (pss_cons (ps_set (i := 2) sc.nd rfl (Or.inl rfl) (pe_g G_read_many (hr.mono (by omega)) (passes_call (takes_of rfl rfl rfl rfl) (fun _ _ _ _ h => h)) (pa_cons (pv 0) pa_nil)))
      (pss_cons (ps_set (i := 3) sc.nd rfl (Or.inl rfl) (pe_g G_read_firsts (hr.mono (by omega)) (passes_call (takes_of rfl rfl rfl rfl) (fun _ _ _ _ h => h)) (pa_cons (pv 0) (pa_cons pe_int pa_nil))))
      (pss_cons (ps_expr (pe_gm (pv 0) T.cl_Cursor.c G_Cursor_want (hr.mono (by omega)) (passes_call (takes_of rfl rfl rfl rfl) (fun _ _ _ _ h => h)) (pa_cons pe_str pa_nil)))
      (pss_one (ps_ret (pe_tup (pa_cons pe_str (pa_cons (pv 6) (pa_cons (pv 1) (pa_cons (pv 5) (pa_cons (pv 2) (pa_cons (pv 3) pa_nil)))))))))))))))))), ?_⟩
  have h' : Post (if hd r = 7 then kind r >>= fun r => want 1 r >>= fun r => if hd r = 52 then function f1 r else .out else .out) (fun r' => ∀ v H', At K c l H H' r' → Q v H') (Bad (CB K) [c] H E) := h
  by_cases c7 : hd r = 7
  · rw [if_pos c7] at h'
    try dsimp only [L2.tNext, L2.tSeq, L2.tDrop, L2.tRet, L2.tIfS, L2.tAsg, L2.gName]
    refine ra_eq (fun Q q => ⟨_, rfl, q⟩) t 9 (by decide) rfl (fun y => ?_) (fun y => ?_)
    · rw [c7] at y; cases y
    try dsimp only [L2.tNext, L2.tSeq, L2.tDrop, L2.tRet, L2.tIfS, L2.tAsg, L2.gName]
    refine ra_notin (fun Q q => ⟨_, rfl, q⟩) t [7, 8, 6] (by decide) (T.t_KINDS H) (fun y => ?_) (fun y => ?_)
    · refine ⟨_, rfl, rk_kind t (by rw [c7]; rfl) h' fun r1 v1 H1 t1 b1 rel1 h1 => ?_⟩
      obtain ⟨p, nm, pl, rfl, hp⟩ := rel1
      rw [c7] at hp
      refine ⟨_, rfl, p, _, 0, _, rfl, rfl, SqT.of hp, rfl, rfl, _, rfl, if_false_of (by decide +kernel) (if_false_of rfl ?_)⟩
      try dsimp only [L2.tNext, L2.tSeq, L2.tDrop, L2.tRet, L2.tIfS, L2.tAsg, L2.gName]
      refine ra_want (s := 1) (fun Q q => ⟨_, rfl, q⟩) (fun R q => q) (by decide) (by decide) t1 h1 fun p2 z2 r2 H2 t2 b2 tk2 eq2 ez2 h2 => ?_
      obtain ⟨w0, q0, g1, g2, g3⟩ := tk2
      refine ⟨p2, _, rfl, SqT.of g1, rfl, _, _, rfl, _, _, rfl, _, _, rfl, rfl, ?_⟩
      try dsimp only [L2.tNext, L2.tSeq, L2.tDrop, L2.tRet, L2.tIfS, L2.tAsg, L2.gName]
      refine ra_eq (fun Q q => ⟨_, rfl, q⟩) t2 52 (by decide) rfl (fun y => ?_) (fun y => ?_)
      · rw [if_pos y] at h2
        refine ⟨_, rfl, _, rfl, _, rfl, _, rfl, _, _, _, _, rfl, c, l, r2, f1, rfl, hf, t2.fresh, ?_⟩
        exact post_mono h2 (fun r' z v H' t' => z v H' (t2.trans t')) (fun _ _ z => z.after t2.b)
      · rw [if_neg y] at h2
        exact h2.elim
    · exact absurd (by rw [c7]; simp) y
  · rw [if_neg c7] at h'
    exact h'.elim
theorem sc_read_module : FnScope ["text", "cursor", "uses", "items", "_", "name", "place", "used", "spot"] ["text"] (defScope s_read_module) := ⟨rfl, rfl, rfl, by decide +kernel, rfl, by decide +kernel, by decide +kernel⟩
theorem g_read_module (T : Txt K mg w) (G_Cursor___init__ : Gm P w K mg base CX0 1 (He.ga K "Cursor") "__init__" ["self", "pieces"] (sp_Cursor___init__ K)) (G_pieces_of : Gd P w K mg base CX0 5 "pieces_of" ["text"] (sp_pieces_of K)) (G_Cursor_want : Gm P w K mg base (L2.CX P w) 3 (He.ga K "Cursor") "want" ["self", "sort"] (sp_Cursor_want K)) (G_Cursor_ahead : Gm P w K mg base CX0 1 (He.ga K "Cursor") "ahead" ["self"] (sp_Cursor_ahead K)) (G_Cursor_take : Gm P w K mg base CX0 1 (He.ga K "Cursor") "take" ["self"] (sp_Cursor_take K)) (G__read_item : Gd P w K mg base (L2.CX P w) 173 "_read_item" ["cursor"] (sp__read_item K)) : Gd P w K mg base (L2.CX P w) 174 "read_module" ["text"] (sp_read_module K) := by
  have sc := sc_read_module
  refine T.d_read_module.okX sc len1 (fun _ _ _ _ _ _ us hl => match us, hl with | [_], _ => rfl) (fun f cdv A outer s H vs Q E hr h => ?_)
  obtain ⟨x0, rfl, h⟩ := h
  obtain ⟨z, f1, r, rfl, hf, hz1, hz, hrl, hll, hlc, hlex, hwf, h⟩ := h
  refine ⟨_, (pss_cons (ps_if (pt_not (pt_val (pe_callB call_isi (by rfl) T.n_isinstance (by decide +kernel) (pa_cons (pv 0) (pa_cons (pe_bltn (v := .ty "str") (u := .type "str") (by rfl) T.n_str (by decide +kernel) rfl) pa_nil))))) (pss_one (ps_raiseBt rfl T.bt hr (takes_of rfl rfl rfl rfl) (pa_cons pe_int (pa_cons pe_int pa_nil)))) pss_nil)
      (pss_cons (ps_set (i := 1) sc.nd rfl (Or.inl rfl) (pe_mkG G_Cursor___init__ T.mk_Cursor T.cl_Cursor.g (hr.mono (by omega)) pass0 (pa_cons (pe_g G_pieces_of (hr.mono (by omega)) pass0 (pa_cons (pv 0) pa_nil)) pa_nil)))
      (pss_cons (ps_expr (pe_gm (pv 1) T.cl_Cursor.c G_Cursor_want (hr.mono (by omega)) (passes_call (takes_of rfl rfl rfl rfl) (fun _ _ _ _ h => h)) (pa_cons pe_str pa_nil)))
      (pss_cons (ps_asg (pe_gm (pv 1) T.cl_Cursor.c G_Cursor_want (hr.mono (by omega)) (passes_call (takes_of rfl rfl rfl rfl) (fun _ _ _ _ h => h)) (pa_cons (pe_gstr T.c_NAME) pa_nil)) (pg_tup rfl (pgs_cons (pg_name (i := 4) sc.nd rfl (Or.inl rfl)) (pgs_cons (pg_name (i := 5) sc.nd rfl (Or.inl rfl)) (pgs_cons (pg_name (i := 6) sc.nd rfl (Or.inl rfl)) pgs_nil)))))
      (pss_cons (ps_expr (pe_gm (pv 1) T.cl_Cursor.c G_Cursor_want (hr.mono (by omega)) (passes_call (takes_of rfl rfl rfl rfl) (fun _ _ _ _ h => h)) (pa_cons pe_str pa_nil)))
      (pss_cons (ps_set (i := 2) sc.nd rfl (Or.inl rfl) (pe_lst pa_nil))
      (pss_cons (ps_while (passes_of rfl) (pt_cmpR op_eq (pe_gm0 (pv 1) T.cl_Cursor.c G_Cursor_ahead (hr.mono (by omega)) pass0) pe_str (nomark _)) (pss_cons (ps_expr (pe_gm0 (pv 1) T.cl_Cursor.c G_Cursor_take (hr.mono (by omega)) pass0))
      (pss_cons (ps_asg (pe_gm (pv 1) T.cl_Cursor.c G_Cursor_want (hr.mono (by omega)) (passes_call (takes_of rfl rfl rfl rfl) (fun _ _ _ _ h => h)) (pa_cons (pe_gstr T.c_NAME) pa_nil)) (pg_tup rfl (pgs_cons (pg_name (i := 4) sc.nd rfl (Or.inl rfl)) (pgs_cons (pg_name (i := 7) sc.nd rfl (Or.inl rfl)) (pgs_cons (pg_name (i := 8) sc.nd rfl (Or.inl rfl)) pgs_nil)))))
      (pss_cons (ps_expr (pe_gm (pv 1) T.cl_Cursor.c G_Cursor_want (hr.mono (by omega)) (passes_call (takes_of rfl rfl rfl rfl) (fun _ _ _ _ h => h)) (pa_cons pe_str pa_nil)))
      (pss_one (ps_expr (pe_bm PySem.F.plainAttrs_list PySem.F.slot_list_append PySem.F.type_list_append mt_append (pv 2) (pa_cons (pe_tup (pa_cons (pv 7) (pa_cons (pv 8) pa_nil))) pa_nil))))))))
      (pss_cons (ps_set (i := 3) sc.nd rfl (Or.inl rfl) (pe_lst pa_nil))
      (pss_cons (ps_while (passes_of rfl) (pt_cmpR op_ne (pe_gm0 (pv 1) T.cl_Cursor.c G_Cursor_ahead (hr.mono (by omega)) pass0) (pe_gstr T.c_END) (nomark _)) (pss_one (ps_expr (pe_bm PySem.F.plainAttrs_list PySem.F.slot_list_append PySem.F.type_list_append mt_append (pv 3) (pa_cons (pe_g G__read_item (hr.mono (by omega)) (passes_call (takes_of rfl rfl rfl rfl) (fun _ _ _ _ h => h)) (pa_cons (pv 1) pa_nil)) pa_nil)))))
      (pss_one (ps_ret (pe_tup (pa_cons (pv 5) (pa_cons (pv 6) (pa_cons (pe_callTy call_tuple_of (by rfl) T.n_tuple (by decide +kernel) (pa_cons (pv 2) pa_nil)) (pa_cons (pe_callTy call_tuple_of (by rfl) T.n_tuple (by decide +kernel) (pa_cons (pv 3) pa_nil)) pa_nil)))))))))))))))), ?_⟩
  refine ⟨_, rfl, _, _, .type "str", .type "str", true, rfl, .ty _, .base (.str _), rfl, _, rfl, if_false_of rfl ?_⟩
  refine ⟨_, rfl, _, rfl, z, f1, r, rfl, hf, hz1, hz, hrl, hll, hlc, hlex, fun l ps H1 b1 hl htk => ?_⟩
  intro c dx hc hdx hne
  have hc1 : upd H1 dx (.own c) c = none := by rw [upd_ne hne.symm]; exact hc
  refine ⟨_, _, rfl, c, l, dx, rfl, rfl, upd_same, rfl, ?_⟩
  rw [upd_upd]
  have b2 : ButL [] H1 (upd (upd H1 dx (.own c)) c (.ins (CU K) dx (CuF l 0))) := (ButL.new hdx).trans (ButL.new hc1)
  have mu0 : Mu [] H1 := fun a ha => by cases ha
  have t0 : At K c l (upd (upd H1 dx (.own c)) c (.ins (CU K) dx (CuF l 0))) (upd (upd H1 dx (.own c)) c (.ins (CU K) dx (CuF l 0))) r :=
    At.begin (n := 0) ⟨⟨dx, upd_same⟩, ps, b2 _ _ hl (by simp), Tks.keep b2 mu0 htk, by omega⟩ hwf
  have hc00 := t0.c0
  have bk : ∀ H', ButL [c] (upd (upd H1 dx (.own c)) c (.ins (CU K) dx (CuF l 0))) H' → ButL [] H H' := by
    intro H' bb x o e hx
    have e1 := b1 x o e hx
    have xc : x ≠ c := ne_of_none e1 hc
    exact bb x o (b2 x o e1 hx) (by simpa using xc)
  have h' : Post (want 4 r >>= fun r => want 1 r >>= fun r => want 49 r >>= fun r => if hd r = 5 then .out else items f1 f1 r) (fun _ => ∀ v H', ButL [] H H' → Q v H') (Bad (CB K) [c] (upd (upd H1 dx (.own c)) c (.ins (CU K) dx (CuF l 0))) E) :=
    post_mono h (fun _ z => z) (fun l k z d H' b e => z d H' (bk H' b) e)
  try dsimp only [L2.tNext, L2.tSeq, L2.tDrop, L2.tRet, L2.tIfS, L2.tAsg, L2.gName]
  refine ra_want (s := 4) (fun Q q => ⟨_, rfl, q⟩) (fun R q => q) (by decide) (by decide) t0 h' fun p3 z3 r3 H3 t3 b3 tk3 eq3 ez3 h3 => ?_
  try dsimp only [L2.tNext, L2.tSeq, L2.tDrop, L2.tRet, L2.tIfS, L2.tAsg, L2.gName]
  refine ra_want (s := 1) (fun Q q => ⟨_, rfl, q⟩) (fun R q => q) (by decide) (by decide) t3 h3 fun p4 z4 r4 H4 t4 b4 tk4 eq4 ez4 h4 => ?_
  obtain ⟨w0, q0, g1, g2, g3⟩ := tk4
  refine ⟨p4, _, rfl, SqT.of g1, rfl, _, _, rfl, _, _, rfl, _, _, rfl, rfl, ?_⟩
  try dsimp only [L2.tNext, L2.tSeq, L2.tDrop, L2.tRet, L2.tIfS, L2.tAsg, L2.gName]
  refine ra_want (s := 49) (fun Q q => ⟨_, rfl, q⟩) (fun R q => q) (by decide) (by decide) t4 h4 fun p5 z5 r5 H5 t5 b5 tk5 eq5 ez5 h5 => ?_
  refine ⟨Nat.zero_le _, fun qu hqu => ?_⟩
  have t6 := t5.laid (o := .lst []) hqu
  have hquc : qu ≠ c := t6.ne_lst upd_same
  have h5n : hd r5 ≠ 5 := fun y => by rw [if_pos y] at h5; exact h5
  rw [if_neg h5n] at h5
  refine ⟨fun m σ H' => σ = [some (.str z), some (.ref c), some (.ref qu), none, some (.str (srt z4.1)), some w0, some (.ref q0), none, none] ∧ H' = upd H5 qu (.lst []), ⟨0, rfl, rfl⟩, ?_⟩
  rintro m σ H' ⟨rfl, rfl⟩
  try dsimp only [L2.tNext, L2.tSeq, L2.tDrop, L2.tRet, L2.tIfS, L2.tAsg, L2.gName]
  refine ra_eq (fun Q q => ⟨_, rfl, q⟩) t6 5 (by decide) rfl (fun y => absurd y h5n) (fun _ => ?_)
  refine ⟨Nat.zero_le _, fun qi hqi => ?_⟩
  have t7 := t6.laid (o := .lst []) hqi
  have hqic : qi ≠ c := t7.ne_lst upd_same
  have hqi0 := t6.nothing hqi hc00
  have hqui : qu ≠ qi := ne_of_none upd_same hqi
  refine ⟨fun m σ H' => ∃ (r' : List Pc) (xs : List V), σ = [some (.str z), some (.ref c), some (.ref qu), some (.ref qi), some (.str (srt z4.1)), some w0, some (.ref q0), none, none] ∧ At K c l (upd (upd H1 dx (.own c)) c (.ins (CU K) dx (CuF l 0))) H' r' ∧ H' qu = some (.lst []) ∧ H' qi = some (.lst xs) ∧ xs.length + m ≤ 2000000 ∧
    Post (items f1 m r') (fun _ => ∀ v H', ButL [] H H' → Q v H') (Bad (CB K) [c] (upd (upd H1 dx (.own c)) c (.ins (CU K) dx (CuF l 0))) E), ⟨f1, r5, [], rfl, t7, ?_, upd_same, (by show 0 + f1 ≤ 2000000; have : f1 ≤ 1000000 := hf; omega), h5⟩, ?_⟩
  · rw [upd_ne hqui]; exact upd_same
  rintro m σ H8 ⟨r8, xs, rfl, t8, hu8, hi8, hm, h8⟩
  cases m with
  | zero => exact h8.elim
  | succ m =>
  have h9 : Post (if hd r8 ≠ 0 then item f1 r8 >>= fun r => items f1 m r else pure r8) (fun _ => ∀ v H', ButL [] H H' → Q v H') (Bad (CB K) [c] (upd (upd H1 dx (.own c)) c (.ins (CU K) dx (CuF l 0))) E) := h8
  try dsimp only [L2.tNext, L2.tSeq, L2.tDrop, L2.tRet, L2.tIfS, L2.tAsg, L2.gName]
  refine ra_ne (fun Q q => ⟨_, rfl, q⟩) t8 0 (by decide) rfl (fun y => ?_) (fun y => ?_)
  · rw [if_neg (fun z => z y)] at h9
    refine ⟨_, rfl, _, rfl, _, rfl, qu, [], rfl, .inl ⟨SqL.of hu8, fun pa hpa => ?_⟩⟩
    have e1 : upd H8 pa (.tup []) qi = some (.lst xs) := by
      rw [upd_ne (ne_of_none hi8 hpa)]; exact hi8
    refine ⟨_, rfl, qi, xs, rfl, .inl ⟨SqL.of e1, fun pb hpb => ⟨tup_le (by show 4 ≤ 4000000; decide), fun pc hpc => ?_⟩⟩⟩
    exact h9 _ _ (bk _ (((t8.laid hpa).laid hpb).laid hpc).b)
  · rw [if_pos y] at h9
    refine ⟨_, fun _ _ z => z, ?_⟩
    try dsimp only [L2.tNext, L2.tSeq, L2.tDrop, L2.tRet, L2.tIfS, L2.tAsg, L2.gName]
    refine ra_append (fun Q q => ⟨_, rfl, q⟩) hi8 ?_
    refine ⟨_, rfl, spG1.step (f := f1) t8 trivial hf h9 fun r10 v10 H10 t10 b10 h10 => ?_⟩
    have hi10 := b10.lst hi8 hqic
    refine ⟨_, xs, rfl, hi10, big_lists (by omega), m, Nat.lt_succ_self _, r10, _, rfl, t10.own (o' := .lst (xs ++ [v10])) hqi0 hi10 (by intro _ z; cases z) hqic, ?_, upd_same, (by rw [List.length_append]; show xs.length + 1 + m ≤ 2000000; omega), h10⟩
    rw [upd_ne hqui]
    exact b10.lst hu8 hquc
end
end Rd

namespace Rd
open PySem PySem.Spec PyProof.Rows L2 My Mir
theorem op_mul_str {X : Cx} : OpR X (binaryOp .Mult) (fun x y H Q => ∃ (z : Str) (n : Nat), x = .str z ∧ y = .int (n : Int) ∧ n ≤ 1000 ∧ z.length ≤ 1000 ∧ Q (.str ⟨(List.replicate n z.cps.toList).flatten.toArray⟩) H) := by
  intro pins s σ H x y v u Q I rx ry h
  obtain ⟨z, n, rfl, rfl, hn, hz, q⟩ := h
  obtain ⟨t, rfl⟩ := rx
  obtain ⟨t', rfl⟩ := ry
  have hzl : z.length * n ≤ 1000000 := Nat.le_trans (Nat.mul_le_mul hz hn) (by decide)
  have hlen := @len_str z
  have ef : ∀ n : Nat, ((List.replicate n z.cps).foldl (· ++ ·) #[] : Array Nat) = (List.replicate n z.cps.toList).flatten.toArray := by
    have eg : ∀ (n : Nat) (a : Array Nat), ((List.replicate n z.cps).foldl (· ++ ·) a : Array Nat) = a ++ (List.replicate n z.cps.toList).flatten.toArray := by
      intro n
      induction n with
      | zero => intro a; simp
      | succ n ih =>
        intro a
        rw [List.replicate_succ, List.foldl_cons, ih, List.replicate_succ, List.flatten_cons]
        apply Array.ext'
        simp
    intro n
    rw [eg n #[]]
    simp
  have fit : ∀ k : Nat, k ≤ 1000000 → k ≤ sizeLine := fun k hk => tup_le (by omega)
  refine PySem.P.mul_str ?_ ?_ ?_ ?_
  · rw [decide_eq_false (by omega), decide_eq_false (by omega)]; rfl
  · intro h1 _ h3
    have h4 : (1 : Int) ≤ n := by omega
    have h5 : (z.length : Int) * n ≤ 1000000 := by
      have := Int.ofNat_le.mpr hzl
      rw [Int.natCast_mul] at this
      exact this
    have h6 : (z.length : Int) ≤ (2 ^ 63 - 1) / n := (Int.le_ediv_iff_mul_le (by omega)).mpr (by omega)
    omega
  · intro _ _
    have : ((n : Int)).toNat = n := Int.toNat_natCast n
    rw [this]
    unfold Builtin.Str.tooLong
    exact decide_eq_false (by have := fit _ hzl; omega)
  · by_cases h0 : (n : Int) < 1
    · have hn0 : n = 0 := by omega
      subst hn0
      rw [if_pos h0]
      exact ⟨Nat.zero_le _, ⟨.str Str.empty, H, I.tok _, ⟨_, rfl⟩, q⟩⟩
    · rw [if_neg h0]
      by_cases h1 : ((n : Int) == 1 || z.length == 0) = true
      · rw [if_pos h1]
        have e : (⟨(List.replicate n z.cps.toList).flatten.toArray⟩ : Str) = z := by
          rw [Bool.or_eq_true] at h1
          rcases h1 with h1 | h1
          · have : n = 1 := by
              have := beq_iff_eq.mp h1
              omega
            subst this
            simp
          · have h2 : z.cps.toList = [] := List.eq_nil_of_length_eq_zero (by have := beq_iff_eq.mp h1; omega)
            have h3 : z = ⟨#[]⟩ := by
              obtain ⟨a⟩ := z
              have : a.toList = [] := h2
              have : a = #[] := by apply Array.ext'; exact this
              rw [this]
            rw [h2, h3]
            simp
        rw [e] at q
        exact ⟨.str z, H, I, ⟨_, rfl⟩, q⟩
      · rw [if_neg h1]
        have : ((n : Int)).toNat = n := Int.toNat_natCast n
        rw [this, ef n]
        refine ⟨?_, ⟨.str _, H, I.tok _, ⟨_, rfl⟩, q⟩⟩
        show (List.replicate n z.cps.toList).flatten.toArray.size ≤ sizeLine
        rw [List.size_toArray, List.length_flatten, List.map_replicate, List.sum_replicate_nat, ← hlen, Nat.mul_comm]
        exact fit _ hzl
section
variable {P : Program} {w : World} {K : PySem.W.Frag} {mg : Str → Option Value} {base : Heap}

end
end Rd

namespace Rd
open PySem PySem.Spec PyProof.Rows L2 My Mir
def sp__law_wrong (K : PySem.W.Frag) : Sp := sp1 fun x H Q _ => ∃ (z : Str) (due : Option (Nat × Nat)), x = .str z ∧ okB z.cps.toList due = true ∧ (due = none → ∀ H', ButL [] H H' → Q .non H') ∧
  ∀ l k : Nat, due = some (l, k) → ∀ (p : Addr) (H' : Hp), ButL [] H H' → H' p = some (.tup [.int (l : Int), .int (k : Int)]) → Q (.ref p) H'
theorem okB_ok {cs : List Nat} {due : Option (Nat × Nat)} (h : okB cs due = true) : ∃ r, lexT 500 cs = some r ∧ Wf r ∧ outB due (modul 500 r) = true ∧ r.length ≤ 1000000 ∧ 1 ≤ cs.length ∧ cs.length ≤ 1000000 ∧ (linesL cs).length ≤ 1000000 ∧ ∀ l, l ∈ linesL cs → l.length ≤ 1000000 := by
  unfold okB at h
  cases e : lexT 500 cs with
  | none => rw [e] at h; cases h
  | some r =>
    rw [e] at h
    have h1 : (wfB r && outB due (modul 500 r) && Nat.ble r.length 1000000 && Nat.ble 1 cs.length && Nat.ble cs.length 1000000 && Nat.ble (linesL cs).length 1000000 && (linesL cs).all fun l => Nat.ble l.length 1000000) = true := h
    simp only [Bool.and_eq_true] at h1
    obtain ⟨⟨⟨⟨⟨⟨h1, h2⟩, h3⟩, h4⟩, h5⟩, h6⟩, h7⟩ := h1
    exact ⟨r, rfl, wfB_ok h1, h2, Nat.le_of_ble_eq_true h3, Nat.le_of_ble_eq_true h4, Nat.le_of_ble_eq_true h5, Nat.le_of_ble_eq_true h6, fun l hl => Nat.le_of_ble_eq_true (List.all_eq_true.mp h7 l hl)⟩
def Dr (H : Hp) (d s : Addr) (ns : List Int) (n : Int) : Prop := H d = some (.lst [.ref s, .int 0, .int n]) ∧ H s = some (.lst (ns.map V.int))
def But (d : Addr) (H H' : Hp) : Prop := ∀ b o, H b = some o → b ≠ d → H' b = some o
def sp__law_cell_at (K : PySem.W.Frag) : Sp := sp2 fun a b H Q _ => ∃ (l : Addr) (ns : List Int) (k : Int), a = .ref l ∧ b = .int k ∧ SqL K H l (ns.map V.int) ∧ 0 ≤ k ∧ k < 2 ^ 62 ∧ ∀ v : Int, Q (.int v) H
def sp__law_draw (K : PySem.W.Frag) : Sp := sp3 fun x y z H Q _ => ∃ c k b : Int, x = .int c ∧ y = .int k ∧ z = .int b ∧ (-(2 ^ 63) < c ∧ c < 2 ^ 63) ∧ 0 ≤ k ∧ k < 2 ^ 62 ∧ 0 < b ∧ ∀ (r : Int) (H' : Hp), 0 ≤ r → r < b → Same H H' → Q (.int r) H'
def sp__law_number (K : PySem.W.Frag) : Sp := sp3 fun x y z H Q _ => ∃ c k b : Int, x = .int c ∧ y = .int k ∧ z = .int b ∧ 0 ≤ k ∧ k ≤ 1000 ∧ 0 < b ∧ ∀ (r : Int) (H' : Hp), 0 ≤ r → r < b → Same H H' → Q (.int r) H'
def sp__law_next (K : PySem.W.Frag) : Sp := sp2 fun x y H Q _ => ∃ (d s : Addr) (ns : List Int) (n b : Int), x = .ref d ∧ y = .int b ∧ H d = some (.lst [.ref s, .int 0, .int n]) ∧ H s = some (.lst (ns.map V.int)) ∧ 0 ≤ n ∧ n ≤ 1000000 ∧ 0 < b ∧
  ∀ (r : Int) (H' : Hp), 0 ≤ r → r < b → But d H H' → H' d = some (.lst [.ref s, .int 0, .int (n + 1)]) → Q (.int r) H'
def sp__law_pick (K : PySem.W.Frag) : Sp := sp2 fun x y H Q _ => ∃ (d s : Addr) (ns : List Int) (n : Int) (t : Addr) (xs : List V), x = .ref d ∧ y = .ref t ∧ H d = some (.lst [.ref s, .int 0, .int n]) ∧ H s = some (.lst (ns.map V.int)) ∧ 0 ≤ n ∧ n ≤ 1000000 ∧ H t = some (.lst xs) ∧ t ≠ d ∧ xs ≠ [] ∧
  ∀ (v : V) (H' : Hp), v ∈ xs → But d H H' → H' d = some (.lst [.ref s, .int 0, .int (n + 1)]) → Q v H'
section
variable {P : Program} {w : World} {K : PySem.W.Frag} {mg : Str → Option Value} {base : Heap}
theorem sc__law_cell_at : FnScope ["script", "k"] ["script", "k"] (defScope s__law_cell_at) := ⟨rfl, rfl, rfl, by decide +kernel, rfl, by decide +kernel, by decide +kernel⟩
theorem g__law_cell_at (T : Txt K mg w)  : Gd P w K mg base CX0 1 "_law_cell_at" ["script", "k"] (sp__law_cell_at K) := by
  have sc := sc__law_cell_at
  refine T.d__law_cell_at.ok sc len2 (fun _ _ _ _ _ _ us hl => match us, hl with | [_, _], _ => rfl) (fun f cdv A outer s H vs Q E hr h => ?_)
  obtain ⟨x0, x1, rfl, h⟩ := h
  obtain ⟨a, ns, k, rfl, rfl, hS, hk0, hk1, h⟩ := h
  refine ⟨_, (pss_cons (ps_if (pt_cmpR op_lt (pv 1) (pe_callB call_len_seq (by rfl) T.n_len PySem.boot_len (pa_cons (pv 0) pa_nil)) (nomark _)) (pss_one (ps_ret (pe_ix ix_list (pv 0) (pv 1) (fun _ _ => rfl)))) pss_nil)
      (pss_one (ps_ret pe_int))), ?_⟩
  refine ⟨_, rfl, _, rfl, a, ns.map V.int, rfl, Or.inl hS, _, _, rfl, rfl, _, rfl, ?_⟩
  by_cases c : k < ((ns.map V.int).length : Int)
  · refine if_true_of (decide_eq_true c) ?_
    have hl : k.toNat < ns.length := by rw [List.length_map] at c; omega
    refine ⟨_, rfl, _, rfl, a, ns.map V.int, k, V.int ns[k.toNat], rfl, rfl, hS, at_of (j := k.toNat) (by omega) (by rw [List.getElem?_map, List.getElem?_eq_getElem hl] <;> rfl), h _⟩
  · refine if_false_of (decide_eq_false c) ?_
    exact h 0
theorem sc__law_draw : FnScope ["cell", "k", "bound", "primes"] ["cell", "k", "bound"] (defScope s__law_draw) := ⟨rfl, rfl, rfl, by decide +kernel, rfl, by decide +kernel, by decide +kernel⟩
theorem g__law_draw (T : Txt K mg w)  : Gd P w K mg base CX0 1 "_law_draw" ["cell", "k", "bound"] (sp__law_draw K) := by
  have sc := sc__law_draw
  refine T.d__law_draw.ok sc len3 (fun _ _ _ _ _ _ us hl => match us, hl with | [_, _, _], _ => rfl) (fun f cdv A outer s H vs Q E hr h => ?_)
  obtain ⟨x0, x1, x2, rfl, h⟩ := h
  obtain ⟨c, k, b, rfl, rfl, rfl, hc, hk0, hk1, hb, h⟩ := h
  refine ⟨_, (pss_cons (ps_set (i := 3) sc.nd rfl (Or.inl rfl) (pe_tup (pa_cons pe_int (pa_cons pe_int (pa_cons pe_int (pa_cons pe_int (pa_cons pe_int (pa_cons pe_int (pa_cons pe_int (pa_cons pe_int (pa_cons pe_int (pa_cons pe_int (pa_cons pe_int (pa_cons pe_int (pa_cons pe_int (pa_cons pe_int (pa_cons pe_int (pa_cons pe_int pa_nil))))))))))))))))))
      (pss_one (ps_ret (pe_op op_mod (pe_op op_mod (pe_callTy call_int1 (by rfl) T.n_int (by decide +kernel) (pa_cons (pe_op op_add (pe_op op_mul (pv 0) pe_int) (pe_op op_mul (pv 1) pe_int)) pa_nil)) (pe_ix ix_tup (pv 3) (pe_op op_mod (pe_callTy call_int1 (by rfl) T.n_int (by decide +kernel) (pa_cons (pv 1) pa_nil)) pe_int) (fun _ _ => rfl))) (pv 2))))), ?_⟩
  refine ⟨(by show 16 ≤ sizeLine; decide), fun p hp => ?_⟩
  refine ⟨_, rfl, _, _, rfl, rfl, Or.inr ⟨by decide, by decide⟩, _, rfl, _, _, rfl, rfl, Or.inr ⟨by decide, by decide⟩, _, _, rfl, rfl, Or.inl ⟨_, rfl, ?_⟩⟩
  refine ⟨_, rfl, _, rfl, Or.inl ⟨_, rfl, ?_⟩⟩
  refine ⟨_, _, rfl, rfl, (by show (0 : Int) < 16; decide), ?_⟩
  obtain ⟨j, hj, ej⟩ : ∃ j : Nat, j < 16 ∧ k % 16 = (j : Int) := ⟨(k % 16).toNat, by omega, by omega⟩
  obtain ⟨q, hq, hq0⟩ : ∃ q : Int, ([.int 1000003, .int 1000033, .int 1000037, .int 1000039, .int 1000081, .int 1000099, .int 1000117, .int 1000121, .int 1000133, .int 1000151, .int 1000159, .int 1000171, .int 1000183, .int 1000187, .int 1000193, .int 1000199] : List V)[j]? = some (.int q) ∧ 0 < q := by
    have : ∀ j : Nat, j < 16 → ∃ q : Int, ([.int 1000003, .int 1000033, .int 1000037, .int 1000039, .int 1000081, .int 1000099, .int 1000117, .int 1000121, .int 1000133, .int 1000151, .int 1000159, .int 1000171, .int 1000183, .int 1000187, .int 1000193, .int 1000199] : List V)[j]? = some (.int q) ∧ 0 < q := by
      intro j hj
      match j, hj with
      | 0, _ | 1, _ | 2, _ | 3, _ | 4, _ | 5, _ | 6, _ | 7, _ | 8, _ | 9, _ | 10, _ | 11, _ | 12, _ | 13, _ | 14, _ | 15, _ => exact ⟨_, rfl, by decide⟩
      | n + 16, h => omega
    exact this j hj
  refine ⟨p, _, _, _, rfl, rfl, SqT.of upd_same, at_of ej hq, ?_⟩
  refine ⟨_, _, rfl, rfl, hq0, _, rfl, _, _, rfl, rfl, hb, ?_⟩
  exact h _ _ (Int.emod_nonneg _ (by omega)) (Int.emod_lt_of_pos _ hb) (fun x o e => by rw [upd_ne (ne_of_none e hp)]; exact e)
theorem sc__law_number : FnScope ["cell", "k", "bound", "power", "lap", "remains", "small"] ["cell", "k", "bound"] (defScope s__law_number) := ⟨rfl, rfl, rfl, by decide +kernel, rfl, by decide +kernel, by decide +kernel⟩
theorem g__law_number (T : Txt K mg w) (G__law_draw : Gd P w K mg base CX0 1 "_law_draw" ["cell", "k", "bound"] (sp__law_draw K)) : Gd P w K mg base CX0 2 "_law_number" ["cell", "k", "bound"] (sp__law_number K) := by
  have sc := sc__law_number
  refine T.d__law_number.ok sc len3 (fun _ _ _ _ _ _ us hl => match us, hl with | [_, _, _], _ => rfl) (fun f cdv A outer s H vs Q E hr h => ?_)
  obtain ⟨x0, x1, x2, rfl, h⟩ := h
  obtain ⟨c, k, b, rfl, rfl, rfl, hk0, hk1, hb, h⟩ := h
  refine ⟨_, (pss_cons (ps_set (i := 3) sc.nd rfl (Or.inl rfl) pe_int)
      (pss_cons (ps_for PassesOwn.never rfl (pi_range1 rfl T.n_range (pa_cons (pe_op op_mod (pe_callTy call_int1 (by rfl) T.n_int (by decide +kernel) (pa_cons (pv 1) pa_nil)) pe_int) pa_nil)) (pg_name (i := 4) sc.nd rfl (Or.inl rfl)) (pss_one (ps_set (i := 3) sc.nd rfl (Or.inl rfl) (pe_op op_mul (pv 3) pe_int))))
      (pss_cons (ps_set (i := 5) sc.nd rfl (Or.inl rfl) (pe_op op_fdivW (pe_op op_sub (pv 0) (pe_op op_pow pe_int pe_int)) (pv 3)))
      (pss_cons (ps_if (pt_cmpR op_gt (pv 5) pe_int (nomark _)) (pss_one (ps_ret (pe_op op_mod (pe_op op_mod (pe_callTy call_int1 (by rfl) T.n_int (by decide +kernel) (pa_cons (pv 5) pa_nil)) pe_int) (pv 2)))) pss_nil)
      (pss_cons (ps_set (i := 6) sc.nd rfl (Or.inl rfl) (pe_op op_mod (pe_callTy call_int1 (by rfl) T.n_int (by decide +kernel) (pa_cons (pv 0) pa_nil)) pe_int))
      (pss_one (ps_ret (pe_op op_mod (pe_g G__law_draw (hr.mono (by omega)) pass0 (pa_cons (pe_op op_mul (pe_op op_add (pv 6) (pe_op op_mul pe_int (pv 1))) (pe_op op_add (pe_op op_add (pv 6) (pe_op op_mul pe_int (pv 1))) pe_int)) (pa_cons (pe_op op_add (pe_op op_mod (pe_callTy call_int1 (by rfl) T.n_int (by decide +kernel) (pa_cons (pv 1) pa_nil)) pe_int) pe_int) (pa_cons pe_int pa_nil)))) (pv 2))))))))), ?_⟩
  refine ⟨_, rfl, Or.inl ⟨_, rfl, ?_⟩⟩
  refine ⟨_, _, rfl, rfl, (by show (0 : Int) < 24; decide), k % 24, rfl, by omega, by omega, ?_⟩
  refine for_range (n := (k % 24).toNat) (fun i σ H' => H' = H ∧ ∃ v : Option V, σ = [some (.int c), some (.int k), some (.int b), some (.int (1009 ^ i)), v, none, none]) ⟨rfl, _, rfl⟩ ?_ ?_
  · rintro i σ H' hi ⟨rfl, v, rfl⟩
    refine ⟨_, rfl, _, _, rfl, rfl, Or.inr ⟨by decide, by decide⟩, rfl, some (.int (0 + (i : Int))), ?_⟩
    show _ = ([some (.int c), some (.int k), some (.int b), some (.int (1009 ^ (i + 1))), some (.int (0 + (i : Int))), none, none] : List (Option V))
    rw [Int.pow_succ]
    all_goals rfl
  · rintro σ H' ⟨rfl, v, rfl⟩
    have hj : (k % 24).toNat < 24 := by omega
    have hp : (0 : Int) < 1009 ^ (k % 24).toNat := Int.pow_pos (by decide)
    have hpb : ((1009 : Int) ^ (k % 24).toNat).natAbs < 2 ^ 240 := by
      rw [Int.natAbs_pow]
      exact Nat.lt_of_le_of_lt (Nat.pow_le_pow_right (by decide) (show (k % 24).toNat ≤ 23 by omega)) (by decide : (1009 : Int).natAbs ^ 23 < 2 ^ 240)
    refine ⟨_, rfl, _, _, rfl, rfl, ⟨by decide, by decide, by decide⟩, _, _, rfl, rfl, _, rfl, _, _, rfl, rfl, wide_div hp hpb (by decide) (by decide), ?_⟩
    refine ⟨_, rfl, _, _, rfl, rfl, _, rfl, ?_⟩
    refine ite2 (fun _ => ?_) (fun _ => ?_)
    · refine ⟨_, rfl, Or.inl ⟨_, rfl, ?_⟩⟩
      refine ⟨_, _, rfl, rfl, (by show (0 : Int) < 1009; decide), _, rfl, _, _, rfl, rfl, hb, ?_⟩
      exact h _ _ (Int.emod_nonneg _ (by omega)) (Int.emod_lt_of_pos _ hb) (fun _ _ e => e)
    · refine ⟨_, rfl, Or.inl ⟨_, rfl, ?_⟩⟩
      refine ⟨_, _, rfl, rfl, (by show (0 : Int) < 1000003; decide), ?_⟩
      have h1 : 0 ≤ c % 1000003 := Int.emod_nonneg _ (by decide)
      have h2 : c % 1000003 < 1000003 := Int.emod_lt_of_pos _ (by decide)
      refine ⟨_, rfl, _, rfl, _, _, rfl, rfl, Or.inr ⟨by omega, by omega⟩, _, _, rfl, rfl, ?_⟩
      refine ⟨_, rfl, _, rfl, _, _, rfl, rfl, Or.inr ⟨by omega, by omega⟩, _, _, rfl, rfl, _, _, rfl, rfl, _, _, rfl, rfl, Or.inl ⟨by omega, by omega⟩, ?_⟩
      refine ⟨_, rfl, Or.inl ⟨_, rfl, ?_⟩⟩
      refine ⟨_, _, rfl, rfl, (by show (0 : Int) < 9; decide), _, _, rfl, rfl, ?_⟩
      refine ⟨_, _, _, rfl, _, _, _, rfl, rfl, rfl, ?_, by omega, by omega, by decide, fun r H1 hr0 hr1 e1 => ?_⟩
      · constructor
        · have := Int.mul_nonneg (show 0 ≤ c % 1000003 + 977 * k by omega) (show 0 ≤ c % 1000003 + 31 * k + 5 by omega); omega
        · have := Int.mul_le_mul (show c % 1000003 + 977 * k ≤ 3000003 by omega) (show c % 1000003 + 31 * k + 5 ≤ 3000003 by omega) (by omega) (by omega); omega
      refine ⟨_, rfl, _, _, rfl, rfl, hb, ?_⟩
      exact h _ _ (Int.emod_nonneg _ (by omega)) (Int.emod_lt_of_pos _ hb) e1
theorem sc__law_next : FnScope ["draw", "bound", "at", "cell"] ["draw", "bound"] (defScope s__law_next) := ⟨rfl, rfl, rfl, by decide +kernel, rfl, by decide +kernel, by decide +kernel⟩
theorem g__law_next (T : Txt K mg w) (G__law_cell_at : Gd P w K mg base CX0 1 "_law_cell_at" ["script", "k"] (sp__law_cell_at K)) (G__law_number : Gd P w K mg base CX0 2 "_law_number" ["cell", "k", "bound"] (sp__law_number K)) : Gd P w K mg base CX0 3 "_law_next" ["draw", "bound"] (sp__law_next K) := by
  have sc := sc__law_next
  refine T.d__law_next.ok sc len2 (fun _ _ _ _ _ _ us hl => match us, hl with | [_, _], _ => rfl) (fun f cdv A outer s H vs Q E hr h => ?_)
  obtain ⟨x0, x1, rfl, h⟩ := h
  obtain ⟨d, s, ns, n, b, rfl, rfl, hd, hs, hn0, hn1, hb, h⟩ := h
  refine ⟨_, (pss_cons (ps_asg (pe_op op_add (pe_ix ix_list (pv 0) pe_int (fun _ _ => rfl)) pe_int) (pg_sub (pv 0) pe_int set_list))
      (pss_cons (ps_set (i := 2) sc.nd rfl (Or.inl rfl) (pe_op op_fdiv (pe_ix ix_list (pv 0) pe_int (fun _ _ => rfl)) pe_int))
      (pss_cons (ps_set (i := 3) sc.nd rfl (Or.inl rfl) (pe_op op_add (pe_g G__law_cell_at (hr.mono (by omega)) pass0 (pa_cons (pe_ix ix_list (pv 0) pe_int (fun _ _ => rfl)) (pa_cons (pe_op op_add (pe_ix ix_list (pv 0) pe_int (fun _ _ => rfl)) (pv 2)) pa_nil))) (pe_op op_mul pe_int (pv 2))))
      (pss_one (ps_ret (pe_g G__law_number (hr.mono (by omega)) pass0 (pa_cons (pv 3) (pa_cons (pe_op op_add (pe_op op_mod (pe_callTy call_int1 (by rfl) T.n_int (by decide +kernel) (pa_cons (pe_ix ix_list (pv 0) pe_int (fun _ _ => rfl)) pa_nil)) pe_int) pe_int) (pa_cons (pv 1) pa_nil))))))))), ?_⟩
  have hds : d ≠ s := ne_of hd hs (by intro z; cases ns <;> cases z)
  refine ⟨_, rfl, d, _, _, _, rfl, rfl, SqL.of hd, at_of (j := 2) rfl rfl, _, _, rfl, rfl, _, rfl, d, _, _, 2, rfl, rfl, hd, rfl, ?_⟩
  show ∃ v, _ ∧ _
  refine ⟨_, rfl, d, _, _, _, rfl, rfl, SqL.of upd_same, at_of (j := 2) rfl rfl, _, _, rfl, rfl, ⟨by decide, by decide⟩, ?_⟩
  refine ⟨_, rfl, d, _, _, _, rfl, rfl, SqL.of upd_same, at_of (j := 0) rfl rfl, _, rfl, d, _, _, _, rfl, rfl, SqL.of upd_same, at_of (j := 1) rfl rfl, _, rfl, _, _, rfl, rfl, ?_⟩
  refine ⟨_, _, rfl, _, ns, _, rfl, rfl, SqL.of (by rw [upd_ne hds.symm]; exact hs), by omega, by omega, fun v => ?_⟩
  refine ⟨_, rfl, _, _, rfl, rfl, Or.inr ⟨by omega, by omega⟩, _, _, rfl, rfl, ?_⟩
  refine ⟨_, rfl, _, rfl, d, _, _, _, rfl, rfl, SqL.of upd_same, at_of (j := 2) rfl rfl, Or.inl ⟨_, rfl, ?_⟩⟩
  refine ⟨_, _, rfl, rfl, (by show (0 : Int) < 12; decide), _, _, rfl, rfl, _, rfl, ?_⟩
  refine ⟨_, _, _, rfl, _, _, _, rfl, rfl, rfl, by omega, by omega, hb, fun r H1 h0 h1 e1 => ?_⟩
  refine h r H1 h0 h1 (fun x o e hx => e1 _ _ (by rw [upd_ne hx]; exact e)) ?_
  exact e1 _ _ upd_same
theorem sc__law_pick : FnScope ["draw", "things"] ["draw", "things"] (defScope s__law_pick) := ⟨rfl, rfl, rfl, by decide +kernel, rfl, by decide +kernel, by decide +kernel⟩
theorem g__law_pick (T : Txt K mg w) (G__law_next : Gd P w K mg base CX0 3 "_law_next" ["draw", "bound"] (sp__law_next K)) : Gd P w K mg base CX0 4 "_law_pick" ["draw", "things"] (sp__law_pick K) := by
  have sc := sc__law_pick
  refine T.d__law_pick.ok sc len2 (fun _ _ _ _ _ _ us hl => match us, hl with | [_, _], _ => rfl) (fun f cdv A outer s H vs Q E hr h => ?_)
  obtain ⟨x0, x1, rfl, h⟩ := h
  obtain ⟨d, s, ns, n, t, xs, rfl, rfl, hd, hs, hn0, hn1, ht, hdt, hx, h⟩ := h
  refine ⟨_, (pss_one (ps_ret (pe_ix ix_list (pv 1) (pe_g G__law_next (hr.mono (by omega)) pass0 (pa_cons (pv 0) (pa_cons (pe_callB call_len_seq (by rfl) T.n_len PySem.boot_len (pa_cons (pv 1) pa_nil)) pa_nil))) (fun _ _ => rfl)))), ?_⟩
  have hl : 0 < xs.length := List.length_pos_iff.mpr hx
  refine ⟨_, rfl, _, rfl, _, rfl, t, xs, rfl, Or.inl (SqL.of ht), ?_⟩
  refine ⟨_, _, rfl, d, s, ns, n, _, rfl, rfl, hd, hs, hn0, hn1, by omega, fun r H1 h0 h1 e1 e2 => ?_⟩
  have hj : r.toNat < xs.length := by omega
  refine ⟨t, xs, r, xs[r.toNat], rfl, rfl, SqL.of (e1 _ _ ht hdt), at_of (j := r.toNat) (by omega) (List.getElem?_eq_getElem hj), ?_⟩
  exact h _ H1 (List.getElem_mem hj) e1 e2
theorem sc__law_wrong : FnScope ["text", "error"] ["text"] (defScope s__law_wrong) := ⟨rfl, rfl, rfl, by decide +kernel, rfl, by decide +kernel, by decide +kernel⟩
theorem g__law_wrong (T : Txt K mg w) (G_read_module : Gd P w K mg base (L2.CX P w) 174 "read_module" ["text"] (sp_read_module K)) : Gd P w K mg base CX0 175 "_law_wrong" ["text"] (sp__law_wrong K) := by
  have sc := sc__law_wrong
  refine T.d__law_wrong.ok sc len1 (fun _ _ _ _ _ _ us hl => match us, hl with | [_], _ => rfl) (fun f cdv A outer s H vs Q E hr h => ?_)
  obtain ⟨x0, rfl, h⟩ := h
  obtain ⟨z, due, rfl, hok, hn, hs⟩ := h
  refine ⟨_, (pss_one (ps_try_got (i := 1) (n := "error") (c := .ref (CB K)) (tb := fun W => tDrop (tCallG (sp_read_module K) (fun cls d H => ∀ σ, W cls d σ H) (tCons (tVar 0) tNil)))
      (pss_one (ps_ret pe_non)) rfl rfl sc.nd rfl rfl ⟨rfl, by decide, .inl T.bt.gC⟩
      (fun W pn xe tk po => pss_one (ps_expr (pe_g G_read_module (hr.mono (by omega)) (passes_call tk (fun cls d σ H h => h σ)) (pa_cons (pv 0) pa_nil))))
      (fun a oe cls d pn hz hf => pss_one (ps_ret (pe_tup (pa_cons (pe_fldBt T.bt T.noL hz hf (pv 1)) (pa_cons (pe_fldBt T.bt T.noC hz hf (pv 1)) pa_nil))))))), ?_⟩
  obtain ⟨r, h1, h2, h3, h4, h5, h6, h7, h8⟩ := okB_ok hok
  have hl := @len_str z
  refine ⟨_, rfl, _, rfl, z, 500, r, rfl, (by decide), (by omega), (by omega), h4, h7, h8, h1, h2, ?_⟩
  cases e : modul 500 r with
  | ok r' =>
    rw [e] at h3
    have hd : due = none := by cases due with
      | none => rfl
      | some p => cases h3
    exact fun v H' b => hn hd H' b
  | bad l k =>
    rw [e] at h3
    have hd : due = some (l, k) := by
      cases due with
      | none => cases h3
      | some p =>
        obtain ⟨a, b⟩ := p
        have h9 : (Nat.beq l a && Nat.beq k b) = true := h3
        rw [Bool.and_eq_true] at h9
        rw [Nat.eq_of_beq_eq_true h9.1, Nat.eq_of_beq_eq_true h9.2]
    intro d H' b hx σ
    refine ⟨T.bt.te, fun a ha => ?_⟩
    refine ⟨_, rfl, rfl, rfl, d, _, _, rfl, hx, bt_line _ _, _, rfl, rfl, rfl, d, _, _, rfl, hx, bt_col _ _, tup_le (by show 2 ≤ 4000000; decide), fun p hp => ?_⟩
    exact hs l k hd p _ (b.trans (ButL.new hp)) upd_same
  | out =>
    rw [e] at h3
    cases h3
end
end Rd

namespace Rd
open PySem PySem.Spec PyProof.Rows L2 My Mir
def sp_law (K : PySem.W.Frag) : Sp := sp1 fun x H Q _ => ∃ (l : Addr) (ns : List Int), x = .ref l ∧ SqL K H l (ns.map V.int) ∧ ∀ H' : Hp, Q (.bl true) H'
def DueAt (H : Hp) (x : V) : Option (Nat × Nat) → Prop
  | none => x = .non
  | some (l, k) => ∃ p, x = .ref p ∧ H p = some (.tup [.int (l : Int), .int (k : Int)])
theorem DueAt.keep {H H' : Hp} (b : ButL [] H H') : ∀ {due : Option (Nat × Nat)} {x : V}, DueAt H x due → DueAt H' x due
  | none, _, h => h
  | some (l, k), _, ⟨p, e, h⟩ => ⟨p, e, b _ _ h (by simp)⟩
theorem But.keep {d : Addr} {H H' : Hp} (b : But d H H') (hd : ∃ xs, H d = some (.lst xs)) : ∀ {due : Option (Nat × Nat)} {x : V}, DueAt H x due → DueAt H' x due
  | none, _, h => h
  | some (l, k), _, ⟨p, e, h⟩ => ⟨p, e, b _ _ h (by
    obtain ⟨xs, hx⟩ := hd
    exact ne_of h hx (by intro z; cases z))⟩
theorem ne_due {K : PySem.W.Frag} {H : Hp} {A B : Hp → Prop} : ∀ {due : Option (Nat × Nat)} {x y : V}, DueAt H x due → DueAt H y due → B H → rNeD K x y H (fun v H' => ∃ k, v = .bl k ∧ if k = true then A H' else B H')
  | none, _, _, hx, hy, h => by
    cases hx
    cases hy
    exact ⟨.none, .none, .non, .non, by decide, by decide, _, rfl, if_false_of rfl h⟩
  | some (l, k), _, _, ⟨p, e1, h1⟩, ⟨q, e2, h2⟩, h => by
    subst e1 e2
    refine ⟨.tuple [.int l, .int k], .tuple [.int l, .int k], .tup (SqT.of h1) (.cons (.int _) (.cons (.int _) .nil)), .tup (SqT.of h2) (.cons (.int _) (.cons (.int _) .nil)), rfl, rfl, _, rfl, if_false_of ?_ h⟩
    show (!(((l : Int) == l) && (((k : Int) == k) && true))) = false
    simp
theorem rw_wrong {K : PySem.W.Frag} {H : Hp} {Q : VK} {E : XK} {z : Str} {due : Option (Nat × Nat)} (hz : okB z.cps.toList due = true) (q : ∀ (x : V) (H' : Hp), ButL [] H H' → DueAt H' x due → Q x H') : sp__law_wrong K [.str z] H Q E :=
  ⟨_, rfl, z, due, rfl, hz, fun e H' b => q _ _ b (by rw [e]; rfl), fun l k e p H' b hp => q _ _ b (by rw [e]; exact ⟨p, rfl, hp⟩)⟩
theorem cat_l (x y : Str) : (x ++ y).cps.toList = x.cps.toList ++ y.cps.toList := by
  show (x.cps ++ y.cps).toList = _
  exact Array.toList_append
theorem rep_len (n : Nat) (l : List Nat) : (⟨(List.replicate n l).flatten.toArray⟩ : Str).length = n * l.length := by
  show (List.replicate n l).flatten.toArray.size = _
  rw [List.size_toArray, List.length_flatten, List.map_replicate, List.sum_replicate_nat]
theorem join_rep (s t : Str) : ∀ n, (Txt.join s (List.replicate (n + 1) t)).cps.toList = t.cps.toList ++ (List.replicate n (s.cps.toList ++ t.cps.toList)).flatten := by
  have key : ∀ n, (PySem.Str.join s (List.replicate (n + 1) t)).cps.toList = t.cps.toList ++ (List.replicate n (s.cps.toList ++ t.cps.toList)).flatten := by
    intro n
    induction n with
    | zero =>
      show t.cps.toList = _
      simp
    | succ n ih =>
      show (t ++ s ++ PySem.Str.join s (List.replicate (n + 1) t)).cps.toList = _
      rw [cat_l, cat_l, ih, List.replicate_succ, List.flatten_cons]
      simp
  intro n
  show (Builtin.Str.glued s _).cps.toList = _
  rw [StrLaws.glued_eq_join]
  exact key n
theorem lit_A : ("module m;\nint main() {\n" : Str).cps.toList = tA := by decide +kernel
theorem lit_B : ("\nreturn 0; }" : Str).cps.toList = tB := by decide +kernel
theorem lit_O : ("out(" : Str).cps.toList = tO := by decide +kernel
theorem lit_I : ("if (1) { } else\n" : Str).cps.toList = tI := by decide +kernel
theorem lit_E : ("{ }\nreturn 0; }" : Str).cps.toList = tE := by decide +kernel
theorem lit_1 : ("{" : Str).cps.toList = [123] ∧ ("}" : Str).cps.toList = [125] ∧ ("(" : Str).cps.toList = [40] ∧ (")" : Str).cps.toList = [41] ∧ ("1" : Str).cps.toList = [49] ∧ ("+" : Str).cps.toList = [43] ∧ (");" : Str).cps.toList = [41, 59] ∧ ("1);" : Str).cps.toList = [49, 41, 59] ∧ ("!" : Str).cps.toList = [33] ∧ ("-" : Str).cps.toList = [45] ∧ ("~" : Str).cps.toList = [126] := by decide +kernel
theorem len_lits : tA.length = 23 ∧ tB.length = 12 ∧ tO.length = 4 ∧ tI.length = 16 ∧ tE.length = 15 := by decide
theorem sml {x : Str} {n : Nat} (h : x.cps.toList.length ≤ n) (hn : n ≤ 1000) : x.length ≤ 1000 := by rw [len_str]; omega
theorem cut_ints (ns : List Int) (lo hi : Option Int) : ∃ ns' : List Int, cutV (ns.map V.int) lo hi = ns'.map V.int := by
  unfold cutV
  exact ⟨_, by rw [← List.map_drop, ← List.map_take]⟩
theorem ks {H H' : Hp} {a : Addr} {o : HO} (b : ButL [] H H') (h : H a = some o) : H' a = some o := b _ _ h (by simp)
theorem if_due {t : TT} {ta : TA} {c : Bool} {σ : L2.St} {H : Hp} {Q : VK} {due : Option (Nat × Nat)} (ht : ∀ R : Bool → Hp → Prop, R c H → t σ H R) (h1 : c = true → due = none)
    (h2 : c = false → ∃ l k : Nat, due = some (l, k) ∧ ∀ R : List V → Hp → Prop, R [.int (l : Int), .int (k : Int)] H → ta σ H R) (q : ∀ (x : V) (H' : Hp), ButL [] H H' → DueAt H' x due → Q x H') : tIf t (tC .non) (tTup ta) σ H Q := by
  refine ht _ ?_
  cases c with
  | true =>
    refine if_true_of rfl (q _ _ ButL.refl ?_)
    rw [h1 rfl]; rfl
  | false =>
    obtain ⟨l, k, e, hr⟩ := h2 rfl
    refine if_false_of rfl (hr _ ⟨tup_le (by show 2 ≤ 4000000; decide), fun p hp => q _ _ (ButL.new hp) ?_⟩)
    rw [e]
    exact ⟨p, rfl, upd_same⟩
theorem all_sigs {c : Nat} (hc : c = 33 ∨ c = 45 ∨ c = 126) : ∀ b, b < 12 → ∀ n, n < 9 → okB (tHead b ++ tSig c (115 + n) ++ tTail b) (if 115 + n < 120 then none else some (3, b + 4 + (115 + n) + 1)) = true := by
  rcases hc with rfl | rfl | rfl
  · exact all_sigs1
  · exact all_sigs2
  · exact all_sigs3
section
variable {P : Program} {w : World} {K : PySem.W.Frag} {mg : Str → Option Value} {base : Heap}
theorem sc_law : FnScope ["script", "draw", "head", "tail", "brackets", "line", "due", "many", "row", "signs", "chain", "text", "braces", "more"] ["script"] (defScope s_law) := ⟨rfl, rfl, rfl, by decide +kernel, rfl, by decide +kernel, by decide +kernel⟩
theorem g_law (T : Txt K mg w) (G__law_next : Gd P w K mg base CX0 3 "_law_next" ["draw", "bound"] (sp__law_next K)) (G__law_wrong : Gd P w K mg base CX0 175 "_law_wrong" ["text"] (sp__law_wrong K)) (G__law_pick : Gd P w K mg base CX0 4 "_law_pick" ["draw", "things"] (sp__law_pick K)) : Gd P w K mg base CX0 176 "law" ["script"] (sp_law K) := by
  have sc := sc_law
  refine T.d_law.ok sc len1 (fun _ _ _ _ _ _ us hl => match us, hl with | [_], _ => rfl) (fun f cdv A outer s H vs Q E hr h => ?_)
  obtain ⟨x0, rfl, h⟩ := h
  obtain ⟨l, ns, rfl, hS, h⟩ := h
  refine ⟨_, (pss_cons (ps_set (i := 1) sc.nd rfl (Or.inl rfl) (pe_lst (pa_cons (pe_slice sl_list (pv 0) po_none (po_some pe_int)) (pa_cons pe_int (pa_cons pe_int pa_nil)))))
      (pss_cons (ps_par (i := 12) (j := 13) (by rfl) sc.nd rfl rfl (by decide) rfl rfl (pa_cons (pe_g G__law_next (hr.mono (by omega)) pass0 (pa_cons (pv 1) (pa_cons pe_int pa_nil))) (pa_cons (pe_op op_add pe_int (pe_g G__law_next (hr.mono (by omega)) pass0 (pa_cons (pv 1) (pa_cons pe_int pa_nil)))) pa_nil)) (by rfl))
      (pss_cons (ps_set (i := 2) sc.nd rfl (Or.inl rfl) (pe_op op_add_str pe_str (pe_op op_mul_str pe_str (pv 12))))
      (pss_cons (ps_set (i := 3) sc.nd rfl (Or.inl rfl) (pe_op op_add_str (pe_op op_mul_str pe_str (pv 12)) pe_str))
      (pss_cons (ps_set (i := 4) sc.nd rfl (Or.inl rfl) (pe_callB (cr_max rfl) (by rfl) T.n_max (by decide +kernel) (pa_cons (pe_lst (pa_cons pe_int (pa_cons (pe_op op_sub (pv 13) (pv 12)) pa_nil))) pa_nil)))
      (pss_cons (ps_set (i := 5) sc.nd rfl (Or.inl rfl) (pe_op op_add_str (pe_op op_add_str (pe_op op_add_str (pe_op op_add_str pe_str (pe_op op_mul_str pe_str (pv 4))) pe_str) (pe_op op_mul_str pe_str (pv 4))) pe_str))
      (pss_cons (ps_set (i := 6) sc.nd rfl (Or.inl rfl) (pe_ifExp (pt_cmpR op_le (pe_op op_add (pv 12) (pv 4)) pe_int (nomark _)) pe_non (pe_tup (pa_cons pe_int (pa_cons (pe_op op_add (pe_op op_sub (pe_op op_add (pe_op op_add (pv 12) pe_int) pe_int) (pv 12)) pe_int) pa_nil)))))
      (pss_cons (ps_if (pt_cmpR (op_neD hr.units) (pe_g G__law_wrong (hr.mono (by omega)) pass0 (pa_cons (pe_op op_add_str (pe_op op_add_str (pv 2) (pv 5)) (pv 3)) pa_nil)) (pv 6) (nomark _)) (pss_one (ps_ret pe_bl)) pss_nil)
      (pss_cons (ps_set (i := 7) sc.nd rfl (Or.inl rfl) (pe_op op_add pe_int (pe_g G__law_next (hr.mono (by omega)) pass0 (pa_cons (pv 1) (pa_cons pe_int pa_nil)))))
      (pss_cons (ps_set (i := 8) sc.nd rfl (Or.inl rfl) (pe_op op_add_str (pe_op op_add_str pe_str (pe_join pe_str (pe_op op_rep (pe_lst (pa_cons pe_str pa_nil)) (pv 7)))) pe_str))
      (pss_cons (ps_set (i := 6) sc.nd rfl (Or.inl rfl) (pe_ifExp (pt_cmpR op_lt (pe_op op_mul pe_int (pe_op op_sub (pv 7) pe_int)) pe_int (nomark _)) pe_non (pe_tup (pa_cons pe_int (pa_cons (pe_op op_add (pe_op op_add (pv 12) pe_int) pe_int) pa_nil)))))
      (pss_cons (ps_if (pt_cmpR (op_neD hr.units) (pe_g G__law_wrong (hr.mono (by omega)) pass0 (pa_cons (pe_op op_add_str (pe_op op_add_str (pv 2) (pv 8)) (pv 3)) pa_nil)) (pv 6) (nomark _)) (pss_one (ps_ret pe_bl)) pss_nil)
      (pss_cons (ps_set (i := 9) sc.nd rfl (Or.inl rfl) (pe_op op_add pe_int (pe_g G__law_next (hr.mono (by omega)) pass0 (pa_cons (pv 1) (pa_cons pe_int pa_nil)))))
      (pss_cons (ps_set (i := 8) sc.nd rfl (Or.inl rfl) (pe_op op_add_str (pe_op op_add_str pe_str (pe_op op_mul_str (pe_g G__law_pick (hr.mono (by omega)) pass0 (pa_cons (pv 1) (pa_cons (pe_lst (pa_cons pe_str (pa_cons pe_str (pa_cons pe_str pa_nil)))) pa_nil))) (pv 9))) pe_str))
      (pss_cons (ps_if (pt_cmpR (op_neD hr.units) (pe_g G__law_wrong (hr.mono (by omega)) pass0 (pa_cons (pe_op op_add_str (pe_op op_add_str (pv 2) (pv 8)) (pv 3)) pa_nil)) (pe_ifExp (pt_cmpR op_lt (pv 9) pe_int (nomark _)) pe_non (pe_tup (pa_cons pe_int (pa_cons (pe_op op_add (pe_op op_add (pe_op op_add (pv 12) pe_int) (pv 9)) pe_int) pa_nil)))) (nomark _)) (pss_one (ps_ret pe_bl)) pss_nil)
      (pss_cons (ps_set (i := 10) sc.nd rfl (Or.inl rfl) (pe_op op_add pe_int (pe_g G__law_next (hr.mono (by omega)) pass0 (pa_cons (pv 1) (pa_cons pe_int pa_nil)))))
      (pss_cons (ps_set (i := 11) sc.nd rfl (Or.inl rfl) (pe_op op_add_str (pe_op op_add_str pe_str (pe_op op_mul_str pe_str (pv 10))) pe_str))
      (pss_one (ps_ret (pe_cmpR op_eq (pe_cmpR op_isN (pe_g G__law_wrong (hr.mono (by omega)) pass0 (pa_cons (pv 11) pa_nil)) pe_non (nomark _)) (pe_cmpR op_lt (pv 10) pe_int (nomark _)) (nomark _))))))))))))))))))))), ?_⟩
  obtain ⟨ns', en⟩ := cut_ints ns none (some 63)
  refine ⟨_, rfl, _, rfl, l, _, rfl, hS, fun s hs => ?_⟩
  rw [en]
  refine ⟨tup_le (by show 3 ≤ 4000000; decide), fun d hd => ?_⟩
  have hsd : s ≠ d := ne_of_none upd_same hd
  have hs0 : upd (upd H s (.lst (ns'.map V.int))) d (.lst [.ref s, .int 0, .int 0]) s = some (.lst (ns'.map V.int)) := by rw [upd_ne hsd]; exact upd_same
  refine ⟨_, rfl, _, _, rfl, d, s, ns', 0, 12, rfl, rfl, upd_same, hs0, by omega, by omega, by decide, fun r1 H1 g1 g2 b1 d1 => ?_⟩
  have hs1 := b1 _ _ hs0 hsd
  refine ⟨_, rfl, _, _, rfl, d, s, ns', 0 + 1, 6, rfl, rfl, d1, hs1, by omega, by omega, by decide, fun r2 H2 g3 g4 b2 d2 => ?_⟩
  have hs2 := b2 _ _ hs1 hsd
  obtain ⟨b, rfl⟩ := Int.eq_ofNat_of_zero_le g1
  obtain ⟨m, rfl⟩ := Int.eq_ofNat_of_zero_le g3
  have hb : b < 12 := by omega
  have hm : m < 6 := by omega
  refine ⟨_, _, rfl, rfl, _, _, rfl, ?_⟩
  refine ⟨_, rfl, _, b, rfl, rfl, by omega, sml (n := 1) (by rw [lit_1.1]; decide) (by decide), _, _, rfl, rfl, tup_le (by simp only [len_str, cat_l, lit_A, lit_B, lit_O, lit_I, lit_E, lit_1.1, lit_1.2.1, lit_1.2.2.1, lit_1.2.2.2.1, lit_1.2.2.2.2.1, lit_1.2.2.2.2.2.1, lit_1.2.2.2.2.2.2.1, lit_1.2.2.2.2.2.2.2.1, lit_1.2.2.2.2.2.2.2.2.1, lit_1.2.2.2.2.2.2.2.2.2.1, lit_1.2.2.2.2.2.2.2.2.2.2, join_rep, List.length_append, List.length_flatten, List.map_replicate, List.sum_replicate_nat, List.length_cons, List.length_nil, len_lits.1, len_lits.2.1, len_lits.2.2.1, len_lits.2.2.2.1, len_lits.2.2.2.2]; omega), ?_⟩
  refine ⟨_, rfl, _, b, rfl, rfl, by omega, sml (n := 1) (by rw [lit_1.2.1]; decide) (by decide), _, _, rfl, rfl, tup_le (by simp only [len_str, cat_l, lit_A, lit_B, lit_O, lit_I, lit_E, lit_1.1, lit_1.2.1, lit_1.2.2.1, lit_1.2.2.2.1, lit_1.2.2.2.2.1, lit_1.2.2.2.2.2.1, lit_1.2.2.2.2.2.2.1, lit_1.2.2.2.2.2.2.2.1, lit_1.2.2.2.2.2.2.2.2.1, lit_1.2.2.2.2.2.2.2.2.2.1, lit_1.2.2.2.2.2.2.2.2.2.2, join_rep, List.length_append, List.length_flatten, List.map_replicate, List.sum_replicate_nat, List.length_cons, List.length_nil, len_lits.1, len_lits.2.1, len_lits.2.2.1, len_lits.2.2.2.1, len_lits.2.2.2.2]; omega), ?_⟩
  refine ⟨_, rfl, _, rfl, _, _, rfl, rfl, tup_le (by show 2 ≤ 4000000; decide), fun q hq => ?_⟩
  have hb2 := ButL.new (as := []) (o := .lst [.int 0, .int (26 + (m : Int) - (b : Int))]) hq
  refine ⟨q, [0, 26 + (m : Int) - (b : Int)], rfl, SqL.of upd_same, (by show 0 < 2; decide), fun x hx hle => ?_⟩
  have ex : x = ((26 + m - b : Nat) : Int) := by
    have q1 := hle (26 + (m : Int) - (b : Int)) (by simp)
    have q3 : x = 0 ∨ x = 26 + (m : Int) - (b : Int) := by simpa using hx
    omega
  subst ex
  have hk : 26 + m - b ≤ 31 := by omega
  refine ⟨_, rfl, _, 26 + m - b, rfl, rfl, by omega, sml (n := 1) (by rw [lit_1.2.2.1]; decide) (by decide), _, _, rfl, rfl, tup_le (by simp only [len_str, cat_l, lit_A, lit_B, lit_O, lit_I, lit_E, lit_1.1, lit_1.2.1, lit_1.2.2.1, lit_1.2.2.2.1, lit_1.2.2.2.2.1, lit_1.2.2.2.2.2.1, lit_1.2.2.2.2.2.2.1, lit_1.2.2.2.2.2.2.2.1, lit_1.2.2.2.2.2.2.2.2.1, lit_1.2.2.2.2.2.2.2.2.2.1, lit_1.2.2.2.2.2.2.2.2.2.2, join_rep, List.length_append, List.length_flatten, List.map_replicate, List.sum_replicate_nat, List.length_cons, List.length_nil, len_lits.1, len_lits.2.1, len_lits.2.2.1, len_lits.2.2.2.1, len_lits.2.2.2.2]; omega), ?_⟩
  refine ⟨_, _, rfl, rfl, tup_le (by simp only [len_str, cat_l, lit_A, lit_B, lit_O, lit_I, lit_E, lit_1.1, lit_1.2.1, lit_1.2.2.1, lit_1.2.2.2.1, lit_1.2.2.2.2.1, lit_1.2.2.2.2.2.1, lit_1.2.2.2.2.2.2.1, lit_1.2.2.2.2.2.2.2.1, lit_1.2.2.2.2.2.2.2.2.1, lit_1.2.2.2.2.2.2.2.2.2.1, lit_1.2.2.2.2.2.2.2.2.2.2, join_rep, List.length_append, List.length_flatten, List.map_replicate, List.sum_replicate_nat, List.length_cons, List.length_nil, len_lits.1, len_lits.2.1, len_lits.2.2.1, len_lits.2.2.2.1, len_lits.2.2.2.2]; omega), ?_⟩
  refine ⟨_, rfl, _, 26 + m - b, rfl, rfl, by omega, sml (n := 1) (by rw [lit_1.2.2.2.1]; decide) (by decide), _, _, rfl, rfl, tup_le (by simp only [len_str, cat_l, lit_A, lit_B, lit_O, lit_I, lit_E, lit_1.1, lit_1.2.1, lit_1.2.2.1, lit_1.2.2.2.1, lit_1.2.2.2.2.1, lit_1.2.2.2.2.2.1, lit_1.2.2.2.2.2.2.1, lit_1.2.2.2.2.2.2.2.1, lit_1.2.2.2.2.2.2.2.2.1, lit_1.2.2.2.2.2.2.2.2.2.1, lit_1.2.2.2.2.2.2.2.2.2.2, join_rep, List.length_append, List.length_flatten, List.map_replicate, List.sum_replicate_nat, List.length_cons, List.length_nil, len_lits.1, len_lits.2.1, len_lits.2.2.1, len_lits.2.2.2.1, len_lits.2.2.2.2]; omega), ?_⟩
  refine ⟨_, _, rfl, rfl, tup_le (by simp only [len_str, cat_l, lit_A, lit_B, lit_O, lit_I, lit_E, lit_1.1, lit_1.2.1, lit_1.2.2.1, lit_1.2.2.2.1, lit_1.2.2.2.2.1, lit_1.2.2.2.2.2.1, lit_1.2.2.2.2.2.2.1, lit_1.2.2.2.2.2.2.2.1, lit_1.2.2.2.2.2.2.2.2.1, lit_1.2.2.2.2.2.2.2.2.2.1, lit_1.2.2.2.2.2.2.2.2.2.2, join_rep, List.length_append, List.length_flatten, List.map_replicate, List.sum_replicate_nat, List.length_cons, List.length_nil, len_lits.1, len_lits.2.1, len_lits.2.2.1, len_lits.2.2.2.1, len_lits.2.2.2.2]; omega), ?_⟩
  have hd3 := ks hb2 d2
  have hs3 := ks hb2 hs2
  try dsimp only [L2.tNext, L2.tSeq, L2.tDrop, L2.tRet, L2.tIfS, L2.tAsg, L2.gName]
  refine if_due (due := if 26 + m ≤ 28 then none else some (3, b + 4 + 29 - b + 1)) (c := decide (26 + m ≤ 28)) (fun R q => ?_) (fun y => if_pos (of_decide_eq_true y)) (fun y => ⟨3, _, if_neg (of_decide_eq_false y), fun R q => ?_⟩) fun x0 H4 b4 due4 => ?_
  · refine ⟨_, rfl, _, rfl, _, _, rfl, rfl, _, _, rfl, rfl, _, rfl, ?_⟩
    have e : decide ((b : Int) + ((26 + m - b : Nat) : Int) ≤ 28) = decide (26 + m ≤ 28) := by
      rw [Bool.eq_iff_iff, decide_eq_true_eq, decide_eq_true_eq]; omega
    rw [← e] at q
    exact q
  · have e : ((b + 4 + 29 - b + 1 : Nat) : Int) = (b : Int) + 4 + 29 - (b : Int) + 1 := by omega
    rw [e] at q
    exact ⟨_, rfl, _, _, rfl, rfl, _, _, rfl, rfl, _, rfl, _, _, rfl, rfl, _, _, rfl, rfl, q⟩
  have hd4 := ks b4 hd3
  have hs4 := ks b4 hs3
  refine ⟨_, rfl, _, rfl, _, _, rfl, rfl, tup_le (by simp only [len_str, cat_l, lit_A, lit_B, lit_O, lit_I, lit_E, lit_1.1, lit_1.2.1, lit_1.2.2.1, lit_1.2.2.2.1, lit_1.2.2.2.2.1, lit_1.2.2.2.2.2.1, lit_1.2.2.2.2.2.2.1, lit_1.2.2.2.2.2.2.2.1, lit_1.2.2.2.2.2.2.2.2.1, lit_1.2.2.2.2.2.2.2.2.2.1, lit_1.2.2.2.2.2.2.2.2.2.2, join_rep, List.length_append, List.length_flatten, List.map_replicate, List.sum_replicate_nat, List.length_cons, List.length_nil, len_lits.1, len_lits.2.1, len_lits.2.2.1, len_lits.2.2.2.1, len_lits.2.2.2.2]; omega), _, rfl, _, _, rfl, rfl, tup_le (by simp only [len_str, cat_l, lit_A, lit_B, lit_O, lit_I, lit_E, lit_1.1, lit_1.2.1, lit_1.2.2.1, lit_1.2.2.2.1, lit_1.2.2.2.2.1, lit_1.2.2.2.2.2.1, lit_1.2.2.2.2.2.2.1, lit_1.2.2.2.2.2.2.2.1, lit_1.2.2.2.2.2.2.2.2.1, lit_1.2.2.2.2.2.2.2.2.2.1, lit_1.2.2.2.2.2.2.2.2.2.2, join_rep, List.length_append, List.length_flatten, List.map_replicate, List.sum_replicate_nat, List.length_cons, List.length_nil, len_lits.1, len_lits.2.1, len_lits.2.2.1, len_lits.2.2.2.1, len_lits.2.2.2.2]; omega), ?_⟩
  refine rw_wrong (K := K) (E := E0) (due := if 26 + m ≤ 28 then none else some (3, b + 4 + 29 - b + 1)) (by simp only [cat_l, lit_A, lit_B, lit_O, lit_I, lit_E, lit_1.1, lit_1.2.1, lit_1.2.2.1, lit_1.2.2.2.1, lit_1.2.2.2.2.1, lit_1.2.2.2.2.2.1, lit_1.2.2.2.2.2.2.1, lit_1.2.2.2.2.2.2.2.1, lit_1.2.2.2.2.2.2.2.2.1, lit_1.2.2.2.2.2.2.2.2.2.1, lit_1.2.2.2.2.2.2.2.2.2.2, join_rep]; exact all_lines b hb m hm) fun x1 H5 b5 due5 => ⟨_, rfl, ne_due due5 (due4.keep b5) ?_⟩
  have hd5 := ks b5 hd4
  have hs5 := ks b5 hs4
  refine ⟨_, rfl, _, _, rfl, d, s, ns', _, 10, rfl, rfl, hd5, hs5, by omega, by omega, by decide, fun r3 H6 g5 g6 b6 d6 => ?_⟩
  have hs6 := b6 _ _ hs5 hsd
  obtain ⟨n, rfl⟩ := Int.eq_ofNat_of_zero_le g5
  have hn : n < 10 := by omega
  refine ⟨_, _, rfl, rfl, ?_⟩
  have en1 : ((55 : Int) + (n : Int)).toNat = 54 + n + 1 := by omega
  have en2 : (List.replicate ((55 : Int) + (n : Int)).toNat [V.str "1"]).flatten = (List.replicate (54 + n + 1) ("1" : Str)).map V.str := by
    rw [en1, List.flatten_replicate_singleton, List.map_replicate]
  refine ⟨⟨_, rfl⟩, tup_le (by show 1 ≤ 4000000; decide), fun p1 hp1 => ⟨_, rfl, p1, _, _, rfl, rfl, upd_same, by omega, by omega, tup_le (by rw [en1]; show 1 * (54 + n + 1) ≤ 4000000; omega), fun p2 hp2 => ?_⟩⟩
  refine ⟨_, p2, List.replicate (54 + n + 1) ("1" : Str), rfl, rfl, .inl (SqL.of (by rw [upd_same, en2])), ?_, ?_⟩
  · rw [List.map_replicate, List.sum_replicate_nat, List.length_replicate, len_str, len_str, lit_1.2.2.2.2.1, lit_1.2.2.2.2.2.1]
    show (54 + n + 1) * 1 + (54 + n + 1) * 1 ≤ 16777216
    omega
  have b7 : ButL [] H6 (upd (upd H6 p1 (.lst [.str "1"])) p2 (.lst (List.replicate ((55 : Int) + (n : Int)).toNat [V.str "1"]).flatten)) := (ButL.new hp1).trans (ButL.new hp2)
  have hd7 := ks b7 d6
  have hs7 := ks b7 hs6
  refine ⟨_, _, rfl, rfl, tup_le (by simp only [len_str, cat_l, lit_A, lit_B, lit_O, lit_I, lit_E, lit_1.1, lit_1.2.1, lit_1.2.2.1, lit_1.2.2.2.1, lit_1.2.2.2.2.1, lit_1.2.2.2.2.2.1, lit_1.2.2.2.2.2.2.1, lit_1.2.2.2.2.2.2.2.1, lit_1.2.2.2.2.2.2.2.2.1, lit_1.2.2.2.2.2.2.2.2.2.1, lit_1.2.2.2.2.2.2.2.2.2.2, join_rep, List.length_append, List.length_flatten, List.map_replicate, List.sum_replicate_nat, List.length_cons, List.length_nil, len_lits.1, len_lits.2.1, len_lits.2.2.1, len_lits.2.2.2.1, len_lits.2.2.2.2]; omega), _, _, rfl, rfl, tup_le (by simp only [len_str, cat_l, lit_A, lit_B, lit_O, lit_I, lit_E, lit_1.1, lit_1.2.1, lit_1.2.2.1, lit_1.2.2.2.1, lit_1.2.2.2.2.1, lit_1.2.2.2.2.2.1, lit_1.2.2.2.2.2.2.1, lit_1.2.2.2.2.2.2.2.1, lit_1.2.2.2.2.2.2.2.2.1, lit_1.2.2.2.2.2.2.2.2.2.1, lit_1.2.2.2.2.2.2.2.2.2.2, join_rep, List.length_append, List.length_flatten, List.map_replicate, List.sum_replicate_nat, List.length_cons, List.length_nil, len_lits.1, len_lits.2.1, len_lits.2.2.1, len_lits.2.2.2.1, len_lits.2.2.2.2]; omega), ?_⟩
  try dsimp only [L2.tNext, L2.tSeq, L2.tDrop, L2.tRet, L2.tIfS, L2.tAsg, L2.gName]
  refine if_due (due := if 2 * (54 + n) < 120 then none else some (3, b + 4 + 121)) (c := decide (2 * (54 + n) < 120)) (fun R q => ?_) (fun y => if_pos (of_decide_eq_true y)) (fun y => ⟨3, _, if_neg (of_decide_eq_false y), fun R q => ?_⟩) fun x2 H8 b8 due8 => ?_
  · refine ⟨_, rfl, _, _, rfl, rfl, _, _, rfl, rfl, .inl ⟨by decide, by decide⟩, _, _, rfl, rfl, _, rfl, ?_⟩
    have e : decide ((2 : Int) * ((55 : Int) + (n : Int) - 1) < 120) = decide (2 * (54 + n) < 120) := by
      rw [Bool.eq_iff_iff, decide_eq_true_eq, decide_eq_true_eq]; omega
    rw [← e] at q
    exact q
  · have e : ((b + 4 + 121 : Nat) : Int) = (b : Int) + 4 + 121 := by omega
    rw [e] at q
    exact ⟨_, rfl, _, _, rfl, rfl, _, _, rfl, rfl, q⟩
  have hd8 := ks b8 hd7
  have hs8 := ks b8 hs7
  refine ⟨_, rfl, _, rfl, _, _, rfl, rfl, tup_le (by simp only [len_str, cat_l, lit_A, lit_B, lit_O, lit_I, lit_E, lit_1.1, lit_1.2.1, lit_1.2.2.1, lit_1.2.2.2.1, lit_1.2.2.2.2.1, lit_1.2.2.2.2.2.1, lit_1.2.2.2.2.2.2.1, lit_1.2.2.2.2.2.2.2.1, lit_1.2.2.2.2.2.2.2.2.1, lit_1.2.2.2.2.2.2.2.2.2.1, lit_1.2.2.2.2.2.2.2.2.2.2, join_rep, List.length_append, List.length_flatten, List.map_replicate, List.sum_replicate_nat, List.length_cons, List.length_nil, len_lits.1, len_lits.2.1, len_lits.2.2.1, len_lits.2.2.2.1, len_lits.2.2.2.2]; omega), _, rfl, _, _, rfl, rfl, tup_le (by simp only [len_str, cat_l, lit_A, lit_B, lit_O, lit_I, lit_E, lit_1.1, lit_1.2.1, lit_1.2.2.1, lit_1.2.2.2.1, lit_1.2.2.2.2.1, lit_1.2.2.2.2.2.1, lit_1.2.2.2.2.2.2.1, lit_1.2.2.2.2.2.2.2.1, lit_1.2.2.2.2.2.2.2.2.1, lit_1.2.2.2.2.2.2.2.2.2.1, lit_1.2.2.2.2.2.2.2.2.2.2, join_rep, List.length_append, List.length_flatten, List.map_replicate, List.sum_replicate_nat, List.length_cons, List.length_nil, len_lits.1, len_lits.2.1, len_lits.2.2.1, len_lits.2.2.2.1, len_lits.2.2.2.2]; omega), ?_⟩
  refine rw_wrong (K := K) (E := E0) (due := if 2 * (54 + n) < 120 then none else some (3, b + 4 + 121)) (by simp only [cat_l, lit_A, lit_B, lit_O, lit_I, lit_E, lit_1.1, lit_1.2.1, lit_1.2.2.1, lit_1.2.2.2.1, lit_1.2.2.2.2.1, lit_1.2.2.2.2.2.1, lit_1.2.2.2.2.2.2.1, lit_1.2.2.2.2.2.2.2.1, lit_1.2.2.2.2.2.2.2.2.1, lit_1.2.2.2.2.2.2.2.2.2.1, lit_1.2.2.2.2.2.2.2.2.2.2, join_rep]; exact all_rows b hb n hn) fun x3 H9 b9 due9 => ⟨_, rfl, ne_due due9 (due8.keep b9) ?_⟩
  have hd9 := ks b9 hd8
  have hs9 := ks b9 hs8
  refine ⟨_, rfl, _, _, rfl, d, s, ns', _, 9, rfl, rfl, hd9, hs9, by omega, by omega, by decide, fun r4 H10 g7 g8 b10 d10 => ?_⟩
  have hs10 := b10 _ _ hs9 hsd
  obtain ⟨u, rfl⟩ := Int.eq_ofNat_of_zero_le g7
  have hu : u < 9 := by omega
  refine ⟨_, _, rfl, rfl, ?_⟩
  refine ⟨_, rfl, tup_le (by show 3 ≤ 4000000; decide), fun t ht => ?_⟩
  have htd : t ≠ d := (ne_of_none d10 ht).symm
  have b11 := ButL.new (as := []) (o := .lst [.str "!", .str "-", .str "~"]) ht
  refine ⟨_, _, rfl, d, s, ns', _, t, _, rfl, rfl, ks b11 d10, ks b11 hs10, by omega, by omega, upd_same, htd, by simp, fun v H12 hv b12 d12 => ?_⟩
  have hs12 := b12 _ _ (ks b11 hs10) hsd
  obtain ⟨zs, c, rfl, hzs, hc⟩ : ∃ (zs : Str) (c : Nat), v = .str zs ∧ zs.cps.toList = [c] ∧ (c = 33 ∨ c = 45 ∨ c = 126) := by
    rcases List.mem_cons.mp hv with rfl | hv
    · exact ⟨_, 33, rfl, lit_1.2.2.2.2.2.2.2.2.1, .inl rfl⟩
    rcases List.mem_cons.mp hv with rfl | hv
    · exact ⟨_, 45, rfl, lit_1.2.2.2.2.2.2.2.2.2.1, .inr (.inl rfl)⟩
    rcases List.mem_cons.mp hv with rfl | hv
    · exact ⟨_, 126, rfl, lit_1.2.2.2.2.2.2.2.2.2.2, .inr (.inr rfl)⟩
    · cases hv
  refine ⟨_, rfl, zs, 115 + u, rfl, rfl, by omega, sml (n := 1) (by rw [hzs]; exact Nat.le_refl 1) (by decide), _, _, rfl, rfl, tup_le (by simp only [len_str, hzs, cat_l, lit_A, lit_B, lit_O, lit_I, lit_E, lit_1.1, lit_1.2.1, lit_1.2.2.1, lit_1.2.2.2.1, lit_1.2.2.2.2.1, lit_1.2.2.2.2.2.1, lit_1.2.2.2.2.2.2.1, lit_1.2.2.2.2.2.2.2.1, lit_1.2.2.2.2.2.2.2.2.1, lit_1.2.2.2.2.2.2.2.2.2.1, lit_1.2.2.2.2.2.2.2.2.2.2, join_rep, List.length_append, List.length_flatten, List.map_replicate, List.sum_replicate_nat, List.length_cons, List.length_nil, len_lits.1, len_lits.2.1, len_lits.2.2.1, len_lits.2.2.2.1, len_lits.2.2.2.2]; omega), _, _, rfl, rfl, tup_le (by simp only [len_str, hzs, cat_l, lit_A, lit_B, lit_O, lit_I, lit_E, lit_1.1, lit_1.2.1, lit_1.2.2.1, lit_1.2.2.2.1, lit_1.2.2.2.2.1, lit_1.2.2.2.2.2.1, lit_1.2.2.2.2.2.2.1, lit_1.2.2.2.2.2.2.2.1, lit_1.2.2.2.2.2.2.2.2.1, lit_1.2.2.2.2.2.2.2.2.2.1, lit_1.2.2.2.2.2.2.2.2.2.2, join_rep, List.length_append, List.length_flatten, List.map_replicate, List.sum_replicate_nat, List.length_cons, List.length_nil, len_lits.1, len_lits.2.1, len_lits.2.2.1, len_lits.2.2.2.1, len_lits.2.2.2.2]; omega), ?_⟩
  refine ⟨_, rfl, _, rfl, _, _, rfl, rfl, tup_le (by simp only [len_str, hzs, cat_l, lit_A, lit_B, lit_O, lit_I, lit_E, lit_1.1, lit_1.2.1, lit_1.2.2.1, lit_1.2.2.2.1, lit_1.2.2.2.2.1, lit_1.2.2.2.2.2.1, lit_1.2.2.2.2.2.2.1, lit_1.2.2.2.2.2.2.2.1, lit_1.2.2.2.2.2.2.2.2.1, lit_1.2.2.2.2.2.2.2.2.2.1, lit_1.2.2.2.2.2.2.2.2.2.2, join_rep, List.length_append, List.length_flatten, List.map_replicate, List.sum_replicate_nat, List.length_cons, List.length_nil, len_lits.1, len_lits.2.1, len_lits.2.2.1, len_lits.2.2.2.1, len_lits.2.2.2.2]; omega), _, rfl, _, _, rfl, rfl, tup_le (by simp only [len_str, hzs, cat_l, lit_A, lit_B, lit_O, lit_I, lit_E, lit_1.1, lit_1.2.1, lit_1.2.2.1, lit_1.2.2.2.1, lit_1.2.2.2.2.1, lit_1.2.2.2.2.2.1, lit_1.2.2.2.2.2.2.1, lit_1.2.2.2.2.2.2.2.1, lit_1.2.2.2.2.2.2.2.2.1, lit_1.2.2.2.2.2.2.2.2.2.1, lit_1.2.2.2.2.2.2.2.2.2.2, join_rep, List.length_append, List.length_flatten, List.map_replicate, List.sum_replicate_nat, List.length_cons, List.length_nil, len_lits.1, len_lits.2.1, len_lits.2.2.1, len_lits.2.2.2.1, len_lits.2.2.2.2]; omega), ?_⟩
  refine rw_wrong (K := K) (E := E0) (due := if 115 + u < 120 then none else some (3, b + 4 + (115 + u) + 1)) (by simp only [cat_l, hzs, lit_A, lit_B, lit_O, lit_I, lit_E, lit_1.1, lit_1.2.1, lit_1.2.2.1, lit_1.2.2.2.1, lit_1.2.2.2.2.1, lit_1.2.2.2.2.2.1, lit_1.2.2.2.2.2.2.1, lit_1.2.2.2.2.2.2.2.1, lit_1.2.2.2.2.2.2.2.2.1, lit_1.2.2.2.2.2.2.2.2.2.1, lit_1.2.2.2.2.2.2.2.2.2.2, join_rep]; exact all_sigs hc b hb u hu) fun x5 H13 b13 due13 => ?_
  try dsimp only [L2.tNext, L2.tSeq, L2.tDrop, L2.tRet, L2.tIfS, L2.tAsg, L2.gName]
  refine if_due (due := if 115 + u < 120 then none else some (3, b + 4 + (115 + u) + 1)) (c := decide (115 + u < 120)) (fun R q => ?_) (fun y => if_pos (of_decide_eq_true y)) (fun y => ⟨3, _, if_neg (of_decide_eq_false y), fun R q => ?_⟩) fun x6 H14 b14 due14 => ne_due (due13.keep b14) due14 ?_
  · refine ⟨_, rfl, _, _, rfl, rfl, _, rfl, ?_⟩
    have e : decide ((115 : Int) + (u : Int) < 120) = decide (115 + u < 120) := by
      rw [Bool.eq_iff_iff, decide_eq_true_eq, decide_eq_true_eq]; omega
    rw [← e] at q
    exact q
  · have e : ((b + 4 + (115 + u) + 1 : Nat) : Int) = (b : Int) + 4 + (115 + (u : Int)) + 1 := by omega
    rw [e] at q
    exact ⟨_, rfl, _, _, rfl, rfl, _, rfl, _, _, rfl, rfl, _, _, rfl, rfl, q⟩
  have hd14 := ks b14 (ks b13 d12)
  have hs14 := ks b14 (ks b13 hs12)
  refine ⟨_, rfl, _, _, rfl, d, s, ns', _, 12, rfl, rfl, hd14, hs14, by omega, by omega, by decide, fun r5 H15 g9 g10 b15 d15 => ?_⟩
  obtain ⟨e, rfl⟩ := Int.eq_ofNat_of_zero_le g9
  have he : e < 12 := by omega
  refine ⟨_, _, rfl, rfl, ?_⟩
  refine ⟨_, rfl, _, 22 + e, rfl, rfl, by omega, sml (n := 16) (by rw [lit_I, len_lits.2.2.2.1]; decide) (by decide), _, _, rfl, rfl, tup_le (by simp only [len_str, cat_l, lit_A, lit_B, lit_O, lit_I, lit_E, lit_1.1, lit_1.2.1, lit_1.2.2.1, lit_1.2.2.2.1, lit_1.2.2.2.2.1, lit_1.2.2.2.2.2.1, lit_1.2.2.2.2.2.2.1, lit_1.2.2.2.2.2.2.2.1, lit_1.2.2.2.2.2.2.2.2.1, lit_1.2.2.2.2.2.2.2.2.2.1, lit_1.2.2.2.2.2.2.2.2.2.2, join_rep, List.length_append, List.length_flatten, List.map_replicate, List.sum_replicate_nat, List.length_cons, List.length_nil, len_lits.1, len_lits.2.1, len_lits.2.2.1, len_lits.2.2.2.1, len_lits.2.2.2.2]; omega), _, _, rfl, rfl, tup_le (by simp only [len_str, cat_l, lit_A, lit_B, lit_O, lit_I, lit_E, lit_1.1, lit_1.2.1, lit_1.2.2.1, lit_1.2.2.2.1, lit_1.2.2.2.2.1, lit_1.2.2.2.2.2.1, lit_1.2.2.2.2.2.2.1, lit_1.2.2.2.2.2.2.2.1, lit_1.2.2.2.2.2.2.2.2.1, lit_1.2.2.2.2.2.2.2.2.2.1, lit_1.2.2.2.2.2.2.2.2.2.2, join_rep, List.length_append, List.length_flatten, List.map_replicate, List.sum_replicate_nat, List.length_cons, List.length_nil, len_lits.1, len_lits.2.1, len_lits.2.2.1, len_lits.2.2.2.1, len_lits.2.2.2.2]; omega), ?_⟩
  obtain ⟨c1, c2⟩ := all_chain e he
  refine ⟨_, rfl, ?_⟩
  refine rw_wrong (K := K) (E := E0) (due := badPlace (tChain (22 + e))) (by simp only [cat_l, lit_A, lit_B, lit_O, lit_I, lit_E, lit_1.1, lit_1.2.1, lit_1.2.2.1, lit_1.2.2.2.1, lit_1.2.2.2.2.1, lit_1.2.2.2.2.2.1, lit_1.2.2.2.2.2.2.1, lit_1.2.2.2.2.2.2.2.1, lit_1.2.2.2.2.2.2.2.2.1, lit_1.2.2.2.2.2.2.2.2.2.1, lit_1.2.2.2.2.2.2.2.2.2.2, join_rep]; exact c1) fun x7 H16 b16 due16 => ?_
  refine ⟨rfl, _, rfl, _, _, rfl, rfl, rfl, ?_⟩
  have e1 : decide (x7 = V.non) = (badPlace (tChain (22 + e))).isNone := by
    cases hb : badPlace (tChain (22 + e)) with
    | none =>
      rw [hb] at due16
      have : x7 = .non := due16
      rw [this]; rfl
    | some p =>
      rw [hb] at due16
      obtain ⟨l, k⟩ := p
      obtain ⟨p, rfl, _⟩ := due16
      exact decide_eq_false (by intro z; cases z)
  have e2 : decide ((22 : Int) + (e : Int) < 30) = Nat.ble (22 + e + 1) 30 := by
    rw [Bool.eq_iff_iff, decide_eq_true_eq]
    constructor
    · intro z
      exact Nat.ble_eq_true_of_le (by omega)
    · intro z
      have := Nat.le_of_ble_eq_true z
      omega
  have e3 : decide (V.bl (decide (x7 = V.non)) = V.bl (decide ((22 : Int) + (e : Int) < 30))) = true := by
    rw [e1, e2, c2]
    exact decide_eq_true rfl
  have h9 := h H16
  rw [← e3] at h9
  exact h9
end
end Rd

namespace Rd
open PySem PySem.Spec PyProof.Rows L2 My Mir
theorem law_binds {K : PySem.W.Frag} {f : Addr} {fd : FuncData} (F : FunD K "law" "law" (defArgs s_law) (defBody s_law) (defScope s_law) [] [] f fd) (s : Shared) (v : Value) : BindsTo s fd ⟨[v], []⟩ [("script", v)] :=
  L2.FunD.bindsA (ps := ["script"]) F (fun _ _ _ _ _ _ us hl => match us, hl with | [_], _ => rfl) s [v] rfl
theorem law_core {P : Program} {w : World} {K : PySem.W.Frag} {mg : Str → Option Value} {h : Heap} {fa : Addr} {L : Nat} (T : Txt K mg w) (KX : K.In h) (hmg : mg ("law" : PySem.Str) = some (.ref fa))
    (ok : ∀ base : Heap, Gd P w K mg base CX0 L "law" ["script"] (sp_law K)) :
    ∃ (K : PySem.W.Frag) (fd : FuncData) (sp : Sp), K.In h ∧ (∀ (s : Shared) (u : Value), BindsTo s fd ⟨[u], []⟩ [(("script" : PySem.Str), u)]) ∧
        (∀ (H : Hp) (a : Addr) (ns : List Int), ns.length ≤ 63 → Only H → SqL K H a (ns.map V.int) → sp [.ref a] H (fun v _ => v = .bl true) fun _ _ _ => False) ∧
        ∀ base : Heap, K.In base → base.Ns mainGlobals mg → FnOk P w K mg base CX0 L fa fd ["script"] sp := by
  obtain ⟨f, fd, hm, F⟩ := T.d_law.ex
  have ef : f = fa := by
    rw [hmg] at hm
    injection hm with hm
    injection hm with hm
    exact hm.symm
  subst ef
  refine ⟨K, fd, Rd.sp_law K, KX, law_binds F, fun H a ns hl _ hS => ⟨_, rfl, a, ns, rfl, hS, fun _ => rfl⟩, fun base _ _ => ?_⟩
  obtain ⟨f', fd', hm', ok, _, _, oc', od', osl', lk'⟩ := (ok base).ex
  have ef : f' = f := by
    rw [hmg] at hm'
    injection hm' with hm'
    injection hm' with hm'
    exact hm'.symm
  subst ef
  obtain ⟨oc, od, dV, kV, doc, pm, an, cdv, ct, osl, _, lk, _⟩ := F.ex
  rw [lk'] at lk
  have ed : fd' = fd := by
    injection lk with lk
    injection lk with _ _ lk _
    injection lk with lk
  rw [← ed]
  exact ok
end Rd
namespace K03E
open PySem PySem.Spec PyProof.Rows L2 My Mir Rd
section
variable {P : Program} {w : World} {K : PySem.W.Frag} {h : Heap} {mg : Str → Option Value}
theorem df_mk (X : K.In h) (G : h.Ns mainGlobals mg) {x : Str} {st : Stmt} (c1 : (He.Fa.glo x).ok K = true) (c2 : ∃ fd, FunD K x x (defArgs st) (defBody st) (defScope st) [] [] (He.fAd K (x, none)) fd) : Df K mg x st := by
  obtain ⟨fd, F⟩ := c2
  exact ⟨He.ga K x, fd, He.glo_ok X G c1, F⟩
theorem dm_mk {C m qual : Str} {st : Stmt} (c1 : (He.Fa.meth C m).ok K = true) (c2 : ∃ fd, FunD K m qual (defArgs st) (defBody st) (defScope st) [] [] (He.fAd K (C, some m)) fd) : Dm K (He.ga K C) m qual st := by
  obtain ⟨fd, F⟩ := c2
  exact ⟨He.ma K (He.ga K C) m, fd, He.meth_ok c1, F⟩
theorem bt_mk (X : K.In h) (G : h.Ns mainGlobals mg) (c1 : (He.Fa.glo "BadText").ok K = true) (c2 : ∃ fd, FunD K "__init__" "BadText.__init__" (defArgs s_BadText___init__) (defBody s_BadText___init__) (defScope s_BadText___init__) [] [] (He.fAd K ("BadText", some "__init__")) fd) (c3 : btB K (He.ga K "BadText") = true) : Bt.BtTxt K mg (He.ga K "BadText") (He.ma K (He.ga K "BadText") "__init__") := by
  obtain ⟨h1, c3⟩ := He.ba c3
  obtain ⟨h2, c3⟩ := He.ba c3
  obtain ⟨h3, c3⟩ := He.ba c3
  obtain ⟨h4, c3⟩ := He.ba c3
  obtain ⟨h5, c3⟩ := He.ba c3
  obtain ⟨h6, c3⟩ := He.ba c3
  obtain ⟨h7, c3⟩ := He.ba c3
  obtain ⟨h8, c3⟩ := He.ba c3
  obtain ⟨h9, c3⟩ := He.ba c3
  obtain ⟨h10, c3⟩ := He.ba c3
  obtain ⟨h11, c3⟩ := He.ba c3
  obtain ⟨h12, c3⟩ := He.ba c3
  obtain ⟨h13, c3⟩ := He.ba c3
  obtain ⟨h14, h15⟩ := He.ba c3
  obtain ⟨fd, F⟩ := c2
  obtain ⟨oc, od, dV, kV, doc, pm, an, cdv, ct, osl, e, lk, hcd, hD, _⟩ := F.ex
  have hdV : dV = .none := by
    rcases hD with ⟨_, z⟩ | ⟨z, _⟩
    · exact z
    · exact absurd rfl z
  subst hdV e
  refine { gC := He.glo_ok X G c1, exI := h1, over := h2, cd := ?_, sa := He.eqO_ok h4, ga := He.eqO_ok h5, gg := He.eqO_ok h6, noL := He.eqO_ok h7, noC := He.eqO_ok h8, iC := He.eqO_ok h9, tC := of_decide_eq_true h10, kC := h11, exC := of_decide_eq_true h12, tyC := of_decide_eq_true h13, hdC := h14, te := of_decide_eq_true h15, fn := ?_ }
  · cases e : PySem.W.clsIn K (He.ga K "BadText") with
    | none => rw [e] at h3; cases h3
    | some cd => rw [e] at h3; exact ⟨cd, rfl, h3⟩
  · exact ⟨oc, od, kV, doc, pm, an, cdv, ct, osl, _, _, _, _, _, _, _, _, _, _, _, lk, hcd⟩
theorem txt_mk (X : K.In h) (G : h.Ns mainGlobals mg) (c : He.SaysX hfa hfn hts [] hex w h K) : Txt K mg w := by
  have cd := c.t.d
  have cx : hex K = true := c.more
  obtain ⟨v0, cx⟩ := He.ba cx
  obtain ⟨v1, cx⟩ := He.ba cx
  obtain ⟨v2, cx⟩ := He.ba cx
  obtain ⟨v3, cx⟩ := He.ba cx
  obtain ⟨v4, cx⟩ := He.ba cx
  obtain ⟨v5, cx⟩ := He.ba cx
  obtain ⟨v6, cx⟩ := He.ba cx
  obtain ⟨v7, cx⟩ := He.ba cx
  obtain ⟨v8, cx⟩ := He.ba cx
  obtain ⟨v9, cx⟩ := He.ba cx
  have kvC : ∀ q, q ∈ ([("?", .str ":"), ("call", .str ")"), ("(", .str ")"), ("index", .str "]")] : List (Str × He.Dv)) → KDct K w (He.ga K "CLOSING") q.1 (q.2.v K) := by
    intro q hq
    obtain ⟨es, nn, kd⟩ := c.t.tab 2 (t := (fun K => He.ga K "CLOSING", ["?", "call", "(", "index"])) rfl
    obtain ⟨u, e1, e2⟩ := He.valsB_ok v5 hq
    exact ⟨es, nn, u, kd.at_, kd.lit, e1, e2⟩
  exact {
    d_word_of := df_mk X G (cd.fact 0 (f := .glo "word_of") rfl) (cd.def_ 0 (d := dd_word_of) rfl),
    d_pieces_of := df_mk X G (cd.fact 1 (f := .glo "pieces_of") rfl) (cd.def_ 1 (d := dd_pieces_of) rfl),
    d__pieces_in := df_mk X G (cd.fact 2 (f := .glo "_pieces_in") rfl) (cd.def_ 2 (d := dd__pieces_in) rfl),
    d__size_of := df_mk X G (cd.fact 3 (f := .glo "_size_of") rfl) (cd.def_ 3 (d := dd__size_of) rfl),
    d__sort_of := df_mk X G (cd.fact 4 (f := .glo "_sort_of") rfl) (cd.def_ 4 (d := dd__sort_of) rfl),
    d__number_of := df_mk X G (cd.fact 5 (f := .glo "_number_of") rfl) (cd.def_ 5 (d := dd__number_of) rfl),
    d__figures_read := df_mk X G (cd.fact 6 (f := .glo "_figures_read") rfl) (cd.def_ 6 (d := dd__figures_read) rfl),
    d_read_expression := df_mk X G (cd.fact 7 (f := .glo "read_expression") rfl) (cd.def_ 7 (d := dd_read_expression) rfl),
    d__strength_of := df_mk X G (cd.fact 8 (f := .glo "_strength_of") rfl) (cd.def_ 8 (d := dd__strength_of) rfl),
    d__read_operand := df_mk X G (cd.fact 9 (f := .glo "_read_operand") rfl) (cd.def_ 9 (d := dd__read_operand) rfl),
    d__read_number := df_mk X G (cd.fact 10 (f := .glo "_read_number") rfl) (cd.def_ 10 (d := dd__read_number) rfl),
    d__read_name := df_mk X G (cd.fact 11 (f := .glo "_read_name") rfl) (cd.def_ 11 (d := dd__read_name) rfl),
    d__read_in_or_more := df_mk X G (cd.fact 12 (f := .glo "_read_in_or_more") rfl) (cd.def_ 12 (d := dd__read_in_or_more) rfl),
    d__read_bracket := df_mk X G (cd.fact 13 (f := .glo "_read_bracket") rfl) (cd.def_ 13 (d := dd__read_bracket) rfl),
    d__read_behind := df_mk X G (cd.fact 14 (f := .glo "_read_behind") rfl) (cd.def_ 14 (d := dd__read_behind) rfl),
    d__read_field := df_mk X G (cd.fact 15 (f := .glo "_read_field") rfl) (cd.def_ 15 (d := dd__read_field) rfl),
    d__close := df_mk X G (cd.fact 16 (f := .glo "_close") rfl) (cd.def_ 16 (d := dd__close) rfl),
    d_read_kind := df_mk X G (cd.fact 17 (f := .glo "read_kind") rfl) (cd.def_ 17 (d := dd_read_kind) rfl),
    d_read_many := df_mk X G (cd.fact 18 (f := .glo "read_many") rfl) (cd.def_ 18 (d := dd_read_many) rfl),
    d_read_firsts := df_mk X G (cd.fact 19 (f := .glo "read_firsts") rfl) (cd.def_ 19 (d := dd_read_firsts) rfl),
    d_read_statements := df_mk X G (cd.fact 20 (f := .glo "read_statements") rfl) (cd.def_ 20 (d := dd_read_statements) rfl),
    d__read_statement := df_mk X G (cd.fact 21 (f := .glo "_read_statement") rfl) (cd.def_ 21 (d := dd__read_statement) rfl),
    d__read_declaration := df_mk X G (cd.fact 22 (f := .glo "_read_declaration") rfl) (cd.def_ 22 (d := dd__read_declaration) rfl),
    d__read_plain := df_mk X G (cd.fact 23 (f := .glo "_read_plain") rfl) (cd.def_ 23 (d := dd__read_plain) rfl),
    d__read_test := df_mk X G (cd.fact 24 (f := .glo "_read_test") rfl) (cd.def_ 24 (d := dd__read_test) rfl),
    d__read_braces := df_mk X G (cd.fact 25 (f := .glo "_read_braces") rfl) (cd.def_ 25 (d := dd__read_braces) rfl),
    d__read_if := df_mk X G (cd.fact 26 (f := .glo "_read_if") rfl) (cd.def_ 26 (d := dd__read_if) rfl),
    d__read_while := df_mk X G (cd.fact 27 (f := .glo "_read_while") rfl) (cd.def_ 27 (d := dd__read_while) rfl),
    d__read_do := df_mk X G (cd.fact 28 (f := .glo "_read_do") rfl) (cd.def_ 28 (d := dd__read_do) rfl),
    d__read_for := df_mk X G (cd.fact 29 (f := .glo "_read_for") rfl) (cd.def_ 29 (d := dd__read_for) rfl),
    d__read_switch := df_mk X G (cd.fact 30 (f := .glo "_read_switch") rfl) (cd.def_ 30 (d := dd__read_switch) rfl),
    d__read_case := df_mk X G (cd.fact 31 (f := .glo "_read_case") rfl) (cd.def_ 31 (d := dd__read_case) rfl),
    d__read_leaving := df_mk X G (cd.fact 32 (f := .glo "_read_leaving") rfl) (cd.def_ 32 (d := dd__read_leaving) rfl),
    d__read_return := df_mk X G (cd.fact 33 (f := .glo "_read_return") rfl) (cd.def_ 33 (d := dd__read_return) rfl),
    d__read_told := df_mk X G (cd.fact 34 (f := .glo "_read_told") rfl) (cd.def_ 34 (d := dd__read_told) rfl),
    d_read_module := df_mk X G (cd.fact 35 (f := .glo "read_module") rfl) (cd.def_ 35 (d := dd_read_module) rfl),
    d__read_item := df_mk X G (cd.fact 36 (f := .glo "_read_item") rfl) (cd.def_ 36 (d := dd__read_item) rfl),
    d__read_structure := df_mk X G (cd.fact 37 (f := .glo "_read_structure") rfl) (cd.def_ 37 (d := dd__read_structure) rfl),
    d__read_function := df_mk X G (cd.fact 38 (f := .glo "_read_function") rfl) (cd.def_ 38 (d := dd__read_function) rfl),
    d__read_param := df_mk X G (cd.fact 39 (f := .glo "_read_param") rfl) (cd.def_ 39 (d := dd__read_param) rfl),
    d__law_cell_at := df_mk X G (cd.fact 40 (f := .glo "_law_cell_at") rfl) (cd.def_ 40 (d := dd__law_cell_at) rfl),
    d__law_draw := df_mk X G (cd.fact 41 (f := .glo "_law_draw") rfl) (cd.def_ 41 (d := dd__law_draw) rfl),
    d__law_number := df_mk X G (cd.fact 42 (f := .glo "_law_number") rfl) (cd.def_ 42 (d := dd__law_number) rfl),
    d__law_next := df_mk X G (cd.fact 43 (f := .glo "_law_next") rfl) (cd.def_ 43 (d := dd__law_next) rfl),
    d__law_pick := df_mk X G (cd.fact 44 (f := .glo "_law_pick") rfl) (cd.def_ 44 (d := dd__law_pick) rfl),
    d__law_wrong := df_mk X G (cd.fact 45 (f := .glo "_law_wrong") rfl) (cd.def_ 45 (d := dd__law_wrong) rfl),
    d_law := df_mk X G (cd.fact 46 (f := .glo "law") rfl) (cd.def_ 46 (d := dd_law) rfl),
    d_Cursor___init__ := dm_mk (cd.fact 92 (f := .meth "Cursor" "__init__") rfl) (cd.def_ 48 (d := dd_Cursor___init__) rfl),
    d_Cursor_ahead := dm_mk (cd.fact 93 (f := .meth "Cursor" "ahead") rfl) (cd.def_ 49 (d := dd_Cursor_ahead) rfl),
    d_Cursor_spot := dm_mk (cd.fact 94 (f := .meth "Cursor" "spot") rfl) (cd.def_ 50 (d := dd_Cursor_spot) rfl),
    d_Cursor_take := dm_mk (cd.fact 95 (f := .meth "Cursor" "take") rfl) (cd.def_ 51 (d := dd_Cursor_take) rfl),
    d_Cursor_want := dm_mk (cd.fact 96 (f := .meth "Cursor" "want") rfl) (cd.def_ 52 (d := dd_Cursor_want) rfl),
    d_Cursor_fail := dm_mk (cd.fact 97 (f := .meth "Cursor" "fail") rfl) (cd.def_ 53 (d := dd_Cursor_fail) rfl),
    d_ExpressionReader___init__ := dm_mk (cd.fact 98 (f := .meth "ExpressionReader" "__init__") rfl) (cd.def_ 54 (d := dd_ExpressionReader___init__) rfl),
    d_ExpressionReader_look_at_depth := dm_mk (cd.fact 99 (f := .meth "ExpressionReader" "look_at_depth") rfl) (cd.def_ 55 (d := dd_ExpressionReader_look_at_depth) rfl),
    d_ExpressionReader_begin_within := dm_mk (cd.fact 100 (f := .meth "ExpressionReader" "begin_within") rfl) (cd.def_ 56 (d := dd_ExpressionReader_begin_within) rfl),
    d_ExpressionReader_end_within := dm_mk (cd.fact 101 (f := .meth "ExpressionReader" "end_within") rfl) (cd.def_ 57 (d := dd_ExpressionReader_end_within) rfl),
    d_ExpressionReader_take_counted := dm_mk (cd.fact 102 (f := .meth "ExpressionReader" "take_counted") rfl) (cd.def_ 58 (d := dd_ExpressionReader_take_counted) rfl),
    d_ExpressionReader_settle := dm_mk (cd.fact 103 (f := .meth "ExpressionReader" "settle") rfl) (cd.def_ 59 (d := dd_ExpressionReader_settle) rfl),
    d_ExpressionReader_settle_all := dm_mk (cd.fact 104 (f := .meth "ExpressionReader" "settle_all") rfl) (cd.def_ 60 (d := dd_ExpressionReader_settle_all) rfl),
    c_GREATEST := He.int_ok X G (cd.fact 66 (f := .int "GREATEST" 4294967295) rfl),
    c_HALF := He.int_ok X G (cd.fact 67 (f := .int "HALF" 2147483648) rfl),
    c_MOST_SIGNS := He.int_ok X G (cd.fact 68 (f := .int "MOST_SIGNS" 24) rfl),
    c_MOST_FIGURES := He.int_ok X G (cd.fact 69 (f := .int "MOST_FIGURES" 10) rfl),
    c_STRENGTH_AHEAD := He.int_ok X G (cd.fact 70 (f := .int "STRENGTH_AHEAD" 11) rfl),
    c_MOST_WITHIN := He.int_ok X G (cd.fact 71 (f := .int "MOST_WITHIN" 30) rfl),
    c_MOST_PIECES := He.int_ok X G (cd.fact 72 (f := .int "MOST_PIECES" 120) rfl),
    c_NAME := He.str_ok X G (cd.fact 73 (f := .str "NAME" "name") rfl),
    c_NUMBER := He.str_ok X G (cd.fact 74 (f := .str "NUMBER" "number") rfl),
    c_WRONG := He.str_ok X G (cd.fact 75 (f := .str "WRONG" "wrong") rfl),
    c_END := He.str_ok X G (cd.fact 76 (f := .str "END" "end") rfl),
    c_SHORT_SIGNS := He.str_ok X G (cd.fact 77 (f := .str "SHORT_SIGNS" "+-*/&|^~!<>=?:;,.()[]{}") rfl),
    c_FIGURES := He.str_ok X G (cd.fact 78 (f := .str "FIGURES" "0123456789") rfl),
    c_SMALL_FIGURES := He.str_ok X G (cd.fact 79 (f := .str "SMALL_FIGURES" "0123456789abcdef") rfl),
    c_LETTERS := He.str_ok X G (cd.fact 80 (f := .str "LETTERS" "_ABCDEFGHIJKLMNOPQRSTUVWXYZabcdefghijklmnopqrstuvwxyz") rfl),
    c_LONG_SIGNS := He.glo_ok X G (cd.fact 52 (f := .glo "LONG_SIGNS") rfl),
    t_LONG_SIGNS := fun H => He.tupB_ok v6 H,
    c_AHEAD := He.glo_ok X G (cd.fact 53 (f := .glo "AHEAD") rfl),
    t_AHEAD := fun H => He.tupB_ok v7 H,
    c_KINDS := He.glo_ok X G (cd.fact 54 (f := .glo "KINDS") rfl),
    t_KINDS := fun H => He.tupB_ok v8 H,
    c_OWN_WORDS := He.glo_ok X G (cd.fact 47 (f := .glo "OWN_WORDS") rfl),
    k_OWN_WORDS := c.t.tab 0 (t := (fun K => He.ga K "OWN_WORDS", ["module", "use", "struct", "int", "uint", "void", "if", "else", "while", "do", "for", "break", "continue", "switch", "case", "default", "return", "out", "assert", "in", "more", "length", "mod"])) rfl,
    c_STRENGTHS := He.glo_ok X G (cd.fact 48 (f := .glo "STRENGTHS") rfl),
    k_STRENGTHS := c.t.tab 1 (t := (fun K => He.ga K "STRENGTHS", ["||", "&&", "|", "^", "&", "==", "!=", "<", "<=", ">", ">=", "<<", ">>", "+", "-", "*", "/", "mod"])) rfl,
    c_CLOSING := He.glo_ok X G (cd.fact 49 (f := .glo "CLOSING") rfl),
    k_CLOSING := c.t.tab 2 (t := (fun K => He.ga K "CLOSING", ["?", "call", "(", "index"])) rfl,
    c_BEGINNINGS := He.glo_ok X G (cd.fact 50 (f := .glo "BEGINNINGS") rfl),
    k_BEGINNINGS := c.t.tab 3 (t := (fun K => He.ga K "BEGINNINGS", ["number", "name", "in", "more", "("])) rfl,
    c_STATEMENTS := He.glo_ok X G (cd.fact 51 (f := .glo "STATEMENTS") rfl),
    k_STATEMENTS := c.t.tab 4 (t := (fun K => He.ga K "STATEMENTS", ["{", "if", "while", "do", "for", "switch", "break", "continue", "return", "out", "assert"])) rfl,
    cl_Cursor := ⟨He.glo_ok X G (cd.fact 55 (f := .glo "Cursor") rfl), He.cls_ok (cd.fact 81 (f := .cls "Cursor") rfl)⟩,
    mk_Cursor := ⟨(He.mkr_ok (cd.fact 82 (f := .mkr "Cursor") rfl)).makes, (He.mkr_ok (cd.fact 82 (f := .mkr "Cursor") rfl)).kp⟩,
    na_Cursor_pieces := He.noat_ok (cd.fact 85 (f := .noat "Cursor" "pieces") rfl),
    na_Cursor_at := He.noat_ok (cd.fact 86 (f := .noat "Cursor" "at") rfl),
    cl_ExpressionReader := ⟨He.glo_ok X G (cd.fact 56 (f := .glo "ExpressionReader") rfl), He.cls_ok (cd.fact 83 (f := .cls "ExpressionReader") rfl)⟩,
    mk_ExpressionReader := ⟨(He.mkr_ok (cd.fact 84 (f := .mkr "ExpressionReader") rfl)).makes, (He.mkr_ok (cd.fact 84 (f := .mkr "ExpressionReader") rfl)).kp⟩,
    na_ExpressionReader_cursor := He.noat_ok (cd.fact 87 (f := .noat "ExpressionReader" "cursor") rfl),
    na_ExpressionReader_first := He.noat_ok (cd.fact 88 (f := .noat "ExpressionReader" "first") rfl),
    na_ExpressionReader_depth := He.noat_ok (cd.fact 89 (f := .noat "ExpressionReader" "depth") rfl),
    na_ExpressionReader_parts := He.noat_ok (cd.fact 90 (f := .noat "ExpressionReader" "parts") rfl),
    na_ExpressionReader_held := He.noat_ok (cd.fact 91 (f := .noat "ExpressionReader" "held") rfl),
    n_len := He.free_ok X G (cd.fact 58 (f := .free "len") rfl),
    n_tuple := He.free_ok X G (cd.fact 59 (f := .free "tuple") rfl),
    n_isinstance := He.free_ok X G (cd.fact 60 (f := .free "isinstance") rfl),
    n_str := He.free_ok X G (cd.fact 61 (f := .free "str") rfl),
    n_enumerate := He.free_ok X G (cd.fact 62 (f := .free "enumerate") rfl),
    n_range := He.free_ok X G (cd.fact 63 (f := .free "range") rfl),
    n_int := He.free_ok X G (cd.fact 64 (f := .free "int") rfl),
    n_max := He.free_ok X G (cd.fact 65 (f := .free "max") rfl),
    ga__read_number := He.glo_ok X G (cd.fact 10 (f := .glo "_read_number") rfl),
    ga__read_name := He.glo_ok X G (cd.fact 11 (f := .glo "_read_name") rfl),
    ga__read_in_or_more := He.glo_ok X G (cd.fact 12 (f := .glo "_read_in_or_more") rfl),
    ga__read_bracket := He.glo_ok X G (cd.fact 13 (f := .glo "_read_bracket") rfl),
    ga__read_braces := He.glo_ok X G (cd.fact 25 (f := .glo "_read_braces") rfl),
    ga__read_if := He.glo_ok X G (cd.fact 26 (f := .glo "_read_if") rfl),
    ga__read_while := He.glo_ok X G (cd.fact 27 (f := .glo "_read_while") rfl),
    ga__read_do := He.glo_ok X G (cd.fact 28 (f := .glo "_read_do") rfl),
    ga__read_for := He.glo_ok X G (cd.fact 29 (f := .glo "_read_for") rfl),
    ga__read_switch := He.glo_ok X G (cd.fact 30 (f := .glo "_read_switch") rfl),
    ga__read_leaving := He.glo_ok X G (cd.fact 32 (f := .glo "_read_leaving") rfl),
    ga__read_return := He.glo_ok X G (cd.fact 33 (f := .glo "_read_return") rfl),
    ga__read_told := He.glo_ok X G (cd.fact 34 (f := .glo "_read_told") rfl),
    bt := bt_mk X G (cd.fact 57 (f := .glo "BadText") rfl) (cd.def_ 47 (d := dd_BadText___init__) rfl) v9,
    noL := (bt_mk X G (cd.fact 57 (f := .glo "BadText") rfl) (cd.def_ 47 (d := dd_BadText___init__) rfl) v9).noL,
    noC := (bt_mk X G (cd.fact 57 (f := .glo "BadText") rfl) (cd.def_ 47 (d := dd_BadText___init__) rfl) v9).noC,
    v_STRENGTHS := tabB_ok v0,
    v_BEGINNINGS := tabB_ok v1,
    v_STATEMENTS := tabB_ok v2,
    v_OWN_WORDS := tabB_ok v3,
    o_OWN := fun x hx => He.eqO_ok (List.all_eq_true.mp v4 x hx),
    v_CLOSING_choice := kvC ("?", .str ":") (List.mem_of_getElem? (i := 0) rfl),
    v_CLOSING_call := kvC ("call", .str ")") (List.mem_of_getElem? (i := 1) rfl),
    v_CLOSING_bracket := kvC ("(", .str ")") (List.mem_of_getElem? (i := 2) rfl),
    v_CLOSING_index := kvC ("index", .str "]") (List.mem_of_getElem? (i := 3) rfl) }

theorem all_ok (X : K.In h) (G : h.Ns mainGlobals mg) (c : He.SaysX hfa hfn hts [] hex w h K) (base : Heap) : Gd P w K mg base CX0 176 "law" ["script"] (sp_law K) := by
  have T := txt_mk X G c
  have G_Cursor___init__ := g_Cursor___init__ (P := P) (base := base) T 
  have G_Cursor_ahead := g_Cursor_ahead (P := P) (base := base) T 
  have G_Cursor_spot := g_Cursor_spot (P := P) (base := base) T 
  have G_Cursor_take := g_Cursor_take (P := P) (base := base) T 
  have G_Cursor_fail := g_Cursor_fail (P := P) (base := base) T G_Cursor_spot
  have G_Cursor_want := g_Cursor_want (P := P) (base := base) T G_Cursor_ahead G_Cursor_fail G_Cursor_take
  have G_ExpressionReader___init__ := g_ExpressionReader___init__ (P := P) (base := base) T 
  have G_ExpressionReader_look_at_depth := g_ExpressionReader_look_at_depth (P := P) (base := base) T G_Cursor_fail
  have G_ExpressionReader_begin_within := g_ExpressionReader_begin_within (P := P) (base := base) T G_ExpressionReader_look_at_depth
  have G_ExpressionReader_end_within := g_ExpressionReader_end_within (P := P) (base := base) T 
  have G_ExpressionReader_take_counted := g_ExpressionReader_take_counted (P := P) (base := base) T G_Cursor_fail G_Cursor_take
  have G__strength_of := g__strength_of (P := P) (base := base) T 
  have G_ExpressionReader_settle := g_ExpressionReader_settle (P := P) (base := base) T G__strength_of
  have G_ExpressionReader_settle_all := g_ExpressionReader_settle_all (P := P) (base := base) T G_ExpressionReader_settle G_ExpressionReader_end_within
  have G__read_number := g__read_number (P := P) (base := base) T G_ExpressionReader_take_counted
  have G__read_name := g__read_name (P := P) (base := base) T G_ExpressionReader_take_counted G_Cursor_ahead G_Cursor_take G_ExpressionReader_begin_within
  have G__read_in_or_more := g__read_in_or_more (P := P) (base := base) T G_ExpressionReader_take_counted G_Cursor_want
  have G__read_bracket := g__read_bracket (P := P) (base := base) T G_ExpressionReader_take_counted G_ExpressionReader_begin_within
  have G__read_operand := g__read_operand (P := P) (base := base) T G__read_number G__read_name G__read_in_or_more G__read_bracket G_Cursor_ahead G_Cursor_take G_Cursor_fail
  have G__read_field := g__read_field (P := P) (base := base) T G_ExpressionReader_take_counted G_Cursor_ahead G_Cursor_take G_Cursor_want
  have G__close := g__close (P := P) (base := base) T G_Cursor_take G_Cursor_want G_ExpressionReader_end_within
  have G__read_behind := g__read_behind (P := P) (base := base) T G_Cursor_ahead G__read_field G_ExpressionReader_begin_within G_ExpressionReader_take_counted G_ExpressionReader_settle G_Cursor_take G_ExpressionReader_settle_all G__close
  have G_read_expression := g_read_expression (P := P) (base := base) T G_ExpressionReader___init__ G_ExpressionReader_look_at_depth G__read_operand G__read_behind
  have G_read_kind := g_read_kind (P := P) (base := base) T G_Cursor_take G_Cursor_want
  have G_read_many := g_read_many (P := P) (base := base) T G_Cursor_ahead G_Cursor_take G_Cursor_want
  have G_read_firsts := g_read_firsts (P := P) (base := base) T G_Cursor_ahead G_Cursor_take G_read_expression G_Cursor_want
  have G__read_declaration := g__read_declaration (P := P) (base := base) T G_read_kind G_Cursor_want G_read_many G_read_firsts
  have G__read_plain := g__read_plain (P := P) (base := base) T G_Cursor_spot G_read_expression G_Cursor_ahead G_Cursor_take G_Cursor_fail
  have G__read_test := g__read_test (P := P) (base := base) T G_Cursor_want G_read_expression
  have S : ∀ j, Gd P w K mg base (L2.CX P w) (19 + 5 * j + 1) "_read_statement" ["cursor", "depth", "alone"] (sp__read_statement K j) := by
    intro j
    induction j with
    | zero =>
      have HK : 0 ≠ 0 → Kn P w K mg base 0 (19 + 5 * 0) := fun z => absurd rfl z
      exact g__read_statement (P := P) (base := base) (j := 0) T HK G_Cursor_fail G_Cursor_ahead G__read_declaration G__read_plain G_Cursor_want
    | succ j ih =>
      have G__read_statement := ih
      have G_read_statements := g_read_statements (P := P) (base := base) (j := j) T G_Cursor_ahead G__read_statement
      have G__read_braces := g__read_braces (P := P) (base := base) (j := j) T G_Cursor_take G_read_statements G_Cursor_want
      have G__read_if := g__read_if (P := P) (base := base) (j := j) T G_Cursor_take G__read_test G__read_statement G_Cursor_ahead
      have G__read_return := g__read_return (P := P) (base := base) (j := j + 1) T G_Cursor_take G_Cursor_ahead G_read_expression G_Cursor_want
      have G__read_told := g__read_told (P := P) (base := base) (j := j + 1) T G_Cursor_take G__read_test G_Cursor_want
      have HK : j + 1 ≠ 0 → Kn P w K mg base (j + 1) (19 + 5 * (j + 1)) := fun _ => ⟨G__read_braces.mono (by omega), G__read_if.mono (by omega), G__read_return.mono (by omega), G__read_told.mono (by omega)⟩
      exact g__read_statement (P := P) (base := base) (j := j + 1) T HK G_Cursor_fail G_Cursor_ahead G__read_declaration G__read_plain G_Cursor_want
  have G__read_statement := S 30
  have G_read_statements := g_read_statements (P := P) (base := base) (j := 30) T G_Cursor_ahead G__read_statement
  have G__size_of := g__size_of (P := P) (base := base) T 
  have G__figures_read := g__figures_read (P := P) (base := base) T 
  have G__number_of := g__number_of (P := P) (base := base) T G__figures_read
  have G__sort_of := g__sort_of (P := P) (base := base) T G__number_of
  have G__pieces_in := g__pieces_in (P := P) (base := base) T G__size_of G__sort_of
  have G_pieces_of := g_pieces_of (P := P) (base := base) T G__pieces_in
  have G__read_param := g__read_param (P := P) (base := base) T G_Cursor_ahead G_Cursor_fail G_read_kind G_Cursor_want G_Cursor_take
  have G__read_structure := g__read_structure (P := P) (base := base) T G_Cursor_want G_Cursor_ahead G_Cursor_take G_read_many
  have G__read_function := g__read_function (P := P) (base := base) T G_Cursor_want G_Cursor_ahead G__read_param G_Cursor_take G_read_statements
  have G__read_item := g__read_item (P := P) (base := base) T G_Cursor_ahead G_Cursor_take G_Cursor_want G__read_function G_Cursor_fail G_read_kind G__read_structure G_read_many G_read_firsts
  have G_read_module := g_read_module (P := P) (base := base) T G_Cursor___init__ G_pieces_of G_Cursor_want G_Cursor_ahead G_Cursor_take G__read_item
  have G__law_cell_at := g__law_cell_at (P := P) (base := base) T 
  have G__law_draw := g__law_draw (P := P) (base := base) T 
  have G__law_number := g__law_number (P := P) (base := base) T G__law_draw
  have G__law_next := g__law_next (P := P) (base := base) T G__law_cell_at G__law_number
  have G__law_pick := g__law_pick (P := P) (base := base) T G__law_next
  have G__law_wrong := g__law_wrong (P := P) (base := base) T G_read_module
  have G_law := g_law (P := P) (base := base) T G__law_next G__law_wrong G__law_pick
  exact G_law
end
end K03E

namespace K03E
open PySem PySem.Spec PyProof.Rows L2 My Mir Rd
theorem name_law : (HandSHeadRun.topDef (PySem.W.OpenLaw.row PySem.Challenge.rw_trueimage_k03_whole_deep_texts).prog 80).name = ("law" : PySem.Str) := by kernel_rfl
theorem end_core {P : Program} {w : World} {K : PySem.W.Frag} {h : Heap} {mg : Str → Option Value} {fa : Addr} (KX : K.In h) (G : h.Ns mainGlobals mg) (c : He.SaysX hfa hfn hts [] hex w h K) (hmg : mg ("law" : PySem.Str) = some (.ref fa)) :
    ∃ (K : PySem.W.Frag) (fd : FuncData) (sp : Sp), K.In h ∧ (∀ (s : Shared) (u : Value), BindsTo s fd ⟨[u], []⟩ [(("script" : PySem.Str), u)]) ∧
        (∀ (H : Hp) (a : Addr) (ns : List Int), ns.length ≤ 63 → Only H → SqL K H a (ns.map V.int) → sp [.ref a] H (fun v _ => v = .bl true) fun _ _ _ => False) ∧
        ∀ base : Heap, K.In base → base.Ns mainGlobals mg → FnOk P w K mg base CX0 176 fa fd ["script"] sp :=
  Rd.law_core (txt_mk KX G c) KX hmg (fun base => all_ok KX G c base)
end K03E
open PySem PySem.W PySem.Calls PyProof.Rows
set_option maxRecDepth 100000 in
set_option maxHeartbeats 8000000 in
theorem PySem.Challenge.cw_trueimage_k03_whole_deep_texts_holds : PySem.Challenge.rw_trueimage_k03_whole_deep_texts.Holds := by
  w_on; o_law
  refine HandSHeadRun.head_any (r := OpenLaw.row PySem.Challenge.rw_trueimage_k03_whole_deep_texts) (q := view (OpenLaw.row PySem.Challenge.rw_trueimage_k03_whole_deep_texts).prog [80]) (H := K03E.hk) (ob := K03E.hob) (M := 9000) (loose := K03E.hloose) (d := HandSHeadRun.topDef (OpenLaw.row PySem.Challenge.rw_trueimage_k03_whole_deep_texts).prog 80) (kwd := []) K03E.hob_eq
    (by kernel_rfl) (fun s => by kernel_rfl) K03E.hrun (by kernel_rfl) (by kernel_rfl) (by kernel_rfl) (by rfl) (by first | assumption | decide +kernel) (by decide +kernel) ⟨rfl, rfl, rfl, rfl, rfl, by decide +kernel⟩ ?hw ?hc
  case hw => w_witness2
  case hc =>
    refine L2.walk_ofE (l := PySem.Challenge.rw_trueimage_k03_whole_deep_texts) (n := 63) (k := 176) (x := "script") (CX := L2.CX0) rfl (by decide) (by kernel_rfl) ⟨rfl, by decide, by decide⟩ ?F (fun _ _ _ _ z => z)
    intro w mg fa h Y G hmg0
    obtain ⟨K, KX, c⟩ := Y
    exact K03E.end_core KX G c (K03E.name_law ▸ hmg0)


