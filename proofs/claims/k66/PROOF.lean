import PyProof.Rows.All
import Wide.All
import OpenK.AllK
import Wide.FinOn
import HandS.ForMost
import HandS.HeadHook4
import HandS.Wide
import HandS.CallLocal
import HandS.Style
import HandS.Flow
import HandS.Head0
import HandS.Head1
import HandS.Head2
import HandS.HeadEnd
import HandS.EndBits
import HandS.ForExc
import HandS.ExcInit
import HandS.TryElse
import KE.KExcInit
import KE.KExcSuper
import HandS.IsInst
import HandS.StrMore
import KE.GoesNew
import KE.GoesMore
import HandS.Walk
import KE.KBits
import KE.BitLaws
import PyProof.Rows.BitMore
import HandS.Zip
import HandS.DictComp
import HandS.FStr
import HandS.Strs
import HandS.TryOnly
import HandS.Text
import KE.IntTextLaws
import PySem.Challenge.RW_trueimage_k66_forms_told
set_option Elab.async false
set_option linter.all false
set_option maxRecDepth 100000
set_option maxHeartbeats 2000000
namespace My
open PySem PySem.Spec PyProof.Rows L2
/-! ### promises by the number of arguments -/
def sp1 (p : V → Hp → VK → XK → Prop) : Sp := fun vs H Q E => ∃ a, vs = [a] ∧ p a H Q E
def sp2 (p : V → V → Hp → VK → XK → Prop) : Sp := fun vs H Q E => ∃ a b, vs = [a, b] ∧ p a b H Q E
def sp3 (p : V → V → V → Hp → VK → XK → Prop) : Sp := fun vs H Q E => ∃ a b c, vs = [a, b, c] ∧ p a b c H Q E
def sp4 (p : V → V → V → V → Hp → VK → XK → Prop) : Sp := fun vs H Q E => ∃ a b c d, vs = [a, b, c, d] ∧ p a b c d H Q E
theorem len1 {p} (vs : List V) (H : Hp) (Q : VK) (E : XK) (h : sp1 p vs H Q E) : vs.length = 1 := by obtain ⟨a, rfl, _⟩ := h; rfl
theorem len2 {p} (vs : List V) (H : Hp) (Q : VK) (E : XK) (h : sp2 p vs H Q E) : vs.length = 2 := by obtain ⟨a, b, rfl, _⟩ := h; rfl
theorem len3 {p} (vs : List V) (H : Hp) (Q : VK) (E : XK) (h : sp3 p vs H Q E) : vs.length = 3 := by obtain ⟨a, b, c, rfl, _⟩ := h; rfl
theorem len4 {p} (vs : List V) (H : Hp) (Q : VK) (E : XK) (h : sp4 p vs H Q E) : vs.length = 4 := by obtain ⟨a, b, c, d, rfl, _⟩ := h; rfl
/-! ### a def of the text behind its name, a def that keeps its promise -/
structure Df (K : PySem.W.Frag) (mg : Str → Option Value) (x : Str) (st : Stmt) : Prop where
  ex : ∃ (f : Addr) (fd : FuncData), mg x = some (.ref f) ∧ FunD K x x (defArgs st) (defBody st) (defScope st) [] [] f fd
structure Gd (P : Program) (w : World) (K : PySem.W.Frag) (mg : Str → Option Value) (base : Heap) (CX : CXT) (k : Nat) (x : Str) (ps : List Str) (sp : Sp) : Prop where
  ex : ∃ (f : Addr) (fd : FuncData), mg x = some (.ref f) ∧ FnOk P w K mg base CX k f fd ps sp ∧ Binds K fd ps [] ∧ PySem.W.keepIn K (.ref f) = true ∧ ∃ oc od osl, K.lookup f = some ⟨oc, od, .func fd, osl⟩
section
variable {P : Program} {w : World} {K : PySem.W.Frag} {mg : Str → Option Value} {base : Heap}
theorem Gd.mono {CX : CXT} {j k : Nat} {x : Str} {ps : List Str} {sp : Sp} (h : Gd P w K mg base CX j x ps sp) (hk : j ≤ k) : Gd P w K mg base CX k x ps sp := by
  obtain ⟨f, fd, a, b, c, d, e⟩ := h.ex
  exact ⟨f, fd, a, b.mono hk, c, d, e⟩
/-- a def out of which no exception comes -/
theorem Df.ok {x : Str} {st : Stmt} {N ps : List Str} {k : Nat} {sp : Sp} (D : Df K mg x st) (S : FnScope N ps (defScope st)) (len : ∀ vs H Q E, sp vs H Q E → vs.length = ps.length)
    (hb : ∀ (kV doc pm : Value) (an : Option Addr) (cdv ct : Value) (us : List Value), us.length = ps.length → bindArgs (PySem.W.fnOf x x (defArgs st) (defBody st) (defScope st) .none kV doc pm an cdv ct) ⟨us, []⟩ = pure (ps.zip us))
    (hbody : ∀ (f : Addr) (cdv : Value) (A : Around) (outer : List Env) (s : Shared) (H : Hp) (vs : List V) (Q : VK) (E : XK), Room k (A.deeper (envOfC x (defScope st) s.heap.objs.size f cdv)) → sp vs H Q E →
      ∃ t, PSs (cxOf CX0 P w K mg base N x (defScope st) f cdv A outer s H E).nox (defBody st) t ∧ t { nx := fun _ H' => Q .non H', rt := Q } (start N vs) H) : Gd P w K mg base CX0 (k + 1) x ps sp := by
  obtain ⟨f, fd, hm, F⟩ := D.ex
  have lk : ∃ oc od osl, K.lookup f = some ⟨oc, od, .func fd, osl⟩ := by
    obtain ⟨oc, od, dV, kV, doc, pm, an, cdv, ct, osl, e, l, _⟩ := F.ex
    exact ⟨oc, od, osl, l⟩
  refine ⟨f, fd, hm, F.ok S len fun cdv A outer s H vs Q E hr h => ?_, F.bindsN hb, F.kp, lk⟩
  obtain ⟨t, h1, h2⟩ := hbody f cdv A outer s H vs Q E hr h
  exact ⟨t, h1.nox, h2⟩
end
section
variable {X : Cx} {CX : CXT} {k : Nat} {x : Str} {ps : List Str} {sp : Sp} {E : XK} {e : Expr} {es : List Expr} {t : TA} {p pos : Pos}
def tCallG (sp : Sp) (E : XK) (t : TA) : TE := fun σ H Q => t σ H fun vs H1 => sp vs H1 Q E
theorem pe_g (h : Gd X.prog X.w X.K X.mg X.base CX k x ps sp) (hr : Room k X.A) (hx : Passes CX X E) (ha : PA X (e :: es) t) (hg : Gl X x := by rfl) (hdb : (x == ("__debug__" : Str)) = false := by decide)
    (he : starEach (e :: es) X.env = (false, eval e X.env) :: starEach es X.env := by rfl) (hpl : (backTo pos (starEach es X.env)).any (·.1) = false := by rfl) : PE X (.Call (.Name x p) (e :: es) [] pos) (tCallG sp E t) := by
  obtain ⟨f, fd, hm, F, hb, hk, _⟩ := h.ex
  have z := pe_call (p := p) F hr hg hm hk hb .nil hx ha hdb he hpl
  refine ⟨fun pins s σ H Q I hw => z.run pins s σ H Q I ?_⟩
  have e0 : (fun (vs : List V) (H1 : Hp) => sp (vs ++ []) H1 Q E) = fun vs H1 => sp vs H1 Q E := by
    funext vs H1
    rw [List.append_nil]
  show t σ H (fun vs H1 => sp (vs ++ []) H1 Q E)
  rw [e0]
  exact hw
/-- the module's ints, texts -/
theorem pe_gint {i : Int} (h : ∃ t, X.mg x = some (.int i t)) (hg : Gl X x := by rfl) (hd : (x == ("__debug__" : Str)) = false := by decide) : PE X (.Name x pos) (tC (.int i)) := by
  obtain ⟨t, h⟩ := h
  exact pe_glob hg h ⟨_, rfl⟩ hd
theorem pe_gstr {z : Str} (h : ∃ t, X.mg x = some (.str z t)) (hg : Gl X x := by rfl) (hd : (x == ("__debug__" : Str)) = false := by decide) : PE X (.Name x pos) (tC (.str z)) := by
  obtain ⟨t, h⟩ := h
  exact pe_glob hg h ⟨_, rfl⟩ hd
theorem pe_gref {a : Addr} (h : X.mg x = some (.ref a)) (hg : Gl X x := by rfl) (hd : (x == ("__debug__" : Str)) = false := by decide) : PE X (.Name x pos) (tC (.ref a)) := pe_glob hg h rfl hd
end
end My

set_option maxHeartbeats 4000000
namespace Bt
open PySem PySem.W PySem.Calls PyProof.Rows
abbrev exB : List Value := [.type "Exception", .type "BaseException", .type "object"]
def plainExc (C t : Addr) (dd : Option Addr) : Obj := { cls := .ref C, dict := dd, data := .fields #[.ref t, .none, .none, .none, .bool false, .none] }
section
variable {prog : Program} {w : World} {A : Around} {R : Result → Shared → Prop} {hp : Heap} {g : Array GenState} {d : Drawn} {t : Nat} {os : OsState} {K : Frag} {C x : Addr} {name : Str} {tk : Tok} {v : Value}
/-- the first field of a raised thing: its dict is laid -/
theorem fld_first (X : K.In hp) {t0 : Addr} (hx : hp.get? x = some (plainExc C t0 none)) (hov : excOver K C exB = true) {cd : ClassData} (hcd : clsIn K C = some cd) (hh : cd.hasDict = true) (hno : findIn K (.ref C) name = some none)
    (hq : ∀ h' tk' dx, (∀ b o, b ≠ x → hp.get? b = some o → h'.get? b = some o) → hp.objs.size ≤ dx → dx ≠ x → h'.get? x = some (plainExc C t0 (some dx)) → h'.Ns1 dx (fun y => if y = name then some v else none) →
      R (.ok (.ret .none)) ⟨h', g, d, tk', os⟩) :
    codeAny (model prog w) A (.call (.builtin "object.__setattr__") ⟨[.ref x, .str name tk, v], []⟩) R ⟨hp, g, d, t, os⟩ := by
  have tak : takerIn K C name = some none := by unfold takerIn; rw [hno]; rfl
  have inst : InstAt hp x (plainExc C t0 none) C none := ⟨hx, rfl, rfl, trivial⟩
  have lc : Looks (model prog w) hp (classData C) cd := looks_clsIn X hcd
  have far : x ≠ hp.objs.size := Nat.ne_of_lt (Heap.lt_size hx)
  refine osa_openX (s := ⟨hp, g, d, t, os⟩) PySem.F.store_Exception X inst hov tak fun b => ?_
  obtain ⟨n1, n2, n3, n4, n5, n6, n7, n8, n9, n10, n11⟩ := cd
  dsimp only at hh
  subst hh
  show wpAny _ _ (Builtin.ObjectAttr.storeInOwnDict _ _ _ _ _ _) _ _ _
  unfold Builtin.ObjectAttr.storeInOwnDict Builtin.ObjectAttr.ownDictForStores
  repeat (first | with_reducible refine lc.at ?_ | with_reducible refine wpAny_loadPart_at hx ?_ | with_reducible refine HandSPX.store_in_new ?_ ?_ | wp_step)
  · exact ⟨_, #[], _, (Heap.get?_update_ne _ _ _ _ far.symm).trans (Heap.get?_push_at rfl rfl), rfl, (fun e he => absurd he (by simp)), fun _ => rfl⟩
  · intro h1 tk1 nsd same
    have hx1 : (hp.push { cls := .type "dict", data := .dict #[] }).get? x = some (plainExc C t0 none) := Heap.get?_push_of_some _ hx
    refine hq h1 tk1 hp.objs.size (fun b o hb ho => ?_) (Nat.le_refl _) far.symm ?_ nsd
    · have y := same.2 b (Nat.ne_of_lt (Heap.lt_size ho))
      rw [y, Heap.get?_update_ne _ _ _ _ hb]
      exact Heap.get?_push_of_some _ ho
    · have y := same.2 x far
      rw [y]
      exact Heap.get?_update_self _ hx1 rfl
/-- a further field -/
theorem fld_more (X : K.In hp) {t0 dx : Addr} {m0 : Str → Option Value} {nl : List Str} (hx : hp.get? x = some (plainExc C t0 (some dx))) (hns : hp.Ns1 dx m0) (hw : Within m0 nl) (hz : nl.length ≤ 1000) (hov : excOver K C exB = true) {cd : ClassData} (hcd : clsIn K C = some cd) (hh : cd.hasDict = true) (hno : findIn K (.ref C) name = some none)
    (hq : ∀ h' tk', (∀ b o, b ≠ dx → hp.get? b = some o → h'.get? b = some o) → h'.Ns1 dx (fun y => if y = name then some v else m0 y) → R (.ok (.ret .none)) ⟨h', g, d, tk', os⟩) :
    codeAny (model prog w) A (.call (.builtin "object.__setattr__") ⟨[.ref x, .str name tk, v], []⟩) R ⟨hp, g, d, t, os⟩ := by
  have tak : takerIn K C name = some none := by unfold takerIn; rw [hno]; rfl
  obtain ⟨oD, esD, epD, hoD, hdD, _⟩ := hns.count hw
  have inst : InstAt hp x (plainExc C t0 (some dx)) C (some oD) := ⟨hx, rfl, rfl, hoD⟩
  have lc : Looks (model prog w) hp (classData C) cd := looks_clsIn X hcd
  refine osa_openX (s := ⟨hp, g, d, t, os⟩) PySem.F.store_Exception X inst hov tak fun b => ?_
  obtain ⟨n1, n2, n3, n4, n5, n6, n7, n8, n9, n10, n11⟩ := cd
  dsimp only at hh
  subst hh
  show wpAny _ _ (Builtin.ObjectAttr.storeInOwnDict _ _ _ _ _ _) _ _ _
  unfold Builtin.ObjectAttr.storeInOwnDict Builtin.ObjectAttr.ownDictForStores
  repeat (first | with_reducible refine lc.at ?_ | with_reducible refine wpAny_loadPart_at hx ?_ | with_reducible refine PySem.OEX.store_in_old hns hw hz ?_ | wp_step)
  intro h1 tk1 nsd same
  exact hq h1 tk1 (fun b o hb ho => by rw [same.2 b hb]; exact ho) nsd
end
/-! ### BadText: what the written part says of it; its __init__ -/
def iA (p1 p2 p3 : Pos) : Arguments := { posonlyargs := [], args := [{ arg := "self", annotation := none, pos := p1 }, { arg := "line", annotation := none, pos := p2 }, { arg := "column", annotation := none, pos := p3 }], vararg := none, kwonlyargs := [], kw_defaults := [], kwarg := none, defaults := [] }
def iB (q1 q2 q3 q4 r1 r2 r3 r4 : Pos) : List Stmt := [.Assign [.Attribute (.Name "self" q1) "line" q2] (.Name "line" q3) q4, .Assign [.Attribute (.Name "self" r1) "column" r2] (.Name "column" r3) r4]
def iS : Scope := { kind := .function, names := [(PySem.Str.ofString "self", .local), (PySem.Str.ofString "line", .local), (PySem.Str.ofString "column", .local)], isGenerator := false, isCoroutine := false, more := [] }
structure BtTxt (K : Frag) (mg : Str → Option Value) (C fI : Addr) : Prop where
  gC : mg "BadText" = some (.ref C)
  exI : excInitIn K C exB "Exception.__new__" = true
  over : excOver K C exB = true
  cd : ∃ cd, clsIn K C = some cd ∧ cd.hasDict = true
  sa : findIn K (.ref C) "__setattr__" = some (some (.builtin "object.__setattr__"))
  ga : findIn K (.ref C) "__getattribute__" = some (some (.builtin "BaseException.__getattribute__"))
  gg : findIn K (.ref C) "__getattr__" = some none
  noL : findIn K (.ref C) "line" = some none
  noC : findIn K (.ref C) "column" = some none
  iC : findIn K (.ref C) "__init__" = some (some (.ref fI))
  tC : typeIn K (.ref fI) = some (.type "function")
  kC : keepIn K (.ref C) = true
  exC : subIn K (.ref C) (.type "BaseException") = some true
  tyC : typeIn K (.ref C) = some (.type "type")
  hdC : hasDictIn K C = true
  te : exmOne K (.ref C) (.ref C) = some true
  fn : ∃ (oc : Value) (od : Option Addr) (kV doc pm : Value) (an : Option Addr) (cdv ct : Value) (osl : Array (Option Value)) (p1 p2 p3 q1 q2 q3 q4 r1 r2 r3 r4 : Pos),
    K.lookup fI = some ⟨oc, od, .func (fnOf "__init__" "BadText.__init__" (iA p1 p2 p3) (iB q1 q2 q3 q4 r1 r2 r3 r4) iS .none kV doc pm an cdv ct), osl⟩ ∧ codeIn K cdv "BadText.__init__" = true
theorem one_size (v u : Value) : [v, u].length ≤ sizeLine := by
  rw [sizeLine_eq]
  exact (by decide : 2 ≤ 16777216)
theorem ldC {M : Model} {s : Shared} {name : Str} {scope : Scope} {L a : Addr} {cd : Value} {m : Str → Option Value} {x : Str} {pos : Pos} {v : Value} {Q : Value → Shared → Prop} {A : Around} {E : Value → Shared → Prop} (hn : s.heap.Ns L m) (hv : m x = some v) (h : Q v s)
    (hk : scope.kind = .function := by rfl) (hl : (envOfC name scope L a cd).kindOf x = some .local := by rfl) (hd : (x == ("__debug__" : Str)) = false := by decide) :
    wpAny M A (eval (.Name x pos) (envOfC name scope L a cd)) Q E s := wpAny_Name (wpAny_loadName_local hk hl hn hv h) hd
def two (l c : Value) : Str → Option Value := fun y => if y = "column" then some c else if y = "line" then some l else none
/-- what __init__ leaves of a fresh exception at x -/
structure InitEnd (h h' : Heap) (x C dx t1 : Addr) (l c : Value) : Prop where
  keep : ∀ b o, b ≠ x → h.get? b = some o → h'.get? b = some o
  obj : h'.get? x = some (plainExc C t1 (some dx))
  dbig : h.objs.size ≤ dx
  dne : dx ≠ x
  ns : h'.Ns1 dx (two l c)
/-- a made BadText -/
structure OwnMade (h h' : Heap) (e C d : Addr) (l c : Value) : Prop where
  keep : ∀ b o, h.get? b = some o → h'.get? b = some o
  new : h.objs.size ≤ e
  obj : ∃ oe vs, h'.get? e = some oe ∧ oe.cls = .ref C ∧ oe.dict = some d ∧ oe.data = .fields vs ∧ vs[1]? = some .none
  dbig : h.objs.size ≤ d
  dne : d ≠ e
  ns : h'.Ns1 d (two l c)
section
variable {prog : Program} {w : World} {A : Around} {E : Value → Shared → Prop} {R : Result → Shared → Prop} {s : Shared} {K : Frag} {mg : Str → Option Value} {C fI : Addr}
theorem bt_init (T : BtTxt K mg C fI) {x t0 : Addr} {l c : Value} (X : K.In s.heap) (hlim : s.heap.NoLimit) (hx : s.heap.get? x = some (plainExc C t0 none)) (hnx : K.lookup x = none) (hroom : A.depth < recursionLimit)
    (hq : ∀ h' tk dx, InitEnd s.heap h' x C dx t0 l c → R (.ok (.ret .none)) { s with heap := h', toks := tk }) :
    codeAny (model prog w) A (.call (.ref fI) ⟨[.ref x, l, c], []⟩) R s := by
  obtain ⟨oc, od, kV, doc, pm, an, cdv, ct, osl, p1, p2, p3, q1, q2, q3, q4, r1, r2, r3, r4, ho, hcd⟩ := T.fn
  obtain ⟨cd, hcl, hhd⟩ := T.cd
  refine Att.call_fn (binds := [("self", .ref x), ("line", l), ("column", c)]) X hlim ho hcd hroom (BindsTo.of_eq (by first | rfl | with_unfolding_all rfl)) (by first | rfl | decide | with_unfolding_all rfl) (fun s₁ IC => ?_) rfl rfl rfl
  obtain ⟨h₁, tk₁, rfl⟩ := IC.toInCall.same
  have k : ∀ b o, s.heap.get? b = some o → h₁.get? b = some o := IC.toInCall.keep
  have hn := IC.toInCall.ns
  have hLx : s.heap.objs.size ≠ x := Nat.ne_of_gt (Heap.lt_size hx)
  have X₁ : K.In h₁ := X.keeps k
  have hx₁ := k _ _ hx
  have z : s.heap.objs.size < h₁.objs.size := hn.lt
  -- self.line = line
  show wpAny _ _ (execs _ _) _ _ _
  refine wpAny_execs_cons (plainObj_wpAny_Assign_Attribute ?_)
  refine ldC (v := l) hn (by first | rfl | with_unfolding_all rfl | kernel_rfl) (ldC (v := .ref x) hn (by first | rfl | with_unfolding_all rfl | kernel_rfl) ?_)
  refine set_plain X₁ (ox := plainExc C t0 none) (od := none) ⟨hx₁, rfl, rfl, trivial⟩ T.sa ?_
  refine fld_first X₁ hx₁ T.over hcl hhd T.noL (fun h₂ tk₂ dx k₂ dn dne hx₂ hn₂ => ?_)
  have X₂ : K.In h₂ := fun b o e => k₂ b o (fun q => by rw [q, hnx] at e; cases e) (X₁ b o e)
  have hnL := hn.at (h' := h₂) (fun o e => k₂ _ _ hLx e)
  obtain ⟨oD, hoD⟩ : ∃ o, h₂.get? dx = some o := by
    obtain ⟨o, _, _, e, _⟩ := hn₂
    exact ⟨o, e⟩
  -- self.column = column
  show wpAny _ _ (execs _ _) _ _ _
  refine wpAny_execs_cons (plainObj_wpAny_Assign_Attribute ?_)
  refine ldC (v := c) hnL (by first | rfl | with_unfolding_all rfl | kernel_rfl) (ldC (v := .ref x) hnL (by first | rfl | with_unfolding_all rfl | kernel_rfl) ?_)
  refine set_plain X₂ (ox := plainExc C t0 (some dx)) (od := some oD) ⟨hx₂, rfl, rfl, hoD⟩ T.sa ?_
  have wi : Within (fun y => if y = ("line" : Str) then some l else none) [("line" : Str)] := Within.cons _ _ Within.nil
  refine fld_more X₂ hx₂ hn₂ wi (by decide) T.over hcl hhd T.noC (fun h₃ tk₃ k₃ hn₃ => ?_)
  show wpAny _ _ (execs _ _) _ _ _
  refine wpAny_execs_nil (hq h₃ tk₃ dx ⟨fun b o hb e => k₃ b o (fun q => ?_) (k₂ b o hb (k b o e)), k₃ x _ dne.symm hx₂, Nat.le_of_lt (Nat.lt_of_lt_of_le z dn), dne, hn₃⟩)
  subst q
  exact absurd (Nat.lt_of_lt_of_le (Heap.lt_size (k _ _ e)) dn) (Nat.lt_irrefl _)
theorem bt_made (T : BtTxt K mg C fI) {l c : Value} (X : K.In s.heap) (hlim : s.heap.NoLimit) (hroom : A.depth + 1 < recursionLimit)
    (hq : ∀ h' tk e d, OwnMade s.heap h' e C d l c → R (.ok (.ret (.ref e))) { s with heap := h', toks := tk }) :
    codeAny (model prog w) A (.call (.ref C) ⟨[l, c], []⟩) R s := by
  obtain ⟨nm, N, q, bs, bm, hdct, sn, sub, ab, col, dd, k0, k1, k2, k3, k5, hC, hT⟩ := excInit_of X T.exI
  obtain ⟨hp, g, dr, tk, os⟩ := s
  have k : ∀ b o, hp.get? b = some o → ((hp.push (kdv_tup [l, c])).push (HandSPX.excO C hp.objs.size)).get? b = some o := fun b o e => Heap.get?_push_of_some _ (Heap.get?_push_of_some _ e)
  have hget : ((hp.push (kdv_tup [l, c])).push (HandSPX.excO C hp.objs.size)).get? (hp.objs.size + 1) = some (HandSPX.excO C hp.objs.size) := by heap_get
  have hnx : K.lookup (hp.objs.size + 1) = none := by
    cases e : K.lookup (hp.objs.size + 1) with
    | none => rfl
    | some o =>
      have z : hp.get? (hp.objs.size + 1) = some o := X _ _ e
      exact absurd (Nat.lt_of_succ_lt (Heap.lt_size z)) (Nat.lt_irrefl _)
  refine HandSPX.call_own PySem.F.excBase_Exception hT hC (looks_findIn X T.iC) (fun self => bind_fn X self T.tC) (one_size l c) ?_
  refine bt_init (s := ⟨(hp.push (kdv_tup [l, c])).push (HandSPX.excO C hp.objs.size), g, dr, tk, os⟩) T (X.keeps k) (hlim.keeps k) hget hnx ?_ fun h' tk' dx ⟨k', hx, dn, dne, hns⟩ => ?_
  · show A.depth + 1 < recursionLimit
    exact hroom
  · have old : ∀ b o, hp.get? b = some o → h'.get? b = some o := fun b o e => k' b o (Nat.ne_of_lt (Nat.lt_succ_of_lt (Heap.lt_size e))) (k b o e)
    have z : hp.objs.size + 1 + 1 ≤ dx := by
      first
        | (simpa only [Heap.size_push] using dn)
        | exact dn
        | (have q := dn; rw [Heap.size_push, Heap.size_push] at q; exact q)
    exact ⟨rfl, hq h' tk' (hp.objs.size + 1) dx ⟨old, Nat.le_succ _, ⟨_, _, hx, rfl, rfl, rfl, rfl⟩, Nat.le_trans (Nat.le_trans (Nat.le_succ _) (Nat.le_succ _)) z, dne, hns⟩⟩
end
end Bt
namespace L2
open PySem PySem.Spec PyProof.Rows
def btFs (v u : V) : List (Str × V) := [("column", u), ("line", v)]
theorem bt_line (v u : V) : (btFs v u).lookup ("line" : Str) = some v := by
  have q : (("line" : Str) == ("column" : Str)) = false := by decide +kernel
  unfold btFs
  simp only [List.lookup, q, beq_self_eq_true]
theorem bt_col (v u : V) : (btFs v u).lookup ("column" : Str) = some u := by
  unfold btFs
  simp only [List.lookup, beq_self_eq_true]
theorem bt_rel {v u : V} {v' u' : Value} (r1 : RelV v v') (r2 : RelV u u') (f : Str) : RelO ((btFs v u).lookup f) (Bt.two v' u' f) := by
  unfold Bt.two btFs
  by_cases hc : f = "column"
  · subst hc
    rw [if_pos rfl]
    have q : List.lookup ("column" : Str) [(("column" : Str), u), (("line" : Str), v)] = some u := by simp [List.lookup]
    rw [q]
    exact r2
  · rw [if_neg hc]
    have qc : (f == ("column" : Str)) = false := by simpa using hc
    by_cases hl : f = "line"
    · subst hl
      rw [if_pos rfl]
      have q : List.lookup ("line" : Str) [(("column" : Str), u), (("line" : Str), v)] = some v := by
        simp only [List.lookup, qc]
        simp
      rw [q]
      exact r1
    · rw [if_neg hl]
      have ql : (f == ("line" : Str)) = false := by simpa using hl
      have q : List.lookup f [(("column" : Str), u), (("line" : Str), v)] = none := by
        simp only [List.lookup, qc, ql]
      rw [q]
      trivial
section
variable {X : Cx} {C fI : Addr}
/-- BadText(e, e') -/
def tMkBt (C : Addr) (ta : TA) : St → Hp → XK → Prop := fun σ H Q => ta σ H fun vs H1 => ∃ v u, vs = [v, u] ∧ ∀ d, H1 d = none → Q (.ref C) (some d) (upd H1 d (.xd (btFs v u)))
theorem pmk_bt {a b : Expr} {ta : TA} {p pos : Pos} {k : Nat} (T : Bt.BtTxt X.K X.mg C fI) (hr : Room k X.A) (ha : PA X [a, b] ta) (hg : Gl X "BadText" := by rfl)
    (he : starEach (a :: [b]) X.env = (false, eval a X.env) :: starEach [b] X.env := by rfl) (hpl : (backTo pos (starEach [b] X.env)).any (·.1) = false := by rfl) :
    PMk X (.Call (.Name "BadText" p) [a, b] [] pos) (tMkBt C ta) := by
  intro pins s σ H Q I h
  refine wpAny_Call_Name_kw (ld_glob I hg T.gC ?_)
  refine PySem.W.callWith_K (h₀ := X.base) I.ok.mod.kin T.kC (thn (ha.run pos pins s σ H _ I h) fun us s1 hh => ?_) he hpl
  obtain ⟨vs, H1, I1, r1, v, u, ev, q1⟩ := hh
  subst ev
  refine ⟨I1.kIn, ?_⟩
  obtain ⟨v', u', rfl, rv, ru⟩ := Vals.two r1
  show wpAny _ _ (call (.ref C) [v', u']) _ _ _
  have hlim := I1.nolimit
  obtain ⟨hp, g, dr, tk, os⟩ := s1
  refine wpAny_call (Bt.bt_made T I1.kIn hlim (by have := hr.dp; omega) fun h' tk' e d M => ?_)
  show MkP X pins σ Q (.ref e) ⟨h', g, dr, tk', os⟩
  obtain ⟨oe, fv, hoe, hc, hd, hdat, h1⟩ := M.obj
  have hns := M.ns
  obtain ⟨G', g1, g2⟩ := restrict h' fun b => decide (b ≠ e)
  have gk : ∀ b, b ≠ e → G'.get? b = h'.get? b := fun b hb => g1 b (decide_eq_true hb)
  have ge : G'.get? e = none := g2 e (by simp)
  have old : ∀ b o, hp.get? b = some o → G'.get? b = some o := fun b o q => (gk b (Nat.ne_of_lt (Nat.lt_of_lt_of_le (Heap.lt_size q) M.new))).trans (M.keep b o q)
  have ob : ObjOk X.prog X.w (upd H1 d (.xd (btFs v u))) G' d (.xd (btFs v u)) :=
    ⟨_, hns.at (fun o q => (gk d M.dne).trans q), fun f => bt_rel rv ru f⟩
  have J : Inv X pins σ (upd H1 d (.xd (btFs v u))) ⟨G', g, dr, tk', os⟩ := I1.laid (t' := tk') old M.dbig ob
  refine ⟨e, oe, fv, ⟨G', g, dr, tk', os⟩, _, .ref C, some d, rfl, J, fun b o q => ?_, ge, hoe, ⟨hc, hd⟩, hdat, h1, ?_, rfl, I1.bare, raises_own T.exC T.tyC, q1 d (I1.hok.fresh M.dbig)⟩
  · by_cases hb : b = e
    · have q' : G'.get? b = some o := q
      rw [hb, ge] at q'; cases q'
    · exact (gk b hb).symm.trans q
  · rw [upd_ne (Ne.symm M.dne)]
    exact I1.hok.fresh M.new
/-- raise BadText(e, e') -/
def tRaiseBt (C : Addr) (W : WX) (ta : TA) : TS := fun _ σ H => tMkBt C ta σ H fun cls d H' => W cls d σ H'
theorem ps_raiseBt {a b : Expr} {ta : TA} {W : WX} {p pos pos2 : Pos} {k : Nat} (hc : X.calm = true) (T : Bt.BtTxt X.K X.mg C fI) (hr : Room k X.A) (tk : Takes X W) (ha : PA X [a, b] ta) (hg : Gl X "BadText" := by rfl)
    (he : starEach (a :: [b]) X.env = (false, eval a X.env) :: starEach [b] X.env := by rfl) (hpl : (backTo pos (starEach [b] X.env)).any (·.1) = false := by rfl) :
    PS X (.Raise (some (.Call (.Name "BadText" p) [a, b] [] pos)) none pos2) (tRaiseBt C W ta) := ps_raise hc tk (pmk_bt T hr ha hg he hpl)
/-- error.line, error.column, error the exception that the suite holds (at a; its class cls, its dict d) -/
def tFldBt (C : Addr) (f : Str) (a : Addr) (cls : Value) (d : Option Addr) (te : TE) : TE := fun σ H Q => te σ H fun x H1 => x = .ref a ∧ cls = .ref C ∧ ∃ (dd : Addr) (fs : List (Str × V)) (v : V), d = some dd ∧ H1 dd = some (.xd fs) ∧ fs.lookup f = some v ∧ Q v H1
theorem pe_fldBt {f : Str} {a : Addr} {oe : Obj} {cls : Value} {d : Option Addr} {pn : List (Addr × Obj)} {e : Expr} {te : TE} {pos : Pos} (T : Bt.BtTxt X.K X.mg C fI) (hn : PySem.W.findIn X.K (.ref C) f = some none) (hz : Zc cls d oe) (hf : ∃ vs, oe.data = .fields vs) (he : PE (X.suite a ((a, oe) :: pn)) e te)
    (hb : attributeBase e f X.env (eval e X.env) = eval e X.env := by rfl) :
    PE (X.suite a ((a, oe) :: pn)) (.Attribute e f pos) (tFldBt C f a cls d te) := by
  refine ⟨fun pins s σ H Q I h => ?_⟩
  refine attr_of hb (thn (he.run pins s σ H _ I h) fun u s1 hh => ?_)
  obtain ⟨x, H1, I1, rx, ex, ec, dd, fs, v, ed, ea, l, q⟩ := hh
  subst ex
  obtain rfl : u = Value.ref a := rx
  subst ec
  subst ed
  obtain ⟨ha, _⟩ := I1.pin (a, oe) (List.mem_append_left _ List.mem_cons_self)
  obtain ⟨vs, hd⟩ := hf
  have hx : ObjOk X.prog X.w H1 s1.heap dd (.xd fs) := I1.hok dd _ ea
  obtain ⟨mA, hns, hr⟩ := hx
  obtain ⟨od, ho, hl⟩ := lookIn_ns hns
  obtain ⟨u, hu, ru⟩ := RelO.some_of (v := v) (o := mA f) (by rw [← l]; exact hr f)
  have J : PySem.W.InstAt s1.heap a oe C (some od) := ⟨ha, hz.1, by unfold PySem.W.notCls; rw [hd] <;> rfl, by rw [hz.2]; exact ho⟩
  exact HandSPX.exc_get I1.kIn J T.ga T.gg T.exC (PySem.W.findObj_own T.hdC hn rfl (by rw [hl, hu])) (handed_of ru) ⟨v, H1, I1.tok _, ru, q⟩
end
end L2

namespace L2
open PySem PySem.Spec PyProof.Rows
section
variable {X : Cx} {x n : Str} {c : Value} {i : Nat} {body suite orelse : List Stmt} {b₀ : Stmt} {np pos pos' : Pos} {tb : WX → TS} {ts : Addr → Value → Option Addr → TS} {u : TS}
theorem Inv.thin {pins : List (Addr × Obj)} {σ σ' : St} {H : Hp} {s : Shared} (I : Inv X pins σ H s) (hl : σ'.length = X.N.length) (h : ∀ (j : Nat) (v : V), σ'[j]? = some (some v) → σ[j]? = some (some v)) : Inv X pins σ' H s := by
  obtain ⟨m, hn, hlk⟩ := I.loc
  exact { I with loc := ⟨m, hn, fun j x v e1 e2 e3 => hlk j x v e1 (h j v e2) e3⟩, len := hl }
theorem only_set {n i : Nat} {σ : St} {w : V} (hi : i < σ.length) : ∀ (j : Nat) (v : V), ((List.replicate n (none : Option V)).set i (some w))[j]? = some (some v) → (σ.set i (some w))[j]? = some (some v) := by
  intro j v e
  rw [List.getElem?_set] at e ⊢
  by_cases c : i = j
  · subst c
    rw [if_pos rfl] at e ⊢
    rw [if_pos hi]
    split at e
    · exact e
    · cases e
  · rw [if_neg c] at e
    rw [List.getElem?_replicate] at e
    split at e
    · cases e
    · cases e
/-- what the clause wishes of what the body lets out: it is the clause's own, and the suite returns -/
def wGot (K : PySem.W.Frag) (n : Nat) (c : Value) (i : Nat) (ts : Addr → Value → Option Addr → TS) (D : Ends) : WX := fun cls d _ H =>
  PySem.W.exmOne K cls c = some true ∧ ∀ a, H a = none → ts a cls d { nx := fun _ _ => False, rt := D.rt } ((List.replicate n none).set i (some (.ref a))) H
/-- try: body / except x as n: a suite that returns / else: orelse -/
theorem ps_try_got (ho : PSs X orelse u) (stk : X.stack = X.env :: X.outer) (frm : X.env.frame = some X.env.locals) (nd : X.N.Nodup) (at_ : X.N[i]? = some n) (lo : X.env.kindOf n = some .local) (nm : Names X x c)
    (hb : ∀ (W : WX) (pn : List (Addr × Obj)) (xe : Value → Shared → Prop), Takes (X.tr pn xe) W → PassesOwn (model X.prog X.w) X.A X.env xe → PSs (X.tr pn xe) body (tb W))
    (hsu : ∀ (a : Addr) (oe : Obj) (cls : Value) (d : Option Addr) (pn : List (Addr × Obj)), Zc cls d oe → (∃ vs, oe.data = .fields vs) → PSs (X.suite a ((a, oe) :: pn)) (b₀ :: suite) (ts a cls d)) :
    PS X (.Try body [.ExceptHandler (some (.Name x np)) (some n) (b₀ :: suite) pos'] orelse [] pos) (fun D σ H => tb (wGot X.K X.N.length c i ts D) { D with nx := u D } σ H) := by
  refine ⟨fun ps s0 σ0 H0 D inv rd => wpAny_Try_except ?_⟩
  have xok := inv.ok
  have afr : X.A.frames = some (X.env :: X.outer) := xok.frames.trans (congrArg some stk)
  have run := hb (wGot X.K X.N.length c i ts D) (X.pn ++ ps) (fun e s₁ => wpAny (model X.prog X.w) X.A (noteFrame e X.env) (fun _ s₂ => wpAny (model X.prog X.w) X.A (setFlight e none)
    (fun _ s₃ => wpAny (model X.prog X.w) X.A (handleBy e X.env [.ExceptHandler (some (.Name x np)) (some n) (b₀ :: suite) pos']) (SP X ps D) X.xe s₃) X.xe s₂) X.xe s₁) ?caught PassesOwn.looking
  case caught =>
    rintro ex t ⟨a, B, sI, ps', σ1, H1, cls, d, rfl, Jt, stays, upto, air, fresh, eos, gens, em, rds⟩
    have J1 : Inv X ps σ1 H1 sI := Jt.ofTry xok
    refine Sky.land Zc.steady afr frm (stk ▸ air) fun g1 f1 u1 => ?_
    have K1 : Inv X ps σ1 H1 { t with heap := g1 } := J1.landed stays f1.1 (upto.trans u1) eos gens
    obtain ⟨o1, w1, e1, z1, d1⟩ := f1.there
    have outOf : a ∉ frs (X.env :: X.outer) := by
      intro m
      obtain ⟨_, o', e', no⟩ := f1.2.2.1.mem m
      rw [e1] at e'
      cases e'
      exact no _ d1
    have aL : a ≠ X.env.locals := by
      intro z
      exact outOf (List.mem_filterMap.mpr ⟨X.env, List.mem_cons_self, by rw [frm, z]⟩)
    have aF : a ∉ X.fs := by
      intro m
      obtain ⟨e, he, q⟩ := List.mem_filterMap.mp m
      exact outOf (List.mem_filterMap.mpr ⟨e, List.mem_cons_of_mem _ he, q⟩)
    have C1 := K1.suite e1 d1 fresh aL aF
    refine wpAny_handleBy_cons (codeAny_handlers_test ?_) (fun q => by cases q)
    have ty : PySem.W.Looks (model X.prog X.w) g1 (typeOf (.ref a)) cls := by
      intro A Q E s k q
      exact wpAny_typeOf_ref (k _ _ e1) (by rw [z1.1]; exact q)
    have mt := PySem.W.exm_one (M := model X.prog X.w) K1.kIn ty em
    have nme : wpAny (model X.prog X.w) (X.A.mark (some (.ref a))) (eval (.Name x np) X.env) (fun v s' => v = c ∧ s' = { t with heap := g1 }) (fun _ _ => False) { t with heap := g1 } := by
      obtain ⟨gl, nd', hm | ⟨hm, hv, hn⟩⟩ := nm
      · exact ld_glob (X := X.suite a ((a, o1) :: (X.pn ++ ps))) C1 gl hm ⟨rfl, rfl⟩ nd'
      · exact ld_blt (X := X.suite a ((a, o1) :: (X.pn ++ ps))) C1 gl hm hv ⟨rfl, rfl⟩ hn nd'
    refine wpAny_mono nme ?_ (fun _ _ z => z.elim)
    rintro v s' ⟨rfl, rfl⟩
    refine mt.here ?_
    refine codeAny_handlers_suite_as (HandSPX.lands_againZ f1 fun g2 f2 u2 => ?_)
    have K2 : Inv X ps σ1 H1 { t with heap := g2 } := J1.landed stays f2.1 ((upto.trans u1).trans u2) eos gens
    obtain ⟨o2, w2, e2, z2, d2⟩ := f2.there
    refine store_ok (X := X.suite a ((a, o2) :: (X.pn ++ ps))) (v := .ref a) (K2.suite e2 d2 fresh aL aF) nd at_ (.inl lo) rfl (fun s3 C3 => ?_) (.inr lo)
    have hiN : i < σ1.length := by
      rw [K1.len]
      exact (List.getElem?_eq_some_iff.mp at_).1
    refine wpAny_mono ((hsu a o2 cls d (X.pn ++ ps) z2 ⟨_, d2⟩).run [] s3 _ H1 _ (C3.thin (by rw [List.length_set, List.length_replicate]) (only_set hiN)) (rds a fresh)) (fun fl s4 sp => ?_) (fun _ _ z => z.elim)
    cases fl with
    | ret v4 =>
      obtain ⟨y, σ4, H4, C4, ry, q4⟩ := sp
      exact gone_ok (C4.unsuite xok) nd at_ lo fun s5 K5 => ⟨y, _, H4, K5, ry, q4⟩
    | next =>
      obtain ⟨_, _, _, q⟩ := sp
      exact q.elim
    | brk =>
      obtain ⟨_, _, _, q⟩ := sp
      exact q.elim
    | cont =>
      obtain ⟨_, _, _, q⟩ := sp
      exact q.elim
  refine wpAny_mono (run.run [] s0 σ0 H0 { D with nx := u D } (inv.toTry _) rd) (fun fl s1 sp => ?_) (fun _ _ z => z)
  cases fl with
  | next =>
    obtain ⟨σ1, H1, J1, q1⟩ := sp
    exact ho.run ps s1 σ1 H1 D (J1.ofTry xok) q1
  | ret v =>
    obtain ⟨y, σ1, H1, J1, ry, q1⟩ := sp
    exact ⟨y, σ1, H1, J1.ofTry xok, ry, q1⟩
  | brk =>
    obtain ⟨σ1, H1, J1, q1⟩ := sp
    exact ⟨σ1, H1, J1.ofTry xok, q1⟩
  | cont =>
    obtain ⟨σ1, H1, J1, q1⟩ := sp
    exact ⟨σ1, H1, J1.ofTry xok, q1⟩
end
end L2

/-! The reader as plain functions of the rest of the pieces. A piece: its sort's number, its line, its column. -/
namespace Mir
abbrev Pc := Nat × Nat × Nat
inductive Rs (α : Type) where
  | ok (a : α)
  | bad (l k : Nat)
  | out
def Rs.bind {α β : Type} : Rs α → (α → Rs β) → Rs β
  | .ok a, f => f a
  | .bad l k, _ => .bad l k
  | .out, _ => .out
instance : Monad Rs where
  pure := .ok
  bind := Rs.bind
def Post {α : Type} (m : Rs α) (good : α → Prop) (ill : Nat → Nat → Prop) : Prop := match m with
  | .ok a => good a
  | .bad l k => ill l k
  | .out => False
theorem post_bind {α β : Type} {m : Rs α} {f : α → Rs β} {good : β → Prop} {ill : Nat → Nat → Prop} (h : Post (m >>= f) good ill) : Post m (fun a => Post (f a) good ill) ill := by
  cases m with
  | ok a => exact h
  | bad l k => exact h
  | out => exact h
theorem post_mono {α : Type} {m : Rs α} {g g' : α → Prop} {i i' : Nat → Nat → Prop} (h : Post m g i) (hg : ∀ a, g a → g' a) (hi : ∀ l k, i l k → i' l k) : Post m g' i' := by
  cases m with
  | ok a => exact hg a h
  | bad l k => exact hi l k h
  | out => exact h
/-- the next piece's sort (0 at the end) -/
def hd (r : List Pc) : Nat := match r with
  | (c, _, _) :: _ => c
  | [] => 0
/-- the next piece is wrong -/
def ill {α : Type} (r : List Pc) : Rs α := match r with
  | (_, l, k) :: _ => .bad l k
  | [] => .out
def want (s : Nat) (r : List Pc) : Rs (List Pc) := if hd r = s then .ok r.tail else ill r
/-- sorts by numbers -/
def sorts : List String := ["end", "name", "number", "wrong", "module", "use", "struct", "int", "uint", "void", "if", "else", "while", "do", "for", "break", "continue", "switch", "case", "default", "return", "out", "assert", "in", "more", "length", "mod",
  "<<", ">>", "<=", ">=", "==", "!=", "&&", "||", "+", "-", "*", "/", "&", "|", "^", "~", "!", "<", ">", "=", "?", ":", ";", ",", ".", "(", ")", "[", "]", "{", "}"]
def strn (c : Nat) : Nat := match c with
  | 34 => 1 | 33 => 2 | 40 => 3 | 41 => 4 | 39 => 5 | 31 => 6 | 32 => 6 | 44 => 7 | 29 => 7 | 45 => 7 | 30 => 7 | 27 => 8 | 28 => 8 | 35 => 9 | 36 => 9 | 37 => 10 | 38 => 10 | 26 => 10
  | _ => 0
/-! ### expressions. What is held: 0 one sign, 1 two, 2 a call, 3 a bracket, 4 an index, 5 a choice's middle, 6 its last part; with the strength -/
structure Es where
  r : List Pc
  n : Nat
  d : Int
  h : List (Nat × Nat)
  b : Bool
def counted (s : Es) : Rs Es := if 120 ≤ s.n then ill s.r else .ok { s with r := s.r.tail, n := s.n + 1 }
def take1 (s : Es) : Es := { s with r := s.r.tail, n := s.n + 1 }
def wantE (c : Nat) (s : Es) : Rs Es := if hd s.r = c then .ok (take1 s) else ill s.r
def within (t : Nat) (s : Es) : Rs Es := if 30 < s.d + 1 then ill s.r else .ok { s with d := s.d + 1, h := (t, 0) :: s.h }
/-- one piece that begins: whole or not -/
def begin1 (s : Es) : Rs (Bool × Es) := match hd s.r with
  | 2 => do let s ← counted s; pure (true, { s with b := false })
  | 1 => do
    let s ← counted s
    if hd s.r = 52 then
      let s := take1 s
      if hd s.r = 53 then pure (true, { take1 s with b := true })
      else do let s ← within 2 s; pure (false, s)
    else pure (true, { s with b := false })
  | 52 => do let s ← counted s; let s ← within 3 s; pure (false, s)
  | _ => do let s ← counted s; let s ← wantE 52 s; let s ← wantE 53 s; pure (true, { s with b := false })
def isAhead (c : Nat) : Bool := c == 43 || c == 42 || c == 36
def isBegin (c : Nat) : Bool := c == 2 || c == 1 || c == 23 || c == 24 || c == 52
def operand : Nat → Es → Rs Es
  | 0, _ => .out
  | f + 1, s =>
    if isAhead (hd s.r) then operand f { take1 s with h := (0, 11) :: s.h }
    else if isBegin (hd s.r) then do
      let (w, s) ← begin1 s
      if w then pure s else operand f s
    else ill s.r
def settle (k : Nat) : List (Nat × Nat) → Bool → List (Nat × Nat) × Bool
  | [], b => ([], b)
  | (t, m) :: h, b => if k ≤ m then settle k h false else ((t, m) :: h, b)
def set1 (k : Nat) (s : Es) : Es := { s with h := (settle k s.h s.b).1, b := (settle k s.h s.b).2 }
def thirds : List (Nat × Nat) → Int → Bool → List (Nat × Nat) × Int × Bool
  | [], d, b => ([], d, b)
  | (t, m) :: h, d, b => if t = 6 then thirds h (d - 1) false else ((t, m) :: h, d, b)
def setAll (s : Es) : Es := let s1 := set1 1 s; let (h, d, b) := thirds s1.h s1.d s1.b; { s1 with h := h, d := d, b := b }
def closing (t : Nat) : Nat := match t with
  | 5 => 48 | 2 => 53 | 3 => 53 | _ => 55
def field (s : Es) : Rs Es := do
  let s ← counted s
  if hd s.r = 25 then pure { take1 s with b := false }
  else do let s ← wantE 1 s; pure { s with b := false }
def close (s : Es) : Rs (Bool × Es) := match s.h with
  | [] => .out
  | (t, m) :: h =>
    if t < 2 ∨ 5 < t then .out
    else if t = 5 ∧ hd s.r = 48 then pure (true, { take1 s with h := (6, 0) :: h })
    else if t = 2 ∧ hd s.r = 50 then pure (true, { take1 s with h := (2, 0) :: h })
    else do
      let s ← wantE (closing t) s
      pure (false, { s with d := s.d - 1, h := h, b := if t = 3 then s.b else t == 2 })
def behind : Nat → Es → Rs (Bool × Es)
  | 0, _ => .out
  | f + 1, s =>
    if hd s.r = 51 then do let s ← field s; behind f s
    else if hd s.r = 54 then do let s ← counted s; let s ← within 4 s; pure (true, s)
    else if strn (hd s.r) ≠ 0 then let q := set1 (strn (hd s.r)) s; pure (true, { take1 q with h := (1, strn (hd s.r)) :: q.h })
    else if hd s.r = 47 then do let s ← within 5 (take1 (set1 1 s)); pure (true, s)
    else
      let s := setAll s
      if s.h.isEmpty then pure (false, s)
      else do
        let (g, s) ← close s
        if g then pure (true, s) else behind f s
def turns : Nat → Es → Rs (Bool × List Pc)
  | 0, _ => .out
  | f + 1, s => do
    let s ← operand f s
    let (g, s) ← behind f s
    if g then turns f s else pure (s.b, s.r)
def expr (f : Nat) (d : Nat) (r : List Pc) : Rs (Bool × List Pc) := if 30 < d then ill r else turns f ⟨r, 0, (d : Int), [], false⟩
/-! ### statements -/
def isKind (c : Nat) : Bool := c == 7 || c == 8 || c == 6
def kind (r : List Pc) : Rs (List Pc) := if hd r = 6 then want 1 r.tail else pure r.tail
def many (r : List Pc) : Rs (List Pc) := if hd r = 54 then do let r ← want 2 r.tail; want 55 r else pure r
def more (f d : Nat) : Nat → List Pc → Rs (List Pc)
  | 0, _ => .out
  | g + 1, r => if hd r = 50 then do let (_, r) ← expr f d r.tail; more f d g r else pure r
def firsts (f d : Nat) (r : List Pc) : Rs (List Pc) :=
  if hd r = 46 then
    if hd r.tail = 56 then
      if hd r.tail.tail = 57 then want 57 r.tail.tail
      else do let (_, r) ← expr f d r.tail.tail; let r ← more f d f r; want 57 r
    else do let (_, r) ← expr f d r.tail; pure r
  else pure r
def decl (f d : Nat) (r : List Pc) : Rs (List Pc) := do
  let r ← kind r
  let r ← want 1 r
  let r ← many r
  firsts f (d + 1) r
def plain (f d : Nat) (r : List Pc) : Rs (List Pc) := do
  let (b, r) ← expr f (d + 1) r
  if hd r = 46 then do let (_, r) ← expr f (d + 1) r.tail; pure r
  else if b then pure r else ill r
def test (f d : Nat) (r : List Pc) : Rs (List Pc) := do
  let r ← want 52 r
  let (_, r) ← expr f (d + 1) r
  want 53 r
def isStmt (c : Nat) : Bool := c == 56 || c == 10 || c == 12 || c == 13 || c == 14 || c == 17 || c == 15 || c == 16 || c == 20 || c == 21 || c == 22
mutual
def stmts (f : Nat) (d : Nat) (r : List Pc) : Rs (List Pc) := match f with
  | 0 => .out
  | f + 1 => if hd r = 57 then pure r else do let r ← stmt f d false r; stmts f d r
def stmt (f : Nat) (d : Nat) (alone : Bool) (r : List Pc) : Rs (List Pc) := match f with
  | 0 => .out
  | f + 1 =>
    if 30 < d then ill r
    else if isStmt (hd r) then known f d r
    else if isKind (hd r) && alone then ill r
    else if isKind (hd r) then do let r ← decl f d r; want 49 r
    else do let r ← plain f d r; want 49 r
/-- the sorts that are not read here are .out: nothing is told of them -/
def known (f : Nat) (d : Nat) (r : List Pc) : Rs (List Pc) := match f with
  | 0 => .out
  | f + 1 =>
    if hd r = 56 then do let r ← stmts f (d + 1) r.tail; want 57 r
    else if hd r = 10 then do
      let r ← test f d r.tail
      let r ← stmt f (d + 1) true r
      if hd r = 11 then stmt f (d + 1) true r.tail else pure r
    else if hd r = 20 then (if hd r.tail = 49 then want 49 r.tail else do let (_, r) ← expr f (d + 1) r.tail; want 49 r)
    else if hd r = 21 then do let r ← test f d r.tail; want 49 r
    else .out
end
/-! ### items: what is not read here is .out -/
def function (f : Nat) (r : List Pc) : Rs (List Pc) := do
  let r ← want 52 r
  if hd r ≠ 53 then .out
  else do
    let r ← want 53 r
    let r ← want 56 r
    let r ← stmts f 1 r
    want 57 r
def item (f : Nat) (r : List Pc) : Rs (List Pc) :=
  if hd r = 7 then do
    let r ← kind r
    let r ← want 1 r
    if hd r = 52 then function f r else .out
  else .out
def items (f : Nat) : Nat → List Pc → Rs (List Pc)
  | 0, _ => .out
  | g + 1, r => if hd r ≠ 0 then do let r ← item f r; items f g r else pure r
def modul (f : Nat) (r : List Pc) : Rs (List Pc) := do
  let r ← want 4 r
  let r ← want 1 r
  let r ← want 49 r
  if hd r = 5 then .out else items f f r
/-- sorts of pieces: the last one alone is the end -/
def Wf : List Pc → Prop
  | [] => False
  | [t] => t.1 = 0
  | t :: u :: r => (t.1 ≠ 0 ∧ t.1 < 58) ∧ Wf (u :: r)
theorem Wf.tl {r : List Pc} (h : Wf r) (z : hd r ≠ 0) : Wf r.tail := by
  match r, h with
  | [(c, l, k)], h => exact absurd h z
  | t :: u :: r, h => exact h.2
theorem Wf.cons {r : List Pc} (h : Wf r) : ∃ c l k t, r = (c, l, k) :: t ∧ c < 58 := by
  match r, h with
  | [(c, l, k)], h => exact ⟨c, l, k, [], rfl, by have : c = 0 := h; omega⟩
  | (c, l, k) :: u :: r, h => exact ⟨c, l, k, u :: r, rfl, h.1.2⟩
end Mir

namespace My
open PySem PySem.Spec PyProof.Rows L2
/-! ### more of promises: classes, methods, defs that may raise -/
structure Cl (K : PySem.W.Frag) (mg : Str → Option Value) (x : Str) (C : Addr) : Prop where
  g : mg x = some (.ref C)
  c : Cls K C
structure Dm (K : PySem.W.Frag) (C : Addr) (m qual : Str) (st : Stmt) : Prop where
  ex : ∃ (f : Addr) (fd : FuncData), Meth K C m f ∧ FunD K m qual (defArgs st) (defBody st) (defScope st) [] [] f fd
structure Gm (P : Program) (w : World) (K : PySem.W.Frag) (mg : Str → Option Value) (base : Heap) (CX : CXT) (k : Nat) (C : Addr) (m : Str) (ps : List Str) (sp : Sp) : Prop where
  ex : ∃ (f : Addr) (fd : FuncData), Meth K C m f ∧ FnOk P w K mg base CX k f fd ps sp ∧ Binds K fd ps []
section
variable {P : Program} {w : World} {K : PySem.W.Frag} {mg : Str → Option Value} {base : Heap}
theorem Gm.mono {CX : CXT} {j k : Nat} {C : Addr} {m : Str} {ps : List Str} {sp : Sp} (h : Gm P w K mg base CX j C m ps sp) (hk : j ≤ k) : Gm P w K mg base CX k C m ps sp := by
  obtain ⟨f, fd, a, b, c⟩ := h.ex
  exact ⟨f, fd, a, b.mono hk, c⟩
theorem Df.okX {x : Str} {st : Stmt} {N ps : List Str} {k : Nat} {sp : Sp} (D : Df K mg x st) (S : FnScope N ps (defScope st)) (len : ∀ vs H Q E, sp vs H Q E → vs.length = ps.length)
    (hb : ∀ (kV doc pm : Value) (an : Option Addr) (cdv ct : Value) (us : List Value), us.length = ps.length → bindArgs (PySem.W.fnOf x x (defArgs st) (defBody st) (defScope st) .none kV doc pm an cdv ct) ⟨us, []⟩ = pure (ps.zip us))
    (hbody : ∀ (f : Addr) (cdv : Value) (A : Around) (outer : List Env) (s : Shared) (H : Hp) (vs : List V) (Q : VK) (E : XK), Room k (A.deeper (envOfC x (defScope st) s.heap.objs.size f cdv)) → sp vs H Q E →
      ∃ t, PSs (cxOf (L2.CX P w) P w K mg base N x (defScope st) f cdv A outer s H E) (defBody st) t ∧ t { nx := fun _ H' => Q .non H', rt := Q } (start N vs) H) : Gd P w K mg base (L2.CX P w) (k + 1) x ps sp := by
  obtain ⟨f, fd, hm, F⟩ := D.ex
  have lk : ∃ oc od osl, K.lookup f = some ⟨oc, od, .func fd, osl⟩ := by
    obtain ⟨oc, od, dV, kV, doc, pm, an, cdv, ct, osl, e, l, _⟩ := F.ex
    exact ⟨oc, od, osl, l⟩
  exact ⟨f, fd, hm, F.ok S len fun cdv A outer s H vs Q E hr h => hbody f cdv A outer s H vs Q E hr h, F.bindsN hb, F.kp, lk⟩
theorem Dm.ok {C : Addr} {m qual : Str} {st : Stmt} {N ps : List Str} {k : Nat} {sp : Sp} (D : Dm K C m qual st) (S : FnScope N ps (defScope st)) (len : ∀ vs H Q E, sp vs H Q E → vs.length = ps.length)
    (hb : ∀ (kV doc pm : Value) (an : Option Addr) (cdv ct : Value) (us : List Value), us.length = ps.length → bindArgs (PySem.W.fnOf m qual (defArgs st) (defBody st) (defScope st) .none kV doc pm an cdv ct) ⟨us, []⟩ = pure (ps.zip us))
    (hbody : ∀ (f : Addr) (cdv : Value) (A : Around) (outer : List Env) (s : Shared) (H : Hp) (vs : List V) (Q : VK) (E : XK), Room k (A.deeper (envOfC qual (defScope st) s.heap.objs.size f cdv)) → sp vs H Q E →
      ∃ t, PSs (cxOf CX0 P w K mg base N qual (defScope st) f cdv A outer s H E).nox (defBody st) t ∧ t { nx := fun _ H' => Q .non H', rt := Q } (start N vs) H) : Gm P w K mg base CX0 (k + 1) C m ps sp := by
  obtain ⟨f, fd, hm, F⟩ := D.ex
  refine ⟨f, fd, hm, F.ok S len fun cdv A outer s H vs Q E hr h => ?_, F.bindsN hb⟩
  obtain ⟨t, h1, h2⟩ := hbody f cdv A outer s H vs Q E hr h
  exact ⟨t, h1.nox, h2⟩
theorem Dm.okX {C : Addr} {m qual : Str} {st : Stmt} {N ps : List Str} {k : Nat} {sp : Sp} (D : Dm K C m qual st) (S : FnScope N ps (defScope st)) (len : ∀ vs H Q E, sp vs H Q E → vs.length = ps.length)
    (hb : ∀ (kV doc pm : Value) (an : Option Addr) (cdv ct : Value) (us : List Value), us.length = ps.length → bindArgs (PySem.W.fnOf m qual (defArgs st) (defBody st) (defScope st) .none kV doc pm an cdv ct) ⟨us, []⟩ = pure (ps.zip us))
    (hbody : ∀ (f : Addr) (cdv : Value) (A : Around) (outer : List Env) (s : Shared) (H : Hp) (vs : List V) (Q : VK) (E : XK), Room k (A.deeper (envOfC qual (defScope st) s.heap.objs.size f cdv)) → sp vs H Q E →
      ∃ t, PSs (cxOf (L2.CX P w) P w K mg base N qual (defScope st) f cdv A outer s H E) (defBody st) t ∧ t { nx := fun _ H' => Q .non H', rt := Q } (start N vs) H) : Gm P w K mg base (L2.CX P w) (k + 1) C m ps sp := by
  obtain ⟨f, fd, hm, F⟩ := D.ex
  exact ⟨f, fd, hm, F.ok S len fun cdv A outer s H vs Q E hr h => hbody f cdv A outer s H vs Q E hr h, F.bindsN hb⟩
end
section
variable {X : Cx} {CX : CXT} {k : Nat} {x m : Str} {ps : List Str} {sp : Sp} {E : XK} {e o : Expr} {es : List Expr} {t : TA} {ta : TE} {p pos apos : Pos} {C : Addr}
/-- o.m(..) -/
def tMethG (C : Addr) (m : Str) (sp : Sp) (E : XK) (ta : TE) (t : TA) : TE := fun σ H Q => ta σ H fun x H1 => ∃ a dx fs, x = .ref a ∧ H1 a = some (.ins C dx fs) ∧ fs.lookup m = none ∧ t σ H1 fun vs H2 => sp (x :: vs) H2 Q E
theorem pe_gm {pl : Sem Bool} (he : PE X o ta) (c : Cls X.K C) (G : Gm X.prog X.w X.K X.mg X.base CX k C m ps sp) (hr : Room k X.A) (hx : Passes CX X E) (ha : PA X (e :: es) t)
    (hst : starEach (e :: es) X.env = (false, eval e X.env) :: starEach es X.env := by rfl) (hpl : (backTo pos (starEach es X.env)).any (·.1) = false := by rfl)
    (ht : eval (.Call (.Attribute o m apos) (e :: es) [] pos) X.env = (do
      let ov ← eval o X.env
      standAt apos.atName
      let (f, first) ← holding [ov] (getMethod ov m pl)
      callWith pos f first (backTo pos (starEach (e :: es) X.env)) (backToKw pos (keywordEach [] X.env))) := by rfl) :
    PE X (.Call (.Attribute o m apos) (e :: es) [] pos) (tMethG C m sp E ta t) := by
  obtain ⟨f, fd, hm, F, hb⟩ := G.ex
  have z := pe_meth he c hm F hr hb .nil hx ha hst hpl ht
  refine ⟨fun pins s σ H Q I hw => z.run pins s σ H Q I ?_⟩
  have e0 : (fun (x : V) (H1 : Hp) => ∃ a dx fs, x = .ref a ∧ H1 a = some (.ins C dx fs) ∧ fs.lookup m = none ∧ t σ H1 fun vs H2 => sp (x :: (vs ++ [])) H2 Q E) = fun x H1 => ∃ a dx fs, x = .ref a ∧ H1 a = some (.ins C dx fs) ∧ fs.lookup m = none ∧ t σ H1 fun vs H2 => sp (x :: vs) H2 Q E := by
    funext x H1
    simp only [List.append_nil]
  show ta σ H (fun (x : V) (H1 : Hp) => ∃ a dx fs, x = .ref a ∧ H1 a = some (.ins C dx fs) ∧ fs.lookup m = none ∧ t σ H1 fun vs H2 => sp (x :: (vs ++ [])) H2 Q E)
  rw [e0]
  exact hw
theorem pe_gm0 {pl : Sem Bool} (he : PE X o ta) (c : Cls X.K C) (G : Gm X.prog X.w X.K X.mg X.base CX k C m ps sp) (hr : Room k X.A) (hx : Passes CX X E)
    (ht : eval (.Call (.Attribute o m apos) [] [] pos) X.env = (do
      let ov ← eval o X.env
      standAt apos.atName
      let (f, first) ← holding [ov] (getMethod ov m pl)
      callWith pos f first (backTo pos (starEach [] X.env)) (backToKw pos (keywordEach [] X.env))) := by rfl) :
    PE X (.Call (.Attribute o m apos) [] [] pos) (tMethG C m sp E ta tNil) := by
  obtain ⟨f, fd, hm, F, hb⟩ := G.ex
  have z := pe_meth0 he c hm F hr hb .nil hx ht
  exact ⟨fun pins s σ H Q I hw => z.run pins s σ H Q I hw⟩
end
end My
namespace My
open PySem PySem.Spec PyProof.Rows L2
def sp5 (p : V → V → V → V → V → Hp → VK → XK → Prop) : Sp := fun vs H Q E => ∃ a b c d e, vs = [a, b, c, d, e] ∧ p a b c d e H Q E
theorem len5 {p} (vs : List V) (H : Hp) (Q : VK) (E : XK) (h : sp5 p vs H Q E) : vs.length = 5 := by obtain ⟨a, b, c, d, e, rfl, _⟩ := h; rfl
end My
namespace Rd
open PySem PySem.Spec PyProof.Rows L2 My Mir
def srt (c : Nat) : Str := PySem.Str.ofString (sorts.getD c "")
theorem srt_ix : ∀ a, a < 58 → ∀ b, b < 58 → srt a = srt b → a = b := by decide +kernel
theorem srt_dec {a b : Nat} (ha : a < 58) (hb : b < 58) : decide (V.str (srt a) = V.str (srt b)) = decide (a = b) := by
  by_cases h : a = b
  · subst h; simp
  · rw [decide_eq_false h, decide_eq_false]
    intro z
    exact h (srt_ix a ha b hb (V.str.inj z))
/-- a piece at p -/
def TokAt (H : Hp) (p : Addr) (t : Pc) : Prop := ∃ (w : V) (q : Addr), H p = some (.tup [.str (srt t.1), w, .ref q]) ∧ H q = some (.tup [.int (t.2.1 : Int), .int (t.2.2 : Int)]) ∧
  (t.1 = 2 → ∃ (u : Addr) (z : Int) (kd : V), w = .ref u ∧ H u = some (.tup [.int z, kd]))
def Tks (H : Hp) : List Addr → List Pc → Prop
  | [], [] => True
  | p :: ps, t :: ts => TokAt H p t ∧ Tks H ps ts
  | _, _ => False
/-- the cursor at c: its list at l, its place n, the rest r -/
def Cur (CC : Addr) (H : Hp) (c l : Addr) (n : Nat) (r : List Pc) : Prop :=
  (∃ dx, H c = some (.ins CC dx [("pieces", .ref l), ("at", .int (n : Int))])) ∧ ∃ ps : List Addr, H l = some (.lst (ps.map V.ref)) ∧ Tks H (ps.drop n) r ∧ n + r.length ≤ 4000000
/-- all but these stays -/
def ButL (as : List Addr) (H H' : Hp) : Prop := ∀ b o, H b = some o → ¬ b ∈ as → H' b = some o
theorem ButL.refl {as : List Addr} {H : Hp} : ButL as H H := fun _ _ e _ => e
theorem ButL.trans {as : List Addr} {H H1 H2 : Hp} (a : ButL as H H1) (b : ButL as H1 H2) : ButL as H H2 := fun x o e h => b x o (a x o e h) h
theorem ButL.more {as bs : List Addr} {H H1 : Hp} (a : ButL as H H1) (h : ∀ x, x ∈ as → x ∈ bs) : ButL bs H H1 := fun x o e n => a x o e fun m => n (h x m)
theorem ButL.same {as : List Addr} {H H1 : Hp} (a : Same H H1) : ButL as H H1 := fun x o e _ => a x o e
theorem ButL.put {as : List Addr} {H : Hp} {a : Addr} {o : HO} (h : a ∈ as) : ButL as H (upd H a o) := fun x u e n => by
  rw [upd_ne (fun z => n (by rw [z]; exact h))]; exact e
theorem ButL.new {as : List Addr} {H : Hp} {a : Addr} {o : HO} (h : H a = none) : ButL as H (upd H a o) := fun x u e _ => by
  rw [upd_ne (ne_of_none e h)]; exact e
/-- none of these is a tuple -/
def Mu (as : List Addr) (H : Hp) : Prop := ∀ a, a ∈ as → ∀ xs, H a ≠ some (.tup xs)
theorem ButL.tup {as : List Addr} {H H' : Hp} (h : ButL as H H') (m : Mu as H) {p : Addr} {xs : List V} (e : H p = some (.tup xs)) : H' p = some (.tup xs) := h p _ e fun z => m p z xs e
theorem TokAt.keep {as : List Addr} {H H' : Hp} (h : ButL as H H') (m : Mu as H) {p : Addr} {t : Pc} (x : TokAt H p t) : TokAt H' p t := by
  obtain ⟨w, q, a, b, c⟩ := x
  exact ⟨w, q, h.tup m a, h.tup m b, fun z => by
    obtain ⟨u, i, kd, e, f⟩ := c z
    exact ⟨u, i, kd, e, h.tup m f⟩⟩
theorem Tks.keep {as : List Addr} {H H' : Hp} (h : ButL as H H') (m : Mu as H) : ∀ {ps : List Addr} {ts : List Pc}, Tks H ps ts → Tks H' ps ts
  | [], [], _ => trivial
  | p :: ps, t :: ts, x => ⟨TokAt.keep h m x.1, Tks.keep h m x.2⟩
  | [], _ :: _, x => x.elim
  | _ :: _, [], x => x.elim
theorem mu1 {H : Hp} {c CC dx : Addr} {fs : List (Str × V)} (h : H c = some (.ins CC dx fs)) : Mu [c] H := by
  intro a ha xs e
  have z : a = c := by simpa using ha
  rw [z, h] at e
  cases e
/-- what is let out: BadText of this line and column; all but these stays -/
def Bad (CB : Addr) (as : List Addr) (H : Hp) (E : XK) (l k : Nat) : Prop := ∀ (d : Addr) (H' : Hp), ButL as H H' → H' d = some (.xd (btFs (.int (l : Int)) (.int (k : Int)))) → E (.ref CB) (some d) H'
theorem Bad.after {CB : Addr} {as : List Addr} {H H' : Hp} {E : XK} {l k : Nat} (h : Bad CB as H E l k) (b : ButL as H H') : Bad CB as H' E l k := fun d H2 b2 e => h d H2 (b.trans b2) e
theorem Bad.less {CB : Addr} {as bs : List Addr} {H : Hp} {E : XK} {l k : Nat} (h : Bad CB bs H E l k) (s : ∀ x, x ∈ as → x ∈ bs) : Bad CB as H E l k := fun d H2 b2 e => h d H2 (b2.more s) e
/-- a def that moves a cursor -/
def Runs (CC CB : Addr) {α : Type} (F : List Pc → Rs (α × List Pc)) (Rel : α → V → Hp → Prop) (c : Addr) (H : Hp) (Q : VK) (E : XK) : Prop := ∃ (l : Addr) (n : Nat) (r : List Pc), Cur CC H c l n r ∧ Wf r ∧
  Post (F r) (fun a => ∀ (v : V) (n' : Nat) (H' : Hp), ButL [c] H H' → Cur CC H' c l n' a.2 → Wf a.2 → n' + a.2.length = n + r.length → Rel a.1 v H' → Q v H') (Bad CB [c] H E)
def RunsU (CC CB : Addr) (F : List Pc → Rs (List Pc)) (c : Addr) (H : Hp) (Q : VK) (E : XK) : Prop := ∃ (l : Addr) (n : Nat) (r : List Pc), Cur CC H c l n r ∧ Wf r ∧
  Post (F r) (fun r' => ∀ (v : V) (n' : Nat) (H' : Hp), ButL [c] H H' → Cur CC H' c l n' r' → Wf r' → n' + r'.length = n + r.length → Q v H') (Bad CB [c] H E)
theorem Cur.keep {CC c l : Addr} {n : Nat} {r : List Pc} {as : List Addr} {H H' : Hp} (x : Cur CC H c l n r) (h : ButL as H H') (m : Mu as H) (hc : ¬ c ∈ as) (hl : ¬ l ∈ as) : Cur CC H' c l n r := by
  obtain ⟨⟨dx, a⟩, ps, b, t, z⟩ := x
  exact ⟨⟨dx, h _ _ a hc⟩, ps, h _ _ b hl, Tks.keep h m t, z⟩
/-- something new is laid -/
theorem Cur.laid {CC c l a : Addr} {n : Nat} {r : List Pc} {H : Hp} {o : HO} (x : Cur CC H c l n r) (h : H a = none) : Cur CC (upd H a o) c l n r := x.keep (as := []) (ButL.new h) (fun a ha => by cases ha) (by simp) (by simp)
/-- the piece ahead -/
theorem Cur.tok {CC c l : Addr} {n : Nat} {r : List Pc} {H : Hp} (x : Cur CC H c l n r) (w : Wf r) : ∃ (ps : List Addr) (p : Addr) (t : Pc) (ts : List Pc) (dx : Addr), r = t :: ts ∧ t.1 < 58 ∧ H c = some (.ins CC dx [("pieces", .ref l), ("at", .int (n : Int))]) ∧
    H l = some (.lst (ps.map V.ref)) ∧ ps[n]? = some p ∧ TokAt H p t ∧ Tks H (ps.drop (n + 1)) ts ∧ n + 1 + ts.length ≤ 4000000 := by
  obtain ⟨⟨dx, a⟩, ps, b, t, zz⟩ := x
  obtain ⟨c', l', k', ts, rfl, hc⟩ := w.cons
  cases e : ps.drop n with
  | nil =>
    rw [e] at t
    exact t.elim
  | cons p qs =>
    rw [e] at t
    have hn : n < ps.length := by
      have z := congrArg List.length e
      rw [List.length_drop, List.length_cons] at z
      omega
    have e2 := List.drop_eq_getElem_cons hn
    rw [e] at e2
    obtain ⟨e3, e4⟩ := List.cons.inj e2
    refine ⟨ps, p, (c', l', k'), ts, dx, rfl, hc, a, b, ?_, t.1, ?_⟩
    · rw [List.getElem?_eq_getElem hn, e3]
    · refine ⟨by rw [← e4]; exact t.2, ?_⟩
      have zz' : n + (ts.length + 1) ≤ 4000000 := zz
      omega
end Rd

namespace Zp
open PySem PySem.Spec PyProof.Rows L2
/-! ### zip of three lists -/
def It3 (K : PySem.W.Frag) (a b c : Addr) (xs ys zs : List V) : It :=
  ⟨fun i H => SqL K H a xs ∧ SqL K H b ys ∧ SqL K H c zs ∧ i < xs.length ∧ i < ys.length ∧ i < zs.length,
   fun i H v H' => ∃ T x y z, v = .ref T ∧ H T = none ∧ H' = upd H T (.tup [x, y, z]) ∧ xs[i]? = some x ∧ ys[i]? = some y ∧ zs[i]? = some z,
   fun i H => SqL K H a xs ∧ SqL K H b ys ∧ SqL K H c zs ∧ i = xs.length ∧ i = ys.length ∧ i = zs.length⟩
structure Far (z TI TO i1 i2 i3 a b c : Addr) : Prop where
  sep : ZipSep3 z TI TO i1 i2 i3 [i1, a] [i2, b] [i3, c]
  a1 : a ≠ i1
  b2 : b ≠ i2
  c3 : c ≠ i3
  tiz : TI ≠ z
  tito : TI ≠ TO
  ti1 : TI ≠ i1
  ti2 : TI ≠ i2
  ti3 : TI ≠ i3
theorem turn3 {P : Program} {w : World} {K : PySem.W.Frag} {elts : List Expr} {kk : Nat} {tpos : Pos} {a b c z TI TO i1 i2 i3 : Addr} {xs ys zs : List V} (D : Far z TI TO i1 i2 i3 a b c) :
    Turn P w K (.Tuple elts kk tpos) (It3 K a b c xs ys zs) [z, TI, TO, i1, i2, i3] z
      (fun i h => IsZip h z TI TO .none ∧ IsTupOf3 h TI (.ref i1) (.ref i2) (.ref i3) ∧ (∃ u v w, IsTupOf3 h TO u v w) ∧ h.IsListIter i1 a i ∧ h.IsListIter i2 b i ∧ h.IsListIter i3 c i) where
  mem := by simp
  obj := fun i h st q hq => by
    obtain ⟨s1, s2, ⟨u, v, w, s3⟩, ⟨o1, e1, _, d1⟩, ⟨o2, e2, _, d2⟩, ⟨o3, e3, _, d3⟩⟩ := st
    have cs : q = z ∨ q = TI ∨ q = TO ∨ q = i1 ∨ q = i2 ∨ q = i3 := by simpa using hq
    rcases cs with rfl | rfl | rfl | rfl | rfl | rfl
    · exact ⟨_, s1, fun v n => nomatch n⟩
    · exact ⟨_, s2, fun v n => nomatch n⟩
    · exact ⟨_, s3, fun v n => nomatch n⟩
    · exact ⟨o1, e1, fun v n => by rw [d1] at n; cases n⟩
    · exact ⟨o2, e2, fun v n => by rw [d2] at n; cases n⟩
    · exact ⟨o3, e3, fun v n => by rw [d3] at n; cases n⟩
  keep := fun i h h' st k => by
    obtain ⟨s1, s2, ⟨u, v, w, s3⟩, t1, t2, t3⟩ := st
    exact ⟨k z (by simp) _ s1, k TI (by simp) _ s2, ⟨u, v, w, k TO (by simp) _ s3⟩, t1.at fun o e => k i1 (by simp) o e, t2.at fun o e => k i2 (by simp) o e, t3.at fun o e => k i3 (by simp) o e⟩
  item := by
    intro X eP ew eK hcalm i pins s σ H E I far st go
    subst eP ew eK
    obtain ⟨s1, s2, s3, t1, t2, t3⟩ := st
    obtain ⟨qa, qb, qc, la, lb, lc⟩ := go
    obtain ⟨us, ra, pa, _⟩ := I.list qa
    obtain ⟨vs, rb, pb, _⟩ := I.list qb
    obtain ⟨ws, rc, pc, _⟩ := I.list qc
    have na := ra.length
    have nb := rb.length
    have nc := rc.length
    have hh : (X.A.in1).handled = none := I.ok.hd hcalm
    have G := GoesN.zip3 (prog := X.prog) (w := X.w) (A := X.A) (elts := elts) (x1 := kk) (pos := tpos) D.sep (Draws.list hh i1 a D.a1 us.toArray) (Draws.list hh i2 b D.b2 vs.toArray) (Draws.list hh i3 c D.c3 ws.toArray)
    have lts : ∀ q ∈ ([z, TI, TO, i1, i2, i3] : List Addr), q < s.heap.objs.size := fun q hq => by
      obtain ⟨u, v, w, s3⟩ := s3
      obtain ⟨o1, e1, _⟩ := t1
      obtain ⟨o2, e2, _⟩ := t2
      obtain ⟨o3, e3, _⟩ := t3
      have cs : q = z ∨ q = TI ∨ q = TO ∨ q = i1 ∨ q = i2 ∨ q = i3 := by simpa using hq
      rcases cs with e | e | e | e | e | e
      · rw [e]; exact Heap.lt_size s1
      · rw [e]; exact Heap.lt_size s2
      · rw [e]; exact Heap.lt_size s3
      · rw [e]; exact Heap.lt_size e1
      · rw [e]; exact Heap.lt_size e2
      · rw [e]; exact Heap.lt_size e3
    have hmin : i < min (min us.toArray.size vs.toArray.size) ws.toArray.size := by simp only [List.size_toArray]; omega
    refine wpAny_mono (G.goes i s (fun v s2 => ∃ x H', Inv X pins σ H' s2 ∧ RelV x v ∧ (It3 X.K a b c xs ys zs).yld i H x H' ∧
      (IsZip s2.heap z TI TO .none ∧ IsTupOf3 s2.heap TI (.ref i1) (.ref i2) (.ref i3) ∧ (∃ u v w, IsTupOf3 s2.heap TO u v w) ∧ s2.heap.IsListIter i1 a (i + 1) ∧ s2.heap.IsListIter i2 b (i + 1) ∧ s2.heap.IsListIter i3 c (i + 1)) ∧ ∀ q ∈ [z, TI, TO, i1, i2, i3], H' q = none)
      E hmin ⟨s1, s2, s3, ⟨t1, pa.isList⟩, ⟨t2, pb.isList⟩, ⟨t3, pc.isList⟩⟩ fun v h' tk hY st' hk htk => ?_) (fun r s4 ⟨v, er, hv⟩ => ⟨v, er, hv⟩) fun _ _ e => e
    obtain ⟨T, u1, u2, u3, rfl, hnew, y1, y2, y3, oT, eT, cT, nT, dT⟩ := hY
    obtain ⟨z1, z2, z3, ⟨k1, _⟩, ⟨k2, _⟩, ⟨k3, _⟩⟩ := st'
    obtain ⟨x, ex⟩ : ∃ x, xs[i]? = some x := ⟨xs[i], List.getElem?_eq_getElem la⟩
    obtain ⟨y, ey⟩ : ∃ y, ys[i]? = some y := ⟨ys[i], List.getElem?_eq_getElem lb⟩
    obtain ⟨q, eq⟩ : ∃ q, zs[i]? = some q := ⟨zs[i], List.getElem?_eq_getElem lc⟩
    obtain ⟨x', gx, rx⟩ := ra.get ex
    obtain ⟨y', gy, ry⟩ := rb.get ey
    obtain ⟨q', gq, rq⟩ := rc.get eq
    have f1 : u1 = x' := by
      have : us[i]? = some u1 := by simpa using y1
      rw [gx] at this; injection this with this; exact this.symm
    have f2 : u2 = y' := by
      have : vs[i]? = some u2 := by simpa using y2
      rw [gy] at this; injection this with this; exact this.symm
    have f3 : u3 = q' := by
      have : ws[i]? = some u3 := by simpa using y3
      rw [gq] at this; injection this with this; exact this.symm
    subst f1 f2 f3
    have new : ObjOk X.prog X.w (upd H T (.tup [x, y, q])) h' T (.tup [x, y, q]) :=
      ⟨by show 3 ≤ sizeLine; decide, [u1, u2, u3], .cons rx (.cons ry (.cons rq .nil)), ⟨_, eT, cT, nT, dT⟩⟩
    have J : Inv X pins σ (upd H T (.tup [x, y, q])) { s with heap := h', toks := tk } :=
      I.turnedNew (ch := [z, TI, TO, i1, i2, i3]) (fun q o nb e => hk q o (fun m => nb (by
        have cs : q = z ∨ q = TO ∨ q = i1 ∨ q = i2 ∨ q = i3 := by simpa using m
        rcases cs with e | e | e | e | e <;> simp [e])) e) far hnew new
    refine ⟨.ref T, _, J, rfl, ⟨T, x, y, q, rfl, I.hok.fresh hnew, rfl, ex, ey, eq⟩, ⟨z1, z2, z3, k1, k2, k3⟩, fun b hb => ?_⟩
    rw [upd_ne (Nat.ne_of_lt (Nat.lt_of_lt_of_le (lts b hb) hnew))]
    exact (far b hb).1
  done := by
    intro X eP ew eK hcalm i pins s σ H E I far st stop
    subst eP ew eK
    obtain ⟨s1, s2, s3, t1, t2, t3⟩ := st
    obtain ⟨qa, qb, qc, la, lb, lc⟩ := stop
    obtain ⟨us, ra, pa, _⟩ := I.list qa
    obtain ⟨vs, rb, pb, _⟩ := I.list qb
    obtain ⟨ws, rc, pc, _⟩ := I.list qc
    have na := ra.length
    have nb := rb.length
    have nc := rc.length
    have hh : (X.A.in1).handled = none := I.ok.hd hcalm
    have G := GoesN.zip3 (prog := X.prog) (w := X.w) (A := X.A) (elts := elts) (x1 := kk) (pos := tpos) D.sep (Draws.list hh i1 a D.a1 us.toArray) (Draws.list hh i2 b D.b2 vs.toArray) (Draws.list hh i3 c D.c3 ws.toArray)
    have hmin : min (min us.toArray.size vs.toArray.size) ws.toArray.size = i := by simp only [List.size_toArray]; omega
    rw [hmin] at G
    refine G.stops s (fun s2 => Inv X pins σ H s2) E ⟨s1, s2, s3, ⟨t1, pa.isList⟩, ⟨t2, pb.isList⟩, ⟨t3, pc.isList⟩⟩ fun h' tk hk htk => ?_
    exact I.turnedL (ch := [z, TI, TO, i1, i2, i3]) (fun q o nb e => hk q o (fun m => nb (by
        have cs : q = z ∨ q = TO ∨ q = i1 ∨ q = i2 ∨ q = i3 := by simpa using m
        rcases cs with e | e | e | e | e <;> simp [e])) e) far
  self := fun A i s Q E st h => wpAny_pyIter_zip st.1 h
def iZip3 (K : PySem.W.Frag) (ta : TA) : TI := fun σ H R => ta σ H fun vs H1 => ∃ a b c xs ys zs, vs = [.ref a, .ref b, .ref c] ∧ SqL K H1 a xs ∧ SqL K H1 b ys ∧ SqL K H1 c zs ∧ R (It3 K a b c xs ys zs) H1
theorem pi_zip3 {X : Cx} {e e2 e3 : Expr} {ta : TA} {p pos tpos : Pos} {elts : List Expr} {kk : Nat} (hg : Gl X "zip") (hm : X.mg "zip" = none) (ha : PA X [e, e2, e3] ta)
    (hs : starEach [e, e2, e3] X.env = (false, eval e X.env) :: starEach [e2, e3] X.env := by rfl) (hpl : (backTo pos (starEach [e2, e3] X.env)).any (·.1) = false := by rfl) :
    PI X (.Tuple elts kk tpos) (.Call (.Name "zip" p) [e, e2, e3] [] pos) (iZip3 X.K ta) := by
  refine ⟨fun pins s σ H R I hw => ?_⟩
  refine Call_ (ld_blt I hg hm PyProof.Rows.boot_zip (PyProof.Rows.callWith_type1 (thn (ha.run pos pins s σ H _ I hw) fun us s1 ⟨vs, H1, I1, r1, q1⟩ => ?_) hs hpl))
  obtain ⟨a, b, c, xs, ys, zs, rfl, qa, qb, qc, q⟩ := q1
  cases r1 with
  | cons ra rr =>
    cases rr with
    | cons rb rr =>
      cases rr with
      | cons rc rr =>
        cases rr
        cases ra
        cases rb
        cases rc
        obtain ⟨us, va, pa, _⟩ := I1.list qa
        obtain ⟨ws, vb, pb, _⟩ := I1.list qb
        obtain ⟨ts, vc, pc, _⟩ := I1.list qc
        have la : a < s1.heap.objs.size := pa.lt
        have lb : b < s1.heap.objs.size := pb.lt
        have lc : c < s1.heap.objs.size := pc.lt
        refine zip_begins3 (begins_list a us.toArray) (begins_list b ws.toArray) (begins_list c ts.toArray) pa.isList pb.isList pc.isList fun h' hz hTI hTO h1 h2 h3 hsz hk => wpAny_pyIter_zip hz ?_
        have J : Inv X pins σ H1 { s1 with heap := h' } := I1.kept (t' := s1.toks) hk
        generalize hN : s1.heap.objs.size = N at *
        have far : Far (N + 5) (N + 3) (N + 4) N (N + 1) (N + 2) a b c :=
          { sep := zip_sep3 (by intro q hq; have : q = a := by simpa using hq
                                rw [this]; exact la) (by intro q hq; have : q = b := by simpa using hq
                                                         rw [this]; exact lb) (by intro q hq; have : q = c := by simpa using hq
                                                                                  rw [this]; exact lc)
            a1 := Nat.ne_of_lt la, b2 := Nat.ne_of_lt (Nat.lt_succ_of_lt lb), c3 := Nat.ne_of_lt (Nat.lt_succ_of_lt (Nat.lt_succ_of_lt lc))
            tiz := show (N + 3 : Nat) ≠ N + 5 by omega, tito := show (N + 3 : Nat) ≠ N + 4 by omega, ti1 := show (N + 3 : Nat) ≠ N by omega, ti2 := show (N + 3 : Nat) ≠ N + 1 by omega, ti3 := show (N + 3 : Nat) ≠ N + 2 by omega }
        refine ⟨N + 5, [N + 5, N + 3, N + 4, N, N + 1, N + 2], _, _, H1, rfl, J, turn3 far, ⟨hz, hTI, ⟨_, _, _, hTO⟩, ⟨_, h1, rfl, rfl⟩, ⟨_, h2, rfl, rfl⟩, ⟨_, h3, rfl, rfl⟩⟩, fun x hx => ?_, q⟩
        have cs : x = N + 5 ∨ x = N + 3 ∨ x = N + 4 ∨ x = N ∨ x = N + 1 ∨ x = N + 2 := by simpa using hx
        have le : N ≤ x := by
          rcases cs with e | e | e | e | e | e
          · rw [e]; exact Nat.le_add_right N 5
          · rw [e]; exact Nat.le_add_right N 3
          · rw [e]; exact Nat.le_add_right N 4
          · rw [e]; exact Nat.le_refl N
          · rw [e]; exact Nat.le_add_right N 1
          · rw [e]; exact Nat.le_add_right N 2
        have le' : s1.heap.objs.size ≤ x := by rw [hN]; exact le
        exact I1.fpOk le' (I1.hok.fresh le')
theorem walk3 {K : PySem.W.Frag} {a b c : Addr} {xs ys zs : List V} (h1 : ys.length = xs.length) (h2 : zs.length = xs.length) :
    Walk (It3 K a b c xs ys zs) xs.length (fun H => SqL K H a xs ∧ SqL K H b ys ∧ SqL K H c zs)
      (fun i H v H' => ∃ T x y z, v = .ref T ∧ H T = none ∧ H' = upd H T (.tup [x, y, z]) ∧ xs[i]? = some x ∧ ys[i]? = some y ∧ zs[i]? = some z) :=
  ⟨fun i H hi q => ⟨q.1, q.2.1, q.2.2, hi, by omega, by omega⟩, fun H q => ⟨q.1, q.2.1, q.2.2, rfl, h1.symm, h2.symm⟩, fun _ _ _ _ _ _ y => y⟩
end Zp

namespace Kg
open PySem PySem.Spec PyProof.Rows L2
/-! ### d.get(k, x) of a written dict whose keys are ints -/
structure KInt (K : PySem.W.Frag) (d : Addr) (es : Array DictEntry) (n : Nat) : Prop where
  at_ : K.lookup d = some ⟨.type "dict", none, .dict es n, #[]⟩
  lit : ∀ e ∈ es, ∃ k t, e.key = .int k t ∧ e.hash = hashInt k
  low : (d == sysModules) = false
theorem KInt.map {prog : Program} {w : World} {K : PySem.W.Frag} {d : Addr} {es : Array DictEntry} {n : Nat} {h : Heap} (D : KInt K d es n) (X : K.In h) : h.MapOf (intKind prog w) d (fun k => findBy Value.isInt es k) :=
  ⟨_, es, n, X _ _ D.at_, ⟨rfl, rfl, rfl⟩, rfl, fun e he => by
    obtain ⟨k, t, a, b⟩ := D.lit e he
    exact ⟨k, by rw [a]; exact intKind_is prog w k t, b⟩, fun _ => rfl⟩
def tKGet (d : Addr) (es : Array DictEntry) (td ty tx : TE) : TE := fun σ H Q => td σ H fun x H1 => x = .ref d ∧ ty σ H1 fun y H2 => tx σ H2 fun z H3 => ∃ (k : Int) (u : Value) (v : V), y = .int k ∧ findBy Value.isInt es k = some u ∧ RelV v u ∧ Q v H3
theorem pe_kget {X : Cx} {o e f : Expr} {apos cpos : Pos} {td ty tx : TE} {d : Addr} {es : Array DictEntry} {n : Nat} (D : KInt X.K d es n) (ho : PE X o td) (he : PE X e ty) (hf : PE X f tx) (m : M2 X o "get" apos e f cpos) :
    PE X (.Call (.Attribute o "get" apos) [e, f] [] cpos) (tKGet d es td ty tx) := by
  refine ⟨fun pins s σ H Q I hw => ?_⟩
  refine wpAny_Call_method m.base m.few m.line PySem.F.plainAttrs_dict PySem.F.slot_dict_get PySem.F.type_dict_get (thn (ho.run pins s σ H _ I hw) fun u s1 ⟨x, H1, I1, rx, ex, q1⟩ => ?_)
  subst ex
  obtain rfl : u = Value.ref d := rx
  have M1 := D.map (prog := X.prog) (w := X.w) I1.kIn
  refine ⟨M1.typeIs, fun b q => ?_, ?_⟩
  · cases q
    exact ⟨_, I1.kIn _ _ D.at_, rfl⟩
  rw [m.trees]
  refine Calls.callWith_builtin rfl (Calls.evalArgs_plain (Calls.spliced_cons (thn (he.run pins s1 σ H1 _ I1 q1) fun kv s2 ⟨y, H2, I2, ry, q2⟩ =>
    Calls.spliced_cons (thn (hf.run pins s2 σ H2 _ I2 q2) fun fv s3 ⟨z, H3, I3, rz, k, u, v, ey, hk, ru, q3⟩ => Calls.spliced_nil ?_))))
  subst ey
  obtain ⟨t, rfl⟩ := ry
  have M3 := D.map (prog := X.prog) (w := X.w) I3.kIn
  refine call_meetsIn PySem.F.slot_dict_get M3.typeIs PySem.F.entry_dict_get (PySem.F.args_dict_get_3 _ _ _) (meets_dict_get_default (intKind X.prog X.w) d (intKind_is _ _ k t) D.low fv) ⟨_, M3, v, H3, I3.tok _, ?_, q3⟩
  rw [hk]
  exact ru
/-! ### written tuples, told by a Bool of the written part -/
def tupA (K : PySem.W.Frag) (u : Value) (vs : List V) : Bool := match u with
  | .ref a => match K.lookup a with
    | some ⟨.type c, _, .seq its _, _⟩ => decide (c = "tuple") && (decide (its.size ≤ sizeLine) && He.relAll vs its.toList)
    | _ => false
  | _ => false
theorem tupA_ok {K : PySem.W.Frag} {u : Value} {vs : List V} (h : tupA K u vs = true) : ∃ a, u = .ref a ∧ ∀ H : Hp, SqT K H a vs := by
  unfold tupA at h
  split at h
  · rename_i a
    refine ⟨a, rfl, fun H => ?_⟩
    split at h
    · rename_i c od its n osl hl
      obtain ⟨h1, h2⟩ := He.ba h
      obtain ⟨h2, h3⟩ := He.ba h2
      have e1 : c = "tuple" := of_decide_eq_true h1
      subst e1
      exact Or.inr ⟨_, its, n, hl, rfl, rfl, of_decide_eq_true h2, He.relAll_ok h3⟩
    · cases h
  · cases h
/-- a written dict's entry at a text is this tuple -/
def entA (K : PySem.W.Frag) (d : Addr) (x : Str) (vs : List V) : Bool := match PySem.W.nsIn K d x with
  | some (some u) => tupA K u vs
  | _ => false
theorem entA_ok {K : PySem.W.Frag} {d : Addr} {x : Str} {vs : List V} (h : entA K d x vs = true) : ∃ a, PySem.W.nsIn K d x = some (some (.ref a)) ∧ ∀ H : Hp, SqT K H a vs := by
  unfold entA at h
  split at h
  · rename_i u hu
    obtain ⟨a, rfl, q⟩ := tupA_ok h
    exact ⟨a, hu, q⟩
  · cases h
def intOk (e : DictEntry) : Bool := match e.key with
  | .int k _ => decide (e.hash = hashInt k)
  | _ => false
theorem intOk_ok {e : DictEntry} (h : intOk e = true) : ∃ k t, e.key = .int k t ∧ e.hash = hashInt k := by
  unfold intOk at h
  split at h
  · rename_i k t hk
    exact ⟨k, t, hk, of_decide_eq_true h⟩
  · cases h
/-- a written dict with int keys; at each of these ints this tuple of texts -/
def kintB (K : PySem.W.Frag) (d : Addr) (qs : List (Int × List V)) : Bool := match K.lookup d with
  | some ⟨.type c, none, .dict es _, sl⟩ => decide (c = "dict") && (decide (sl.toList = []) && (!(d == sysModules) && (es.all intOk && qs.all fun q => match findBy Value.isInt es q.1 with
    | some u => tupA K u q.2
    | none => false)))
  | _ => false
theorem kintB_ok {K : PySem.W.Frag} {d : Addr} {qs : List (Int × List V)} (h : kintB K d qs = true) : ∃ es n, KInt K d es n ∧ ∀ q ∈ qs, ∃ a, findBy Value.isInt es q.1 = some (.ref a) ∧ ∀ H : Hp, SqT K H a q.2 := by
  unfold kintB at h
  split at h
  · rename_i c es n sl hl
    obtain ⟨h1, h⟩ := He.ba h
    obtain ⟨h2, h⟩ := He.ba h
    obtain ⟨h3, h⟩ := He.ba h
    obtain ⟨h4, h5⟩ := He.ba h
    have e1 : c = "dict" := of_decide_eq_true h1
    have e2 : sl = #[] := by apply Array.ext'; exact of_decide_eq_true h2
    subst e1 e2
    refine ⟨es, n, ⟨hl, fun e he => intOk_ok (Array.all_eq_true_iff_forall_mem.mp h4 e he), by simpa using h3⟩, fun q hq => ?_⟩
    have h6 := List.all_eq_true.mp h5 q hq
    split at h6
    · rename_i u hu
      obtain ⟨a, rfl, r⟩ := tupA_ok h6
      exact ⟨a, hu, r⟩
    · cases h6
  · cases h
end Kg

namespace K70
open PySem PySem.Spec PyProof.Rows L2 My
/-! ### lines, and what they take -/
inductive Ln where
  | lab (n : Nat) | br (o g : Nat) | nop | stop | jmp (g : Nat)
deriving DecidableEq
def behind : List Ln → List Nat
  | .lab n :: r => n :: behind r
  | _ => []
def size0 : Ln → List Ln → Nat
  | .lab _, _ => 0
  | .jmp g, r => if g ∈ behind r then 0 else 1
  | _, _ => 1
def isBr : Ln → Bool
  | .br _ _ => true
  | _ => false
def szs (F : Nat → Bool) : Nat → List Ln → List Nat
  | _, [] => []
  | i, l :: r => (if (isBr l && F i) = true then 2 else size0 l r) :: szs F (i + 1) r
theorem szs_len (F : Nat → Bool) : ∀ (ls : List Ln) (i : Nat), (szs F i ls).length = ls.length
  | [], _ => rfl
  | l :: r, i => by rw [szs, List.length_cons, List.length_cons, szs_len F r]
def starts : Nat → List Nat → List Nat
  | _, [] => []
  | s, z :: zs => s :: starts (s + z) zs
theorem starts_len : ∀ (zs : List Nat) (s : Nat), (starts s zs).length = zs.length
  | [], _ => rfl
  | z :: zs, s => by rw [starts, List.length_cons, List.length_cons, starts_len zs]
theorem starts_at : ∀ (zs : List Nat) (s i : Nat), i < zs.length → (starts s zs)[i]? = some (s + (zs.take i).sum)
  | [], _, i, h => by simp at h
  | z :: zs, s, 0, _ => by simp [starts]
  | z :: zs, s, i + 1, h => by
    have q := starts_at zs (s + z) i (by simpa using h)
    simp only [starts, List.getElem?_cons_succ, List.take_succ_cons, List.sum_cons]
    rw [q, Nat.add_assoc]
def labs : Nat → List Ln → List Nat → List (Key × V) → List (Key × V)
  | s, l :: ls, z :: zs, acc => labs (s + z) ls zs (match l with
    | .lab n => putK acc (.inl (n : Int)) (.int (s : Int))
    | _ => acc)
  | _, _, _, acc => acc
def labPos (g : Nat) : Nat → List Ln → List Nat → Option Nat
  | s, l :: ls, z :: zs => match labPos g (s + z) ls zs with
    | some p => some p
    | none => if l = .lab g then some s else none
  | _, _, _ => none
theorem labs_get (g : Nat) : ∀ (ls : List Ln) (zs : List Nat) (s : Nat) (acc : List (Key × V)), valV (labs s ls zs acc) (.inl (g : Int)) = match labPos g s ls zs with
    | some p => some (.int (p : Int))
    | none => valV acc (.inl (g : Int))
  | [], _, _, _ => by unfold labs labPos; rfl
  | l :: ls, [], _, _ => by unfold labs labPos; rfl
  | l :: ls, z :: zs, s, acc => by
    unfold labs labPos
    rw [labs_get g ls zs (s + z)]
    cases e : labPos g (s + z) ls zs with
    | some p => rfl
    | none =>
      cases l with
      | lab n =>
        show valV (putK acc (.inl (n : Int)) (.int (s : Int))) (.inl (g : Int)) = _
        rw [valV_put]
        by_cases c : g = n
        · subst c
          rw [if_pos rfl, if_pos rfl]
        · rw [if_neg (fun z => c (by injection z with z; omega)), if_neg (fun z => c (by injection z with z; exact z.symm))]
      | _ => rfl
theorem labs_nodup : ∀ (ls : List Ln) (zs : List Nat) (s : Nat) (acc : List (Key × V)), (acc.map (·.1)).Nodup → ((labs s ls zs acc).map (·.1)).Nodup
  | [], _, _, _, h => by unfold labs; exact h
  | l :: ls, [], _, _, h => by unfold labs; exact h
  | l :: ls, z :: zs, s, acc, h => by
    unfold labs
    refine labs_nodup ls zs (s + z) _ ?_
    cases l with
    | lab n =>
      show ((putK acc (.inl (n : Int)) (.int (s : Int))).map (·.1)).Nodup
      cases e : valV acc (.inl (n : Int)) with
      | none => exact nd_putK _ h e
      | some v =>
        have q : (putK acc (.inl (n : Int)) (.int (s : Int))).map (·.1) = acc.map (·.1) := by
          unfold putK
          have : (acc.any fun kv => decide (kv.1 = (.inl (n : Int)))) = true := by
            unfold valV at e
            cases e2 : acc.find? (fun kv => decide (kv.1 = (Sum.inl (n : Int)))) with
            | none => rw [e2] at e; cases e
            | some kv =>
              have := List.find?_some e2
              exact List.any_eq_true.mpr ⟨kv, List.mem_of_find?_eq_some e2, this⟩
          simp only [this, if_true, List.map_map]
          apply List.map_congr_left
          intro kv _
          dsimp only [Function.comp]
          by_cases c : kv.1 = Sum.inl (n : Int)
          · simp [c]
          · simp [c]
        rw [q]
        exact h
    | _ => exact h
theorem nodup_get : ∀ {kvs : List (Key × V)}, (kvs.map (·.1)).Nodup → ∀ p ∈ kvs, valV kvs p.1 = some p.2
  | [], _, p, hp => by cases hp
  | q :: kvs, h, p, hp => by
    rw [List.map_cons, List.nodup_cons] at h
    unfold valV
    rw [List.find?_cons]
    by_cases c : q.1 = p.1
    · rw [show decide (q.1 = p.1) = true from decide_eq_true c]
      rcases List.mem_cons.mp hp with rfl | hp
      · rfl
      · exact absurd (by rw [c]; exact List.mem_map_of_mem hp) h.1
    · rw [show decide (q.1 = p.1) = false from decide_eq_false c]
      rcases List.mem_cons.mp hp with rfl | hp
      · exact absurd rfl c
      · exact nodup_get h.2 p hp
/-! ### places -/
def S (F : Nat → Bool) (ls : List Ln) (i : Nat) : Nat := ((szs F 0 ls).take i).sum
def lastLab (g : Nat) : List Ln → Option Nat
  | [] => none
  | l :: r => match lastLab g r with
    | some j => some (j + 1)
    | none => if l = .lab g then some 0 else none
theorem labPos_eq (g : Nat) (F : Nat → Bool) : ∀ (ls : List Ln) (i s : Nat), labPos g s ls (szs F i ls) = (lastLab g ls).map fun j => s + ((szs F i ls).take j).sum
  | [], _, _ => rfl
  | l :: r, i, s => by
    unfold szs labPos lastLab
    rw [labPos_eq g F r (i + 1)]
    cases e : lastLab g r with
    | some j => simp [Nat.add_assoc]
    | none =>
      by_cases c : l = .lab g
      · simp [c]
      · simp [c]
theorem lastLab_lt (g : Nat) : ∀ (ls : List Ln) (j : Nat), lastLab g ls = some j → j < ls.length
  | [], _, h => by cases h
  | l :: r, j, h => by
    unfold lastLab at h
    cases e : lastLab g r with
    | some k =>
      rw [e] at h
      injection h with h
      have := lastLab_lt g r k e
      simp only [List.length_cons]; omega
    | none =>
      rw [e] at h
      dsimp only at h
      split at h
      · injection h with h; simp only [List.length_cons]; omega
      · cases h
def dist (F : Nat → Bool) (ls : List Ln) (i g : Nat) : Int := (S F ls ((lastLab g ls).getD 0) : Int) - (S F ls i : Int)
def reach (d : Int) : Bool := decide (-1024 ≤ d) && decide (d ≤ 1023)
def fitsB (F : Nat → Bool) (ls : List Ln) : Prop := ∀ i o g, ls[i]? = some (.br o g) → F i = false → reach (dist F ls i g) = true
/-! more words never bring things nearer -/
theorem szs_le {F G : Nat → Bool} (h : ∀ i, F i = true → G i = true) : ∀ (ls : List Ln) (i k : Nat), (szs F i ls)[k]?.getD 0 ≤ (szs G i ls)[k]?.getD 0
  | [], _, _ => by simp [szs]
  | l :: r, i, 0 => by
    simp only [szs, List.getElem?_cons_zero, Option.getD_some]
    by_cases b : isBr l = true
    · have z : size0 l r = 1 := by cases l <;> first | rfl | cases b
      rw [b, z, Bool.true_and, Bool.true_and]
      cases f : F i with
      | true => rw [h i f]; exact Nat.le_refl _
      | false => cases G i <;> simp
    · have : isBr l = false := by simpa using b
      rw [this]
      simp
  | l :: r, i, k + 1 => by
    simp only [szs, List.getElem?_cons_succ]
    exact szs_le h r (i + 1) k
theorem sum_take_succ (xs : List Nat) (k : Nat) : (xs.take (k + 1)).sum = (xs.take k).sum + xs[k]?.getD 0 := by
  rw [List.take_add_one, List.sum_append]
  cases xs[k]? <;> simp
theorem sum_mono {xs ys : List Nat} (h : ∀ k : Nat, xs[k]?.getD 0 ≤ ys[k]?.getD 0) (i : Nat) : ∀ m, (xs.take (i + m)).sum + (ys.take i).sum ≤ (ys.take (i + m)).sum + (xs.take i).sum
  | 0 => by rw [Nat.add_zero, Nat.add_comm]; exact Nat.le_refl _
  | m + 1 => by
    have q := sum_mono h i m
    have e := h (i + m)
    rw [← Nat.add_assoc, sum_take_succ, sum_take_succ]
    omega
theorem sum_grow (xs : List Nat) (i : Nat) : ∀ m, (xs.take i).sum ≤ (xs.take (i + m)).sum
  | 0 => Nat.le_refl _
  | m + 1 => by
    have q := sum_grow xs i m
    rw [← Nat.add_assoc, sum_take_succ]
    omega
theorem S_mono {F G : Nat → Bool} (h : ∀ i, F i = true → G i = true) (ls : List Ln) {i j : Nat} (hij : i ≤ j) : S F ls j + S G ls i ≤ S G ls j + S F ls i ∧ S F ls i ≤ S F ls j := by
  obtain ⟨m, rfl⟩ := Nat.exists_eq_add_of_le hij
  exact ⟨sum_mono (szs_le h ls 0) i m, sum_grow _ i m⟩
theorem reach_mono {F G : Nat → Bool} (h : ∀ i, F i = true → G i = true) {ls : List Ln} {i g : Nat} (r : reach (dist G ls i g) = true) : reach (dist F ls i g) = true := by
  unfold reach dist at *
  rw [Bool.and_eq_true, decide_eq_true_eq, decide_eq_true_eq] at *
  rcases Nat.le_total i ((lastLab g ls).getD 0) with c | c
  · obtain ⟨a, b⟩ := S_mono h ls c
    omega
  · obtain ⟨a, b⟩ := S_mono h ls c
    obtain ⟨a', b'⟩ := S_mono (F := G) (G := G) (fun _ z => z) ls c
    omega
/-! ### branches, in their order -/
def brs (ls : List Ln) : List Nat := (List.range ls.length).filter fun i => isBr (ls.getD i .nop)
theorem mem_brs {ls : List Ln} {i : Nat} : i ∈ brs ls ↔ ∃ o g, ls[i]? = some (.br o g) := by
  unfold brs
  rw [List.mem_filter, List.mem_range]
  constructor
  · rintro ⟨h, b⟩
    have e : ls[i]? = some ls[i] := List.getElem?_eq_getElem h
    rw [List.getD_eq_getElem?_getD, e, Option.getD_some] at b
    cases q : ls[i] with
    | br o g => exact ⟨o, g, by rw [e, q]⟩
    | _ => rw [q] at b; cases b
  · rintro ⟨o, g, e⟩
    have h : i < ls.length := by
      by_cases c : i < ls.length
      · exact c
      · rw [List.getElem?_eq_none (by omega)] at e; cases e
    exact ⟨h, by rw [List.getD_eq_getElem?_getD, e]; rfl⟩
theorem brs_nodup (ls : List Ln) : (brs ls).Nodup := List.Pairwise.filter _ List.nodup_range
theorem brs_sorted (ls : List Ln) : (brs ls).Pairwise (· < ·) := List.Pairwise.filter _ List.pairwise_lt_range
/-- all that is known of what long_branches tells -/
structure Best (ls : List Ln) (F : Nat → Bool) : Prop where
  sub : ∀ i, F i = true → i ∈ brs ls
  fit : fitsB F ls
  least : ∀ G : Nat → Bool, fitsB G ls → ∀ i, F i = true → G i = true
/-! one look at all branches, at the places of F: what comes to be long -/
structure Look (ls : List Ln) (F F' : Nat → Bool) (t : Nat) : Prop where
  more : ∀ i, F i = true → F' i = true
  sub : ∀ i, F' i = true → i ∈ brs ls
  low : ∀ G : Nat → Bool, fitsB G ls → (∀ i, F i = true → G i = true) → ∀ i, F' i = true → G i = true
  done : (∀ i, F' i = true → F i = true) → ∀ k, k < t → ∀ i, (brs ls)[k]? = some i → ∀ o g, ls[i]? = some (.br o g) → F i = false → reach (dist F ls i g) = true
theorem Look.start {ls : List Ln} {F : Nat → Bool} (h : ∀ i, F i = true → i ∈ brs ls) : Look ls F F 0 := ⟨fun _ z => z, h, fun _ _ z => z, fun _ k hk => absurd hk (by omega)⟩
/-- a branch is left as it is -/
theorem Look.keep {ls : List Ln} {F F' : Nat → Bool} {t i o g : Nat} (L : Look ls F F' t) (hi : (brs ls)[t]? = some i) (hl : ls[i]? = some (.br o g)) (h : F' i = true ∨ reach (dist F ls i g) = true) : Look ls F F' (t + 1) :=
  ⟨L.more, L.sub, L.low, fun z k hk j hj o' g' e f => by
    by_cases c : k < t
    · exact L.done z k c j hj o' g' e f
    · have : k = t := by omega
      subst this
      rw [hi] at hj
      injection hj with hj
      subst hj
      rw [hl] at e
      injection e with e
      injection e with e1 e2
      subst e1 e2
      rcases h with h | h
      · rw [z i h] at f; cases f
      · exact h⟩
/-- a branch comes to be long -/
theorem Look.put {ls : List Ln} {F F' : Nat → Bool} {t i o g : Nat} (L : Look ls F F' t) (hi : (brs ls)[t]? = some i) (hl : ls[i]? = some (.br o g)) (hF : F' i = false) (h : reach (dist F ls i g) = false) : Look ls F (fun j => decide (j = i) || F' j) (t + 1) := by
  refine ⟨fun j z => by rw [Bool.or_eq_true]; exact Or.inr (L.more j z), fun j z => ?_, fun G q s j z => ?_, fun z => ?_⟩
  · rw [Bool.or_eq_true, decide_eq_true_eq] at z
    rcases z with rfl | z
    · exact mem_brs.mpr ⟨o, g, hl⟩
    · exact L.sub j z
  · rw [Bool.or_eq_true, decide_eq_true_eq] at z
    rcases z with rfl | z
    · cases e : G j with
      | true => rfl
      | false =>
        have := reach_mono s (q j o g hl e)
        rw [h] at this; cases this
    · exact L.low G q s j z
  · have a := z i (by simp)
    rw [L.more i a] at hF
    cases hF
theorem Look.best {ls : List Ln} {F F' : Nat → Bool} (L : Look ls F F' (brs ls).length) (hm : ∀ G : Nat → Bool, fitsB G ls → ∀ i, F i = true → G i = true) (z : ∀ i, F' i = true → F i = true) : Best ls F := by
  refine ⟨fun i h => L.sub i (L.more i h), fun i o g e f => ?_, hm⟩
  obtain ⟨k, hk, q⟩ := List.getElem_of_mem (mem_brs.mpr ⟨o, g, e⟩)
  exact L.done z k hk i (by rw [List.getElem?_eq_getElem hk, q]) o g e f
theorem Look.least {ls : List Ln} {F F' : Nat → Bool} {t : Nat} (L : Look ls F F' t) (hm : ∀ G : Nat → Bool, fitsB G ls → ∀ i, F i = true → G i = true) : ∀ G : Nat → Bool, fitsB G ls → ∀ i, F' i = true → G i = true := fun G q i z => L.low G q (hm G q) i z
end K70

namespace K70
open PySem PyProof.Rows L2 My
open Builtin (bitAnd bitOr)
/-! ### words of branches and jumps -/
theorem and_disj : ∀ (k : Nat) (a b : Int), a % 2 ^ k = 0 → 0 ≤ b → b < 2 ^ k → bitAnd a b = 0
  | 0, a, b, _, h0, h1 => by
    have : b = 0 := by
      have : (2 : Int) ^ 0 = 1 := by decide
      omega
    subst this
    exact bitAnd_zero a
  | k + 1, a, b, h, h0, h1 => by
    have e : (2 : Int) ^ (k + 1) = 2 * 2 ^ k := by rw [Int.pow_succ, Int.mul_comm]
    rw [e] at h h1
    have hp : (0 : Int) < 2 ^ k := Int.pow_pos (by decide)
    obtain ⟨q, hq⟩ : ∃ q, a = 2 * 2 ^ k * q := ⟨a / (2 * 2 ^ k), by have := Int.mul_ediv_add_emod a (2 * 2 ^ k); rw [h, Int.add_zero] at this; exact this.symm⟩
    have ha : a % 2 = 0 := by rw [hq, Int.mul_assoc]; exact Int.mul_emod_right _ _
    have ha2 : a / 2 = 2 ^ k * q := by rw [hq, Int.mul_assoc]; exact Int.mul_ediv_cancel_left _ (by decide)
    rw [PySem.W.kbt_halves a b, and_disj k (a / 2) (b / 2) (by rw [ha2]; exact Int.mul_emod_right _ _) (by omega) (by omega), if_neg (by omega)]
    rfl
theorem and_shift : ∀ (k : Nat) (x p : Int), bitAnd x (p * 2 ^ k) = bitAnd (x / 2 ^ k) p * 2 ^ k
  | 0, x, p => by
    have : (2 : Int) ^ 0 = 1 := by decide
    rw [this, Int.mul_one, Int.mul_one, Int.ediv_one]
  | k + 1, x, p => by
    have e : (2 : Int) ^ (k + 1) = 2 ^ k * 2 := Int.pow_succ ..
    have e2 : p * (2 ^ k * 2) = 2 * (p * 2 ^ k) := by rw [← Int.mul_assoc, Int.mul_comm]
    rw [e, e2, PySem.W.kbt_halves, Int.mul_ediv_cancel_left _ (by decide), and_shift k (x / 2) p, if_neg (by omega), Int.ediv_ediv_of_nonneg (by decide), Int.mul_comm 2 ((2 : Int) ^ k), Int.add_zero, Int.mul_comm 2, Int.mul_assoc]
/-- a field where there is nothing yet -/
theorem or_field (m k : Nat) {x p : Int} (h : (x / 2 ^ k) % 2 ^ m = 0) (h0 : 0 ≤ p) (h1 : p < 2 ^ m) : bitOr x (p * 2 ^ k) = x + p * 2 ^ k := by
  rw [bitOr_and, and_shift, and_disj m _ _ h h0 h1, Int.zero_mul, Int.sub_zero]
theorem or_fieldL (m k : Nat) {M D x p : Int} (hM : (2 : Int) ^ m = M) (hD : (2 : Int) ^ k = D) (h : (x / D) % M = 0) (h0 : 0 ≤ p) (h1 : p < M) : bitOr x (p * D) = x + p * D := by
  subst hM hD
  exact or_field m k h h0 h1
theorem p31 : (2 : Int) ^ 31 = 2147483648 := by decide
theorem p25 : (2 : Int) ^ 25 = 33554432 := by decide
theorem p21 : (2 : Int) ^ 21 = 2097152 := by decide
theorem p20 : (2 : Int) ^ 20 = 1048576 := by decide
theorem p15 : (2 : Int) ^ 15 = 32768 := by decide
theorem p12 : (2 : Int) ^ 12 = 4096 := by decide
theorem p11 : (2 : Int) ^ 11 = 2048 := by decide
theorem p10 : (2 : Int) ^ 10 = 1024 := by decide
theorem p8 : (2 : Int) ^ 8 = 256 := by decide
theorem p7 : (2 : Int) ^ 7 = 128 := by decide
theorem p6 : (2 : Int) ^ 6 = 64 := by decide
theorem p5 : (2 : Int) ^ 5 = 32 := by decide
theorem p4 : (2 : Int) ^ 4 = 16 := by decide
theorem p3 : (2 : Int) ^ 3 = 8 := by decide
theorem p1 : (2 : Int) ^ 1 = 2 := by decide
def opns : List Str := ["beq", "bne", "blt", "bge", "bltu", "bgeu"]
def opn (o : Nat) : Str := opns.getD o ""
def prt (o : Nat) : Int := ([0, 1, 4, 5, 6, 7] : List Int).getD o 0
def trn (o : Nat) : Nat := ([1, 0, 3, 2, 5, 4] : List Nat).getD o 0
theorem prt_ok : ∀ o, o < 6 → 0 ≤ prt o ∧ prt o < 8 := by decide
theorem trn_ok : ∀ o, o < 6 → trn o < 6 := by decide
def wB0 (d : Int) : Int := bitOr (bitOr (bitOr (bitOr (bitOr (bitAnd (d / 2 ^ 12) 1 * 2 ^ 31) (bitAnd (d / 2 ^ 5) 63 * 2 ^ 25)) (11 * 2 ^ 20)) (10 * 2 ^ 15)) (bitAnd (d / 2 ^ 1) 15 * 2 ^ 8)) (bitAnd (d / 2 ^ 11) 1 * 2 ^ 7)
def fin (x l p f : Int) : Int := bitOr (bitOr (bitOr x l) (p * 2 ^ 12)) (f * 2 ^ 25)
def wB (o : Nat) (d : Int) : Int := fin (wB0 d) 99 (prt o) 0
def wJ0 (d : Int) : Int := bitOr (bitOr (bitOr (bitOr (bitAnd (d / 2 ^ 20) 1 * 2 ^ 31) (bitAnd (d / 2 ^ 1) 1023 * 2 ^ 21)) (bitAnd (d / 2 ^ 11) 1 * 2 ^ 20)) (bitAnd (d / 2 ^ 12) 255 * 2 ^ 12)) (0 * 2 ^ 7)
def wJ (d : Int) : Int := fin (wJ0 d) 111 0 0
def sgn (n h : Int) : Int := if h ≤ n then n - 2 * h else n
def rB (w : Int) : Int := bitOr (bitOr (bitOr (w / 2 ^ 31 * 2 ^ 12) (bitAnd (w / 2 ^ 7) 1 * 2 ^ 11)) (bitAnd (w / 2 ^ 25) 63 * 2 ^ 5)) (bitAnd (w / 2 ^ 8) 15 * 2 ^ 1)
def rJ (w : Int) : Int := bitOr (bitOr (bitOr (w / 2 ^ 31 * 2 ^ 20) (bitAnd (w / 2 ^ 12) 255 * 2 ^ 12)) (bitAnd (w / 2 ^ 20) 1 * 2 ^ 11)) (bitAnd (w / 2 ^ 21) 1023 * 2 ^ 1)
theorem m1 (x : Int) : bitAnd x 1 = x % 2 := bitAnd_m1 x
theorem m4 (x : Int) : bitAnd x 15 = x % 16 := bitAnd_m4 x
theorem m6 (x : Int) : bitAnd x 63 = x % 64 := bitAnd_m6 x
theorem m8 (x : Int) : bitAnd x 255 = x % 256 := bitAnd_m8 x
theorem m10 (x : Int) : bitAnd x 1023 = x % 1024 := PySem.W.kbt_mask x 10
theorem or0 (x : Int) (k : Nat) : bitOr x (0 * 2 ^ k) = x := by rw [Int.zero_mul, bitOr_and, bitAnd_zero, Int.add_zero, Int.sub_zero]
theorem or_low (m : Nat) {x p : Int} (h : x % 2 ^ m = 0) (h0 : 0 ≤ p) (h1 : p < 2 ^ m) : bitOr x p = x + p := by
  have := or_field m 0 (x := x) (p := p) (by rw [show (2 : Int) ^ 0 = 1 from by decide, Int.ediv_one]; exact h) h0 h1
  rw [show (2 : Int) ^ 0 = 1 from by decide, Int.mul_one] at this
  exact this
theorem wB_eq {o : Nat} (ho : o < 6) (d : Int) : wB o d = (d / 4096 % 2) * 2147483648 + (d / 32 % 64) * 33554432 + 11534336 + 327680 + (d / 2 % 16) * 256 + (d / 2048 % 2) * 128 + 99 + prt o * 4096 := by
  have hp := prt_ok o ho
  unfold wB fin wB0
  rw [m1, m1, m4, m6, or0, p31, p25, p20, p15, p12, p11, p8, p7, p5, p1]
  have h12 : 0 ≤ d / 4096 % 2 ∧ d / 4096 % 2 < 2 := by omega
  have h5 : 0 ≤ d / 32 % 64 ∧ d / 32 % 64 < 64 := by omega
  have h1 : 0 ≤ d / 2 % 16 ∧ d / 2 % 16 < 16 := by omega
  have h11 : 0 ≤ d / 2048 % 2 ∧ d / 2048 % 2 < 2 := by omega
  generalize d / 4096 % 2 = f12 at *
  generalize d / 32 % 64 = f5 at *
  generalize d / 2 % 16 = f1 at *
  generalize d / 2048 % 2 = f11 at *
  generalize prt o = p at *
  rw [or_fieldL 6 25 p6 p25 (by omega) (by omega) (by omega), or_fieldL 5 20 p5 p20 (by omega) (by omega) (by omega), or_fieldL 5 15 p5 p15 (by omega) (by omega) (by omega), or_fieldL 4 8 p4 p8 (by omega) (by omega) (by omega), or_fieldL 1 7 p1 p7 (by omega) (by omega) (by omega)]
  rw [or_low 7 (p := 99) (by omega) (by omega) (by omega), or_fieldL 3 12 p3 p12 (by omega) (by omega) (by omega)]
  omega
theorem wJ_eq (d : Int) : wJ d = (d / 1048576 % 2) * 2147483648 + (d / 2 % 1024) * 2097152 + (d / 2048 % 2) * 1048576 + (d / 4096 % 256) * 4096 + 111 := by
  unfold wJ fin wJ0
  rw [m1, m1, m8, m10, or0, or0, or0, p31, p21, p20, p12, p11, p1]
  have h20 : 0 ≤ d / 1048576 % 2 ∧ d / 1048576 % 2 < 2 := by omega
  have h1 : 0 ≤ d / 2 % 1024 ∧ d / 2 % 1024 < 1024 := by omega
  have h11 : 0 ≤ d / 2048 % 2 ∧ d / 2048 % 2 < 2 := by omega
  have h12 : 0 ≤ d / 4096 % 256 ∧ d / 4096 % 256 < 256 := by omega
  generalize d / 1048576 % 2 = f20 at *
  generalize d / 2 % 1024 = f1 at *
  generalize d / 2048 % 2 = f11 at *
  generalize d / 4096 % 256 = f12 at *
  rw [or_fieldL 10 21 p10 p21 (by omega) (by omega) (by omega), or_fieldL 1 20 p1 p20 (by omega) (by omega) (by omega), or_fieldL 8 12 p8 p12 (by omega) (by omega) (by omega)]
  rw [or_low 7 (p := 111) (by omega) (by omega) (by omega)]
structure GoodB (o : Nat) (d : Int) : Prop where
  even : bitAnd d 1 = 0
  last : bitAnd (wB o d) 127 = 99
  part : bitAnd (wB o d / 2 ^ 12) 7 = prt o
  one : bitAnd (wB o d / 2 ^ 15) 31 = 10
  other : bitAnd (wB o d / 2 ^ 20) 31 = 11
  far : sgn (rB (wB o d)) 4096 = d
structure GoodJ (d : Int) : Prop where
  even : bitAnd d 1 = 0
  last : bitAnd (wJ d) 127 = 111
  one : bitAnd (wJ d / 2 ^ 7) 31 = 0
  far : sgn (rJ (wJ d)) 1048576 = d
structure FieldsB (w f12 f5 f1 f11 p : Int) : Prop where
  a : w % 128 = 99
  b : w / 4096 % 8 = p
  c : w / 32768 % 32 = 10
  d : w / 1048576 % 32 = 11
  e : w / 2147483648 = f12
  f : w / 128 % 2 = f11
  g : w / 33554432 % 64 = f5
  h : w / 256 % 16 = f1
theorem fieldsB {w f12 f5 f1 f11 p : Int} (h12 : 0 ≤ f12 ∧ f12 < 2) (h5 : 0 ≤ f5 ∧ f5 < 64) (h1 : 0 ≤ f1 ∧ f1 < 16) (h11 : 0 ≤ f11 ∧ f11 < 2) (hp : 0 ≤ p ∧ p < 8)
    (e : w = f12 * 2147483648 + f5 * 33554432 + 11534336 + 327680 + f1 * 256 + f11 * 128 + 99 + p * 4096) : FieldsB w f12 f5 f1 f11 p := by
  refine ⟨by omega, by omega, by omega, by omega, by omega, by omega, by omega, by omega⟩
theorem rB_eq {w f12 f5 f1 f11 : Int} (h12 : 0 ≤ f12 ∧ f12 < 2) (h5 : 0 ≤ f5 ∧ f5 < 64) (h1 : 0 ≤ f1 ∧ f1 < 16) (h11 : 0 ≤ f11 ∧ f11 < 2) (e : w / 2147483648 = f12) (f : w / 128 % 2 = f11) (g : w / 33554432 % 64 = f5) (h : w / 256 % 16 = f1) :
    rB w = f12 * 4096 + f11 * 2048 + f5 * 32 + f1 * 2 := by
  unfold rB
  rw [m1, m4, m6, show w / 2 ^ 31 = f12 from e, show w / 2 ^ 7 % 2 = f11 from f, show w / 2 ^ 25 % 64 = f5 from g, show w / 2 ^ 8 % 16 = f1 from h]
  clear e f g h
  rw [or_field 1 11 (by omega) (by omega) (by omega), or_field 6 5 (by omega) (by omega) (by omega), or_field 4 1 (by omega) (by omega) (by omega)]
  omega
theorem goodB {o : Nat} (ho : o < 6) {k : Int} (h1 : -1024 ≤ k) (h2 : k ≤ 1023) : GoodB o (4 * k) := by
  have e := wB_eq ho (4 * k)
  have F := fieldsB (by omega) (by omega) (by omega) (by omega) (prt_ok o ho) e
  have r := rB_eq (by omega) (by omega) (by omega) (by omega) F.e F.f F.g F.h
  refine ⟨by rw [m1]; omega, by rw [bitAnd_m7]; exact F.a, by rw [bitAnd_m3]; exact F.b, by rw [bitAnd_m5]; exact F.c, by rw [bitAnd_m5]; exact F.d, ?_⟩
  rw [r]
  clear e F r
  unfold sgn
  split <;> omega
structure FieldsJ (w f20 f1 f11 f12 : Int) : Prop where
  a : w % 128 = 111
  b : w / 128 % 32 = 0
  e : w / 2147483648 = f20
  f : w / 4096 % 256 = f12
  g : w / 1048576 % 2 = f11
  h : w / 2097152 % 1024 = f1
theorem fieldsJ {w f20 f1 f11 f12 : Int} (h20 : 0 ≤ f20 ∧ f20 < 2) (h1 : 0 ≤ f1 ∧ f1 < 1024) (h11 : 0 ≤ f11 ∧ f11 < 2) (h12 : 0 ≤ f12 ∧ f12 < 256)
    (e : w = f20 * 2147483648 + f1 * 2097152 + f11 * 1048576 + f12 * 4096 + 111) : FieldsJ w f20 f1 f11 f12 := by
  refine ⟨by omega, by omega, by omega, by omega, by omega, by omega⟩
theorem rJ_eq {w f20 f1 f11 f12 : Int} (h20 : 0 ≤ f20 ∧ f20 < 2) (h1 : 0 ≤ f1 ∧ f1 < 1024) (h11 : 0 ≤ f11 ∧ f11 < 2) (h12 : 0 ≤ f12 ∧ f12 < 256) (e : w / 2147483648 = f20) (f : w / 4096 % 256 = f12) (g : w / 1048576 % 2 = f11) (h : w / 2097152 % 1024 = f1) :
    rJ w = f20 * 1048576 + f12 * 4096 + f11 * 2048 + f1 * 2 := by
  unfold rJ
  rw [m1, m8, m10, show w / 2 ^ 31 = f20 from e, show w / 2 ^ 12 % 256 = f12 from f, show w / 2 ^ 20 % 2 = f11 from g, show w / 2 ^ 21 % 1024 = f1 from h]
  clear e f g h
  rw [or_field 8 12 (by omega) (by omega) (by omega), or_field 1 11 (by omega) (by omega) (by omega), or_field 10 1 (by omega) (by omega) (by omega)]
  omega
theorem goodJ {k : Int} (h1 : -100000 ≤ k) (h2 : k ≤ 100000) : GoodJ (4 * k) := by
  have e := wJ_eq (4 * k)
  have F := fieldsJ (by omega) (by omega) (by omega) (by omega) e
  have r := rJ_eq (by omega) (by omega) (by omega) (by omega) F.e F.f F.g F.h
  refine ⟨by rw [m1]; omega, by rw [bitAnd_m7]; exact F.a, by rw [bitAnd_m5]; exact F.b, ?_⟩
  rw [r]
  clear e F r
  unfold sgn
  split <;> omega
end K70

namespace Kg
open PySem PySem.Spec PyProof.Rows L2
/-- a comprehension goes to a name that inner blocks read: nothing is swapped -/
theorem sw_cell {elt : Expr} {gs : List Comprehension} {scope : Scope} {pos py : Pos} {y : Str} {l : Nat} {env : Env} (hy : env.scope.names.lookup y = some .cell) :
    swapsWith (.ListComp elt gs scope pos) (some (.Name y py)) l env = pure false := by
  have ky : env.kindOf y = some .cell := hy
  unfold swapsWith
  simp only [ky]
  cases h : (env.blockKind == ScopeKind.function) <;> rfl
/-- what e gives is a dict (a list) that from here on is only read -/
def tLockE (td : TE) : TE := fun σ H Q => td σ H fun x H1 => ∃ d u, x = .ref d ∧ H1 d = some u ∧ Mut (some u) ∧ ∀ o, Q x (upd H1 d (.frz o u))
theorem pe_locked {X : Cx} {e : Expr} {td : TE} (he : PE X e td) : PE X e (tLockE td) := by
  refine ⟨fun pins s σ H Q I hw => ?_⟩
  refine thn (he.run pins s σ H _ I hw) fun u s1 ⟨x, H1, I1, rx, d, v, ex, hd, mu, q⟩ => ?_
  obtain ⟨o, I2⟩ := I1.lock hd mu
  exact ⟨x, _, I2, rx, q o⟩
end Kg

namespace Ru
open PySem PySem.Spec PyProof.Rows L2 My
theorem if_true_of {c : Bool} {A B : Prop} (hc : c = true) (h : A) : if c = true then A else B := by
  rw [if_pos hc]
  exact h
theorem if_false_of {c : Bool} {A B : Prop} (hc : c = false) (h : B) : if c = true then A else B := by
  rw [hc, if_neg Bool.false_ne_true]
  exact h
theorem small_lists : (4000000 : Nat) < sizeLine := by rw [sizeLine_eq]; decide
theorem tup_le {n : Nat} (h : n ≤ 4000000) : n ≤ sizeLine := Nat.le_of_lt (Nat.lt_of_le_of_lt h small_lists)
theorem tup_lt {n : Nat} (h : n < 4000000) : n < sizeLine := Nat.lt_of_le_of_lt (Nat.le_of_lt h) small_lists
theorem ty_lst {K : PySem.W.Frag} {H : Hp} {p : Addr} {xs : List V} (h : H p = some (.lst xs)) : tyV K "list" (.ref p) H := .inl ⟨rfl, xs, SqL.of h⟩
theorem tru_lst {K : PySem.W.Frag} {H : Hp} {p : Addr} {xs : List V} (h : H p = some (.lst xs)) : TruV K (.ref p) H (!xs.isEmpty) := .inl ⟨xs, SqL.of h, rfl⟩
theorem pe_mkG0 {X : Cx} {CX : CXT} {k : Nat} {C : Addr} {x : Str} {ps : List Str} {sp : Sp} {E : XK} {p pos : Pos} (h : Gm X.prog X.w X.K X.mg X.base CX k C "__init__" ps sp) (M : PySem.W.makesIn X.K C = true ∧ PySem.W.keepIn X.K (.ref C) = true) (hm : X.mg x = some (.ref C)) (hr : Room (k + 1) X.A) (hx : Passes CX X E) (hg : Gl X x := by rfl)
    (hdb : (x == ("__debug__" : Str)) = false := by decide) : PE X (.Call (.Name x p) [] [] pos) (tMake C sp [] E tNil) := by
  obtain ⟨f, fd, m, F, b⟩ := h.ex
  exact pe_make0 ⟨M.1, m.at_, m.fn, M.2⟩ F hr hg hm b .nil hx hdb
/-- a local name holds one of these defs -/
def Held (P : Program) (w : World) (K : PySem.W.Frag) (mg : Str → Option Value) (base : Heap) (CX : CXT) (k : Nat) (f : Addr) (sp : Sp) : Prop :=
  ∃ (fd : FuncData) (ps : List Str), FnOk P w K mg base CX k f fd ps sp ∧ PySem.W.keepIn K (.ref f) = true ∧ Binds K fd ps []
theorem held_of {P : Program} {w : World} {K : PySem.W.Frag} {mg : Str → Option Value} {base : Heap} {CX : CXT} {j k : Nat} {x : Str} {ps : List Str} {sp : Sp} (h : Gd P w K mg base CX j x ps sp) (hjk : j ≤ k) {f : Addr} (hf : mg x = some (.ref f)) : Held P w K mg base CX k f sp := by
  obtain ⟨f', fd, m, F, b, kp, _⟩ := h.ex
  rw [m] at hf
  cases hf
  exact ⟨fd, ps, F.mono hjk, kp, b⟩
def tHeld (i : Nat) (Sf : Addr → Sp → Prop) (E : XK) (t : TA) : TE := fun σ H Q => ∃ f sp, σ[i]? = some (some (.ref f)) ∧ Sf f sp ∧ t σ H fun vs H1 => sp vs H1 Q E
theorem pe_callV {X : Cx} {CX : CXT} {k i : Nat} {E : XK} {x : Str} {p pos : Pos} {e : Expr} {es : List Expr} {t : TA} {Sf : Addr → Sp → Prop} (A : ∀ f sp, Sf f sp → Held X.prog X.w X.K X.mg X.base CX k f sp) (hr : Room k X.A) (hN : X.N[i]? = some x) (hv : Vis X.env.scope x) (hx : Passes CX X E) (ha : PA X (e :: es) t)
    (hdb : (x == ("__debug__" : Str)) = false := by decide) (hcd : (x == ("__classdict__" : Str)) = false := by decide)
    (he : starEach (e :: es) X.env = (false, eval e X.env) :: starEach es X.env := by rfl) (hpl : (backTo pos (starEach es X.env)).any (·.1) = false := by rfl) : PE X (.Call (.Name x p) (e :: es) [] pos) (tHeld i Sf E t) := by
  refine ⟨fun pins s σ H Q I hw => ?_⟩
  obtain ⟨f, sp, hs, hS, ht⟩ := hw
  obtain ⟨fd, ps, F, hk, hb⟩ := A f sp hS
  refine (pe_callL (i := i) (f := f) (sp := sp) (dvs := []) (E := E) F hr hN hv hk hb .nil hx ha hdb hcd he hpl).run pins s σ H Q I ⟨hs, ?_⟩
  have e0 : (fun (vs : List V) (H1 : Hp) => sp (vs ++ []) H1 Q E) = fun vs H1 => sp vs H1 Q E := by
    funext vs H1
    rw [List.append_nil]
  show t σ H (fun vs H1 => sp (vs ++ []) H1 Q E)
  rw [e0]
  exact ht
end Ru

namespace Bf
open PySem PySem.W PySem.Calls PyProof.Rows
open Bt (exB plainExc fld_first ldC)
/-! ### BadForm: what the written part says of it; its __init__ -/
def iA (p1 p2 : Pos) : Arguments := { posonlyargs := [], args := [{ arg := "self", annotation := none, pos := p1 }, { arg := "thing", annotation := none, pos := p2 }], vararg := none, kwonlyargs := [], kw_defaults := [], kwarg := none, defaults := [] }
def iB (q1 q2 q3 q4 : Pos) : List Stmt := [.Assign [.Attribute (.Name "self" q1) "thing" q2] (.Name "thing" q3) q4]
def iS : Scope := { kind := .function, names := [(PySem.Str.ofString "self", .local), (PySem.Str.ofString "thing", .local)], isGenerator := false, isCoroutine := false, more := [] }
structure BfTxt (K : Frag) (mg : Str → Option Value) (C fI : Addr) : Prop where
  gC : mg "BadForm" = some (.ref C)
  exI : excInitIn K C exB "Exception.__new__" = true
  over : excOver K C exB = true
  cd : ∃ cd, clsIn K C = some cd ∧ cd.hasDict = true
  sa : findIn K (.ref C) "__setattr__" = some (some (.builtin "object.__setattr__"))
  ga : findIn K (.ref C) "__getattribute__" = some (some (.builtin "BaseException.__getattribute__"))
  gg : findIn K (.ref C) "__getattr__" = some none
  noT : findIn K (.ref C) "thing" = some none
  iC : findIn K (.ref C) "__init__" = some (some (.ref fI))
  tC : typeIn K (.ref fI) = some (.type "function")
  kC : keepIn K (.ref C) = true
  exC : subIn K (.ref C) (.type "BaseException") = some true
  tyC : typeIn K (.ref C) = some (.type "type")
  hdC : hasDictIn K C = true
  te : exmOne K (.ref C) (.ref C) = some true
  fn : ∃ (oc : Value) (od : Option Addr) (kV doc pm : Value) (an : Option Addr) (cdv ct : Value) (osl : Array (Option Value)) (p1 p2 q1 q2 q3 q4 : Pos),
    K.lookup fI = some ⟨oc, od, .func (fnOf "__init__" "BadForm.__init__" (iA p1 p2) (iB q1 q2 q3 q4) iS .none kV doc pm an cdv ct), osl⟩ ∧ codeIn K cdv "BadForm.__init__" = true
theorem one_size (v : Value) : [v].length ≤ sizeLine := by
  rw [sizeLine_eq]
  exact (by decide : 1 ≤ 16777216)
def two (l : Value) : Str → Option Value := fun y => if y = "thing" then some l else none
/-- what __init__ leaves of a fresh exception at x -/
structure InitEnd (h h' : Heap) (x C dx t1 : Addr) (l : Value) : Prop where
  keep : ∀ b o, b ≠ x → h.get? b = some o → h'.get? b = some o
  obj : h'.get? x = some (plainExc C t1 (some dx))
  dbig : h.objs.size ≤ dx
  dne : dx ≠ x
  ns : h'.Ns1 dx (two l)
/-- a made BadForm -/
structure OwnMade (h h' : Heap) (e C d : Addr) (l : Value) : Prop where
  keep : ∀ b o, h.get? b = some o → h'.get? b = some o
  new : h.objs.size ≤ e
  obj : ∃ oe vs, h'.get? e = some oe ∧ oe.cls = .ref C ∧ oe.dict = some d ∧ oe.data = .fields vs ∧ vs[1]? = some .none
  dbig : h.objs.size ≤ d
  dne : d ≠ e
  ns : h'.Ns1 d (two l)
section
variable {prog : Program} {w : World} {A : Around} {E : Value → Shared → Prop} {R : Result → Shared → Prop} {s : Shared} {K : Frag} {mg : Str → Option Value} {C fI : Addr}
theorem bf_init (T : BfTxt K mg C fI) {x t0 : Addr} {l : Value} (X : K.In s.heap) (hlim : s.heap.NoLimit) (hx : s.heap.get? x = some (plainExc C t0 none)) (hnx : K.lookup x = none) (hroom : A.depth < recursionLimit)
    (hq : ∀ h' tk dx, InitEnd s.heap h' x C dx t0 l → R (.ok (.ret .none)) { s with heap := h', toks := tk }) :
    codeAny (model prog w) A (.call (.ref fI) ⟨[.ref x, l], []⟩) R s := by
  obtain ⟨oc, od, kV, doc, pm, an, cdv, ct, osl, p1, p2, q1, q2, q3, q4, ho, hcd⟩ := T.fn
  obtain ⟨cd, hcl, hhd⟩ := T.cd
  refine Att.call_fn (binds := [("self", .ref x), ("thing", l)]) X hlim ho hcd hroom (BindsTo.of_eq (by first | rfl | with_unfolding_all rfl)) (by first | rfl | decide | with_unfolding_all rfl) (fun s₁ IC => ?_) rfl rfl rfl
  obtain ⟨h₁, tk₁, rfl⟩ := IC.toInCall.same
  have k : ∀ b o, s.heap.get? b = some o → h₁.get? b = some o := IC.toInCall.keep
  have hn := IC.toInCall.ns
  have hLx : s.heap.objs.size ≠ x := Nat.ne_of_gt (Heap.lt_size hx)
  have X₁ : K.In h₁ := X.keeps k
  have hx₁ := k _ _ hx
  have z : s.heap.objs.size < h₁.objs.size := hn.lt
  -- self.line = line
  show wpAny _ _ (execs _ _) _ _ _
  refine wpAny_execs_cons (plainObj_wpAny_Assign_Attribute ?_)
  refine ldC (v := l) hn (by first | rfl | with_unfolding_all rfl | kernel_rfl) (ldC (v := .ref x) hn (by first | rfl | with_unfolding_all rfl | kernel_rfl) ?_)
  refine set_plain X₁ (ox := plainExc C t0 none) (od := none) ⟨hx₁, rfl, rfl, trivial⟩ T.sa ?_
  refine fld_first X₁ hx₁ T.over hcl hhd T.noT (fun h₂ tk₂ dx k₂ dn dne hx₂ hn₂ => ?_)
  show wpAny _ _ (execs _ _) _ _ _
  exact wpAny_execs_nil (hq h₂ tk₂ dx ⟨fun b o hb e => k₂ b o hb (k b o e), hx₂, Nat.le_of_lt (Nat.lt_of_lt_of_le z dn), dne, hn₂⟩)
theorem bf_made (T : BfTxt K mg C fI) {l : Value} (X : K.In s.heap) (hlim : s.heap.NoLimit) (hroom : A.depth + 1 < recursionLimit)
    (hq : ∀ h' tk e d, OwnMade s.heap h' e C d l → R (.ok (.ret (.ref e))) { s with heap := h', toks := tk }) :
    codeAny (model prog w) A (.call (.ref C) ⟨[l], []⟩) R s := by
  obtain ⟨nm, N, q, bs, bm, hdct, sn, sub, ab, col, dd, k0, k1, k2, k3, k5, hC, hT⟩ := excInit_of X T.exI
  obtain ⟨hp, g, dr, tk, os⟩ := s
  have k : ∀ b o, hp.get? b = some o → ((hp.push (kdv_tup [l])).push (HandSPX.excO C hp.objs.size)).get? b = some o := fun b o e => Heap.get?_push_of_some _ (Heap.get?_push_of_some _ e)
  have hget : ((hp.push (kdv_tup [l])).push (HandSPX.excO C hp.objs.size)).get? (hp.objs.size + 1) = some (HandSPX.excO C hp.objs.size) := by heap_get
  have hnx : K.lookup (hp.objs.size + 1) = none := by
    cases e : K.lookup (hp.objs.size + 1) with
    | none => rfl
    | some o =>
      have z : hp.get? (hp.objs.size + 1) = some o := X _ _ e
      exact absurd (Nat.lt_of_succ_lt (Heap.lt_size z)) (Nat.lt_irrefl _)
  refine HandSPX.call_own PySem.F.excBase_Exception hT hC (looks_findIn X T.iC) (fun self => bind_fn X self T.tC) (one_size l) ?_
  refine bf_init (s := ⟨(hp.push (kdv_tup [l])).push (HandSPX.excO C hp.objs.size), g, dr, tk, os⟩) T (X.keeps k) (hlim.keeps k) hget hnx ?_ fun h' tk' dx ⟨k', hx, dn, dne, hns⟩ => ?_
  · show A.depth + 1 < recursionLimit
    exact hroom
  · have old : ∀ b o, hp.get? b = some o → h'.get? b = some o := fun b o e => k' b o (Nat.ne_of_lt (Nat.lt_succ_of_lt (Heap.lt_size e))) (k b o e)
    have z : hp.objs.size + 1 + 1 ≤ dx := by
      first
        | (simpa only [Heap.size_push] using dn)
        | exact dn
        | (have q := dn; rw [Heap.size_push, Heap.size_push] at q; exact q)
    exact ⟨rfl, hq h' tk' (hp.objs.size + 1) dx ⟨old, Nat.le_succ _, ⟨_, _, hx, rfl, rfl, rfl, rfl⟩, Nat.le_trans (Nat.le_trans (Nat.le_succ _) (Nat.le_succ _)) z, dne, hns⟩⟩
end
end Bf
namespace L2
open PySem PySem.Spec PyProof.Rows
def bfFs (v : V) : List (Str × V) := [("thing", v)]
theorem bf_thing (v : V) : (bfFs v).lookup ("thing" : Str) = some v := by
  unfold bfFs
  simp only [List.lookup, beq_self_eq_true]
theorem bf_rel {v : V} {v' : Value} (r1 : RelV v v') (f : Str) : RelO ((bfFs v).lookup f) (Bf.two v' f) := by
  unfold Bf.two bfFs
  by_cases hc : f = "thing"
  · subst hc
    rw [if_pos rfl]
    have q : List.lookup ("thing" : Str) [(("thing" : Str), v)] = some v := by simp [List.lookup]
    rw [q]
    exact r1
  · rw [if_neg hc]
    have qc : (f == ("thing" : Str)) = false := by simpa using hc
    have q : List.lookup f [(("thing" : Str), v)] = none := by
      simp only [List.lookup, qc]
    rw [q]
    trivial
section
variable {X : Cx} {C fI : Addr}
theorem vals_one {v : V} {us : List Value} (r : Vals [v] us) : ∃ v', us = [v'] ∧ RelV v v' := by
  cases r with
  | cons rv rn =>
    rename_i v' us'
    cases rn
    exact ⟨v', rfl, rv⟩
/-- BadForm(e) -/
def tMkBf (C : Addr) (ta : TA) : St → Hp → XK → Prop := fun σ H Q => ta σ H fun vs H1 => ∃ v, vs = [v] ∧ ∀ d, H1 d = none → Q (.ref C) (some d) (upd H1 d (.xd (bfFs v)))
theorem pmk_bf {a : Expr} {ta : TA} {p pos : Pos} {k : Nat} (T : Bf.BfTxt X.K X.mg C fI) (hr : Room k X.A) (ha : PA X [a] ta) (hg : Gl X "BadForm" := by rfl)
    (he : starEach (a :: []) X.env = (false, eval a X.env) :: starEach [] X.env := by rfl) (hpl : (backTo pos (starEach [] X.env)).any (·.1) = false := by rfl) :
    PMk X (.Call (.Name "BadForm" p) [a] [] pos) (tMkBf C ta) := by
  intro pins s σ H Q I h
  refine wpAny_Call_Name_kw (ld_glob I hg T.gC ?_)
  refine PySem.W.callWith_K (h₀ := X.base) I.ok.mod.kin T.kC (thn (ha.run pos pins s σ H _ I h) fun us s1 hh => ?_) he hpl
  obtain ⟨vs, H1, I1, r1, v, ev, q1⟩ := hh
  subst ev
  refine ⟨I1.kIn, ?_⟩
  obtain ⟨v', rfl, rv⟩ := vals_one r1
  show wpAny _ _ (call (.ref C) [v']) _ _ _
  have hlim := I1.nolimit
  obtain ⟨hp, g, dr, tk, os⟩ := s1
  refine wpAny_call (Bf.bf_made T I1.kIn hlim (by have := hr.dp; omega) fun h' tk' e d M => ?_)
  show MkP X pins σ Q (.ref e) ⟨h', g, dr, tk', os⟩
  obtain ⟨oe, fv, hoe, hc, hd, hdat, h1⟩ := M.obj
  have hns := M.ns
  obtain ⟨G', g1, g2⟩ := restrict h' fun b => decide (b ≠ e)
  have gk : ∀ b, b ≠ e → G'.get? b = h'.get? b := fun b hb => g1 b (decide_eq_true hb)
  have ge : G'.get? e = none := g2 e (by simp)
  have old : ∀ b o, hp.get? b = some o → G'.get? b = some o := fun b o q => (gk b (Nat.ne_of_lt (Nat.lt_of_lt_of_le (Heap.lt_size q) M.new))).trans (M.keep b o q)
  have ob : ObjOk X.prog X.w (upd H1 d (.xd (bfFs v))) G' d (.xd (bfFs v)) :=
    ⟨_, hns.at (fun o q => (gk d M.dne).trans q), fun f => bf_rel rv f⟩
  have J : Inv X pins σ (upd H1 d (.xd (bfFs v))) ⟨G', g, dr, tk', os⟩ := I1.laid (t' := tk') old M.dbig ob
  refine ⟨e, oe, fv, ⟨G', g, dr, tk', os⟩, _, .ref C, some d, rfl, J, fun b o q => ?_, ge, hoe, ⟨hc, hd⟩, hdat, h1, ?_, rfl, I1.bare, raises_own T.exC T.tyC, q1 d (I1.hok.fresh M.dbig)⟩
  · by_cases hb : b = e
    · have q' : G'.get? b = some o := q
      rw [hb, ge] at q'; cases q'
    · exact (gk b hb).symm.trans q
  · rw [upd_ne (Ne.symm M.dne)]
    exact I1.hok.fresh M.new
/-- raise BadForm(e, e') -/
def tRaiseBf (C : Addr) (W : WX) (ta : TA) : TS := fun _ σ H => tMkBf C ta σ H fun cls d H' => W cls d σ H'
theorem ps_raiseBf {a : Expr} {ta : TA} {W : WX} {p pos pos2 : Pos} {k : Nat} (hc : X.calm = true) (T : Bf.BfTxt X.K X.mg C fI) (hr : Room k X.A) (tk : Takes X W) (ha : PA X [a] ta) (hg : Gl X "BadForm" := by rfl)
    (he : starEach (a :: []) X.env = (false, eval a X.env) :: starEach [] X.env := by rfl) (hpl : (backTo pos (starEach [] X.env)).any (·.1) = false := by rfl) :
    PS X (.Raise (some (.Call (.Name "BadForm" p) [a] [] pos)) none pos2) (tRaiseBf C W ta) := ps_raise hc tk (pmk_bf T hr ha hg he hpl)
/-- error.line, error.column, error the exception that the suite holds (at a; its class cls, its dict d) -/
def tFldBf (C : Addr) (f : Str) (a : Addr) (cls : Value) (d : Option Addr) (te : TE) : TE := fun σ H Q => te σ H fun x H1 => x = .ref a ∧ cls = .ref C ∧ ∃ (dd : Addr) (fs : List (Str × V)) (v : V), d = some dd ∧ H1 dd = some (.xd fs) ∧ fs.lookup f = some v ∧ Q v H1
theorem pe_fldBf {f : Str} {a : Addr} {oe : Obj} {cls : Value} {d : Option Addr} {pn : List (Addr × Obj)} {e : Expr} {te : TE} {pos : Pos} (T : Bf.BfTxt X.K X.mg C fI) (hn : PySem.W.findIn X.K (.ref C) f = some none) (hz : Zc cls d oe) (hf : ∃ vs, oe.data = .fields vs) (he : PE (X.suite a ((a, oe) :: pn)) e te)
    (hb : attributeBase e f X.env (eval e X.env) = eval e X.env := by rfl) :
    PE (X.suite a ((a, oe) :: pn)) (.Attribute e f pos) (tFldBf C f a cls d te) := by
  refine ⟨fun pins s σ H Q I h => ?_⟩
  refine attr_of hb (thn (he.run pins s σ H _ I h) fun u s1 hh => ?_)
  obtain ⟨x, H1, I1, rx, ex, ec, dd, fs, v, ed, ea, l, q⟩ := hh
  subst ex
  obtain rfl : u = Value.ref a := rx
  subst ec
  subst ed
  obtain ⟨ha, _⟩ := I1.pin (a, oe) (List.mem_append_left _ List.mem_cons_self)
  obtain ⟨vs, hd⟩ := hf
  have hx : ObjOk X.prog X.w H1 s1.heap dd (.xd fs) := I1.hok dd _ ea
  obtain ⟨mA, hns, hr⟩ := hx
  obtain ⟨od, ho, hl⟩ := lookIn_ns hns
  obtain ⟨u, hu, ru⟩ := RelO.some_of (v := v) (o := mA f) (by rw [← l]; exact hr f)
  have J : PySem.W.InstAt s1.heap a oe C (some od) := ⟨ha, hz.1, by unfold PySem.W.notCls; rw [hd] <;> rfl, by rw [hz.2]; exact ho⟩
  exact HandSPX.exc_get I1.kIn J T.ga T.gg T.exC (PySem.W.findObj_own T.hdC hn rfl (by rw [hl, hu])) (handed_of ru) ⟨v, H1, I1.tok _, ru, q⟩
end
end L2

namespace Kg
open PySem PySem.Spec PyProof.Rows L2
/-- d.get(k, x) of a written dict with int keys: found, or not -/
def tKGetO (d : Addr) (es : Array DictEntry) (td ty tx : TE) : TE := fun σ H Q => td σ H fun x H1 => x = .ref d ∧ ty σ H1 fun y H2 => tx σ H2 fun z H3 => ∃ (k : Int), y = .int k ∧
  ((findBy Value.isInt es k = none ∧ Q z H3) ∨ ∃ (u : Value) (v : V), findBy Value.isInt es k = some u ∧ RelV v u ∧ Q v H3)
theorem pe_kgetO {X : Cx} {o e f : Expr} {apos cpos : Pos} {td ty tx : TE} {d : Addr} {es : Array DictEntry} {n : Nat} (D : KInt X.K d es n) (ho : PE X o td) (he : PE X e ty) (hf : PE X f tx) (m : M2 X o "get" apos e f cpos) :
    PE X (.Call (.Attribute o "get" apos) [e, f] [] cpos) (tKGetO d es td ty tx) := by
  refine ⟨fun pins s σ H Q I hw => ?_⟩
  refine wpAny_Call_method m.base m.few m.line PySem.F.plainAttrs_dict PySem.F.slot_dict_get PySem.F.type_dict_get (thn (ho.run pins s σ H _ I hw) fun u s1 ⟨x, H1, I1, rx, ex, q1⟩ => ?_)
  subst ex
  obtain rfl : u = Value.ref d := rx
  have M1 := D.map (prog := X.prog) (w := X.w) I1.kIn
  refine ⟨M1.typeIs, fun b q => ?_, ?_⟩
  · cases q
    exact ⟨_, I1.kIn _ _ D.at_, rfl⟩
  rw [m.trees]
  refine Calls.callWith_builtin rfl (Calls.evalArgs_plain (Calls.spliced_cons (thn (he.run pins s1 σ H1 _ I1 q1) fun kv s2 ⟨y, H2, I2, ry, q2⟩ =>
    Calls.spliced_cons (thn (hf.run pins s2 σ H2 _ I2 q2) fun fv s3 ⟨z, H3, I3, rz, k, ey, hk⟩ => Calls.spliced_nil ?_))))
  subst ey
  obtain ⟨t, rfl⟩ := ry
  have M3 := D.map (prog := X.prog) (w := X.w) I3.kIn
  rcases hk with ⟨hk, q3⟩ | ⟨u, v, hk, ru, q3⟩
  · refine call_meetsIn PySem.F.slot_dict_get M3.typeIs PySem.F.entry_dict_get (PySem.F.args_dict_get_3 _ _ _) (meets_dict_get_default (intKind X.prog X.w) d (intKind_is _ _ k t) D.low fv) ⟨_, M3, z, H3, I3.tok _, ?_, q3⟩
    rw [hk]
    exact rz
  · refine call_meetsIn PySem.F.slot_dict_get M3.typeIs PySem.F.entry_dict_get (PySem.F.args_dict_get_3 _ _ _) (meets_dict_get_default (intKind X.prog X.w) d (intKind_is _ _ k t) D.low fv) ⟨_, M3, v, H3, I3.tok _, ?_, q3⟩
    rw [hk]
    exact ru
end Kg
namespace L2
open PySem PySem.Spec PyProof.Rows
/-- an f-string of two parts or more, its reading by a name -/
def tJd (ts : List TE) : TE := fun σ H Q => tJs ts Str.empty σ H fun out H1 => Q (.str out) H1
theorem pe_joinedD {X : Cx} {v1 v2 : Expr} {rest : List Expr} {ts : List TE} {pos : Pos} (h : PJ X (v1 :: v2 :: rest) ts) : PE X (.JoinedStr (v1 :: v2 :: rest) pos) (tJd ts) := pe_joined h
end L2
namespace My
open PySem PySem.Spec PyProof.Rows L2
def sp0 (p : Hp → VK → XK → Prop) : Sp := fun vs H Q E => vs = [] ∧ p H Q E
theorem len0 {p} (vs : List V) (H : Hp) (Q : VK) (E : XK) (h : sp0 p vs H Q E) : vs.length = 0 := by rw [h.1]; rfl
def tCallG0 (sp : Sp) (E : XK) : TE := fun _ H Q => sp [] H Q E
theorem pe_g0 {X : Cx} {CX : CXT} {k : Nat} {x : Str} {ps : List Str} {sp : Sp} {E : XK} {p pos : Pos} (h : Gd X.prog X.w X.K X.mg X.base CX k x ps sp) (hr : Room k X.A) (hx : Passes CX X E) (hg : Gl X x := by rfl) (hdb : (x == ("__debug__" : Str)) = false := by decide) : PE X (.Call (.Name x p) [] [] pos) (tCallG0 sp E) := by
  obtain ⟨f, fd, hm, F, hb, hk, _⟩ := h.ex
  have z := pe_call0 (p := p) (pos := pos) F hr hg hm hk hb .nil hx hdb
  exact ⟨fun pins s σ H Q I hw => z.run pins s σ H Q I hw⟩
end My

namespace B6
open PySem PyProof.Rows L2
open Builtin (bitAnd bitOr)
/-! ### words of branches and jumps -/
theorem and_disj : ∀ (k : Nat) (a b : Int), a % 2 ^ k = 0 → 0 ≤ b → b < 2 ^ k → bitAnd a b = 0
  | 0, a, b, _, h0, h1 => by
    have : b = 0 := by
      have : (2 : Int) ^ 0 = 1 := by decide
      omega
    subst this
    exact bitAnd_zero a
  | k + 1, a, b, h, h0, h1 => by
    have e : (2 : Int) ^ (k + 1) = 2 * 2 ^ k := by rw [Int.pow_succ, Int.mul_comm]
    rw [e] at h h1
    have hp : (0 : Int) < 2 ^ k := Int.pow_pos (by decide)
    obtain ⟨q, hq⟩ : ∃ q, a = 2 * 2 ^ k * q := ⟨a / (2 * 2 ^ k), by have := Int.mul_ediv_add_emod a (2 * 2 ^ k); rw [h, Int.add_zero] at this; exact this.symm⟩
    have ha : a % 2 = 0 := by rw [hq, Int.mul_assoc]; exact Int.mul_emod_right _ _
    have ha2 : a / 2 = 2 ^ k * q := by rw [hq, Int.mul_assoc]; exact Int.mul_ediv_cancel_left _ (by decide)
    rw [PySem.W.kbt_halves a b, and_disj k (a / 2) (b / 2) (by rw [ha2]; exact Int.mul_emod_right _ _) (by omega) (by omega), if_neg (by omega)]
    rfl
theorem and_shift : ∀ (k : Nat) (x p : Int), bitAnd x (p * 2 ^ k) = bitAnd (x / 2 ^ k) p * 2 ^ k
  | 0, x, p => by
    have : (2 : Int) ^ 0 = 1 := by decide
    rw [this, Int.mul_one, Int.mul_one, Int.ediv_one]
  | k + 1, x, p => by
    have e : (2 : Int) ^ (k + 1) = 2 ^ k * 2 := Int.pow_succ ..
    have e2 : p * (2 ^ k * 2) = 2 * (p * 2 ^ k) := by rw [← Int.mul_assoc, Int.mul_comm]
    rw [e, e2, PySem.W.kbt_halves, Int.mul_ediv_cancel_left _ (by decide), and_shift k (x / 2) p, if_neg (by omega), Int.ediv_ediv_of_nonneg (by decide), Int.mul_comm 2 ((2 : Int) ^ k), Int.add_zero, Int.mul_comm 2, Int.mul_assoc]
/-- a field where there is nothing yet -/
theorem or_field (m k : Nat) {x p : Int} (h : (x / 2 ^ k) % 2 ^ m = 0) (h0 : 0 ≤ p) (h1 : p < 2 ^ m) : bitOr x (p * 2 ^ k) = x + p * 2 ^ k := by
  rw [bitOr_and, and_shift, and_disj m _ _ h h0 h1, Int.zero_mul, Int.sub_zero]
theorem or_fieldL (m k : Nat) {M D x p : Int} (hM : (2 : Int) ^ m = M) (hD : (2 : Int) ^ k = D) (h : (x / D) % M = 0) (h0 : 0 ≤ p) (h1 : p < M) : bitOr x (p * D) = x + p * D := by
  subst hM hD
  exact or_field m k h h0 h1
theorem p31 : (2 : Int) ^ 31 = 2147483648 := by decide
theorem p25 : (2 : Int) ^ 25 = 33554432 := by decide
theorem p21 : (2 : Int) ^ 21 = 2097152 := by decide
theorem p20 : (2 : Int) ^ 20 = 1048576 := by decide
theorem p15 : (2 : Int) ^ 15 = 32768 := by decide
theorem p12 : (2 : Int) ^ 12 = 4096 := by decide
theorem p11 : (2 : Int) ^ 11 = 2048 := by decide
theorem p10 : (2 : Int) ^ 10 = 1024 := by decide
theorem p8 : (2 : Int) ^ 8 = 256 := by decide
theorem p7 : (2 : Int) ^ 7 = 128 := by decide
theorem p6 : (2 : Int) ^ 6 = 64 := by decide
theorem p5 : (2 : Int) ^ 5 = 32 := by decide
theorem p4 : (2 : Int) ^ 4 = 16 := by decide
theorem p3 : (2 : Int) ^ 3 = 8 := by decide
theorem p1 : (2 : Int) ^ 1 = 2 := by decide
def fin (x l p f : Int) : Int := bitOr (bitOr (bitOr x l) (p * 2 ^ 12)) (f * 2 ^ 25)
def sgn (n h : Int) : Int := if h ≤ n then n - 2 * h else n
def rB (w : Int) : Int := bitOr (bitOr (bitOr (w / 2 ^ 31 * 2 ^ 12) (bitAnd (w / 2 ^ 7) 1 * 2 ^ 11)) (bitAnd (w / 2 ^ 25) 63 * 2 ^ 5)) (bitAnd (w / 2 ^ 8) 15 * 2 ^ 1)
def rJ (w : Int) : Int := bitOr (bitOr (bitOr (w / 2 ^ 31 * 2 ^ 20) (bitAnd (w / 2 ^ 12) 255 * 2 ^ 12)) (bitAnd (w / 2 ^ 20) 1 * 2 ^ 11)) (bitAnd (w / 2 ^ 21) 1023 * 2 ^ 1)
theorem m1 (x : Int) : bitAnd x 1 = x % 2 := bitAnd_m1 x
theorem m4 (x : Int) : bitAnd x 15 = x % 16 := bitAnd_m4 x
theorem m6 (x : Int) : bitAnd x 63 = x % 64 := bitAnd_m6 x
theorem m8 (x : Int) : bitAnd x 255 = x % 256 := bitAnd_m8 x
theorem m10 (x : Int) : bitAnd x 1023 = x % 1024 := PySem.W.kbt_mask x 10
theorem or0 (x : Int) (k : Nat) : bitOr x (0 * 2 ^ k) = x := by rw [Int.zero_mul, bitOr_and, bitAnd_zero, Int.add_zero, Int.sub_zero]
theorem or_low (m : Nat) {x p : Int} (h : x % 2 ^ m = 0) (h0 : 0 ≤ p) (h1 : p < 2 ^ m) : bitOr x p = x + p := by
  have := or_field m 0 (x := x) (p := p) (by rw [show (2 : Int) ^ 0 = 1 from by decide, Int.ediv_one]; exact h) h0 h1
  rw [show (2 : Int) ^ 0 = 1 from by decide, Int.mul_one] at this
  exact this
theorem rB_eq {w f12 f5 f1 f11 : Int} (h12 : 0 ≤ f12 ∧ f12 < 2) (h5 : 0 ≤ f5 ∧ f5 < 64) (h1 : 0 ≤ f1 ∧ f1 < 16) (h11 : 0 ≤ f11 ∧ f11 < 2) (e : w / 2147483648 = f12) (f : w / 128 % 2 = f11) (g : w / 33554432 % 64 = f5) (h : w / 256 % 16 = f1) :
    rB w = f12 * 4096 + f11 * 2048 + f5 * 32 + f1 * 2 := by
  unfold rB
  rw [m1, m4, m6, show w / 2 ^ 31 = f12 from e, show w / 2 ^ 7 % 2 = f11 from f, show w / 2 ^ 25 % 64 = f5 from g, show w / 2 ^ 8 % 16 = f1 from h]
  clear e f g h
  rw [or_field 1 11 (by omega) (by omega) (by omega), or_field 6 5 (by omega) (by omega) (by omega), or_field 4 1 (by omega) (by omega) (by omega)]
  omega
theorem rJ_eq {w f20 f1 f11 f12 : Int} (h20 : 0 ≤ f20 ∧ f20 < 2) (h1 : 0 ≤ f1 ∧ f1 < 1024) (h11 : 0 ≤ f11 ∧ f11 < 2) (h12 : 0 ≤ f12 ∧ f12 < 256) (e : w / 2147483648 = f20) (f : w / 4096 % 256 = f12) (g : w / 1048576 % 2 = f11) (h : w / 2097152 % 1024 = f1) :
    rJ w = f20 * 1048576 + f12 * 4096 + f11 * 2048 + f1 * 2 := by
  unfold rJ
  rw [m1, m8, m10, show w / 2 ^ 31 = f20 from e, show w / 2 ^ 12 % 256 = f12 from f, show w / 2 ^ 20 % 2 = f11 from g, show w / 2 ^ 21 % 1024 = f1 from h]
  clear e f g h
  rw [or_field 8 12 (by omega) (by omega) (by omega), or_field 1 11 (by omega) (by omega) (by omega), or_field 10 1 (by omega) (by omega) (by omega)]
  omega
/-! ### words of the other forms: what is written, as a sum; what is read of it -/
def w3 (one other third : Int) : Int := bitOr (bitOr (third * 2 ^ 20) (other * 2 ^ 15)) (one * 2 ^ 7)
def wN (one other n : Int) : Int := bitOr (bitOr (bitAnd n 4095 * 2 ^ 20) (other * 2 ^ 15)) (one * 2 ^ 7)
def wS (one other n : Int) : Int := bitOr (bitOr (bitOr (bitAnd (n / 2 ^ 5) 127 * 2 ^ 25) (other * 2 ^ 20)) (one * 2 ^ 15)) (bitAnd n 31 * 2 ^ 7)
def wU (one n : Int) : Int := bitOr (n * 2 ^ 12) (one * 2 ^ 7)
theorem m12 (x : Int) : bitAnd x 4095 = x % 4096 := PySem.W.kbt_mask x 12
theorem fin_eq {x l p f : Int} (hx : x % 128 = 0) (h12 : x / 4096 % 8 = 0) (h25 : x / 33554432 % 128 = 0 ∨ f = 0) (h0 : 0 ≤ l ∧ l < 128) (h1 : 0 ≤ p ∧ p < 8) (h2 : 0 ≤ f ∧ f < 128) :
    fin x l p f = x + l + p * 4096 + f * 33554432 := by
  unfold fin
  rw [p12, p25, or_low 7 (p := l) (by rw [p7]; exact hx) (by omega) (by rw [p7]; omega), or_fieldL 3 12 p3 p12 (by omega) (by omega) (by omega)]
  rcases h25 with h | h
  · rw [or_fieldL 7 25 p7 p25 (by omega) (by omega) (by omega)]
  · rw [h, ← p25, or0]; omega
theorem w3_eq {a b c : Int} (ha : 0 ≤ a ∧ a < 32) (hb : 0 ≤ b ∧ b < 32) (hc : 0 ≤ c ∧ c < 32) : w3 a b c = c * 1048576 + b * 32768 + a * 128 := by
  unfold w3
  rw [p20, p15, p7, or_fieldL 5 15 p5 p15 (by omega) (by omega) (by omega), or_fieldL 5 7 p5 p7 (by omega) (by omega) (by omega)]
theorem wN_eq {a b : Int} (ha : 0 ≤ a ∧ a < 32) (hb : 0 ≤ b ∧ b < 32) (n : Int) : wN a b n = n % 4096 * 1048576 + b * 32768 + a * 128 := by
  unfold wN
  rw [m12, p20, p15, p7]
  have hn : 0 ≤ n % 4096 ∧ n % 4096 < 4096 := by omega
  generalize n % 4096 = c at *
  rw [or_fieldL 5 15 p5 p15 (by omega) (by omega) (by omega), or_fieldL 5 7 p5 p7 (by omega) (by omega) (by omega)]
theorem wS_eq {a b : Int} (ha : 0 ≤ a ∧ a < 32) (hb : 0 ≤ b ∧ b < 32) (n : Int) : wS a b n = n / 32 % 128 * 33554432 + b * 1048576 + a * 32768 + n % 32 * 128 := by
  unfold wS
  rw [show bitAnd (n / 2 ^ 5) 127 = n / 2 ^ 5 % 128 from bitAnd_m7 _, bitAnd_m5, p5, p25, p20, p15, p7]
  have h1 : 0 ≤ n / 32 % 128 ∧ n / 32 % 128 < 128 := by omega
  have h2 : 0 ≤ n % 32 ∧ n % 32 < 32 := by omega
  generalize n / 32 % 128 = c at *
  generalize n % 32 = d at *
  rw [or_fieldL 5 20 p5 p20 (by omega) (by omega) (by omega), or_fieldL 5 15 p5 p15 (by omega) (by omega) (by omega), or_fieldL 5 7 p5 p7 (by omega) (by omega) (by omega)]
theorem wU_eq {a n : Int} (ha : 0 ≤ a ∧ a < 32) (hn : 0 ≤ n ∧ n < 1048576) : wU a n = n * 4096 + a * 128 := by
  unfold wU
  rw [p12, p7, or_fieldL 5 7 p5 p7 (by omega) (by omega) (by omega)]
/-- the fields of a word -/
structure Fields (w l rd f3 r1 r2 f7 : Int) : Prop where
  last : w % 128 = l
  rd : w / 128 % 32 = rd
  part : w / 4096 % 8 = f3
  one : w / 32768 % 32 = r1
  two : w / 1048576 % 32 = r2
  first : w / 33554432 = f7
theorem fields {w l rd f3 r1 r2 f7 : Int} (hl : 0 ≤ l ∧ l < 128) (h1 : 0 ≤ rd ∧ rd < 32) (h2 : 0 ≤ f3 ∧ f3 < 8) (h3 : 0 ≤ r1 ∧ r1 < 32) (h4 : 0 ≤ r2 ∧ r2 < 32) (h5 : 0 ≤ f7 ∧ f7 < 128)
    (e : w = f7 * 33554432 + r2 * 1048576 + r1 * 32768 + f3 * 4096 + rd * 128 + l) : Fields w l rd f3 r1 r2 f7 := by
  refine ⟨by omega, by omega, by omega, by omega, by omega, by omega⟩
/-- a word is the sum of its fields -/
theorem whole_eq {w : Int} (h : 0 ≤ w ∧ w < 4294967296) : w = w / 33554432 * 33554432 + w / 1048576 % 32 * 1048576 + w / 32768 % 32 * 32768 + w / 4096 % 8 * 4096 + w / 128 % 32 * 128 + w % 128 := by omega
/-- three registers, or a shift: written, and read again -/
theorem three_back {l p f a b c : Int} (hl : 0 ≤ l ∧ l < 128) (hp : 0 ≤ p ∧ p < 8) (hf : 0 ≤ f ∧ f < 128) (ha : 0 ≤ a ∧ a < 32) (hb : 0 ≤ b ∧ b < 32) (hc : 0 ≤ c ∧ c < 32) :
    fin (w3 a b c) l p f = f * 33554432 + c * 1048576 + b * 32768 + p * 4096 + a * 128 + l := by
  rw [w3_eq ha hb hc, fin_eq (by omega) (by omega) (Or.inl (by omega)) hl hp hf]; omega
/-- a number of twelve bits -/
theorem number_back {l p a b : Int} (hl : 0 ≤ l ∧ l < 128) (hp : 0 ≤ p ∧ p < 8) (ha : 0 ≤ a ∧ a < 32) (hb : 0 ≤ b ∧ b < 32) (n : Int) : fin (wN a b n) l p 0 = n % 4096 * 1048576 + b * 32768 + p * 4096 + a * 128 + l := by
  rw [wN_eq ha hb n, fin_eq (by omega) (by omega) (Or.inr rfl) hl hp (by omega)]; omega
theorem store_back {l p a b : Int} (hl : 0 ≤ l ∧ l < 128) (hp : 0 ≤ p ∧ p < 8) (ha : 0 ≤ a ∧ a < 32) (hb : 0 ≤ b ∧ b < 32) (n : Int) : fin (wS a b n) l p 0 = n / 32 % 128 * 33554432 + b * 1048576 + a * 32768 + p * 4096 + n % 32 * 128 + l := by
  rw [wS_eq ha hb n]
  have h1 : 0 ≤ n / 32 % 128 ∧ n / 32 % 128 < 128 := by omega
  have h2 : 0 ≤ n % 32 ∧ n % 32 < 32 := by omega
  generalize n / 32 % 128 = c at *
  generalize n % 32 = d at *
  rw [fin_eq (by omega) (by omega) (Or.inr rfl) hl hp (by omega)]; omega
theorem upper_back {l a n : Int} (hl : 0 ≤ l ∧ l < 128) (ha : 0 ≤ a ∧ a < 32) (hn : 0 ≤ n ∧ n < 1048576) : bitOr (wU a n) l = n * 4096 + a * 128 + l := by
  rw [wU_eq ha hn, or_low 7 (p := l) (by rw [p7]; omega) (by omega) (by rw [p7]; omega)]
theorem sgn12 {n : Int} (h : -2048 ≤ n ∧ n ≤ 2047) : sgn (n % 4096) 2048 = n := by
  unfold sgn
  split <;> omega
theorem sgn12s {n : Int} (h : -2048 ≤ n ∧ n ≤ 2047) : sgn (n / 32 % 128 * 32 + n % 32) 2048 = n := by
  unfold sgn
  split <;> omega
/-- what is read of twelve bits is a number that goes there again -/
theorem sgn_low {u : Int} (h : 0 ≤ u ∧ u < 4096) : -2048 ≤ sgn u 2048 ∧ sgn u 2048 ≤ 2047 ∧ sgn u 2048 % 4096 = u := by
  unfold sgn
  split <;> omega
end B6

namespace I6
open PySem PyProof.Rows L2 B6
open Builtin (bitAnd bitOr)
/-! ### instructions: names, forms, words -/
inductive Fo where | three | number | shift | store | branch | upper | jump | whole
  deriving DecidableEq
def foS : Fo → Str
  | .three => "three" | .number => "number" | .shift => "shift" | .store => "store" | .branch => "branch" | .upper => "upper" | .jump => "jump" | .whole => "whole"
def nmsS : List String := ["add", "sub", "sll", "slt", "sltu", "xor", "srl", "sra", "or", "and", "mul", "mulh", "mulhsu", "mulhu", "div", "divu", "rem", "remu", "addi", "slti", "sltiu", "xori", "ori", "andi", "slli", "srli", "srai", "lb", "lh", "lw", "lbu", "lhu", "jalr", "sb", "sh", "sw", "beq", "bne", "blt", "bge", "bltu", "bgeu", "lui", "auipc", "jal", "ecall", "ebreak", "fence"]
def fos : List Fo := [.three, .three, .three, .three, .three, .three, .three, .three, .three, .three, .three, .three, .three, .three, .three, .three, .three, .three, .number, .number, .number, .number, .number, .number, .shift, .shift, .shift, .number, .number, .number, .number, .number, .number, .store, .store, .store, .branch, .branch, .branch, .branch, .branch, .branch, .upper, .upper, .jump, .whole, .whole, .whole]
def las : List Int := [51, 51, 51, 51, 51, 51, 51, 51, 51, 51, 51, 51, 51, 51, 51, 51, 51, 51, 19, 19, 19, 19, 19, 19, 19, 19, 19, 3, 3, 3, 3, 3, 103, 35, 35, 35, 99, 99, 99, 99, 99, 99, 55, 23, 111, 115, 115, 15]
def pas : List Int := [0, 0, 1, 2, 3, 4, 5, 5, 6, 7, 0, 1, 2, 3, 4, 5, 6, 7, 0, 2, 3, 4, 6, 7, 1, 5, 5, 0, 1, 2, 4, 5, 0, 0, 1, 2, 0, 1, 4, 5, 6, 7, 0, 0, 0, 115, 1048691, 267386895]
def fis : List Int := [0, 32, 0, 0, 0, 0, 0, 32, 0, 0, 1, 1, 1, 1, 1, 1, 1, 1, 0, 0, 0, 0, 0, 0, 0, 0, 32, 0, 0, 0, 0, 0, 0, 0, 0, 0, 0, 0, 0, 0, 0, 0, 0, 0, 0, 0, 0, 0]
def regsS : List String := ["zero", "ra", "sp", "gp", "tp", "t0", "t1", "t2", "s0", "s1", "a0", "a1", "a2", "a3", "a4", "a5", "a6", "a7", "s2", "s3", "s4", "s5", "s6", "s7", "s8", "s9", "s10", "s11", "t3", "t4", "t5", "t6"]
def nm (o : Nat) : Str := Str.ofString (nmsS.getD o "")
def fo (o : Nat) : Fo := fos.getD o .whole
def la (o : Nat) : Int := las.getD o 0
def pa (o : Nat) : Int := pas.getD o 0
def fi (o : Nat) : Int := fis.getD o 0
def byl (l : Int) : List Nat := (List.range 48).filter fun o => decide (la o = l)
theorem byl_mem {l : Int} {o : Nat} (h : o ∈ byl l) : o < 48 ∧ la o = l := by
  obtain ⟨a, b⟩ := List.mem_filter.mp h
  exact ⟨List.mem_range.mp a, of_decide_eq_true b⟩
abbrev O := Option Int
def isN (x : O) (a b : Int) : Bool := match x with | some i => decide (a ≤ i) && decide (i ≤ b) | none => false
def dist (x : O) (h : Int) : Bool := isN x (-h) (h - 1) && decide (bitAnd (x.getD 0) 1 = 0)
def ok : Fo → O → O → O → Bool
  | .three, x, y, z | .shift, x, y, z => isN x 0 31 && (isN y 0 31 && isN z 0 31)
  | .number, x, y, z | .store, x, y, z => (isN x 0 31 && isN y 0 31) && isN z (-2048) 2047
  | .branch, x, y, z => (isN x 0 31 && isN y 0 31) && dist z 4096
  | .upper, x, y, z => isN x 0 31 && (isN y 0 1048575 && isN z 0 0)
  | .jump, x, y, z => isN x 0 31 && (dist y 1048576 && isN z 0 0)
  | .whole, x, y, z => isN x 0 0 && (isN y 0 0 && isN z 0 0)
def wB (a b d : Int) : Int := bitOr (bitOr (bitOr (bitOr (bitOr (bitAnd (d / 2 ^ 12) 1 * 2 ^ 31) (bitAnd (d / 2 ^ 5) 63 * 2 ^ 25)) (b * 2 ^ 20)) (a * 2 ^ 15)) (bitAnd (d / 2 ^ 1) 15 * 2 ^ 8)) (bitAnd (d / 2 ^ 11) 1 * 2 ^ 7)
def wJ (a d : Int) : Int := bitOr (bitOr (bitOr (bitOr (bitAnd (d / 2 ^ 20) 1 * 2 ^ 31) (bitAnd (d / 2 ^ 1) 1023 * 2 ^ 21)) (bitAnd (d / 2 ^ 11) 1 * 2 ^ 20)) (bitAnd (d / 2 ^ 12) 255 * 2 ^ 12)) (a * 2 ^ 7)
def wr : Fo → Int → Int → Int → Int
  | .three, a, b, c | .shift, a, b, c => w3 a b c
  | .number, a, b, c => wN a b c
  | .store, a, b, c => wS a b c
  | .branch, a, b, c => wB a b c
  | .upper, a, b, _ => wU a b
  | .jump, a, b, _ => wJ a b
  | .whole, _, _, _ => 0
def wordM (o : Nat) (a b c : Int) : Int := if fo o = .whole then pa o else fin (wr (fo o) a b c) (la o) (pa o) (fi o)
def fnd (o : Nat) (w : Int) : Bool := match fo o with
  | .whole => decide (w = pa o)
  | .upper | .jump => true
  | .three | .shift => decide (bitAnd (w / 2 ^ 12) 7 = pa o) && decide (w / 2 ^ 25 = fi o)
  | _ => decide (bitAnd (w / 2 ^ 12) 7 = pa o)
def rd : Fo → Int → Int × Int × Int
  | .three, w | .shift, w => (bitAnd (w / 2 ^ 7) 31, bitAnd (w / 2 ^ 15) 31, bitAnd (w / 2 ^ 20) 31)
  | .number, w => (bitAnd (w / 2 ^ 7) 31, bitAnd (w / 2 ^ 15) 31, sgn (w / 2 ^ 20) 2048)
  | .store, w => (bitAnd (w / 2 ^ 15) 31, bitAnd (w / 2 ^ 20) 31, sgn (bitOr (w / 2 ^ 25 * 2 ^ 5) (bitAnd (w / 2 ^ 7) 31)) 2048)
  | .branch, w => (bitAnd (w / 2 ^ 15) 31, bitAnd (w / 2 ^ 20) 31, sgn (rB w) 4096)
  | .upper, w => (bitAnd (w / 2 ^ 7) 31, w / 2 ^ 12, 0)
  | .jump, w => (bitAnd (w / 2 ^ 7) 31, sgn (rJ w) 1048576, 0)
  | .whole, _ => (0, 0, 0)
def decM (w : Int) : Option Nat := (byl (bitAnd w 127)).find? fun o => fnd o w
theorem isN_i {i a b : Int} (h : isN (some i) a b = true) : a ≤ i ∧ i ≤ b := by
  unfold isN at h
  simpa using h
theorem i_isN {i a b : Int} (h0 : a ≤ i) (h1 : i ≤ b) : isN (some i) a b = true := by
  unfold isN
  simp [h0, h1]
theorem i_dist {d h : Int} (h0 : -h ≤ d) (h1 : d ≤ h - 1) (h2 : d % 2 = 0) : dist (some d) h = true := by
  unfold dist
  rw [i_isN h0 h1, show bitAnd ((some d : O).getD 0) 1 = d % 2 from m1 d, h2]
  rfl
theorem dist_i {d h : Int} (e : dist (some d) h = true) : (-h ≤ d ∧ d ≤ h - 1) ∧ d % 2 = 0 := by
  unfold dist at e
  obtain ⟨a, b⟩ := Bool.and_eq_true_iff.mp e
  refine ⟨isN_i a, ?_⟩
  have := of_decide_eq_true b
  rwa [show bitAnd ((some d : O).getD 0) 1 = d % 2 from m1 d] at this
/-- the table's rows -/
structure Row (o : Nat) : Prop where
  l : 0 ≤ la o ∧ la o < 128
  p : fo o ≠ .whole → 0 ≤ pa o ∧ pa o < 8
  f : 0 ≤ fi o ∧ fi o < 128
  f0 : fo o ≠ .three → fo o ≠ .shift → fi o = 0
  p0 : fo o = .upper ∨ fo o = .jump → pa o = 0
  w : fo o = .whole → 0 ≤ pa o ∧ pa o < 4294967296 ∧ pa o % 128 = la o
theorem row {o : Nat} (h : o < 48) : Row o := by
  have k : ∀ o, o < 48 → (0 ≤ la o ∧ la o < 128) ∧ (fo o ≠ .whole → 0 ≤ pa o ∧ pa o < 8) ∧ (0 ≤ fi o ∧ fi o < 128) ∧ (fo o ≠ .three → fo o ≠ .shift → fi o = 0) ∧ (fo o = .upper ∨ fo o = .jump → pa o = 0) ∧ (fo o = .whole → 0 ≤ pa o ∧ pa o < 4294967296 ∧ pa o % 128 = la o) := by decide +kernel
  obtain ⟨a, b, c, d, e, f⟩ := k o h
  exact ⟨a, b, c, d, e, f⟩
theorem wB_eq {a b l p d : Int} (ha : 0 ≤ a ∧ a < 32) (hb : 0 ≤ b ∧ b < 32) (hl : 0 ≤ l ∧ l < 128) (hp : 0 ≤ p ∧ p < 8) :
    fin (wB a b d) l p 0 = (d / 4096 % 2) * 2147483648 + (d / 32 % 64) * 33554432 + b * 1048576 + a * 32768 + (d / 2 % 16) * 256 + (d / 2048 % 2) * 128 + l + p * 4096 := by
  unfold fin wB
  rw [m1, m1, m4, m6, or0, p31, p25, p20, p15, p12, p11, p8, p7, p5, p1]
  have h12 : 0 ≤ d / 4096 % 2 ∧ d / 4096 % 2 < 2 := by omega
  have h5 : 0 ≤ d / 32 % 64 ∧ d / 32 % 64 < 64 := by omega
  have h1 : 0 ≤ d / 2 % 16 ∧ d / 2 % 16 < 16 := by omega
  have h11 : 0 ≤ d / 2048 % 2 ∧ d / 2048 % 2 < 2 := by omega
  generalize d / 4096 % 2 = f12 at *
  generalize d / 32 % 64 = f5 at *
  generalize d / 2 % 16 = f1 at *
  generalize d / 2048 % 2 = f11 at *
  rw [or_fieldL 6 25 p6 p25 (by omega) (by omega) (by omega), or_fieldL 5 20 p5 p20 (by omega) (by omega) (by omega), or_fieldL 5 15 p5 p15 (by omega) (by omega) (by omega), or_fieldL 4 8 p4 p8 (by omega) (by omega) (by omega), or_fieldL 1 7 p1 p7 (by omega) (by omega) (by omega)]
  rw [or_low 7 (p := l) (by rw [p7]; omega) (by omega) (by rw [p7]; omega), or_fieldL 3 12 p3 p12 (by omega) (by omega) (by omega)]
theorem wJ_eq {a l d : Int} (ha : 0 ≤ a ∧ a < 32) (hl : 0 ≤ l ∧ l < 128) :
    fin (wJ a d) l 0 0 = (d / 1048576 % 2) * 2147483648 + (d / 2 % 1024) * 2097152 + (d / 2048 % 2) * 1048576 + (d / 4096 % 256) * 4096 + a * 128 + l := by
  unfold fin wJ
  rw [m1, m1, m8, m10, or0, or0, p31, p21, p20, p12, p11, p7, p1]
  have h20 : 0 ≤ d / 1048576 % 2 ∧ d / 1048576 % 2 < 2 := by omega
  have h1 : 0 ≤ d / 2 % 1024 ∧ d / 2 % 1024 < 1024 := by omega
  have h11 : 0 ≤ d / 2048 % 2 ∧ d / 2048 % 2 < 2 := by omega
  have h12 : 0 ≤ d / 4096 % 256 ∧ d / 4096 % 256 < 256 := by omega
  generalize d / 1048576 % 2 = f20 at *
  generalize d / 2 % 1024 = f1 at *
  generalize d / 2048 % 2 = f11 at *
  generalize d / 4096 % 256 = f12 at *
  rw [or_fieldL 10 21 p10 p21 (by omega) (by omega) (by omega), or_fieldL 1 20 p1 p20 (by omega) (by omega) (by omega), or_fieldL 8 12 p8 p12 (by omega) (by omega) (by omega), or_fieldL 5 7 p5 p7 (by omega) (by omega) (by omega)]
  rw [or_low 7 (p := l) (by rw [p7]; omega) (by omega) (by rw [p7]; omega)]
theorem fin_upper {a n l : Int} (ha : 0 ≤ a ∧ a < 32) (hn : 0 ≤ n ∧ n < 1048576) (hl : 0 ≤ l ∧ l < 128) : fin (wU a n) l 0 0 = n * 4096 + a * 128 + l := by
  unfold fin
  rw [or0, or0, upper_back hl ha hn]
theorem sBk {x y : Int} (hx : 0 ≤ x ∧ x < 128) (hy : 0 ≤ y ∧ y < 32) : bitOr (x * 2 ^ 5) y = x * 32 + y := by
  rw [p5, or_low 5 (p := y) (by rw [p5]; omega) (by omega) (by rw [p5]; omega)]
/-- the word as a number of fields, for a right instruction -/
def okI (f : Fo) (a b c : Int) : Prop := match f with
  | .three | .shift => (0 ≤ a ∧ a < 32) ∧ (0 ≤ b ∧ b < 32) ∧ (0 ≤ c ∧ c < 32)
  | .number | .store => (0 ≤ a ∧ a < 32) ∧ (0 ≤ b ∧ b < 32) ∧ (-2048 ≤ c ∧ c ≤ 2047)
  | .branch => (0 ≤ a ∧ a < 32) ∧ (0 ≤ b ∧ b < 32) ∧ (-4096 ≤ c ∧ c ≤ 4095) ∧ c % 2 = 0
  | .upper => (0 ≤ a ∧ a < 32) ∧ (0 ≤ b ∧ b < 1048576) ∧ c = 0
  | .jump => (0 ≤ a ∧ a < 32) ∧ ((-1048576 ≤ b ∧ b ≤ 1048575) ∧ b % 2 = 0) ∧ c = 0
  | .whole => a = 0 ∧ b = 0 ∧ c = 0
theorem ok_of {f : Fo} {a b c : Int} (h : okI f a b c) : ok f (some a) (some b) (some c) = true := by
  cases f <;> simp only [okI] at h <;> simp only [ok, Bool.and_eq_true]
  · exact ⟨i_isN (by omega) (by omega), i_isN (by omega) (by omega), i_isN (by omega) (by omega)⟩
  · exact ⟨⟨i_isN (by omega) (by omega), i_isN (by omega) (by omega)⟩, i_isN (by omega) (by omega)⟩
  · exact ⟨i_isN (by omega) (by omega), i_isN (by omega) (by omega), i_isN (by omega) (by omega)⟩
  · exact ⟨⟨i_isN (by omega) (by omega), i_isN (by omega) (by omega)⟩, i_isN (by omega) (by omega)⟩
  · exact ⟨⟨i_isN (by omega) (by omega), i_isN (by omega) (by omega)⟩, i_dist (by omega) (by omega) (by omega)⟩
  · exact ⟨i_isN (by omega) (by omega), i_isN (by omega) (by omega), i_isN (by omega) (by omega)⟩
  · exact ⟨i_isN (by omega) (by omega), i_dist (by omega) (by omega) (by omega), i_isN (by omega) (by omega)⟩
  · exact ⟨i_isN (by omega) (by omega), i_isN (by omega) (by omega), i_isN (by omega) (by omega)⟩
theorem of_ok {f : Fo} {x y z : O} (h : ok f x y z = true) : ∃ a b c, x = some a ∧ y = some b ∧ z = some c ∧ okI f a b c := by
  have nn : ∀ {p q : Int}, isN none p q = true → False := fun q => by cases q
  have nd : ∀ {p : Int}, dist none p = true → False := fun q => by cases q
  cases f <;> simp only [ok, Bool.and_eq_true] at h <;> cases x <;> cases y <;> cases z <;> (try (exfalso; rcases h with ⟨⟨h1, h2⟩, h3⟩; first | exact nn h1 | exact nn h2 | exact nn h3 | exact nd h3)) <;> (try (exfalso; rcases h with ⟨h1, h2, h3⟩; first | exact nn h1 | exact nn h2 | exact nd h2 | exact nn h3))
  all_goals rename_i a b c
  all_goals refine ⟨a, b, c, rfl, rfl, rfl, ?_⟩
  all_goals simp only [okI]
  · obtain ⟨h1, h2, h3⟩ := h; have := isN_i h1; have := isN_i h2; have := isN_i h3; omega
  · obtain ⟨⟨h1, h2⟩, h3⟩ := h; have := isN_i h1; have := isN_i h2; have := isN_i h3; omega
  · obtain ⟨h1, h2, h3⟩ := h; have := isN_i h1; have := isN_i h2; have := isN_i h3; omega
  · obtain ⟨⟨h1, h2⟩, h3⟩ := h; have := isN_i h1; have := isN_i h2; have := isN_i h3; omega
  · obtain ⟨⟨h1, h2⟩, h3⟩ := h; have := isN_i h1; have := isN_i h2; have := dist_i h3; omega
  · obtain ⟨h1, h2, h3⟩ := h; have := isN_i h1; have := isN_i h2; have := isN_i h3; omega
  · obtain ⟨h1, h2, h3⟩ := h; have := isN_i h1; have := dist_i h2; have := isN_i h3; omega
  · obtain ⟨h1, h2, h3⟩ := h; have := isN_i h1; have := isN_i h2; have := isN_i h3; omega
/-- what a word tells is right, and has this word -/
structure Told (o : Nat) (w a b c : Int) : Prop where
  good : okI (fo o) a b c
  word : wordM o a b c = w
theorem m5 (x : Int) : bitAnd x 31 = x % 32 := bitAnd_m5 x
theorem m7 (x : Int) : bitAnd x 127 = x % 128 := bitAnd_m7 x
theorem m3 (x : Int) : bitAnd x 7 = x % 8 := bitAnd_m3 x
theorem sgn12f {f g : Int} (hf : 0 ≤ f ∧ f < 128) (hg : 0 ≤ g ∧ g < 32) {d : Int} (e : d = sgn (f * 32 + g) 2048) : (-2048 ≤ d ∧ d ≤ 2047) ∧ d / 32 % 128 = f ∧ d % 32 = g := by
  unfold sgn at e
  split at e <;> refine ⟨⟨by omega, by omega⟩, by omega, by omega⟩
theorem sgn13 {f12 f11 f5 f1 : Int} (h12 : 0 ≤ f12 ∧ f12 < 2) (h5 : 0 ≤ f5 ∧ f5 < 64) (h1 : 0 ≤ f1 ∧ f1 < 16) (h11 : 0 ≤ f11 ∧ f11 < 2) {d : Int} (e : d = sgn (f12 * 4096 + f11 * 2048 + f5 * 32 + f1 * 2) 4096) :
    (-4096 ≤ d ∧ d ≤ 4095) ∧ d % 2 = 0 ∧ d / 4096 % 2 = f12 ∧ d / 2048 % 2 = f11 ∧ d / 32 % 64 = f5 ∧ d / 2 % 16 = f1 := by
  unfold sgn at e
  split at e <;> refine ⟨⟨by omega, by omega⟩, by omega, by omega, by omega, by omega, by omega⟩
theorem sgn21 {f20 f12 f11 f1 : Int} (h20 : 0 ≤ f20 ∧ f20 < 2) (h12 : 0 ≤ f12 ∧ f12 < 256) (h11 : 0 ≤ f11 ∧ f11 < 2) (h1 : 0 ≤ f1 ∧ f1 < 1024) {d : Int} (e : d = sgn (f20 * 1048576 + f12 * 4096 + f11 * 2048 + f1 * 2) 1048576) :
    (-1048576 ≤ d ∧ d ≤ 1048575) ∧ d % 2 = 0 ∧ d / 1048576 % 2 = f20 ∧ d / 4096 % 256 = f12 ∧ d / 2048 % 2 = f11 ∧ d / 2 % 1024 = f1 := by
  unfold sgn at e
  split at e <;> refine ⟨⟨by omega, by omega⟩, by omega, by omega, by omega, by omega, by omega⟩
theorem told {o : Nat} {w : Int} (ho : o < 48) (h : 0 ≤ w ∧ w < 4294967296) (hl : w % 128 = la o) (hf : fnd o w = true) : Told o w (rd (fo o) w).1 (rd (fo o) w).2.1 (rd (fo o) w).2.2 := by
  have R := row ho
  have e7 : w / 2 ^ 7 % 32 = w / 128 % 32 := by rw [p7]
  have e12 : w / 2 ^ 12 % 8 = w / 4096 % 8 := by rw [p12]
  unfold fnd at hf
  cases e : fo o with
  | three =>
    rw [e] at hf
    dsimp only at hf
    obtain ⟨f1, f2⟩ := Bool.and_eq_true_iff.mp hf
    have f1 := of_decide_eq_true f1
    have f2 := of_decide_eq_true f2
    rw [m3, p12] at f1
    rw [p25] at f2
    have rp := R.p (by rw [e]; exact fun z => by cases z)
    have rf := R.f
    have rl := R.l
    dsimp only [rd]
    rw [m5, m5, m5, p7, p15, p20]
    refine ⟨by rw [e]; exact ⟨by omega, by omega, by omega⟩, ?_⟩
    unfold wordM
    rw [e, if_neg (by intro z; cases z)]
    dsimp only [wr]
    rw [three_back rl rp rf (by omega) (by omega) (by omega)]
    omega
  | shift =>
    rw [e] at hf
    dsimp only at hf
    obtain ⟨f1, f2⟩ := Bool.and_eq_true_iff.mp hf
    have f1 := of_decide_eq_true f1
    have f2 := of_decide_eq_true f2
    rw [m3, p12] at f1
    rw [p25] at f2
    have rp := R.p (by rw [e]; exact fun z => by cases z)
    have rf := R.f
    have rl := R.l
    dsimp only [rd]
    rw [m5, m5, m5, p7, p15, p20]
    refine ⟨by rw [e]; exact ⟨by omega, by omega, by omega⟩, ?_⟩
    unfold wordM
    rw [e, if_neg (by intro z; cases z)]
    dsimp only [wr]
    rw [three_back rl rp rf (by omega) (by omega) (by omega)]
    omega
  | number =>
    rw [e] at hf
    dsimp only at hf
    have f1 := of_decide_eq_true hf
    rw [m3, p12] at f1
    have rp := R.p (by rw [e]; exact fun z => by cases z)
    have rf := R.f0 (by rw [e]; exact fun z => by cases z) (by rw [e]; exact fun z => by cases z)
    have rl := R.l
    dsimp only [rd]
    rw [m5, m5, p7, p15, p20]
    have sl := sgn_low (u := w / 1048576) (by omega)
    refine ⟨by rw [e]; exact ⟨by omega, by omega, by omega⟩, ?_⟩
    unfold wordM
    rw [e, if_neg (by intro z; cases z)]
    dsimp only [wr]
    rw [rf, number_back rl rp (by omega) (by omega)]
    omega
  | store =>
    rw [e] at hf
    dsimp only at hf
    have f1 := of_decide_eq_true hf
    rw [m3, p12] at f1
    have rp := R.p (by rw [e]; exact fun z => by cases z)
    have rf := R.f0 (by rw [e]; exact fun z => by cases z) (by rw [e]; exact fun z => by cases z)
    have rl := R.l
    dsimp only [rd]
    rw [m5, m5, m5, p7, p15, p20, p25, sBk (by omega) (by omega)]
    obtain ⟨k0, k1, k2⟩ := sgn12f (f := w / 33554432) (g := w / 128 % 32) (by omega) (by omega) rfl
    refine ⟨by rw [e]; exact ⟨by omega, by omega, k0⟩, ?_⟩
    unfold wordM
    rw [e, if_neg (by intro z; cases z)]
    dsimp only [wr]
    rw [rf, store_back rl rp (by omega) (by omega), k1, k2]
    clear k0 k1 k2
    omega
  | branch =>
    rw [e] at hf
    dsimp only at hf
    have f1 := of_decide_eq_true hf
    rw [m3, p12] at f1
    have rp := R.p (by rw [e]; exact fun z => by cases z)
    have rf := R.f0 (by rw [e]; exact fun z => by cases z) (by rw [e]; exact fun z => by cases z)
    have rl := R.l
    dsimp only [rd]
    rw [m5, m5, p15, p20, rB_eq (w := w) (by omega) (by omega) (by omega) (by omega) rfl rfl rfl rfl]
    obtain ⟨k0, k1, k2, k3, k4, k5⟩ := sgn13 (f12 := w / 2147483648) (f5 := w / 33554432 % 64) (f1 := w / 256 % 16) (f11 := w / 128 % 2) (by omega) (by omega) (by omega) (by omega) rfl
    refine ⟨by rw [e]; exact ⟨by omega, by omega, k0, k1⟩, ?_⟩
    unfold wordM
    rw [e, if_neg (by intro z; cases z)]
    dsimp only [wr]
    rw [rf, wB_eq (by omega) (by omega) rl rp, k2, k3, k4, k5]
    clear k0 k1 k2 k3 k4 k5
    have g1 : w / 33554432 = w / 2147483648 * 64 + w / 33554432 % 64 := by omega
    have g2 : w / 128 % 32 = w / 256 % 16 * 2 + w / 128 % 2 := by omega
    have g3 := whole_eq h
    rw [f1, hl] at g3
    generalize w / 33554432 % 64 = q1 at *
    generalize w / 2147483648 = q2 at *
    generalize w / 33554432 = q3 at *
    generalize w / 256 % 16 = q4 at *
    generalize w / 128 % 2 = q5 at *
    omega
  | upper =>
    have rf := R.f0 (by rw [e]; exact fun z => by cases z) (by rw [e]; exact fun z => by cases z)
    have rp := R.p0 (.inl e)
    have rl := R.l
    dsimp only [rd]
    rw [m5, p7, p12]
    refine ⟨by rw [e]; exact ⟨by omega, by omega, rfl⟩, ?_⟩
    unfold wordM
    rw [e, if_neg (by intro z; cases z)]
    dsimp only [wr]
    rw [rf, rp, fin_upper (by omega) (by omega) rl]
    omega
  | jump =>
    have rf := R.f0 (by rw [e]; exact fun z => by cases z) (by rw [e]; exact fun z => by cases z)
    have rp := R.p0 (.inr e)
    have rl := R.l
    dsimp only [rd]
    rw [m5, p7, rJ_eq (w := w) (by omega) (by omega) (by omega) (by omega) rfl rfl rfl rfl]
    obtain ⟨k0, k1, k2, k3, k4, k5⟩ := sgn21 (f20 := w / 2147483648) (f12 := w / 4096 % 256) (f11 := w / 1048576 % 2) (f1 := w / 2097152 % 1024) (by omega) (by omega) (by omega) (by omega) rfl
    refine ⟨by rw [e]; exact ⟨by omega, ⟨k0, k1⟩, rfl⟩, ?_⟩
    unfold wordM
    rw [e, if_neg (by intro z; cases z)]
    dsimp only [wr]
    rw [rf, rp, wJ_eq (by omega) rl, k2, k3, k4, k5]
    clear k0 k1 k2 k3 k4 k5
    have g1 : w = w / 4096 * 4096 + w / 128 % 32 * 128 + w % 128 := by omega
    have g2 : w / 4096 = w / 1048576 * 256 + w / 4096 % 256 := by omega
    have g3 : w / 1048576 = w / 2097152 * 2 + w / 1048576 % 2 := by omega
    have g4 : w / 2097152 = w / 2147483648 * 1024 + w / 2097152 % 1024 := by omega
    rw [hl] at g1
    generalize w / 128 % 32 = q1 at *
    generalize w / 4096 % 256 = q2 at *
    generalize w / 1048576 % 2 = q3 at *
    generalize w / 2097152 % 1024 = q4 at *
    generalize w / 4096 = q5 at *
    generalize w / 1048576 = q6 at *
    generalize w / 2097152 = q7 at *
    generalize w / 2147483648 = q8 at *
    omega
  | whole =>
    rw [e] at hf
    dsimp only at hf
    have f1 := of_decide_eq_true hf
    refine ⟨by rw [e]; exact ⟨rfl, rfl, rfl⟩, ?_⟩
    unfold wordM
    rw [e, if_pos rfl, f1]

/-! ### which words are told -/
def known (w : Int) : Bool :=
  if w % 128 = 55 ∨ w % 128 = 23 ∨ w % 128 = 111 then true
  else if w % 128 = 51 then decide (w / 33554432 = 0 ∨ w / 33554432 = 1) || (decide (w / 33554432 = 32) && decide (w / 4096 % 8 = 0 ∨ w / 4096 % 8 = 5))
  else if w % 128 = 19 then (!decide (w / 4096 % 8 = 1 ∨ w / 4096 % 8 = 5)) || (decide (w / 33554432 = 0) || (decide (w / 4096 % 8 = 5) && decide (w / 33554432 = 32)))
  else if w % 128 = 3 then decide (w / 4096 % 8 = 0 ∨ w / 4096 % 8 = 1 ∨ w / 4096 % 8 = 2 ∨ w / 4096 % 8 = 4 ∨ w / 4096 % 8 = 5)
  else if w % 128 = 103 then decide (w / 4096 % 8 = 0)
  else if w % 128 = 35 then decide (w / 4096 % 8 < 3)
  else if w % 128 = 99 then !decide (w / 4096 % 8 = 2 ∨ w / 4096 % 8 = 3)
  else decide (w = 115 ∨ w = 1048691 ∨ w = 267386895)
/-- what fnd asks, by the fields -/
def fq (o : Nat) (w t s : Int) : Bool := match fo o with
  | .whole => decide (w = pa o)
  | .upper | .jump => true
  | .three | .shift => decide (t = pa o) && decide (s = fi o)
  | _ => decide (t = pa o)
theorem fnd_fq (o : Nat) (w : Int) : fnd o w = fq o w (w / 4096 % 8) (w / 33554432) := by
  unfold fnd fq
  rw [m3, p12, p25]
theorem find_any {p : Nat → Bool} : ∀ (l : List Nat), (l.find? p).isSome = l.any p
  | [] => rfl
  | a :: l => by
    rw [List.any_cons, List.find?_cons]
    cases e : p a with
    | true => rfl
    | false => rw [Bool.false_or]; exact find_any l
theorem b51 : byl 51 = [0, 1, 2, 3, 4, 5, 6, 7, 8, 9, 10, 11, 12, 13, 14, 15, 16, 17] := by decide +kernel
theorem b19 : byl 19 = [18, 19, 20, 21, 22, 23, 24, 25, 26] := by decide +kernel
theorem b3 : byl 3 = [27, 28, 29, 30, 31] := by decide +kernel
theorem b103 : byl 103 = [32] := by decide +kernel
theorem b35 : byl 35 = [33, 34, 35] := by decide +kernel
theorem b99 : byl 99 = [36, 37, 38, 39, 40, 41] := by decide +kernel
theorem b55 : byl 55 = [42] := by decide +kernel
theorem b23 : byl 23 = [43] := by decide +kernel
theorem b111 : byl 111 = [44] := by decide +kernel
theorem b115 : byl 115 = [45, 46] := by decide +kernel
theorem b15 : byl 15 = [47] := by decide +kernel
theorem bno {l : Int} (h : l ≠ 51 ∧ l ≠ 19 ∧ l ≠ 3 ∧ l ≠ 103 ∧ l ≠ 35 ∧ l ≠ 99 ∧ l ≠ 55 ∧ l ≠ 23 ∧ l ≠ 111 ∧ l ≠ 115 ∧ l ≠ 15) : byl l = [] := by
  have k : ∀ o, o < 48 → la o ∈ ([51, 19, 3, 103, 35, 99, 55, 23, 111, 115, 15] : List Int) := by decide +kernel
  cases e : byl l with
  | nil => rfl
  | cons o r =>
    obtain ⟨h1, h2⟩ := byl_mem (l := l) (o := o) (by rw [e]; exact List.mem_cons_self)
    have := k o h1
    rw [h2] at this
    simp only [List.mem_cons, List.not_mem_nil, or_false] at this
    omega
theorem known_is {w : Int} (h : 0 ≤ w ∧ w < 4294967296) : (decM w).isSome = known w := by
  unfold decM
  rw [m7, find_any]
  simp only [fnd_fq]
  unfold known
  have ht : w / 4096 % 8 = 0 ∨ w / 4096 % 8 = 1 ∨ w / 4096 % 8 = 2 ∨ w / 4096 % 8 = 3 ∨ w / 4096 % 8 = 4 ∨ w / 4096 % 8 = 5 ∨ w / 4096 % 8 = 6 ∨ w / 4096 % 8 = 7 := by omega
  by_cases c55 : w % 128 = 55
  · rw [c55, b55]; rfl
  by_cases c23 : w % 128 = 23
  · rw [c23, b23]; rfl
  by_cases c111 : w % 128 = 111
  · rw [c111, b111]; rfl
  rw [if_neg (by omega)]
  generalize hs : w / 33554432 = s at *
  generalize w / 4096 % 8 = t at *
  by_cases c51 : w % 128 = 51
  · rw [if_pos c51, c51, b51]
    rcases ht with e | e | e | e | e | e | e | e <;> subst e <;> by_cases s0 : s = 0 <;> by_cases s1 : s = 1 <;> by_cases s2 : s = 32 <;> simp [fq, fo, fos, pa, pas, fi, fis, s0, s1, s2] <;> (try omega)
  rw [if_neg c51]
  by_cases c19 : w % 128 = 19
  · rw [if_pos c19, c19, b19]
    rcases ht with e | e | e | e | e | e | e | e <;> subst e <;> by_cases s0 : s = 0 <;> by_cases s2 : s = 32 <;> simp [fq, fo, fos, pa, pas, fi, fis, s0, s2] <;> (try omega)
  rw [if_neg c19]
  by_cases c3 : w % 128 = 3
  · rw [if_pos c3, c3, b3]
    rcases ht with e | e | e | e | e | e | e | e <;> subst e <;> rfl
  rw [if_neg c3]
  by_cases c103 : w % 128 = 103
  · rw [if_pos c103, c103, b103]
    rcases ht with e | e | e | e | e | e | e | e <;> subst e <;> rfl
  rw [if_neg c103]
  by_cases c35 : w % 128 = 35
  · rw [if_pos c35, c35, b35]
    rcases ht with e | e | e | e | e | e | e | e <;> subst e <;> rfl
  rw [if_neg c35]
  by_cases c99 : w % 128 = 99
  · rw [if_pos c99, c99, b99]
    rcases ht with e | e | e | e | e | e | e | e <;> subst e <;> rfl
  rw [if_neg c99]
  by_cases c115 : w % 128 = 115
  · rw [c115, b115]
    by_cases e1 : w = 115 <;> by_cases e2 : w = 1048691 <;> simp [fq, fo, fos, pa, pas, e1, e2] <;> (try omega)
  by_cases c15 : w % 128 = 15
  · rw [c15, b15]
    by_cases e1 : w = 267386895 <;> simp [fq, fo, fos, pa, pas, e1] <;> (try omega)
  rw [bno ⟨c51, c19, c3, c103, c35, c99, c55, c23, c111, c115, c15⟩]
  symm
  rw [List.any_nil]
  refine decide_eq_false ?_
  omega
/-- what decode tells -/
theorem dec_told {w : Int} (h : 0 ≤ w ∧ w < 4294967296) {o : Nat} (e : decM w = some o) : o < 48 ∧ Told o w (rd (fo o) w).1 (rd (fo o) w).2.1 (rd (fo o) w).2.2 := by
  unfold decM at e
  obtain ⟨ho, hl⟩ := byl_mem (List.mem_of_find?_eq_some e)
  rw [m7] at hl
  exact ⟨ho, told ho h hl.symm (by simpa using List.find?_some e)⟩
end I6

namespace I6
open PySem PyProof.Rows L2 B6 TL NumText
open Builtin.Str (strSub)
/-! ### texts of instructions -/
def posOf : List Str → Str → Option Nat
  | [], _ => none
  | x :: r, s => if x = s then some 0 else (posOf r s).map (· + 1)
theorem posOf_some : ∀ {l : List Str} {s : Str} {j : Nat}, posOf l s = some j → l[j]? = some s ∧ ∀ m, m < j → l[m]? ≠ some s
  | [], s, j, h => by cases h
  | x :: r, s, j, h => by
    unfold posOf at h
    by_cases c : x = s
    · rw [if_pos c] at h
      injection h with h
      subst h c
      exact ⟨rfl, fun m hm => absurd hm (Nat.not_lt_zero _)⟩
    · rw [if_neg c] at h
      cases e : posOf r s with
      | none => rw [e] at h; cases h
      | some k =>
        rw [e] at h
        injection h with h
        subst h
        obtain ⟨a, b⟩ := posOf_some e
        refine ⟨a, fun m hm => ?_⟩
        cases m with
        | zero => intro z; injection z with z; exact c z
        | succ m => exact b m (by have : m + 1 < k + 1 := hm; omega)
theorem posOf_none : ∀ {l : List Str} {s : Str}, posOf l s = none → s ∉ l
  | [], s, _ => by simp
  | x :: r, s, h => by
    unfold posOf at h
    by_cases c : x = s
    · rw [if_pos c] at h; cases h
    · rw [if_neg c] at h
      cases e : posOf r s with
      | none =>
        intro m
        rcases List.mem_cons.mp m with m | m
        · exact c m.symm
        · exact posOf_none e m
      | some k => rw [e] at h; cases h
theorem posOf_lt {l : List Str} {s : Str} {j : Nat} (h : posOf l s = some j) : j < l.length := (List.getElem?_eq_some_iff.mp (posOf_some h).1).1
def regs : List Str := regsS.map Str.ofString
def nms : List Str := nmsS.map Str.ofString
def loads : List Str := ["lb", "lh", "lw", "lbu", "lhu"]
def rg (i : Int) : Str := regs.getD i.toNat Str.empty
def num (i : Int) : Str := (toString i : String)
def regO (t : Str) : O := (posOf regs t).map fun j => (j : Int)
def digs (t : Str) : Bool := (tl t).all fun c => decide (48 ≤ c ∧ c ≤ 57)
def numO (t : Str) : O := if Txt.removeprefix t "-" = Str.empty ∨ 8 < t.length ∨ digs (Txt.removeprefix t "-") = false then none else intText? t
theorem nm_pos : ∀ o, o < 48 → posOf nms (nm o) = some o := by decide +kernel
theorem nm_get {o : Nat} (h : o < 48) : nms[o]? = some (nm o) := (posOf_some (nm_pos o h)).1
theorem pos_nm {s : Str} {o : Nat} (h : posOf nms s = some o) : o < 48 ∧ s = nm o := by
  have h1 : o < 48 := posOf_lt h
  refine ⟨h1, ?_⟩
  have := (posOf_some h).1
  rw [nm_get h1] at this
  injection this with this
  exact this.symm
theorem rg_pos' : ∀ i, i < 32 → posOf regs (regs.getD i Str.empty) = some i := by decide +kernel
theorem regO_rg {i : Int} (h : 0 ≤ i ∧ i < 32) : regO (rg i) = some i := by
  unfold regO rg
  rw [rg_pos' i.toNat (by omega)]
  show some ((i.toNat : Nat) : Int) = some i
  rw [Int.toNat_of_nonneg h.1]
theorem rg_get {i : Int} (h : 0 ≤ i ∧ i < 32) : regs[i.toNat]? = some (rg i) := (posOf_some (rg_pos' i.toNat (by omega))).1
theorem nm_low : ∀ o, o < 48 → ∀ c, c ∈ tl (nm o) → 97 ≤ c ∧ c ≤ 122 := by
  have k : ∀ o, o < 48 → (tl (nm o)).all (fun c => decide (97 ≤ c ∧ c ≤ 122)) = true := by decide +kernel
  intro o h c hc
  exact of_decide_eq_true (List.all_eq_true.mp (k o h) c hc)
theorem nm_len : ∀ o, o < 48 → (tl (nm o)).length ≤ 6 ∧ 0 < (tl (nm o)).length := by decide +kernel
theorem rg_low {i : Int} (h : 0 ≤ i ∧ i < 32) : ∀ c, c ∈ tl (rg i) → (97 ≤ c ∧ c ≤ 122) ∨ (48 ≤ c ∧ c ≤ 57) := by
  have k : ∀ i, i < 32 → (tl (regs.getD i Str.empty)).all (fun c => decide ((97 ≤ c ∧ c ≤ 122) ∨ (48 ≤ c ∧ c ≤ 57))) = true := by decide +kernel
  intro c hc
  exact of_decide_eq_true (List.all_eq_true.mp (k i.toNat (by omega)) c hc)
theorem rg_len {i : Int} (h : 0 ≤ i ∧ i < 32) : (tl (rg i)).length ≤ 4 ∧ 0 < (tl (rg i)).length := by
  have k : ∀ i, i < 32 → (tl (regs.getD i Str.empty)).length ≤ 4 ∧ 0 < (tl (regs.getD i Str.empty)).length := by decide +kernel
  exact k i.toNat (by omega)
theorem tl_pos {i : Int} (h : 0 ≤ i) : tl (num i) = numL i.toNat := by
  obtain ⟨n, rfl⟩ := Int.eq_ofNat_of_zero_le h
  exact tl_num n
theorem tl_neg {i : Int} (h : i < 0) : tl (num i) = 45 :: numL (-i).toNat := by
  obtain ⟨m, rfl⟩ := Int.eq_negSucc_of_lt_zero h
  have e : toString (Int.negSucc m) = "-" ++ toString ((m + 1 : Nat) : Int) := rfl
  show tl (Str.ofString (toString (Int.negSucc m))) = _
  rw [e, tl_ofString, String.toList_append, List.map_append, ← tl_ofString, ← tl_ofString, tl_num]
  rfl
theorem num_chars {i : Int} : ∀ c, c ∈ tl (num i) → c = 45 ∨ (48 ≤ c ∧ c ≤ 57) := by
  intro c hc
  by_cases h : 0 ≤ i
  · rw [tl_pos h] at hc
    exact .inr (numL_digits _ c hc)
  · rw [tl_neg (by omega)] at hc
    rcases List.mem_cons.mp hc with hc | hc
    · exact .inl hc
    · exact .inr (numL_digits _ c hc)
theorem num_len {i : Int} (h : -10000000 < i ∧ i < 10000000) : (tl (num i)).length ≤ 8 := by
  by_cases c : 0 ≤ i
  · rw [tl_pos c]
    have := numL_len (n := i.toNat) (k := 7) (by decide) (by have : (10 : Nat) ^ 7 = 10000000 := by decide
                                                             omega)
    omega
  · rw [tl_neg (by omega), List.length_cons]
    have := numL_len (n := (-i).toNat) (k := 7) (by decide) (by have : (10 : Nat) ^ 7 = 10000000 := by decide
                                                                omega)
    omega
theorem minus_tl : tl ("-" : Str) = [45] := by decide +kernel
theorem open_tl : tl ("(" : Str) = [40] := by decide +kernel
theorem close_tl : tl (")" : Str) = [41] := by decide +kernel
theorem blank_tl : tl (" " : Str) = [32] := by decide +kernel
theorem sep_tl : tl (", " : Str) = [44, 32] := by decide +kernel
theorem tl_empty : tl Str.empty = [] := rfl
theorem subAt_tl (x y : Str) (i : Nat) : Builtin.Str.subAt x y i = decide (((tl x).drop i).take (tl y).length = tl y) := by
  unfold Builtin.Str.subAt
  have e : (x.cps.extract i (i + y.length)).toList = ((tl x).drop i).take (tl y).length := by
    rw [Array.toList_extract, List.extract_eq_drop_take]
    show List.take (i + y.length - i) (List.drop i (tl x)) = _
    rw [len_tl, Nat.add_sub_cancel_left]
  by_cases c : ((tl x).drop i).take (tl y).length = tl y
  · rw [decide_eq_true c]
    rw [beq_iff_eq]
    apply Array.toList_inj.mp
    rw [e]; exact c
  · rw [decide_eq_false c]
    rw [beq_eq_false_iff_ne]
    intro z
    apply c
    rw [← e, z]
theorem removeprefix_tl (x y : Str) : tl (Txt.removeprefix x y) = if (tl x).take (tl y).length = tl y then (tl x).drop (tl y).length else tl x := by
  unfold Txt.removeprefix
  rw [subAt_tl, List.drop_zero]
  by_cases c : (tl x).take (tl y).length = tl y
  · rw [if_pos c, if_pos (decide_eq_true c)]
    show tl (if (x.length - y.length == x.length) = true then x else strSub x y.length x.length) = _
    split
    · rename_i h
      have h := of_decide_eq_true h
      have hl : (tl y).length = 0 ∨ (tl x).length = 0 := by rw [len_tl x, len_tl y] at h; omega
      rcases hl with hl | hl
      · rw [hl]; rfl
      · have : tl x = [] := List.length_eq_zero_iff.mp hl
        rw [this]; simp
    · rw [tl_strSub_end, len_tl y]
  · rw [if_neg c, if_neg (by simpa using c)]
    rfl
theorem removesuffix_tl (x y : Str) : tl (Txt.removesuffix x y) = if (tl y).length ≤ (tl x).length ∧ (tl x).drop ((tl x).length - (tl y).length) = tl y then (tl x).take ((tl x).length - (tl y).length) else tl x := by
  unfold Txt.removesuffix
  rw [subAt_tl, len_tl x, len_tl y]
  have e : List.take (tl y).length (List.drop ((tl x).length - (tl y).length) (tl x)) = List.drop ((tl x).length - (tl y).length) (tl x) ∨ ¬ (tl y).length ≤ (tl x).length := by
    by_cases h : (tl y).length ≤ (tl x).length
    · left
      apply List.take_of_length_le
      rw [List.length_drop]; omega
    · exact .inr h
  rcases e with e | e
  · rw [e]
    by_cases c : (tl y).length ≤ (tl x).length ∧ (tl x).drop ((tl x).length - (tl y).length) = tl y
    · rw [if_pos c, if_pos (by simpa using c)]
      show tl (if ((tl x).length - (tl y).length - 0 == x.length) = true then x else strSub x 0 ((tl x).length - (tl y).length)) = _
      split
      · rename_i h
        have h := of_decide_eq_true h
        rw [len_tl x, Nat.sub_zero] at h
        rw [List.take_of_length_le (by omega)]
      · rw [tl_strSub, List.drop_zero, Nat.sub_zero]
    · rw [if_neg c, if_neg (by simpa using c)]
      rfl
  · rw [if_neg (show ¬ (_ && _) = true from by rw [Bool.and_eq_true_iff]; exact fun z => e (of_decide_eq_true z.1)), if_neg (fun z => e z.1)]
    rfl
theorem int_neg {i : Int} (h : i < 0) (hl : (tl (num i)).length ≤ 8) : intText? (num i) = some i := by
  have e := intText_neg (x := num i) (cs := numL (-i).toNat) (tl_neg h) (numL_digits _) (numL_ne _) (by rw [len_tl]; omega)
  rw [numL_val] at e
  rw [e]
  congr 1
  omega
theorem int_of {i : Int} (h : -10000000 < i ∧ i < 10000000) : intText? (num i) = some i := by
  by_cases c : 0 ≤ i
  · obtain ⟨n, rfl⟩ := Int.eq_ofNat_of_zero_le c
    refine int_num ?_
    have := num_len h
    rw [tl_pos c] at this
    exact Nat.le_trans this (by decide)
  · exact int_neg (by omega) (num_len h)
theorem str_ne {x : Str} (h : tl x ≠ []) : x ≠ Str.empty := fun z => h (by rw [z]; rfl)
theorem numO_num {i : Int} (h : -10000000 < i ∧ i < 10000000) : numO (num i) = some i := by
  unfold numO
  have e : tl (Txt.removeprefix (num i) "-") = numL i.natAbs := by
    rw [removeprefix_tl, minus_tl]
    by_cases c : 0 ≤ i
    · rw [tl_pos c, show i.toNat = i.natAbs by omega, if_neg]
      intro z
      have := numL_digits i.natAbs 45 (by
        have : [45] = List.take [45].length (numL i.natAbs) := z.symm
        have m : 45 ∈ List.take [45].length (numL i.natAbs) := by rw [← this]; simp
        exact List.mem_of_mem_take m)
      omega
    · rw [tl_neg (by omega), if_pos (show List.take [45].length (45 :: numL (-i).toNat) = [45] from rfl), show (-i).toNat = i.natAbs by omega]
      rfl
  rw [if_neg, int_of h]
  rintro (z | z | z)
  · have : tl (Txt.removeprefix (num i) "-") = [] := by rw [z]; rfl
    rw [e] at this
    exact numL_ne _ this
  · rw [len_tl] at z
    have := num_len h
    omega
  · unfold digs at z
    rw [e] at z
    have : (numL i.natAbs).all (fun c => decide (48 ≤ c ∧ c ≤ 57)) = true := List.all_eq_true.mpr fun c hc => decide_eq_true (numL_digits _ c hc)
    rw [this] at z
    cases z
def isLd (o : Nat) : Bool := decide (27 ≤ o) && decide (o ≤ 31)
def txM (o : Nat) (a b c : Int) : Str := match fo o with
  | .whole => nm o
  | .store => Str.empty ++ nm o ++ " " ++ rg b ++ ", " ++ num c ++ "(" ++ rg a ++ ")"
  | .upper | .jump => Str.empty ++ nm o ++ " " ++ rg a ++ ", " ++ num b
  | .three => Str.empty ++ nm o ++ " " ++ rg a ++ ", " ++ rg b ++ ", " ++ rg c
  | .number => if isLd o = true then Str.empty ++ nm o ++ " " ++ rg a ++ ", " ++ num c ++ "(" ++ rg b ++ ")" else Str.empty ++ nm o ++ " " ++ rg a ++ ", " ++ rg b ++ ", " ++ num c
  | .shift | .branch => Str.empty ++ nm o ++ " " ++ rg a ++ ", " ++ rg b ++ ", " ++ num c
def nmI (t : Str) : Option Fo := (posOf nms t).map fo
def partsM (t : Str) : V × O × O × O :=
  if nmI (Txt.partition t " ").1 = some .whole then (.str (Txt.partition t " ").1, some 0, some 0, some 0)
  else if nmI (Txt.partition t " ").1 = some .store ∨ (Txt.partition t " ").1 ∈ loads then
    (if nmI (Txt.partition t " ").1 = some .store then
      (.str (Txt.partition t " ").1, regO (Txt.removesuffix (Txt.partition ((Txt.split (Txt.partition t " ").2.2 ", ").getLastD Str.empty) "(").2.2 ")"), regO ((Txt.split (Txt.partition t " ").2.2 ", ").headD Str.empty), numO (Txt.partition ((Txt.split (Txt.partition t " ").2.2 ", ").getLastD Str.empty) "(").1)
    else (.str (Txt.partition t " ").1, regO ((Txt.split (Txt.partition t " ").2.2 ", ").headD Str.empty), regO (Txt.removesuffix (Txt.partition ((Txt.split (Txt.partition t " ").2.2 ", ").getLastD Str.empty) "(").2.2 ")"), numO (Txt.partition ((Txt.split (Txt.partition t " ").2.2 ", ").getLastD Str.empty) "(").1))
  else if nmI (Txt.partition t " ").1 = some .upper ∨ nmI (Txt.partition t " ").1 = some .jump then
    (.str (Txt.partition t " ").1, regO ((Txt.split (Txt.partition t " ").2.2 ", ").headD Str.empty), numO ((Txt.split (Txt.partition t " ").2.2 ", ").getLastD Str.empty), some 0)
  else if nmI (Txt.partition t " ").1 = none ∨ (Txt.split (Txt.partition t " ").2.2 ", ").length ≠ 3 then (.non, some 0, some 0, some 0)
  else (.str (Txt.partition t " ").1, regO ((Txt.split (Txt.partition t " ").2.2 ", ").headD Str.empty), regO ((Txt.split (Txt.partition t " ").2.2 ", ").getD 1 Str.empty),
    if nmI (Txt.partition t " ").1 = some .three then regO ((Txt.split (Txt.partition t " ").2.2 ", ").getD 2 Str.empty) else numO ((Txt.split (Txt.partition t " ").2.2 ", ").getD 2 Str.empty))
theorem fr_rg {i : Int} (h : 0 ≤ i ∧ i < 32) {c : Nat} (hc : c < 48) : c ∉ tl (rg i) := fun m => by have := rg_low h c m; omega
theorem fr_num {i : Int} {c : Nat} (hc : c < 45) : c ∉ tl (num i) := fun m => by have := num_chars c m; omega
theorem fr_nm {o : Nat} (h : o < 48) : 32 ∉ tl (nm o) := fun m => by have := nm_low o h 32 m; omega
theorem app_assoc (a b c : Str) : a ++ b ++ c = a ++ (b ++ c) := ext_tl (by rw [tl_append, tl_append, tl_append, tl_append, List.append_assoc])
theorem emp_app (a : Str) : Str.empty ++ a = a := ext_tl (by rw [tl_append]; rfl)
theorem cut_first {o : Nat} (h : o < 48) (r : Str) : Txt.partition (Str.empty ++ nm o ++ " " ++ r) " " = (nm o, ((" " : Str), r)) := by
  rw [emp_app]
  exact partition_app blank_tl (fr_nm h)
theorem cut_none {o : Nat} (h : o < 48) : Txt.partition (nm o) " " = (nm o, Str.empty, Str.empty) := partition_none blank_tl (fr_nm h)
theorem split2 {a b : Str} (ha : 44 ∉ tl a) (hb : 44 ∉ tl b) : Txt.split (a ++ ", " ++ b) ", " = [a, b] := by
  have := split_join (y := ", ") sep_tl (by decide +kernel) (parts := [a, b]) (by simp) (fun p hp => by
    simp only [List.mem_cons, List.not_mem_nil, or_false] at hp
    rcases hp with e | e <;> subst e <;> assumption)
  rw [join_eq] at this
  exact this
theorem split3 {a b c : Str} (ha : 44 ∉ tl a) (hb : 44 ∉ tl b) (hc : 44 ∉ tl c) : Txt.split (a ++ ", " ++ b ++ ", " ++ c) ", " = [a, b, c] := by
  have := split_join (y := ", ") sep_tl (by decide +kernel) (parts := [a, b, c]) (by simp) (fun p hp => by
    simp only [List.mem_cons, List.not_mem_nil, or_false] at hp
    rcases hp with e | e | e <;> subst e <;> assumption)
  rw [join_eq] at this
  rw [show a ++ ", " ++ b ++ ", " ++ c = Str.join ", " [a, b, c] from by
    show a ++ ", " ++ b ++ ", " ++ c = a ++ ", " ++ (b ++ ", " ++ c)
    rw [app_assoc (a ++ ", ") b, app_assoc (a ++ ", "), ]]
  exact this
theorem close_rg {i : Int} (h : 0 ≤ i ∧ i < 32) : Txt.removesuffix (rg i ++ ")") ")" = rg i := by
  refine ext_tl ?_
  rw [removesuffix_tl, close_tl, tl_append, close_tl, List.length_append]
  have e : (tl (rg i)).length + [41].length - [41].length = (tl (rg i)).length := Nat.add_sub_cancel _ _
  rw [e, List.drop_left, List.take_left, if_pos ⟨Nat.le_add_left _ _, rfl⟩]
theorem cut_num {n : Int} (r : Str) : Txt.partition (num n ++ "(" ++ r) "(" = (num n, (("(" : Str), r)) := partition_app open_tl (fr_num (by decide))
theorem ld_fo : ∀ o, o < 48 → (nm o ∈ loads ↔ isLd o = true) := by decide +kernel
theorem st_ld : ∀ o, o < 48 → isLd o = true → fo o = .number := by decide +kernel
/-- what is written is read again -/
theorem back {o : Nat} (ho : o < 48) {a b c : Int} (h : okI (fo o) a b c) : partsM (txM o a b c) = (.str (nm o), some a, some b, some c) := by
  have hf : nmI (nm o) = some (fo o) := by unfold nmI; rw [nm_pos o ho]; rfl
  have nl : fo o ≠ .number → ¬ nm o ∈ loads := fun z m => z (st_ld o ho ((ld_fo o ho).mp m))
  have hmem : ∀ {d1 d2 : Int}, fo o = .number → isLd o = true → -2048 ≤ d1 ∧ d1 ≤ 2047 → True := fun _ _ _ => trivial
  unfold txM
  cases e : fo o with
  | whole =>
    rw [e] at h hf
    obtain ⟨rfl, rfl, rfl⟩ := h
    dsimp only
    unfold partsM
    rw [cut_none ho]
    dsimp only
    rw [hf, if_pos rfl]
  | store =>
    rw [e] at h hf
    obtain ⟨ha, hb, hc⟩ := h
    dsimp only
    rw [show Str.empty ++ nm o ++ " " ++ rg b ++ ", " ++ num c ++ "(" ++ rg a ++ ")" = Str.empty ++ nm o ++ " " ++ (rg b ++ ", " ++ (num c ++ "(" ++ (rg a ++ ")"))) from by simp only [app_assoc]]
    unfold partsM
    rw [cut_first ho]
    dsimp only
    rw [split2 (fr_rg hb (by decide)) (by
      rw [tl_append, tl_append, tl_append, open_tl, close_tl]
      simp only [List.mem_append, List.mem_singleton]
      rintro ((m | m) | m | m)
      · exact fr_num (by decide) m
      · cases m
      · exact fr_rg ha (by decide) m
      · cases m), hf, if_neg (by intro z; cases z), if_pos (Or.inl rfl), if_pos rfl]
    rw [show ([rg b, num c ++ "(" ++ (rg a ++ ")")] : List Str).getLastD Str.empty = num c ++ "(" ++ (rg a ++ ")") from rfl, cut_num]
    show (V.str (nm o), regO (Txt.removesuffix (rg a ++ ")") ")"), regO (rg b), numO (num c)) = _
    rw [close_rg ha, regO_rg ha, regO_rg hb, numO_num (by omega)]
  | upper =>
    rw [e] at h hf
    obtain ⟨ha, hb, rfl⟩ := h
    dsimp only
    rw [show Str.empty ++ nm o ++ " " ++ rg a ++ ", " ++ num b = Str.empty ++ nm o ++ " " ++ (rg a ++ ", " ++ num b) from by simp only [app_assoc]]
    unfold partsM
    rw [cut_first ho]
    dsimp only
    rw [split2 (fr_rg ha (by decide)) (fr_num (by decide)), hf, if_neg (by intro z; cases z), if_neg (by rintro (z | z); cases z; exact nl (by rw [e]; intro z; cases z) z), if_pos (Or.inl rfl)]
    rw [show ([rg a, num b] : List Str).getLastD Str.empty = num b from rfl, show ([rg a, num b] : List Str).headD Str.empty = rg a from rfl, regO_rg ha, numO_num (by omega)]
  | jump =>
    rw [e] at h hf
    obtain ⟨ha, hb, rfl⟩ := h
    dsimp only
    rw [show Str.empty ++ nm o ++ " " ++ rg a ++ ", " ++ num b = Str.empty ++ nm o ++ " " ++ (rg a ++ ", " ++ num b) from by simp only [app_assoc]]
    unfold partsM
    rw [cut_first ho]
    dsimp only
    rw [split2 (fr_rg ha (by decide)) (fr_num (by decide)), hf, if_neg (by intro z; cases z), if_neg (by rintro (z | z); cases z; exact nl (by rw [e]; intro z; cases z) z), if_pos (Or.inr rfl)]
    rw [show ([rg a, num b] : List Str).getLastD Str.empty = num b from rfl, show ([rg a, num b] : List Str).headD Str.empty = rg a from rfl, regO_rg ha, numO_num (by omega)]
  | three =>
    rw [e] at h hf
    obtain ⟨ha, hb, hc⟩ := h
    dsimp only
    rw [show Str.empty ++ nm o ++ " " ++ rg a ++ ", " ++ rg b ++ ", " ++ rg c = Str.empty ++ nm o ++ " " ++ (rg a ++ ", " ++ rg b ++ ", " ++ rg c) from by simp only [app_assoc]]
    unfold partsM
    rw [cut_first ho]
    dsimp only
    rw [split3 (fr_rg ha (by decide)) (fr_rg hb (by decide)) (fr_rg hc (by decide)), hf, if_neg (by intro z; cases z), if_neg (by rintro (z | z); cases z; exact nl (by rw [e]; intro z; cases z) z), if_neg (by rintro (z | z) <;> cases z), if_neg (by rintro (z | z); cases z; exact z rfl), if_pos rfl]
    show (V.str (nm o), regO (rg a), regO (rg b), regO (rg c)) = _
    rw [regO_rg ha, regO_rg hb, regO_rg hc]
  | shift =>
    rw [e] at h hf
    obtain ⟨ha, hb, hc⟩ := h
    dsimp only
    rw [show Str.empty ++ nm o ++ " " ++ rg a ++ ", " ++ rg b ++ ", " ++ num c = Str.empty ++ nm o ++ " " ++ (rg a ++ ", " ++ rg b ++ ", " ++ num c) from by simp only [app_assoc]]
    unfold partsM
    rw [cut_first ho]
    dsimp only
    rw [split3 (fr_rg ha (by decide)) (fr_rg hb (by decide)) (fr_num (by decide)), hf, if_neg (by intro z; cases z), if_neg (by rintro (z | z); cases z; exact nl (by rw [e]; intro z; cases z) z), if_neg (by rintro (z | z) <;> cases z), if_neg (by rintro (z | z); cases z; exact z rfl), if_neg (by intro z; cases z)]
    show (V.str (nm o), regO (rg a), regO (rg b), numO (num c)) = _
    rw [regO_rg ha, regO_rg hb, numO_num (by omega)]
  | branch =>
    rw [e] at h hf
    obtain ⟨ha, hb, hc⟩ := h
    dsimp only
    rw [show Str.empty ++ nm o ++ " " ++ rg a ++ ", " ++ rg b ++ ", " ++ num c = Str.empty ++ nm o ++ " " ++ (rg a ++ ", " ++ rg b ++ ", " ++ num c) from by simp only [app_assoc]]
    unfold partsM
    rw [cut_first ho]
    dsimp only
    rw [split3 (fr_rg ha (by decide)) (fr_rg hb (by decide)) (fr_num (by decide)), hf, if_neg (by intro z; cases z), if_neg (by rintro (z | z); cases z; exact nl (by rw [e]; intro z; cases z) z), if_neg (by rintro (z | z) <;> cases z), if_neg (by rintro (z | z); cases z; exact z rfl), if_neg (by intro z; cases z)]
    show (V.str (nm o), regO (rg a), regO (rg b), numO (num c)) = _
    rw [regO_rg ha, regO_rg hb, numO_num (by omega)]
  | number =>
    rw [e] at h hf
    obtain ⟨ha, hb, hc⟩ := h
    dsimp only
    by_cases cl : isLd o = true
    · rw [if_pos cl]
      rw [show Str.empty ++ nm o ++ " " ++ rg a ++ ", " ++ num c ++ "(" ++ rg b ++ ")" = Str.empty ++ nm o ++ " " ++ (rg a ++ ", " ++ (num c ++ "(" ++ (rg b ++ ")"))) from by simp only [app_assoc]]
      unfold partsM
      rw [cut_first ho]
      dsimp only
      rw [split2 (fr_rg ha (by decide)) (by
        rw [tl_append, tl_append, tl_append, open_tl, close_tl]
        simp only [List.mem_append, List.mem_singleton]
        rintro ((m | m) | m | m)
        · exact fr_num (by decide) m
        · cases m
        · exact fr_rg hb (by decide) m
        · cases m), hf, if_neg (by intro z; cases z), if_pos (Or.inr ((ld_fo o ho).mpr cl)), if_neg (by intro z; cases z)]
      rw [show ([rg a, num c ++ "(" ++ (rg b ++ ")")] : List Str).getLastD Str.empty = num c ++ "(" ++ (rg b ++ ")") from rfl, cut_num]
      show (V.str (nm o), regO (rg a), regO (Txt.removesuffix (rg b ++ ")") ")"), numO (num c)) = _
      rw [close_rg hb, regO_rg ha, regO_rg hb, numO_num (by omega)]
    · rw [if_neg cl]
      rw [show Str.empty ++ nm o ++ " " ++ rg a ++ ", " ++ rg b ++ ", " ++ num c = Str.empty ++ nm o ++ " " ++ (rg a ++ ", " ++ rg b ++ ", " ++ num c) from by simp only [app_assoc]]
      unfold partsM
      rw [cut_first ho]
      dsimp only
      rw [split3 (fr_rg ha (by decide)) (fr_rg hb (by decide)) (fr_num (by decide)), hf, if_neg (by intro z; cases z), if_neg (by rintro (z | z); cases z; exact cl ((ld_fo o ho).mp z)), if_neg (by rintro (z | z) <;> cases z), if_neg (by rintro (z | z); cases z; exact z rfl), if_neg (by intro z; cases z)]
      show (V.str (nm o), regO (rg a), regO (rg b), numO (num c)) = _
      rw [regO_rg ha, regO_rg hb, numO_num (by omega)]
end I6

namespace I6
open PySem PyProof.Rows L2 B6
open Builtin (bitAnd bitOr)
/-! ### written, then read -/
theorem sgn13r {d : Int} (h : -4096 ≤ d ∧ d ≤ 4095) (e : d % 2 = 0) : sgn (d / 4096 % 2 * 4096 + d / 2048 % 2 * 2048 + d / 32 % 64 * 32 + d / 2 % 16 * 2) 4096 = d := by
  unfold sgn
  split <;> omega
theorem sgn21r {d : Int} (h : -1048576 ≤ d ∧ d ≤ 1048575) (e : d % 2 = 0) : sgn (d / 1048576 % 2 * 1048576 + d / 4096 % 256 * 4096 + d / 2048 % 2 * 2048 + d / 2 % 1024 * 2) 1048576 = d := by
  unfold sgn
  split <;> omega
/-- what the word of a right instruction tells -/
structure Back (o : Nat) (w : Int) (a b c : Int) : Prop where
  rng : 0 ≤ w ∧ w < 4294967296
  last : w % 128 = la o
  found : fnd o w = true
  read : rd (fo o) w = (a, b, c)
theorem written {o : Nat} (ho : o < 48) {a b c : Int} (h : okI (fo o) a b c) : Back o (wordM o a b c) a b c := by
  have R := row ho
  have rl := R.l
  have rf := R.f
  cases e : fo o with
  | three =>
    rw [e] at h
    obtain ⟨ha, hb, hc⟩ := h
    have rp := R.p (by rw [e]; exact fun z => by cases z)
    have ew : wordM o a b c = fi o * 33554432 + c * 1048576 + b * 32768 + pa o * 4096 + a * 128 + la o := by
      unfold wordM
      rw [e, if_neg (by intro z; cases z)]
      exact three_back rl rp rf ha hb hc
    rw [ew]
    generalize hw : fi o * 33554432 + c * 1048576 + b * 32768 + pa o * 4096 + a * 128 + la o = w
    have F := fields (w := w) rl ha rp hb hc rf (by omega)
    refine ⟨by omega, F.last, ?_, ?_⟩
    · unfold fnd
      rw [e]
      dsimp only
      rw [m3, p12, p25, F.part, F.first, decide_eq_true rfl, decide_eq_true rfl]; rfl
    · rw [e]
      show (bitAnd (w / 2 ^ 7) 31, bitAnd (w / 2 ^ 15) 31, bitAnd (w / 2 ^ 20) 31) = _
      rw [m5, m5, m5, p7, p15, p20, F.rd, F.one, F.two]
  | shift =>
    rw [e] at h
    obtain ⟨ha, hb, hc⟩ := h
    have rp := R.p (by rw [e]; exact fun z => by cases z)
    have ew : wordM o a b c = fi o * 33554432 + c * 1048576 + b * 32768 + pa o * 4096 + a * 128 + la o := by
      unfold wordM
      rw [e, if_neg (by intro z; cases z)]
      exact three_back rl rp rf ha hb hc
    rw [ew]
    generalize hw : fi o * 33554432 + c * 1048576 + b * 32768 + pa o * 4096 + a * 128 + la o = w
    have F := fields (w := w) rl ha rp hb hc rf (by omega)
    refine ⟨by omega, F.last, ?_, ?_⟩
    · unfold fnd
      rw [e]
      dsimp only
      rw [m3, p12, p25, F.part, F.first, decide_eq_true rfl, decide_eq_true rfl]; rfl
    · rw [e]
      show (bitAnd (w / 2 ^ 7) 31, bitAnd (w / 2 ^ 15) 31, bitAnd (w / 2 ^ 20) 31) = _
      rw [m5, m5, m5, p7, p15, p20, F.rd, F.one, F.two]
  | number =>
    rw [e] at h
    obtain ⟨ha, hb, hc⟩ := h
    have rp := R.p (by rw [e]; exact fun z => by cases z)
    have f0 := R.f0 (by rw [e]; exact fun z => by cases z) (by rw [e]; exact fun z => by cases z)
    have ew : wordM o a b c = c % 4096 * 1048576 + b * 32768 + pa o * 4096 + a * 128 + la o := by
      unfold wordM
      rw [e, if_neg (by intro z; cases z), f0]
      exact number_back rl rp ha hb c
    rw [ew]
    generalize hw : c % 4096 * 1048576 + b * 32768 + pa o * 4096 + a * 128 + la o = w
    have g1 : w % 128 = la o ∧ w / 128 % 32 = a ∧ w / 4096 % 8 = pa o ∧ w / 32768 % 32 = b ∧ w / 1048576 = c % 4096 := by
      have : 0 ≤ c % 4096 ∧ c % 4096 < 4096 := by omega
      generalize c % 4096 = q at *
      refine ⟨by omega, by omega, by omega, by omega, by omega⟩
    refine ⟨by omega, g1.1, ?_, ?_⟩
    · unfold fnd
      rw [e]
      dsimp only
      rw [m3, p12, g1.2.2.1, decide_eq_true rfl]
    · rw [e]
      show (bitAnd (w / 2 ^ 7) 31, bitAnd (w / 2 ^ 15) 31, sgn (w / 2 ^ 20) 2048) = _
      rw [m5, m5, p7, p15, p20, g1.2.1, g1.2.2.2.1, g1.2.2.2.2, sgn12 hc]
  | store =>
    rw [e] at h
    obtain ⟨ha, hb, hc⟩ := h
    have rp := R.p (by rw [e]; exact fun z => by cases z)
    have f0 := R.f0 (by rw [e]; exact fun z => by cases z) (by rw [e]; exact fun z => by cases z)
    have ew : wordM o a b c = c / 32 % 128 * 33554432 + b * 1048576 + a * 32768 + pa o * 4096 + c % 32 * 128 + la o := by
      unfold wordM
      rw [e, if_neg (by intro z; cases z), f0]
      exact store_back rl rp ha hb c
    rw [ew]
    have r1 : 0 ≤ c / 32 % 128 ∧ c / 32 % 128 < 128 := by omega
    have r2 : 0 ≤ c % 32 ∧ c % 32 < 32 := by omega
    have hs := sgn12s hc
    generalize c / 32 % 128 = q1 at *
    generalize c % 32 = q2 at *
    generalize hw : q1 * 33554432 + b * 1048576 + a * 32768 + pa o * 4096 + q2 * 128 + la o = w
    have F := fields (w := w) rl r2 rp ha hb r1 (by omega)
    refine ⟨by omega, F.last, ?_, ?_⟩
    · unfold fnd
      rw [e]
      dsimp only
      rw [m3, p12, F.part, decide_eq_true rfl]
    · rw [e]
      show (bitAnd (w / 2 ^ 15) 31, bitAnd (w / 2 ^ 20) 31, sgn (bitOr (w / 2 ^ 25 * 2 ^ 5) (bitAnd (w / 2 ^ 7) 31)) 2048) = _
      rw [m5, m5, m5, p7, p15, p20, p25, F.rd, F.one, F.two, F.first, sBk r1 r2, hs]
  | branch =>
    rw [e] at h
    obtain ⟨ha, hb, hc, he⟩ := h
    have rp := R.p (by rw [e]; exact fun z => by cases z)
    have f0 := R.f0 (by rw [e]; exact fun z => by cases z) (by rw [e]; exact fun z => by cases z)
    have ew : wordM o a b c = (c / 4096 % 2) * 2147483648 + (c / 32 % 64) * 33554432 + b * 1048576 + a * 32768 + (c / 2 % 16) * 256 + (c / 2048 % 2) * 128 + la o + pa o * 4096 := by
      unfold wordM
      rw [e, if_neg (by intro z; cases z), f0]
      exact wB_eq ha hb rl rp
    rw [ew]
    have hs := sgn13r hc he
    have r1 : 0 ≤ c / 4096 % 2 ∧ c / 4096 % 2 < 2 := by omega
    have r2 : 0 ≤ c / 32 % 64 ∧ c / 32 % 64 < 64 := by omega
    have r3 : 0 ≤ c / 2 % 16 ∧ c / 2 % 16 < 16 := by omega
    have r4 : 0 ≤ c / 2048 % 2 ∧ c / 2048 % 2 < 2 := by omega
    generalize c / 4096 % 2 = q1 at *
    generalize c / 32 % 64 = q2 at *
    generalize c / 2 % 16 = q3 at *
    generalize c / 2048 % 2 = q4 at *
    generalize hw : q1 * 2147483648 + q2 * 33554432 + b * 1048576 + a * 32768 + q3 * 256 + q4 * 128 + la o + pa o * 4096 = w
    have g : w % 128 = la o ∧ w / 4096 % 8 = pa o ∧ w / 32768 % 32 = a ∧ w / 1048576 % 32 = b ∧ w / 2147483648 = q1 ∧ w / 128 % 2 = q4 ∧ w / 33554432 % 64 = q2 ∧ w / 256 % 16 = q3 := by
      refine ⟨by omega, by omega, by omega, by omega, by omega, by omega, by omega, by omega⟩
    refine ⟨by omega, g.1, ?_, ?_⟩
    · unfold fnd
      rw [e]
      dsimp only
      rw [m3, p12, g.2.1, decide_eq_true rfl]
    · rw [e]
      show (bitAnd (w / 2 ^ 15) 31, bitAnd (w / 2 ^ 20) 31, sgn (rB w) 4096) = _
      rw [m5, m5, p15, p20, g.2.2.1, g.2.2.2.1, rB_eq r1 r2 r3 r4 g.2.2.2.2.1 g.2.2.2.2.2.1 g.2.2.2.2.2.2.1 g.2.2.2.2.2.2.2, hs]
  | upper =>
    rw [e] at h
    obtain ⟨ha, hb, rfl⟩ := h
    have f0 := R.f0 (by rw [e]; exact fun z => by cases z) (by rw [e]; exact fun z => by cases z)
    have rp := R.p0 (.inl e)
    have ew : wordM o a b 0 = b * 4096 + a * 128 + la o := by
      unfold wordM
      rw [e, if_neg (by intro z; cases z), f0, rp]
      exact fin_upper ha hb rl
    rw [ew]
    refine ⟨by omega, by omega, by unfold fnd; rw [e], ?_⟩
    rw [e]
    show (bitAnd ((b * 4096 + a * 128 + la o) / 2 ^ 7) 31, (b * 4096 + a * 128 + la o) / 2 ^ 12, (0 : Int)) = _
    rw [m5, p7, p12, show (b * 4096 + a * 128 + la o) / 128 % 32 = a by omega, show (b * 4096 + a * 128 + la o) / 4096 = b by omega]
  | jump =>
    rw [e] at h
    obtain ⟨ha, ⟨hb, he⟩, rfl⟩ := h
    have f0 := R.f0 (by rw [e]; exact fun z => by cases z) (by rw [e]; exact fun z => by cases z)
    have rp := R.p0 (.inr e)
    have ew : wordM o a b 0 = (b / 1048576 % 2) * 2147483648 + (b / 2 % 1024) * 2097152 + (b / 2048 % 2) * 1048576 + (b / 4096 % 256) * 4096 + a * 128 + la o := by
      unfold wordM
      rw [e, if_neg (by intro z; cases z), f0, rp]
      exact wJ_eq ha rl
    rw [ew]
    have hs := sgn21r hb he
    have r1 : 0 ≤ b / 1048576 % 2 ∧ b / 1048576 % 2 < 2 := by omega
    have r2 : 0 ≤ b / 2 % 1024 ∧ b / 2 % 1024 < 1024 := by omega
    have r3 : 0 ≤ b / 2048 % 2 ∧ b / 2048 % 2 < 2 := by omega
    have r4 : 0 ≤ b / 4096 % 256 ∧ b / 4096 % 256 < 256 := by omega
    generalize b / 1048576 % 2 = q1 at *
    generalize b / 2 % 1024 = q2 at *
    generalize b / 2048 % 2 = q3 at *
    generalize b / 4096 % 256 = q4 at *
    generalize hw : q1 * 2147483648 + q2 * 2097152 + q3 * 1048576 + q4 * 4096 + a * 128 + la o = w
    have g : w % 128 = la o ∧ w / 128 % 32 = a ∧ w / 2147483648 = q1 ∧ w / 4096 % 256 = q4 ∧ w / 1048576 % 2 = q3 ∧ w / 2097152 % 1024 = q2 := by
      refine ⟨by omega, by omega, by omega, by omega, by omega, by omega⟩
    refine ⟨by omega, g.1, by unfold fnd; rw [e], ?_⟩
    rw [e]
    show (bitAnd (w / 2 ^ 7) 31, sgn (rJ w) 1048576, (0 : Int)) = _
    rw [m5, p7, g.2.1, rJ_eq r1 r2 r3 r4 g.2.2.1 g.2.2.2.1 g.2.2.2.2.1 g.2.2.2.2.2, hs]
  | whole =>
    rw [e] at h
    obtain ⟨rfl, rfl, rfl⟩ := h
    have rw_ := R.w e
    have ew : wordM o 0 0 0 = pa o := by unfold wordM; rw [if_pos e]
    rw [ew]
    refine ⟨⟨rw_.1, rw_.2.1⟩, rw_.2.2, ?_, by rw [e]; rfl⟩
    unfold fnd
    rw [e]
    exact decide_eq_true rfl
set_option synthInstance.maxHeartbeats 4000000 in
set_option synthInstance.maxSize 100000 in
theorem apart1 : ∀ o, o < 48 → ∀ q, q < 48 → la o = la q → fo o = .whole → fo q = .whole ∧ (¬ pa o = pa q ∨ o = q) := by decide +kernel
set_option synthInstance.maxHeartbeats 4000000 in
set_option synthInstance.maxSize 100000 in
theorem apart2 : ∀ o, o < 48 → ∀ q, q < 48 → la o = la q → (fo o = .upper ∨ fo o = .jump) → o = q := by decide +kernel
set_option synthInstance.maxHeartbeats 4000000 in
set_option synthInstance.maxSize 100000 in
theorem apart3 : ∀ o, o < 48 → ∀ q, q < 48 → la o = la q → (fo o = .three ∨ fo o = .shift) → ((fo q = .three ∨ fo q = .shift) ∧ (¬ pa o = pa q ∨ ¬ fi o = fi q ∨ o = q)) ∨ (fo q = .number ∧ ¬ pa o = pa q) := by decide +kernel
set_option synthInstance.maxHeartbeats 4000000 in
set_option synthInstance.maxSize 100000 in
theorem apart4 : ∀ o, o < 48 → ∀ q, q < 48 → la o = la q → (fo o = .number ∨ fo o = .store ∨ fo o = .branch) → (¬ pa o = pa q ∨ o = q) ∧ ¬ fo q = .whole ∧ ¬ fo q = .upper ∧ ¬ fo q = .jump := by decide +kernel
theorem only {w : Int} {o q : Nat} (ho : o < 48) (hq : q < 48) (el : la o = la q) (h1 : fnd o w = true) (h2 : fnd q w = true) : o = q := by
  have k1 := apart1 o ho q hq el
  have k2 := apart2 o ho q hq el
  have k3 := apart3 o ho q hq el
  have k4 := apart4 o ho q hq el
  unfold fnd at h1 h2
  cases e : fo o with
  | whole =>
    obtain ⟨f, g⟩ := k1 e
    rw [e] at h1
    rw [f] at h2
    rcases g with g | g
    · exact absurd ((of_decide_eq_true h1).symm.trans (of_decide_eq_true h2)) g
    · exact g
  | upper => exact k2 (.inl e)
  | jump => exact k2 (.inr e)
  | three =>
    rw [e] at h1
    obtain ⟨a1, a2⟩ := Bool.and_eq_true_iff.mp h1
    have a1 := of_decide_eq_true a1
    have a2 := of_decide_eq_true a2
    rcases k3 (.inl e) with ⟨f, g⟩ | ⟨f, g⟩
    · rcases f with f | f <;> rw [f] at h2 <;> obtain ⟨b1, b2⟩ := Bool.and_eq_true_iff.mp h2 <;> exact (g.resolve_left (fun z => z (a1.symm.trans (of_decide_eq_true b1)))).resolve_left (fun z => z (a2.symm.trans (of_decide_eq_true b2)))
    · rw [f] at h2
      exact absurd (a1.symm.trans (of_decide_eq_true h2)) g
  | shift =>
    rw [e] at h1
    obtain ⟨a1, a2⟩ := Bool.and_eq_true_iff.mp h1
    have a1 := of_decide_eq_true a1
    have a2 := of_decide_eq_true a2
    rcases k3 (.inr e) with ⟨f, g⟩ | ⟨f, g⟩
    · rcases f with f | f <;> rw [f] at h2 <;> obtain ⟨b1, b2⟩ := Bool.and_eq_true_iff.mp h2 <;> exact (g.resolve_left (fun z => z (a1.symm.trans (of_decide_eq_true b1)))).resolve_left (fun z => z (a2.symm.trans (of_decide_eq_true b2)))
    · rw [f] at h2
      exact absurd (a1.symm.trans (of_decide_eq_true h2)) g
  | number =>
    rw [e] at h1
    have a1 := of_decide_eq_true h1
    obtain ⟨g, n1, n2, n3⟩ := k4 (.inl e)
    have b1 : bitAnd (w / 2 ^ 12) 7 = pa q := by
      cases f : fo q <;> rw [f] at h2 n1 n2 n3
      case whole => exact absurd rfl n1
      case upper => exact absurd rfl n2
      case jump => exact absurd rfl n3
      case three => exact of_decide_eq_true (Bool.and_eq_true_iff.mp h2).1
      case shift => exact of_decide_eq_true (Bool.and_eq_true_iff.mp h2).1
      all_goals exact of_decide_eq_true h2
    exact g.resolve_left (fun z => z (a1.symm.trans b1))
  | store =>
    rw [e] at h1
    have a1 := of_decide_eq_true h1
    obtain ⟨g, n1, n2, n3⟩ := k4 (.inr (.inl e))
    have b1 : bitAnd (w / 2 ^ 12) 7 = pa q := by
      cases f : fo q <;> rw [f] at h2 n1 n2 n3
      case whole => exact absurd rfl n1
      case upper => exact absurd rfl n2
      case jump => exact absurd rfl n3
      case three => exact of_decide_eq_true (Bool.and_eq_true_iff.mp h2).1
      case shift => exact of_decide_eq_true (Bool.and_eq_true_iff.mp h2).1
      all_goals exact of_decide_eq_true h2
    exact g.resolve_left (fun z => z (a1.symm.trans b1))
  | branch =>
    rw [e] at h1
    have a1 := of_decide_eq_true h1
    obtain ⟨g, n1, n2, n3⟩ := k4 (.inr (.inr e))
    have b1 : bitAnd (w / 2 ^ 12) 7 = pa q := by
      cases f : fo q <;> rw [f] at h2 n1 n2 n3
      case whole => exact absurd rfl n1
      case upper => exact absurd rfl n2
      case jump => exact absurd rfl n3
      case three => exact of_decide_eq_true (Bool.and_eq_true_iff.mp h2).1
      case shift => exact of_decide_eq_true (Bool.and_eq_true_iff.mp h2).1
      all_goals exact of_decide_eq_true h2
    exact g.resolve_left (fun z => z (a1.symm.trans b1))
theorem dec_word {o : Nat} (ho : o < 48) {a b c : Int} (h : okI (fo o) a b c) : decM (wordM o a b c) = some o := by
  have B := written ho h
  unfold decM
  rw [m7, B.last]
  cases e : (byl (la o)).find? fun q => fnd q (wordM o a b c) with
  | none =>
    have := List.find?_eq_none.mp e o (List.mem_filter.mpr ⟨List.mem_range.mpr ho, decide_eq_true rfl⟩)
    exact absurd B.found this
  | some q =>
    obtain ⟨hq, el⟩ := byl_mem (List.mem_of_find?_eq_some e)
    rw [only ho hq el.symm B.found (by simpa using List.find?_some e)]
/-! ### bits -/
def bitsL (n : Int) (m : Nat) : List Int := (List.range m).map fun i => n / 2 ^ i % 2
def sumB : List Int → Int
  | [] => 0
  | b :: r => b + 2 * sumB r
theorem bits_len (n : Int) (m : Nat) : (bitsL n m).length = m := by unfold bitsL; rw [List.length_map, List.length_range]
theorem bits_01 (n : Int) (m : Nat) : ∀ b ∈ bitsL n m, 0 ≤ b ∧ b ≤ 1 := by
  intro b hb
  obtain ⟨i, _, rfl⟩ := List.mem_map.mp hb
  omega
theorem bits_succ (n : Int) (m : Nat) : bitsL n (m + 1) = n % 2 :: bitsL (n / 2) m := by
  unfold bitsL
  rw [List.range_succ_eq_map, List.map_cons, List.map_map]
  have e0 : n / 2 ^ 0 % 2 = n % 2 := by rw [show (2 : Int) ^ 0 = 1 from by decide, Int.ediv_one]
  rw [e0]
  congr 1
  refine List.map_congr_left fun i _ => ?_
  show n / 2 ^ (i + 1) % 2 = n / 2 / 2 ^ i % 2
  rw [Int.pow_succ, Int.mul_comm, Int.ediv_ediv_of_nonneg (by decide)]
theorem sum_bits : ∀ (m : Nat) (n : Int) (r : List Int), sumB (bitsL n m ++ r) = n % 2 ^ m + 2 ^ m * sumB r
  | 0, n, r => by
    rw [show (2 : Int) ^ 0 = 1 from by decide, Int.emod_one, Int.one_mul, Int.zero_add]; rfl
  | m + 1, n, r => by
    rw [bits_succ, List.cons_append]
    show n % 2 + 2 * sumB (bitsL (n / 2) m ++ r) = _
    rw [sum_bits m (n / 2) r, Int.pow_succ]
    have hp : (0 : Int) < 2 ^ m := Int.pow_pos (by decide)
    generalize (2 : Int) ^ m = k at *
    have e1 : n % (k * 2) = n % 2 + 2 * (n / 2 % k) := by
      have h1 := Int.mul_ediv_add_emod (n / 2) k
      have r0 := Int.emod_nonneg (n / 2) (show k ≠ 0 by omega)
      have r1 := Int.emod_lt_of_pos (n / 2) hp
      have e2 : n = (n % 2 + 2 * (n / 2 % k)) + (k * 2) * (n / 2 / k) := by
        have e3 : (k * 2) * (n / 2 / k) = 2 * (k * (n / 2 / k)) := by rw [Int.mul_comm k 2, Int.mul_assoc]
        rw [e3]; omega
      have e4 : n % (k * 2) = ((n % 2 + 2 * (n / 2 % k)) + (k * 2) * (n / 2 / k)) % (k * 2) := congrArg (· % (k * 2)) e2
      rw [e4, Int.add_mul_emod_self_left, Int.emod_eq_of_lt (by omega) (by omega)]
    rw [e1, Int.mul_add, Int.mul_comm k 2, Int.mul_assoc, Int.add_assoc]
/-- a part of these bits -/
theorem bits_part (n : Int) {k i j : Nat} (h : i + j ≤ k) : ((bitsL n k).drop i).take j = bitsL (n / 2 ^ i) j := by
  apply List.ext_getElem?
  intro m
  rw [List.getElem?_take]
  by_cases c : m < j
  · rw [if_pos c, List.getElem?_drop]
    unfold bitsL
    rw [List.getElem?_map, List.getElem?_map, List.getElem?_range (by omega), List.getElem?_range c]
    show some (n / 2 ^ (i + m) % 2) = some (n / 2 ^ i / 2 ^ m % 2)
    rw [Int.pow_add, Int.ediv_ediv_of_nonneg (Int.le_of_lt (Int.pow_pos (by decide)))]
  · rw [if_neg c, List.getElem?_eq_none (by rw [bits_len]; omega)]
theorem bits_one (n : Int) : bitsL n 1 = [n % 2] := by
  unfold bitsL
  show [n / 2 ^ 0 % 2] = _
  rw [show (2 : Int) ^ 0 = 1 from by decide, Int.ediv_one]
theorem sum_nil : sumB [] = 0 := rfl
theorem sum_last (n : Int) (m : Nat) : sumB (bitsL n m) = n % 2 ^ m := by
  have := sum_bits m n []
  rw [List.append_nil, sum_nil, Int.mul_zero, Int.add_zero] at this
  exact this
/-! ### the words of the law -/
theorem b_three {o : Nat} (ho : o < 48) {a b c : Int} (e : fo o = .three ∨ fo o = .shift) (h : okI (fo o) a b c) : sumB (bitsL (la o) 7 ++ bitsL a 5 ++ bitsL (pa o) 3 ++ bitsL b 5 ++ bitsL c 5 ++ bitsL (fi o) 7) = wordM o a b c := by
  have R := row ho
  have rl := R.l
  have rf := R.f
  have rp := R.p (by rcases e with e | e <;> rw [e] <;> exact fun z => by cases z)
  have hh : (0 ≤ a ∧ a < 32) ∧ (0 ≤ b ∧ b < 32) ∧ (0 ≤ c ∧ c < 32) := by rcases e with e | e <;> rw [e] at h <;> exact h
  obtain ⟨ha, hb, hc⟩ := hh
  have ew : wordM o a b c = fi o * 33554432 + c * 1048576 + b * 32768 + pa o * 4096 + a * 128 + la o := by
    unfold wordM
    rcases e with e | e <;> rw [e, if_neg (by intro z; cases z)] <;> exact three_back rl rp rf ha hb hc
  rw [ew]
  simp only [List.append_assoc]
  rw [sum_bits, sum_bits, sum_bits, sum_bits, sum_bits, sum_last, p7, p5, p3]
  omega
theorem b_number {o : Nat} (ho : o < 48) {a b c : Int} (e : fo o = .number) (h : okI (fo o) a b c) : sumB (bitsL (la o) 7 ++ bitsL a 5 ++ bitsL (pa o) 3 ++ bitsL b 5 ++ bitsL c 12) = wordM o a b c := by
  have R := row ho
  have rl := R.l
  have rp := R.p (by rw [e]; exact fun z => by cases z)
  have f0 := R.f0 (by rw [e]; exact fun z => by cases z) (by rw [e]; exact fun z => by cases z)
  rw [e] at h
  obtain ⟨ha, hb, hc⟩ := h
  have ew : wordM o a b c = c % 4096 * 1048576 + b * 32768 + pa o * 4096 + a * 128 + la o := by
    unfold wordM
    rw [e, if_neg (by intro z; cases z), f0]
    exact number_back rl rp ha hb c
  rw [ew]
  simp only [List.append_assoc]
  rw [sum_bits, sum_bits, sum_bits, sum_bits, sum_last, p7, p5, p3, p12]
  generalize c % 4096 = q
  omega
theorem b_store {o : Nat} (ho : o < 48) {a b c : Int} (e : fo o = .store) (h : okI (fo o) a b c) : sumB (bitsL (la o) 7 ++ bitsL c 5 ++ bitsL (pa o) 3 ++ bitsL a 5 ++ bitsL b 5 ++ bitsL (c / 2 ^ 5) 7) = wordM o a b c := by
  have R := row ho
  have rl := R.l
  have rp := R.p (by rw [e]; exact fun z => by cases z)
  have f0 := R.f0 (by rw [e]; exact fun z => by cases z) (by rw [e]; exact fun z => by cases z)
  rw [e] at h
  obtain ⟨ha, hb, hc⟩ := h
  have ew : wordM o a b c = c / 32 % 128 * 33554432 + b * 1048576 + a * 32768 + pa o * 4096 + c % 32 * 128 + la o := by
    unfold wordM
    rw [e, if_neg (by intro z; cases z), f0]
    exact store_back rl rp ha hb c
  rw [ew]
  simp only [List.append_assoc]
  rw [sum_bits, sum_bits, sum_bits, sum_bits, sum_bits, sum_last, p7, p5, p3]
  generalize c / 32 % 128 = q
  generalize c % 32 = q2
  omega
theorem b_branch {o : Nat} (ho : o < 48) {a b c : Int} (e : fo o = .branch) (h : okI (fo o) a b c) :
    sumB (bitsL (la o) 7 ++ bitsL (c / 2 ^ 11) 1 ++ bitsL (c / 2 ^ 1) 4 ++ bitsL (pa o) 3 ++ bitsL a 5 ++ bitsL b 5 ++ bitsL (c / 2 ^ 5) 6 ++ bitsL (c / 2 ^ 12) 1) = wordM o a b c := by
  have R := row ho
  have rl := R.l
  have rp := R.p (by rw [e]; exact fun z => by cases z)
  have f0 := R.f0 (by rw [e]; exact fun z => by cases z) (by rw [e]; exact fun z => by cases z)
  rw [e] at h
  obtain ⟨ha, hb, hc, he⟩ := h
  have ew : wordM o a b c = (c / 4096 % 2) * 2147483648 + (c / 32 % 64) * 33554432 + b * 1048576 + a * 32768 + (c / 2 % 16) * 256 + (c / 2048 % 2) * 128 + la o + pa o * 4096 := by
    unfold wordM
    rw [e, if_neg (by intro z; cases z), f0]
    exact wB_eq ha hb rl rp
  rw [ew]
  simp only [List.append_assoc]
  rw [sum_bits, sum_bits, sum_bits, sum_bits, sum_bits, sum_bits, sum_bits, sum_last, p12, p11, p7, p6, p5, p4, p3, p1]
  generalize c / 4096 % 2 = q1
  generalize c / 32 % 64 = q2
  generalize c / 2 % 16 = q3
  generalize c / 2048 % 2 = q4
  omega
theorem b_upper {o : Nat} (ho : o < 48) {a b : Int} (e : fo o = .upper) (h : okI (fo o) a b 0) : sumB (bitsL (la o) 7 ++ bitsL a 5 ++ bitsL b 20) = wordM o a b 0 := by
  have R := row ho
  have rl := R.l
  have f0 := R.f0 (by rw [e]; exact fun z => by cases z) (by rw [e]; exact fun z => by cases z)
  have rp := R.p0 (.inl e)
  rw [e] at h
  obtain ⟨ha, hb, _⟩ := h
  have ew : wordM o a b 0 = b * 4096 + a * 128 + la o := by
    unfold wordM
    rw [e, if_neg (by intro z; cases z), f0, rp]
    exact fin_upper ha hb rl
  rw [ew]
  simp only [List.append_assoc]
  rw [sum_bits, sum_bits, sum_last, p20, p7, p5]
  omega
theorem b_jump {o : Nat} (ho : o < 48) {a b : Int} (e : fo o = .jump) (h : okI (fo o) a b 0) :
    sumB (bitsL (la o) 7 ++ bitsL a 5 ++ bitsL (b / 2 ^ 12) 8 ++ bitsL (b / 2 ^ 11) 1 ++ bitsL (b / 2 ^ 1) 10 ++ bitsL (b / 2 ^ 20) 1) = wordM o a b 0 := by
  have R := row ho
  have rl := R.l
  have f0 := R.f0 (by rw [e]; exact fun z => by cases z) (by rw [e]; exact fun z => by cases z)
  have rp := R.p0 (.inr e)
  rw [e] at h
  obtain ⟨ha, ⟨hb, he⟩, _⟩ := h
  have ew : wordM o a b 0 = (b / 1048576 % 2) * 2147483648 + (b / 2 % 1024) * 2097152 + (b / 2048 % 2) * 1048576 + (b / 4096 % 256) * 4096 + a * 128 + la o := by
    unfold wordM
    rw [e, if_neg (by intro z; cases z), f0, rp]
    exact wJ_eq ha rl
  rw [ew]
  simp only [List.append_assoc]
  rw [sum_bits, sum_bits, sum_bits, sum_bits, sum_bits, sum_last, p20, p12, p11, p10, p8, p7, p5, p1]
  generalize b / 1048576 % 2 = q1
  generalize b / 2 % 1024 = q2
  generalize b / 2048 % 2 = q3
  generalize b / 4096 % 256 = q4
  omega
end I6

namespace K66
open PySem PyProof.Rows L2 My Ru I6
def top (i : Nat) : Stmt := PySem.Challenge.pw_trueimage_k66_forms_told.main.body.getD i (.Pass ⟨0, 0, 0, 0⟩)
abbrev s_BadForm___init__ : Stmt := inClass (top 2) 0
abbrev s_is_number : Stmt := top 4
abbrev s_encode : Stmt := top 12
abbrev s__are_registers : Stmt := top 13
abbrev s__is_distance : Stmt := top 14
abbrev s__write_three : Stmt := top 15
abbrev s__write_number : Stmt := top 16
abbrev s__write_store : Stmt := top 17
abbrev s__write_branch : Stmt := top 18
abbrev s__write_upper : Stmt := top 19
abbrev s__write_jump : Stmt := top 20
abbrev s__write_whole : Stmt := top 21
abbrev s_decode : Stmt := top 22
abbrev s__with_sign : Stmt := top 23
abbrev s__read_three : Stmt := top 24
abbrev s__read_number : Stmt := top 25
abbrev s__read_store : Stmt := top 26
abbrev s__read_branch : Stmt := top 27
abbrev s__read_upper : Stmt := top 28
abbrev s__read_jump : Stmt := top 29
abbrev s__read_whole : Stmt := top 30
abbrev s_instruction_text : Stmt := top 38
abbrev s_instruction_by : Stmt := top 39
abbrev s__parts_put : Stmt := top 40
abbrev s__register : Stmt := top 41
abbrev s__number : Stmt := top 42
abbrev s__law_cell_at : Stmt := top 44
abbrev s__law_draw : Stmt := top 45
abbrev s__law_number : Stmt := top 46
abbrev s__law_next : Stmt := top 47
abbrev s__law_bits : Stmt := top 48
abbrev s__law_sum : Stmt := top 49
abbrev s__law_tables : Stmt := top 50
abbrev s__law_all : Stmt := top 51
abbrev s__law_refused : Stmt := top 52
abbrev s_law : Stmt := top 53
def Ent (K : PySem.W.Frag) (d x : Str) (vs : List V) : Prop := ∃ a, PySem.W.nsIn K (He.ga K d) x = some (some (.ref a)) ∧ ∀ H : Hp, SqT K H a vs
def wnm : Fo → Str
  | .three => "_write_three" | .number => "_write_number" | .shift => "_write_three" | .store => "_write_store" | .branch => "_write_branch" | .upper => "_write_upper" | .jump => "_write_jump" | .whole => "_write_whole"
def rnm : Fo → Str
  | .three => "_read_three" | .number => "_read_number" | .shift => "_read_three" | .store => "_read_store" | .branch => "_read_branch" | .upper => "_read_upper" | .jump => "_read_jump" | .whole => "_read_whole"
structure Txt (K : PySem.W.Frag) (mg : Str → Option Value) (w : World) : Prop where
  d_is_number : Df K mg "is_number" s_is_number
  c_FORMS : mg "FORMS" = some (.ref (He.ga K "FORMS"))
  k_FORMS : ∃ es n, KDict K w (He.ga K "FORMS") es n
  c_BY_LAST_BITS : mg "BY_LAST_BITS" = some (.ref (He.ga K "BY_LAST_BITS"))
  c_MOST_REGISTER : ∃ t, mg "MOST_REGISTER" = some (.int (31) t)
  c_HALF_NUMBER : ∃ t, mg "HALF_NUMBER" = some (.int (2048) t)
  c_HALF_BRANCH : ∃ t, mg "HALF_BRANCH" = some (.int (4096) t)
  c_HALF_JUMP : ∃ t, mg "HALF_JUMP" = some (.int (1048576) t)
  d_encode : Df K mg "encode" s_encode
  d__are_registers : Df K mg "_are_registers" s__are_registers
  d__is_distance : Df K mg "_is_distance" s__is_distance
  d__write_three : Df K mg "_write_three" s__write_three
  d__write_number : Df K mg "_write_number" s__write_number
  d__write_store : Df K mg "_write_store" s__write_store
  d__write_branch : Df K mg "_write_branch" s__write_branch
  d__write_upper : Df K mg "_write_upper" s__write_upper
  d__write_jump : Df K mg "_write_jump" s__write_jump
  d__write_whole : Df K mg "_write_whole" s__write_whole
  d_decode : Df K mg "decode" s_decode
  d__with_sign : Df K mg "_with_sign" s__with_sign
  d__read_three : Df K mg "_read_three" s__read_three
  d__read_number : Df K mg "_read_number" s__read_number
  d__read_store : Df K mg "_read_store" s__read_store
  d__read_branch : Df K mg "_read_branch" s__read_branch
  d__read_upper : Df K mg "_read_upper" s__read_upper
  d__read_jump : Df K mg "_read_jump" s__read_jump
  d__read_whole : Df K mg "_read_whole" s__read_whole
  c_WRITERS : mg "WRITERS" = some (.ref (He.ga K "WRITERS"))
  k_WRITERS : ∃ es n, KDict K w (He.ga K "WRITERS") es n
  c_READERS : mg "READERS" = some (.ref (He.ga K "READERS"))
  k_READERS : ∃ es n, KDict K w (He.ga K "READERS") es n
  c_REGISTERS : mg "REGISTERS" = some (.ref (He.ga K "REGISTERS"))
  c_LOADS : mg "LOADS" = some (.ref (He.ga K "LOADS"))
  c_FIGURES : ∃ t, mg "FIGURES" = some (.str "0123456789" t)
  c_MOST_SIGNS : ∃ t, mg "MOST_SIGNS" = some (.int (8) t)
  d_instruction_text : Df K mg "instruction_text" s_instruction_text
  d_instruction_by : Df K mg "instruction_by" s_instruction_by
  d__parts_put : Df K mg "_parts_put" s__parts_put
  d__register : Df K mg "_register" s__register
  d__number : Df K mg "_number" s__number
  d__law_cell_at : Df K mg "_law_cell_at" s__law_cell_at
  d__law_draw : Df K mg "_law_draw" s__law_draw
  d__law_number : Df K mg "_law_number" s__law_number
  d__law_next : Df K mg "_law_next" s__law_next
  d__law_bits : Df K mg "_law_bits" s__law_bits
  d__law_sum : Df K mg "_law_sum" s__law_sum
  d__law_tables : Df K mg "_law_tables" s__law_tables
  d__law_all : Df K mg "_law_all" s__law_all
  d__law_refused : Df K mg "_law_refused" s__law_refused
  d_law : Df K mg "law" s_law
  bf : Bf.BfTxt K mg (He.ga K "BadForm") (He.ma K (He.ga K "BadForm") "__init__")
  n_len : mg "len" = none
  n_tuple : mg "tuple" = none
  n_isinstance : mg "isinstance" = none
  n_str : mg "str" = none
  n_int : mg "int" = none
  n_bool : mg "bool" = none
  n_all : mg "all" = none
  n_enumerate : mg "enumerate" = none
  n_range : mg "range" = none
  n_sum : mg "sum" = none
  ga__write_three : mg "_write_three" = some (.ref (He.ga K "_write_three"))
  ga__write_number : mg "_write_number" = some (.ref (He.ga K "_write_number"))
  ga__write_store : mg "_write_store" = some (.ref (He.ga K "_write_store"))
  ga__write_branch : mg "_write_branch" = some (.ref (He.ga K "_write_branch"))
  ga__write_upper : mg "_write_upper" = some (.ref (He.ga K "_write_upper"))
  ga__write_jump : mg "_write_jump" = some (.ref (He.ga K "_write_jump"))
  ga__write_whole : mg "_write_whole" = some (.ref (He.ga K "_write_whole"))
  ga__read_three : mg "_read_three" = some (.ref (He.ga K "_read_three"))
  ga__read_number : mg "_read_number" = some (.ref (He.ga K "_read_number"))
  ga__read_store : mg "_read_store" = some (.ref (He.ga K "_read_store"))
  ga__read_branch : mg "_read_branch" = some (.ref (He.ga K "_read_branch"))
  ga__read_upper : mg "_read_upper" = some (.ref (He.ga K "_read_upper"))
  ga__read_jump : mg "_read_jump" = some (.ref (He.ga K "_read_jump"))
  ga__read_whole : mg "_read_whole" = some (.ref (He.ga K "_read_whole"))
  f_ent : ∀ o, o < 48 → Ent K "FORMS" (nm o) [.str (foS (fo o)), .int (la o), .int (pa o), .int (fi o)]
  f_no : ∀ s, posOf nms s = none → PySem.W.nsIn K (He.ga K "FORMS") s = some none
  w_tab : ∀ f, KDct K w (He.ga K "WRITERS") (foS f) (.ref (He.ga K (wnm f)))
  r_tab : ∀ f, KDct K w (He.ga K "READERS") (foS f) (.ref (He.ga K (rnm f)))
  k_BY : ∃ es n, Kg.KInt K (He.ga K "BY_LAST_BITS") es n ∧ ∀ l : Int, 0 ≤ l → l < 128 → (byl l = [] → findBy Value.isInt es l = none) ∧ (byl l ≠ [] → ∃ a, findBy Value.isInt es l = some (.ref a) ∧ ∀ H : Hp, SqT K H a ((byl l).map fun o => V.str (nm o)))
  t_REGISTERS : ∀ H : Hp, SqT K H (He.ga K "REGISTERS") (regs.map V.str)
  ty_REGISTERS : ∃ o, K.lookup (He.ga K "REGISTERS") = some o ∧ o.cls = .type "tuple" ∧ o.dict = none
  t_LOADS : ∀ H : Hp, SqT K H (He.ga K "LOADS") (loads.map V.str)
open Builtin (bitAnd bitOr)
abbrev CF (K : PySem.W.Frag) : Addr := He.ga K "BadForm"
theorem same_new {H : Hp} {a : Addr} {o : HO} (h : H a = none) : Same H (upd H a o) := fun x u e => by
  rw [upd_ne (ne_of_none e h)]; exact e
theorem Same.tr {H H1 H2 : Hp} (a : Same H H1) (b : Same H1 H2) : Same H H2 := fun x o e => b x o (a x o e)
theorem Same.rf {H : Hp} : Same H H := fun _ _ e => e
def vO : O → V
  | none => .non
  | some i => .int i
def wrO (f : Fo) (x y z : O) : V := if ok f x y z = true then .int (wr f (x.getD 0) (y.getD 0) (z.getD 0)) else .non
def insM (n : V) (x y z : O) : Option Nat := match n with
  | .str s => (posOf nms s).bind fun o => if ok (fo o) x y z = true then some o else none
  | _ => none
def insV (o : Nat) (q : Int × Int × Int) : List V := [.str (nm o), .int q.1, .int q.2.1, .int q.2.2]
/-- how a wrong thing is told -/
def bad (K : PySem.W.Frag) (H : Hp) (v : V) (E : XK) : Prop := ∀ (H' : Hp) (d : Addr), Same H H' → H' d = none → E (.ref (CF K)) (some d) (upd H' d (.xd (bfFs v)))
def txO (q : V × O × O × O) : Option Str := (insM q.1 q.2.1 q.2.2.1 q.2.2.2).map fun o => txM o (q.2.1.getD 0) (q.2.2.1.getD 0) (q.2.2.2.getD 0)
def wtM (w : Int) : Str := match decM w with
  | none => Str.empty ++ "word " ++ num w
  | some o => txM o (rd (fo o) w).1 (rd (fo o) w).2.1 (rd (fo o) w).2.2
/-! promises -/
def sp_is_number (K : PySem.W.Frag) : Sp := sp3 fun x y z H Q _ => ∃ (n : O) (a b : Int), x = vO n ∧ y = .int a ∧ z = .int b ∧ Q (.bl (isN n a b)) H
def sp__are_registers (K : PySem.W.Frag) : Sp := sp3 fun x y z H Q _ => ∃ a b c : O, x = vO a ∧ y = vO b ∧ z = vO c ∧ ∀ H', Same H H' → Q (.bl (isN a 0 31 && (isN b 0 31 && isN c 0 31))) H'
def sp__is_distance (K : PySem.W.Frag) : Sp := sp2 fun x y H Q _ => ∃ (d : O) (h : Int), x = vO d ∧ y = .int h ∧ Q (.bl (dist d h)) H
def spW (f : Fo) : Sp := sp3 fun x y z H Q _ => ∃ a b c : O, x = vO a ∧ y = vO b ∧ z = vO c ∧ ∀ H', Same H H' → Q (wrO f a b c) H'
def sp__write_three (K : PySem.W.Frag) : Sp := spW .three
def sp__write_number (K : PySem.W.Frag) : Sp := spW .number
def sp__write_store (K : PySem.W.Frag) : Sp := spW .store
def sp__write_branch (K : PySem.W.Frag) : Sp := spW .branch
def sp__write_upper (K : PySem.W.Frag) : Sp := spW .upper
def sp__write_jump (K : PySem.W.Frag) : Sp := spW .jump
def sp__write_whole (K : PySem.W.Frag) : Sp := spW .whole
def sp_encode (K : PySem.W.Frag) : Sp := sp1 fun x H Q E => ∃ (p : Addr) (n : V) (a b c : O), x = .ref p ∧ H p = some (.tup [n, vO a, vO b, vO c]) ∧ (n = .non ∨ ∃ s, n = .str s) ∧
  (∀ o, insM n a b c = some o → ∀ H', Same H H' → Q (.int (wordM o (a.getD 0) (b.getD 0) (c.getD 0))) H') ∧ (insM n a b c = none → bad K H x E)
def sp__with_sign (K : PySem.W.Frag) : Sp := sp2 fun x y H Q _ => ∃ n h : Int, x = .int n ∧ y = .int h ∧ Q (.int (B6.sgn n h)) H
def spR (f : Fo) : Sp := sp1 fun x H Q _ => ∃ w : Int, x = .int w ∧ 0 ≤ w ∧ w < 4294967296 ∧ ∀ p, H p = none → Q (.ref p) (upd H p (.tup [.int (rd f w).1, .int (rd f w).2.1, .int (rd f w).2.2]))
def sp__read_three (K : PySem.W.Frag) : Sp := spR .three
def sp__read_number (K : PySem.W.Frag) : Sp := spR .number
def sp__read_store (K : PySem.W.Frag) : Sp := spR .store
def sp__read_branch (K : PySem.W.Frag) : Sp := spR .branch
def sp__read_upper (K : PySem.W.Frag) : Sp := spR .upper
def sp__read_jump (K : PySem.W.Frag) : Sp := spR .jump
def sp__read_whole (K : PySem.W.Frag) : Sp := spR .whole
def sp_decode (K : PySem.W.Frag) : Sp := sp1 fun x H Q _ => ∃ w : Int, x = .int w ∧ 0 ≤ w ∧ w < 4294967296 ∧ (decM w = none → ∀ H', Same H H' → Q .non H') ∧
  ∀ o, decM w = some o → ∀ (H' : Hp) (p : Addr), Same H H' → H' p = some (.tup (insV o (rd (fo o) w))) → Q (.ref p) H'
def sp_instruction_text (K : PySem.W.Frag) : Sp := sp1 fun x H Q E => ∃ (p : Addr) (n : V) (a b c : O), x = .ref p ∧ H p = some (.tup [n, vO a, vO b, vO c]) ∧ (n = .non ∨ ∃ s, n = .str s) ∧
  (∀ o, insM n a b c = some o → ∀ H', Same H H' → Q (.str (txM o (a.getD 0) (b.getD 0) (c.getD 0))) H') ∧ (insM n a b c = none → bad K H x E)
def sp__register (K : PySem.W.Frag) : Sp := sp1 fun x H Q _ => ∃ t : Str, x = .str t ∧ Q (vO (regO t)) H
def sp__number (K : PySem.W.Frag) : Sp := sp1 fun x H Q _ => ∃ t : Str, x = .str t ∧ t.length ≤ 1000 ∧ ∀ H', Same H H' → Q (vO (numO t)) H'
def valsP (q : V × O × O × O) : List V := [q.1, vO q.2.1, vO q.2.2.1, vO q.2.2.2]
def sp__parts_put (K : PySem.W.Frag) : Sp := sp1 fun x H Q _ => ∃ t : Str, x = .str t ∧ t.length ≤ 1000 ∧ ∀ (H' : Hp) (p : Addr), Same H H' → H' p = some (.tup (valsP (partsM t))) → Q (.ref p) H'
def sp_instruction_by (K : PySem.W.Frag) : Sp := sp1 fun x H Q E => ∃ t : Str, x = .str t ∧ t.length ≤ 1000 ∧
  (txO (partsM t) = some t → ∀ (H' : Hp) (p : Addr), Same H H' → H' p = some (.tup (valsP (partsM t))) → Q (.ref p) H') ∧ (txO (partsM t) ≠ some t → bad K H (.str t) E)
def sp_word_text (K : PySem.W.Frag) : Sp := sp1 fun x H Q _ => ∃ w : Int, x = .int w ∧ 0 ≤ w ∧ w < 4294967296 ∧ ∀ H', Same H H' → Q (.str (wtM w)) H'

end K66

namespace K66E
open PySem PySem.Spec PyProof.Rows L2 My Ru I6 K66
def dd_is_number : He.DefD := ⟨("is_number", none), "is_number", "is_number", defArgs s_is_number, defBody s_is_number, defScope s_is_number, [], []⟩
def dd_encode : He.DefD := ⟨("encode", none), "encode", "encode", defArgs s_encode, defBody s_encode, defScope s_encode, [], []⟩
def dd__are_registers : He.DefD := ⟨("_are_registers", none), "_are_registers", "_are_registers", defArgs s__are_registers, defBody s__are_registers, defScope s__are_registers, [], []⟩
def dd__is_distance : He.DefD := ⟨("_is_distance", none), "_is_distance", "_is_distance", defArgs s__is_distance, defBody s__is_distance, defScope s__is_distance, [], []⟩
def dd__write_three : He.DefD := ⟨("_write_three", none), "_write_three", "_write_three", defArgs s__write_three, defBody s__write_three, defScope s__write_three, [], []⟩
def dd__write_number : He.DefD := ⟨("_write_number", none), "_write_number", "_write_number", defArgs s__write_number, defBody s__write_number, defScope s__write_number, [], []⟩
def dd__write_store : He.DefD := ⟨("_write_store", none), "_write_store", "_write_store", defArgs s__write_store, defBody s__write_store, defScope s__write_store, [], []⟩
def dd__write_branch : He.DefD := ⟨("_write_branch", none), "_write_branch", "_write_branch", defArgs s__write_branch, defBody s__write_branch, defScope s__write_branch, [], []⟩
def dd__write_upper : He.DefD := ⟨("_write_upper", none), "_write_upper", "_write_upper", defArgs s__write_upper, defBody s__write_upper, defScope s__write_upper, [], []⟩
def dd__write_jump : He.DefD := ⟨("_write_jump", none), "_write_jump", "_write_jump", defArgs s__write_jump, defBody s__write_jump, defScope s__write_jump, [], []⟩
def dd__write_whole : He.DefD := ⟨("_write_whole", none), "_write_whole", "_write_whole", defArgs s__write_whole, defBody s__write_whole, defScope s__write_whole, [], []⟩
def dd_decode : He.DefD := ⟨("decode", none), "decode", "decode", defArgs s_decode, defBody s_decode, defScope s_decode, [], []⟩
def dd__with_sign : He.DefD := ⟨("_with_sign", none), "_with_sign", "_with_sign", defArgs s__with_sign, defBody s__with_sign, defScope s__with_sign, [], []⟩
def dd__read_three : He.DefD := ⟨("_read_three", none), "_read_three", "_read_three", defArgs s__read_three, defBody s__read_three, defScope s__read_three, [], []⟩
def dd__read_number : He.DefD := ⟨("_read_number", none), "_read_number", "_read_number", defArgs s__read_number, defBody s__read_number, defScope s__read_number, [], []⟩
def dd__read_store : He.DefD := ⟨("_read_store", none), "_read_store", "_read_store", defArgs s__read_store, defBody s__read_store, defScope s__read_store, [], []⟩
def dd__read_branch : He.DefD := ⟨("_read_branch", none), "_read_branch", "_read_branch", defArgs s__read_branch, defBody s__read_branch, defScope s__read_branch, [], []⟩
def dd__read_upper : He.DefD := ⟨("_read_upper", none), "_read_upper", "_read_upper", defArgs s__read_upper, defBody s__read_upper, defScope s__read_upper, [], []⟩
def dd__read_jump : He.DefD := ⟨("_read_jump", none), "_read_jump", "_read_jump", defArgs s__read_jump, defBody s__read_jump, defScope s__read_jump, [], []⟩
def dd__read_whole : He.DefD := ⟨("_read_whole", none), "_read_whole", "_read_whole", defArgs s__read_whole, defBody s__read_whole, defScope s__read_whole, [], []⟩
def dd_instruction_text : He.DefD := ⟨("instruction_text", none), "instruction_text", "instruction_text", defArgs s_instruction_text, defBody s_instruction_text, defScope s_instruction_text, [], []⟩
def dd_instruction_by : He.DefD := ⟨("instruction_by", none), "instruction_by", "instruction_by", defArgs s_instruction_by, defBody s_instruction_by, defScope s_instruction_by, [], []⟩
def dd__parts_put : He.DefD := ⟨("_parts_put", none), "_parts_put", "_parts_put", defArgs s__parts_put, defBody s__parts_put, defScope s__parts_put, [], []⟩
def dd__register : He.DefD := ⟨("_register", none), "_register", "_register", defArgs s__register, defBody s__register, defScope s__register, [], []⟩
def dd__number : He.DefD := ⟨("_number", none), "_number", "_number", defArgs s__number, defBody s__number, defScope s__number, [], []⟩
def dd__law_cell_at : He.DefD := ⟨("_law_cell_at", none), "_law_cell_at", "_law_cell_at", defArgs s__law_cell_at, defBody s__law_cell_at, defScope s__law_cell_at, [], []⟩
def dd__law_draw : He.DefD := ⟨("_law_draw", none), "_law_draw", "_law_draw", defArgs s__law_draw, defBody s__law_draw, defScope s__law_draw, [], []⟩
def dd__law_number : He.DefD := ⟨("_law_number", none), "_law_number", "_law_number", defArgs s__law_number, defBody s__law_number, defScope s__law_number, [], []⟩
def dd__law_next : He.DefD := ⟨("_law_next", none), "_law_next", "_law_next", defArgs s__law_next, defBody s__law_next, defScope s__law_next, [], []⟩
def dd__law_bits : He.DefD := ⟨("_law_bits", none), "_law_bits", "_law_bits", defArgs s__law_bits, defBody s__law_bits, defScope s__law_bits, [], []⟩
def dd__law_sum : He.DefD := ⟨("_law_sum", none), "_law_sum", "_law_sum", defArgs s__law_sum, defBody s__law_sum, defScope s__law_sum, [], []⟩
def dd__law_tables : He.DefD := ⟨("_law_tables", none), "_law_tables", "_law_tables", defArgs s__law_tables, defBody s__law_tables, defScope s__law_tables, [], []⟩
def dd__law_all : He.DefD := ⟨("_law_all", none), "_law_all", "_law_all", defArgs s__law_all, defBody s__law_all, defScope s__law_all, [], []⟩
def dd__law_refused : He.DefD := ⟨("_law_refused", none), "_law_refused", "_law_refused", defArgs s__law_refused, defBody s__law_refused, defScope s__law_refused, [], []⟩
def dd_law : He.DefD := ⟨("law", none), "law", "law", defArgs s_law, defBody s_law, defScope s_law, [], []⟩
def dd_BadForm___init__ : He.DefD := ⟨("BadForm", some "__init__"), "__init__", "BadForm.__init__", defArgs s_BadForm___init__, defBody s_BadForm___init__, defScope s_BadForm___init__, [], []⟩
def hfn : List He.DefD := ([dd_is_number, dd_encode, dd__are_registers, dd__is_distance, dd__write_three, dd__write_number, dd__write_store, dd__write_branch, dd__write_upper, dd__write_jump, dd__write_whole, dd_decode, dd__with_sign, dd__read_three, dd__read_number, dd__read_store, dd__read_branch, dd__read_upper, dd__read_jump, dd__read_whole] : List He.DefD) ++ ([dd_instruction_text, dd_instruction_by, dd__parts_put, dd__register, dd__number, dd__law_cell_at, dd__law_draw, dd__law_number, dd__law_next, dd__law_bits, dd__law_sum, dd__law_tables, dd__law_all, dd__law_refused, dd_law, dd_BadForm___init__] : List He.DefD)
def hfa : List He.Fa := ([.glo "is_number", .glo "encode", .glo "_are_registers", .glo "_is_distance", .glo "_write_three", .glo "_write_number", .glo "_write_store", .glo "_write_branch", .glo "_write_upper", .glo "_write_jump", .glo "_write_whole", .glo "decode", .glo "_with_sign", .glo "_read_three", .glo "_read_number", .glo "_read_store", .glo "_read_branch", .glo "_read_upper", .glo "_read_jump", .glo "_read_whole"] : List He.Fa) ++ ([.glo "instruction_text", .glo "instruction_by", .glo "_parts_put", .glo "_register", .glo "_number", .glo "_law_cell_at", .glo "_law_draw", .glo "_law_number", .glo "_law_next", .glo "_law_bits", .glo "_law_sum", .glo "_law_tables", .glo "_law_all", .glo "_law_refused", .glo "law", .glo "FORMS", .glo "BY_LAST_BITS", .glo "WRITERS", .glo "READERS", .glo "REGISTERS"] : List He.Fa) ++ ([.glo "LOADS", .glo "BadForm", .free "len", .free "tuple", .free "isinstance", .free "str", .free "int", .free "bool", .free "all", .free "enumerate", .free "range", .free "sum", .int "MOST_REGISTER" (31), .int "HALF_NUMBER" (2048), .int "HALF_BRANCH" (4096), .int "HALF_JUMP" (1048576), .int "MOST_SIGNS" (8), .str "FIGURES" "0123456789"] : List He.Fa)
def hts : List He.Tab := [(fun K => He.ga K "FORMS", ((["add", "sub", "sll", "slt", "sltu", "xor", "srl", "sra", "or", "and", "mul", "mulh", "mulhsu", "mulhu", "div", "divu", "rem", "remu", "addi", "slti"] : List Str) ++ (["sltiu", "xori", "ori", "andi", "slli", "srli", "srai", "lb", "lh", "lw", "lbu", "lhu", "jalr", "sb", "sh", "sw", "beq", "bne", "blt", "bge"] : List Str) ++ (["bltu", "bgeu", "lui", "auipc", "jal", "ecall", "ebreak", "fence"] : List Str))), (fun K => He.ga K "WRITERS", ["three", "number", "shift", "store", "branch", "upper", "jump", "whole"]), (fun K => He.ga K "READERS", ["three", "number", "shift", "store", "branch", "upper", "jump", "whole"])]
def allF : List Fo := [.three, .number, .shift, .store, .branch, .upper, .jump, .whole]
theorem allF_mem (f : Fo) : f ∈ allF := by cases f <;> simp [allF]
def keyB (e : DictEntry) : Bool := match e.key with
  | .str s _ => (posOf nms s).isSome
  | _ => false
def keysB (K : PySem.W.Frag) (d : Addr) : Bool := match K.lookup d with
  | some ⟨_, _, .dict es _, _⟩ => es.toList.all fun e => keyB e && !e.refKey
  | _ => false
theorem keysB_ok {K : PySem.W.Frag} {d : Addr} (h : keysB K d = true) (s : Str) (hs : posOf nms s = none) : PySem.W.nsIn K d s = some none := by
  unfold keysB at h
  unfold PySem.W.nsIn
  split at h
  · rename_i a b es n sl hl
    rw [hl]
    dsimp only
    have h1 : ∀ e ∈ es.toList, e.key.isStr s = false := by
      intro e he
      obtain ⟨h2, _⟩ := He.ba (List.all_eq_true.mp h e he)
      unfold keyB at h2
      cases ek : e.key with
      | str z t =>
        rw [ek] at h2
        cases q : (Value.str z t).isStr s with
        | false => rfl
        | true =>
          have e1 : z = s := by simpa [Value.isStr] using q
          rw [e1] at h2
          have h2 : (posOf nms s).isSome = true := h2
          rw [hs] at h2
          cases h2
      | _ => rw [ek] at h2; cases h2
    have h3 : es.toList.find? (fun e => e.key.isStr s) = none := List.find?_eq_none.mpr fun e he => by rw [h1 e he]; exact Bool.false_ne_true
    have h4 : (es.toList.any fun e => e.refKey) = false := by
      rw [List.any_eq_false]
      intro e he
      obtain ⟨_, h5⟩ := He.ba (List.all_eq_true.mp h e he)
      rw [Bool.not_eq_true'] at h5
      rw [h5]; exact Bool.false_ne_true
    rw [h3]
    dsimp only
    rw [if_neg (by rw [h4]; exact Bool.false_ne_true)]
  · cases h
def tyB (K : PySem.W.Frag) (a : Addr) : Bool := match K.lookup a with
  | some ⟨.type c, none, _, _⟩ => decide (c = "tuple")
  | _ => false
theorem tyB_ok {K : PySem.W.Frag} {a : Addr} (h : tyB K a = true) : ∃ o, K.lookup a = some o ∧ o.cls = .type "tuple" ∧ o.dict = none := by
  unfold tyB at h
  split at h
  · rename_i c dt sl hl
    have e := of_decide_eq_true h
    subst e
    exact ⟨_, hl, rfl, rfl⟩
  · cases h
def byKeys : List Int := [51, 19, 3, 103, 35, 99, 55, 23, 111, 115, 15]
def byB (K : PySem.W.Frag) (d : Addr) : Bool := Kg.kintB K d (byKeys.map fun l => (l, (byl l).map fun o => V.str (nm o))) && (match K.lookup d with
  | some ⟨_, _, .dict es _, _⟩ => (List.range 128).all fun (l : Nat) => !(byl (l : Int)).isEmpty || (findBy Value.isInt es (l : Int)).isNone
  | _ => false)
theorem byl_keys : ∀ l : Nat, l < 128 → byl (l : Int) ≠ [] → (l : Int) ∈ byKeys := by decide +kernel
theorem byB_ok {K : PySem.W.Frag} {d : Addr} (h : byB K d = true) : ∃ es n, Kg.KInt K d es n ∧ ∀ l : Int, 0 ≤ l → l < 128 → (byl l = [] → findBy Value.isInt es l = none) ∧ (byl l ≠ [] → ∃ a, findBy Value.isInt es l = some (.ref a) ∧ ∀ H : Hp, SqT K H a ((byl l).map fun o => V.str (nm o))) := by
  unfold byB at h
  obtain ⟨h1, h2⟩ := He.ba h
  obtain ⟨es, n, kd, hq⟩ := Kg.kintB_ok h1
  rw [kd.at_] at h2
  refine ⟨es, n, kd, fun l l0 l1 => ?_⟩
  obtain ⟨m, rfl⟩ := Int.eq_ofNat_of_zero_le l0
  have hm : m < 128 := by omega
  refine ⟨fun hb => ?_, fun hb => ?_⟩
  · have h2 : ((List.range 128).all fun (l : Nat) => !(byl (l : Int)).isEmpty || (findBy Value.isInt es (l : Int)).isNone) = true := h2
    have h3 := List.all_eq_true.mp h2 m (List.mem_range.mpr hm)
    rw [hb] at h3
    cases e : findBy Value.isInt es (m : Int) with
    | none => rfl
    | some u =>
      have h3 : (findBy Value.isInt es (m : Int)).isNone = true := h3
      rw [e] at h3; cases h3
  · exact hq _ (List.mem_map.mpr ⟨(m : Int), byl_keys m hm hb, rfl⟩)
def bfB (K : PySem.W.Frag) (C : Addr) : Bool := PySem.W.excInitIn K C Bt.exB "Exception.__new__" && (PySem.W.excOver K C Bt.exB && ((match PySem.W.clsIn K C with
    | some cd => cd.hasDict
    | none => false) && (He.eqO (PySem.W.findIn K (.ref C) "__setattr__") (some (some (.builtin "object.__setattr__"))) && (He.eqO (PySem.W.findIn K (.ref C) "__getattribute__") (some (some (.builtin "BaseException.__getattribute__"))) &&
  (He.eqO (PySem.W.findIn K (.ref C) "__getattr__") (some none) && (He.eqO (PySem.W.findIn K (.ref C) "thing") (some none) && (He.eqO (PySem.W.findIn K (.ref C) "__init__") (some (some (.ref (He.ma K C "__init__")))) &&
  (decide (PySem.W.typeIn K (.ref (He.ma K C "__init__")) = some (.type "function")) && (PySem.W.keepIn K (.ref C) && (decide (PySem.W.subIn K (.ref C) (.type "BaseException") = some true) && (decide (PySem.W.typeIn K (.ref C) = some (.type "type")) && (PySem.W.hasDictIn K C && decide (PySem.W.exmOne K (.ref C) (.ref C) = some true)))))))))))))
def hex (K : PySem.W.Frag) : Bool := (((List.range 48).all fun o => Kg.entA K (He.ga K "FORMS") (nm o) [.str (foS (fo o)), .int (la o), .int (pa o), .int (fi o)]) && ((keysB K (He.ga K "FORMS")) && ((He.valsB K (He.ga K "WRITERS") (allF.map fun f => (foS f, He.Dv.glo (wnm f)))) && ((He.tupB K "REGISTERS" (regs.map He.Dv.str)) && ((He.tupB K "LOADS" (loads.map He.Dv.str)) && ((tyB K (He.ga K "REGISTERS")) && ((bfB K (He.ga K "BadForm")) && ((He.valsB K (He.ga K "READERS") (allF.map fun f => (foS f, He.Dv.glo (rnm f)))) && ((byB K (He.ga K "BY_LAST_BITS")) && true)))))))))
abbrev hk : PySem.W.Hook := He.hookX 5 hfa hfn hts [] hex
def hob (s : PySem.W.SharedT) : He.AlX := He.obsX 5 hfa hfn hts [] hex (HandSHeadRun.getT s)
theorem hob_eq (s : PySem.W.SharedT) : hob s = hk.obs s.abs := He.obsX_eq (HandSHeadRun.getT_eq s)
def hloose : List Str := (["ImageError", "BadForm", "is_number", "FORMS", "BY_LAST_BITS", "MOST_REGISTER", "HALF_NUMBER", "HALF_BRANCH", "HALF_JUMP", "encode", "_are_registers", "_is_distance", "_write_three", "_write_number", "_write_store", "_write_branch", "_write_upper", "_write_jump", "_write_whole", "decode"] : List Str) ++ (["_with_sign", "_read_three", "_read_number", "_read_store", "_read_branch", "_read_upper", "_read_jump", "_read_whole", "WRITERS", "READERS", "REGISTERS", "LOADS", "FIGURES", "MOST_SIGNS", "instruction_text", "instruction_by", "_parts_put", "_register", "_number", "_law_cell_at"] : List Str) ++ (["_law_draw", "_law_number", "_law_next", "_law_bits", "_law_sum", "_law_tables", "_law_all", "_law_refused"] : List Str)
theorem hrunF (w : World) : HandSHeadRun.RunEq (PySem.W.OpenLaw.row PySem.Challenge.rw_trueimage_k66_forms_told) (PySem.W.view (PySem.W.OpenLaw.row PySem.Challenge.rw_trueimage_k66_forms_told).prog [53]) hk hob 9000 hloose (w.withFollow "special-get-raises" false) := by
  intro os
  kernel_rfl
theorem hrunT (w : World) : HandSHeadRun.RunEq (PySem.W.OpenLaw.row PySem.Challenge.rw_trueimage_k66_forms_told) (PySem.W.view (PySem.W.OpenLaw.row PySem.Challenge.rw_trueimage_k66_forms_told).prog [53]) hk hob 9000 hloose (w.withFollow "special-get-raises" true) := by
  intro os
  kernel_rfl
theorem hrun (w : World) : HandSHeadRun.RunEq (PySem.W.OpenLaw.row PySem.Challenge.rw_trueimage_k66_forms_told) (PySem.W.view (PySem.W.OpenLaw.row PySem.Challenge.rw_trueimage_k66_forms_told).prog [53]) hk hob 9000 hloose w := PySem.W.byRow2 "special-get-raises" (P := fun w => HandSHeadRun.RunEq (PySem.W.OpenLaw.row PySem.Challenge.rw_trueimage_k66_forms_told) (PySem.W.view (PySem.W.OpenLaw.row PySem.Challenge.rw_trueimage_k66_forms_told).prog [53]) hk hob 9000 hloose w) hrunF hrunT w
end K66E


namespace K66
open PySem PyProof.Rows L2 My Ru I6
open Builtin (bitAnd bitOr)
section
variable {P : Program} {w : World} {K : PySem.W.Frag} {mg : Str → Option Value} {base : Heap}
theorem sc_is_number : FnScope ["thing", "least", "most"] ["thing", "least", "most"] (defScope s_is_number) := ⟨rfl, rfl, rfl, by decide +kernel, rfl, by decide +kernel, by decide +kernel⟩
theorem g_is_number (T : Txt K mg w)  : Gd P w K mg base CX0 1 "is_number" ["thing", "least", "most"] (sp_is_number K) := by
  have sc := sc_is_number
  refine T.d_is_number.ok sc len3 (fun _ _ _ _ _ _ us hl => match us, hl with | [_, _, _], _ => rfl) (fun f cdv A outer s H vs Q E hr h => ?_)
  obtain ⟨x0, x1, x2, rfl, h⟩ := h
  obtain ⟨n, a, b, rfl, rfl, rfl, h⟩ := h
  refine ⟨_, (pss_one (ps_ret (pe_and (pe_callB call_isi (by rfl) T.n_isinstance (by decide +kernel) (pa_cons (pv 0) (pa_cons (pe_bltn (v := .ty "int") (u := .type "int") (by rfl) T.n_int (by decide +kernel) rfl) pa_nil))) (pe_and (pe_not (pe_callB call_isi (by rfl) T.n_isinstance (by decide +kernel) (pa_cons (pv 0) (pa_cons (pe_bltn (v := .ty "bool") (u := .type "bool") (by rfl) T.n_bool (by decide +kernel) rfl) pa_nil)))) (pe_one (pe_chain op_le op_le (pv 1) (pv 0) (pv 2))))))), ?_⟩
  cases n with
  | none =>
    refine ⟨_, rfl, _, _, .type "NoneType", .type "int", false, rfl, .ty "int", .base .non, kit_ty (by decide +kernel), false, rfl, ?_⟩
    refine if_false_of rfl ?_
    exact h
  | some n =>
    refine ⟨_, rfl, _, _, .type "int", .type "int", true, rfl, .ty "int", .base (.int _), kit_ty (by decide +kernel), true, rfl, ?_⟩
    refine if_true_of rfl ?_
    refine ⟨_, rfl, _, _, .type "int", .type "bool", false, rfl, .ty "bool", .base (.int _), kit_ty (by decide +kernel), false, rfl, true, rfl, ?_⟩
    refine if_true_of rfl ?_
    refine ⟨_, rfl, _, rfl, _, _, rfl, rfl, decide (a ≤ n), rfl, ?_⟩
    unfold isN at h
    dsimp only at h
    by_cases c : a ≤ n
    · rw [decide_eq_true c] at h ⊢
      refine if_true_of rfl ?_
      refine ⟨_, rfl, _, _, rfl, rfl, ?_⟩
      rw [Bool.true_and] at h
      exact h
    · rw [decide_eq_false c] at h ⊢
      refine if_false_of rfl ?_
      exact h
theorem sc__are_registers : FnScope ["one", "other", "third", "thing"] ["one", "other", "third"] (defScope s__are_registers) := ⟨rfl, rfl, rfl, by decide +kernel, rfl, by decide +kernel, by decide +kernel⟩
theorem g__are_registers (T : Txt K mg w) (G_is_number : Gd P w K mg base CX0 1 "is_number" ["thing", "least", "most"] (sp_is_number K)) : Gd P w K mg base CX0 2 "_are_registers" ["one", "other", "third"] (sp__are_registers K) := by
  have sc := sc__are_registers
  refine T.d__are_registers.ok sc len3 (fun _ _ _ _ _ _ us hl => match us, hl with | [_, _, _], _ => rfl) (fun f cdv A outer s H vs Q E hr h => ?_)
  obtain ⟨x0, x1, x2, rfl, h⟩ := h
  obtain ⟨a, b, c, rfl, rfl, rfl, h⟩ := h
  refine ⟨_, (pss_one (ps_ret (pe_callB (cr_all rfl) (by rfl) T.n_all (by decide +kernel) (pa_cons (pe_lc (own := [("thing", 3)]) (g := gName 3) (by rfl) sc.nd (pi_tup (pe_tup (pa_cons (pv 0) (pa_cons (pv 1) (pa_cons (pv 2) pa_nil))))) (blkOk_by (own := [("thing", 3)]) (N := ["one", "other", "third", "thing"]) (sc := defScope s__are_registers) (by decide +kernel)) (fun _ _ _ _ _ => (pg_name (i := 3) sc.nd rfl (Or.inl rfl))) (fun _ _ _ _ _ => pts_nil) (fun _ _ _ _ _ => (pe_g G_is_number (hr.mono (by omega)) pass0 (pa_cons (pv 3) (pa_cons pe_int (pa_cons (pe_gint T.c_MOST_REGISTER) pa_nil)))))) pa_nil)))), ?_⟩
  refine ⟨_, rfl, _, rfl, _, rfl, (by show 3 ≤ sizeLine; decide), fun t ht => ⟨t, rfl, ⟨_, SqT.of upd_same⟩, fun D hD => ?_⟩⟩
  have htD : t ≠ D := fun z => by rw [z, upd_same] at hD; cases hD
  refine lc_tup (a := t) (xs := [vO a, vO b, vO c]) (fun i H' => Same (upd H t (.tup [vO a, vO b, vO c])) H' ∧ H' D = some (.lst (([a, b, c].take i).map fun x => V.bl (isN x 0 31)))) ⟨same_new hD, upd_same⟩ (fun i H' _ p => SqT.of (p.1 _ _ upd_same)) (fun i x H' hx p => ?_) (fun H' p => ?_)
  · have hn : ∃ n : O, x = vO n ∧ [a, b, c].take (i + 1) = [a, b, c].take i ++ [n] := by
      match i, hx with
      | 0, hx => injection hx with hx; exact ⟨a, hx.symm, rfl⟩
      | 1, hx => injection hx with hx; exact ⟨b, hx.symm, rfl⟩
      | 2, hx => injection hx with hx; exact ⟨c, hx.symm, rfl⟩
      | i + 3, hx => simp at hx
    have hi : i < 3 := by
      by_cases z : i < 3
      · exact z
      · rw [List.getElem?_eq_none (by show 3 ≤ i; omega)] at hx; cases hx
    obtain ⟨n, rfl, hn⟩ := hn
    refine ⟨rfl, ?_⟩
    dsimp only [tYes]
    rw [if_pos rfl]
    refine ⟨_, rfl, _, _, _, rfl, n, 0, 31, rfl, rfl, rfl, ?_⟩
    refine ⟨_, p.2, (by rw [List.length_map, List.length_take]; exact tup_lt (by omega)), fun x o e => ?_, ?_⟩
    · by_cases z : x = D
      · rw [z, upd_ne htD.symm] at e
        rw [upd_ne htD.symm] at hD
        rw [hD] at e; cases e
      · rw [upd_ne z]; exact p.1 _ _ e
    · rw [upd_same, hn, List.map_append]; rfl
  · refine ⟨D, [isN a 0 31, isN b 0 31, isN c 0 31], rfl, SqL.of (by rw [p.2]; rfl), ?_⟩
    have e : ([isN a 0 31, isN b 0 31, isN c 0 31].all id) = (isN a 0 31 && (isN b 0 31 && isN c 0 31)) := by
      cases isN a 0 31 <;> cases isN b 0 31 <;> cases isN c 0 31 <;> rfl
    show Q (V.bl ([isN a 0 31, isN b 0 31, isN c 0 31].all id)) H'
    rw [e]
    exact h _ (Same.tr (same_new ht) p.1)
theorem sc__is_distance : FnScope ["thing", "half"] ["thing", "half"] (defScope s__is_distance) := ⟨rfl, rfl, rfl, by decide +kernel, rfl, by decide +kernel, by decide +kernel⟩
theorem g__is_distance (T : Txt K mg w) (G_is_number : Gd P w K mg base CX0 1 "is_number" ["thing", "least", "most"] (sp_is_number K)) : Gd P w K mg base CX0 2 "_is_distance" ["thing", "half"] (sp__is_distance K) := by
  have sc := sc__is_distance
  refine T.d__is_distance.ok sc len2 (fun _ _ _ _ _ _ us hl => match us, hl with | [_, _], _ => rfl) (fun f cdv A outer s H vs Q E hr h => ?_)
  obtain ⟨x0, x1, rfl, h⟩ := h
  obtain ⟨d, g, rfl, rfl, h⟩ := h
  refine ⟨_, (pss_one (ps_ret (pe_and (pe_g G_is_number (hr.mono (by omega)) pass0 (pa_cons (pv 0) (pa_cons (pe_un un_neg (pv 1)) (pa_cons (pe_op op_sub (pv 1) pe_int) pa_nil)))) (pe_one (pe_cmpR op_eq (pe_op op_and (pv 0) pe_int) pe_int (nomark _)))))), ?_⟩
  refine ⟨_, rfl, _, rfl, _, rfl, _, rfl, _, _, rfl, rfl, ?_⟩
  refine ⟨_, _, _, rfl, _, _, _, rfl, rfl, rfl, ?_⟩
  refine ⟨_, rfl, ?_⟩
  unfold dist at h
  cases e : isN d (-g) (g - 1) with
  | false =>
    rw [e] at h
    exact if_false_of rfl h
  | true =>
    rw [e, Bool.true_and] at h
    refine if_true_of rfl ?_
    cases d with
    | none => cases e
    | some d =>
      refine ⟨_, rfl, _, _, rfl, rfl, rfl, ?_⟩
      have e2 : decide (V.int (bitAnd d 1) = V.int 0) = decide (bitAnd d 1 = 0) := by
        by_cases q : bitAnd d 1 = 0
        · rw [decide_eq_true q, q]; rfl
        · rw [decide_eq_false q, decide_eq_false (fun z => q (V.int.inj z))]
      show Q (V.bl (decide (V.int (bitAnd d 1) = V.int 0))) H
      rw [e2]
      exact h
end
end K66

namespace K66
open PySem PyProof.Rows L2 My Ru I6
open Builtin (bitAnd bitOr)
theorem shl_ok {i j : Int} (h0 : 0 ≤ j) (h1 : j ≤ 1000) (h2 : -4294967296 ≤ i ∧ i ≤ 4294967296) : 0 ≤ j ∧ j ≤ 1000000 ∧ i.natAbs < 2 ^ 64 := by
  refine ⟨h0, by omega, ?_⟩
  have : (2 : Nat) ^ 64 = 18446744073709551616 := by decide
  omega
theorem and_lt {x m : Int} (h0 : 0 ≤ m) (h1 : m < 4294967296) : -4294967296 ≤ bitAnd x m ∧ bitAnd x m ≤ 4294967296 := by
  have := bitAnd_range x h0
  omega
theorem n0 : isN (some 0) 0 31 = true := by decide
theorem okn (x y z : O) : ok .number x y z = ((isN x 0 31 && (isN y 0 31 && isN (some 0) 0 31)) && isN z (-2048) 2047) := by
  rw [n0, Bool.and_true]; rfl
theorem oks (x y z : O) : ok .store x y z = ((isN x 0 31 && (isN y 0 31 && isN (some 0) 0 31)) && isN z (-2048) 2047) := by
  rw [n0, Bool.and_true]; rfl
theorem okb (x y z : O) : ok .branch x y z = ((isN x 0 31 && (isN y 0 31 && isN (some 0) 0 31)) && dist z 4096) := by
  rw [n0, Bool.and_true]; rfl
theorem oku (x y z : O) : ok .upper x y z = ((isN x 0 31 && (isN (some 0) 0 31 && isN (some 0) 0 31)) && (isN y 0 1048575 && isN z 0 0)) := by
  rw [n0, Bool.and_true, Bool.and_true]; rfl
theorem okj (x y z : O) : ok .jump x y z = ((isN x 0 31 && (isN (some 0) 0 31 && isN (some 0) 0 31)) && (dist y 1048576 && isN z 0 0)) := by
  rw [n0, Bool.and_true, Bool.and_true]; rfl
theorem wr_no {f : Fo} {a b c : O} (h : ok f a b c = false) : wrO f a b c = .non := by
  unfold wrO
  rw [h]; rfl
theorem wr_yes {f : Fo} {a b c : Int} (h : ok f (some a) (some b) (some c) = true) : wrO f (some a) (some b) (some c) = .int (wr f a b c) := by
  unfold wrO
  rw [if_pos h]; rfl
section
variable {P : Program} {w : World} {K : PySem.W.Frag} {mg : Str → Option Value} {base : Heap}
theorem sc__write_three : FnScope ["one", "other", "third"] ["one", "other", "third"] (defScope s__write_three) := ⟨rfl, rfl, rfl, by decide +kernel, rfl, by decide +kernel, by decide +kernel⟩
theorem g__write_three (T : Txt K mg w) (G__are_registers : Gd P w K mg base CX0 2 "_are_registers" ["one", "other", "third"] (sp__are_registers K)) : Gd P w K mg base CX0 3 "_write_three" ["one", "other", "third"] (sp__write_three K) := by
  have sc := sc__write_three
  refine T.d__write_three.ok sc len3 (fun _ _ _ _ _ _ us hl => match us, hl with | [_, _, _], _ => rfl) (fun f cdv A outer s H vs Q E hr h => ?_)
  obtain ⟨x0, x1, x2, rfl, h⟩ := h
  obtain ⟨a, b, c, rfl, rfl, rfl, h⟩ := h
  refine ⟨_, (pss_one (ps_ret (pe_ifExp (pt_val (pe_g G__are_registers (hr.mono (by omega)) pass0 (pa_cons (pv 0) (pa_cons (pv 1) (pa_cons (pv 2) pa_nil))))) (pe_op op_or (pe_op op_or (pe_op op_shl (pv 2) pe_int) (pe_op op_shl (pv 1) pe_int)) (pe_op op_shl (pv 0) pe_int)) pe_non))), ?_⟩
  refine ⟨_, rfl, _, rfl, _, rfl, _, _, _, rfl, a, b, c, rfl, rfl, rfl, fun H1 s1 => ⟨_, rfl, ?_⟩⟩
  have h1 := h H1 s1
  cases e : (isN a 0 31 && (isN b 0 31 && isN c 0 31)) with
  | false =>
    rw [wr_no (f := .three) e] at h1
    exact if_false_of rfl h1
  | true =>
    obtain ⟨a, b, c, rfl, rfl, rfl, ha, hb, hc⟩ := of_ok (f := .three) e
    rw [wr_yes (f := .three) e] at h1
    refine if_true_of rfl ?_
    refine ⟨_, rfl, _, _, rfl, rfl, shl_ok (by decide) (by decide) (by omega), _, rfl, _, _, rfl, rfl, shl_ok (by decide) (by decide) (by omega), _, _, rfl, rfl, _, rfl, _, _, rfl, rfl, shl_ok (by decide) (by decide) (by omega), _, _, rfl, rfl, ?_⟩
    exact h1
theorem sc__write_number : FnScope ["one", "other", "number"] ["one", "other", "number"] (defScope s__write_number) := ⟨rfl, rfl, rfl, by decide +kernel, rfl, by decide +kernel, by decide +kernel⟩
theorem g__write_number (T : Txt K mg w) (G__are_registers : Gd P w K mg base CX0 2 "_are_registers" ["one", "other", "third"] (sp__are_registers K)) (G_is_number : Gd P w K mg base CX0 1 "is_number" ["thing", "least", "most"] (sp_is_number K)) : Gd P w K mg base CX0 3 "_write_number" ["one", "other", "number"] (sp__write_number K) := by
  have sc := sc__write_number
  refine T.d__write_number.ok sc len3 (fun _ _ _ _ _ _ us hl => match us, hl with | [_, _, _], _ => rfl) (fun f cdv A outer s H vs Q E hr h => ?_)
  obtain ⟨x0, x1, x2, rfl, h⟩ := h
  obtain ⟨a, b, c, rfl, rfl, rfl, h⟩ := h
  refine ⟨_, (pss_cons (ps_if (PW.pt (pw_or (pt_not (pt_val (pe_g G__are_registers (hr.mono (by omega)) pass0 (pa_cons (pv 0) (pa_cons (pv 1) (pa_cons pe_int pa_nil)))))) (pw_or1 (pt_not (pt_val (pe_g G_is_number (hr.mono (by omega)) pass0 (pa_cons (pv 2) (pa_cons (pe_un un_neg (pe_gint T.c_HALF_NUMBER)) (pa_cons (pe_op op_sub (pe_gint T.c_HALF_NUMBER) pe_int) pa_nil))))))))) (pss_one (ps_ret pe_non)) pss_nil)
      (pss_one (ps_ret (pe_op op_or (pe_op op_or (pe_op op_shl (pe_op op_and (pv 2) pe_int) pe_int) (pe_op op_shl (pv 1) pe_int)) (pe_op op_shl (pv 0) pe_int))))), ?_⟩
  refine ⟨_, rfl, _, rfl, _, _, _, rfl, a, b, some 0, rfl, rfl, rfl, fun H1 s1 => ⟨_, rfl, ?_⟩⟩
  have h1 := h H1 s1
  have ek := okn a b c
  cases e1 : (isN a 0 31 && (isN b 0 31 && isN (some 0) 0 31)) with
  | false =>
    rw [e1, Bool.false_and] at ek
    rw [wr_no ek] at h1
    exact if_true_of rfl h1
  | true =>
    rw [e1, Bool.true_and] at ek
    refine if_false_of rfl ?_
    refine ⟨_, rfl, _, rfl, _, _, rfl, rfl, _, _, _, rfl, c, -2048, 2047, rfl, rfl, rfl, _, rfl, ?_⟩
    cases e2 : isN c (-2048) 2047 with
    | false =>
      rw [e2] at ek
      rw [wr_no ek] at h1
      exact if_true_of rfl h1
    | true =>
      rw [e2] at ek
      obtain ⟨a, b, c, rfl, rfl, rfl, ha, hb, hc⟩ := of_ok ek
      rw [wr_yes ek] at h1
      refine if_false_of rfl ?_
      refine ⟨_, rfl, _, _, rfl, rfl, _, _, rfl, rfl, shl_ok (by decide) (by decide) (and_lt (by decide) (by decide)), _, rfl, _, _, rfl, rfl, shl_ok (by decide) (by decide) (by omega), _, _, rfl, rfl, _, rfl, _, _, rfl, rfl, shl_ok (by decide) (by decide) (by omega), _, _, rfl, rfl, ?_⟩
      exact h1
theorem sc__write_store : FnScope ["one", "other", "number"] ["one", "other", "number"] (defScope s__write_store) := ⟨rfl, rfl, rfl, by decide +kernel, rfl, by decide +kernel, by decide +kernel⟩
theorem g__write_store (T : Txt K mg w) (G__are_registers : Gd P w K mg base CX0 2 "_are_registers" ["one", "other", "third"] (sp__are_registers K)) (G_is_number : Gd P w K mg base CX0 1 "is_number" ["thing", "least", "most"] (sp_is_number K)) : Gd P w K mg base CX0 3 "_write_store" ["one", "other", "number"] (sp__write_store K) := by
  have sc := sc__write_store
  refine T.d__write_store.ok sc len3 (fun _ _ _ _ _ _ us hl => match us, hl with | [_, _, _], _ => rfl) (fun f cdv A outer s H vs Q E hr h => ?_)
  obtain ⟨x0, x1, x2, rfl, h⟩ := h
  obtain ⟨a, b, c, rfl, rfl, rfl, h⟩ := h
  refine ⟨_, (pss_cons (ps_if (PW.pt (pw_or (pt_not (pt_val (pe_g G__are_registers (hr.mono (by omega)) pass0 (pa_cons (pv 0) (pa_cons (pv 1) (pa_cons pe_int pa_nil)))))) (pw_or1 (pt_not (pt_val (pe_g G_is_number (hr.mono (by omega)) pass0 (pa_cons (pv 2) (pa_cons (pe_un un_neg (pe_gint T.c_HALF_NUMBER)) (pa_cons (pe_op op_sub (pe_gint T.c_HALF_NUMBER) pe_int) pa_nil))))))))) (pss_one (ps_ret pe_non)) pss_nil)
      (pss_one (ps_ret (pe_op op_or (pe_op op_or (pe_op op_or (pe_op op_shl (pe_op op_and (pe_op op_shr (pv 2) pe_int) pe_int) pe_int) (pe_op op_shl (pv 1) pe_int)) (pe_op op_shl (pv 0) pe_int)) (pe_op op_shl (pe_op op_and (pv 2) pe_int) pe_int))))), ?_⟩
  refine ⟨_, rfl, _, rfl, _, _, _, rfl, a, b, some 0, rfl, rfl, rfl, fun H1 s1 => ⟨_, rfl, ?_⟩⟩
  have h1 := h H1 s1
  have ek := oks a b c
  cases e1 : (isN a 0 31 && (isN b 0 31 && isN (some 0) 0 31)) with
  | false =>
    rw [e1, Bool.false_and] at ek
    rw [wr_no ek] at h1
    exact if_true_of rfl h1
  | true =>
    rw [e1, Bool.true_and] at ek
    refine if_false_of rfl ?_
    refine ⟨_, rfl, _, rfl, _, _, rfl, rfl, _, _, _, rfl, c, -2048, 2047, rfl, rfl, rfl, _, rfl, ?_⟩
    cases e2 : isN c (-2048) 2047 with
    | false =>
      rw [e2] at ek
      rw [wr_no ek] at h1
      exact if_true_of rfl h1
    | true =>
      rw [e2] at ek
      obtain ⟨a, b, c, rfl, rfl, rfl, ha, hb, hc⟩ := of_ok ek
      rw [wr_yes ek] at h1
      refine if_false_of rfl ?_
      refine ⟨_, rfl, _, _, rfl, rfl, (by dsimp only; decide), _, _, rfl, rfl, _, _, rfl, rfl, shl_ok (by decide) (by decide) (and_lt (by decide) (by decide)), ?_⟩
      refine ⟨_, rfl, _, _, rfl, rfl, shl_ok (by decide) (by decide) (by omega), _, _, rfl, rfl, ?_⟩
      refine ⟨_, rfl, _, _, rfl, rfl, shl_ok (by decide) (by decide) (by omega), _, _, rfl, rfl, ?_⟩
      refine ⟨_, rfl, _, _, rfl, rfl, _, _, rfl, rfl, shl_ok (by decide) (by decide) (and_lt (by decide) (by decide)), _, _, rfl, rfl, ?_⟩
      exact h1
theorem sc__write_branch : FnScope ["one", "other", "distance", "high"] ["one", "other", "distance"] (defScope s__write_branch) := ⟨rfl, rfl, rfl, by decide +kernel, rfl, by decide +kernel, by decide +kernel⟩
theorem g__write_branch (T : Txt K mg w) (G__are_registers : Gd P w K mg base CX0 2 "_are_registers" ["one", "other", "third"] (sp__are_registers K)) (G__is_distance : Gd P w K mg base CX0 2 "_is_distance" ["thing", "half"] (sp__is_distance K)) : Gd P w K mg base CX0 3 "_write_branch" ["one", "other", "distance"] (sp__write_branch K) := by
  have sc := sc__write_branch
  refine T.d__write_branch.ok sc len3 (fun _ _ _ _ _ _ us hl => match us, hl with | [_, _, _], _ => rfl) (fun f cdv A outer s H vs Q E hr h => ?_)
  obtain ⟨x0, x1, x2, rfl, h⟩ := h
  obtain ⟨a, b, c, rfl, rfl, rfl, h⟩ := h
  refine ⟨_, (pss_cons (ps_if (PW.pt (pw_or (pt_not (pt_val (pe_g G__are_registers (hr.mono (by omega)) pass0 (pa_cons (pv 0) (pa_cons (pv 1) (pa_cons pe_int pa_nil)))))) (pw_or1 (pt_not (pt_val (pe_g G__is_distance (hr.mono (by omega)) pass0 (pa_cons (pv 2) (pa_cons (pe_gint T.c_HALF_BRANCH) pa_nil)))))))) (pss_one (ps_ret pe_non)) pss_nil)
      (pss_cons (ps_set (i := 3) sc.nd rfl (Or.inl rfl) (pe_op op_or (pe_op op_shl (pe_op op_and (pe_op op_shr (pv 2) pe_int) pe_int) pe_int) (pe_op op_shl (pe_op op_and (pe_op op_shr (pv 2) pe_int) pe_int) pe_int)))
      (pss_one (ps_ret (pe_op op_or (pe_op op_or (pe_op op_or (pe_op op_or (pv 3) (pe_op op_shl (pv 1) pe_int)) (pe_op op_shl (pv 0) pe_int)) (pe_op op_shl (pe_op op_and (pe_op op_shr (pv 2) pe_int) pe_int) pe_int)) (pe_op op_shl (pe_op op_and (pe_op op_shr (pv 2) pe_int) pe_int) pe_int)))))), ?_⟩
  refine ⟨_, rfl, _, rfl, _, _, _, rfl, a, b, some 0, rfl, rfl, rfl, fun H1 s1 => ⟨_, rfl, ?_⟩⟩
  have h1 := h H1 s1
  have ek := okb a b c
  cases e1 : (isN a 0 31 && (isN b 0 31 && isN (some 0) 0 31)) with
  | false =>
    rw [e1, Bool.false_and] at ek
    rw [wr_no ek] at h1
    exact if_true_of rfl h1
  | true =>
    rw [e1, Bool.true_and] at ek
    refine if_false_of rfl ?_
    refine ⟨_, rfl, _, _, rfl, c, 4096, rfl, rfl, _, rfl, ?_⟩
    cases e2 : dist c 4096 with
    | false =>
      rw [e2] at ek
      rw [wr_no ek] at h1
      exact if_true_of rfl h1
    | true =>
      rw [e2] at ek
      obtain ⟨a, b, c, rfl, rfl, rfl, ha, hb, hc⟩ := of_ok ek
      rw [wr_yes ek] at h1
      refine if_false_of rfl ?_
      refine ⟨_, rfl, _, _, rfl, rfl, (by dsimp only; decide), _, _, rfl, rfl, _, _, rfl, rfl, shl_ok (by decide) (by decide) (and_lt (by decide) (by decide)), ?_⟩
      refine ⟨_, rfl, _, _, rfl, rfl, (by dsimp only; decide), _, _, rfl, rfl, _, _, rfl, rfl, shl_ok (by decide) (by decide) (and_lt (by decide) (by decide)), _, _, rfl, rfl, ?_⟩
      refine ⟨_, rfl, _, rfl, _, _, rfl, rfl, shl_ok (by decide) (by decide) (by omega), _, _, rfl, rfl, ?_⟩
      refine ⟨_, rfl, _, _, rfl, rfl, shl_ok (by decide) (by decide) (by omega), _, _, rfl, rfl, ?_⟩
      refine ⟨_, rfl, _, _, rfl, rfl, (by dsimp only; decide), _, _, rfl, rfl, _, _, rfl, rfl, shl_ok (by decide) (by decide) (and_lt (by decide) (by decide)), _, _, rfl, rfl, ?_⟩
      refine ⟨_, rfl, _, _, rfl, rfl, (by dsimp only; decide), _, _, rfl, rfl, _, _, rfl, rfl, shl_ok (by decide) (by decide) (and_lt (by decide) (by decide)), _, _, rfl, rfl, ?_⟩
      exact h1
theorem sc__write_upper : FnScope ["one", "number", "nought"] ["one", "number", "nought"] (defScope s__write_upper) := ⟨rfl, rfl, rfl, by decide +kernel, rfl, by decide +kernel, by decide +kernel⟩
theorem g__write_upper (T : Txt K mg w) (G__are_registers : Gd P w K mg base CX0 2 "_are_registers" ["one", "other", "third"] (sp__are_registers K)) (G_is_number : Gd P w K mg base CX0 1 "is_number" ["thing", "least", "most"] (sp_is_number K)) : Gd P w K mg base CX0 3 "_write_upper" ["one", "number", "nought"] (sp__write_upper K) := by
  have sc := sc__write_upper
  refine T.d__write_upper.ok sc len3 (fun _ _ _ _ _ _ us hl => match us, hl with | [_, _, _], _ => rfl) (fun f cdv A outer s H vs Q E hr h => ?_)
  obtain ⟨x0, x1, x2, rfl, h⟩ := h
  obtain ⟨a, b, c, rfl, rfl, rfl, h⟩ := h
  refine ⟨_, (pss_cons (ps_if (PW.pt (pw_or (pt_not (pt_val (pe_g G__are_registers (hr.mono (by omega)) pass0 (pa_cons (pv 0) (pa_cons pe_int (pa_cons pe_int pa_nil)))))) (pw_or (pt_not (pt_val (pe_g G_is_number (hr.mono (by omega)) pass0 (pa_cons (pv 1) (pa_cons pe_int (pa_cons (pe_op op_sub (pe_gint T.c_HALF_JUMP) pe_int) pa_nil)))))) (pw_or1 (pt_not (pt_val (pe_g G_is_number (hr.mono (by omega)) pass0 (pa_cons (pv 2) (pa_cons pe_int (pa_cons pe_int pa_nil)))))))))) (pss_one (ps_ret pe_non)) pss_nil)
      (pss_one (ps_ret (pe_op op_or (pe_op op_shl (pv 1) pe_int) (pe_op op_shl (pv 0) pe_int))))), ?_⟩
  refine ⟨_, rfl, _, _, _, rfl, a, some 0, some 0, rfl, rfl, rfl, fun H1 s1 => ⟨_, rfl, ?_⟩⟩
  have h1 := h H1 s1
  have ek := oku a b c
  cases e1 : (isN a 0 31 && (isN (some 0) 0 31 && isN (some 0) 0 31)) with
  | false =>
    rw [e1, Bool.false_and] at ek
    rw [wr_no ek] at h1
    exact if_true_of rfl h1
  | true =>
    rw [e1, Bool.true_and] at ek
    refine if_false_of rfl ?_
    refine ⟨_, rfl, _, _, rfl, rfl, _, _, _, rfl, b, 0, 1048575, rfl, rfl, rfl, _, rfl, ?_⟩
    cases e2 : isN b 0 1048575 with
    | false =>
      rw [e2, Bool.false_and] at ek
      rw [wr_no ek] at h1
      exact if_true_of rfl h1
    | true =>
      rw [e2, Bool.true_and] at ek
      refine if_false_of rfl ?_
      refine ⟨_, rfl, _, _, _, rfl, c, 0, 0, rfl, rfl, rfl, _, rfl, ?_⟩
      cases e3 : isN c 0 0 with
      | false =>
        rw [e3] at ek
        rw [wr_no ek] at h1
        exact if_true_of rfl h1
      | true =>
        rw [e3] at ek
        obtain ⟨a, b, c, rfl, rfl, rfl, ha, hb, hc⟩ := of_ok ek
        rw [wr_yes ek] at h1
        refine if_false_of rfl ?_
        refine ⟨_, rfl, _, _, rfl, rfl, shl_ok (by decide) (by decide) (by omega), _, rfl, _, _, rfl, rfl, shl_ok (by decide) (by decide) (by omega), _, _, rfl, rfl, ?_⟩
        exact h1
theorem sc__write_jump : FnScope ["one", "distance", "nought", "high"] ["one", "distance", "nought"] (defScope s__write_jump) := ⟨rfl, rfl, rfl, by decide +kernel, rfl, by decide +kernel, by decide +kernel⟩
theorem g__write_jump (T : Txt K mg w) (G__are_registers : Gd P w K mg base CX0 2 "_are_registers" ["one", "other", "third"] (sp__are_registers K)) (G__is_distance : Gd P w K mg base CX0 2 "_is_distance" ["thing", "half"] (sp__is_distance K)) (G_is_number : Gd P w K mg base CX0 1 "is_number" ["thing", "least", "most"] (sp_is_number K)) : Gd P w K mg base CX0 3 "_write_jump" ["one", "distance", "nought"] (sp__write_jump K) := by
  have sc := sc__write_jump
  refine T.d__write_jump.ok sc len3 (fun _ _ _ _ _ _ us hl => match us, hl with | [_, _, _], _ => rfl) (fun f cdv A outer s H vs Q E hr h => ?_)
  obtain ⟨x0, x1, x2, rfl, h⟩ := h
  obtain ⟨a, b, c, rfl, rfl, rfl, h⟩ := h
  refine ⟨_, (pss_cons (ps_if (PW.pt (pw_or (pt_not (pt_val (pe_g G__are_registers (hr.mono (by omega)) pass0 (pa_cons (pv 0) (pa_cons pe_int (pa_cons pe_int pa_nil)))))) (pw_or (pt_not (pt_val (pe_g G__is_distance (hr.mono (by omega)) pass0 (pa_cons (pv 1) (pa_cons (pe_gint T.c_HALF_JUMP) pa_nil))))) (pw_or1 (pt_not (pt_val (pe_g G_is_number (hr.mono (by omega)) pass0 (pa_cons (pv 2) (pa_cons pe_int (pa_cons pe_int pa_nil)))))))))) (pss_one (ps_ret pe_non)) pss_nil)
      (pss_cons (ps_set (i := 3) sc.nd rfl (Or.inl rfl) (pe_op op_or (pe_op op_shl (pe_op op_and (pe_op op_shr (pv 1) pe_int) pe_int) pe_int) (pe_op op_shl (pe_op op_and (pe_op op_shr (pv 1) pe_int) pe_int) pe_int)))
      (pss_one (ps_ret (pe_op op_or (pe_op op_or (pe_op op_or (pv 3) (pe_op op_shl (pe_op op_and (pe_op op_shr (pv 1) pe_int) pe_int) pe_int)) (pe_op op_shl (pe_op op_and (pe_op op_shr (pv 1) pe_int) pe_int) pe_int)) (pe_op op_shl (pv 0) pe_int)))))), ?_⟩
  refine ⟨_, rfl, _, _, _, rfl, a, some 0, some 0, rfl, rfl, rfl, fun H1 s1 => ⟨_, rfl, ?_⟩⟩
  have h1 := h H1 s1
  have ek := okj a b c
  cases e1 : (isN a 0 31 && (isN (some 0) 0 31 && isN (some 0) 0 31)) with
  | false =>
    rw [e1, Bool.false_and] at ek
    rw [wr_no ek] at h1
    exact if_true_of rfl h1
  | true =>
    rw [e1, Bool.true_and] at ek
    refine if_false_of rfl ?_
    refine ⟨_, rfl, _, _, rfl, b, 1048576, rfl, rfl, _, rfl, ?_⟩
    cases e2 : dist b 1048576 with
    | false =>
      rw [e2, Bool.false_and] at ek
      rw [wr_no ek] at h1
      exact if_true_of rfl h1
    | true =>
      rw [e2, Bool.true_and] at ek
      refine if_false_of rfl ?_
      refine ⟨_, rfl, _, _, _, rfl, c, 0, 0, rfl, rfl, rfl, _, rfl, ?_⟩
      cases e3 : isN c 0 0 with
      | false =>
        rw [e3] at ek
        rw [wr_no ek] at h1
        exact if_true_of rfl h1
      | true =>
        rw [e3] at ek
        obtain ⟨a, b, c, rfl, rfl, rfl, ha, hb, hc⟩ := of_ok ek
        rw [wr_yes ek] at h1
        refine if_false_of rfl ?_
        refine ⟨_, rfl, _, _, rfl, rfl, (by dsimp only; decide), _, _, rfl, rfl, _, _, rfl, rfl, shl_ok (by decide) (by decide) (and_lt (by decide) (by decide)), ?_⟩
        refine ⟨_, rfl, _, _, rfl, rfl, (by dsimp only; decide), _, _, rfl, rfl, _, _, rfl, rfl, shl_ok (by decide) (by decide) (and_lt (by decide) (by decide)), _, _, rfl, rfl, ?_⟩
        refine ⟨_, rfl, _, rfl, _, _, rfl, rfl, (by dsimp only; decide), _, _, rfl, rfl, _, _, rfl, rfl, shl_ok (by decide) (by decide) (and_lt (by decide) (by decide)), _, _, rfl, rfl, ?_⟩
        refine ⟨_, rfl, _, _, rfl, rfl, (by dsimp only; decide), _, _, rfl, rfl, _, _, rfl, rfl, shl_ok (by decide) (by decide) (and_lt (by decide) (by decide)), _, _, rfl, rfl, ?_⟩
        refine ⟨_, rfl, _, _, rfl, rfl, shl_ok (by decide) (by decide) (by omega), _, _, rfl, rfl, ?_⟩
        exact h1
theorem sc__write_whole : FnScope ["one", "other", "third"] ["one", "other", "third"] (defScope s__write_whole) := ⟨rfl, rfl, rfl, by decide +kernel, rfl, by decide +kernel, by decide +kernel⟩
theorem g__write_whole (T : Txt K mg w) (G_is_number : Gd P w K mg base CX0 1 "is_number" ["thing", "least", "most"] (sp_is_number K)) : Gd P w K mg base CX0 2 "_write_whole" ["one", "other", "third"] (sp__write_whole K) := by
  have sc := sc__write_whole
  refine T.d__write_whole.ok sc len3 (fun _ _ _ _ _ _ us hl => match us, hl with | [_, _, _], _ => rfl) (fun f cdv A outer s H vs Q E hr h => ?_)
  obtain ⟨x0, x1, x2, rfl, h⟩ := h
  obtain ⟨a, b, c, rfl, rfl, rfl, h⟩ := h
  refine ⟨_, (pss_one (ps_ret (pe_ifExp (PW.pt (pw_and (pt_val (pe_g G_is_number (hr.mono (by omega)) pass0 (pa_cons (pv 0) (pa_cons pe_int (pa_cons pe_int pa_nil))))) (pw_and (pt_val (pe_g G_is_number (hr.mono (by omega)) pass0 (pa_cons (pv 1) (pa_cons pe_int (pa_cons pe_int pa_nil))))) (pw_and1 (pt_val (pe_g G_is_number (hr.mono (by omega)) pass0 (pa_cons (pv 2) (pa_cons pe_int (pa_cons pe_int pa_nil))))))))) pe_int pe_non))), ?_⟩
  have h1 := h H Same.rf
  have ek : ok .whole a b c = (isN a 0 0 && (isN b 0 0 && isN c 0 0)) := rfl
  refine ⟨_, rfl, _, _, _, rfl, a, 0, 0, rfl, rfl, rfl, _, rfl, ?_⟩
  cases e1 : isN a 0 0 with
  | false =>
    rw [e1, Bool.false_and] at ek
    rw [wr_no ek] at h1
    exact if_false_of rfl h1
  | true =>
    rw [e1, Bool.true_and] at ek
    refine if_true_of rfl ?_
    refine ⟨_, rfl, _, _, _, rfl, b, 0, 0, rfl, rfl, rfl, _, rfl, ?_⟩
    cases e2 : isN b 0 0 with
    | false =>
      rw [e2, Bool.false_and] at ek
      rw [wr_no ek] at h1
      exact if_false_of rfl h1
    | true =>
      rw [e2, Bool.true_and] at ek
      refine if_true_of rfl ?_
      refine ⟨_, rfl, _, _, _, rfl, c, 0, 0, rfl, rfl, rfl, _, rfl, ?_⟩
      cases e3 : isN c 0 0 with
      | false =>
        rw [e3] at ek
        rw [wr_no ek] at h1
        exact if_false_of rfl h1
      | true =>
        rw [e3] at ek
        obtain ⟨a, b, c, rfl, rfl, rfl, ha, hb, hc⟩ := of_ok ek
        rw [wr_yes ek] at h1
        exact if_true_of rfl h1
end
end K66

namespace K66
open PySem PyProof.Rows L2 My Ru I6
open Builtin (bitAnd bitOr)
theorem ent_in {K : PySem.W.Frag} {d x : Str} {vs : List V} (h : Ent K d x vs) : ∃ r, PySem.W.nsIn K (He.ga K d) x = some (some r) := let ⟨a, e, _⟩ := h; ⟨.ref a, e⟩
theorem ent_kd {K : PySem.W.Frag} {w : World} {d x : Str} {vs : List V} (k : ∃ es n, KDict K w (He.ga K d) es n) (h : Ent K d x vs) : ∃ a, KDct K w (He.ga K d) x (.ref a) ∧ ∀ H : Hp, SqT K H a vs := by
  obtain ⟨es, n, D⟩ := k
  obtain ⟨a, e, q⟩ := h
  exact ⟨a, ⟨es, n, _, D.at_, D.lit, e, rfl⟩, q⟩
def Wr (K : PySem.W.Frag) (f : Addr) (sp : Sp) : Prop := ∃ F : Fo, f = He.ga K (wnm F) ∧ sp = spW F
theorem foS_whole {f : Fo} : foS f = "whole" ↔ f = .whole := by
  cases f <;> simp only [foS] <;> decide +kernel
theorem foS_dec (f : Fo) : decide (V.str (foS f) = V.str "whole") = decide (f = .whole) := by
  by_cases c : f = .whole
  · rw [decide_eq_true c, c]; exact decide_eq_true rfl
  · rw [decide_eq_false c]
    exact decide_eq_false (fun z => c (foS_whole.mp (V.str.inj z)))
theorem ins_some {n : V} {a b c : O} {o : Nat} (h : insM n a b c = some o) : o < 48 ∧ n = .str (nm o) ∧ ok (fo o) a b c = true := by
  unfold insM at h
  cases n with
  | str s =>
    dsimp only at h
    cases e : posOf nms s with
    | none => rw [e] at h; cases h
    | some j =>
      rw [e] at h
      have h : (if ok (fo j) a b c = true then some j else none) = some o := h
      split at h
      · rename_i q
        injection h with h
        subst h
        obtain ⟨h1, h2⟩ := pos_nm e
        rw [h2]
        exact ⟨h1, rfl, q⟩
      · cases h
  | _ => cases h
theorem ins_of {s : Str} {a b c : O} {o : Nat} (e : posOf nms s = some o) : insM (.str s) a b c = if ok (fo o) a b c = true then some o else none := by
  unfold insM
  dsimp only
  rw [e]; rfl
section
variable {P : Program} {w : World} {K : PySem.W.Frag} {mg : Str → Option Value} {base : Heap}
theorem sc_encode : FnScope ["instruction", "write", "parts", "name", "one", "other", "third", "form", "last", "part", "first"] ["instruction"] (defScope s_encode) := ⟨rfl, rfl, rfl, by decide +kernel, rfl, by decide +kernel, by decide +kernel⟩
theorem g_encode (T : Txt K mg w) (G__write_three : Gd P w K mg base CX0 3 "_write_three" ["one", "other", "third"] (sp__write_three K)) (G__write_number : Gd P w K mg base CX0 3 "_write_number" ["one", "other", "number"] (sp__write_number K)) (G__write_store : Gd P w K mg base CX0 3 "_write_store" ["one", "other", "number"] (sp__write_store K)) (G__write_branch : Gd P w K mg base CX0 3 "_write_branch" ["one", "other", "distance"] (sp__write_branch K)) (G__write_upper : Gd P w K mg base CX0 3 "_write_upper" ["one", "number", "nought"] (sp__write_upper K)) (G__write_jump : Gd P w K mg base CX0 3 "_write_jump" ["one", "distance", "nought"] (sp__write_jump K)) (G__write_whole : Gd P w K mg base CX0 2 "_write_whole" ["one", "other", "third"] (sp__write_whole K)) : Gd P w K mg base (L2.CX P w) 4 "encode" ["instruction"] (sp_encode K) := by
  have sc := sc_encode
  refine T.d_encode.okX sc len1 (fun _ _ _ _ _ _ us hl => match us, hl with | [_], _ => rfl) (fun f cdv A outer s H vs Q E hr h => ?_)
  obtain ⟨x0, rfl, h⟩ := h
  obtain ⟨p, n, a, b, c, rfl, hp, hn, hok, hbad⟩ := h
  obtain ⟨esF, nF, kd_FORMS⟩ := T.k_FORMS
  have HB_write : ∀ f sp, Wr K f sp → Held P w K mg base CX0 3 f sp := by
    rintro f sp ⟨F, rfl, rfl⟩
    cases F with
    | three => exact held_of G__write_three (by omega) T.ga__write_three
    | number => exact held_of G__write_number (by omega) T.ga__write_number
    | shift => exact held_of (sp := spW .shift) G__write_three (by omega) T.ga__write_three
    | store => exact held_of G__write_store (by omega) T.ga__write_store
    | branch => exact held_of G__write_branch (by omega) T.ga__write_branch
    | upper => exact held_of G__write_upper (by omega) T.ga__write_upper
    | jump => exact held_of G__write_jump (by omega) T.ga__write_jump
    | whole => exact held_of G__write_whole (by omega) T.ga__write_whole
  refine ⟨_, (pss_cons (ps_if (PW.pt (pw_or (pt_not (pt_val (pe_callB call_isi (by rfl) T.n_isinstance (by decide +kernel) (pa_cons (pv 0) (pa_cons (pe_bltn (v := .ty "tuple") (u := .type "tuple") (by rfl) T.n_tuple (by decide +kernel) rfl) pa_nil))))) (pw_or (pt_cmpR op_ne (pe_callB call_len_seq (by rfl) T.n_len PySem.boot_len (pa_cons (pv 0) pa_nil)) pe_int (nomark _)) (pw_or1 (pt_not (pt_val (pe_callB call_isi (by rfl) T.n_isinstance (by decide +kernel) (pa_cons (pe_ix ix_tup (pv 0) pe_int (fun _ _ => rfl)) (pa_cons (pe_bltn (v := .ty "str") (u := .type "str") (by rfl) T.n_str (by decide +kernel) rfl) pa_nil))))))))) (pss_one (ps_raiseBf rfl T.bf hr (takes_of rfl rfl rfl rfl) (pa_cons (pv 0) pa_nil))) pss_nil)
      (pss_cons (ps_asg (pv 0) (pg_tup rfl (pgs_cons (pg_name (i := 3) sc.nd rfl (Or.inl rfl)) (pgs_cons (pg_name (i := 4) sc.nd rfl (Or.inl rfl)) (pgs_cons (pg_name (i := 5) sc.nd rfl (Or.inl rfl)) (pgs_cons (pg_name (i := 6) sc.nd rfl (Or.inl rfl)) pgs_nil))))))
      (pss_cons (ps_if (pt_cmpR (op_notIn_kd kd_FORMS) (pv 3) (pe_gref T.c_FORMS) rfl) (pss_one (ps_raiseBf rfl T.bf hr (takes_of rfl rfl rfl rfl) (pa_cons (pv 0) pa_nil))) pss_nil)
      (pss_cons (ps_asg (pe_ix ix_kdict (pe_gref T.c_FORMS) (pv 3) (fun _ _ => rfl)) (pg_tup rfl (pgs_cons (pg_name (i := 7) sc.nd rfl (Or.inl rfl)) (pgs_cons (pg_name (i := 8) sc.nd rfl (Or.inl rfl)) (pgs_cons (pg_name (i := 9) sc.nd rfl (Or.inl rfl)) (pgs_cons (pg_name (i := 10) sc.nd rfl (Or.inl rfl)) pgs_nil))))))
      (pss_cons (ps_set (i := 1) sc.nd rfl (Or.inl rfl) (pe_ix ix_kdict (pe_gref T.c_WRITERS) (pv 7) (fun _ _ => rfl)))
      (pss_cons (ps_set (i := 2) sc.nd rfl (Or.inl rfl) (Ru.pe_callV (i := 1) HB_write (hr.mono (by omega)) rfl (Or.inl rfl) pass0 (pa_cons (pv 4) (pa_cons (pv 5) (pa_cons (pv 6) pa_nil)))))
      (pss_cons (ps_if (pt_cmpR op_isN (pv 2) pe_non (nomark _)) (pss_one (ps_raiseBf rfl T.bf hr (takes_of rfl rfl rfl rfl) (pa_cons (pv 0) pa_nil))) pss_nil)
      (pss_one (ps_ret (pe_ifExp (pt_cmpR op_ne (pv 7) pe_str (nomark _)) (pe_op op_or (pe_op op_or (pe_op op_or (pv 2) (pv 8)) (pe_op op_shl (pv 9) pe_int)) (pe_op op_shl (pv 10) pe_int)) (pv 9))))))))))), ?_⟩
  refine ⟨_, rfl, _, _, .type "tuple", .type "tuple", true, rfl, .ty "tuple", .base (.tup hp), kit_ty (by decide +kernel), true, rfl, if_false_of rfl ?_⟩
  refine ⟨_, rfl, p, _, rfl, Or.inr (SqT.of hp), rfl, _, rfl, if_false_of rfl ?_⟩
  rcases hn with rfl | ⟨s, rfl⟩
  · refine ⟨_, rfl, p, _, 0, V.non, rfl, rfl, SqT.of hp, at_of (j := 0) rfl rfl, _, _, .type "NoneType", .type "str", false, rfl, .ty "str", .base .non, kit_ty (by decide +kernel), false, rfl, if_true_of rfl ?_⟩
    exact ⟨_, rfl, _, rfl, fun d hd => hbad rfl H d Same.rf hd⟩
  refine ⟨_, rfl, p, _, 0, V.str s, rfl, rfl, SqT.of hp, at_of (j := 0) rfl rfl, _, _, .type "str", .type "str", true, rfl, .ty "str", .base (.str _), kit_ty (by decide +kernel), true, rfl, if_false_of rfl ?_⟩
  refine ⟨_, rfl, p, _, rfl, SqT.of hp, rfl, _, _, rfl, _, _, rfl, _, _, rfl, _, _, rfl, rfl, ?_⟩
  cases es : posOf nms s with
  | none =>
    refine ⟨_, rfl, s, none, rfl, rfl, T.f_no s es, _, rfl, if_true_of rfl ?_⟩
    exact ⟨_, rfl, _, rfl, fun d hd => hbad (by unfold insM; dsimp only; rw [es]; rfl) H d Same.rf hd⟩
  | some o =>
    obtain ⟨ho, rfl⟩ := pos_nm es
    have iM := ins_of (a := a) (b := b) (c := c) es
    obtain ⟨u, hns⟩ := ent_in (T.f_ent o ho)
    obtain ⟨fa, hkd, hfa⟩ := ent_kd T.k_FORMS (T.f_ent o ho)
    refine ⟨_, rfl, _, some u, rfl, rfl, hns, _, rfl, if_false_of rfl ?_⟩
    refine ⟨_, rfl, _, _, _, rfl, rfl, hkd, fa, _, rfl, hfa _, rfl, _, _, rfl, _, _, rfl, _, _, rfl, _, _, rfl, rfl, ?_⟩
    refine ⟨_, rfl, _, _, _, rfl, rfl, T.w_tab (fo o), ?_⟩
    refine ⟨_, spW (fo o), rfl, ⟨fo o, rfl, rfl⟩, _, rfl, _, rfl, _, rfl, _, _, _, rfl, a, b, c, rfl, rfl, rfl, fun H1 s1 => ?_⟩
    cases e : ok (fo o) a b c with
    | false =>
      rw [wr_no e]
      refine ⟨_, rfl, rfl, _, rfl, if_true_of rfl ?_⟩
      rw [e] at iM
      exact ⟨_, rfl, _, rfl, fun d hd => hbad iM H1 d s1 hd⟩
    | true =>
      rw [e, if_pos rfl] at iM
      obtain ⟨a, b, c, rfl, rfl, rfl, hi⟩ := of_ok e
      rw [wr_yes e]
      have h1 := hok o iM H1 s1
      have R := row ho
      refine ⟨_, rfl, rfl, _, rfl, if_false_of rfl ?_⟩
      refine ⟨_, rfl, rfl, _, rfl, ?_⟩
      by_cases cw : fo o = .whole
      · refine if_false_of ?_ ?_
        · show (!decide (V.str (foS (fo o)) = V.str "whole")) = false
          rw [foS_dec, decide_eq_true cw]; rfl
        refine ⟨_, rfl, ?_⟩
        unfold wordM at h1
        rw [if_pos cw] at h1
        exact h1
      · refine if_true_of ?_ ?_
        · show (!decide (V.str (foS (fo o)) = V.str "whole")) = true
          rw [foS_dec, decide_eq_false cw]; rfl
        have rp := R.p cw
        have rf := R.f
        refine ⟨_, rfl, _, rfl, _, _, rfl, rfl, _, rfl, _, _, rfl, rfl, shl_ok (by decide) (by decide) (by omega), _, _, rfl, rfl, _, rfl, _, _, rfl, rfl, shl_ok (by decide) (by decide) (by omega), _, _, rfl, rfl, ?_⟩
        unfold wordM at h1
        rw [if_neg cw] at h1
        exact h1
end
end K66

namespace K66
open PySem PyProof.Rows L2 My Ru I6
open Builtin (bitAnd bitOr)
def Rr (K : PySem.W.Frag) (f : Addr) (sp : Sp) : Prop := ∃ F : Fo, f = He.ga K (rnm F) ∧ sp = spR F
theorem big31 {w : Int} (h0 : 0 ≤ w) (h1 : w < 4294967296) : -4294967296 ≤ w / 2 ^ (31 : Int).toNat ∧ w / 2 ^ (31 : Int).toNat ≤ 4294967296 := by
  have e : (2 : Int) ^ (31 : Int).toNat = 2147483648 := by decide
  rw [e]; omega
theorem big25 {w : Int} (h0 : 0 ≤ w) (h1 : w < 4294967296) : -4294967296 ≤ w / 2 ^ (25 : Int).toNat ∧ w / 2 ^ (25 : Int).toNat ≤ 4294967296 := by
  have e : (2 : Int) ^ (25 : Int).toNat = 33554432 := by decide
  rw [e]; omega
theorem find_at {p : Nat → Bool} : ∀ {l : List Nat} {i : Nat} {o : Nat}, (∀ j, j < i → ∀ q, l[j]? = some q → p q = false) → l[i]? = some o → p o = true → l.find? p = some o
  | [], i, o, _, h, _ => by simp at h
  | a :: l, 0, o, _, h, e => by
    injection h with h
    subst h
    rw [List.find?_cons, e]
  | a :: l, i + 1, o, hf, h, e => by
    rw [List.find?_cons, hf 0 (Nat.succ_pos _) a rfl]
    exact find_at (fun j hj q hq => hf (j + 1) (Nat.succ_lt_succ hj) q hq) h e
theorem find_no {p : Nat → Bool} {l : List Nat} (h : ∀ j, j < l.length → ∀ q, l[j]? = some q → p q = false) : l.find? p = none := by
  rw [List.find?_eq_none]
  intro x hx
  obtain ⟨j, hj, e⟩ := List.mem_iff_getElem.mp hx
  have := h j hj x (by rw [List.getElem?_eq_getElem hj, e])
  rw [this]; exact Bool.false_ne_true
theorem dec_i (a b : Int) : decide (V.int a = V.int b) = decide (a = b) := by
  by_cases c : a = b
  · rw [decide_eq_true c, c]; exact decide_eq_true rfl
  · rw [decide_eq_false c]
    exact decide_eq_false (fun z => c (V.int.inj z))
theorem step_f {p : Nat → Bool} {l : List Nat} {i o : Nat} (hf : ∀ j, j < i → ∀ q, l[j]? = some q → p q = false) (ho : l[i]? = some o) (e : p o = false) : ∀ j, j < i + 1 → ∀ q, l[j]? = some q → p q = false := by
  intro j hj q hq
  by_cases c : j = i
  · subst c
    rw [ho] at hq
    injection hq with hq
    subst hq
    exact e
  · exact hf j (by omega) q hq
section
variable {P : Program} {w : World} {K : PySem.W.Frag} {mg : Str → Option Value} {base : Heap}
theorem sc__with_sign : FnScope ["number", "half"] ["number", "half"] (defScope s__with_sign) := ⟨rfl, rfl, rfl, by decide +kernel, rfl, by decide +kernel, by decide +kernel⟩
theorem g__with_sign (T : Txt K mg w)  : Gd P w K mg base CX0 1 "_with_sign" ["number", "half"] (sp__with_sign K) := by
  have sc := sc__with_sign
  refine T.d__with_sign.ok sc len2 (fun _ _ _ _ _ _ us hl => match us, hl with | [_, _], _ => rfl) (fun f cdv A outer s H vs Q E hr h => ?_)
  obtain ⟨x0, x1, rfl, h⟩ := h
  obtain ⟨n, g, rfl, rfl, h⟩ := h
  refine ⟨_, (pss_one (ps_ret (pe_ifExp (pt_cmpR op_ge (pv 0) (pv 1) (nomark _)) (pe_op op_sub (pv 0) (pe_op op_mul pe_int (pv 1))) (pv 0)))), ?_⟩
  refine ⟨_, rfl, _, rfl, _, _, rfl, rfl, _, rfl, ?_⟩
  unfold B6.sgn at h
  by_cases c : g ≤ n
  · rw [if_pos c] at h
    refine if_true_of (decide_eq_true c) ?_
    exact ⟨_, rfl, _, rfl, _, _, rfl, rfl, Or.inl ⟨by decide, by decide⟩, _, _, rfl, rfl, h⟩
  · rw [if_neg c] at h
    refine if_false_of (decide_eq_false c) ?_
    exact ⟨_, rfl, h⟩
theorem sc__read_three : FnScope ["word"] ["word"] (defScope s__read_three) := ⟨rfl, rfl, rfl, by decide +kernel, rfl, by decide +kernel, by decide +kernel⟩
theorem g__read_three (T : Txt K mg w)  : Gd P w K mg base CX0 1 "_read_three" ["word"] (sp__read_three K) := by
  have sc := sc__read_three
  refine T.d__read_three.ok sc len1 (fun _ _ _ _ _ _ us hl => match us, hl with | [_], _ => rfl) (fun f cdv A outer s H vs Q E hr h => ?_)
  obtain ⟨x0, rfl, h⟩ := h
  obtain ⟨v, rfl, hw0, hw1, h⟩ := h
  refine ⟨_, (pss_one (ps_ret (pe_tup (pa_cons (pe_op op_and (pe_op op_shr (pv 0) pe_int) pe_int) (pa_cons (pe_op op_and (pe_op op_shr (pv 0) pe_int) pe_int) (pa_cons (pe_op op_and (pe_op op_shr (pv 0) pe_int) pe_int) pa_nil)))))), ?_⟩
  refine ⟨_, rfl, _, _, rfl, rfl, (by dsimp only; decide), _, _, rfl, rfl, ?_⟩
  refine ⟨_, rfl, _, _, rfl, rfl, (by dsimp only; decide), _, _, rfl, rfl, ?_⟩
  refine ⟨_, rfl, _, _, rfl, rfl, (by dsimp only; decide), _, _, rfl, rfl, (by show 3 ≤ sizeLine; decide), fun p hp => ?_⟩
  exact h p hp
theorem sc__read_number : FnScope ["word"] ["word"] (defScope s__read_number) := ⟨rfl, rfl, rfl, by decide +kernel, rfl, by decide +kernel, by decide +kernel⟩
theorem g__read_number (T : Txt K mg w) (G__with_sign : Gd P w K mg base CX0 1 "_with_sign" ["number", "half"] (sp__with_sign K)) : Gd P w K mg base CX0 2 "_read_number" ["word"] (sp__read_number K) := by
  have sc := sc__read_number
  refine T.d__read_number.ok sc len1 (fun _ _ _ _ _ _ us hl => match us, hl with | [_], _ => rfl) (fun f cdv A outer s H vs Q E hr h => ?_)
  obtain ⟨x0, rfl, h⟩ := h
  obtain ⟨v, rfl, hw0, hw1, h⟩ := h
  refine ⟨_, (pss_one (ps_ret (pe_tup (pa_cons (pe_op op_and (pe_op op_shr (pv 0) pe_int) pe_int) (pa_cons (pe_op op_and (pe_op op_shr (pv 0) pe_int) pe_int) (pa_cons (pe_g G__with_sign (hr.mono (by omega)) pass0 (pa_cons (pe_op op_shr (pv 0) pe_int) (pa_cons (pe_gint T.c_HALF_NUMBER) pa_nil))) pa_nil)))))), ?_⟩
  refine ⟨_, rfl, _, _, rfl, rfl, (by dsimp only; decide), _, _, rfl, rfl, ?_⟩
  refine ⟨_, rfl, _, _, rfl, rfl, (by dsimp only; decide), _, _, rfl, rfl, ?_⟩
  refine ⟨_, rfl, _, _, rfl, rfl, (by dsimp only; decide), _, _, rfl, _, _, rfl, rfl, (by show 3 ≤ sizeLine; decide), fun p hp => ?_⟩
  exact h p hp
theorem sc__read_store : FnScope ["word"] ["word"] (defScope s__read_store) := ⟨rfl, rfl, rfl, by decide +kernel, rfl, by decide +kernel, by decide +kernel⟩
theorem g__read_store (T : Txt K mg w) (G__with_sign : Gd P w K mg base CX0 1 "_with_sign" ["number", "half"] (sp__with_sign K)) : Gd P w K mg base CX0 2 "_read_store" ["word"] (sp__read_store K) := by
  have sc := sc__read_store
  refine T.d__read_store.ok sc len1 (fun _ _ _ _ _ _ us hl => match us, hl with | [_], _ => rfl) (fun f cdv A outer s H vs Q E hr h => ?_)
  obtain ⟨x0, rfl, h⟩ := h
  obtain ⟨v, rfl, hw0, hw1, h⟩ := h
  refine ⟨_, (pss_one (ps_ret (pe_tup (pa_cons (pe_op op_and (pe_op op_shr (pv 0) pe_int) pe_int) (pa_cons (pe_op op_and (pe_op op_shr (pv 0) pe_int) pe_int) (pa_cons (pe_g G__with_sign (hr.mono (by omega)) pass0 (pa_cons (pe_op op_or (pe_op op_shl (pe_op op_shr (pv 0) pe_int) pe_int) (pe_op op_and (pe_op op_shr (pv 0) pe_int) pe_int)) (pa_cons (pe_gint T.c_HALF_NUMBER) pa_nil))) pa_nil)))))), ?_⟩
  refine ⟨_, rfl, _, _, rfl, rfl, (by dsimp only; decide), _, _, rfl, rfl, ?_⟩
  refine ⟨_, rfl, _, _, rfl, rfl, (by dsimp only; decide), _, _, rfl, rfl, ?_⟩
  refine ⟨_, rfl, _, _, rfl, rfl, (by dsimp only; decide), _, _, rfl, rfl, shl_ok (by decide) (by decide) (big25 hw0 hw1), ?_⟩
  refine ⟨_, rfl, _, _, rfl, rfl, (by dsimp only; decide), _, _, rfl, rfl, _, _, rfl, rfl, _, _, rfl, _, _, rfl, rfl, (by show 3 ≤ sizeLine; decide), fun p hp => ?_⟩
  exact h p hp
theorem sc__read_branch : FnScope ["word", "distance"] ["word"] (defScope s__read_branch) := ⟨rfl, rfl, rfl, by decide +kernel, rfl, by decide +kernel, by decide +kernel⟩
theorem g__read_branch (T : Txt K mg w) (G__with_sign : Gd P w K mg base CX0 1 "_with_sign" ["number", "half"] (sp__with_sign K)) : Gd P w K mg base CX0 2 "_read_branch" ["word"] (sp__read_branch K) := by
  have sc := sc__read_branch
  refine T.d__read_branch.ok sc len1 (fun _ _ _ _ _ _ us hl => match us, hl with | [_], _ => rfl) (fun f cdv A outer s H vs Q E hr h => ?_)
  obtain ⟨x0, rfl, h⟩ := h
  obtain ⟨v, rfl, hw0, hw1, h⟩ := h
  refine ⟨_, (pss_cons (ps_set (i := 1) sc.nd rfl (Or.inl rfl) (pe_op op_or (pe_op op_or (pe_op op_or (pe_op op_shl (pe_op op_shr (pv 0) pe_int) pe_int) (pe_op op_shl (pe_op op_and (pe_op op_shr (pv 0) pe_int) pe_int) pe_int)) (pe_op op_shl (pe_op op_and (pe_op op_shr (pv 0) pe_int) pe_int) pe_int)) (pe_op op_shl (pe_op op_and (pe_op op_shr (pv 0) pe_int) pe_int) pe_int)))
      (pss_one (ps_ret (pe_tup (pa_cons (pe_op op_and (pe_op op_shr (pv 0) pe_int) pe_int) (pa_cons (pe_op op_and (pe_op op_shr (pv 0) pe_int) pe_int) (pa_cons (pe_g G__with_sign (hr.mono (by omega)) pass0 (pa_cons (pv 1) (pa_cons (pe_gint T.c_HALF_BRANCH) pa_nil))) pa_nil))))))), ?_⟩
  refine ⟨_, rfl, _, _, rfl, rfl, (by dsimp only; decide), _, _, rfl, rfl, shl_ok (by decide) (by decide) (big31 hw0 hw1), ?_⟩
  refine ⟨_, rfl, _, _, rfl, rfl, (by dsimp only; decide), _, _, rfl, rfl, _, _, rfl, rfl, shl_ok (by decide) (by decide) (and_lt (by decide) (by decide)), _, _, rfl, rfl, ?_⟩
  refine ⟨_, rfl, _, _, rfl, rfl, (by dsimp only; decide), _, _, rfl, rfl, _, _, rfl, rfl, shl_ok (by decide) (by decide) (and_lt (by decide) (by decide)), _, _, rfl, rfl, ?_⟩
  refine ⟨_, rfl, _, _, rfl, rfl, (by dsimp only; decide), _, _, rfl, rfl, _, _, rfl, rfl, shl_ok (by decide) (by decide) (and_lt (by decide) (by decide)), _, _, rfl, rfl, ?_⟩
  refine ⟨_, rfl, _, _, rfl, rfl, (by dsimp only; decide), _, _, rfl, rfl, ?_⟩
  refine ⟨_, rfl, _, _, rfl, rfl, (by dsimp only; decide), _, _, rfl, rfl, ?_⟩
  refine ⟨_, rfl, _, _, rfl, _, _, rfl, rfl, (by show 3 ≤ sizeLine; decide), fun p hp => ?_⟩
  exact h p hp
theorem sc__read_upper : FnScope ["word"] ["word"] (defScope s__read_upper) := ⟨rfl, rfl, rfl, by decide +kernel, rfl, by decide +kernel, by decide +kernel⟩
theorem g__read_upper (T : Txt K mg w)  : Gd P w K mg base CX0 1 "_read_upper" ["word"] (sp__read_upper K) := by
  have sc := sc__read_upper
  refine T.d__read_upper.ok sc len1 (fun _ _ _ _ _ _ us hl => match us, hl with | [_], _ => rfl) (fun f cdv A outer s H vs Q E hr h => ?_)
  obtain ⟨x0, rfl, h⟩ := h
  obtain ⟨v, rfl, hw0, hw1, h⟩ := h
  refine ⟨_, (pss_one (ps_ret (pe_tup (pa_cons (pe_op op_and (pe_op op_shr (pv 0) pe_int) pe_int) (pa_cons (pe_op op_shr (pv 0) pe_int) (pa_cons pe_int pa_nil)))))), ?_⟩
  refine ⟨_, rfl, _, _, rfl, rfl, (by dsimp only; decide), _, _, rfl, rfl, ?_⟩
  refine ⟨_, rfl, _, _, rfl, rfl, (by dsimp only; decide), (by show 3 ≤ sizeLine; decide), fun p hp => ?_⟩
  exact h p hp
theorem sc__read_jump : FnScope ["word", "distance"] ["word"] (defScope s__read_jump) := ⟨rfl, rfl, rfl, by decide +kernel, rfl, by decide +kernel, by decide +kernel⟩
theorem g__read_jump (T : Txt K mg w) (G__with_sign : Gd P w K mg base CX0 1 "_with_sign" ["number", "half"] (sp__with_sign K)) : Gd P w K mg base CX0 2 "_read_jump" ["word"] (sp__read_jump K) := by
  have sc := sc__read_jump
  refine T.d__read_jump.ok sc len1 (fun _ _ _ _ _ _ us hl => match us, hl with | [_], _ => rfl) (fun f cdv A outer s H vs Q E hr h => ?_)
  obtain ⟨x0, rfl, h⟩ := h
  obtain ⟨v, rfl, hw0, hw1, h⟩ := h
  refine ⟨_, (pss_cons (ps_set (i := 1) sc.nd rfl (Or.inl rfl) (pe_op op_or (pe_op op_or (pe_op op_or (pe_op op_shl (pe_op op_shr (pv 0) pe_int) pe_int) (pe_op op_shl (pe_op op_and (pe_op op_shr (pv 0) pe_int) pe_int) pe_int)) (pe_op op_shl (pe_op op_and (pe_op op_shr (pv 0) pe_int) pe_int) pe_int)) (pe_op op_shl (pe_op op_and (pe_op op_shr (pv 0) pe_int) pe_int) pe_int)))
      (pss_one (ps_ret (pe_tup (pa_cons (pe_op op_and (pe_op op_shr (pv 0) pe_int) pe_int) (pa_cons (pe_g G__with_sign (hr.mono (by omega)) pass0 (pa_cons (pv 1) (pa_cons (pe_gint T.c_HALF_JUMP) pa_nil))) (pa_cons pe_int pa_nil))))))), ?_⟩
  refine ⟨_, rfl, _, _, rfl, rfl, (by dsimp only; decide), _, _, rfl, rfl, shl_ok (by decide) (by decide) (big31 hw0 hw1), ?_⟩
  refine ⟨_, rfl, _, _, rfl, rfl, (by dsimp only; decide), _, _, rfl, rfl, _, _, rfl, rfl, shl_ok (by decide) (by decide) (and_lt (by decide) (by decide)), _, _, rfl, rfl, ?_⟩
  refine ⟨_, rfl, _, _, rfl, rfl, (by dsimp only; decide), _, _, rfl, rfl, _, _, rfl, rfl, shl_ok (by decide) (by decide) (and_lt (by decide) (by decide)), _, _, rfl, rfl, ?_⟩
  refine ⟨_, rfl, _, _, rfl, rfl, (by dsimp only; decide), _, _, rfl, rfl, _, _, rfl, rfl, shl_ok (by decide) (by decide) (and_lt (by decide) (by decide)), _, _, rfl, rfl, ?_⟩
  refine ⟨_, rfl, _, _, rfl, rfl, (by dsimp only; decide), _, _, rfl, rfl, ?_⟩
  refine ⟨_, rfl, _, _, rfl, _, _, rfl, rfl, (by show 3 ≤ sizeLine; decide), fun p hp => ?_⟩
  exact h p hp
theorem sc__read_whole : FnScope ["word"] ["word"] (defScope s__read_whole) := ⟨rfl, rfl, rfl, by decide +kernel, rfl, by decide +kernel, by decide +kernel⟩
theorem g__read_whole (T : Txt K mg w)  : Gd P w K mg base CX0 1 "_read_whole" ["word"] (sp__read_whole K) := by
  have sc := sc__read_whole
  refine T.d__read_whole.ok sc len1 (fun _ _ _ _ _ _ us hl => match us, hl with | [_], _ => rfl) (fun f cdv A outer s H vs Q E hr h => ?_)
  obtain ⟨x0, rfl, h⟩ := h
  obtain ⟨v, rfl, hw0, hw1, h⟩ := h
  refine ⟨_, (pss_one (ps_ret (pe_tup (pa_cons pe_int (pa_cons pe_int (pa_cons pe_int pa_nil)))))), ?_⟩
  refine ⟨(by show 3 ≤ sizeLine; decide), fun p hp => ?_⟩
  exact h p hp
theorem sc_decode : FnScope ["word", "name", "form", "_", "part", "first", "found", "read"] ["word"] (defScope s_decode) := ⟨rfl, rfl, rfl, by decide +kernel, rfl, by decide +kernel, by decide +kernel⟩
theorem g_decode (T : Txt K mg w) (G__read_three : Gd P w K mg base CX0 1 "_read_three" ["word"] (sp__read_three K)) (G__read_number : Gd P w K mg base CX0 2 "_read_number" ["word"] (sp__read_number K)) (G__read_store : Gd P w K mg base CX0 2 "_read_store" ["word"] (sp__read_store K)) (G__read_branch : Gd P w K mg base CX0 2 "_read_branch" ["word"] (sp__read_branch K)) (G__read_upper : Gd P w K mg base CX0 1 "_read_upper" ["word"] (sp__read_upper K)) (G__read_jump : Gd P w K mg base CX0 2 "_read_jump" ["word"] (sp__read_jump K)) (G__read_whole : Gd P w K mg base CX0 1 "_read_whole" ["word"] (sp__read_whole K)) : Gd P w K mg base CX0 3 "decode" ["word"] (sp_decode K) := by
  have sc := sc_decode
  refine T.d_decode.ok sc len1 (fun _ _ _ _ _ _ us hl => match us, hl with | [_], _ => rfl) (fun f cdv A outer s H vs Q E hr h => ?_)
  obtain ⟨x0, rfl, h⟩ := h
  obtain ⟨v, rfl, hw0, hw1, hno, hyes⟩ := h
  obtain ⟨esB, nB, KB, hBY⟩ := T.k_BY
  have HB_read : ∀ f sp, Rr K f sp → Held P w K mg base CX0 2 f sp := by
    rintro f sp ⟨F, rfl, rfl⟩
    cases F with
    | three => exact held_of G__read_three (by omega) T.ga__read_three
    | number => exact held_of G__read_number (by omega) T.ga__read_number
    | shift => exact held_of (sp := spR .shift) G__read_three (by omega) T.ga__read_three
    | store => exact held_of G__read_store (by omega) T.ga__read_store
    | branch => exact held_of G__read_branch (by omega) T.ga__read_branch
    | upper => exact held_of G__read_upper (by omega) T.ga__read_upper
    | jump => exact held_of G__read_jump (by omega) T.ga__read_jump
    | whole => exact held_of G__read_whole (by omega) T.ga__read_whole
  refine ⟨_, (pss_cons (ps_for PassesOwn.never rfl (pi_tup (Kg.pe_kgetO KB (pe_gref T.c_BY_LAST_BITS) (pe_op op_and (pv 0) pe_int) (pe_tup pa_nil) ⟨rfl, rfl, rfl, rfl⟩)) (pg_name (i := 1) sc.nd rfl (Or.inl rfl)) (pss_cons (ps_asg (pe_ix ix_kdict (pe_gref T.c_FORMS) (pv 1) (fun _ _ => rfl)) (pg_tup rfl (pgs_cons (pg_name (i := 2) sc.nd rfl (Or.inl rfl)) (pgs_cons (pg_name (i := 3) sc.nd rfl (Or.inl rfl)) (pgs_cons (pg_name (i := 4) sc.nd rfl (Or.inl rfl)) (pgs_cons (pg_name (i := 5) sc.nd rfl (Or.inl rfl)) pgs_nil))))))
      (pss_cons (ps_if (pt_cmpR op_eq (pv 2) pe_str (nomark _)) (pss_one (ps_set (i := 6) sc.nd rfl (Or.inl rfl) (pe_cmpR op_eq (pv 0) (pv 4) (nomark _)))) (pss_one (ps_if (pt_cmpR op_in_seq (pv 2) (pe_tup (pa_cons pe_str (pa_cons pe_str pa_nil))) rfl) (pss_one (ps_set (i := 6) sc.nd rfl (Or.inl rfl) pe_bl)) (pss_one (ps_set (i := 6) sc.nd rfl (Or.inl rfl) (pe_and (pe_cmpR op_eq (pe_op op_and (pe_op op_shr (pv 0) pe_int) pe_int) (pv 4) (nomark _)) (pe_one (pe_or (pe_cmpR op_notIn_seq (pv 2) (pe_tup (pa_cons pe_str (pa_cons pe_str pa_nil))) rfl) (pe_one (pe_cmpR op_eq (pe_op op_shr (pv 0) pe_int) (pv 5) (nomark _)))))))))))
      (pss_one (ps_if (pt_val (pv 6)) (pss_cons (ps_set (i := 7) sc.nd rfl (Or.inl rfl) (pe_ix ix_kdict (pe_gref T.c_READERS) (pv 2) (fun _ _ => rfl)))
      (pss_one (ps_ret (pe_op op_catT (pe_tup (pa_cons (pv 1) pa_nil)) (Ru.pe_callV (i := 7) HB_read (hr.mono (by omega)) rfl (Or.inl rfl) pass0 (pa_cons (pv 0) pa_nil)))))) pss_nil)))))
      (pss_one (ps_ret pe_non))), ?_⟩
  have hl : 0 ≤ bitAnd v 127 ∧ bitAnd v 127 < 128 := by rw [m7]; omega
  have hB := hBY (bitAnd v 127) hl.1 hl.2
  by_cases cl : byl (bitAnd v 127) = []
  · refine ⟨rfl, _, rfl, _, _, rfl, rfl, (by show 0 ≤ sizeLine; decide), fun e0 he0 => ⟨_, rfl, Or.inl ⟨hB.1 cl, e0, rfl, ⟨_, SqT.of upd_same⟩, ?_⟩⟩⟩
    refine for_tup (a := e0) (xs := []) (fun i σ H' => Same H H' ∧ H' e0 = some (.tup [])) ⟨same_new he0, upd_same⟩ (fun i σ H' _ q => SqT.of q.2) ?_ ?_
    · intro i x σ H' hx
      simp at hx
    · rintro σ H' ⟨sH, _⟩
      exact hno (by unfold decM; rw [cl]; rfl) H' sH
  obtain ⟨aB, eB, qB⟩ := hB.2 cl
  refine ⟨rfl, _, rfl, _, _, rfl, rfl, (by show 0 ≤ sizeLine; decide), fun e0 he0 => ⟨_, rfl, Or.inr ⟨.ref aB, .ref aB, eB, rfl, aB, rfl, ⟨_, qB _⟩, ?_⟩⟩⟩
  refine for_tup (a := aB) (xs := (byl (bitAnd v 127)).map fun o => V.str (nm o)) (fun i σ H' => (∀ j, j < i → ∀ q, (byl (bitAnd v 127))[j]? = some q → fnd q v = false) ∧ Same H H' ∧ ∃ v1 v2 v3 v4 v5 v6 : Option V, σ = [some (.int v), v1, v2, v3, v4, v5, v6, none]) ⟨(fun j hj => absurd hj (Nat.not_lt_zero _)), same_new he0, _, _, _, _, _, _, rfl⟩ (fun i σ H' _ _ => qB _) ?_ ?_
  rotate_left
  · rintro σ H' ⟨hf, sH, _⟩
    exact hno (find_no (fun j hj => hf j (by rw [List.length_map]; exact hj))) H' sH
  · rintro i x σ H' hx ⟨hf, sH, v1, v2, v3, v4, v5, v6, rfl⟩
    obtain ⟨o, hio, rfl⟩ : ∃ o, (byl (bitAnd v 127))[i]? = some o ∧ x = V.str (nm o) := by
      rw [List.getElem?_map] at hx
      cases e : (byl (bitAnd v 127))[i]? with
      | none => rw [e] at hx; cases hx
      | some o => rw [e] at hx; injection hx with hx; exact ⟨o, rfl, hx.symm⟩
    obtain ⟨ho, hla⟩ := byl_mem (List.mem_of_getElem? hio)
    obtain ⟨fa, hkd, hfa⟩ := ent_kd T.k_FORMS (T.f_ent o ho)
    have hr := T.r_tab (fo o)
    have hyo := fun (e : fnd o v = true) => hyes o (find_at hf hio e)
    have hno := fun (e : fnd o v = false) => step_f hf hio e
    have hq : fnd o v = match fo o with
      | .whole => decide (v = pa o)
      | .upper | .jump => true
      | .three | .shift => decide (bitAnd (v / 2 ^ 12) 7 = pa o) && decide (v / 2 ^ 25 = fi o)
      | _ => decide (bitAnd (v / 2 ^ 12) 7 = pa o) := rfl
    refine ⟨_, rfl, _, _, _, rfl, rfl, hkd, fa, _, rfl, hfa _, rfl, _, _, rfl, _, _, rfl, _, _, rfl, _, _, rfl, rfl, ?_⟩
    cases ef : fo o with
    | three =>
      rw [ef] at hr hyo hq
      dsimp only at hq
      rw [hq] at hyo hno
      refine ⟨_, rfl, rfl, _, rfl, if_false_of rfl ?_⟩
      refine ⟨_, rfl, (by show 2 ≤ sizeLine; decide), fun t1 ht1 => ⟨t1, _, rfl, Or.inr (SqT.of upd_same), rfl, rfl, _, rfl, if_false_of rfl ?_⟩⟩
      refine ⟨_, rfl, _, _, rfl, rfl, (by dsimp only; decide), _, _, rfl, rfl, _, rfl, rfl, _, rfl, ?_⟩
      have e0 := dec_i (bitAnd (v / 2 ^ 12) 7) (pa o)
      cases e1 : decide (bitAnd (v / 2 ^ 12) 7 = pa o) with
      | false =>
        refine if_false_of (e0.trans e1) ?_
        have hno := hno (by rw [e1]; rfl)
        refine ⟨_, rfl, false, rfl, if_false_of rfl ?_⟩
        exact ⟨hno, Same.tr sH (same_new ht1), _, _, _, _, _, _, rfl⟩
      | true =>
        refine if_true_of (e0.trans e1) ?_
        refine ⟨_, rfl, (by show 2 ≤ sizeLine; decide), fun t2 ht2 => ⟨t2, _, rfl, Or.inr (SqT.of upd_same), rfl, rfl, false, rfl, if_false_of rfl ?_⟩⟩
        refine ⟨_, rfl, _, _, rfl, rfl, (by dsimp only; decide), _, rfl, rfl, ?_⟩
        have e3 := dec_i (v / 2 ^ 25) (fi o)
        cases e4 : decide (v / 2 ^ 25 = fi o) with
        | false =>
          have hno := hno (by rw [e1, e4]; rfl)
          have e5 : decide (V.int (v / 2 ^ (25 : Int).toNat) = V.int (fi o)) = false := e3.trans e4
          refine ⟨_, rfl, false, (congrArg V.bl e5), if_false_of rfl ?_⟩
          exact ⟨hno, Same.tr sH (Same.tr (same_new ht1) (same_new ht2)), _, _, _, _, _, _, rfl⟩
        | true =>
          have hyo := hyo (by rw [e1, e4]; rfl)
          have e5 : decide (V.int (v / 2 ^ (25 : Int).toNat) = V.int (fi o)) = true := e3.trans e4
          refine ⟨_, rfl, true, (congrArg V.bl e5), if_true_of rfl ?_⟩
          refine ⟨_, rfl, _, _, _, rfl, rfl, hr, ?_⟩
          refine ⟨_, rfl, (by show 1 ≤ sizeLine; decide), fun t3 ht3 => ⟨_, spR .three, rfl, ⟨.three, rfl, rfl⟩, _, rfl, _, rfl, v, rfl, hw0, hw1, fun p hp => ?_⟩⟩
          refine ⟨t3, p, _, _, rfl, rfl, SqT.of (by rw [upd_ne (ne_of_none upd_same hp)]; exact upd_same), SqT.of upd_same, (fun z => by cases z), (by show 4 ≤ sizeLine; decide), (fun z => by cases z), fun _ q hq => ?_⟩
          exact hyo _ q (Same.tr sH (Same.tr (Same.tr (same_new ht1) (same_new ht2)) (Same.tr (same_new ht3) (Same.tr (same_new hp) (same_new hq))))) (by rw [upd_same]; rfl)
    | number =>
      rw [ef] at hr hyo hq
      dsimp only at hq
      rw [hq] at hyo hno
      refine ⟨_, rfl, rfl, _, rfl, if_false_of rfl ?_⟩
      refine ⟨_, rfl, (by show 2 ≤ sizeLine; decide), fun t1 ht1 => ⟨t1, _, rfl, Or.inr (SqT.of upd_same), rfl, rfl, _, rfl, if_false_of rfl ?_⟩⟩
      refine ⟨_, rfl, _, _, rfl, rfl, (by dsimp only; decide), _, _, rfl, rfl, _, rfl, rfl, _, rfl, ?_⟩
      have e0 := dec_i (bitAnd (v / 2 ^ 12) 7) (pa o)
      cases e1 : decide (bitAnd (v / 2 ^ 12) 7 = pa o) with
      | false =>
        refine if_false_of (e0.trans e1) ?_
        have hno := hno (by rw [e1])
        refine ⟨_, rfl, false, rfl, if_false_of rfl ?_⟩
        exact ⟨hno, Same.tr sH (same_new ht1), _, _, _, _, _, _, rfl⟩
      | true =>
        refine if_true_of (e0.trans e1) ?_
        have hyo := hyo e1
        refine ⟨_, rfl, (by show 2 ≤ sizeLine; decide), fun t2 ht2 => ⟨t2, _, rfl, Or.inr (SqT.of upd_same), rfl, rfl, true, rfl, if_true_of rfl ?_⟩⟩
        refine ⟨_, rfl, true, rfl, if_true_of rfl ?_⟩
        refine ⟨_, rfl, _, _, _, rfl, rfl, hr, ?_⟩
        refine ⟨_, rfl, (by show 1 ≤ sizeLine; decide), fun t3 ht3 => ⟨_, spR .number, rfl, ⟨.number, rfl, rfl⟩, _, rfl, _, rfl, v, rfl, hw0, hw1, fun p hp => ?_⟩⟩
        refine ⟨t3, p, _, _, rfl, rfl, SqT.of (by rw [upd_ne (ne_of_none upd_same hp)]; exact upd_same), SqT.of upd_same, (fun z => by cases z), (by show 4 ≤ sizeLine; decide), (fun z => by cases z), fun _ q hq => ?_⟩
        exact hyo _ q (Same.tr sH (Same.tr (Same.tr (same_new ht1) (same_new ht2)) (Same.tr (same_new ht3) (Same.tr (same_new hp) (same_new hq))))) (by rw [upd_same]; rfl)
    | shift =>
      rw [ef] at hr hyo hq
      dsimp only at hq
      rw [hq] at hyo hno
      refine ⟨_, rfl, rfl, _, rfl, if_false_of rfl ?_⟩
      refine ⟨_, rfl, (by show 2 ≤ sizeLine; decide), fun t1 ht1 => ⟨t1, _, rfl, Or.inr (SqT.of upd_same), rfl, rfl, _, rfl, if_false_of rfl ?_⟩⟩
      refine ⟨_, rfl, _, _, rfl, rfl, (by dsimp only; decide), _, _, rfl, rfl, _, rfl, rfl, _, rfl, ?_⟩
      have e0 := dec_i (bitAnd (v / 2 ^ 12) 7) (pa o)
      cases e1 : decide (bitAnd (v / 2 ^ 12) 7 = pa o) with
      | false =>
        refine if_false_of (e0.trans e1) ?_
        have hno := hno (by rw [e1]; rfl)
        refine ⟨_, rfl, false, rfl, if_false_of rfl ?_⟩
        exact ⟨hno, Same.tr sH (same_new ht1), _, _, _, _, _, _, rfl⟩
      | true =>
        refine if_true_of (e0.trans e1) ?_
        refine ⟨_, rfl, (by show 2 ≤ sizeLine; decide), fun t2 ht2 => ⟨t2, _, rfl, Or.inr (SqT.of upd_same), rfl, rfl, false, rfl, if_false_of rfl ?_⟩⟩
        refine ⟨_, rfl, _, _, rfl, rfl, (by dsimp only; decide), _, rfl, rfl, ?_⟩
        have e3 := dec_i (v / 2 ^ 25) (fi o)
        cases e4 : decide (v / 2 ^ 25 = fi o) with
        | false =>
          have hno := hno (by rw [e1, e4]; rfl)
          have e5 : decide (V.int (v / 2 ^ (25 : Int).toNat) = V.int (fi o)) = false := e3.trans e4
          refine ⟨_, rfl, false, (congrArg V.bl e5), if_false_of rfl ?_⟩
          exact ⟨hno, Same.tr sH (Same.tr (same_new ht1) (same_new ht2)), _, _, _, _, _, _, rfl⟩
        | true =>
          have hyo := hyo (by rw [e1, e4]; rfl)
          have e5 : decide (V.int (v / 2 ^ (25 : Int).toNat) = V.int (fi o)) = true := e3.trans e4
          refine ⟨_, rfl, true, (congrArg V.bl e5), if_true_of rfl ?_⟩
          refine ⟨_, rfl, _, _, _, rfl, rfl, hr, ?_⟩
          refine ⟨_, rfl, (by show 1 ≤ sizeLine; decide), fun t3 ht3 => ⟨_, spR .shift, rfl, ⟨.shift, rfl, rfl⟩, _, rfl, _, rfl, v, rfl, hw0, hw1, fun p hp => ?_⟩⟩
          refine ⟨t3, p, _, _, rfl, rfl, SqT.of (by rw [upd_ne (ne_of_none upd_same hp)]; exact upd_same), SqT.of upd_same, (fun z => by cases z), (by show 4 ≤ sizeLine; decide), (fun z => by cases z), fun _ q hq => ?_⟩
          exact hyo _ q (Same.tr sH (Same.tr (Same.tr (same_new ht1) (same_new ht2)) (Same.tr (same_new ht3) (Same.tr (same_new hp) (same_new hq))))) (by rw [upd_same]; rfl)
    | store =>
      rw [ef] at hr hyo hq
      dsimp only at hq
      rw [hq] at hyo hno
      refine ⟨_, rfl, rfl, _, rfl, if_false_of rfl ?_⟩
      refine ⟨_, rfl, (by show 2 ≤ sizeLine; decide), fun t1 ht1 => ⟨t1, _, rfl, Or.inr (SqT.of upd_same), rfl, rfl, _, rfl, if_false_of rfl ?_⟩⟩
      refine ⟨_, rfl, _, _, rfl, rfl, (by dsimp only; decide), _, _, rfl, rfl, _, rfl, rfl, _, rfl, ?_⟩
      have e0 := dec_i (bitAnd (v / 2 ^ 12) 7) (pa o)
      cases e1 : decide (bitAnd (v / 2 ^ 12) 7 = pa o) with
      | false =>
        refine if_false_of (e0.trans e1) ?_
        have hno := hno (by rw [e1])
        refine ⟨_, rfl, false, rfl, if_false_of rfl ?_⟩
        exact ⟨hno, Same.tr sH (same_new ht1), _, _, _, _, _, _, rfl⟩
      | true =>
        refine if_true_of (e0.trans e1) ?_
        have hyo := hyo e1
        refine ⟨_, rfl, (by show 2 ≤ sizeLine; decide), fun t2 ht2 => ⟨t2, _, rfl, Or.inr (SqT.of upd_same), rfl, rfl, true, rfl, if_true_of rfl ?_⟩⟩
        refine ⟨_, rfl, true, rfl, if_true_of rfl ?_⟩
        refine ⟨_, rfl, _, _, _, rfl, rfl, hr, ?_⟩
        refine ⟨_, rfl, (by show 1 ≤ sizeLine; decide), fun t3 ht3 => ⟨_, spR .store, rfl, ⟨.store, rfl, rfl⟩, _, rfl, _, rfl, v, rfl, hw0, hw1, fun p hp => ?_⟩⟩
        refine ⟨t3, p, _, _, rfl, rfl, SqT.of (by rw [upd_ne (ne_of_none upd_same hp)]; exact upd_same), SqT.of upd_same, (fun z => by cases z), (by show 4 ≤ sizeLine; decide), (fun z => by cases z), fun _ q hq => ?_⟩
        exact hyo _ q (Same.tr sH (Same.tr (Same.tr (same_new ht1) (same_new ht2)) (Same.tr (same_new ht3) (Same.tr (same_new hp) (same_new hq))))) (by rw [upd_same]; rfl)
    | branch =>
      rw [ef] at hr hyo hq
      dsimp only at hq
      rw [hq] at hyo hno
      refine ⟨_, rfl, rfl, _, rfl, if_false_of rfl ?_⟩
      refine ⟨_, rfl, (by show 2 ≤ sizeLine; decide), fun t1 ht1 => ⟨t1, _, rfl, Or.inr (SqT.of upd_same), rfl, rfl, _, rfl, if_false_of rfl ?_⟩⟩
      refine ⟨_, rfl, _, _, rfl, rfl, (by dsimp only; decide), _, _, rfl, rfl, _, rfl, rfl, _, rfl, ?_⟩
      have e0 := dec_i (bitAnd (v / 2 ^ 12) 7) (pa o)
      cases e1 : decide (bitAnd (v / 2 ^ 12) 7 = pa o) with
      | false =>
        refine if_false_of (e0.trans e1) ?_
        have hno := hno (by rw [e1])
        refine ⟨_, rfl, false, rfl, if_false_of rfl ?_⟩
        exact ⟨hno, Same.tr sH (same_new ht1), _, _, _, _, _, _, rfl⟩
      | true =>
        refine if_true_of (e0.trans e1) ?_
        have hyo := hyo e1
        refine ⟨_, rfl, (by show 2 ≤ sizeLine; decide), fun t2 ht2 => ⟨t2, _, rfl, Or.inr (SqT.of upd_same), rfl, rfl, true, rfl, if_true_of rfl ?_⟩⟩
        refine ⟨_, rfl, true, rfl, if_true_of rfl ?_⟩
        refine ⟨_, rfl, _, _, _, rfl, rfl, hr, ?_⟩
        refine ⟨_, rfl, (by show 1 ≤ sizeLine; decide), fun t3 ht3 => ⟨_, spR .branch, rfl, ⟨.branch, rfl, rfl⟩, _, rfl, _, rfl, v, rfl, hw0, hw1, fun p hp => ?_⟩⟩
        refine ⟨t3, p, _, _, rfl, rfl, SqT.of (by rw [upd_ne (ne_of_none upd_same hp)]; exact upd_same), SqT.of upd_same, (fun z => by cases z), (by show 4 ≤ sizeLine; decide), (fun z => by cases z), fun _ q hq => ?_⟩
        exact hyo _ q (Same.tr sH (Same.tr (Same.tr (same_new ht1) (same_new ht2)) (Same.tr (same_new ht3) (Same.tr (same_new hp) (same_new hq))))) (by rw [upd_same]; rfl)
    | upper =>
      rw [ef] at hr hyo hq
      dsimp only at hq
      rw [hq] at hyo hno
      refine ⟨_, rfl, rfl, _, rfl, if_false_of rfl ?_⟩
      refine ⟨_, rfl, (by show 2 ≤ sizeLine; decide), fun t1 ht1 => ⟨t1, _, rfl, Or.inr (SqT.of upd_same), rfl, rfl, _, rfl, if_true_of rfl ?_⟩⟩
      have hyo := hyo rfl
      refine ⟨_, rfl, true, rfl, if_true_of rfl ?_⟩
      refine ⟨_, rfl, _, _, _, rfl, rfl, hr, ?_⟩
      refine ⟨_, rfl, (by show 1 ≤ sizeLine; decide), fun t3 ht3 => ⟨_, spR .upper, rfl, ⟨.upper, rfl, rfl⟩, _, rfl, _, rfl, v, rfl, hw0, hw1, fun p hp => ?_⟩⟩
      refine ⟨t3, p, _, _, rfl, rfl, SqT.of (by rw [upd_ne (ne_of_none upd_same hp)]; exact upd_same), SqT.of upd_same, (fun z => by cases z), (by show 4 ≤ sizeLine; decide), (fun z => by cases z), fun _ q hq => ?_⟩
      exact hyo _ q (Same.tr sH (Same.tr (same_new ht1) (Same.tr (same_new ht3) (Same.tr (same_new hp) (same_new hq))))) (by rw [upd_same]; rfl)
    | jump =>
      rw [ef] at hr hyo hq
      dsimp only at hq
      rw [hq] at hyo hno
      refine ⟨_, rfl, rfl, _, rfl, if_false_of rfl ?_⟩
      refine ⟨_, rfl, (by show 2 ≤ sizeLine; decide), fun t1 ht1 => ⟨t1, _, rfl, Or.inr (SqT.of upd_same), rfl, rfl, _, rfl, if_true_of rfl ?_⟩⟩
      have hyo := hyo rfl
      refine ⟨_, rfl, true, rfl, if_true_of rfl ?_⟩
      refine ⟨_, rfl, _, _, _, rfl, rfl, hr, ?_⟩
      refine ⟨_, rfl, (by show 1 ≤ sizeLine; decide), fun t3 ht3 => ⟨_, spR .jump, rfl, ⟨.jump, rfl, rfl⟩, _, rfl, _, rfl, v, rfl, hw0, hw1, fun p hp => ?_⟩⟩
      refine ⟨t3, p, _, _, rfl, rfl, SqT.of (by rw [upd_ne (ne_of_none upd_same hp)]; exact upd_same), SqT.of upd_same, (fun z => by cases z), (by show 4 ≤ sizeLine; decide), (fun z => by cases z), fun _ q hq => ?_⟩
      exact hyo _ q (Same.tr sH (Same.tr (same_new ht1) (Same.tr (same_new ht3) (Same.tr (same_new hp) (same_new hq))))) (by rw [upd_same]; rfl)
    | whole =>
      rw [ef] at hr hyo hq
      dsimp only at hq
      rw [hq] at hyo hno
      refine ⟨_, rfl, rfl, _, rfl, if_true_of rfl ?_⟩
      refine ⟨_, rfl, _, rfl, rfl, ?_⟩
      rw [dec_i]
      cases e1 : decide (v = pa o) with
      | true =>
        have hyo := hyo e1
        refine ⟨_, rfl, true, rfl, if_true_of rfl ?_⟩
        refine ⟨_, rfl, _, _, _, rfl, rfl, hr, ?_⟩
        refine ⟨_, rfl, (by show 1 ≤ sizeLine; decide), fun t3 ht3 => ⟨_, spR .whole, rfl, ⟨.whole, rfl, rfl⟩, _, rfl, _, rfl, v, rfl, hw0, hw1, fun p hp => ?_⟩⟩
        refine ⟨t3, p, _, _, rfl, rfl, SqT.of (by rw [upd_ne (ne_of_none upd_same hp)]; exact upd_same), SqT.of upd_same, (fun z => by cases z), (by show 4 ≤ sizeLine; decide), (fun z => by cases z), fun _ q hq => ?_⟩
        exact hyo _ q (Same.tr sH (Same.tr Same.rf (Same.tr (same_new ht3) (Same.tr (same_new hp) (same_new hq))))) (by rw [upd_same]; rfl)
      | false =>
        have hno := hno e1
        refine ⟨_, rfl, false, rfl, if_false_of rfl ?_⟩
        exact ⟨hno, Same.tr sH Same.rf, _, _, _, _, _, _, rfl⟩
end
end K66

namespace K66
open PySem PyProof.Rows L2 My Ru I6
open Builtin (bitAnd bitOr)
theorem in_strs (s : Str) : ∀ l : List Str, inV (.str s) (l.map V.str) = decide (s ∈ l) := by
  intro l
  induction l with
  | nil => rfl
  | cons a l ih =>
    show (eqV (.str a) (.str s) || inV (.str s) (l.map V.str)) = _
    rw [ih]
    show ((a == s) || decide (s ∈ l)) = _
    by_cases c : s = a
    · subst c
      rw [beq_self_eq_true, Bool.true_or, decide_eq_true List.mem_cons_self]
    · rw [beq_eq_false_iff_ne.mpr (fun z => c z.symm), Bool.false_or]
      by_cases m : s ∈ l
      · rw [decide_eq_true m, decide_eq_true (List.mem_cons_of_mem _ m)]
      · rw [decide_eq_false m, decide_eq_false]
        intro z
        rcases List.mem_cons.mp z with z | z
        · exact c z
        · exact m z
theorem len_app (a b : Str) : (a ++ b).length = a.length + b.length := by
  rw [TL.len_tl, TL.tl_append, List.length_append, ← TL.len_tl, ← TL.len_tl]
theorem len_emp : Str.empty.length = 0 := rfl
theorem len_blank : (" " : Str).length = 1 := by decide +kernel
theorem len_sep : (", " : Str).length = 2 := by decide +kernel
theorem len_open : ("(" : Str).length = 1 := by decide +kernel
theorem len_close : (")" : Str).length = 1 := by decide +kernel
theorem sz {n : Nat} (h : n ≤ 1000) : n ≤ sizeLine := tup_le (by omega)
theorem len_num {i : Int} (h : -10000000 < i ∧ i < 10000000) : (num i).length ≤ 8 := by rw [TL.len_tl]; exact num_len h
theorem len_rg {i : Int} (h : 0 ≤ i ∧ i < 32) : (rg i).length ≤ 4 := by rw [TL.len_tl]; exact (rg_len h).1
theorem len_nm {o : Nat} (h : o < 48) : (nm o).length ≤ 6 := by rw [TL.len_tl]; exact (nm_len o h).1
theorem log_ok {i : Int} (h : -10000000 < i ∧ i < 10000000) : i.natAbs.log2 < 1920 := by
  by_cases z : i.natAbs = 0
  · rw [z]; decide
  · have h24 : (2 : Nat) ^ 24 = 16777216 := by decide
    have h1 : i.natAbs < 2 ^ 24 := by omega
    exact (Nat.log2_lt z).mpr (Nat.lt_of_lt_of_le h1 (Nat.pow_le_pow_right (by decide) (by decide)))
theorem at_rg {i : Int} (h : 0 ≤ i ∧ i < 32) : atI (regs.map V.str) i = some (.str (rg i)) := by
  have := atI_nat (xs := regs.map V.str) (j := i.toNat) (v := V.str (rg i)) (by rw [List.getElem?_map, rg_get h]; rfl)
  rw [Int.toNat_of_nonneg h.1] at this
  exact this
section
variable {P : Program} {w : World} {K : PySem.W.Frag} {mg : Str → Option Value} {base : Heap}
theorem sc_instruction_text : FnScope ["instruction", "form", "last", "name", "one", "other", "third"] ["instruction"] (defScope s_instruction_text) := ⟨rfl, rfl, rfl, by decide +kernel, rfl, by decide +kernel, by decide +kernel⟩
theorem g_instruction_text (T : Txt K mg w) (G_encode : Gd P w K mg base (L2.CX P w) 4 "encode" ["instruction"] (sp_encode K)) : Gd P w K mg base (L2.CX P w) 5 "instruction_text" ["instruction"] (sp_instruction_text K) := by
  have sc := sc_instruction_text
  refine T.d_instruction_text.okX sc len1 (fun _ _ _ _ _ _ us hl => match us, hl with | [_], _ => rfl) (fun f cdv A outer s H vs Q E hr h => ?_)
  obtain ⟨x0, rfl, h⟩ := h
  obtain ⟨p, n, a, b, c, rfl, hp, hn, hok, hbad⟩ := h
  obtain ⟨esF, nF, kd_FORMS⟩ := T.k_FORMS
  refine ⟨_, (pss_cons (ps_expr (pe_g G_encode (hr.mono (by omega)) (passes_call (takes_of rfl rfl rfl rfl) (fun _ _ _ _ h => h)) (pa_cons (pv 0) pa_nil)))
      (pss_cons (ps_asg (pv 0) (pg_tup rfl (pgs_cons (pg_name (i := 3) sc.nd rfl (Or.inl rfl)) (pgs_cons (pg_name (i := 4) sc.nd rfl (Or.inl rfl)) (pgs_cons (pg_name (i := 5) sc.nd rfl (Or.inl rfl)) (pgs_cons (pg_name (i := 6) sc.nd rfl (Or.inl rfl)) pgs_nil))))))
      (pss_cons (ps_set (i := 1) sc.nd rfl (Or.inl rfl) (pe_ix ix_tup (pe_ix ix_kdict (pe_gref T.c_FORMS) (pv 3) (fun _ _ => rfl)) pe_int (fun _ _ => rfl)))
      (pss_cons (ps_if (pt_cmpR op_eq (pv 1) pe_str (nomark _)) (pss_one (ps_ret (pv 3))) pss_nil)
      (pss_cons (ps_if (pt_cmpR op_eq (pv 1) pe_str (nomark _)) (pss_one (ps_ret (pe_joined (.cons (pe_fmt (pv 3)) (.cons pe_str (.cons (pe_fmt (pe_ix ix_tup (pe_gref T.c_REGISTERS) (pv 5) (fun _ _ => rfl))) (.cons pe_str (.cons (pe_fmt (pv 6)) (.cons pe_str (.cons (pe_fmt (pe_ix ix_tup (pe_gref T.c_REGISTERS) (pv 4) (fun _ _ => rfl))) (.cons pe_str .nil))))))))))) pss_nil)
      (pss_cons (ps_if (pt_cmpR op_in_seq (pv 3) (pe_gref T.c_LOADS) rfl) (pss_one (ps_ret (pe_joined (.cons (pe_fmt (pv 3)) (.cons pe_str (.cons (pe_fmt (pe_ix ix_tup (pe_gref T.c_REGISTERS) (pv 4) (fun _ _ => rfl))) (.cons pe_str (.cons (pe_fmt (pv 6)) (.cons pe_str (.cons (pe_fmt (pe_ix ix_tup (pe_gref T.c_REGISTERS) (pv 5) (fun _ _ => rfl))) (.cons pe_str .nil))))))))))) pss_nil)
      (pss_cons (ps_if (pt_cmpR op_in_seq (pv 1) (pe_tup (pa_cons pe_str (pa_cons pe_str pa_nil))) rfl) (pss_one (ps_ret (pe_joined (.cons (pe_fmt (pv 3)) (.cons pe_str (.cons (pe_fmt (pe_ix ix_tup (pe_gref T.c_REGISTERS) (pv 4) (fun _ _ => rfl))) (.cons pe_str (.cons (pe_fmt (pv 5)) .nil)))))))) pss_nil)
      (pss_cons (ps_set (i := 2) sc.nd rfl (Or.inl rfl) (pe_ifExp (pt_cmpR op_eq (pv 1) pe_str (nomark _)) (pe_ix ix_tup (pe_gref T.c_REGISTERS) (pv 6) (fun _ _ => rfl)) (pv 6)))
      (pss_one (ps_ret (pe_joined (.cons (pe_fmt (pv 3)) (.cons pe_str (.cons (pe_fmt (pe_ix ix_tup (pe_gref T.c_REGISTERS) (pv 4) (fun _ _ => rfl))) (.cons pe_str (.cons (pe_fmt (pe_ix ix_tup (pe_gref T.c_REGISTERS) (pv 5) (fun _ _ => rfl))) (.cons pe_str (.cons (pe_fmt (pv 2)) .nil)))))))))))))))))), ?_⟩
  refine ⟨_, rfl, _, rfl, p, n, a, b, c, rfl, hp, hn, fun o hi H1 s1 => ?_, fun hi => hbad hi⟩
  obtain ⟨ho, rfl, e⟩ := ins_some hi
  obtain ⟨a, b, c, rfl, rfl, rfl, hI⟩ := of_ok e
  have hq := hok o hi
  have hq : ∀ H', Same H H' → Q (.str (txM o a b c)) H' := hq
  have hp1 := s1 _ _ hp
  have ln := len_nm ho
  obtain ⟨fa, hkd, hfa⟩ := ent_kd T.k_FORMS (T.f_ent o ho)
  refine ⟨_, rfl, p, _, rfl, SqT.of hp1, rfl, _, _, rfl, _, _, rfl, _, _, rfl, _, _, rfl, rfl, ?_⟩
  refine ⟨_, rfl, _, _, _, rfl, rfl, hkd, fa, _, 0, _, rfl, rfl, hfa _, at_of (j := 0) rfl rfl, ?_⟩
  unfold txM at hq
  cases ef : fo o with
  | whole =>
    rw [ef] at hq hI
    refine ⟨_, rfl, rfl, _, rfl, if_true_of rfl ?_⟩
    exact ⟨_, rfl, hq _ s1⟩
  | store =>
    rw [ef] at hq hI
    obtain ⟨ha, hb, hc⟩ := hI
    have la := len_rg ha
    have lb := len_rg hb
    have lc := len_num (i := c) (by omega)
    refine ⟨_, rfl, rfl, _, rfl, if_false_of rfl ?_⟩
    refine ⟨_, rfl, rfl, _, rfl, if_true_of rfl ?_⟩
    refine ⟨_, rfl, Or.inl ⟨nm o, rfl, (by (try simp only [len_app, len_emp, len_blank, len_sep, len_open, len_close]); exact sz (by omega)), _, rfl, (by (try simp only [len_app, len_emp, len_blank, len_sep, len_open, len_close]); exact sz (by omega)), ?_⟩⟩
    refine ⟨_, rfl, (by (try simp only [len_app, len_emp, len_blank, len_sep, len_open, len_close]); exact sz (by omega)), ?_⟩
    refine ⟨_, rfl, _, _, b, _, rfl, rfl, T.t_REGISTERS _, at_rg hb, Or.inl ⟨rg b, rfl, (by (try simp only [len_app, len_emp, len_blank, len_sep, len_open, len_close]); exact sz (by omega)), _, rfl, (by (try simp only [len_app, len_emp, len_blank, len_sep, len_open, len_close]); exact sz (by omega)), ?_⟩⟩
    refine ⟨_, rfl, (by (try simp only [len_app, len_emp, len_blank, len_sep, len_open, len_close]); exact sz (by omega)), ?_⟩
    refine ⟨_, rfl, Or.inr ⟨c, rfl, log_ok (by omega), num c, rfl, (by (try simp only [len_app, len_emp, len_blank, len_sep, len_open, len_close]); exact sz (by omega)), ?_⟩⟩
    refine ⟨_, rfl, (by (try simp only [len_app, len_emp, len_blank, len_sep, len_open, len_close]); exact sz (by omega)), ?_⟩
    refine ⟨_, rfl, _, _, a, _, rfl, rfl, T.t_REGISTERS _, at_rg ha, Or.inl ⟨rg a, rfl, (by (try simp only [len_app, len_emp, len_blank, len_sep, len_open, len_close]); exact sz (by omega)), _, rfl, (by (try simp only [len_app, len_emp, len_blank, len_sep, len_open, len_close]); exact sz (by omega)), ?_⟩⟩
    refine ⟨_, rfl, (by (try simp only [len_app, len_emp, len_blank, len_sep, len_open, len_close]); exact sz (by omega)), ?_⟩
    exact hq _ s1
  | upper =>
    rw [ef] at hq hI
    obtain ⟨ha, hb, hc⟩ := hI
    have la := len_rg ha
    have lb := len_num (i := b) (by omega)
    have hld : ¬ nm o ∈ loads := fun m => by have z := st_ld o ho ((ld_fo o ho).mp m); rw [ef] at z; cases z
    refine ⟨_, rfl, rfl, _, rfl, if_false_of rfl ?_⟩
    refine ⟨_, rfl, rfl, _, rfl, if_false_of rfl ?_⟩
    refine ⟨_, rfl, _, _, rfl, Or.inr (T.t_LOADS _), rfl, (by decide +kernel), _, rfl, if_false_of ((in_strs (nm o) loads).trans (decide_eq_false hld)) ?_⟩
    refine ⟨_, rfl, (by show 2 ≤ sizeLine; decide), fun t1 ht1 => ⟨t1, _, rfl, Or.inr (SqT.of upd_same), rfl, rfl, _, rfl, if_true_of rfl ?_⟩⟩
    refine ⟨_, rfl, Or.inl ⟨nm o, rfl, (by (try simp only [len_app, len_emp, len_blank, len_sep, len_open, len_close]); exact sz (by omega)), _, rfl, (by (try simp only [len_app, len_emp, len_blank, len_sep, len_open, len_close]); exact sz (by omega)), ?_⟩⟩
    refine ⟨_, rfl, (by (try simp only [len_app, len_emp, len_blank, len_sep, len_open, len_close]); exact sz (by omega)), ?_⟩
    refine ⟨_, rfl, _, _, a, _, rfl, rfl, T.t_REGISTERS _, at_rg ha, Or.inl ⟨rg a, rfl, (by (try simp only [len_app, len_emp, len_blank, len_sep, len_open, len_close]); exact sz (by omega)), _, rfl, (by (try simp only [len_app, len_emp, len_blank, len_sep, len_open, len_close]); exact sz (by omega)), ?_⟩⟩
    refine ⟨_, rfl, (by (try simp only [len_app, len_emp, len_blank, len_sep, len_open, len_close]); exact sz (by omega)), ?_⟩
    refine ⟨_, rfl, Or.inr ⟨b, rfl, log_ok (by omega), num b, rfl, (by (try simp only [len_app, len_emp, len_blank, len_sep, len_open, len_close]); exact sz (by omega)), ?_⟩⟩
    exact hq _ (Same.tr s1 (same_new ht1))
  | jump =>
    rw [ef] at hq hI
    obtain ⟨ha, hb, hc⟩ := hI
    have la := len_rg ha
    have lb := len_num (i := b) (by omega)
    have hld : ¬ nm o ∈ loads := fun m => by have z := st_ld o ho ((ld_fo o ho).mp m); rw [ef] at z; cases z
    refine ⟨_, rfl, rfl, _, rfl, if_false_of rfl ?_⟩
    refine ⟨_, rfl, rfl, _, rfl, if_false_of rfl ?_⟩
    refine ⟨_, rfl, _, _, rfl, Or.inr (T.t_LOADS _), rfl, (by decide +kernel), _, rfl, if_false_of ((in_strs (nm o) loads).trans (decide_eq_false hld)) ?_⟩
    refine ⟨_, rfl, (by show 2 ≤ sizeLine; decide), fun t1 ht1 => ⟨t1, _, rfl, Or.inr (SqT.of upd_same), rfl, rfl, _, rfl, if_true_of rfl ?_⟩⟩
    refine ⟨_, rfl, Or.inl ⟨nm o, rfl, (by (try simp only [len_app, len_emp, len_blank, len_sep, len_open, len_close]); exact sz (by omega)), _, rfl, (by (try simp only [len_app, len_emp, len_blank, len_sep, len_open, len_close]); exact sz (by omega)), ?_⟩⟩
    refine ⟨_, rfl, (by (try simp only [len_app, len_emp, len_blank, len_sep, len_open, len_close]); exact sz (by omega)), ?_⟩
    refine ⟨_, rfl, _, _, a, _, rfl, rfl, T.t_REGISTERS _, at_rg ha, Or.inl ⟨rg a, rfl, (by (try simp only [len_app, len_emp, len_blank, len_sep, len_open, len_close]); exact sz (by omega)), _, rfl, (by (try simp only [len_app, len_emp, len_blank, len_sep, len_open, len_close]); exact sz (by omega)), ?_⟩⟩
    refine ⟨_, rfl, (by (try simp only [len_app, len_emp, len_blank, len_sep, len_open, len_close]); exact sz (by omega)), ?_⟩
    refine ⟨_, rfl, Or.inr ⟨b, rfl, log_ok (by omega), num b, rfl, (by (try simp only [len_app, len_emp, len_blank, len_sep, len_open, len_close]); exact sz (by omega)), ?_⟩⟩
    exact hq _ (Same.tr s1 (same_new ht1))
  | three =>
    rw [ef] at hq hI
    obtain ⟨ha, hb, hc⟩ := hI
    have la := len_rg ha
    have lb := len_rg hb
    have lc := len_rg hc
    have hld : ¬ nm o ∈ loads := fun m => by have z := st_ld o ho ((ld_fo o ho).mp m); rw [ef] at z; cases z
    refine ⟨_, rfl, rfl, _, rfl, if_false_of rfl ?_⟩
    refine ⟨_, rfl, rfl, _, rfl, if_false_of rfl ?_⟩
    refine ⟨_, rfl, _, _, rfl, Or.inr (T.t_LOADS _), rfl, (by decide +kernel), _, rfl, if_false_of ((in_strs (nm o) loads).trans (decide_eq_false hld)) ?_⟩
    refine ⟨_, rfl, (by show 2 ≤ sizeLine; decide), fun t1 ht1 => ⟨t1, _, rfl, Or.inr (SqT.of upd_same), rfl, rfl, _, rfl, if_false_of rfl ?_⟩⟩
    refine ⟨_, rfl, rfl, _, rfl, if_true_of rfl ?_⟩
    refine ⟨_, rfl, _, _, c, _, rfl, rfl, T.t_REGISTERS _, at_rg hc, ?_⟩
    refine ⟨_, rfl, Or.inl ⟨nm o, rfl, (by (try simp only [len_app, len_emp, len_blank, len_sep, len_open, len_close]); exact sz (by omega)), _, rfl, (by (try simp only [len_app, len_emp, len_blank, len_sep, len_open, len_close]); exact sz (by omega)), ?_⟩⟩
    refine ⟨_, rfl, (by (try simp only [len_app, len_emp, len_blank, len_sep, len_open, len_close]); exact sz (by omega)), ?_⟩
    refine ⟨_, rfl, _, _, a, _, rfl, rfl, T.t_REGISTERS _, at_rg ha, Or.inl ⟨rg a, rfl, (by (try simp only [len_app, len_emp, len_blank, len_sep, len_open, len_close]); exact sz (by omega)), _, rfl, (by (try simp only [len_app, len_emp, len_blank, len_sep, len_open, len_close]); exact sz (by omega)), ?_⟩⟩
    refine ⟨_, rfl, (by (try simp only [len_app, len_emp, len_blank, len_sep, len_open, len_close]); exact sz (by omega)), ?_⟩
    refine ⟨_, rfl, _, _, b, _, rfl, rfl, T.t_REGISTERS _, at_rg hb, Or.inl ⟨rg b, rfl, (by (try simp only [len_app, len_emp, len_blank, len_sep, len_open, len_close]); exact sz (by omega)), _, rfl, (by (try simp only [len_app, len_emp, len_blank, len_sep, len_open, len_close]); exact sz (by omega)), ?_⟩⟩
    refine ⟨_, rfl, (by (try simp only [len_app, len_emp, len_blank, len_sep, len_open, len_close]); exact sz (by omega)), ?_⟩
    refine ⟨_, rfl, Or.inl ⟨rg c, rfl, (by (try simp only [len_app, len_emp, len_blank, len_sep, len_open, len_close]); exact sz (by omega)), _, rfl, (by (try simp only [len_app, len_emp, len_blank, len_sep, len_open, len_close]); exact sz (by omega)), ?_⟩⟩
    exact hq _ (Same.tr s1 (same_new ht1))
  | shift =>
    rw [ef] at hq hI
    obtain ⟨ha, hb, hc⟩ := hI
    have la := len_rg ha
    have lb := len_rg hb
    have lc := len_num (i := c) (by omega)
    have hld : ¬ nm o ∈ loads := fun m => by have z := st_ld o ho ((ld_fo o ho).mp m); rw [ef] at z; cases z
    refine ⟨_, rfl, rfl, _, rfl, if_false_of rfl ?_⟩
    refine ⟨_, rfl, rfl, _, rfl, if_false_of rfl ?_⟩
    refine ⟨_, rfl, _, _, rfl, Or.inr (T.t_LOADS _), rfl, (by decide +kernel), _, rfl, if_false_of ((in_strs (nm o) loads).trans (decide_eq_false hld)) ?_⟩
    refine ⟨_, rfl, (by show 2 ≤ sizeLine; decide), fun t1 ht1 => ⟨t1, _, rfl, Or.inr (SqT.of upd_same), rfl, rfl, _, rfl, if_false_of rfl ?_⟩⟩
    refine ⟨_, rfl, rfl, _, rfl, if_false_of rfl ?_⟩
    refine ⟨_, rfl, ?_⟩
    refine ⟨_, rfl, Or.inl ⟨nm o, rfl, (by (try simp only [len_app, len_emp, len_blank, len_sep, len_open, len_close]); exact sz (by omega)), _, rfl, (by (try simp only [len_app, len_emp, len_blank, len_sep, len_open, len_close]); exact sz (by omega)), ?_⟩⟩
    refine ⟨_, rfl, (by (try simp only [len_app, len_emp, len_blank, len_sep, len_open, len_close]); exact sz (by omega)), ?_⟩
    refine ⟨_, rfl, _, _, a, _, rfl, rfl, T.t_REGISTERS _, at_rg ha, Or.inl ⟨rg a, rfl, (by (try simp only [len_app, len_emp, len_blank, len_sep, len_open, len_close]); exact sz (by omega)), _, rfl, (by (try simp only [len_app, len_emp, len_blank, len_sep, len_open, len_close]); exact sz (by omega)), ?_⟩⟩
    refine ⟨_, rfl, (by (try simp only [len_app, len_emp, len_blank, len_sep, len_open, len_close]); exact sz (by omega)), ?_⟩
    refine ⟨_, rfl, _, _, b, _, rfl, rfl, T.t_REGISTERS _, at_rg hb, Or.inl ⟨rg b, rfl, (by (try simp only [len_app, len_emp, len_blank, len_sep, len_open, len_close]); exact sz (by omega)), _, rfl, (by (try simp only [len_app, len_emp, len_blank, len_sep, len_open, len_close]); exact sz (by omega)), ?_⟩⟩
    refine ⟨_, rfl, (by (try simp only [len_app, len_emp, len_blank, len_sep, len_open, len_close]); exact sz (by omega)), ?_⟩
    refine ⟨_, rfl, Or.inr ⟨c, rfl, log_ok (by omega), num c, rfl, (by (try simp only [len_app, len_emp, len_blank, len_sep, len_open, len_close]); exact sz (by omega)), ?_⟩⟩
    exact hq _ (Same.tr s1 (same_new ht1))
  | branch =>
    rw [ef] at hq hI
    obtain ⟨ha, hb, hc⟩ := hI
    have la := len_rg ha
    have lb := len_rg hb
    have lc := len_num (i := c) (by omega)
    have hld : ¬ nm o ∈ loads := fun m => by have z := st_ld o ho ((ld_fo o ho).mp m); rw [ef] at z; cases z
    refine ⟨_, rfl, rfl, _, rfl, if_false_of rfl ?_⟩
    refine ⟨_, rfl, rfl, _, rfl, if_false_of rfl ?_⟩
    refine ⟨_, rfl, _, _, rfl, Or.inr (T.t_LOADS _), rfl, (by decide +kernel), _, rfl, if_false_of ((in_strs (nm o) loads).trans (decide_eq_false hld)) ?_⟩
    refine ⟨_, rfl, (by show 2 ≤ sizeLine; decide), fun t1 ht1 => ⟨t1, _, rfl, Or.inr (SqT.of upd_same), rfl, rfl, _, rfl, if_false_of rfl ?_⟩⟩
    refine ⟨_, rfl, rfl, _, rfl, if_false_of rfl ?_⟩
    refine ⟨_, rfl, ?_⟩
    refine ⟨_, rfl, Or.inl ⟨nm o, rfl, (by (try simp only [len_app, len_emp, len_blank, len_sep, len_open, len_close]); exact sz (by omega)), _, rfl, (by (try simp only [len_app, len_emp, len_blank, len_sep, len_open, len_close]); exact sz (by omega)), ?_⟩⟩
    refine ⟨_, rfl, (by (try simp only [len_app, len_emp, len_blank, len_sep, len_open, len_close]); exact sz (by omega)), ?_⟩
    refine ⟨_, rfl, _, _, a, _, rfl, rfl, T.t_REGISTERS _, at_rg ha, Or.inl ⟨rg a, rfl, (by (try simp only [len_app, len_emp, len_blank, len_sep, len_open, len_close]); exact sz (by omega)), _, rfl, (by (try simp only [len_app, len_emp, len_blank, len_sep, len_open, len_close]); exact sz (by omega)), ?_⟩⟩
    refine ⟨_, rfl, (by (try simp only [len_app, len_emp, len_blank, len_sep, len_open, len_close]); exact sz (by omega)), ?_⟩
    refine ⟨_, rfl, _, _, b, _, rfl, rfl, T.t_REGISTERS _, at_rg hb, Or.inl ⟨rg b, rfl, (by (try simp only [len_app, len_emp, len_blank, len_sep, len_open, len_close]); exact sz (by omega)), _, rfl, (by (try simp only [len_app, len_emp, len_blank, len_sep, len_open, len_close]); exact sz (by omega)), ?_⟩⟩
    refine ⟨_, rfl, (by (try simp only [len_app, len_emp, len_blank, len_sep, len_open, len_close]); exact sz (by omega)), ?_⟩
    refine ⟨_, rfl, Or.inr ⟨c, rfl, log_ok (by omega), num c, rfl, (by (try simp only [len_app, len_emp, len_blank, len_sep, len_open, len_close]); exact sz (by omega)), ?_⟩⟩
    exact hq _ (Same.tr s1 (same_new ht1))
  | number =>
    rw [ef] at hq hI
    obtain ⟨ha, hb, hc⟩ := hI
    have la := len_rg ha
    have lb := len_rg hb
    have lc := len_num (i := c) (by omega)
    dsimp only at hq
    by_cases cl : isLd o = true
    · rw [if_pos cl] at hq
      have hld := (ld_fo o ho).mpr cl
      refine ⟨_, rfl, rfl, _, rfl, if_false_of rfl ?_⟩
      refine ⟨_, rfl, rfl, _, rfl, if_false_of rfl ?_⟩
      refine ⟨_, rfl, _, _, rfl, Or.inr (T.t_LOADS _), rfl, (by decide +kernel), _, rfl, if_true_of ((in_strs (nm o) loads).trans (decide_eq_true hld)) ?_⟩
      refine ⟨_, rfl, Or.inl ⟨nm o, rfl, (by (try simp only [len_app, len_emp, len_blank, len_sep, len_open, len_close]); exact sz (by omega)), _, rfl, (by (try simp only [len_app, len_emp, len_blank, len_sep, len_open, len_close]); exact sz (by omega)), ?_⟩⟩
      refine ⟨_, rfl, (by (try simp only [len_app, len_emp, len_blank, len_sep, len_open, len_close]); exact sz (by omega)), ?_⟩
      refine ⟨_, rfl, _, _, a, _, rfl, rfl, T.t_REGISTERS _, at_rg ha, Or.inl ⟨rg a, rfl, (by (try simp only [len_app, len_emp, len_blank, len_sep, len_open, len_close]); exact sz (by omega)), _, rfl, (by (try simp only [len_app, len_emp, len_blank, len_sep, len_open, len_close]); exact sz (by omega)), ?_⟩⟩
      refine ⟨_, rfl, (by (try simp only [len_app, len_emp, len_blank, len_sep, len_open, len_close]); exact sz (by omega)), ?_⟩
      refine ⟨_, rfl, Or.inr ⟨c, rfl, log_ok (by omega), num c, rfl, (by (try simp only [len_app, len_emp, len_blank, len_sep, len_open, len_close]); exact sz (by omega)), ?_⟩⟩
      refine ⟨_, rfl, (by (try simp only [len_app, len_emp, len_blank, len_sep, len_open, len_close]); exact sz (by omega)), ?_⟩
      refine ⟨_, rfl, _, _, b, _, rfl, rfl, T.t_REGISTERS _, at_rg hb, Or.inl ⟨rg b, rfl, (by (try simp only [len_app, len_emp, len_blank, len_sep, len_open, len_close]); exact sz (by omega)), _, rfl, (by (try simp only [len_app, len_emp, len_blank, len_sep, len_open, len_close]); exact sz (by omega)), ?_⟩⟩
      refine ⟨_, rfl, (by (try simp only [len_app, len_emp, len_blank, len_sep, len_open, len_close]); exact sz (by omega)), ?_⟩
      exact hq _ s1
    · rw [if_neg cl] at hq
      have hld : ¬ nm o ∈ loads := fun m => cl ((ld_fo o ho).mp m)
      refine ⟨_, rfl, rfl, _, rfl, if_false_of rfl ?_⟩
      refine ⟨_, rfl, rfl, _, rfl, if_false_of rfl ?_⟩
      refine ⟨_, rfl, _, _, rfl, Or.inr (T.t_LOADS _), rfl, (by decide +kernel), _, rfl, if_false_of ((in_strs (nm o) loads).trans (decide_eq_false hld)) ?_⟩
      refine ⟨_, rfl, (by show 2 ≤ sizeLine; decide), fun t1 ht1 => ⟨t1, _, rfl, Or.inr (SqT.of upd_same), rfl, rfl, _, rfl, if_false_of rfl ?_⟩⟩
      refine ⟨_, rfl, rfl, _, rfl, if_false_of rfl ?_⟩
      refine ⟨_, rfl, ?_⟩
      refine ⟨_, rfl, Or.inl ⟨nm o, rfl, (by (try simp only [len_app, len_emp, len_blank, len_sep, len_open, len_close]); exact sz (by omega)), _, rfl, (by (try simp only [len_app, len_emp, len_blank, len_sep, len_open, len_close]); exact sz (by omega)), ?_⟩⟩
      refine ⟨_, rfl, (by (try simp only [len_app, len_emp, len_blank, len_sep, len_open, len_close]); exact sz (by omega)), ?_⟩
      refine ⟨_, rfl, _, _, a, _, rfl, rfl, T.t_REGISTERS _, at_rg ha, Or.inl ⟨rg a, rfl, (by (try simp only [len_app, len_emp, len_blank, len_sep, len_open, len_close]); exact sz (by omega)), _, rfl, (by (try simp only [len_app, len_emp, len_blank, len_sep, len_open, len_close]); exact sz (by omega)), ?_⟩⟩
      refine ⟨_, rfl, (by (try simp only [len_app, len_emp, len_blank, len_sep, len_open, len_close]); exact sz (by omega)), ?_⟩
      refine ⟨_, rfl, _, _, b, _, rfl, rfl, T.t_REGISTERS _, at_rg hb, Or.inl ⟨rg b, rfl, (by (try simp only [len_app, len_emp, len_blank, len_sep, len_open, len_close]); exact sz (by omega)), _, rfl, (by (try simp only [len_app, len_emp, len_blank, len_sep, len_open, len_close]); exact sz (by omega)), ?_⟩⟩
      refine ⟨_, rfl, (by (try simp only [len_app, len_emp, len_blank, len_sep, len_open, len_close]); exact sz (by omega)), ?_⟩
      refine ⟨_, rfl, Or.inr ⟨c, rfl, log_ok (by omega), num c, rfl, (by (try simp only [len_app, len_emp, len_blank, len_sep, len_open, len_close]); exact sz (by omega)), ?_⟩⟩
      exact hq _ (Same.tr s1 (same_new ht1))
end
end K66

namespace K66
open PySem PyProof.Rows L2 My Ru I6
open Builtin (bitAnd bitOr)
theorem emp_str : ("" : Str) = Str.empty := by decide +kernel
theorem dec_s (a b : Str) : decide (V.str a = V.str b) = decide (a = b) := by
  by_cases c : a = b
  · rw [decide_eq_true c, c]; exact decide_eq_true rfl
  · rw [decide_eq_false c]
    exact decide_eq_false (fun z => c (V.str.inj z))
theorem figs_tl (c : Nat) : decide (c ∈ ("0123456789" : Str).cps.toList) = decide (48 ≤ c ∧ c ≤ 57) := by
  have e : ("0123456789" : Str).cps.toList = [48, 49, 50, 51, 52, 53, 54, 55, 56, 57] := by decide +kernel
  rw [e]
  by_cases h : 48 ≤ c ∧ c ≤ 57
  · rw [decide_eq_true h]
    refine decide_eq_true ?_
    simp only [List.mem_cons, List.not_mem_nil, or_false]
    omega
  · rw [decide_eq_false h]
    refine decide_eq_false ?_
    simp only [List.mem_cons, List.not_mem_nil, or_false]
    omega
theorem int_ok {t : Str} (h : ¬ (Txt.removeprefix t "-" = Str.empty ∨ 8 < t.length ∨ digs (Txt.removeprefix t "-") = false)) : ∃ n, intText? t = some n := by
  have h1 : Txt.removeprefix t "-" ≠ Str.empty := fun z => h (.inl z)
  have h2 : ¬ 8 < t.length := fun z => h (.inr (.inl z))
  have h3 : digs (Txt.removeprefix t "-") = true := by
    cases e : digs (Txt.removeprefix t "-") with
    | true => rfl
    | false => exact absurd (.inr (.inr e)) h
  have hd : NumText.AllDigits (TL.tl (Txt.removeprefix t "-")) := fun c hc => of_decide_eq_true (List.all_eq_true.mp h3 c hc)
  have hn : TL.tl (Txt.removeprefix t "-") ≠ [] := fun z => h1 (TL.ext_tl (by rw [z]; rfl))
  rw [removeprefix_tl, minus_tl] at hd hn
  split at hd
  · rename_i e
    rw [if_pos e] at hn
    cases et : TL.tl t with
    | nil => rw [et] at e; simp at e
    | cons c cs =>
      rw [et] at e hd hn
      have e1 : c = 45 := by simpa using e
      subst e1
      exact ⟨_, intText_neg (x := t) (cs := cs) et hd hn (by omega)⟩
  · rename_i e
    rw [if_neg e] at hn
    exact ⟨_, intText_digits (x := t) hd hn (by omega)⟩
theorem rp_len (t : Str) : (Txt.removeprefix t "-").length ≤ t.length := by
  rw [TL.len_tl, TL.len_tl, removeprefix_tl]
  split
  · rw [List.length_drop]; omega
  · exact Nat.le_refl _
theorem digs_all (t : Str) : ((TL.tl t).map fun c => decide (48 ≤ c ∧ c ≤ 57)).all id = digs t := by
  unfold digs
  rw [List.all_map]; rfl
section
variable {P : Program} {w : World} {K : PySem.W.Frag} {mg : Str → Option Value} {base : Heap}
theorem sc__register : FnScope ["text"] ["text"] (defScope s__register) := ⟨rfl, rfl, rfl, by decide +kernel, rfl, by decide +kernel, by decide +kernel⟩
theorem g__register (T : Txt K mg w)  : Gd P w K mg base CX0 1 "_register" ["text"] (sp__register K) := by
  have sc := sc__register
  refine T.d__register.ok sc len1 (fun _ _ _ _ _ _ us hl => match us, hl with | [_], _ => rfl) (fun f cdv A outer s H vs Q E hr h => ?_)
  obtain ⟨x0, rfl, h⟩ := h
  obtain ⟨t, rfl, h⟩ := h
  refine ⟨_, (pss_one (ps_ret (pe_ifExp (pt_cmpR op_in_seq (pv 0) (pe_gref T.c_REGISTERS) rfl) (pe_bm PySem.F.plainAttrs_tuple PySem.F.slot_tuple_index PySem.F.type_tuple_index mt_tup_index (pe_gref T.c_REGISTERS) (pa_cons (pv 0) pa_nil)) pe_non))), ?_⟩
  refine ⟨_, rfl, _, _, rfl, Or.inr (T.t_REGISTERS _), rfl, (by decide +kernel), _, rfl, ?_⟩
  unfold regO at h
  cases e : posOf regs t with
  | none =>
    rw [e] at h
    refine if_false_of ((in_strs t regs).trans (decide_eq_false (posOf_none e))) ?_
    exact h
  | some j =>
    rw [e] at h
    refine if_true_of ((in_strs t regs).trans (decide_eq_true (List.mem_of_getElem? (posOf_some e).1))) ?_
    refine ⟨.inr (.inl ⟨rfl, T.ty_REGISTERS⟩), _, rfl, ?_⟩
    exact ⟨_, regs, t, j, rfl, rfl, T.t_REGISTERS _, (posOf_some e).1, (posOf_some e).2, h⟩
theorem sc__number : FnScope ["text", "figures", "figure"] ["text"] (defScope s__number) := ⟨rfl, rfl, rfl, by decide +kernel, rfl, by decide +kernel, by decide +kernel⟩
theorem g__number (T : Txt K mg w)  : Gd P w K mg base CX0 1 "_number" ["text"] (sp__number K) := by
  have sc := sc__number
  refine T.d__number.ok sc len1 (fun _ _ _ _ _ _ us hl => match us, hl with | [_], _ => rfl) (fun f cdv A outer s H vs Q E hr h => ?_)
  obtain ⟨x0, rfl, h⟩ := h
  obtain ⟨t, rfl, hl, h⟩ := h
  refine ⟨_, (pss_cons (ps_set (i := 1) sc.nd rfl (Or.inl rfl) (pe_bm PySem.F.plainAttrs_str PySem.F.slot_str_removeprefix PySem.F.type_str_removeprefix mt_removeprefix (pv 0) (pa_cons pe_str pa_nil)))
      (pss_cons (ps_if (PW.pt (pw_or (pt_cmpR op_eq (pv 1) pe_str (nomark _)) (pw_or (pt_cmpR op_gt (pe_callB call_len_str (by rfl) T.n_len PySem.boot_len (pa_cons (pv 0) pa_nil)) (pe_gint T.c_MOST_SIGNS) (nomark _)) (pw_or1 (pt_not (pt_val (pe_callB (cr_all rfl) (by rfl) T.n_all (by decide +kernel) (pa_cons (pe_lc (own := [("figure", 2)]) (g := gName 2) (by rfl) sc.nd (pi_str (pv 1)) (blkOk_by (own := [("figure", 2)]) (N := ["text", "figures", "figure"]) (sc := defScope s__number) (by decide +kernel)) (fun _ _ _ _ _ => (pg_name (i := 2) sc.nd rfl (Or.inl rfl))) (fun _ _ _ _ _ => pts_nil) (fun _ _ _ _ _ => (pe_cmpR op_in_sign (pv 2) (pe_gstr T.c_FIGURES) rfl))) pa_nil)))))))) (pss_one (ps_ret pe_non)) pss_nil)
      (pss_one (ps_ret (pe_callTy call_int_str (by rfl) T.n_int (by decide +kernel) (pa_cons (pv 0) pa_nil)))))), ?_⟩
  refine ⟨_, rfl, rfl, _, _, rfl, rfl, sz hl, ?_⟩
  unfold numO at h
  refine ⟨_, rfl, rfl, _, rfl, ?_⟩
  by_cases c1 : Txt.removeprefix t "-" = Str.empty
  · rw [if_pos (Or.inl c1)] at h
    refine if_true_of ?_ (h H Same.rf)
    rw [dec_s, emp_str]; exact decide_eq_true c1
  refine if_false_of ?_ ?_
  · rw [dec_s, emp_str]; exact decide_eq_false c1
  refine ⟨_, rfl, t, rfl, sz hl, _, _, rfl, rfl, _, rfl, ?_⟩
  by_cases c2 : 8 < t.length
  · rw [if_pos (Or.inr (Or.inl c2))] at h
    refine if_true_of ?_ (h H Same.rf)
    exact decide_eq_true (by omega)
  refine if_false_of ?_ ?_
  · exact decide_eq_false (by omega)
  refine ⟨_, rfl, _, rfl, fun D hD => ?_⟩
  refine lc_it walk_str (fun i H' => Same H H' ∧ H' D = some (.lst (((TL.tl (Txt.removeprefix t "-")).take i).map fun c => V.bl (decide (48 ≤ c ∧ c ≤ 57))))) ⟨same_new hD, upd_same⟩ (fun _ _ _ _ => trivial) (fun i x H2 H' hi p y => ?_) (fun H' p => ?_)
  · obtain ⟨rfl, c, hc, rfl⟩ := y
    refine ⟨rfl, ?_⟩
    dsimp only [tYes]
    rw [if_pos rfl]
    refine ⟨_, rfl, c, _, rfl, rfl, ?_⟩
    refine ⟨_, p.2, (by rw [List.length_map, List.length_take]; have := rp_len t; exact tup_lt (by rw [TL.len_tl] at this; omega)), fun x o e => ?_, ?_⟩
    · by_cases z : x = D
      · rw [z, hD] at e; cases e
      · rw [upd_ne z]; exact p.1 _ _ e
    · have hc' : (TL.tl (Txt.removeprefix t "-"))[i]? = some c := by
        rw [← hc]; exact Array.getElem?_toList
      rw [upd_same, figs_tl, List.take_add_one, hc', Option.toList_some, List.map_append]
      rfl
  · refine ⟨D, (TL.tl (Txt.removeprefix t "-")).map (fun c => decide (48 ≤ c ∧ c ≤ 57)), rfl, SqL.of (by rw [p.2, List.take_of_length_le (by show (TL.tl (Txt.removeprefix t "-")).length ≤ _; exact Nat.le_refl _), List.map_map]; rfl), ?_⟩
    rw [digs_all]
    refine ⟨_, rfl, ?_⟩
    cases e : digs (Txt.removeprefix t "-") with
    | false =>
      rw [if_pos (Or.inr (Or.inr e))] at h
      exact if_true_of rfl (h H' p.1)
    | true =>
      have hn : ¬ (Txt.removeprefix t "-" = Str.empty ∨ 8 < t.length ∨ digs (Txt.removeprefix t "-") = false) := by
        rintro (z | z | z)
        · exact c1 z
        · exact c2 z
        · rw [e] at z; cases z
      rw [if_neg hn] at h
      obtain ⟨n, en⟩ := int_ok hn
      rw [en] at h
      refine if_false_of rfl ?_
      exact ⟨_, rfl, t, n, rfl, en, by omega, h H' p.1⟩
end
end K66

namespace K66
open PySem PyProof.Rows L2 My Ru I6
open Builtin (bitAnd bitOr)
theorem spl_len (S : List Nat) : ∀ (l : List Nat) (k : Nat) (acc p : List Nat), p ∈ TL.spl S k acc l → p.length ≤ acc.length + l.length
  | [], k, acc, p, h => by
    rw [TL.spl_nil] at h
    rw [List.mem_singleton.mp h]; simp
  | c :: r, 0, acc, p, h => by
    unfold TL.spl at h
    split at h
    · rcases List.mem_cons.mp h with h | h
      · rw [h]; exact Nat.le_add_right _ _
      · have := spl_len S r _ [] p h
        simp only [List.length_nil, List.length_cons] at this ⊢
        omega
    · have := spl_len S r 0 (acc ++ [c]) p h
      simp only [List.length_append, List.length_cons, List.length_nil] at this ⊢
      omega
  | c :: r, k + 1, acc, p, h => by
    unfold TL.spl at h
    have := spl_len S r k acc p h
    simp only [List.length_cons]
    omega
theorem spl_ne (S : List Nat) : ∀ (l : List Nat) (k : Nat) (acc : List Nat), TL.spl S k acc l ≠ []
  | [], k, acc => by rw [TL.spl_nil]; simp
  | c :: r, 0, acc => by
    unfold TL.spl
    split
    · simp
    · exact spl_ne S r _ _
  | c :: r, k + 1, acc => by
    unfold TL.spl
    exact spl_ne S r k acc
theorem sep_split (x : Str) : (Txt.split x ", ").map TL.tl = TL.spl [44, 32] 0 [] (TL.tl x) := by
  have := TL.split_spl x ", " (by rw [sep_tl]; simp) (TL.kind_ok (by decide +kernel))
  rw [sep_tl] at this
  exact this
theorem split_len {x p : Str} (h : p ∈ Txt.split x ", ") : p.length ≤ x.length := by
  have : TL.tl p ∈ (Txt.split x ", ").map TL.tl := List.mem_map_of_mem h
  rw [sep_split] at this
  have := spl_len _ _ _ _ _ this
  rw [TL.len_tl, TL.len_tl x]
  simpa using this
theorem split_ne (x : Str) : Txt.split x ", " ≠ [] := fun z => by
  have := sep_split x
  rw [z] at this
  exact spl_ne _ _ _ _ this.symm
theorem split_many (x : Str) : (Txt.split x ", ").length ≤ x.length + 1 := by
  have k : ∀ (l : List Nat) (k : Nat) (acc : List Nat), (TL.spl [44, 32] k acc l).length ≤ l.length + 1 := by
    intro l
    induction l with
    | nil => intro k acc; rw [TL.spl_nil]; simp
    | cons c r ih =>
      intro k acc
      cases k with
      | zero =>
        unfold TL.spl
        split
        · have := ih ([44, 32].length - 1) []
          simp only [List.length_cons] at this ⊢
          omega
        · have := ih 0 (acc ++ [c])
          simp only [List.length_cons]
          omega
      | succ k =>
        unfold TL.spl
        have := ih k acc
        simp only [List.length_cons]
        omega
  have := k (TL.tl x) 0 []
  rw [← sep_split, List.length_map] at this
  rw [TL.len_tl]; exact this
theorem par_len (S : List Nat) : ∀ (l acc a b : List Nat), TL.par S acc l = some (a, b) → a.length + b.length ≤ acc.length + l.length
  | [], acc, a, b, h => by unfold TL.par at h; cases h
  | c :: r, acc, a, b, h => by
    unfold TL.par at h
    split at h
    · injection h with h
      injection h with h1 h2
      subst h1 h2
      rw [List.length_drop]; omega
    · have := par_len S r (acc ++ [c]) a b h
      simp only [List.length_append, List.length_cons, List.length_nil] at this ⊢
      omega
theorem part_len (x y : Str) (hy : TL.tl y ≠ []) : (Txt.partition x y).1.length ≤ x.length ∧ (Txt.partition x y).2.2.length ≤ x.length := by
  rw [TL.partition_par x y hy]
  split
  · rename_i a b e
    have := par_len _ _ _ _ _ e
    rw [TL.len_tl x]
    show a.toArray.size ≤ _ ∧ b.toArray.size ≤ _
    rw [List.size_toArray, List.size_toArray]
    simp only [List.length_nil] at this
    omega
  · exact ⟨Nat.le_refl _, Nat.zero_le _⟩
theorem part_b (x : Str) : (Txt.partition x " ").1.length ≤ x.length ∧ (Txt.partition x " ").2.2.length ≤ x.length := part_len x _ (by rw [blank_tl]; simp)
theorem part_o (x : Str) : (Txt.partition x "(").1.length ≤ x.length ∧ (Txt.partition x "(").2.2.length ≤ x.length := part_len x _ (by rw [open_tl]; simp)
theorem lastD_mem {l : List Str} (h : l ≠ []) : l.getLastD Str.empty ∈ l ∧ l = l.dropLast ++ [l.getLastD Str.empty] := by
  cases l with
  | nil => exact absurd rfl h
  | cons a l =>
    have e : (a :: l).getLastD Str.empty = (a :: l).getLast (by simp) := by
      cases l <;> simp [List.getLastD, List.getLast?]
    rw [e]
    exact ⟨List.getLast_mem _, (List.dropLast_concat_getLast _).symm⟩
theorem at_last {l : List Str} (h : l ≠ []) : atI (l.map V.str) (-1) = some (.str (l.getLastD Str.empty)) := by
  have e := (lastD_mem h).2
  have : atI ((l.dropLast ++ [l.getLastD Str.empty]).map V.str) (-1) = some (.str (l.getLastD Str.empty)) := by
    rw [List.map_append]
    exact atI_last _ _
  rw [← e] at this
  exact this
theorem at_head {l : List Str} (h : l ≠ []) : atI (l.map V.str) 0 = some (.str (l.headD Str.empty)) := by
  cases l with
  | nil => exact absurd rfl h
  | cons a l => exact atI_nat (j := 0) rfl
theorem at_d {l : List Str} {i : Nat} (h : i < l.length) : atI (l.map V.str) (i : Int) = some (.str (l.getD i Str.empty)) := by
  refine atI_nat ?_
  rw [List.getElem?_map, List.getElem?_eq_getElem h, List.getD_eq_getElem?_getD, List.getElem?_eq_getElem h]
  rfl
theorem head_mem {l : List Str} (h : l ≠ []) : l.headD Str.empty ∈ l := by
  cases l with
  | nil => exact absurd rfl h
  | cons a l => exact List.mem_cons_self
theorem d_mem {l : List Str} {i : Nat} (h : i < l.length) : l.getD i Str.empty ∈ l := by
  rw [List.getD_eq_getElem?_getD, List.getElem?_eq_getElem h]
  exact List.getElem_mem h
theorem loads_nms : ∀ s, s ∈ loads → (posOf nms s).isSome = true := by decide +kernel
theorem sz2 {n : Nat} (h : n ≤ 1000) : n + 2 ≤ sizeLine := tup_le (by omega)
section
variable {P : Program} {w : World} {K : PySem.W.Frag} {mg : Str → Option Value} {base : Heap}
theorem sc__parts_put : FnScope ["text", "form", "parts", "last", "name", "_", "rest", "base", "first", "number", "register_told"] ["text"] (defScope s__parts_put) := ⟨rfl, rfl, rfl, by decide +kernel, rfl, by decide +kernel, by decide +kernel⟩
theorem g__parts_put (T : Txt K mg w) (G__register : Gd P w K mg base CX0 1 "_register" ["text"] (sp__register K)) (G__number : Gd P w K mg base CX0 1 "_number" ["text"] (sp__number K)) : Gd P w K mg base CX0 2 "_parts_put" ["text"] (sp__parts_put K) := by
  have sc := sc__parts_put
  refine T.d__parts_put.ok sc len1 (fun _ _ _ _ _ _ us hl => match us, hl with | [_], _ => rfl) (fun f cdv A outer s H vs Q E hr h => ?_)
  obtain ⟨x0, rfl, h⟩ := h
  obtain ⟨t, rfl, hl, h⟩ := h
  obtain ⟨esF, nF, kd_FORMS⟩ := T.k_FORMS
  refine ⟨_, (pss_cons (ps_asg (pe_partition (pv 0) pe_str) (pg_tup rfl (pgs_cons (pg_name (i := 4) sc.nd rfl (Or.inl rfl)) (pgs_cons (pg_name (i := 5) sc.nd rfl (Or.inl rfl)) (pgs_cons (pg_name (i := 6) sc.nd rfl (Or.inl rfl)) pgs_nil)))))
      (pss_cons (ps_set (i := 1) sc.nd rfl (Or.inl rfl) (pe_ifExp (pt_cmpR (op_in_kd kd_FORMS) (pv 4) (pe_gref T.c_FORMS) rfl) (pe_ix ix_tup (pe_ix ix_kdict (pe_gref T.c_FORMS) (pv 4) (fun _ _ => rfl)) pe_int (fun _ _ => rfl)) pe_non))
      (pss_cons (ps_if (pt_cmpR op_eq (pv 1) pe_str (nomark _)) (pss_one (ps_ret (pe_tup (pa_cons (pv 4) (pa_cons pe_int (pa_cons pe_int (pa_cons pe_int pa_nil))))))) pss_nil)
      (pss_cons (ps_set (i := 2) sc.nd rfl (Or.inl rfl) (pe_split (pv 6) pe_str))
      (pss_cons (ps_if (PW.pt (pw_or (pt_cmpR op_eq (pv 1) pe_str (nomark _)) (pw_or1 (pt_cmpR op_in_seq (pv 4) (pe_gref T.c_LOADS) rfl)))) (pss_cons (ps_asg (pe_partition (pe_ix ix_list (pv 2) (pe_un un_neg pe_int) (fun _ _ => rfl)) pe_str) (pg_tup rfl (pgs_cons (pg_name (i := 9) sc.nd rfl (Or.inl rfl)) (pgs_cons (pg_name (i := 5) sc.nd rfl (Or.inl rfl)) (pgs_cons (pg_name (i := 10) sc.nd rfl (Or.inl rfl)) pgs_nil)))))
      (pss_cons (ps_set (i := 7) sc.nd rfl (Or.inl rfl) (pe_g G__register (hr.mono (by omega)) pass0 (pa_cons (pe_bm PySem.F.plainAttrs_str PySem.F.slot_str_removesuffix PySem.F.type_str_removesuffix mt_removesuffix (pv 10) (pa_cons pe_str pa_nil)) pa_nil)))
      (pss_cons (ps_set (i := 8) sc.nd rfl (Or.inl rfl) (pe_g G__register (hr.mono (by omega)) pass0 (pa_cons (pe_ix ix_list (pv 2) pe_int (fun _ _ => rfl)) pa_nil)))
      (pss_one (ps_ret (pe_op op_catT (pe_op op_catT (pe_tup (pa_cons (pv 4) pa_nil)) (pe_ifExp (pt_cmpR op_eq (pv 1) pe_str (nomark _)) (pe_tup (pa_cons (pv 7) (pa_cons (pv 8) pa_nil))) (pe_tup (pa_cons (pv 8) (pa_cons (pv 7) pa_nil))))) (pe_tup (pa_cons (pe_g G__number (hr.mono (by omega)) pass0 (pa_cons (pv 9) pa_nil)) pa_nil)))))))) pss_nil)
      (pss_cons (ps_if (pt_cmpR op_in_seq (pv 1) (pe_tup (pa_cons pe_str (pa_cons pe_str pa_nil))) rfl) (pss_one (ps_ret (pe_tup (pa_cons (pv 4) (pa_cons (pe_g G__register (hr.mono (by omega)) pass0 (pa_cons (pe_ix ix_list (pv 2) pe_int (fun _ _ => rfl)) pa_nil)) (pa_cons (pe_g G__number (hr.mono (by omega)) pass0 (pa_cons (pe_ix ix_list (pv 2) (pe_un un_neg pe_int) (fun _ _ => rfl)) pa_nil)) (pa_cons pe_int pa_nil))))))) pss_nil)
      (pss_cons (ps_if (PW.pt (pw_or (pt_cmpR op_isN (pv 1) pe_non (nomark _)) (pw_or1 (pt_cmpR op_ne (pe_callB call_len_seq (by rfl) T.n_len PySem.boot_len (pa_cons (pv 2) pa_nil)) pe_int (nomark _))))) (pss_one (ps_ret (pe_tup (pa_cons pe_non (pa_cons pe_int (pa_cons pe_int (pa_cons pe_int pa_nil))))))) pss_nil)
      (pss_cons (ps_set (i := 3) sc.nd rfl (Or.inl rfl) (pe_ifExp (pt_cmpR op_eq (pv 1) pe_str (nomark _)) (pe_g G__register (hr.mono (by omega)) pass0 (pa_cons (pe_ix ix_list (pv 2) pe_int (fun _ _ => rfl)) pa_nil)) (pe_g G__number (hr.mono (by omega)) pass0 (pa_cons (pe_ix ix_list (pv 2) pe_int (fun _ _ => rfl)) pa_nil))))
      (pss_one (ps_ret (pe_tup (pa_cons (pv 4) (pa_cons (pe_g G__register (hr.mono (by omega)) pass0 (pa_cons (pe_ix ix_list (pv 2) pe_int (fun _ _ => rfl)) pa_nil)) (pa_cons (pe_g G__register (hr.mono (by omega)) pass0 (pa_cons (pe_ix ix_list (pv 2) pe_int (fun _ _ => rfl)) pa_nil)) (pa_cons (pv 3) pa_nil))))))))))))))), ?_⟩
  have hb := part_b t
  refine ⟨_, rfl, ⟨_, rfl⟩, t, " ", rfl, rfl, (by decide +kernel), sz hl, fun q0 hq0 => ?_⟩
  refine ⟨q0, _, rfl, SqT.of upd_same, rfl, _, _, rfl, _, _, rfl, _, _, rfl, rfl, ?_⟩
  have h : ∀ (H' : Hp) (p : Addr), Same H H' → H' p = some (.tup (valsP (partsM t))) → Q (.ref p) H' := h
  have s0 : Same H (upd H q0 (.tup [.str (Txt.partition t " ").1, .str (Txt.partition t " ").2.1, .str (Txt.partition t " ").2.2])) := same_new hq0
  generalize (upd H q0 (.tup [.str (Txt.partition t " ").1, .str (Txt.partition t " ").2.1, .str (Txt.partition t " ").2.2])) = H0 at s0 ⊢
  have hps := split_ne (Txt.partition t " ").2.2
  have hlast := fun p (m : p ∈ Txt.split (Txt.partition t " ").2.2 ", ") => split_len m
  have hmany := split_many (Txt.partition t " ").2.2
  have h0 := hlast _ (head_mem hps)
  have h9 := hlast _ (lastD_mem hps).1
  have ho := part_o ((Txt.split (Txt.partition t " ").2.2 ", ").getLastD Str.empty)
  cases es : posOf nms (Txt.partition t " ").1 with
  | none =>
    have nI : nmI (Txt.partition t " ").1 = none := by unfold nmI; rw [es]; rfl
    have nL : ¬ (Txt.partition t " ").1 ∈ loads := fun m => by have := loads_nms _ m; rw [es] at this; cases this
    have eP : partsM t = (.non, some 0, some 0, some 0) := by
      unfold partsM
      rw [nI, if_neg (by intro z; cases z), if_neg (by rintro (z | z); cases z; exact nL z), if_neg (by rintro (z | z) <;> cases z), if_pos (Or.inl rfl)]
    rw [eP] at h
    refine ⟨_, rfl, _, none, rfl, rfl, T.f_no _ es, _, rfl, if_false_of rfl ?_⟩
    refine ⟨_, rfl, rfl, _, rfl, if_false_of rfl ?_⟩
    refine ⟨_, rfl, ⟨_, rfl⟩, _, ", ", rfl, rfl, (by decide +kernel), sz2 (by omega), fun l hl2 => ?_⟩
    refine ⟨_, rfl, rfl, _, rfl, if_false_of rfl ?_⟩
    refine ⟨_, rfl, _, _, rfl, Or.inr (T.t_LOADS _), rfl, (by decide +kernel), _, rfl, if_false_of ((in_strs _ loads).trans (decide_eq_false nL)) ?_⟩
    refine ⟨_, rfl, (by show 2 ≤ sizeLine; decide), fun t1 ht1 => ⟨t1, _, rfl, Or.inr (SqT.of upd_same), rfl, rfl, _, rfl, if_false_of rfl ?_⟩⟩
    refine ⟨_, rfl, rfl, _, rfl, if_true_of rfl ?_⟩
    refine ⟨(by show 4 ≤ sizeLine; decide), fun p hp => ?_⟩
    exact h _ p (Same.tr s0 (Same.tr (same_new hl2) (Same.tr (same_new ht1) (same_new hp)))) upd_same
  | some o =>
    obtain ⟨hoo, eo⟩ := pos_nm es
    have nI : nmI (Txt.partition t " ").1 = some (fo o) := by unfold nmI; rw [es]; rfl
    obtain ⟨u, hns⟩ := ent_in (T.f_ent o hoo)
    obtain ⟨fa, hkd, hfa⟩ := ent_kd T.k_FORMS (T.f_ent o hoo)
    rw [← eo] at hns hkd
    have hld := ld_fo o hoo
    rw [← eo] at hld
    refine ⟨_, rfl, _, some u, rfl, rfl, hns, _, rfl, if_true_of rfl ?_⟩
    refine ⟨_, rfl, _, _, _, rfl, rfl, hkd, fa, _, 0, _, rfl, rfl, hfa _, at_of (j := 0) rfl rfl, ?_⟩
    have eP : partsM t = partsM t := rfl
    cases ef : fo o with
    | whole =>
      rw [ef] at nI
      have eP : partsM t = (.str (Txt.partition t " ").1, some 0, some 0, some 0) := by unfold partsM; rw [nI, if_pos rfl]
      rw [eP] at h
      refine ⟨_, rfl, rfl, _, rfl, if_true_of rfl ?_⟩
      refine ⟨_, rfl, (by show 4 ≤ sizeLine; decide), fun p hp => ?_⟩
      exact h _ p (Same.tr s0 (same_new hp)) upd_same
    | store =>
      rw [ef] at nI
      have eP : partsM t = (.str (Txt.partition t " ").1, regO (Txt.removesuffix (Txt.partition ((Txt.split (Txt.partition t " ").2.2 ", ").getLastD Str.empty) "(").2.2 ")"), regO ((Txt.split (Txt.partition t " ").2.2 ", ").headD Str.empty), numO (Txt.partition ((Txt.split (Txt.partition t " ").2.2 ", ").getLastD Str.empty) "(").1) := by unfold partsM; rw [nI, if_neg (by intro z; cases z), if_pos (Or.inl rfl), if_pos rfl]
      rw [eP] at h
      refine ⟨_, rfl, rfl, _, rfl, if_false_of rfl ?_⟩
      refine ⟨_, rfl, ⟨_, rfl⟩, _, ", ", rfl, rfl, (by decide +kernel), sz2 (by omega), fun l hl2 => ?_⟩
      have hL : upd H0 l (.lst ((Txt.split (Txt.partition t " ").2.2 ", ").map V.str)) l = some (.lst ((Txt.split (Txt.partition t " ").2.2 ", ").map V.str)) := upd_same
      have s1 := Same.tr s0 (same_new hl2 (o := .lst ((Txt.split (Txt.partition t " ").2.2 ", ").map V.str)))
      generalize (upd H0 l (.lst ((Txt.split (Txt.partition t " ").2.2 ", ").map V.str))) = H1 at hL s1 ⊢
      refine ⟨_, rfl, rfl, _, rfl, if_true_of rfl ?_⟩
      refine ⟨_, rfl, _, rfl, l, _, -1, _, rfl, rfl, SqL.of hL, at_last hps, ⟨_, rfl⟩, _, "(", rfl, rfl, (by decide +kernel), sz (by omega), fun q2 hq2 => ?_⟩
      refine ⟨q2, _, rfl, SqT.of upd_same, rfl, _, _, rfl, _, _, rfl, _, _, rfl, rfl, ?_⟩
      refine ⟨_, rfl, rfl, _, _, rfl, rfl, sz (by omega), _, rfl, _, rfl, ?_⟩
      refine ⟨_, rfl, l, _, 0, _, rfl, rfl, SqL.of (by rw [upd_ne (ne_of_none hL hq2)]; exact hL), at_head hps, _, rfl, _, rfl, ?_⟩
      refine ⟨_, rfl, (by show 1 ≤ sizeLine; decide), fun t1 ht1 => ?_⟩
      refine ⟨_, rfl, rfl, _, rfl, if_true_of rfl ?_⟩
      refine ⟨_, rfl, _, rfl, (by show 2 ≤ sizeLine; decide), fun t2 ht2 => ?_⟩
      refine ⟨t1, t2, _, _, rfl, rfl, SqT.of (by rw [upd_ne (ne_of_none upd_same ht2)]; exact upd_same), SqT.of upd_same, (fun z => by cases z), (by show 3 ≤ sizeLine; decide), (fun z => by cases z), fun _ t3 ht3 => ?_⟩
      refine ⟨_, rfl, _, rfl, _, rfl, (by omega), fun H2 s2 => ?_⟩
      refine ⟨(by show 1 ≤ sizeLine; decide), fun t4 ht4 => ?_⟩
      refine ⟨t3, t4, _, _, rfl, rfl, SqT.of (by rw [upd_ne (ne_of_none (s2 _ _ upd_same) ht4)]; exact s2 _ _ upd_same), SqT.of upd_same, (fun z => by cases z), (by show 4 ≤ sizeLine; decide), (fun z => by cases z), fun _ t5 ht5 => ?_⟩
      exact h _ t5 (Same.tr s1 (Same.tr (same_new hq2) (Same.tr (same_new ht1) (Same.tr (same_new ht2) (Same.tr (same_new ht3) (Same.tr s2 (Same.tr (same_new ht4) (same_new ht5)))))))) upd_same
    | upper =>
      rw [ef] at nI
      have nL : ¬ (Txt.partition t " ").1 ∈ loads := fun m => by have z := st_ld o hoo (hld.mp m); rw [ef] at z; cases z
      have eP : partsM t = (.str (Txt.partition t " ").1, regO ((Txt.split (Txt.partition t " ").2.2 ", ").headD Str.empty), numO ((Txt.split (Txt.partition t " ").2.2 ", ").getLastD Str.empty), some 0) := by unfold partsM; rw [nI, if_neg (by intro z; cases z), if_neg (by rintro (z | z); cases z; exact nL z), if_pos (Or.inl rfl)]
      rw [eP] at h
      refine ⟨_, rfl, rfl, _, rfl, if_false_of rfl ?_⟩
      refine ⟨_, rfl, ⟨_, rfl⟩, _, ", ", rfl, rfl, (by decide +kernel), sz2 (by omega), fun l hl2 => ?_⟩
      have hL : upd H0 l (.lst ((Txt.split (Txt.partition t " ").2.2 ", ").map V.str)) l = some (.lst ((Txt.split (Txt.partition t " ").2.2 ", ").map V.str)) := upd_same
      have s1 := Same.tr s0 (same_new hl2 (o := .lst ((Txt.split (Txt.partition t " ").2.2 ", ").map V.str)))
      generalize (upd H0 l (.lst ((Txt.split (Txt.partition t " ").2.2 ", ").map V.str))) = H1 at hL s1 ⊢
      refine ⟨_, rfl, rfl, _, rfl, if_false_of rfl ?_⟩
      refine ⟨_, rfl, _, _, rfl, Or.inr (T.t_LOADS _), rfl, (by decide +kernel), _, rfl, if_false_of ((in_strs _ loads).trans (decide_eq_false nL)) ?_⟩
      refine ⟨_, rfl, (by show 2 ≤ sizeLine; decide), fun t1 ht1 => ⟨t1, _, rfl, Or.inr (SqT.of upd_same), rfl, rfl, _, rfl, if_true_of rfl ?_⟩⟩
      refine ⟨_, rfl, _, rfl, l, _, 0, _, rfl, rfl, SqL.of (by rw [upd_ne (ne_of_none hL ht1)]; exact hL), at_head hps, _, rfl, _, rfl, ?_⟩
      refine ⟨_, rfl, _, rfl, l, _, -1, _, rfl, rfl, SqL.of (by rw [upd_ne (ne_of_none hL ht1)]; exact hL), at_last hps, _, rfl, _, rfl, (by omega), fun H2 s2 => ?_⟩
      refine ⟨(by show 4 ≤ sizeLine; decide), fun p hp => ?_⟩
      exact h _ p (Same.tr s1 (Same.tr (same_new ht1) (Same.tr s2 (same_new hp)))) upd_same
    | jump =>
      rw [ef] at nI
      have nL : ¬ (Txt.partition t " ").1 ∈ loads := fun m => by have z := st_ld o hoo (hld.mp m); rw [ef] at z; cases z
      have eP : partsM t = (.str (Txt.partition t " ").1, regO ((Txt.split (Txt.partition t " ").2.2 ", ").headD Str.empty), numO ((Txt.split (Txt.partition t " ").2.2 ", ").getLastD Str.empty), some 0) := by unfold partsM; rw [nI, if_neg (by intro z; cases z), if_neg (by rintro (z | z); cases z; exact nL z), if_pos (Or.inr rfl)]
      rw [eP] at h
      refine ⟨_, rfl, rfl, _, rfl, if_false_of rfl ?_⟩
      refine ⟨_, rfl, ⟨_, rfl⟩, _, ", ", rfl, rfl, (by decide +kernel), sz2 (by omega), fun l hl2 => ?_⟩
      have hL : upd H0 l (.lst ((Txt.split (Txt.partition t " ").2.2 ", ").map V.str)) l = some (.lst ((Txt.split (Txt.partition t " ").2.2 ", ").map V.str)) := upd_same
      have s1 := Same.tr s0 (same_new hl2 (o := .lst ((Txt.split (Txt.partition t " ").2.2 ", ").map V.str)))
      generalize (upd H0 l (.lst ((Txt.split (Txt.partition t " ").2.2 ", ").map V.str))) = H1 at hL s1 ⊢
      refine ⟨_, rfl, rfl, _, rfl, if_false_of rfl ?_⟩
      refine ⟨_, rfl, _, _, rfl, Or.inr (T.t_LOADS _), rfl, (by decide +kernel), _, rfl, if_false_of ((in_strs _ loads).trans (decide_eq_false nL)) ?_⟩
      refine ⟨_, rfl, (by show 2 ≤ sizeLine; decide), fun t1 ht1 => ⟨t1, _, rfl, Or.inr (SqT.of upd_same), rfl, rfl, _, rfl, if_true_of rfl ?_⟩⟩
      refine ⟨_, rfl, _, rfl, l, _, 0, _, rfl, rfl, SqL.of (by rw [upd_ne (ne_of_none hL ht1)]; exact hL), at_head hps, _, rfl, _, rfl, ?_⟩
      refine ⟨_, rfl, _, rfl, l, _, -1, _, rfl, rfl, SqL.of (by rw [upd_ne (ne_of_none hL ht1)]; exact hL), at_last hps, _, rfl, _, rfl, (by omega), fun H2 s2 => ?_⟩
      refine ⟨(by show 4 ≤ sizeLine; decide), fun p hp => ?_⟩
      exact h _ p (Same.tr s1 (Same.tr (same_new ht1) (Same.tr s2 (same_new hp)))) upd_same
    | three =>
      rw [ef] at nI
      have nL : ¬ (Txt.partition t " ").1 ∈ loads := fun m => by have z := st_ld o hoo (hld.mp m); rw [ef] at z; cases z
      have eP0 : partsM t = if nmI (Txt.partition t " ").1 = none ∨ (Txt.split (Txt.partition t " ").2.2 ", ").length ≠ 3 then (.non, some 0, some 0, some 0) else (.str (Txt.partition t " ").1, regO ((Txt.split (Txt.partition t " ").2.2 ", ").headD Str.empty), regO ((Txt.split (Txt.partition t " ").2.2 ", ").getD 1 Str.empty), if nmI (Txt.partition t " ").1 = some .three then regO ((Txt.split (Txt.partition t " ").2.2 ", ").getD 2 Str.empty) else numO ((Txt.split (Txt.partition t " ").2.2 ", ").getD 2 Str.empty)) := by
        unfold partsM; rw [nI, if_neg (by intro z; cases z), if_neg (by rintro (z | z); cases z; exact nL z), if_neg (by rintro (z | z) <;> cases z)]
      refine ⟨_, rfl, rfl, _, rfl, if_false_of rfl ?_⟩
      refine ⟨_, rfl, ⟨_, rfl⟩, _, ", ", rfl, rfl, (by decide +kernel), sz2 (by omega), fun l hl2 => ?_⟩
      have hL : upd H0 l (.lst ((Txt.split (Txt.partition t " ").2.2 ", ").map V.str)) l = some (.lst ((Txt.split (Txt.partition t " ").2.2 ", ").map V.str)) := upd_same
      have s1 := Same.tr s0 (same_new hl2 (o := .lst ((Txt.split (Txt.partition t " ").2.2 ", ").map V.str)))
      generalize (upd H0 l (.lst ((Txt.split (Txt.partition t " ").2.2 ", ").map V.str))) = H1 at hL s1 ⊢
      refine ⟨_, rfl, rfl, _, rfl, if_false_of rfl ?_⟩
      refine ⟨_, rfl, _, _, rfl, Or.inr (T.t_LOADS _), rfl, (by decide +kernel), _, rfl, if_false_of ((in_strs _ loads).trans (decide_eq_false nL)) ?_⟩
      refine ⟨_, rfl, (by show 2 ≤ sizeLine; decide), fun t1 ht1 => ⟨t1, _, rfl, Or.inr (SqT.of upd_same), rfl, rfl, _, rfl, if_false_of rfl ?_⟩⟩
      refine ⟨_, rfl, rfl, _, rfl, if_false_of rfl ?_⟩
      refine ⟨_, rfl, l, _, rfl, Or.inl (SqL.of (by rw [upd_ne (ne_of_none hL ht1)]; exact hL)), rfl, _, rfl, ?_⟩
      by_cases c3 : (Txt.split (Txt.partition t " ").2.2 ", ").length = 3
      · rw [if_neg (by rintro (z | z); rw [nI] at z; cases z; exact z c3), nI, if_pos rfl] at eP0
        rw [eP0] at h
        have hd1 := hlast _ (d_mem (show 1 < (Txt.split (Txt.partition t " ").2.2 ", ").length by omega))
        have hd2 := hlast _ (d_mem (show 2 < (Txt.split (Txt.partition t " ").2.2 ", ").length by omega))
        refine if_false_of ?_ ?_
        · rw [List.length_map, c3]; rfl
        refine ⟨_, rfl, rfl, _, rfl, if_true_of rfl ?_⟩
        refine ⟨_, rfl, l, _, 2, _, rfl, rfl, SqL.of (by rw [upd_ne (ne_of_none hL ht1)]; exact hL), at_d (i := 2) (by omega), _, rfl, _, rfl, ?_⟩
        refine ⟨_, rfl, _, rfl, l, _, 0, _, rfl, rfl, SqL.of (by rw [upd_ne (ne_of_none hL ht1)]; exact hL), at_head hps, _, rfl, _, rfl, ?_⟩
        refine ⟨_, rfl, l, _, 1, _, rfl, rfl, SqL.of (by rw [upd_ne (ne_of_none hL ht1)]; exact hL), at_d (i := 1) (by omega), _, rfl, _, rfl, ?_⟩
        refine ⟨_, rfl, (by show 4 ≤ sizeLine; decide), fun p hp => ?_⟩
        exact h _ p (Same.tr s1 (Same.tr (same_new ht1) (same_new hp))) upd_same
      · rw [if_pos (Or.inr c3)] at eP0
        rw [eP0] at h
        refine if_true_of ?_ ?_
        · rw [List.length_map, decide_eq_false (fun z => c3 (by have := V.int.inj z; omega))]; rfl
        refine ⟨(by show 4 ≤ sizeLine; decide), fun p hp => ?_⟩
        exact h _ p (Same.tr s1 (Same.tr (same_new ht1) (same_new hp))) upd_same
    | shift =>
      rw [ef] at nI
      have nL : ¬ (Txt.partition t " ").1 ∈ loads := fun m => by have z := st_ld o hoo (hld.mp m); rw [ef] at z; cases z
      have eP0 : partsM t = if nmI (Txt.partition t " ").1 = none ∨ (Txt.split (Txt.partition t " ").2.2 ", ").length ≠ 3 then (.non, some 0, some 0, some 0) else (.str (Txt.partition t " ").1, regO ((Txt.split (Txt.partition t " ").2.2 ", ").headD Str.empty), regO ((Txt.split (Txt.partition t " ").2.2 ", ").getD 1 Str.empty), if nmI (Txt.partition t " ").1 = some .three then regO ((Txt.split (Txt.partition t " ").2.2 ", ").getD 2 Str.empty) else numO ((Txt.split (Txt.partition t " ").2.2 ", ").getD 2 Str.empty)) := by
        unfold partsM; rw [nI, if_neg (by intro z; cases z), if_neg (by rintro (z | z); cases z; exact nL z), if_neg (by rintro (z | z) <;> cases z)]
      refine ⟨_, rfl, rfl, _, rfl, if_false_of rfl ?_⟩
      refine ⟨_, rfl, ⟨_, rfl⟩, _, ", ", rfl, rfl, (by decide +kernel), sz2 (by omega), fun l hl2 => ?_⟩
      have hL : upd H0 l (.lst ((Txt.split (Txt.partition t " ").2.2 ", ").map V.str)) l = some (.lst ((Txt.split (Txt.partition t " ").2.2 ", ").map V.str)) := upd_same
      have s1 := Same.tr s0 (same_new hl2 (o := .lst ((Txt.split (Txt.partition t " ").2.2 ", ").map V.str)))
      generalize (upd H0 l (.lst ((Txt.split (Txt.partition t " ").2.2 ", ").map V.str))) = H1 at hL s1 ⊢
      refine ⟨_, rfl, rfl, _, rfl, if_false_of rfl ?_⟩
      refine ⟨_, rfl, _, _, rfl, Or.inr (T.t_LOADS _), rfl, (by decide +kernel), _, rfl, if_false_of ((in_strs _ loads).trans (decide_eq_false nL)) ?_⟩
      refine ⟨_, rfl, (by show 2 ≤ sizeLine; decide), fun t1 ht1 => ⟨t1, _, rfl, Or.inr (SqT.of upd_same), rfl, rfl, _, rfl, if_false_of rfl ?_⟩⟩
      refine ⟨_, rfl, rfl, _, rfl, if_false_of rfl ?_⟩
      refine ⟨_, rfl, l, _, rfl, Or.inl (SqL.of (by rw [upd_ne (ne_of_none hL ht1)]; exact hL)), rfl, _, rfl, ?_⟩
      by_cases c3 : (Txt.split (Txt.partition t " ").2.2 ", ").length = 3
      · rw [if_neg (by rintro (z | z); rw [nI] at z; cases z; exact z c3), nI, if_neg (by intro z; cases z)] at eP0
        rw [eP0] at h
        have hd1 := hlast _ (d_mem (show 1 < (Txt.split (Txt.partition t " ").2.2 ", ").length by omega))
        have hd2 := hlast _ (d_mem (show 2 < (Txt.split (Txt.partition t " ").2.2 ", ").length by omega))
        refine if_false_of ?_ ?_
        · rw [List.length_map, c3]; rfl
        refine ⟨_, rfl, rfl, _, rfl, if_false_of rfl ?_⟩
        refine ⟨_, rfl, l, _, 2, _, rfl, rfl, SqL.of (by rw [upd_ne (ne_of_none hL ht1)]; exact hL), at_d (i := 2) (by omega), _, rfl, _, rfl, (by omega), fun H2 s2 => ?_⟩
        refine ⟨_, rfl, _, rfl, l, _, 0, _, rfl, rfl, SqL.of (by refine s2 _ _ ?_; rw [upd_ne (ne_of_none hL ht1)]; exact hL), at_head hps, _, rfl, _, rfl, ?_⟩
        refine ⟨_, rfl, l, _, 1, _, rfl, rfl, SqL.of (by refine s2 _ _ ?_; rw [upd_ne (ne_of_none hL ht1)]; exact hL), at_d (i := 1) (by omega), _, rfl, _, rfl, ?_⟩
        refine ⟨_, rfl, (by show 4 ≤ sizeLine; decide), fun p hp => ?_⟩
        exact h _ p (Same.tr s1 (Same.tr (same_new ht1) (Same.tr s2 (same_new hp)))) upd_same
      · rw [if_pos (Or.inr c3)] at eP0
        rw [eP0] at h
        refine if_true_of ?_ ?_
        · rw [List.length_map, decide_eq_false (fun z => c3 (by have := V.int.inj z; omega))]; rfl
        refine ⟨(by show 4 ≤ sizeLine; decide), fun p hp => ?_⟩
        exact h _ p (Same.tr s1 (Same.tr (same_new ht1) (same_new hp))) upd_same
    | branch =>
      rw [ef] at nI
      have nL : ¬ (Txt.partition t " ").1 ∈ loads := fun m => by have z := st_ld o hoo (hld.mp m); rw [ef] at z; cases z
      have eP0 : partsM t = if nmI (Txt.partition t " ").1 = none ∨ (Txt.split (Txt.partition t " ").2.2 ", ").length ≠ 3 then (.non, some 0, some 0, some 0) else (.str (Txt.partition t " ").1, regO ((Txt.split (Txt.partition t " ").2.2 ", ").headD Str.empty), regO ((Txt.split (Txt.partition t " ").2.2 ", ").getD 1 Str.empty), if nmI (Txt.partition t " ").1 = some .three then regO ((Txt.split (Txt.partition t " ").2.2 ", ").getD 2 Str.empty) else numO ((Txt.split (Txt.partition t " ").2.2 ", ").getD 2 Str.empty)) := by
        unfold partsM; rw [nI, if_neg (by intro z; cases z), if_neg (by rintro (z | z); cases z; exact nL z), if_neg (by rintro (z | z) <;> cases z)]
      refine ⟨_, rfl, rfl, _, rfl, if_false_of rfl ?_⟩
      refine ⟨_, rfl, ⟨_, rfl⟩, _, ", ", rfl, rfl, (by decide +kernel), sz2 (by omega), fun l hl2 => ?_⟩
      have hL : upd H0 l (.lst ((Txt.split (Txt.partition t " ").2.2 ", ").map V.str)) l = some (.lst ((Txt.split (Txt.partition t " ").2.2 ", ").map V.str)) := upd_same
      have s1 := Same.tr s0 (same_new hl2 (o := .lst ((Txt.split (Txt.partition t " ").2.2 ", ").map V.str)))
      generalize (upd H0 l (.lst ((Txt.split (Txt.partition t " ").2.2 ", ").map V.str))) = H1 at hL s1 ⊢
      refine ⟨_, rfl, rfl, _, rfl, if_false_of rfl ?_⟩
      refine ⟨_, rfl, _, _, rfl, Or.inr (T.t_LOADS _), rfl, (by decide +kernel), _, rfl, if_false_of ((in_strs _ loads).trans (decide_eq_false nL)) ?_⟩
      refine ⟨_, rfl, (by show 2 ≤ sizeLine; decide), fun t1 ht1 => ⟨t1, _, rfl, Or.inr (SqT.of upd_same), rfl, rfl, _, rfl, if_false_of rfl ?_⟩⟩
      refine ⟨_, rfl, rfl, _, rfl, if_false_of rfl ?_⟩
      refine ⟨_, rfl, l, _, rfl, Or.inl (SqL.of (by rw [upd_ne (ne_of_none hL ht1)]; exact hL)), rfl, _, rfl, ?_⟩
      by_cases c3 : (Txt.split (Txt.partition t " ").2.2 ", ").length = 3
      · rw [if_neg (by rintro (z | z); rw [nI] at z; cases z; exact z c3), nI, if_neg (by intro z; cases z)] at eP0
        rw [eP0] at h
        have hd1 := hlast _ (d_mem (show 1 < (Txt.split (Txt.partition t " ").2.2 ", ").length by omega))
        have hd2 := hlast _ (d_mem (show 2 < (Txt.split (Txt.partition t " ").2.2 ", ").length by omega))
        refine if_false_of ?_ ?_
        · rw [List.length_map, c3]; rfl
        refine ⟨_, rfl, rfl, _, rfl, if_false_of rfl ?_⟩
        refine ⟨_, rfl, l, _, 2, _, rfl, rfl, SqL.of (by rw [upd_ne (ne_of_none hL ht1)]; exact hL), at_d (i := 2) (by omega), _, rfl, _, rfl, (by omega), fun H2 s2 => ?_⟩
        refine ⟨_, rfl, _, rfl, l, _, 0, _, rfl, rfl, SqL.of (by refine s2 _ _ ?_; rw [upd_ne (ne_of_none hL ht1)]; exact hL), at_head hps, _, rfl, _, rfl, ?_⟩
        refine ⟨_, rfl, l, _, 1, _, rfl, rfl, SqL.of (by refine s2 _ _ ?_; rw [upd_ne (ne_of_none hL ht1)]; exact hL), at_d (i := 1) (by omega), _, rfl, _, rfl, ?_⟩
        refine ⟨_, rfl, (by show 4 ≤ sizeLine; decide), fun p hp => ?_⟩
        exact h _ p (Same.tr s1 (Same.tr (same_new ht1) (Same.tr s2 (same_new hp)))) upd_same
      · rw [if_pos (Or.inr c3)] at eP0
        rw [eP0] at h
        refine if_true_of ?_ ?_
        · rw [List.length_map, decide_eq_false (fun z => c3 (by have := V.int.inj z; omega))]; rfl
        refine ⟨(by show 4 ≤ sizeLine; decide), fun p hp => ?_⟩
        exact h _ p (Same.tr s1 (Same.tr (same_new ht1) (same_new hp))) upd_same
    | number =>
      rw [ef] at nI
      by_cases hm : (Txt.partition t " ").1 ∈ loads
      · have eP : partsM t = (.str (Txt.partition t " ").1, regO ((Txt.split (Txt.partition t " ").2.2 ", ").headD Str.empty), regO (Txt.removesuffix (Txt.partition ((Txt.split (Txt.partition t " ").2.2 ", ").getLastD Str.empty) "(").2.2 ")"), numO (Txt.partition ((Txt.split (Txt.partition t " ").2.2 ", ").getLastD Str.empty) "(").1) := by unfold partsM; rw [nI, if_neg (by intro z; cases z), if_pos (Or.inr hm), if_neg (by intro z; cases z)]
        rw [eP] at h
        refine ⟨_, rfl, rfl, _, rfl, if_false_of rfl ?_⟩
        refine ⟨_, rfl, ⟨_, rfl⟩, _, ", ", rfl, rfl, (by decide +kernel), sz2 (by omega), fun l hl2 => ?_⟩
        have hL : upd H0 l (.lst ((Txt.split (Txt.partition t " ").2.2 ", ").map V.str)) l = some (.lst ((Txt.split (Txt.partition t " ").2.2 ", ").map V.str)) := upd_same
        have s1 := Same.tr s0 (same_new hl2 (o := .lst ((Txt.split (Txt.partition t " ").2.2 ", ").map V.str)))
        generalize (upd H0 l (.lst ((Txt.split (Txt.partition t " ").2.2 ", ").map V.str))) = H1 at hL s1 ⊢
        refine ⟨_, rfl, rfl, _, rfl, if_false_of rfl ?_⟩
        refine ⟨_, rfl, _, _, rfl, Or.inr (T.t_LOADS _), rfl, (by decide +kernel), _, rfl, if_true_of ((in_strs _ loads).trans (decide_eq_true hm)) ?_⟩
        refine ⟨_, rfl, _, rfl, l, _, -1, _, rfl, rfl, SqL.of hL, at_last hps, ⟨_, rfl⟩, _, "(", rfl, rfl, (by decide +kernel), sz (by omega), fun q2 hq2 => ?_⟩
        refine ⟨q2, _, rfl, SqT.of upd_same, rfl, _, _, rfl, _, _, rfl, _, _, rfl, rfl, ?_⟩
        refine ⟨_, rfl, rfl, _, _, rfl, rfl, sz (by omega), _, rfl, _, rfl, ?_⟩
        refine ⟨_, rfl, l, _, 0, _, rfl, rfl, SqL.of (by rw [upd_ne (ne_of_none hL hq2)]; exact hL), at_head hps, _, rfl, _, rfl, ?_⟩
        refine ⟨_, rfl, (by show 1 ≤ sizeLine; decide), fun t1 ht1 => ?_⟩
        refine ⟨_, rfl, rfl, _, rfl, if_false_of rfl ?_⟩
        refine ⟨_, rfl, _, rfl, (by show 2 ≤ sizeLine; decide), fun t2 ht2 => ?_⟩
        refine ⟨t1, t2, _, _, rfl, rfl, SqT.of (by rw [upd_ne (ne_of_none upd_same ht2)]; exact upd_same), SqT.of upd_same, (fun z => by cases z), (by show 3 ≤ sizeLine; decide), (fun z => by cases z), fun _ t3 ht3 => ?_⟩
        refine ⟨_, rfl, _, rfl, _, rfl, (by omega), fun H2 s2 => ?_⟩
        refine ⟨(by show 1 ≤ sizeLine; decide), fun t4 ht4 => ?_⟩
        refine ⟨t3, t4, _, _, rfl, rfl, SqT.of (by rw [upd_ne (ne_of_none (s2 _ _ upd_same) ht4)]; exact s2 _ _ upd_same), SqT.of upd_same, (fun z => by cases z), (by show 4 ≤ sizeLine; decide), (fun z => by cases z), fun _ t5 ht5 => ?_⟩
        exact h _ t5 (Same.tr s1 (Same.tr (same_new hq2) (Same.tr (same_new ht1) (Same.tr (same_new ht2) (Same.tr (same_new ht3) (Same.tr s2 (Same.tr (same_new ht4) (same_new ht5)))))))) upd_same
      · have nL := hm
        have eP0 : partsM t = if nmI (Txt.partition t " ").1 = none ∨ (Txt.split (Txt.partition t " ").2.2 ", ").length ≠ 3 then (.non, some 0, some 0, some 0) else (.str (Txt.partition t " ").1, regO ((Txt.split (Txt.partition t " ").2.2 ", ").headD Str.empty), regO ((Txt.split (Txt.partition t " ").2.2 ", ").getD 1 Str.empty), if nmI (Txt.partition t " ").1 = some .three then regO ((Txt.split (Txt.partition t " ").2.2 ", ").getD 2 Str.empty) else numO ((Txt.split (Txt.partition t " ").2.2 ", ").getD 2 Str.empty)) := by
          unfold partsM; rw [nI, if_neg (by intro z; cases z), if_neg (by rintro (z | z); cases z; exact nL z), if_neg (by rintro (z | z) <;> cases z)]
        refine ⟨_, rfl, rfl, _, rfl, if_false_of rfl ?_⟩
        refine ⟨_, rfl, ⟨_, rfl⟩, _, ", ", rfl, rfl, (by decide +kernel), sz2 (by omega), fun l hl2 => ?_⟩
        have hL : upd H0 l (.lst ((Txt.split (Txt.partition t " ").2.2 ", ").map V.str)) l = some (.lst ((Txt.split (Txt.partition t " ").2.2 ", ").map V.str)) := upd_same
        have s1 := Same.tr s0 (same_new hl2 (o := .lst ((Txt.split (Txt.partition t " ").2.2 ", ").map V.str)))
        generalize (upd H0 l (.lst ((Txt.split (Txt.partition t " ").2.2 ", ").map V.str))) = H1 at hL s1 ⊢
        refine ⟨_, rfl, rfl, _, rfl, if_false_of rfl ?_⟩
        refine ⟨_, rfl, _, _, rfl, Or.inr (T.t_LOADS _), rfl, (by decide +kernel), _, rfl, if_false_of ((in_strs _ loads).trans (decide_eq_false nL)) ?_⟩
        refine ⟨_, rfl, (by show 2 ≤ sizeLine; decide), fun t1 ht1 => ⟨t1, _, rfl, Or.inr (SqT.of upd_same), rfl, rfl, _, rfl, if_false_of rfl ?_⟩⟩
        refine ⟨_, rfl, rfl, _, rfl, if_false_of rfl ?_⟩
        refine ⟨_, rfl, l, _, rfl, Or.inl (SqL.of (by rw [upd_ne (ne_of_none hL ht1)]; exact hL)), rfl, _, rfl, ?_⟩
        by_cases c3 : (Txt.split (Txt.partition t " ").2.2 ", ").length = 3
        · rw [if_neg (by rintro (z | z); rw [nI] at z; cases z; exact z c3), nI, if_neg (by intro z; cases z)] at eP0
          rw [eP0] at h
          have hd1 := hlast _ (d_mem (show 1 < (Txt.split (Txt.partition t " ").2.2 ", ").length by omega))
          have hd2 := hlast _ (d_mem (show 2 < (Txt.split (Txt.partition t " ").2.2 ", ").length by omega))
          refine if_false_of ?_ ?_
          · rw [List.length_map, c3]; rfl
          refine ⟨_, rfl, rfl, _, rfl, if_false_of rfl ?_⟩
          refine ⟨_, rfl, l, _, 2, _, rfl, rfl, SqL.of (by rw [upd_ne (ne_of_none hL ht1)]; exact hL), at_d (i := 2) (by omega), _, rfl, _, rfl, (by omega), fun H2 s2 => ?_⟩
          refine ⟨_, rfl, _, rfl, l, _, 0, _, rfl, rfl, SqL.of (by refine s2 _ _ ?_; rw [upd_ne (ne_of_none hL ht1)]; exact hL), at_head hps, _, rfl, _, rfl, ?_⟩
          refine ⟨_, rfl, l, _, 1, _, rfl, rfl, SqL.of (by refine s2 _ _ ?_; rw [upd_ne (ne_of_none hL ht1)]; exact hL), at_d (i := 1) (by omega), _, rfl, _, rfl, ?_⟩
          refine ⟨_, rfl, (by show 4 ≤ sizeLine; decide), fun p hp => ?_⟩
          exact h _ p (Same.tr s1 (Same.tr (same_new ht1) (Same.tr s2 (same_new hp)))) upd_same
        · rw [if_pos (Or.inr c3)] at eP0
          rw [eP0] at h
          refine if_true_of ?_ ?_
          · rw [List.length_map, decide_eq_false (fun z => c3 (by have := V.int.inj z; omega))]; rfl
          refine ⟨(by show 4 ≤ sizeLine; decide), fun p hp => ?_⟩
          exact h _ p (Same.tr s1 (Same.tr (same_new ht1) (same_new hp))) upd_same
end
end K66

namespace K66
open PySem PyProof.Rows L2 My Ru I6
open Builtin (bitAnd bitOr)
section
variable {X : Cx} {CX : CXT} {k : Nat} {x : Str} {ps : List Str} {sp : Sp} {E : L2.St → XK} {e : Expr} {es : List Expr} {t : TA} {p pos : Pos}
theorem pe_gS (h : Gd X.prog X.w X.K X.mg X.base CX k x ps sp) (hr : Room k X.A) (hx : ∀ σ, PassesAt CX X σ (E σ)) (ha : PA X (e :: es) t) (hg : Gl X x := by rfl) (hdb : (x == ("__debug__" : Str)) = false := by decide)
    (he : starEach (e :: es) X.env = (false, eval e X.env) :: starEach es X.env := by rfl) (hpl : (backTo pos (starEach es X.env)).any (·.1) = false := by rfl) : PE X (.Call (.Name x p) (e :: es) [] pos) (tCallS sp E t) := by
  obtain ⟨f, fd, hm, F, hb, hk, _⟩ := h.ex
  exact pe_callS (p := p) F hr hg hm hk hb hx ha hdb he hpl
end
theorem parts_n (t : Str) : (partsM t).1 = .non ∨ ∃ s, (partsM t).1 = .str s := by
  unfold partsM
  repeat' split
  all_goals first | exact .inl rfl | exact .inr ⟨_, rfl⟩
theorem txO_some {q : V × O × O × O} {o : Nat} (h : insM q.1 q.2.1 q.2.2.1 q.2.2.2 = some o) : txO q = some (txM o (q.2.1.getD 0) (q.2.2.1.getD 0) (q.2.2.2.getD 0)) := by
  unfold txO
  rw [h]; rfl
theorem txO_none {q : V × O × O × O} (h : insM q.1 q.2.1 q.2.2.1 q.2.2.2 = none) : txO q = none := by
  unfold txO
  rw [h]; rfl
section
variable {P : Program} {w : World} {K : PySem.W.Frag} {mg : Str → Option Value} {base : Heap}
theorem sc_instruction_by : FnScope ["text", "instruction", "written"] ["text"] (defScope s_instruction_by) := ⟨rfl, rfl, rfl, by decide +kernel, rfl, by decide +kernel, by decide +kernel⟩
theorem g_instruction_by (T : Txt K mg w) (G_instruction_text : Gd P w K mg base (L2.CX P w) 5 "instruction_text" ["instruction"] (sp_instruction_text K)) (G__parts_put : Gd P w K mg base CX0 2 "_parts_put" ["text"] (sp__parts_put K)) : Gd P w K mg base (L2.CX P w) 6 "instruction_by" ["text"] (sp_instruction_by K) := by
  have sc := sc_instruction_by
  refine T.d_instruction_by.okX sc len1 (fun _ _ _ _ _ _ us hl => match us, hl with | [_], _ => rfl) (fun f cdv A outer s H vs Q E hr h => ?_)
  obtain ⟨x0, rfl, h⟩ := h
  obtain ⟨t, rfl, hl, hyes, hbad⟩ := h
  refine ⟨_, (pss_cons (ps_if (pt_not (pt_val (pe_callB call_isi (by rfl) T.n_isinstance (by decide +kernel) (pa_cons (pv 0) (pa_cons (pe_bltn (v := .ty "str") (u := .type "str") (by rfl) T.n_str (by decide +kernel) rfl) pa_nil))))) (pss_one (ps_raiseBf rfl T.bf hr (takes_of rfl rfl rfl rfl) (pa_cons (pv 0) pa_nil))) pss_nil)
      (pss_cons (ps_set (i := 1) sc.nd rfl (Or.inl rfl) (pe_g G__parts_put (hr.mono (by omega)) pass0 (pa_cons (pv 0) pa_nil)))
      (pss_cons (ps_try_only (c := .ref (CF K)) (tb := fun W => tAsg (tCallS (sp_instruction_text K) (WE W) (tCons (tVar 1) tNil)) (gName 2)) (ts := fun _ _ _ => tAsg (tC .non) (gName 2)) (Wout := fun _ _ _ _ => False) rfl rfl ⟨rfl, by decide, Or.inl T.bf.gC⟩ takes0
     (fun W pn xe tk _ => pss_one (ps_set (i := 2) sc.nd rfl (Or.inl rfl) (by exact (pe_gS G_instruction_text hr (fun σ => passAt tk σ) (by exact (pa_cons (pv 1) pa_nil))))))
     (fun a oe cls d pn hz hf => pss_one (ps_set (i := 2) sc.nd rfl (Or.inl rfl) pe_non)))
      (pss_cons (ps_if (pt_cmpR op_ne (pv 2) (pv 0) (nomark _)) (pss_one (ps_raiseBf rfl T.bf hr (takes_of rfl rfl rfl rfl) (pa_cons (pv 0) pa_nil))) pss_nil)
      (pss_one (ps_ret (pv 1))))))), ?_⟩
  refine ⟨_, rfl, _, _, .type "str", .type "str", true, rfl, .ty "str", .base (.str _), kit_ty (by decide +kernel), true, rfl, if_false_of rfl ?_⟩
  refine ⟨_, rfl, _, rfl, t, rfl, hl, fun H1 p s1 hp => ?_⟩
  refine ⟨_, rfl, _, rfl, p, (partsM t).1, (partsM t).2.1, (partsM t).2.2.1, (partsM t).2.2.2, rfl, hp, parts_n t, fun o hi H2 s2 => ?_, fun hi H2 d s2 hd => ?_⟩
  · have eT := txO_some hi
    refine ⟨_, rfl, _, rfl, rfl, _, rfl, ?_⟩
    by_cases c : txM o ((partsM t).2.1.getD 0) ((partsM t).2.2.1.getD 0) ((partsM t).2.2.2.getD 0) = t
    · refine if_false_of ?_ ?_
      · rw [dec_s, decide_eq_true c]; rfl
      exact ⟨_, rfl, hyes (by rw [eT, c]) H2 p (Same.tr s1 s2) (s2 _ _ hp)⟩
    · refine if_true_of ?_ ?_
      · rw [dec_s, decide_eq_false c]; rfl
      exact ⟨_, rfl, _, rfl, fun d hd => hbad (by rw [eT]; exact fun z => c (Option.some.inj z)) H2 d (Same.tr s1 s2) hd⟩
  · have eT := txO_none hi
    refine ⟨true, T.bf.te, fun _ a ha => ?_, fun q => Bool.noConfusion q⟩
    refine ⟨_, rfl, _, rfl, rfl, _, rfl, ?_⟩
    refine if_true_of rfl ?_
    exact ⟨_, rfl, _, rfl, fun d2 hd2 => hbad (by rw [eT]; exact fun z => by cases z) _ d2 (Same.tr s1 (Same.tr s2 (same_new hd))) hd2⟩
end
end K66

namespace K66
open PySem PyProof.Rows L2 My Ru I6
open Builtin (bitAnd bitOr)
def ButL (as : List Addr) (H H' : Hp) : Prop := ∀ b o, H b = some o → ¬ b ∈ as → H' b = some o
theorem ButL.refl {as : List Addr} {H : Hp} : ButL as H H := fun _ _ e _ => e
theorem ButL.trans {as : List Addr} {H H1 H2 : Hp} (a : ButL as H H1) (b : ButL as H1 H2) : ButL as H H2 := fun x o e h => b x o (a x o e h) h
theorem ButL.same {as : List Addr} {H H1 : Hp} (a : Same H H1) : ButL as H H1 := fun x o e _ => a x o e
theorem ButL.put {as : List Addr} {H : Hp} {a : Addr} {o : HO} (h : a ∈ as) : ButL as H (upd H a o) := fun x u e n => by
  rw [upd_ne (fun z => n (by rw [z]; exact h))]; exact e
def sp__law_cell_at (K : PySem.W.Frag) : Sp := sp2 fun a b H Q _ => ∃ (l : Addr) (ns : List Int) (k : Int), a = .ref l ∧ b = .int k ∧ SqL K H l (ns.map V.int) ∧ 0 ≤ k ∧ k < 2 ^ 62 ∧ ∀ v : Int, Q (.int v) H
def sp__law_draw (K : PySem.W.Frag) : Sp := sp3 fun x y z H Q _ => ∃ c k b : Int, x = .int c ∧ y = .int k ∧ z = .int b ∧ (-(2 ^ 63) < c ∧ c < 2 ^ 63) ∧ 0 ≤ k ∧ k < 2 ^ 62 ∧ 0 < b ∧ ∀ (r : Int) (H' : Hp), 0 ≤ r → r < b → Same H H' → Q (.int r) H'
def sp__law_number (K : PySem.W.Frag) : Sp := sp3 fun x y z H Q _ => ∃ c k b : Int, x = .int c ∧ y = .int k ∧ z = .int b ∧ 0 ≤ k ∧ k ≤ 1000 ∧ 0 < b ∧ ∀ (r : Int) (H' : Hp), 0 ≤ r → r < b → Same H H' → Q (.int r) H'
def sp__law_next (K : PySem.W.Frag) : Sp := sp2 fun x y H Q _ => ∃ (d s : Addr) (ns : List Int) (n b : Int), x = .ref d ∧ y = .int b ∧ H d = some (.lst [.ref s, .int 0, .int n]) ∧ H s = some (.lst (ns.map V.int)) ∧ 0 ≤ n ∧ n ≤ 1000000 ∧ 0 < b ∧
  ∀ (r : Int) (H' : Hp), 0 ≤ r → r < b → ButL [d] H H' → H' d = some (.lst [.ref s, .int 0, .int (n + 1)]) → Q (.int r) H'
def sp__law_pick (K : PySem.W.Frag) : Sp := sp2 fun x y H Q _ => ∃ (d s : Addr) (ns : List Int) (n : Int) (t : Addr) (xs : List V), x = .ref d ∧ y = .ref t ∧ H d = some (.lst [.ref s, .int 0, .int n]) ∧ H s = some (.lst (ns.map V.int)) ∧ 0 ≤ n ∧ n ≤ 1000000 ∧ H t = some (.tup xs) ∧ xs ≠ [] ∧
  ∀ (v : V) (H' : Hp), v ∈ xs → ButL [d] H H' → H' d = some (.lst [.ref s, .int 0, .int (n + 1)]) → Q v H'
theorem ite2 {c : Prop} [Decidable c] {A B : Prop} (h1 : c → A) (h2 : ¬ c → B) : if decide c = true then A else B := by
  by_cases h : c
  · rw [decide_eq_true h, if_pos rfl]; exact h1 h
  · rw [decide_eq_false h, if_neg Bool.false_ne_true]; exact h2 h
/-- the size of a line at a place, by a list of long ones -/
theorem cut_ints (ns : List Int) (a b : Option Int) : ∃ ms : List Int, cutV (ns.map V.int) a b = ms.map V.int := by
  unfold cutV
  rw [← List.map_drop, ← List.map_take]
  exact ⟨_, rfl⟩
section
variable {P : Program} {w : World} {K : PySem.W.Frag} {mg : Str → Option Value} {base : Heap}
theorem sc__law_cell_at : FnScope ["script", "k"] ["script", "k"] (defScope s__law_cell_at) := ⟨rfl, rfl, rfl, by decide +kernel, rfl, by decide +kernel, by decide +kernel⟩
theorem g__law_cell_at (T : Txt K mg w)  : Gd P w K mg base CX0 1 "_law_cell_at" ["script", "k"] (sp__law_cell_at K) := by
  have sc := sc__law_cell_at
  refine T.d__law_cell_at.ok sc len2 (fun _ _ _ _ _ _ us hl => match us, hl with | [_, _], _ => rfl) (fun f cdv A outer s H vs Q E hr h => ?_)
  obtain ⟨x0, x1, rfl, h⟩ := h
  obtain ⟨a, ns, k, rfl, rfl, hS, hk0, hk1, h⟩ := h
  refine ⟨_, (pss_cons (ps_if (pt_cmpR op_lt (pv 1) (pe_callB call_len_seq (by rfl) T.n_len PySem.boot_len (pa_cons (pv 0) pa_nil)) (nomark _)) (pss_one (ps_ret (pe_ix ix_list (pv 0) (pv 1) (fun _ _ => rfl)))) pss_nil)
      (pss_one (ps_ret pe_int))), ?_⟩
  refine ⟨_, rfl, _, rfl, a, ns.map V.int, rfl, Or.inl hS, _, _, rfl, rfl, _, rfl, ?_⟩
  by_cases c : k < ((ns.map V.int).length : Int)
  · refine if_true_of (decide_eq_true c) ?_
    have hl : k.toNat < ns.length := by rw [List.length_map] at c; omega
    refine ⟨_, rfl, _, rfl, a, ns.map V.int, k, V.int ns[k.toNat], rfl, rfl, hS, at_of (j := k.toNat) (by omega) (by rw [List.getElem?_map, List.getElem?_eq_getElem hl] <;> rfl), h _⟩
  · refine if_false_of (decide_eq_false c) ?_
    exact h 0
theorem sc__law_draw : FnScope ["cell", "k", "bound", "primes"] ["cell", "k", "bound"] (defScope s__law_draw) := ⟨rfl, rfl, rfl, by decide +kernel, rfl, by decide +kernel, by decide +kernel⟩
theorem g__law_draw (T : Txt K mg w)  : Gd P w K mg base CX0 1 "_law_draw" ["cell", "k", "bound"] (sp__law_draw K) := by
  have sc := sc__law_draw
  refine T.d__law_draw.ok sc len3 (fun _ _ _ _ _ _ us hl => match us, hl with | [_, _, _], _ => rfl) (fun f cdv A outer s H vs Q E hr h => ?_)
  obtain ⟨x0, x1, x2, rfl, h⟩ := h
  obtain ⟨c, k, b, rfl, rfl, rfl, hc, hk0, hk1, hb, h⟩ := h
  refine ⟨_, (pss_cons (ps_set (i := 3) sc.nd rfl (Or.inl rfl) (pe_tup (pa_cons pe_int (pa_cons pe_int (pa_cons pe_int (pa_cons pe_int (pa_cons pe_int (pa_cons pe_int (pa_cons pe_int (pa_cons pe_int (pa_cons pe_int (pa_cons pe_int (pa_cons pe_int (pa_cons pe_int (pa_cons pe_int (pa_cons pe_int (pa_cons pe_int (pa_cons pe_int pa_nil))))))))))))))))))
      (pss_one (ps_ret (pe_op op_mod (pe_op op_mod (pe_callTy call_int1 (by rfl) T.n_int (by decide +kernel) (pa_cons (pe_op op_add (pe_op op_mul (pv 0) pe_int) (pe_op op_mul (pv 1) pe_int)) pa_nil)) (pe_ix ix_tup (pv 3) (pe_op op_mod (pe_callTy call_int1 (by rfl) T.n_int (by decide +kernel) (pa_cons (pv 1) pa_nil)) pe_int) (fun _ _ => rfl))) (pv 2))))), ?_⟩
  refine ⟨(by show 16 ≤ sizeLine; decide), fun p hp => ?_⟩
  refine ⟨_, rfl, _, _, rfl, rfl, Or.inr ⟨by decide, by decide⟩, _, rfl, _, _, rfl, rfl, Or.inr ⟨by decide, by decide⟩, _, _, rfl, rfl, Or.inl ⟨_, rfl, ?_⟩⟩
  refine ⟨_, rfl, _, rfl, Or.inl ⟨_, rfl, ?_⟩⟩
  refine ⟨_, _, rfl, rfl, (by show (0 : Int) < 16; decide), ?_⟩
  obtain ⟨j, hj, ej⟩ : ∃ j : Nat, j < 16 ∧ k % 16 = (j : Int) := ⟨(k % 16).toNat, by omega, by omega⟩
  obtain ⟨q, hq, hq0⟩ : ∃ q : Int, ([.int 1000003, .int 1000033, .int 1000037, .int 1000039, .int 1000081, .int 1000099, .int 1000117, .int 1000121, .int 1000133, .int 1000151, .int 1000159, .int 1000171, .int 1000183, .int 1000187, .int 1000193, .int 1000199] : List V)[j]? = some (.int q) ∧ 0 < q := by
    have : ∀ j : Nat, j < 16 → ∃ q : Int, ([.int 1000003, .int 1000033, .int 1000037, .int 1000039, .int 1000081, .int 1000099, .int 1000117, .int 1000121, .int 1000133, .int 1000151, .int 1000159, .int 1000171, .int 1000183, .int 1000187, .int 1000193, .int 1000199] : List V)[j]? = some (.int q) ∧ 0 < q := by
      intro j hj
      match j, hj with
      | 0, _ | 1, _ | 2, _ | 3, _ | 4, _ | 5, _ | 6, _ | 7, _ | 8, _ | 9, _ | 10, _ | 11, _ | 12, _ | 13, _ | 14, _ | 15, _ => exact ⟨_, rfl, by decide⟩
      | n + 16, h => omega
    exact this j hj
  refine ⟨p, _, _, _, rfl, rfl, SqT.of upd_same, at_of ej hq, ?_⟩
  refine ⟨_, _, rfl, rfl, hq0, _, rfl, _, _, rfl, rfl, hb, ?_⟩
  exact h _ _ (Int.emod_nonneg _ (by omega)) (Int.emod_lt_of_pos _ hb) (fun x o e => by rw [upd_ne (ne_of_none e hp)]; exact e)
theorem sc__law_number : FnScope ["cell", "k", "bound", "power", "lap", "remains", "small"] ["cell", "k", "bound"] (defScope s__law_number) := ⟨rfl, rfl, rfl, by decide +kernel, rfl, by decide +kernel, by decide +kernel⟩
theorem g__law_number (T : Txt K mg w) (G__law_draw : Gd P w K mg base CX0 1 "_law_draw" ["cell", "k", "bound"] (sp__law_draw K)) : Gd P w K mg base CX0 2 "_law_number" ["cell", "k", "bound"] (sp__law_number K) := by
  have sc := sc__law_number
  refine T.d__law_number.ok sc len3 (fun _ _ _ _ _ _ us hl => match us, hl with | [_, _, _], _ => rfl) (fun f cdv A outer s H vs Q E hr h => ?_)
  obtain ⟨x0, x1, x2, rfl, h⟩ := h
  obtain ⟨c, k, b, rfl, rfl, rfl, hk0, hk1, hb, h⟩ := h
  refine ⟨_, (pss_cons (ps_set (i := 3) sc.nd rfl (Or.inl rfl) pe_int)
      (pss_cons (ps_for PassesOwn.never rfl (pi_range1 rfl T.n_range (pa_cons (pe_op op_mod (pe_callTy call_int1 (by rfl) T.n_int (by decide +kernel) (pa_cons (pv 1) pa_nil)) pe_int) pa_nil)) (pg_name (i := 4) sc.nd rfl (Or.inl rfl)) (pss_one (ps_set (i := 3) sc.nd rfl (Or.inl rfl) (pe_op op_mul (pv 3) pe_int))))
      (pss_cons (ps_set (i := 5) sc.nd rfl (Or.inl rfl) (pe_op op_fdivW (pe_op op_sub (pv 0) (pe_op op_pow pe_int pe_int)) (pv 3)))
      (pss_cons (ps_if (pt_cmpR op_gt (pv 5) pe_int (nomark _)) (pss_one (ps_ret (pe_op op_mod (pe_op op_mod (pe_callTy call_int1 (by rfl) T.n_int (by decide +kernel) (pa_cons (pv 5) pa_nil)) pe_int) (pv 2)))) pss_nil)
      (pss_cons (ps_set (i := 6) sc.nd rfl (Or.inl rfl) (pe_op op_mod (pe_callTy call_int1 (by rfl) T.n_int (by decide +kernel) (pa_cons (pv 0) pa_nil)) pe_int))
      (pss_one (ps_ret (pe_op op_mod (pe_g G__law_draw (hr.mono (by omega)) pass0 (pa_cons (pe_op op_mul (pe_op op_add (pv 6) (pe_op op_mul pe_int (pv 1))) (pe_op op_add (pe_op op_add (pv 6) (pe_op op_mul pe_int (pv 1))) pe_int)) (pa_cons (pe_op op_add (pe_op op_mod (pe_callTy call_int1 (by rfl) T.n_int (by decide +kernel) (pa_cons (pv 1) pa_nil)) pe_int) pe_int) (pa_cons pe_int pa_nil)))) (pv 2))))))))), ?_⟩
  refine ⟨_, rfl, Or.inl ⟨_, rfl, ?_⟩⟩
  refine ⟨_, _, rfl, rfl, (by show (0 : Int) < 24; decide), k % 24, rfl, by omega, by omega, ?_⟩
  refine for_range (n := (k % 24).toNat) (fun i σ H' => H' = H ∧ ∃ v : Option V, σ = [some (.int c), some (.int k), some (.int b), some (.int (1009 ^ i)), v, none, none]) ⟨rfl, _, rfl⟩ ?_ ?_
  · rintro i σ H' hi ⟨rfl, v, rfl⟩
    refine ⟨_, rfl, _, _, rfl, rfl, Or.inr ⟨by decide, by decide⟩, rfl, some (.int (0 + (i : Int))), ?_⟩
    show _ = ([some (.int c), some (.int k), some (.int b), some (.int (1009 ^ (i + 1))), some (.int (0 + (i : Int))), none, none] : List (Option V))
    rw [Int.pow_succ]
    all_goals rfl
  · rintro σ H' ⟨rfl, v, rfl⟩
    have hj : (k % 24).toNat < 24 := by omega
    have hp : (0 : Int) < 1009 ^ (k % 24).toNat := Int.pow_pos (by decide)
    have hpb : ((1009 : Int) ^ (k % 24).toNat).natAbs < 2 ^ 240 := by
      rw [Int.natAbs_pow]
      exact Nat.lt_of_le_of_lt (Nat.pow_le_pow_right (by decide) (show (k % 24).toNat ≤ 23 by omega)) (by decide : (1009 : Int).natAbs ^ 23 < 2 ^ 240)
    refine ⟨_, rfl, _, _, rfl, rfl, ⟨by decide, by decide, by decide⟩, _, _, rfl, rfl, _, rfl, _, _, rfl, rfl, wide_div hp hpb (by decide) (by decide), ?_⟩
    refine ⟨_, rfl, _, _, rfl, rfl, _, rfl, ?_⟩
    refine ite2 (fun _ => ?_) (fun _ => ?_)
    · refine ⟨_, rfl, Or.inl ⟨_, rfl, ?_⟩⟩
      refine ⟨_, _, rfl, rfl, (by show (0 : Int) < 1009; decide), _, rfl, _, _, rfl, rfl, hb, ?_⟩
      exact h _ _ (Int.emod_nonneg _ (by omega)) (Int.emod_lt_of_pos _ hb) (fun _ _ e => e)
    · refine ⟨_, rfl, Or.inl ⟨_, rfl, ?_⟩⟩
      refine ⟨_, _, rfl, rfl, (by show (0 : Int) < 1000003; decide), ?_⟩
      have h1 : 0 ≤ c % 1000003 := Int.emod_nonneg _ (by decide)
      have h2 : c % 1000003 < 1000003 := Int.emod_lt_of_pos _ (by decide)
      refine ⟨_, rfl, _, rfl, _, _, rfl, rfl, Or.inr ⟨by omega, by omega⟩, _, _, rfl, rfl, ?_⟩
      refine ⟨_, rfl, _, rfl, _, _, rfl, rfl, Or.inr ⟨by omega, by omega⟩, _, _, rfl, rfl, _, _, rfl, rfl, _, _, rfl, rfl, Or.inl ⟨by omega, by omega⟩, ?_⟩
      refine ⟨_, rfl, Or.inl ⟨_, rfl, ?_⟩⟩
      refine ⟨_, _, rfl, rfl, (by show (0 : Int) < 9; decide), _, _, rfl, rfl, ?_⟩
      refine ⟨_, _, _, rfl, _, _, _, rfl, rfl, rfl, ?_, by omega, by omega, by decide, fun r H1 hr0 hr1 e1 => ?_⟩
      · constructor
        · have := Int.mul_nonneg (show 0 ≤ c % 1000003 + 977 * k by omega) (show 0 ≤ c % 1000003 + 31 * k + 5 by omega); omega
        · have := Int.mul_le_mul (show c % 1000003 + 977 * k ≤ 3000003 by omega) (show c % 1000003 + 31 * k + 5 ≤ 3000003 by omega) (by omega) (by omega); omega
      refine ⟨_, rfl, _, _, rfl, rfl, hb, ?_⟩
      exact h _ _ (Int.emod_nonneg _ (by omega)) (Int.emod_lt_of_pos _ hb) e1
theorem sc__law_next : FnScope ["draw", "bound", "at", "cell"] ["draw", "bound"] (defScope s__law_next) := ⟨rfl, rfl, rfl, by decide +kernel, rfl, by decide +kernel, by decide +kernel⟩
theorem g__law_next (T : Txt K mg w) (G__law_cell_at : Gd P w K mg base CX0 1 "_law_cell_at" ["script", "k"] (sp__law_cell_at K)) (G__law_number : Gd P w K mg base CX0 2 "_law_number" ["cell", "k", "bound"] (sp__law_number K)) : Gd P w K mg base CX0 3 "_law_next" ["draw", "bound"] (sp__law_next K) := by
  have sc := sc__law_next
  refine T.d__law_next.ok sc len2 (fun _ _ _ _ _ _ us hl => match us, hl with | [_, _], _ => rfl) (fun f cdv A outer s H vs Q E hr h => ?_)
  obtain ⟨x0, x1, rfl, h⟩ := h
  obtain ⟨d, s, ns, n, b, rfl, rfl, hd, hs, hn0, hn1, hb, h⟩ := h
  refine ⟨_, (pss_cons (ps_asg (pe_op op_add (pe_ix ix_list (pv 0) pe_int (fun _ _ => rfl)) pe_int) (pg_sub (pv 0) pe_int set_list))
      (pss_cons (ps_set (i := 2) sc.nd rfl (Or.inl rfl) (pe_op op_fdiv (pe_ix ix_list (pv 0) pe_int (fun _ _ => rfl)) pe_int))
      (pss_cons (ps_set (i := 3) sc.nd rfl (Or.inl rfl) (pe_op op_add (pe_g G__law_cell_at (hr.mono (by omega)) pass0 (pa_cons (pe_ix ix_list (pv 0) pe_int (fun _ _ => rfl)) (pa_cons (pe_op op_add (pe_ix ix_list (pv 0) pe_int (fun _ _ => rfl)) (pv 2)) pa_nil))) (pe_op op_mul pe_int (pv 2))))
      (pss_one (ps_ret (pe_g G__law_number (hr.mono (by omega)) pass0 (pa_cons (pv 3) (pa_cons (pe_op op_add (pe_op op_mod (pe_callTy call_int1 (by rfl) T.n_int (by decide +kernel) (pa_cons (pe_ix ix_list (pv 0) pe_int (fun _ _ => rfl)) pa_nil)) pe_int) pe_int) (pa_cons (pv 1) pa_nil))))))))), ?_⟩
  have hds : d ≠ s := ne_of hd hs (by intro z; cases ns <;> cases z)
  refine ⟨_, rfl, d, _, _, _, rfl, rfl, SqL.of hd, at_of (j := 2) rfl rfl, _, _, rfl, rfl, _, rfl, d, _, _, 2, rfl, rfl, hd, rfl, ?_⟩
  show ∃ v, _ ∧ _
  refine ⟨_, rfl, d, _, _, _, rfl, rfl, SqL.of upd_same, at_of (j := 2) rfl rfl, _, _, rfl, rfl, ⟨by decide, by decide⟩, ?_⟩
  refine ⟨_, rfl, d, _, _, _, rfl, rfl, SqL.of upd_same, at_of (j := 0) rfl rfl, _, rfl, d, _, _, _, rfl, rfl, SqL.of upd_same, at_of (j := 1) rfl rfl, _, rfl, _, _, rfl, rfl, ?_⟩
  refine ⟨_, _, rfl, _, ns, _, rfl, rfl, SqL.of (by rw [upd_ne hds.symm]; exact hs), by omega, by omega, fun v => ?_⟩
  refine ⟨_, rfl, _, _, rfl, rfl, Or.inr ⟨by omega, by omega⟩, _, _, rfl, rfl, ?_⟩
  refine ⟨_, rfl, _, rfl, d, _, _, _, rfl, rfl, SqL.of upd_same, at_of (j := 2) rfl rfl, Or.inl ⟨_, rfl, ?_⟩⟩
  refine ⟨_, _, rfl, rfl, (by show (0 : Int) < 12; decide), _, _, rfl, rfl, _, rfl, ?_⟩
  refine ⟨_, _, _, rfl, _, _, _, rfl, rfl, rfl, by omega, by omega, hb, fun r H1 h0 h1 e1 => ?_⟩
  refine h r H1 h0 h1 (fun x o e hx => e1 _ _ (by rw [upd_ne (fun z => hx (by simp [z]))]; exact e)) ?_
  exact e1 _ _ upd_same
end
end K66

namespace K66
open PySem PyProof.Rows L2 My Ru I6
open Builtin (bitAnd bitOr)
theorem passF {P : Program} {w : World} {X : Cx} : Passes (L2.CX P w) X (fun _ _ _ => False) := by
  rintro _ _ _ _ _ _ _ ⟨_, _, _, _, _, _, _, _, _, _, _, _, h⟩
  exact h.elim
def sp_listing (K : PySem.W.Frag) : Sp := sp2 fun x y H Q _ => ∃ (l : Addr) (ws : List Int) (b : Int), x = .ref l ∧ y = .int b ∧ H l = some (.lst (ws.map V.int)) ∧ ws.length ≤ 100 ∧ (∀ w ∈ ws, 0 ≤ w ∧ w < 4294967296) ∧ 0 ≤ b ∧ b ≤ 1000000 ∧
  ∀ (H' : Hp) (p : Addr), Same H H' → H' p = some (.lst ((List.range ws.length).map fun (i : Nat) => V.str (Str.empty ++ num (b + 4 * (i : Int)) ++ ": " ++ wtM (ws.getD i 0)))) → Q (.ref p) H'
theorem len_word : ("word " : Str).length = 5 := by decide +kernel
theorem len_colon : (": " : Str).length = 2 := by decide +kernel
theorem len_numB {i : Int} (h : -10000000000 < i ∧ i < 10000000000) : (num i).length ≤ 11 := by
  rw [TL.len_tl]
  by_cases c : 0 ≤ i
  · rw [tl_pos c]
    have := TL.numL_len (n := i.toNat) (k := 10) (by decide) (by have : (10 : Nat) ^ 10 = 10000000000 := by decide
                                                                 omega)
    omega
  · rw [tl_neg (by omega), List.length_cons]
    have := TL.numL_len (n := (-i).toNat) (k := 10) (by decide) (by have : (10 : Nat) ^ 10 = 10000000000 := by decide
                                                                    omega)
    omega
theorem log_okB {i : Int} (h : -10000000000 < i ∧ i < 10000000000) : i.natAbs.log2 < 1920 := by
  by_cases z : i.natAbs = 0
  · rw [z]; decide
  · have h24 : (2 : Nat) ^ 40 = 1099511627776 := by decide
    have h1 : i.natAbs < 2 ^ 40 := by omega
    exact (Nat.log2_lt z).mpr (Nat.lt_of_lt_of_le h1 (Nat.pow_le_pow_right (by decide) (by decide)))
theorem okI_small {f : Fo} {a b c : Int} (h : okI f a b c) : (-10000000 < a ∧ a < 10000000) ∧ (-10000000 < b ∧ b < 10000000) ∧ (-10000000 < c ∧ c < 10000000) := by
  cases f <;> simp only [okI] at h <;> omega
theorem tx_len {o : Nat} (ho : o < 48) {a b c : Int} (h : okI (fo o) a b c) : (txM o a b c).length ≤ 100 := by
  have ln := len_nm ho
  unfold txM
  cases e : fo o <;> rw [e] at h
  case whole => dsimp only; omega
  case store =>
    obtain ⟨ha, hb, hc⟩ := h
    have := len_rg ha; have := len_rg hb; have := len_num (i := c) (by omega)
    simp only [len_app, len_emp, len_blank, len_sep, len_open, len_close]; omega
  case upper =>
    obtain ⟨ha, hb, hc⟩ := h
    have := len_rg ha; have := len_num (i := b) (by omega)
    simp only [len_app, len_emp, len_blank, len_sep, len_open, len_close]; omega
  case jump =>
    obtain ⟨ha, hb, hc⟩ := h
    have := len_rg ha; have := len_num (i := b) (by omega)
    simp only [len_app, len_emp, len_blank, len_sep, len_open, len_close]; omega
  case three =>
    obtain ⟨ha, hb, hc⟩ := h
    have := len_rg ha; have := len_rg hb; have := len_rg hc
    simp only [len_app, len_emp, len_blank, len_sep, len_open, len_close]; omega
  case number =>
    obtain ⟨ha, hb, hc⟩ := h
    have := len_rg ha; have := len_rg hb; have := len_num (i := c) (by omega)
    dsimp only
    split <;> simp only [len_app, len_emp, len_blank, len_sep, len_open, len_close] <;> omega
  case shift =>
    obtain ⟨ha, hb, hc⟩ := h
    have := len_rg ha; have := len_rg hb; have := len_num (i := c) (by omega)
    simp only [len_app, len_emp, len_blank, len_sep, len_open, len_close]; omega
  case branch =>
    obtain ⟨ha, hb, hc⟩ := h
    have := len_rg ha; have := len_rg hb; have := len_num (i := c) (by omega)
    simp only [len_app, len_emp, len_blank, len_sep, len_open, len_close]; omega
theorem wt_len {w : Int} (h : 0 ≤ w ∧ w < 4294967296) : (wtM w).length ≤ 100 := by
  unfold wtM
  cases e : decM w with
  | none =>
    have := len_numB (i := w) (by omega)
    simp only [len_app, len_emp, len_word]; omega
  | some o =>
    obtain ⟨ho, t⟩ := dec_told h e
    exact tx_len ho t.good
theorem ins_ok {o : Nat} (ho : o < 48) {a b c : Int} (h : okI (fo o) a b c) : insM (.str (nm o)) (some a) (some b) (some c) = some o := by
  rw [ins_of (nm_pos o ho), if_pos (ok_of h)]
def sp__law_bits (K : PySem.W.Frag) : Sp := sp2 fun x y H Q _ => ∃ (n : Int) (m : Nat), x = .int n ∧ y = .int (m : Int) ∧ m ≤ 64 ∧ ∀ (H' : Hp) (p : Addr), Same H H' → H p = none → H' p = some (.lst ((bitsL n m).map V.int)) → Q (.ref p) H'
def sp__law_sum (K : PySem.W.Frag) : Sp := sp1 fun x H Q _ => ∃ (l : Addr) (bl : List Int), x = .ref l ∧ H l = some (.lst (bl.map V.int)) ∧ bl.length ≤ 64 ∧ (∀ b ∈ bl, 0 ≤ b ∧ b ≤ 1) ∧ ∀ H', Same H H' → Q (.int (sumB bl)) H'
theorem bit_and (n : Int) (i : Nat) : bitAnd (n / 2 ^ (0 + (i : Int)).toNat) 1 = n / 2 ^ i % 2 := by
  rw [B6.m1, show (0 + (i : Int)).toNat = i by omega]
theorem bits_more (n : Int) (m : Nat) : bitsL n (m + 1) = bitsL n m ++ [n / 2 ^ m % 2] := by
  unfold bitsL
  rw [List.range_succ, List.map_append]; rfl
def partS (bl : List Int) (k : Nat) : List Int := (List.range k).map fun i => bl.getD i 0 * 2 ^ i
theorem sum_part : ∀ (bl : List Int) (c : Int), ((List.range bl.length).map fun i => bl.getD i 0 * (c * 2 ^ i)).sum = c * sumB bl
  | [], c => by show (0 : Int) = c * 0; rw [Int.mul_zero]
  | b :: r, c => by
    rw [List.length_cons, List.range_succ_eq_map, List.map_cons, List.map_map, List.sum_cons]
    have ih := sum_part r (c * 2)
    have e : (List.map ((fun i => (b :: r).getD i 0 * (c * 2 ^ i)) ∘ Nat.succ) (List.range r.length)) = (List.range r.length).map fun i => r.getD i 0 * (c * 2 * 2 ^ i) := by
      refine List.map_congr_left fun i _ => ?_
      show r.getD i 0 * (c * 2 ^ (i + 1)) = r.getD i 0 * (c * 2 * 2 ^ i)
      rw [Int.pow_succ, Int.mul_comm (2 ^ i) 2, Int.mul_assoc]
    rw [e, ih]
    show b * (c * 2 ^ 0) + c * 2 * sumB r = c * (b + 2 * sumB r)
    rw [show (2 : Int) ^ 0 = 1 from by decide, Int.mul_one, Int.mul_add, Int.mul_assoc, Int.mul_comm b c]
theorem sum_is (bl : List Int) : (partS bl bl.length).sum = sumB bl := by
  have := sum_part bl 1
  unfold partS
  rw [← Int.one_mul (sumB bl), ← this]
  congr 1
  refine List.map_congr_left fun i _ => ?_
  rw [Int.one_mul]
section
variable {P : Program} {w : World} {K : PySem.W.Frag} {mg : Str → Option Value} {base : Heap}
theorem sc__law_bits : FnScope ["number", "many", "at"] ["number", "many"] (defScope s__law_bits) := ⟨rfl, rfl, rfl, by decide +kernel, rfl, by decide +kernel, by decide +kernel⟩
theorem g__law_bits (T : Txt K mg w)  : Gd P w K mg base CX0 1 "_law_bits" ["number", "many"] (sp__law_bits K) := by
  have sc := sc__law_bits
  refine T.d__law_bits.ok sc len2 (fun _ _ _ _ _ _ us hl => match us, hl with | [_, _], _ => rfl) (fun f cdv A outer s H vs Q E hr h => ?_)
  obtain ⟨x0, x1, rfl, h⟩ := h
  obtain ⟨n, m, rfl, rfl, hm, h⟩ := h
  refine ⟨_, (pss_one (ps_ret (pe_lc (own := [("at", 2)]) (g := gName 2) (by rfl) sc.nd (pi_range1 rfl T.n_range (pa_cons (pv 1) pa_nil)) (blkOk_by (own := [("at", 2)]) (N := ["number", "many", "at"]) (sc := defScope s__law_bits) (by decide +kernel)) (fun _ _ _ _ _ => (pg_name (i := 2) sc.nd rfl (Or.inl rfl))) (fun _ _ _ _ _ => pts_nil) (fun _ _ _ _ _ => (pe_op op_and (pe_op op_shr (pv 0) (pv 2)) pe_int))))), ?_⟩
  refine ⟨_, rfl, m, rfl, by omega, by omega, fun D hD => ?_⟩
  refine lc_range (lo := 0) (n := m) (fun i H' => Same H H' ∧ H' D = some (.lst ((bitsL n i).map V.int))) ⟨same_new hD, upd_same⟩ (fun i H' hi p => ?_) (fun H' p => ?_)
  · refine ⟨rfl, ?_⟩
    dsimp only [tYes]
    rw [if_pos rfl]
    refine ⟨_, rfl, _, rfl, _, _, rfl, rfl, (by dsimp only; omega), _, _, rfl, rfl, ?_⟩
    refine ⟨_, p.2, (by rw [List.length_map, bits_len]; exact tup_lt (by omega)), fun x o e => ?_, ?_⟩
    · by_cases z : x = D
      · rw [z, hD] at e; cases e
      · rw [upd_ne z]; exact p.1 _ _ e
    · rw [upd_same, bits_more, List.map_append]
      show some (HO.lst (_ ++ [V.int (bitAnd (n / 2 ^ (0 + (i : Int)).toNat) 1)])) = _
      rw [bit_and]; rfl
  · exact h H' D p.1 hD p.2
theorem sc__law_sum : FnScope ["bits", "at", "bit"] ["bits"] (defScope s__law_sum) := ⟨rfl, rfl, rfl, by decide +kernel, rfl, by decide +kernel, by decide +kernel⟩
theorem g__law_sum (T : Txt K mg w)  : Gd P w K mg base CX0 1 "_law_sum" ["bits"] (sp__law_sum K) := by
  have sc := sc__law_sum
  refine T.d__law_sum.ok sc len1 (fun _ _ _ _ _ _ us hl => match us, hl with | [_], _ => rfl) (fun f cdv A outer s H vs Q E hr h => ?_)
  obtain ⟨x0, rfl, h⟩ := h
  obtain ⟨l, bl, rfl, hl, hb, h01, h⟩ := h
  refine ⟨_, (pss_one (ps_ret (pe_callB (cr_sum rfl) (by rfl) T.n_sum (by decide +kernel) (pa_cons (pe_lc (own := [("at", 1), ("bit", 2)]) (g := gTup K 2 (gCons (gName 1) (gCons (gName 2) (gNil)))) (by rfl) sc.nd (pi_enum rfl T.n_enumerate (pa_cons (pv 0) pa_nil)) (blkOk_by (own := [("at", 1), ("bit", 2)]) (N := ["bits", "at", "bit"]) (sc := defScope s__law_sum) (by decide +kernel)) (fun _ _ _ _ _ => (pg_tup rfl (pgs_cons (pg_name (i := 1) sc.nd rfl (Or.inl rfl)) (pgs_cons (pg_name (i := 2) sc.nd rfl (Or.inl rfl)) pgs_nil)))) (fun _ _ _ _ _ => pts_nil) (fun _ _ _ _ _ => (pe_op op_shl (pv 2) (pv 1)))) pa_nil)))), ?_⟩
  refine ⟨_, rfl, l, _, rfl, SqL.of hl, fun D hD => ?_⟩
  refine lc_it (walk_enum (K := K) (a := l) (xs := bl.map V.int)) (fun i H' => Same H H' ∧ H' D = some (.lst ((partS bl i).map V.int))) ⟨same_new hD, upd_same⟩ (fun i H' _ p => SqL.of (p.1 _ _ hl)) (fun i x H6 H7 hi p y => ?_) (fun H6 p => ?_)
  · obtain ⟨Tt, x, y, rfl, hT, rfl, e1, e2⟩ := y
    injection e1 with e1
    subst e1
    rw [List.length_map] at hi
    have e2 : (bl.map V.int)[i]? = some y := e2
    have e2 : y = .int (bl.getD i 0) := by
      rw [List.getElem?_map, List.getElem?_eq_getElem hi] at e2
      injection e2 with e2
      rw [List.getD_eq_getElem?_getD, List.getElem?_eq_getElem hi]
      exact e2.symm
    subst e2
    have hw := h01 (bl.getD i 0) (by rw [List.getD_eq_getElem?_getD, List.getElem?_eq_getElem hi]; exact List.getElem_mem hi)
    have DT : D ≠ Tt := ne_of_none p.2 hT
    have sT : Same H (upd H6 Tt (.tup [.int (i : Nat), .int (bl.getD i 0)])) := Same.tr p.1 (same_new hT)
    refine ⟨Tt, _, rfl, SqT.of upd_same, rfl, _, _, rfl, _, _, rfl, rfl, rfl, ?_⟩
    dsimp only [tYes]
    rw [if_pos rfl]
    refine ⟨_, rfl, _, rfl, _, _, rfl, rfl, shl_ok (by omega) (by omega) (by omega), ?_⟩
    refine ⟨_, by rw [upd_ne DT]; exact p.2, (by rw [List.length_map]; unfold partS; rw [List.length_map, List.length_range]; exact tup_lt (by omega)), fun x o e => ?_, ?_⟩
    · by_cases z : x = D
      · rw [z, hD] at e; cases e
      · rw [upd_ne z]; exact sT _ _ e
    · rw [upd_same]
      unfold partS
      rw [List.range_succ, List.map_append, List.map_append]
      show some (HO.lst (_ ++ [V.int (bl.getD i 0 * 2 ^ (i : Int).toNat)])) = _
      rw [Int.toNat_natCast]; rfl
  · rw [List.length_map] at p
    refine ⟨D, partS bl bl.length, rfl, SqL.of p.2, ?_⟩
    rw [sum_is]
    exact h H6 p.1
end
end K66

namespace K66
open PySem PyProof.Rows L2 My Ru I6
open Builtin (bitAnd bitOr)
/-! tables -/
def Rows (H : Hp) (g : Nat → List Int) : List Addr → List Nat → Prop
  | [], [] => True
  | a :: as, o :: os => H a = some (.tup (.str (nm o) :: (g o).map V.int)) ∧ Rows H g as os
  | _, _ => False
theorem Rows.same {H H' : Hp} {g : Nat → List Int} (s : Same H H') : ∀ {as : List Addr} {os : List Nat}, Rows H g as os → Rows H' g as os
  | [], [], _ => trivial
  | _ :: _, _ :: _, h => ⟨s _ _ h.1, Rows.same s h.2⟩
  | [], _ :: _, h => h.elim
  | _ :: _, [], h => h.elim
theorem Rows.keep {H H' : Hp} {g : Nat → List Int} (s : ∀ a xs, H a = some (.tup xs) → H' a = some (.tup xs)) : ∀ {as : List Addr} {os : List Nat}, Rows H g as os → Rows H' g as os
  | [], [], _ => trivial
  | _ :: _, _ :: _, h => ⟨s _ _ h.1, Rows.keep s h.2⟩
  | [], _ :: _, h => h.elim
  | _ :: _, [], h => h.elim
theorem Rows.app {H : Hp} {g : Nat → List Int} : ∀ {as : List Addr} {os : List Nat} {bs : List Addr} {ps : List Nat}, Rows H g as os → Rows H g bs ps → Rows H g (as ++ bs) (os ++ ps)
  | [], [], _, _, _, h => h
  | _ :: _, _ :: _, _, _, h, k => ⟨h.1, Rows.app h.2 k⟩
  | [], _ :: _, _, _, h, _ => h.elim
  | _ :: _, [], _, _, h, _ => h.elim
theorem Rows.new {H : Hp} {g : Nat → List Int} {as : List Addr} {os : List Nat} {a : Addr} {xs : List V} (o : Nat) (r : Rows H g as os) (h : H a = none) (e : xs = .str (nm o) :: (g o).map V.int := by rfl) : Rows (upd H a (.tup xs)) g (as ++ [a]) (os ++ [o]) :=
  Rows.app (r.same (same_new h)) ⟨by rw [upd_same, e], trivial⟩
theorem Rows.but {H : Hp} {g : Nat → List Int} {as : List Addr} {os : List Nat} {D : Addr} {ys : List V} {o : HO} (r : Rows H g as os) (h : H D = some (.lst ys)) : Rows (upd H D o) g as os :=
  r.keep fun a xs e => by rw [upd_ne (ne_of e h (by intro z; cases z))]; exact e
theorem Rows.len {H : Hp} {g : Nat → List Int} : ∀ {as : List Addr} {os : List Nat}, Rows H g as os → as.length = os.length
  | [], [], _ => rfl
  | _ :: _, _ :: _, h => by rw [List.length_cons, List.length_cons, Rows.len h.2]
  | [], _ :: _, h => h.elim
  | _ :: _, [], h => h.elim
theorem Rows.get {H : Hp} {g : Nat → List Int} : ∀ {as : List Addr} {os : List Nat}, Rows H g as os → ∀ (i : Nat) (a : Addr), as[i]? = some a → ∃ o, o ∈ os ∧ H a = some (.tup (.str (nm o) :: (g o).map V.int))
  | [], [], _, i, a, e => by simp at e
  | b :: as, o :: os, h, 0, a, e => by
    injection e with e
    subst e
    exact ⟨o, List.mem_cons_self, h.1⟩
  | b :: as, o :: os, h, i + 1, a, e => by
    obtain ⟨q, m, k⟩ := Rows.get h.2 i a e
    exact ⟨q, List.mem_cons_of_mem _ m, k⟩
  | [], _ :: _, h, _, _, _ => h.elim
  | _ :: _, [], h, _, _, _ => h.elim
def Tab (H : Hp) (t : Addr) (g : Nat → List Int) (os : List Nat) : Prop := ∃ as : List Addr, H t = some (.lst (as.map V.ref)) ∧ Rows H g as os
theorem Tab.same {H H' : Hp} {t : Addr} {g : Nat → List Int} {os : List Nat} (h : Tab H t g os) (s : Same H H') : Tab H' t g os := by
  obtain ⟨as, e, r⟩ := h
  exact ⟨as, s _ _ e, r.same s⟩
def g3 (o : Nat) : List Int := [pa o, fi o]
def gN (o : Nat) : List Int := [pa o, la o]
def g1 (o : Nat) : List Int := [pa o]
def os3 : List Nat := [0, 1, 2, 3, 4, 5, 6, 7, 8, 9] ++ [10, 11, 12, 13, 14, 15, 16, 17]
def osN : List Nat := [18, 19, 20, 21, 22, 23, 27, 28, 29] ++ [30, 31, 32]
def osS : List Nat := [24, 25, 26]
def osT : List Nat := [33, 34, 35]
def osB : List Nat := [36, 37, 38, 39, 40, 41]
def sp__law_tables (K : PySem.W.Frag) : Sp := sp0 fun H Q _ => ∀ (H' : Hp) (t t1 t2 t3 t4 t5 : Addr), Same H H' → H' t = some (.tup [.ref t1, .ref t2, .ref t3, .ref t4, .ref t5]) →
  Tab H' t1 g3 os3 → Tab H' t2 gN osN → Tab H' t3 g3 osS → Tab H' t4 g1 osT → Tab H' t5 g1 osB → H t1 = none → H t2 = none → H t3 = none → H t4 = none → H t5 = none → Q (.ref t) H'
theorem none_of {H H' : Hp} {a : Addr} (s : Same H H') (h : H' a = none) : H a = none := by
  cases e : H a with
  | none => rfl
  | some o => rw [s _ _ e] at h; cases h
section
variable {P : Program} {w : World} {K : PySem.W.Frag} {mg : Str → Option Value} {base : Heap}
theorem sc__law_tables : FnScope ["threes", "numbers", "at", "name"] [] (defScope s__law_tables) := ⟨rfl, rfl, rfl, by decide +kernel, rfl, by decide +kernel, by decide +kernel⟩
theorem g__law_tables (T : Txt K mg w)  : Gd P w K mg base CX0 1 "_law_tables" [] (sp__law_tables K) := by
  have sc := sc__law_tables
  refine T.d__law_tables.ok sc len0 (fun _ _ _ _ _ _ us hl => match us, hl with | [], _ => rfl) (fun f cdv A outer s H vs Q E hr h => ?_)
  obtain ⟨rfl, h⟩ := h
  refine ⟨_, (pss_cons (ps_set (i := 0) sc.nd rfl (Or.inl rfl) (pe_lst (pa_cons (pe_tup (pa_cons pe_str (pa_cons pe_int (pa_cons pe_int pa_nil)))) (pa_cons (pe_tup (pa_cons pe_str (pa_cons pe_int (pa_cons pe_int pa_nil)))) (pa_cons (pe_tup (pa_cons pe_str (pa_cons pe_int (pa_cons pe_int pa_nil)))) (pa_cons (pe_tup (pa_cons pe_str (pa_cons pe_int (pa_cons pe_int pa_nil)))) (pa_cons (pe_tup (pa_cons pe_str (pa_cons pe_int (pa_cons pe_int pa_nil)))) (pa_cons (pe_tup (pa_cons pe_str (pa_cons pe_int (pa_cons pe_int pa_nil)))) (pa_cons (pe_tup (pa_cons pe_str (pa_cons pe_int (pa_cons pe_int pa_nil)))) (pa_cons (pe_tup (pa_cons pe_str (pa_cons pe_int (pa_cons pe_int pa_nil)))) (pa_cons (pe_tup (pa_cons pe_str (pa_cons pe_int (pa_cons pe_int pa_nil)))) (pa_cons (pe_tup (pa_cons pe_str (pa_cons pe_int (pa_cons pe_int pa_nil)))) pa_nil))))))))))))
      (pss_cons (ps_set (i := 0) sc.nd rfl (Or.inl rfl) (pe_op op_cat (pv 0) (pe_lc (own := [("at", 2), ("name", 3)]) (g := gTup K 2 (gCons (gName 2) (gCons (gName 3) (gNil)))) (by rfl) sc.nd (pi_enum rfl T.n_enumerate (pa_cons (pe_lst (pa_cons pe_str (pa_cons pe_str (pa_cons pe_str (pa_cons pe_str (pa_cons pe_str (pa_cons pe_str (pa_cons pe_str (pa_cons pe_str pa_nil))))))))) pa_nil)) (blkOk_by (own := [("at", 2), ("name", 3)]) (N := ["threes", "numbers", "at", "name"]) (sc := defScope s__law_tables) (by decide +kernel)) (fun _ _ _ _ _ => (pg_tup rfl (pgs_cons (pg_name (i := 2) sc.nd rfl (Or.inl rfl)) (pgs_cons (pg_name (i := 3) sc.nd rfl (Or.inl rfl)) pgs_nil)))) (fun _ _ _ _ _ => pts_nil) (fun _ _ _ _ _ => (pe_tup (pa_cons (pv 3) (pa_cons (pv 2) (pa_cons pe_int pa_nil))))))))
      (pss_cons (ps_set (i := 1) sc.nd rfl (Or.inl rfl) (pe_lst (pa_cons (pe_tup (pa_cons pe_str (pa_cons pe_int (pa_cons pe_int pa_nil)))) (pa_cons (pe_tup (pa_cons pe_str (pa_cons pe_int (pa_cons pe_int pa_nil)))) (pa_cons (pe_tup (pa_cons pe_str (pa_cons pe_int (pa_cons pe_int pa_nil)))) (pa_cons (pe_tup (pa_cons pe_str (pa_cons pe_int (pa_cons pe_int pa_nil)))) (pa_cons (pe_tup (pa_cons pe_str (pa_cons pe_int (pa_cons pe_int pa_nil)))) (pa_cons (pe_tup (pa_cons pe_str (pa_cons pe_int (pa_cons pe_int pa_nil)))) (pa_cons (pe_tup (pa_cons pe_str (pa_cons pe_int (pa_cons pe_int pa_nil)))) (pa_cons (pe_tup (pa_cons pe_str (pa_cons pe_int (pa_cons pe_int pa_nil)))) (pa_cons (pe_tup (pa_cons pe_str (pa_cons pe_int (pa_cons pe_int pa_nil)))) pa_nil)))))))))))
      (pss_cons (ps_set (i := 1) sc.nd rfl (Or.inl rfl) (pe_op op_cat (pv 1) (pe_lst (pa_cons (pe_tup (pa_cons pe_str (pa_cons pe_int (pa_cons pe_int pa_nil)))) (pa_cons (pe_tup (pa_cons pe_str (pa_cons pe_int (pa_cons pe_int pa_nil)))) (pa_cons (pe_tup (pa_cons pe_str (pa_cons pe_int (pa_cons pe_int pa_nil)))) pa_nil))))))
      (pss_one (ps_ret (pe_tup (pa_cons (pv 0) (pa_cons (pv 1) (pa_cons (pe_lst (pa_cons (pe_tup (pa_cons pe_str (pa_cons pe_int (pa_cons pe_int pa_nil)))) (pa_cons (pe_tup (pa_cons pe_str (pa_cons pe_int (pa_cons pe_int pa_nil)))) (pa_cons (pe_tup (pa_cons pe_str (pa_cons pe_int (pa_cons pe_int pa_nil)))) pa_nil)))) (pa_cons (pe_lst (pa_cons (pe_tup (pa_cons pe_str (pa_cons pe_int pa_nil))) (pa_cons (pe_tup (pa_cons pe_str (pa_cons pe_int pa_nil))) (pa_cons (pe_tup (pa_cons pe_str (pa_cons pe_int pa_nil))) pa_nil)))) (pa_cons (pe_lst (pa_cons (pe_tup (pa_cons pe_str (pa_cons pe_int pa_nil))) (pa_cons (pe_tup (pa_cons pe_str (pa_cons pe_int pa_nil))) (pa_cons (pe_tup (pa_cons pe_str (pa_cons pe_int pa_nil))) (pa_cons (pe_tup (pa_cons pe_str (pa_cons pe_int pa_nil))) (pa_cons (pe_tup (pa_cons pe_str (pa_cons pe_int pa_nil))) (pa_cons (pe_tup (pa_cons pe_str (pa_cons pe_int pa_nil))) pa_nil))))))) pa_nil)))))))))))), ?_⟩
  have s0 : Same H H := Same.rf
  have f0 : ∀ a, H a = none → H a = none := fun _ h => h
  refine ⟨(by show 3 ≤ sizeLine; decide), fun a0 h0 => ?_⟩
  have r1 : Rows H g3 [] [] := trivial
  have s1 := Same.tr s0 (same_new (o := (.tup [.str "add", .int 0, .int 0])) h0)
  have r1 := Rows.new (xs := [.str "add", .int 0, .int 0]) 0 r1 h0
  generalize upd H a0 (.tup [.str "add", .int 0, .int 0]) = G1 at *
  refine ⟨(by show 3 ≤ sizeLine; decide), fun a1 h1 => ?_⟩
  have s2 := Same.tr s1 (same_new (o := (.tup [.str "sub", .int 0, .int 32])) h1)
  have r1 := Rows.new (xs := [.str "sub", .int 0, .int 32]) 1 r1 h1
  generalize upd G1 a1 (.tup [.str "sub", .int 0, .int 32]) = G2 at *
  refine ⟨(by show 3 ≤ sizeLine; decide), fun a2 h2 => ?_⟩
  have s3 := Same.tr s2 (same_new (o := (.tup [.str "sll", .int 1, .int 0])) h2)
  have r1 := Rows.new (xs := [.str "sll", .int 1, .int 0]) 2 r1 h2
  generalize upd G2 a2 (.tup [.str "sll", .int 1, .int 0]) = G3 at *
  refine ⟨(by show 3 ≤ sizeLine; decide), fun a3 h3 => ?_⟩
  have s4 := Same.tr s3 (same_new (o := (.tup [.str "slt", .int 2, .int 0])) h3)
  have r1 := Rows.new (xs := [.str "slt", .int 2, .int 0]) 3 r1 h3
  generalize upd G3 a3 (.tup [.str "slt", .int 2, .int 0]) = G4 at *
  refine ⟨(by show 3 ≤ sizeLine; decide), fun a4 h4 => ?_⟩
  have s5 := Same.tr s4 (same_new (o := (.tup [.str "sltu", .int 3, .int 0])) h4)
  have r1 := Rows.new (xs := [.str "sltu", .int 3, .int 0]) 4 r1 h4
  generalize upd G4 a4 (.tup [.str "sltu", .int 3, .int 0]) = G5 at *
  refine ⟨(by show 3 ≤ sizeLine; decide), fun a5 h5 => ?_⟩
  have s6 := Same.tr s5 (same_new (o := (.tup [.str "xor", .int 4, .int 0])) h5)
  have r1 := Rows.new (xs := [.str "xor", .int 4, .int 0]) 5 r1 h5
  generalize upd G5 a5 (.tup [.str "xor", .int 4, .int 0]) = G6 at *
  refine ⟨(by show 3 ≤ sizeLine; decide), fun a6 h6 => ?_⟩
  have s7 := Same.tr s6 (same_new (o := (.tup [.str "srl", .int 5, .int 0])) h6)
  have r1 := Rows.new (xs := [.str "srl", .int 5, .int 0]) 6 r1 h6
  generalize upd G6 a6 (.tup [.str "srl", .int 5, .int 0]) = G7 at *
  refine ⟨(by show 3 ≤ sizeLine; decide), fun a7 h7 => ?_⟩
  have s8 := Same.tr s7 (same_new (o := (.tup [.str "sra", .int 5, .int 32])) h7)
  have r1 := Rows.new (xs := [.str "sra", .int 5, .int 32]) 7 r1 h7
  generalize upd G7 a7 (.tup [.str "sra", .int 5, .int 32]) = G8 at *
  refine ⟨(by show 3 ≤ sizeLine; decide), fun a8 h8 => ?_⟩
  have s9 := Same.tr s8 (same_new (o := (.tup [.str "or", .int 6, .int 0])) h8)
  have r1 := Rows.new (xs := [.str "or", .int 6, .int 0]) 8 r1 h8
  generalize upd G8 a8 (.tup [.str "or", .int 6, .int 0]) = G9 at *
  refine ⟨(by show 3 ≤ sizeLine; decide), fun a9 h9 => ?_⟩
  have s10 := Same.tr s9 (same_new (o := (.tup [.str "and", .int 7, .int 0])) h9)
  have r1 := Rows.new (xs := [.str "and", .int 7, .int 0]) 9 r1 h9
  generalize upd G9 a9 (.tup [.str "and", .int 7, .int 0]) = G10 at *
  refine ⟨(by show 10 ≤ sizeLine; decide), fun L1 hn_L1 => ?_⟩
  have n_L1 := none_of s10 hn_L1
  have s11 := Same.tr s10 (same_new (o := (.lst ([.ref a0, .ref a1, .ref a2, .ref a3, .ref a4, .ref a5, .ref a6, .ref a7, .ref a8, .ref a9]))) hn_L1)
  have r1 := r1.same (same_new (o := .lst ([.ref a0, .ref a1, .ref a2, .ref a3, .ref a4, .ref a5, .ref a6, .ref a7, .ref a8, .ref a9])) hn_L1)
  have e1 : upd G10 L1 (.lst ([.ref a0, .ref a1, .ref a2, .ref a3, .ref a4, .ref a5, .ref a6, .ref a7, .ref a8, .ref a9])) L1 = some (.lst ([.ref a0, .ref a1, .ref a2, .ref a3, .ref a4, .ref a5, .ref a6, .ref a7, .ref a8, .ref a9])) := upd_same
  generalize upd G10 L1 (.lst ([.ref a0, .ref a1, .ref a2, .ref a3, .ref a4, .ref a5, .ref a6, .ref a7, .ref a8, .ref a9])) = G11 at *
  refine ⟨_, rfl, ?_⟩
  refine ⟨(by show 8 ≤ sizeLine; decide), fun LS hn_LS => ?_⟩
  have n_LS := none_of s11 hn_LS
  have s12 := Same.tr s11 (same_new (o := (.lst ([.str "mul", .str "mulh", .str "mulhsu", .str "mulhu", .str "div", .str "divu", .str "rem", .str "remu"]))) hn_LS)
  have r1 := r1.same (same_new (o := .lst ([.str "mul", .str "mulh", .str "mulhsu", .str "mulhu", .str "div", .str "divu", .str "rem", .str "remu"])) hn_LS)
  have e1 := same_new (o := .lst ([.str "mul", .str "mulh", .str "mulhsu", .str "mulhu", .str "div", .str "divu", .str "rem", .str "remu"])) hn_LS _ _ e1
  have eS : upd G11 LS (.lst ([.str "mul", .str "mulh", .str "mulhsu", .str "mulhu", .str "div", .str "divu", .str "rem", .str "remu"])) LS = some (.lst ([.str "mul", .str "mulh", .str "mulhsu", .str "mulhu", .str "div", .str "divu", .str "rem", .str "remu"])) := upd_same
  generalize upd G11 LS (.lst ([.str "mul", .str "mulh", .str "mulhsu", .str "mulhu", .str "div", .str "divu", .str "rem", .str "remu"])) = G12 at *
  refine ⟨LS, _, rfl, SqL.of eS, fun D hD => ?_⟩
  have n_D := none_of s12 hD
  refine lc_it (walk_enum (K := K) (a := LS) (xs := [.str "mul", .str "mulh", .str "mulhsu", .str "mulhu", .str "div", .str "divu", .str "rem", .str "remu"])) (fun i H' => Same G12 H' ∧ ∃ as : List Addr, H' D = some (.lst (as.map V.ref)) ∧ Rows H' g3 as ((List.range i).map fun j => 10 + j)) ⟨same_new hD, [], upd_same, trivial⟩ (fun i H' _ p => SqL.of (p.1 _ _ eS)) (fun i x H6 H7 hi p y => ?_) (fun H6 p => ?_)
  · obtain ⟨Tt, x, y, rfl, hT, rfl, e3, e4⟩ := y
    obtain ⟨p1, as, p2, p3⟩ := p
    injection e3 with e3
    subst e3
    have hi : i < 8 := hi
    have e4 : ([.str "mul", .str "mulh", .str "mulhsu", .str "mulhu", .str "div", .str "divu", .str "rem", .str "remu"] : List V)[i]? = some y := e4
    have e5 : y = V.str (nm (10 + i)) ∧ ((i : Nat) : Int) = pa (10 + i) ∧ (1 : Int) = fi (10 + i) := by
      have k : ∀ i : Nat, i < 8 → ([.str "mul", .str "mulh", .str "mulhsu", .str "mulhu", .str "div", .str "divu", .str "rem", .str "remu"] : List V)[i]? = some (V.str (nm (10 + i))) ∧ ((i : Nat) : Int) = pa (10 + i) ∧ (1 : Int) = fi (10 + i) := by
        intro i hi
        match i, hi with
        | 0, _ | 1, _ | 2, _ | 3, _ | 4, _ | 5, _ | 6, _ | 7, _ => exact ⟨rfl, rfl, rfl⟩
        | n + 8, h => omega
      obtain ⟨k1, k2, k3⟩ := k i hi
      rw [k1] at e4
      injection e4 with e4
      exact ⟨e4.symm, k2, k3⟩
    obtain ⟨rfl, ei, ef⟩ := e5
    have DT : D ≠ Tt := ne_of_none p2 hT
    refine ⟨Tt, _, rfl, SqT.of upd_same, rfl, _, _, rfl, _, _, rfl, rfl, rfl, ?_⟩
    dsimp only [tYes]
    rw [if_pos rfl]
    refine ⟨_, rfl, _, rfl, (by show 3 ≤ sizeLine; decide), fun b hb => ?_⟩
    have sT := same_new (o := .tup [.int (i : Nat), .str (nm (10 + i))]) hT
    have eD := sT _ _ p2
    have p3 := p3.same sT
    have p1 := Same.tr p1 sT
    generalize upd H6 Tt (.tup [.int (i : Nat), .str (nm (10 + i))]) = H8 at *
    have r := Rows.new (xs := [.str (nm (10 + i)), .int (i : Nat), .int 1]) (10 + i) p3 hb (by show _ = [V.str (nm (10 + i)), V.int (pa (10 + i)), V.int (fi (10 + i))]; rw [← ei, ← ef])
    have sb := same_new (o := .tup [.str (nm (10 + i)), .int (i : Nat), .int 1]) hb
    have eD := sb _ _ eD
    have p1 := Same.tr p1 sb
    have hlen := p3.len
    generalize upd H8 b (.tup [.str (nm (10 + i)), .int (i : Nat), .int 1]) = H9 at *
    refine ⟨_, eD, (by rw [List.length_map, hlen, List.length_map, List.length_range]; exact tup_lt (by omega)), fun x o e => ?_, as ++ [b], ?_, ?_⟩
    · by_cases z : x = D
      · rw [z, hD] at e; cases e
      · rw [upd_ne z]; exact p1 _ _ e
    · rw [upd_same, List.map_append]; rfl
    · rw [List.range_succ, List.map_append]
      exact Rows.but r eD
  obtain ⟨sD, bs, eB, rB⟩ := p
  have r1 := r1.same sD
  have e1 := sD _ _ e1
  have sA := Same.tr s12 sD
  have hbl : bs.length = 8 := by rw [rB.len]; rfl
  refine ⟨L1, D, _, _, rfl, rfl, e1, eB, (by simp only [List.length_cons, List.length_nil, List.length_map]; exact tup_le (by omega)), fun M1 hM1 => ?_⟩
  have n_M1 := none_of sA hM1
  have sB := Same.tr sA (same_new (o := .lst ([V.ref a0, V.ref a1, V.ref a2, V.ref a3, V.ref a4, V.ref a5, V.ref a6, V.ref a7, V.ref a8, V.ref a9] ++ bs.map V.ref)) hM1)
  have T1 : Tab (upd H6 M1 (.lst ([V.ref a0, V.ref a1, V.ref a2, V.ref a3, V.ref a4, V.ref a5, V.ref a6, V.ref a7, V.ref a8, V.ref a9] ++ bs.map V.ref))) M1 g3 os3 := ⟨[a0, a1, a2, a3, a4, a5, a6, a7, a8, a9] ++ bs, by rw [upd_same, List.map_append]; rfl, (Rows.app r1 rB).same (same_new hM1)⟩
  generalize upd H6 M1 (.lst ([V.ref a0, V.ref a1, V.ref a2, V.ref a3, V.ref a4, V.ref a5, V.ref a6, V.ref a7, V.ref a8, V.ref a9] ++ bs.map V.ref)) = G200 at *
  refine ⟨(by show 3 ≤ sizeLine; decide), fun a18 h18 => ?_⟩
  have r2 : Rows G200 gN [] [] := trivial
  have s201 := Same.tr sB (same_new (o := (.tup [.str "addi", .int 0, .int 19])) h18)
  have r2 := Rows.new (xs := [.str "addi", .int 0, .int 19]) 18 r2 h18
  have T1 := T1.same (same_new (o := .tup [.str "addi", .int 0, .int 19]) h18)
  generalize upd G200 a18 (.tup [.str "addi", .int 0, .int 19]) = G201 at *
  refine ⟨(by show 3 ≤ sizeLine; decide), fun a19 h19 => ?_⟩
  have s202 := Same.tr s201 (same_new (o := (.tup [.str "slti", .int 2, .int 19])) h19)
  have r2 := Rows.new (xs := [.str "slti", .int 2, .int 19]) 19 r2 h19
  have T1 := T1.same (same_new (o := .tup [.str "slti", .int 2, .int 19]) h19)
  generalize upd G201 a19 (.tup [.str "slti", .int 2, .int 19]) = G202 at *
  refine ⟨(by show 3 ≤ sizeLine; decide), fun a20 h20 => ?_⟩
  have s203 := Same.tr s202 (same_new (o := (.tup [.str "sltiu", .int 3, .int 19])) h20)
  have r2 := Rows.new (xs := [.str "sltiu", .int 3, .int 19]) 20 r2 h20
  have T1 := T1.same (same_new (o := .tup [.str "sltiu", .int 3, .int 19]) h20)
  generalize upd G202 a20 (.tup [.str "sltiu", .int 3, .int 19]) = G203 at *
  refine ⟨(by show 3 ≤ sizeLine; decide), fun a21 h21 => ?_⟩
  have s204 := Same.tr s203 (same_new (o := (.tup [.str "xori", .int 4, .int 19])) h21)
  have r2 := Rows.new (xs := [.str "xori", .int 4, .int 19]) 21 r2 h21
  have T1 := T1.same (same_new (o := .tup [.str "xori", .int 4, .int 19]) h21)
  generalize upd G203 a21 (.tup [.str "xori", .int 4, .int 19]) = G204 at *
  refine ⟨(by show 3 ≤ sizeLine; decide), fun a22 h22 => ?_⟩
  have s205 := Same.tr s204 (same_new (o := (.tup [.str "ori", .int 6, .int 19])) h22)
  have r2 := Rows.new (xs := [.str "ori", .int 6, .int 19]) 22 r2 h22
  have T1 := T1.same (same_new (o := .tup [.str "ori", .int 6, .int 19]) h22)
  generalize upd G204 a22 (.tup [.str "ori", .int 6, .int 19]) = G205 at *
  refine ⟨(by show 3 ≤ sizeLine; decide), fun a23 h23 => ?_⟩
  have s206 := Same.tr s205 (same_new (o := (.tup [.str "andi", .int 7, .int 19])) h23)
  have r2 := Rows.new (xs := [.str "andi", .int 7, .int 19]) 23 r2 h23
  have T1 := T1.same (same_new (o := .tup [.str "andi", .int 7, .int 19]) h23)
  generalize upd G205 a23 (.tup [.str "andi", .int 7, .int 19]) = G206 at *
  refine ⟨(by show 3 ≤ sizeLine; decide), fun a27 h27 => ?_⟩
  have s207 := Same.tr s206 (same_new (o := (.tup [.str "lb", .int 0, .int 3])) h27)
  have r2 := Rows.new (xs := [.str "lb", .int 0, .int 3]) 27 r2 h27
  have T1 := T1.same (same_new (o := .tup [.str "lb", .int 0, .int 3]) h27)
  generalize upd G206 a27 (.tup [.str "lb", .int 0, .int 3]) = G207 at *
  refine ⟨(by show 3 ≤ sizeLine; decide), fun a28 h28 => ?_⟩
  have s208 := Same.tr s207 (same_new (o := (.tup [.str "lh", .int 1, .int 3])) h28)
  have r2 := Rows.new (xs := [.str "lh", .int 1, .int 3]) 28 r2 h28
  have T1 := T1.same (same_new (o := .tup [.str "lh", .int 1, .int 3]) h28)
  generalize upd G207 a28 (.tup [.str "lh", .int 1, .int 3]) = G208 at *
  refine ⟨(by show 3 ≤ sizeLine; decide), fun a29 h29 => ?_⟩
  have s209 := Same.tr s208 (same_new (o := (.tup [.str "lw", .int 2, .int 3])) h29)
  have r2 := Rows.new (xs := [.str "lw", .int 2, .int 3]) 29 r2 h29
  have T1 := T1.same (same_new (o := .tup [.str "lw", .int 2, .int 3]) h29)
  generalize upd G208 a29 (.tup [.str "lw", .int 2, .int 3]) = G209 at *
  refine ⟨(by show 9 ≤ sizeLine; decide), fun L2 hn_L2 => ?_⟩
  have n_L2 := none_of s209 hn_L2
  have s210 := Same.tr s209 (same_new (o := (.lst ([.ref a18, .ref a19, .ref a20, .ref a21, .ref a22, .ref a23, .ref a27, .ref a28, .ref a29]))) hn_L2)
  have T1 := T1.same (same_new (o := .lst ([.ref a18, .ref a19, .ref a20, .ref a21, .ref a22, .ref a23, .ref a27, .ref a28, .ref a29])) hn_L2)
  have r2 := r2.same (same_new (o := .lst ([.ref a18, .ref a19, .ref a20, .ref a21, .ref a22, .ref a23, .ref a27, .ref a28, .ref a29])) hn_L2)
  have e2 : upd G209 L2 (.lst ([.ref a18, .ref a19, .ref a20, .ref a21, .ref a22, .ref a23, .ref a27, .ref a28, .ref a29])) L2 = some (.lst ([.ref a18, .ref a19, .ref a20, .ref a21, .ref a22, .ref a23, .ref a27, .ref a28, .ref a29])) := upd_same
  generalize upd G209 L2 (.lst ([.ref a18, .ref a19, .ref a20, .ref a21, .ref a22, .ref a23, .ref a27, .ref a28, .ref a29])) = G210 at *
  refine ⟨_, rfl, ?_⟩
  refine ⟨(by show 3 ≤ sizeLine; decide), fun a30 h30 => ?_⟩
  have r3 : Rows G210 gN [] [] := trivial
  have s211 := Same.tr s210 (same_new (o := (.tup [.str "lbu", .int 4, .int 3])) h30)
  have r3 := Rows.new (xs := [.str "lbu", .int 4, .int 3]) 30 r3 h30
  have T1 := T1.same (same_new (o := .tup [.str "lbu", .int 4, .int 3]) h30)
  have r2 := r2.same (same_new (o := .tup [.str "lbu", .int 4, .int 3]) h30)
  have e2 := same_new (o := .tup [.str "lbu", .int 4, .int 3]) h30 _ _ e2
  generalize upd G210 a30 (.tup [.str "lbu", .int 4, .int 3]) = G211 at *
  refine ⟨(by show 3 ≤ sizeLine; decide), fun a31 h31 => ?_⟩
  have s212 := Same.tr s211 (same_new (o := (.tup [.str "lhu", .int 5, .int 3])) h31)
  have r3 := Rows.new (xs := [.str "lhu", .int 5, .int 3]) 31 r3 h31
  have T1 := T1.same (same_new (o := .tup [.str "lhu", .int 5, .int 3]) h31)
  have r2 := r2.same (same_new (o := .tup [.str "lhu", .int 5, .int 3]) h31)
  have e2 := same_new (o := .tup [.str "lhu", .int 5, .int 3]) h31 _ _ e2
  generalize upd G211 a31 (.tup [.str "lhu", .int 5, .int 3]) = G212 at *
  refine ⟨(by show 3 ≤ sizeLine; decide), fun a32 h32 => ?_⟩
  have s213 := Same.tr s212 (same_new (o := (.tup [.str "jalr", .int 0, .int 103])) h32)
  have r3 := Rows.new (xs := [.str "jalr", .int 0, .int 103]) 32 r3 h32
  have T1 := T1.same (same_new (o := .tup [.str "jalr", .int 0, .int 103]) h32)
  have r2 := r2.same (same_new (o := .tup [.str "jalr", .int 0, .int 103]) h32)
  have e2 := same_new (o := .tup [.str "jalr", .int 0, .int 103]) h32 _ _ e2
  generalize upd G212 a32 (.tup [.str "jalr", .int 0, .int 103]) = G213 at *
  refine ⟨(by show 3 ≤ sizeLine; decide), fun L3 hn_L3 => ?_⟩
  have n_L3 := none_of s213 hn_L3
  have s214 := Same.tr s213 (same_new (o := (.lst ([.ref a30, .ref a31, .ref a32]))) hn_L3)
  have T1 := T1.same (same_new (o := .lst ([.ref a30, .ref a31, .ref a32])) hn_L3)
  have r2 := r2.same (same_new (o := .lst ([.ref a30, .ref a31, .ref a32])) hn_L3)
  have e2 := same_new (o := .lst ([.ref a30, .ref a31, .ref a32])) hn_L3 _ _ e2
  have r3 := r3.same (same_new (o := .lst ([.ref a30, .ref a31, .ref a32])) hn_L3)
  have e3 : upd G213 L3 (.lst ([.ref a30, .ref a31, .ref a32])) L3 = some (.lst ([.ref a30, .ref a31, .ref a32])) := upd_same
  generalize upd G213 L3 (.lst ([.ref a30, .ref a31, .ref a32])) = G214 at *
  refine ⟨L2, L3, _, _, rfl, rfl, e2, e3, (by show 12 ≤ sizeLine; decide), fun M2 hM2 => ?_⟩
  have n_M2 := none_of s214 hM2
  have sC := Same.tr s214 (same_new (o := .lst ([V.ref a18, V.ref a19, V.ref a20, V.ref a21, V.ref a22, V.ref a23, V.ref a27, V.ref a28, V.ref a29] ++ [V.ref a30, V.ref a31, V.ref a32])) hM2)
  have T1 := T1.same (same_new (o := .lst ([V.ref a18, V.ref a19, V.ref a20, V.ref a21, V.ref a22, V.ref a23, V.ref a27, V.ref a28, V.ref a29] ++ [V.ref a30, V.ref a31, V.ref a32])) hM2)
  have T2 : Tab (upd G214 M2 (.lst ([V.ref a18, V.ref a19, V.ref a20, V.ref a21, V.ref a22, V.ref a23, V.ref a27, V.ref a28, V.ref a29] ++ [V.ref a30, V.ref a31, V.ref a32]))) M2 gN osN := ⟨[a18, a19, a20, a21, a22, a23, a27, a28, a29] ++ [a30, a31, a32], upd_same, (Rows.app r2 r3).same (same_new hM2)⟩
  generalize upd G214 M2 (.lst ([V.ref a18, V.ref a19, V.ref a20, V.ref a21, V.ref a22, V.ref a23, V.ref a27, V.ref a28, V.ref a29] ++ [V.ref a30, V.ref a31, V.ref a32])) = G400 at *
  refine ⟨_, rfl, _, rfl, ?_⟩
  refine ⟨(by show 3 ≤ sizeLine; decide), fun a24 h24 => ?_⟩
  have r4 : Rows G400 g3 [] [] := trivial
  have s401 := Same.tr sC (same_new (o := (.tup [.str "slli", .int 1, .int 0])) h24)
  have r4 := Rows.new (xs := [.str "slli", .int 1, .int 0]) 24 r4 h24
  have T1 := T1.same (same_new (o := .tup [.str "slli", .int 1, .int 0]) h24)
  have T2 := T2.same (same_new (o := .tup [.str "slli", .int 1, .int 0]) h24)
  generalize upd G400 a24 (.tup [.str "slli", .int 1, .int 0]) = G401 at *
  refine ⟨(by show 3 ≤ sizeLine; decide), fun a25 h25 => ?_⟩
  have s402 := Same.tr s401 (same_new (o := (.tup [.str "srli", .int 5, .int 0])) h25)
  have r4 := Rows.new (xs := [.str "srli", .int 5, .int 0]) 25 r4 h25
  have T1 := T1.same (same_new (o := .tup [.str "srli", .int 5, .int 0]) h25)
  have T2 := T2.same (same_new (o := .tup [.str "srli", .int 5, .int 0]) h25)
  generalize upd G401 a25 (.tup [.str "srli", .int 5, .int 0]) = G402 at *
  refine ⟨(by show 3 ≤ sizeLine; decide), fun a26 h26 => ?_⟩
  have s403 := Same.tr s402 (same_new (o := (.tup [.str "srai", .int 5, .int 32])) h26)
  have r4 := Rows.new (xs := [.str "srai", .int 5, .int 32]) 26 r4 h26
  have T1 := T1.same (same_new (o := .tup [.str "srai", .int 5, .int 32]) h26)
  have T2 := T2.same (same_new (o := .tup [.str "srai", .int 5, .int 32]) h26)
  generalize upd G402 a26 (.tup [.str "srai", .int 5, .int 32]) = G403 at *
  refine ⟨(by show 3 ≤ sizeLine; decide), fun L4 hn_L4 => ?_⟩
  have n_L4 := none_of s403 hn_L4
  have s404 := Same.tr s403 (same_new (o := (.lst ([.ref a24, .ref a25, .ref a26]))) hn_L4)
  have T1 := T1.same (same_new (o := .lst ([.ref a24, .ref a25, .ref a26])) hn_L4)
  have T2 := T2.same (same_new (o := .lst ([.ref a24, .ref a25, .ref a26])) hn_L4)
  have r4 := r4.same (same_new (o := .lst ([.ref a24, .ref a25, .ref a26])) hn_L4)
  have e4 : upd G403 L4 (.lst ([.ref a24, .ref a25, .ref a26])) L4 = some (.lst ([.ref a24, .ref a25, .ref a26])) := upd_same
  generalize upd G403 L4 (.lst ([.ref a24, .ref a25, .ref a26])) = G404 at *
  refine ⟨(by show 2 ≤ sizeLine; decide), fun a33 h33 => ?_⟩
  have r5 : Rows G404 g1 [] [] := trivial
  have s405 := Same.tr s404 (same_new (o := (.tup [.str "sb", .int 0])) h33)
  have r5 := Rows.new (xs := [.str "sb", .int 0]) 33 r5 h33
  have T1 := T1.same (same_new (o := .tup [.str "sb", .int 0]) h33)
  have T2 := T2.same (same_new (o := .tup [.str "sb", .int 0]) h33)
  have r4 := r4.same (same_new (o := .tup [.str "sb", .int 0]) h33)
  have e4 := same_new (o := .tup [.str "sb", .int 0]) h33 _ _ e4
  generalize upd G404 a33 (.tup [.str "sb", .int 0]) = G405 at *
  refine ⟨(by show 2 ≤ sizeLine; decide), fun a34 h34 => ?_⟩
  have s406 := Same.tr s405 (same_new (o := (.tup [.str "sh", .int 1])) h34)
  have r5 := Rows.new (xs := [.str "sh", .int 1]) 34 r5 h34
  have T1 := T1.same (same_new (o := .tup [.str "sh", .int 1]) h34)
  have T2 := T2.same (same_new (o := .tup [.str "sh", .int 1]) h34)
  have r4 := r4.same (same_new (o := .tup [.str "sh", .int 1]) h34)
  have e4 := same_new (o := .tup [.str "sh", .int 1]) h34 _ _ e4
  generalize upd G405 a34 (.tup [.str "sh", .int 1]) = G406 at *
  refine ⟨(by show 2 ≤ sizeLine; decide), fun a35 h35 => ?_⟩
  have s407 := Same.tr s406 (same_new (o := (.tup [.str "sw", .int 2])) h35)
  have r5 := Rows.new (xs := [.str "sw", .int 2]) 35 r5 h35
  have T1 := T1.same (same_new (o := .tup [.str "sw", .int 2]) h35)
  have T2 := T2.same (same_new (o := .tup [.str "sw", .int 2]) h35)
  have r4 := r4.same (same_new (o := .tup [.str "sw", .int 2]) h35)
  have e4 := same_new (o := .tup [.str "sw", .int 2]) h35 _ _ e4
  generalize upd G406 a35 (.tup [.str "sw", .int 2]) = G407 at *
  refine ⟨(by show 3 ≤ sizeLine; decide), fun L5 hn_L5 => ?_⟩
  have n_L5 := none_of s407 hn_L5
  have s408 := Same.tr s407 (same_new (o := (.lst ([.ref a33, .ref a34, .ref a35]))) hn_L5)
  have T1 := T1.same (same_new (o := .lst ([.ref a33, .ref a34, .ref a35])) hn_L5)
  have T2 := T2.same (same_new (o := .lst ([.ref a33, .ref a34, .ref a35])) hn_L5)
  have r4 := r4.same (same_new (o := .lst ([.ref a33, .ref a34, .ref a35])) hn_L5)
  have e4 := same_new (o := .lst ([.ref a33, .ref a34, .ref a35])) hn_L5 _ _ e4
  have r5 := r5.same (same_new (o := .lst ([.ref a33, .ref a34, .ref a35])) hn_L5)
  have e5 : upd G407 L5 (.lst ([.ref a33, .ref a34, .ref a35])) L5 = some (.lst ([.ref a33, .ref a34, .ref a35])) := upd_same
  generalize upd G407 L5 (.lst ([.ref a33, .ref a34, .ref a35])) = G408 at *
  refine ⟨(by show 2 ≤ sizeLine; decide), fun a36 h36 => ?_⟩
  have r6 : Rows G408 g1 [] [] := trivial
  have s409 := Same.tr s408 (same_new (o := (.tup [.str "beq", .int 0])) h36)
  have r6 := Rows.new (xs := [.str "beq", .int 0]) 36 r6 h36
  have T1 := T1.same (same_new (o := .tup [.str "beq", .int 0]) h36)
  have T2 := T2.same (same_new (o := .tup [.str "beq", .int 0]) h36)
  have r4 := r4.same (same_new (o := .tup [.str "beq", .int 0]) h36)
  have e4 := same_new (o := .tup [.str "beq", .int 0]) h36 _ _ e4
  have r5 := r5.same (same_new (o := .tup [.str "beq", .int 0]) h36)
  have e5 := same_new (o := .tup [.str "beq", .int 0]) h36 _ _ e5
  generalize upd G408 a36 (.tup [.str "beq", .int 0]) = G409 at *
  refine ⟨(by show 2 ≤ sizeLine; decide), fun a37 h37 => ?_⟩
  have s410 := Same.tr s409 (same_new (o := (.tup [.str "bne", .int 1])) h37)
  have r6 := Rows.new (xs := [.str "bne", .int 1]) 37 r6 h37
  have T1 := T1.same (same_new (o := .tup [.str "bne", .int 1]) h37)
  have T2 := T2.same (same_new (o := .tup [.str "bne", .int 1]) h37)
  have r4 := r4.same (same_new (o := .tup [.str "bne", .int 1]) h37)
  have e4 := same_new (o := .tup [.str "bne", .int 1]) h37 _ _ e4
  have r5 := r5.same (same_new (o := .tup [.str "bne", .int 1]) h37)
  have e5 := same_new (o := .tup [.str "bne", .int 1]) h37 _ _ e5
  generalize upd G409 a37 (.tup [.str "bne", .int 1]) = G410 at *
  refine ⟨(by show 2 ≤ sizeLine; decide), fun a38 h38 => ?_⟩
  have s411 := Same.tr s410 (same_new (o := (.tup [.str "blt", .int 4])) h38)
  have r6 := Rows.new (xs := [.str "blt", .int 4]) 38 r6 h38
  have T1 := T1.same (same_new (o := .tup [.str "blt", .int 4]) h38)
  have T2 := T2.same (same_new (o := .tup [.str "blt", .int 4]) h38)
  have r4 := r4.same (same_new (o := .tup [.str "blt", .int 4]) h38)
  have e4 := same_new (o := .tup [.str "blt", .int 4]) h38 _ _ e4
  have r5 := r5.same (same_new (o := .tup [.str "blt", .int 4]) h38)
  have e5 := same_new (o := .tup [.str "blt", .int 4]) h38 _ _ e5
  generalize upd G410 a38 (.tup [.str "blt", .int 4]) = G411 at *
  refine ⟨(by show 2 ≤ sizeLine; decide), fun a39 h39 => ?_⟩
  have s412 := Same.tr s411 (same_new (o := (.tup [.str "bge", .int 5])) h39)
  have r6 := Rows.new (xs := [.str "bge", .int 5]) 39 r6 h39
  have T1 := T1.same (same_new (o := .tup [.str "bge", .int 5]) h39)
  have T2 := T2.same (same_new (o := .tup [.str "bge", .int 5]) h39)
  have r4 := r4.same (same_new (o := .tup [.str "bge", .int 5]) h39)
  have e4 := same_new (o := .tup [.str "bge", .int 5]) h39 _ _ e4
  have r5 := r5.same (same_new (o := .tup [.str "bge", .int 5]) h39)
  have e5 := same_new (o := .tup [.str "bge", .int 5]) h39 _ _ e5
  generalize upd G411 a39 (.tup [.str "bge", .int 5]) = G412 at *
  refine ⟨(by show 2 ≤ sizeLine; decide), fun a40 h40 => ?_⟩
  have s413 := Same.tr s412 (same_new (o := (.tup [.str "bltu", .int 6])) h40)
  have r6 := Rows.new (xs := [.str "bltu", .int 6]) 40 r6 h40
  have T1 := T1.same (same_new (o := .tup [.str "bltu", .int 6]) h40)
  have T2 := T2.same (same_new (o := .tup [.str "bltu", .int 6]) h40)
  have r4 := r4.same (same_new (o := .tup [.str "bltu", .int 6]) h40)
  have e4 := same_new (o := .tup [.str "bltu", .int 6]) h40 _ _ e4
  have r5 := r5.same (same_new (o := .tup [.str "bltu", .int 6]) h40)
  have e5 := same_new (o := .tup [.str "bltu", .int 6]) h40 _ _ e5
  generalize upd G412 a40 (.tup [.str "bltu", .int 6]) = G413 at *
  refine ⟨(by show 2 ≤ sizeLine; decide), fun a41 h41 => ?_⟩
  have s414 := Same.tr s413 (same_new (o := (.tup [.str "bgeu", .int 7])) h41)
  have r6 := Rows.new (xs := [.str "bgeu", .int 7]) 41 r6 h41
  have T1 := T1.same (same_new (o := .tup [.str "bgeu", .int 7]) h41)
  have T2 := T2.same (same_new (o := .tup [.str "bgeu", .int 7]) h41)
  have r4 := r4.same (same_new (o := .tup [.str "bgeu", .int 7]) h41)
  have e4 := same_new (o := .tup [.str "bgeu", .int 7]) h41 _ _ e4
  have r5 := r5.same (same_new (o := .tup [.str "bgeu", .int 7]) h41)
  have e5 := same_new (o := .tup [.str "bgeu", .int 7]) h41 _ _ e5
  generalize upd G413 a41 (.tup [.str "bgeu", .int 7]) = G414 at *
  refine ⟨(by show 6 ≤ sizeLine; decide), fun L6 hn_L6 => ?_⟩
  have n_L6 := none_of s414 hn_L6
  have s415 := Same.tr s414 (same_new (o := (.lst ([.ref a36, .ref a37, .ref a38, .ref a39, .ref a40, .ref a41]))) hn_L6)
  have T1 := T1.same (same_new (o := .lst ([.ref a36, .ref a37, .ref a38, .ref a39, .ref a40, .ref a41])) hn_L6)
  have T2 := T2.same (same_new (o := .lst ([.ref a36, .ref a37, .ref a38, .ref a39, .ref a40, .ref a41])) hn_L6)
  have r4 := r4.same (same_new (o := .lst ([.ref a36, .ref a37, .ref a38, .ref a39, .ref a40, .ref a41])) hn_L6)
  have e4 := same_new (o := .lst ([.ref a36, .ref a37, .ref a38, .ref a39, .ref a40, .ref a41])) hn_L6 _ _ e4
  have r5 := r5.same (same_new (o := .lst ([.ref a36, .ref a37, .ref a38, .ref a39, .ref a40, .ref a41])) hn_L6)
  have e5 := same_new (o := .lst ([.ref a36, .ref a37, .ref a38, .ref a39, .ref a40, .ref a41])) hn_L6 _ _ e5
  have r6 := r6.same (same_new (o := .lst ([.ref a36, .ref a37, .ref a38, .ref a39, .ref a40, .ref a41])) hn_L6)
  have e6 : upd G414 L6 (.lst ([.ref a36, .ref a37, .ref a38, .ref a39, .ref a40, .ref a41])) L6 = some (.lst ([.ref a36, .ref a37, .ref a38, .ref a39, .ref a40, .ref a41])) := upd_same
  generalize upd G414 L6 (.lst ([.ref a36, .ref a37, .ref a38, .ref a39, .ref a40, .ref a41])) = G415 at *
  refine ⟨(by show 5 ≤ sizeLine; decide), fun t ht => ?_⟩
  have sE := same_new (o := .tup [.ref M1, .ref M2, .ref L4, .ref L5, .ref L6]) ht
  exact h _ t M1 M2 L4 L5 L6 (Same.tr s415 sE) upd_same (T1.same sE) (T2.same sE) (Tab.same ⟨[a24, a25, a26], e4, r4⟩ sE) (Tab.same ⟨[a33, a34, a35], e5, r5⟩ sE) (Tab.same ⟨[a36, a37, a38, a39, a40, a41], e6, r6⟩ sE) n_M1 n_M2 n_L4 n_L5 n_L6
end
end K66

namespace K66
open PySem PyProof.Rows L2 My Ru I6
open Builtin (bitAnd bitOr)
structure GoodE (H : Hp) (d P a : Addr) : Prop where
  ex : ∃ (o : Nat) (q : Int × Int × Int) (I B : Addr) (bl : List Int), o < 48 ∧ okI (fo o) q.1 q.2.1 q.2.2 ∧ H a = some (.tup [.ref I, .ref B]) ∧ H I = some (.tup (insV o q)) ∧ H B = some (.lst (bl.map V.int)) ∧ B ≠ d ∧ B ≠ P ∧
    bl.length = 32 ∧ (∀ b ∈ bl, 0 ≤ b ∧ b ≤ 1) ∧ sumB bl = wordM o q.1 q.2.1 q.2.2
theorem GoodE.keep {H H' : Hp} {d P a : Addr} (g : GoodE H d P a) (ht : ∀ x xs, H x = some (.tup xs) → H' x = some (.tup xs)) (hl : ∀ x o, H x = some o → x ≠ d → x ≠ P → H' x = some o) : GoodE H' d P a := by
  obtain ⟨o, q, I, B, bl, h1, h2, h3, h4, h5, h6, h7, h8, h9, h10⟩ := g.ex
  exact ⟨o, q, I, B, bl, h1, h2, ht _ _ h3, ht _ _ h4, hl _ _ h5 h6 h7, h6, h7, h8, h9, h10⟩
def GoodF (H : Hp) (a : Addr) : Prop := ∃ (o : Nat) (q : Int × Int × Int) (I B : Addr) (bl : List Int), o < 48 ∧ okI (fo o) q.1 q.2.1 q.2.2 ∧ H a = some (.tup [.ref I, .ref B]) ∧ H I = some (.tup (insV o q)) ∧ H B = some (.lst (bl.map V.int)) ∧
    bl.length = 32 ∧ (∀ b ∈ bl, 0 ≤ b ∧ b ≤ 1) ∧ sumB bl = wordM o q.1 q.2.1 q.2.2
theorem GoodE.f {H : Hp} {d P a : Addr} (g : GoodE H d P a) : GoodF H a := by
  obtain ⟨o, q, I, B, bl, h1, h2, h3, h4, h5, h6, h7, h8, h9, h10⟩ := g.ex
  exact ⟨o, q, I, B, bl, h1, h2, h3, h4, h5, h8, h9, h10⟩
theorem GoodF.same {H H' : Hp} {a : Addr} (g : GoodF H a) (s : Same H H') : GoodF H' a := by
  obtain ⟨o, q, I, B, bl, h1, h2, h3, h4, h5, h8, h9, h10⟩ := g
  exact ⟨o, q, I, B, bl, h1, h2, s _ _ h3, s _ _ h4, s _ _ h5, h8, h9, h10⟩
structure All6 (H0 H : Hp) (d s0 P t1 t2 t3 t4 t5 : Addr) (ms : List Int) (n : Int) (as : List Addr) : Prop where
  hd : H d = some (.lst [.ref s0, .int 0, .int n])
  hs : H s0 = some (.lst (ms.map V.int))
  hP : H P = some (.lst (as.map V.ref))
  sd : s0 ≠ d
  dP : d ≠ P
  sP : s0 ≠ P
  T1 : Tab H t1 g3 os3
  T2 : Tab H t2 gN osN
  T3 : Tab H t3 g3 osS
  T4 : Tab H t4 g1 osT
  T5 : Tab H t5 g1 osB
  nd : t1 ≠ d ∧ t2 ≠ d ∧ t3 ≠ d ∧ t4 ≠ d ∧ t5 ≠ d
  nP : t1 ≠ P ∧ t2 ≠ P ∧ t3 ≠ P ∧ t4 ≠ P ∧ t5 ≠ P
  good : ∀ a ∈ as, GoodE H d P a
  base : ButL [d] H0 H
  free : H0 P = none
theorem Tab.keep {H H' : Hp} {t : Addr} {g : Nat → List Int} {os : List Nat} (h : Tab H t g os) (ht : ∀ x xs, H x = some (.tup xs) → H' x = some (.tup xs)) (hl : ∀ o, H t = some o → H' t = some o) : Tab H' t g os := by
  obtain ⟨as, e, r⟩ := h
  exact ⟨as, hl _ e, r.keep ht⟩
section
variable {H0 H H' : Hp} {d s0 P t1 t2 t3 t4 t5 : Addr} {ms : List Int} {n m : Int} {as : List Addr}
theorem All6.same (I : All6 H0 H d s0 P t1 t2 t3 t4 t5 ms n as) (s : Same H H') : All6 H0 H' d s0 P t1 t2 t3 t4 t5 ms n as :=
  ⟨s _ _ I.hd, s _ _ I.hs, s _ _ I.hP, I.sd, I.dP, I.sP, I.T1.same s, I.T2.same s, I.T3.same s, I.T4.same s, I.T5.same s, I.nd, I.nP, fun a h => (I.good a h).keep (fun x xs e => s _ _ e) (fun x o e _ _ => s _ _ e),
    I.base.trans (ButL.same s), I.free⟩
theorem All6.draw (I : All6 H0 H d s0 P t1 t2 t3 t4 t5 ms n as) (e : ButL [d] H H') (e2 : H' d = some (.lst [.ref s0, .int 0, .int m])) : All6 H0 H' d s0 P t1 t2 t3 t4 t5 ms m as := by
  have ht : ∀ x xs, H x = some (.tup xs) → H' x = some (.tup xs) := fun x xs z => e _ _ z (by
    intro q
    have q : x = d := by simpa using q
    rw [q, I.hd] at z; cases z)
  have hl : ∀ x o, H x = some o → x ≠ d → H' x = some o := fun x o z q => e _ _ z (by simpa using q)
  exact ⟨e2, hl _ _ I.hs I.sd, hl _ _ I.hP (Ne.symm I.dP), I.sd, I.dP, I.sP, I.T1.keep ht (fun o z => hl _ _ z I.nd.1), I.T2.keep ht (fun o z => hl _ _ z I.nd.2.1), I.T3.keep ht (fun o z => hl _ _ z I.nd.2.2.1), I.T4.keep ht (fun o z => hl _ _ z I.nd.2.2.2.1), I.T5.keep ht (fun o z => hl _ _ z I.nd.2.2.2.2),
    I.nd, I.nP, fun a h => (I.good a h).keep ht (fun x o z q _ => hl _ _ z q), I.base.trans e, I.free⟩
theorem All6.add {a : Addr} (I : All6 H0 H d s0 P t1 t2 t3 t4 t5 ms n as) (g : GoodE H d P a) : All6 H0 (upd H P (.lst (as.map V.ref ++ [.ref a]))) d s0 P t1 t2 t3 t4 t5 ms n (as ++ [a]) := by
  have ht : ∀ x xs, H x = some (.tup xs) → upd H P (.lst (as.map V.ref ++ [.ref a])) x = some (.tup xs) := fun x xs z => by
    rw [upd_ne (ne_of z I.hP (by intro q; cases q))]; exact z
  have hl : ∀ x o, H x = some o → x ≠ P → upd H P (.lst (as.map V.ref ++ [.ref a])) x = some o := fun x o z q => by rw [upd_ne q]; exact z
  refine ⟨hl _ _ I.hd I.dP, hl _ _ I.hs I.sP, by rw [upd_same, List.map_append]; rfl, I.sd, I.dP, I.sP, I.T1.keep ht (fun o z => hl _ _ z I.nP.1), I.T2.keep ht (fun o z => hl _ _ z I.nP.2.1), I.T3.keep ht (fun o z => hl _ _ z I.nP.2.2.1), I.T4.keep ht (fun o z => hl _ _ z I.nP.2.2.2.1), I.T5.keep ht (fun o z => hl _ _ z I.nP.2.2.2.2),
    I.nd, I.nP, fun b hb => ?_, fun x o e h => hl _ _ (I.base x o e h) (fun z => by rw [z, I.free] at e; cases e), I.free⟩
  rcases List.mem_append.mp hb with hb | hb
  · exact (I.good b hb).keep ht (fun x o z _ q => hl _ _ z q)
  · rw [List.mem_singleton.mp hb]
    exact g.keep ht (fun x o z _ q => hl _ _ z q)
end
def sp__law_all (K : PySem.W.Frag) : Sp := sp1 fun x H Q _ => ∃ (d s0 : Addr) (ms : List Int) (n : Int), x = .ref d ∧ H d = some (.lst [.ref s0, .int 0, .int n]) ∧ H s0 = some (.lst (ms.map V.int)) ∧ s0 ≠ d ∧ 0 ≤ n ∧ n ≤ 1000 ∧
  ∀ (H' : Hp) (P : Addr) (as : List Addr), H' P = some (.lst (as.map V.ref)) → as.length ≤ 10000 → (∀ a ∈ as, GoodF H' a) → Q (.ref P) H'
theorem cutb (n : Int) (k i j : Nat) (lo hi : Option Int) (h1 : HT.sIx k 0 lo = i) (h2 : HT.sIx k k hi = j) (hj : j ≤ k) (hij : i ≤ j) : cutV ((bitsL n k).map V.int) lo hi = (bitsL (n / 2 ^ i) (j - i)).map V.int := by
  unfold cutV
  rw [List.length_map, bits_len, h1, h2, ← List.map_drop, ← List.map_take, bits_part n (by omega)]
theorem cutb0 (n : Int) (k j : Nat) (hi : Option Int) (h2 : HT.sIx k k hi = j) (hj : j ≤ k) : cutV ((bitsL n k).map V.int) none hi = (bitsL n j).map V.int := by
  have := cutb n k 0 j none hi rfl h2 hj (Nat.zero_le _)
  rw [this, show (2 : Int) ^ 0 = 1 from by decide, Int.ediv_one]; rfl
theorem bit_at (n : Int) {k j : Nat} (h : j < k) : ((bitsL n k).map V.int)[j]? = some (.int (n / 2 ^ j % 2)) := by
  unfold bitsL
  rw [List.getElem?_map, List.getElem?_map, List.getElem?_range h]; rfl
theorem app01 {x y : List Int} (h : ∀ b ∈ x, 0 ≤ b ∧ b ≤ 1) (k : ∀ b ∈ y, 0 ≤ b ∧ b ≤ 1) : ∀ b ∈ x ++ y, 0 ≤ b ∧ b ≤ 1 := fun b m => by
  rcases List.mem_append.mp m with m | m
  · exact h b m
  · exact k b m
theorem ref_at {as : List Addr} {i : Nat} {x : V} (h : (as.map V.ref)[i]? = some x) : ∃ a, as[i]? = some a ∧ x = .ref a := by
  rw [List.getElem?_map] at h
  cases e : as[i]? with
  | none => rw [e] at h; cases h
  | some a => rw [e] at h; injection h with h; exact ⟨a, rfl, h.symm⟩
theorem os3_ok : ∀ o ∈ os3, o < 48 ∧ fo o = .three ∧ la o = 51 := by decide +kernel
theorem osS_ok : ∀ o ∈ osS, o < 48 ∧ fo o = .shift ∧ la o = 19 := by decide +kernel
theorem osN_ok : ∀ o ∈ osN, o < 48 ∧ fo o = .number := by decide +kernel
theorem osT_ok : ∀ o ∈ osT, o < 48 ∧ fo o = .store ∧ la o = 35 := by decide +kernel
theorem osB_ok : ∀ o ∈ osB, o < 48 ∧ fo o = .branch ∧ la o = 99 := by decide +kernel
theorem fo42 : fo 42 = .upper := by decide +kernel
theorem fo43 : fo 43 = .upper := by decide +kernel
theorem fo44 : fo 44 = .jump := by decide +kernel
theorem fo45 : fo 45 = .whole := by decide +kernel
theorem fo46 : fo 46 = .whole := by decide +kernel
theorem fo47 : fo 47 = .whole := by decide +kernel
theorem w45 : sumB (bitsL 115 32) = wordM 45 0 0 0 := by decide +kernel
theorem w46 : sumB (bitsL 1048691 32) = wordM 46 0 0 0 := by decide +kernel
theorem w47 : sumB (bitsL 267386895 32) = wordM 47 0 0 0 := by decide +kernel
section
variable {P : Program} {w : World} {K : PySem.W.Frag} {mg : Str → Option Value} {base : Heap}
theorem sc__law_all : FnScope ["draw", "number", "threes", "numbers", "shifts", "stores", "branches", "a", "b", "c", "found", "name", "third", "seventh", "bits", "far", "code"] ["draw"] (defScope s__law_all) := ⟨rfl, rfl, rfl, by decide +kernel, rfl, by decide +kernel, by decide +kernel⟩
theorem g__law_all (T : Txt K mg w) (G__law_tables : Gd P w K mg base CX0 1 "_law_tables" [] (sp__law_tables K)) (G__law_next : Gd P w K mg base CX0 3 "_law_next" ["draw", "bound"] (sp__law_next K)) (G__law_bits : Gd P w K mg base CX0 1 "_law_bits" ["number", "many"] (sp__law_bits K)) : Gd P w K mg base CX0 4 "_law_all" ["draw"] (sp__law_all K) := by
  have sc := sc__law_all
  refine T.d__law_all.ok sc len1 (fun _ _ _ _ _ _ us hl => match us, hl with | [_], _ => rfl) (fun f cdv A outer s H vs Q E hr h => ?_)
  obtain ⟨x0, rfl, h⟩ := h
  obtain ⟨d, s0, ms, n, rfl, hd, hs, sd, hn0, hn1, h⟩ := h
  refine ⟨_, (pss_cons (ps_asg (pe_g0 G__law_tables (hr.mono (by omega)) pass0) (pg_tup rfl (pgs_cons (pg_name (i := 2) sc.nd rfl (Or.inl rfl)) (pgs_cons (pg_name (i := 3) sc.nd rfl (Or.inl rfl)) (pgs_cons (pg_name (i := 4) sc.nd rfl (Or.inl rfl)) (pgs_cons (pg_name (i := 5) sc.nd rfl (Or.inl rfl)) (pgs_cons (pg_name (i := 6) sc.nd rfl (Or.inl rfl)) pgs_nil)))))))
      (pss_cons (ps_asg (pe_tup (pa_cons (pe_g G__law_next (hr.mono (by omega)) pass0 (pa_cons (pv 0) (pa_cons pe_int pa_nil))) (pa_cons (pe_g G__law_next (hr.mono (by omega)) pass0 (pa_cons (pv 0) (pa_cons pe_int pa_nil))) (pa_cons (pe_g G__law_next (hr.mono (by omega)) pass0 (pa_cons (pv 0) (pa_cons pe_int pa_nil))) (pa_cons (pe_lst pa_nil) pa_nil))))) (pg_tup rfl (pgs_cons (pg_name (i := 7) sc.nd rfl (Or.inl rfl)) (pgs_cons (pg_name (i := 8) sc.nd rfl (Or.inl rfl)) (pgs_cons (pg_name (i := 9) sc.nd rfl (Or.inl rfl)) (pgs_cons (pg_name (i := 10) sc.nd rfl (Or.inl rfl)) pgs_nil))))))
      (pss_cons (ps_for PassesOwn.never rfl (pi_list (pv 2)) (pg_tup rfl (pgs_cons (pg_name (i := 11) sc.nd rfl (Or.inl rfl)) (pgs_cons (pg_name (i := 12) sc.nd rfl (Or.inl rfl)) (pgs_cons (pg_name (i := 13) sc.nd rfl (Or.inl rfl)) pgs_nil)))) (pss_one (ps_expr (pe_bm PySem.F.plainAttrs_list PySem.F.slot_list_append PySem.F.type_list_append mt_append (pv 10) (pa_cons (pe_tup (pa_cons (pe_tup (pa_cons (pv 11) (pa_cons (pv 7) (pa_cons (pv 8) (pa_cons (pv 9) pa_nil))))) (pa_cons (pe_op op_cat (pe_op op_cat (pe_op op_cat (pe_op op_cat (pe_op op_cat (pe_g G__law_bits (hr.mono (by omega)) pass0 (pa_cons pe_int (pa_cons pe_int pa_nil))) (pe_g G__law_bits (hr.mono (by omega)) pass0 (pa_cons (pv 7) (pa_cons pe_int pa_nil)))) (pe_g G__law_bits (hr.mono (by omega)) pass0 (pa_cons (pv 12) (pa_cons pe_int pa_nil)))) (pe_g G__law_bits (hr.mono (by omega)) pass0 (pa_cons (pv 8) (pa_cons pe_int pa_nil)))) (pe_g G__law_bits (hr.mono (by omega)) pass0 (pa_cons (pv 9) (pa_cons pe_int pa_nil)))) (pe_g G__law_bits (hr.mono (by omega)) pass0 (pa_cons (pv 13) (pa_cons pe_int pa_nil)))) pa_nil))) pa_nil)))))
      (pss_cons (ps_for PassesOwn.never rfl (pi_list (pv 4)) (pg_tup rfl (pgs_cons (pg_name (i := 11) sc.nd rfl (Or.inl rfl)) (pgs_cons (pg_name (i := 12) sc.nd rfl (Or.inl rfl)) (pgs_cons (pg_name (i := 13) sc.nd rfl (Or.inl rfl)) pgs_nil)))) (pss_one (ps_expr (pe_bm PySem.F.plainAttrs_list PySem.F.slot_list_append PySem.F.type_list_append mt_append (pv 10) (pa_cons (pe_tup (pa_cons (pe_tup (pa_cons (pv 11) (pa_cons (pv 8) (pa_cons (pv 7) (pa_cons (pv 9) pa_nil))))) (pa_cons (pe_op op_cat (pe_op op_cat (pe_op op_cat (pe_op op_cat (pe_op op_cat (pe_g G__law_bits (hr.mono (by omega)) pass0 (pa_cons pe_int (pa_cons pe_int pa_nil))) (pe_g G__law_bits (hr.mono (by omega)) pass0 (pa_cons (pv 8) (pa_cons pe_int pa_nil)))) (pe_g G__law_bits (hr.mono (by omega)) pass0 (pa_cons (pv 12) (pa_cons pe_int pa_nil)))) (pe_g G__law_bits (hr.mono (by omega)) pass0 (pa_cons (pv 7) (pa_cons pe_int pa_nil)))) (pe_g G__law_bits (hr.mono (by omega)) pass0 (pa_cons (pv 9) (pa_cons pe_int pa_nil)))) (pe_g G__law_bits (hr.mono (by omega)) pass0 (pa_cons (pv 13) (pa_cons pe_int pa_nil)))) pa_nil))) pa_nil)))))
      (pss_cons (ps_for PassesOwn.never rfl (pi_tup (pe_tup (pa_cons (pe_un un_neg pe_int) (pa_cons pe_int (pa_cons (pe_un un_neg pe_int) (pa_cons pe_int (pa_cons (pe_op op_sub (pe_g G__law_next (hr.mono (by omega)) pass0 (pa_cons (pv 0) (pa_cons pe_int pa_nil))) pe_int) pa_nil))))))) (pg_name (i := 1) sc.nd rfl (Or.inl rfl)) (pss_cons (ps_for PassesOwn.never rfl (pi_list (pv 3)) (pg_tup rfl (pgs_cons (pg_name (i := 11) sc.nd rfl (Or.inl rfl)) (pgs_cons (pg_name (i := 12) sc.nd rfl (Or.inl rfl)) (pgs_cons (pg_name (i := 16) sc.nd rfl (Or.inl rfl)) pgs_nil)))) (pss_one (ps_expr (pe_bm PySem.F.plainAttrs_list PySem.F.slot_list_append PySem.F.type_list_append mt_append (pv 10) (pa_cons (pe_tup (pa_cons (pe_tup (pa_cons (pv 11) (pa_cons (pv 7) (pa_cons (pv 9) (pa_cons (pv 1) pa_nil))))) (pa_cons (pe_op op_cat (pe_op op_cat (pe_op op_cat (pe_op op_cat (pe_g G__law_bits (hr.mono (by omega)) pass0 (pa_cons (pv 16) (pa_cons pe_int pa_nil))) (pe_g G__law_bits (hr.mono (by omega)) pass0 (pa_cons (pv 7) (pa_cons pe_int pa_nil)))) (pe_g G__law_bits (hr.mono (by omega)) pass0 (pa_cons (pv 12) (pa_cons pe_int pa_nil)))) (pe_g G__law_bits (hr.mono (by omega)) pass0 (pa_cons (pv 9) (pa_cons pe_int pa_nil)))) (pe_g G__law_bits (hr.mono (by omega)) pass0 (pa_cons (pv 1) (pa_cons pe_int pa_nil)))) pa_nil))) pa_nil)))))
      (pss_cons (ps_set (i := 14) sc.nd rfl (Or.inl rfl) (pe_g G__law_bits (hr.mono (by omega)) pass0 (pa_cons (pv 1) (pa_cons pe_int pa_nil))))
      (pss_cons (ps_for PassesOwn.never rfl (pi_list (pv 5)) (pg_tup rfl (pgs_cons (pg_name (i := 11) sc.nd rfl (Or.inl rfl)) (pgs_cons (pg_name (i := 12) sc.nd rfl (Or.inl rfl)) pgs_nil))) (pss_one (ps_expr (pe_bm PySem.F.plainAttrs_list PySem.F.slot_list_append PySem.F.type_list_append mt_append (pv 10) (pa_cons (pe_tup (pa_cons (pe_tup (pa_cons (pv 11) (pa_cons (pv 9) (pa_cons (pv 8) (pa_cons (pv 1) pa_nil))))) (pa_cons (pe_op op_cat (pe_op op_cat (pe_op op_cat (pe_op op_cat (pe_op op_cat (pe_g G__law_bits (hr.mono (by omega)) pass0 (pa_cons pe_int (pa_cons pe_int pa_nil))) (pe_slice sl_list (pv 14) po_none (po_some pe_int))) (pe_g G__law_bits (hr.mono (by omega)) pass0 (pa_cons (pv 12) (pa_cons pe_int pa_nil)))) (pe_g G__law_bits (hr.mono (by omega)) pass0 (pa_cons (pv 9) (pa_cons pe_int pa_nil)))) (pe_g G__law_bits (hr.mono (by omega)) pass0 (pa_cons (pv 8) (pa_cons pe_int pa_nil)))) (pe_slice sl_list (pv 14) (po_some pe_int) po_none)) pa_nil))) pa_nil)))))
      (pss_cons (ps_set (i := 15) sc.nd rfl (Or.inl rfl) (pe_g G__law_bits (hr.mono (by omega)) pass0 (pa_cons (pe_op op_mul pe_int (pv 1)) (pa_cons pe_int pa_nil))))
      (pss_one (ps_for PassesOwn.never rfl (pi_list (pv 6)) (pg_tup rfl (pgs_cons (pg_name (i := 11) sc.nd rfl (Or.inl rfl)) (pgs_cons (pg_name (i := 12) sc.nd rfl (Or.inl rfl)) pgs_nil))) (pss_one (ps_expr (pe_bm PySem.F.plainAttrs_list PySem.F.slot_list_append PySem.F.type_list_append mt_append (pv 10) (pa_cons (pe_tup (pa_cons (pe_tup (pa_cons (pv 11) (pa_cons (pv 9) (pa_cons (pv 7) (pa_cons (pe_op op_mul pe_int (pv 1)) pa_nil))))) (pa_cons (pe_op op_cat (pe_op op_cat (pe_op op_cat (pe_op op_cat (pe_op op_cat (pe_op op_cat (pe_op op_cat (pe_g G__law_bits (hr.mono (by omega)) pass0 (pa_cons pe_int (pa_cons pe_int pa_nil))) (pe_lst (pa_cons (pe_ix ix_list (pv 15) pe_int (fun _ _ => rfl)) pa_nil))) (pe_slice sl_list (pv 15) (po_some pe_int) (po_some pe_int))) (pe_g G__law_bits (hr.mono (by omega)) pass0 (pa_cons (pv 12) (pa_cons pe_int pa_nil)))) (pe_g G__law_bits (hr.mono (by omega)) pass0 (pa_cons (pv 9) (pa_cons pe_int pa_nil)))) (pe_g G__law_bits (hr.mono (by omega)) pass0 (pa_cons (pv 7) (pa_cons pe_int pa_nil)))) (pe_slice sl_list (pv 15) (po_some pe_int) (po_some pe_int))) (pe_lst (pa_cons (pe_ix ix_list (pv 15) pe_int (fun _ _ => rfl)) pa_nil))) pa_nil))) pa_nil)))))))))))
      (pss_cons (ps_for PassesOwn.never rfl (pi_tup (pe_tup (pa_cons pe_int (pa_cons pe_int (pa_cons (pe_g G__law_next (hr.mono (by omega)) pass0 (pa_cons (pv 0) (pa_cons pe_int pa_nil))) pa_nil))))) (pg_name (i := 1) sc.nd rfl (Or.inl rfl)) (pss_cons (ps_expr (pe_bm PySem.F.plainAttrs_list PySem.F.slot_list_append PySem.F.type_list_append mt_append (pv 10) (pa_cons (pe_tup (pa_cons (pe_tup (pa_cons pe_str (pa_cons (pv 8) (pa_cons (pv 1) (pa_cons pe_int pa_nil))))) (pa_cons (pe_op op_cat (pe_op op_cat (pe_g G__law_bits (hr.mono (by omega)) pass0 (pa_cons pe_int (pa_cons pe_int pa_nil))) (pe_g G__law_bits (hr.mono (by omega)) pass0 (pa_cons (pv 8) (pa_cons pe_int pa_nil)))) (pe_g G__law_bits (hr.mono (by omega)) pass0 (pa_cons (pv 1) (pa_cons pe_int pa_nil)))) pa_nil))) pa_nil)))
      (pss_one (ps_expr (pe_bm PySem.F.plainAttrs_list PySem.F.slot_list_append PySem.F.type_list_append mt_append (pv 10) (pa_cons (pe_tup (pa_cons (pe_tup (pa_cons pe_str (pa_cons (pv 9) (pa_cons (pv 1) (pa_cons pe_int pa_nil))))) (pa_cons (pe_op op_cat (pe_op op_cat (pe_g G__law_bits (hr.mono (by omega)) pass0 (pa_cons pe_int (pa_cons pe_int pa_nil))) (pe_g G__law_bits (hr.mono (by omega)) pass0 (pa_cons (pv 9) (pa_cons pe_int pa_nil)))) (pe_g G__law_bits (hr.mono (by omega)) pass0 (pa_cons (pv 1) (pa_cons pe_int pa_nil)))) pa_nil))) pa_nil))))))
      (pss_cons (ps_for PassesOwn.never rfl (pi_tup (pe_tup (pa_cons (pe_un un_neg pe_int) (pa_cons pe_int (pa_cons (pe_un un_neg pe_int) (pa_cons pe_int (pa_cons (pe_op op_mul pe_int (pe_op op_sub (pe_g G__law_next (hr.mono (by omega)) pass0 (pa_cons (pv 0) (pa_cons pe_int pa_nil))) pe_int)) pa_nil))))))) (pg_name (i := 1) sc.nd rfl (Or.inl rfl)) (pss_cons (ps_set (i := 15) sc.nd rfl (Or.inl rfl) (pe_g G__law_bits (hr.mono (by omega)) pass0 (pa_cons (pv 1) (pa_cons pe_int pa_nil))))
      (pss_one (ps_expr (pe_bm PySem.F.plainAttrs_list PySem.F.slot_list_append PySem.F.type_list_append mt_append (pv 10) (pa_cons (pe_tup (pa_cons (pe_tup (pa_cons pe_str (pa_cons (pv 7) (pa_cons (pv 1) (pa_cons pe_int pa_nil))))) (pa_cons (pe_op op_cat (pe_op op_cat (pe_op op_cat (pe_op op_cat (pe_op op_cat (pe_g G__law_bits (hr.mono (by omega)) pass0 (pa_cons pe_int (pa_cons pe_int pa_nil))) (pe_g G__law_bits (hr.mono (by omega)) pass0 (pa_cons (pv 7) (pa_cons pe_int pa_nil)))) (pe_slice sl_list (pv 15) (po_some pe_int) (po_some pe_int))) (pe_lst (pa_cons (pe_ix ix_list (pv 15) pe_int (fun _ _ => rfl)) pa_nil))) (pe_slice sl_list (pv 15) (po_some pe_int) (po_some pe_int))) (pe_lst (pa_cons (pe_ix ix_list (pv 15) pe_int (fun _ _ => rfl)) pa_nil))) pa_nil))) pa_nil))))))
      (pss_one (ps_ret (pe_op op_cat (pv 10) (pe_lst (pa_cons (pe_tup (pa_cons (pe_tup (pa_cons pe_str (pa_cons pe_int (pa_cons pe_int (pa_cons pe_int pa_nil))))) (pa_cons (pe_g G__law_bits (hr.mono (by omega)) pass0 (pa_cons pe_int (pa_cons pe_int pa_nil))) pa_nil))) (pa_cons (pe_tup (pa_cons (pe_tup (pa_cons pe_str (pa_cons pe_int (pa_cons pe_int (pa_cons pe_int pa_nil))))) (pa_cons (pe_g G__law_bits (hr.mono (by omega)) pass0 (pa_cons pe_int (pa_cons pe_int pa_nil))) pa_nil))) (pa_cons (pe_tup (pa_cons (pe_tup (pa_cons pe_str (pa_cons pe_int (pa_cons pe_int (pa_cons pe_int pa_nil))))) (pa_cons (pe_g G__law_bits (hr.mono (by omega)) pass0 (pa_cons pe_int (pa_cons pe_int pa_nil))) pa_nil))) pa_nil)))))))))))))), ?_⟩
  refine ⟨rfl, fun H1 t t1 t2 t3 t4 t5 q1 ht T1 T2 T3 T4 T5 m1 m2 m3 m4 m5 => ?_⟩
  have nd : t1 ≠ d ∧ t2 ≠ d ∧ t3 ≠ d ∧ t4 ≠ d ∧ t5 ≠ d := ⟨Ne.symm (ne_of_none hd m1), Ne.symm (ne_of_none hd m2), Ne.symm (ne_of_none hd m3), Ne.symm (ne_of_none hd m4), Ne.symm (ne_of_none hd m5)⟩
  refine ⟨t, _, rfl, SqT.of ht, rfl, _, _, rfl, _, _, rfl, _, _, rfl, _, _, rfl, _, _, rfl, rfl, ?_⟩
  have hd1 := q1 _ _ hd
  have hs1 := q1 _ _ hs
  refine ⟨_, rfl, _, _, rfl, d, s0, ms, n, 32, rfl, rfl, hd1, hs1, by omega, by omega, by decide, fun a H2 a0 a1 e1 f1 => ?_⟩
  have hs2 := e1 _ _ hs1 (by simpa using sd)
  refine ⟨_, rfl, _, _, rfl, d, s0, ms, n + 1, 32, rfl, rfl, f1, hs2, by omega, by omega, by decide, fun b H3 b0 b1 e2 f2 => ?_⟩
  have hs3 := e2 _ _ hs2 (by simpa using sd)
  refine ⟨_, rfl, _, _, rfl, d, s0, ms, n + 1 + 1, 32, rfl, rfl, f2, hs3, by omega, by omega, by decide, fun c H4 c0 c1 e3 f3 => ?_⟩
  have hs4 := e3 _ _ hs3 (by simpa using sd)
  have eB : ButL [d] H1 H4 := (e1.trans e2).trans e3
  have kt : ∀ x xs, H1 x = some (.tup xs) → H4 x = some (.tup xs) := fun x xs z => eB _ _ z (by
    intro q
    have q : x = d := by simpa using q
    rw [q, hd1] at z; cases z)
  have kl : ∀ x o, H1 x = some o → x ≠ d → H4 x = some o := fun x o z q => eB _ _ z (by simpa using q)
  have T1 := T1.keep kt (fun o z => kl _ _ z nd.1)
  have T2 := T2.keep kt (fun o z => kl _ _ z nd.2.1)
  have T3 := T3.keep kt (fun o z => kl _ _ z nd.2.2.1)
  have T4 := T4.keep kt (fun o z => kl _ _ z nd.2.2.2.1)
  have T5 := T5.keep kt (fun o z => kl _ _ z nd.2.2.2.2)
  have bs4 : ButL [d] H H4 := (ButL.same q1).trans eB
  clear kt kl eB e1 e2 e3 f1 f2 hs1 hs2 hs3 hd1 ht
  have tn : ∀ {x : Addr} {g : Nat → List Int} {os : List Nat} {P : Addr}, Tab H4 x g os → H4 P = none → x ≠ P := fun q z => by
    obtain ⟨as, e, _⟩ := q
    exact ne_of_none e z
  refine ⟨(by show 0 ≤ sizeLine; decide), fun P hP => ?_⟩
  refine ⟨(by show 4 ≤ sizeLine; decide), fun tt htt => ?_⟩
  have hPn : H P = none := by
    cases e : H P with
    | none => rfl
    | some o =>
      by_cases z : P = d
      · rw [z, f3] at hP; cases hP
      · rw [bs4 _ _ e (by simpa using z)] at hP; cases hP
  have z1 := same_new (H := H4) (o := .lst []) hP
  have I0 : All6 H (upd H4 P (.lst [])) d s0 P t1 t2 t3 t4 t5 ms (n + 1 + 1 + 1) [] := ⟨z1 _ _ f3, z1 _ _ hs4, upd_same, sd, ne_of_none f3 hP, ne_of_none hs4 hP, T1.same z1, T2.same z1, T3.same z1, T4.same z1, T5.same z1, nd, ⟨tn T1 hP, tn T2 hP, tn T3 hP, tn T4 hP, tn T5 hP⟩, (fun a m => by cases m), bs4.trans (ButL.same z1), hPn⟩
  have I0 := I0.same (same_new (o := .tup [.int a, .int b, .int c, .ref P]) htt)
  refine ⟨tt, _, rfl, SqT.of upd_same, rfl, _, _, rfl, _, _, rfl, _, _, rfl, _, _, rfl, rfl, ?_⟩
  generalize upd (upd H4 P (.lst [])) tt (.tup [.int a, .int b, .int c, .ref P]) = G0 at *
  clear T1 T2 T3 T4 T5 z1 bs4 f3 hs4 hP htt hPn q1 m1 m2 m3 m4 m5 tn
  obtain ⟨ar1, lr1, rr1⟩ := I0.T1
  have hlr1 := rr1.len
  refine ⟨_, rfl, t1, rfl, ⟨_, SqL.of lr1⟩, ?_⟩
  refine for_list (K := K) (a := t1) (xs := ar1.map V.ref) (fun i σ H' => ∃ (v1_1 v11_1 v12_1 v13_1 v14_1 v15_1 v16_1 : Option V) (as : List Addr), σ = [some (.ref d), v1_1, some (.ref t1), some (.ref t2), some (.ref t3), some (.ref t4), some (.ref t5), some (.int a), some (.int b), some (.int c), some (.ref P), v11_1, v12_1, v13_1, v14_1, v15_1, v16_1] ∧ All6 H H' d s0 P t1 t2 t3 t4 t5 ms (n + 1 + 1 + 1) as ∧ as.length ≤ 0 + i ∧ ButL [P] G0 H') ⟨_, _, _, _, _, _, _, _, rfl, I0, (by first | omega | simp), ButL.refl⟩ (fun i σ H' _ q => by obtain ⟨_, _, _, _, _, _, _, _, _, _, _, bB⟩ := q; exact SqL.of (bB _ _ lr1 (by simpa using I0.nP.1))) ?_ ?_
  · rintro i x σ Y1 hx ⟨v1_1, v11_1, v12_1, v13_1, v14_1, v15_1, v16_1, as, rfl, J, hl, bB⟩
    obtain ⟨ra, hra, rfl⟩ := ref_at hx
    have rH : Rows Y1 g3 ar1 _ := rr1.keep fun x xs z => bB _ _ z (by
      intro q
      have q : x = P := by simpa using q
      rw [q, I0.hP] at z; cases z)
    obtain ⟨o, ho, hrow⟩ := rH.get i ra hra
    have hi : i < 18 := by have := (List.getElem?_eq_some_iff.mp hra).1; rw [hlr1] at this; exact this
    have hrow : Y1 ra = some (.tup [.str (nm o), .int (pa o), .int (fi o)]) := hrow
    obtain ⟨h48, h3, h51⟩ := os3_ok o ho
    have okk : okI (fo o) a b c := by rw [h3]; exact ⟨⟨a0, a1⟩, ⟨b0, b1⟩, ⟨c0, c1⟩⟩
    refine ⟨ra, _, rfl, SqT.of hrow, rfl, _, _, rfl, _, _, rfl, _, _, rfl, rfl, ?_⟩
    have sR1 : Same Y1 Y1 := Same.rf
    refine ⟨_, rfl, ty_lst (J.same sR1).hP, ?_⟩
    refine ⟨_, rfl, _, rfl, _, rfl, _, rfl, (by show 4 ≤ sizeLine; decide), fun i2 hi2 => ?_⟩
    have z3 := same_new (H := Y1) (o := .tup [.str (nm o), .int a, .int b, .int c]) hi2
    have s3 := Same.tr sR1 z3
    have e2 : upd Y1 i2 (.tup [.str (nm o), .int a, .int b, .int c]) i2 = some (.tup (insV o (a, b, c))) := upd_same
    generalize upd Y1 i2 (.tup [.str (nm o), .int a, .int b, .int c]) = G3 at *
    refine ⟨_, _, rfl, 51, 7, rfl, rfl, (by decide), fun H4 p4 q4 n4 l4 => ?_⟩
    have np4 := ne_of_none (Same.tr s3 q4 |> fun _ => (J.same s3).hP) n4
    have nd4 := ne_of_none (J.same s3).hd n4
    have z5 : Same G3 H4 := q4
    have e2 := z5 _ _ e2
    have s5 := Same.tr s3 z5
    refine ⟨_, rfl, _, _, rfl, a, 5, rfl, rfl, (by decide), fun H6 p6 q6 n6 l6 => ?_⟩
    have np6 := ne_of_none (Same.tr s5 q6 |> fun _ => (J.same s5).hP) n6
    have nd6 := ne_of_none (J.same s5).hd n6
    have z7 : Same H4 H6 := q6
    have e2 := z7 _ _ e2
    have l4 := z7 _ _ l4
    have s7 := Same.tr s5 z7
    refine ⟨p4, p6, _, _, rfl, rfl, l4, l6, (by simp only [List.length_append, List.length_map, bits_len]; exact tup_le (by decide)), fun r8 m8 => ?_⟩
    have np8 := ne_of_none (J.same s7).hP m8
    have nd8 := ne_of_none (J.same s7).hd m8
    have z9 := same_new (H := H6) (o := .lst ((bitsL 51 7).map V.int ++ (bitsL a 5).map V.int)) m8
    have e2 := z9 _ _ e2
    have s9 := Same.tr s7 z9
    have l8 : upd H6 r8 (.lst ((bitsL 51 7).map V.int ++ (bitsL a 5).map V.int)) r8 = some (.lst ((bitsL 51 7 ++ bitsL a 5).map V.int)) := by rw [upd_same]; exact congrArg (fun z => some (HO.lst z)) List.map_append.symm
    generalize upd H6 r8 (.lst ((bitsL 51 7).map V.int ++ (bitsL a 5).map V.int)) = G9 at *
    refine ⟨_, rfl, _, _, rfl, (pa o), 3, rfl, rfl, (by decide), fun H10 p10 q10 n10 l10 => ?_⟩
    have np10 := ne_of_none (Same.tr s9 q10 |> fun _ => (J.same s9).hP) n10
    have nd10 := ne_of_none (J.same s9).hd n10
    have z11 : Same G9 H10 := q10
    have e2 := z11 _ _ e2
    have l8 := z11 _ _ l8
    have s11 := Same.tr s9 z11
    refine ⟨r8, p10, _, _, rfl, rfl, l8, l10, (by simp only [List.length_append, List.length_map, bits_len]; exact tup_le (by decide)), fun r12 m12 => ?_⟩
    have np12 := ne_of_none (J.same s11).hP m12
    have nd12 := ne_of_none (J.same s11).hd m12
    have z13 := same_new (H := H10) (o := .lst ((bitsL 51 7 ++ bitsL a 5).map V.int ++ (bitsL (pa o) 3).map V.int)) m12
    have e2 := z13 _ _ e2
    have s13 := Same.tr s11 z13
    have l12 : upd H10 r12 (.lst ((bitsL 51 7 ++ bitsL a 5).map V.int ++ (bitsL (pa o) 3).map V.int)) r12 = some (.lst ((bitsL 51 7 ++ bitsL a 5 ++ bitsL (pa o) 3).map V.int)) := by rw [upd_same]; exact congrArg (fun z => some (HO.lst z)) List.map_append.symm
    generalize upd H10 r12 (.lst ((bitsL 51 7 ++ bitsL a 5).map V.int ++ (bitsL (pa o) 3).map V.int)) = G13 at *
    refine ⟨_, rfl, _, _, rfl, b, 5, rfl, rfl, (by decide), fun H14 p14 q14 n14 l14 => ?_⟩
    have np14 := ne_of_none (Same.tr s13 q14 |> fun _ => (J.same s13).hP) n14
    have nd14 := ne_of_none (J.same s13).hd n14
    have z15 : Same G13 H14 := q14
    have e2 := z15 _ _ e2
    have l12 := z15 _ _ l12
    have s15 := Same.tr s13 z15
    refine ⟨r12, p14, _, _, rfl, rfl, l12, l14, (by simp only [List.length_append, List.length_map, bits_len]; exact tup_le (by decide)), fun r16 m16 => ?_⟩
    have np16 := ne_of_none (J.same s15).hP m16
    have nd16 := ne_of_none (J.same s15).hd m16
    have z17 := same_new (H := H14) (o := .lst ((bitsL 51 7 ++ bitsL a 5 ++ bitsL (pa o) 3).map V.int ++ (bitsL b 5).map V.int)) m16
    have e2 := z17 _ _ e2
    have s17 := Same.tr s15 z17
    have l16 : upd H14 r16 (.lst ((bitsL 51 7 ++ bitsL a 5 ++ bitsL (pa o) 3).map V.int ++ (bitsL b 5).map V.int)) r16 = some (.lst ((bitsL 51 7 ++ bitsL a 5 ++ bitsL (pa o) 3 ++ bitsL b 5).map V.int)) := by rw [upd_same]; exact congrArg (fun z => some (HO.lst z)) List.map_append.symm
    generalize upd H14 r16 (.lst ((bitsL 51 7 ++ bitsL a 5 ++ bitsL (pa o) 3).map V.int ++ (bitsL b 5).map V.int)) = G17 at *
    refine ⟨_, rfl, _, _, rfl, c, 5, rfl, rfl, (by decide), fun H18 p18 q18 n18 l18 => ?_⟩
    have np18 := ne_of_none (Same.tr s17 q18 |> fun _ => (J.same s17).hP) n18
    have nd18 := ne_of_none (J.same s17).hd n18
    have z19 : Same G17 H18 := q18
    have e2 := z19 _ _ e2
    have l16 := z19 _ _ l16
    have s19 := Same.tr s17 z19
    refine ⟨r16, p18, _, _, rfl, rfl, l16, l18, (by simp only [List.length_append, List.length_map, bits_len]; exact tup_le (by decide)), fun r20 m20 => ?_⟩
    have np20 := ne_of_none (J.same s19).hP m20
    have nd20 := ne_of_none (J.same s19).hd m20
    have z21 := same_new (H := H18) (o := .lst ((bitsL 51 7 ++ bitsL a 5 ++ bitsL (pa o) 3 ++ bitsL b 5).map V.int ++ (bitsL c 5).map V.int)) m20
    have e2 := z21 _ _ e2
    have s21 := Same.tr s19 z21
    have l20 : upd H18 r20 (.lst ((bitsL 51 7 ++ bitsL a 5 ++ bitsL (pa o) 3 ++ bitsL b 5).map V.int ++ (bitsL c 5).map V.int)) r20 = some (.lst ((bitsL 51 7 ++ bitsL a 5 ++ bitsL (pa o) 3 ++ bitsL b 5 ++ bitsL c 5).map V.int)) := by rw [upd_same]; exact congrArg (fun z => some (HO.lst z)) List.map_append.symm
    generalize upd H18 r20 (.lst ((bitsL 51 7 ++ bitsL a 5 ++ bitsL (pa o) 3 ++ bitsL b 5).map V.int ++ (bitsL c 5).map V.int)) = G21 at *
    refine ⟨_, rfl, _, _, rfl, (fi o), 7, rfl, rfl, (by decide), fun H22 p22 q22 n22 l22 => ?_⟩
    have np22 := ne_of_none (Same.tr s21 q22 |> fun _ => (J.same s21).hP) n22
    have nd22 := ne_of_none (J.same s21).hd n22
    have z23 : Same G21 H22 := q22
    have e2 := z23 _ _ e2
    have l20 := z23 _ _ l20
    have s23 := Same.tr s21 z23
    refine ⟨r20, p22, _, _, rfl, rfl, l20, l22, (by simp only [List.length_append, List.length_map, bits_len]; exact tup_le (by decide)), fun r24 m24 => ?_⟩
    have np24 := ne_of_none (J.same s23).hP m24
    have nd24 := ne_of_none (J.same s23).hd m24
    have z25 := same_new (H := H22) (o := .lst ((bitsL 51 7 ++ bitsL a 5 ++ bitsL (pa o) 3 ++ bitsL b 5 ++ bitsL c 5).map V.int ++ (bitsL (fi o) 7).map V.int)) m24
    have e2 := z25 _ _ e2
    have s25 := Same.tr s23 z25
    have l24 : upd H22 r24 (.lst ((bitsL 51 7 ++ bitsL a 5 ++ bitsL (pa o) 3 ++ bitsL b 5 ++ bitsL c 5).map V.int ++ (bitsL (fi o) 7).map V.int)) r24 = some (.lst ((bitsL 51 7 ++ bitsL a 5 ++ bitsL (pa o) 3 ++ bitsL b 5 ++ bitsL c 5 ++ bitsL (fi o) 7).map V.int)) := by rw [upd_same]; exact congrArg (fun z => some (HO.lst z)) List.map_append.symm
    generalize upd H22 r24 (.lst ((bitsL 51 7 ++ bitsL a 5 ++ bitsL (pa o) 3 ++ bitsL b 5 ++ bitsL c 5).map V.int ++ (bitsL (fi o) 7).map V.int)) = G25 at *
    refine ⟨(by show 2 ≤ sizeLine; decide), fun t2 ht2 => ?_⟩
    have z26 := same_new (H := G25) (o := .tup [.ref i2, .ref r24]) ht2
    have e2 := z26 _ _ e2
    have l24 := z26 _ _ l24
    have s26 := Same.tr s25 z26
    have et2 : upd G25 t2 (.tup [.ref i2, .ref r24]) t2 = some (.tup [.ref i2, .ref r24]) := upd_same
    generalize upd G25 t2 (.tup [.ref i2, .ref r24]) = G26 at *
    have J2 := J.same s26
    refine ⟨P, _, _, rfl, rfl, J2.hP, (by rw [List.length_map]; exact tup_lt (by omega)), ?_⟩
    have K2 := J2.add (a := t2) ⟨o, (a, b, c), i2, r24, bitsL 51 7 ++ bitsL a 5 ++ bitsL (pa o) 3 ++ bitsL b 5 ++ bitsL c 5 ++ bitsL (fi o) 7, h48, okk, et2, e2, l24, (Ne.symm nd24), (Ne.symm np24), (by simp only [List.length_append, bits_len]), app01 (app01 (app01 (app01 (app01 (bits_01 _ _) (bits_01 _ _)) (bits_01 _ _)) (bits_01 _ _)) (bits_01 _ _)) (bits_01 _ _), (by have := b_three h48 (Or.inl h3) okk; rw [h51] at this; exact this)⟩
    exact ⟨_, _, _, _, _, _, _, _, rfl, K2, (by rw [List.length_append]; show as.length + 1 ≤ _; omega), (bB.trans (ButL.same s26)).trans (ButL.put (by simp))⟩
  · rintro σ X1 ⟨v1_1, v11_1, v12_1, v13_1, v14_1, v15_1, v16_1, as1, rfl, J1, hl1, bB1⟩
    rw [List.length_map, hlr1] at hl1
    have hl1 : as1.length ≤ 0 + 18 := hl1
    obtain ⟨ar27, lr27, rr27⟩ := J1.T3
    have hlr27 := rr27.len
    refine ⟨_, rfl, t3, rfl, ⟨_, SqL.of lr27⟩, ?_⟩
    refine for_list (K := K) (a := t3) (xs := ar27.map V.ref) (fun i σ H' => ∃ (v1_27 v11_27 v12_27 v13_27 v14_27 v15_27 v16_27 : Option V) (as : List Addr), σ = [some (.ref d), v1_27, some (.ref t1), some (.ref t2), some (.ref t3), some (.ref t4), some (.ref t5), some (.int a), some (.int b), some (.int c), some (.ref P), v11_27, v12_27, v13_27, v14_27, v15_27, v16_27] ∧ All6 H H' d s0 P t1 t2 t3 t4 t5 ms (n + 1 + 1 + 1) as ∧ as.length ≤ 18 + i ∧ ButL [P] X1 H') ⟨_, _, _, _, _, _, _, _, rfl, J1, (by first | omega | simp), ButL.refl⟩ (fun i σ H' _ q => by obtain ⟨_, _, _, _, _, _, _, _, _, _, _, bB⟩ := q; exact SqL.of (bB _ _ lr27 (by simpa using J1.nP.2.2.1))) ?_ ?_
    · rintro i x σ Y27 hx ⟨v1_27, v11_27, v12_27, v13_27, v14_27, v15_27, v16_27, as, rfl, J, hl, bB⟩
      obtain ⟨ra, hra, rfl⟩ := ref_at hx
      have rH : Rows Y27 g3 ar27 _ := rr27.keep fun x xs z => bB _ _ z (by
        intro q
        have q : x = P := by simpa using q
        rw [q, J1.hP] at z; cases z)
      obtain ⟨o, ho, hrow⟩ := rH.get i ra hra
      have hi : i < 3 := by have := (List.getElem?_eq_some_iff.mp hra).1; rw [hlr27] at this; exact this
      have hrow : Y27 ra = some (.tup [.str (nm o), .int (pa o), .int (fi o)]) := hrow
      obtain ⟨h48, h3, h19⟩ := osS_ok o ho
      have okk : okI (fo o) b a c := by rw [h3]; exact ⟨⟨b0, b1⟩, ⟨a0, a1⟩, ⟨c0, c1⟩⟩
      refine ⟨ra, _, rfl, SqT.of hrow, rfl, _, _, rfl, _, _, rfl, _, _, rfl, rfl, ?_⟩
      have sR27 : Same Y27 Y27 := Same.rf
      refine ⟨_, rfl, ty_lst (J.same sR27).hP, ?_⟩
      refine ⟨_, rfl, _, rfl, _, rfl, _, rfl, (by show 4 ≤ sizeLine; decide), fun i28 hi28 => ?_⟩
      have z29 := same_new (H := Y27) (o := .tup [.str (nm o), .int b, .int a, .int c]) hi28
      have s29 := Same.tr sR27 z29
      have e28 : upd Y27 i28 (.tup [.str (nm o), .int b, .int a, .int c]) i28 = some (.tup (insV o (b, a, c))) := upd_same
      generalize upd Y27 i28 (.tup [.str (nm o), .int b, .int a, .int c]) = G29 at *
      refine ⟨_, _, rfl, 19, 7, rfl, rfl, (by decide), fun H30 p30 q30 n30 l30 => ?_⟩
      have np30 := ne_of_none (Same.tr s29 q30 |> fun _ => (J.same s29).hP) n30
      have nd30 := ne_of_none (J.same s29).hd n30
      have z31 : Same G29 H30 := q30
      have e28 := z31 _ _ e28
      have s31 := Same.tr s29 z31
      refine ⟨_, rfl, _, _, rfl, b, 5, rfl, rfl, (by decide), fun H32 p32 q32 n32 l32 => ?_⟩
      have np32 := ne_of_none (Same.tr s31 q32 |> fun _ => (J.same s31).hP) n32
      have nd32 := ne_of_none (J.same s31).hd n32
      have z33 : Same H30 H32 := q32
      have e28 := z33 _ _ e28
      have l30 := z33 _ _ l30
      have s33 := Same.tr s31 z33
      refine ⟨p30, p32, _, _, rfl, rfl, l30, l32, (by simp only [List.length_append, List.length_map, bits_len]; exact tup_le (by decide)), fun r34 m34 => ?_⟩
      have np34 := ne_of_none (J.same s33).hP m34
      have nd34 := ne_of_none (J.same s33).hd m34
      have z35 := same_new (H := H32) (o := .lst ((bitsL 19 7).map V.int ++ (bitsL b 5).map V.int)) m34
      have e28 := z35 _ _ e28
      have s35 := Same.tr s33 z35
      have l34 : upd H32 r34 (.lst ((bitsL 19 7).map V.int ++ (bitsL b 5).map V.int)) r34 = some (.lst ((bitsL 19 7 ++ bitsL b 5).map V.int)) := by rw [upd_same]; exact congrArg (fun z => some (HO.lst z)) List.map_append.symm
      generalize upd H32 r34 (.lst ((bitsL 19 7).map V.int ++ (bitsL b 5).map V.int)) = G35 at *
      refine ⟨_, rfl, _, _, rfl, (pa o), 3, rfl, rfl, (by decide), fun H36 p36 q36 n36 l36 => ?_⟩
      have np36 := ne_of_none (Same.tr s35 q36 |> fun _ => (J.same s35).hP) n36
      have nd36 := ne_of_none (J.same s35).hd n36
      have z37 : Same G35 H36 := q36
      have e28 := z37 _ _ e28
      have l34 := z37 _ _ l34
      have s37 := Same.tr s35 z37
      refine ⟨r34, p36, _, _, rfl, rfl, l34, l36, (by simp only [List.length_append, List.length_map, bits_len]; exact tup_le (by decide)), fun r38 m38 => ?_⟩
      have np38 := ne_of_none (J.same s37).hP m38
      have nd38 := ne_of_none (J.same s37).hd m38
      have z39 := same_new (H := H36) (o := .lst ((bitsL 19 7 ++ bitsL b 5).map V.int ++ (bitsL (pa o) 3).map V.int)) m38
      have e28 := z39 _ _ e28
      have s39 := Same.tr s37 z39
      have l38 : upd H36 r38 (.lst ((bitsL 19 7 ++ bitsL b 5).map V.int ++ (bitsL (pa o) 3).map V.int)) r38 = some (.lst ((bitsL 19 7 ++ bitsL b 5 ++ bitsL (pa o) 3).map V.int)) := by rw [upd_same]; exact congrArg (fun z => some (HO.lst z)) List.map_append.symm
      generalize upd H36 r38 (.lst ((bitsL 19 7 ++ bitsL b 5).map V.int ++ (bitsL (pa o) 3).map V.int)) = G39 at *
      refine ⟨_, rfl, _, _, rfl, a, 5, rfl, rfl, (by decide), fun H40 p40 q40 n40 l40 => ?_⟩
      have np40 := ne_of_none (Same.tr s39 q40 |> fun _ => (J.same s39).hP) n40
      have nd40 := ne_of_none (J.same s39).hd n40
      have z41 : Same G39 H40 := q40
      have e28 := z41 _ _ e28
      have l38 := z41 _ _ l38
      have s41 := Same.tr s39 z41
      refine ⟨r38, p40, _, _, rfl, rfl, l38, l40, (by simp only [List.length_append, List.length_map, bits_len]; exact tup_le (by decide)), fun r42 m42 => ?_⟩
      have np42 := ne_of_none (J.same s41).hP m42
      have nd42 := ne_of_none (J.same s41).hd m42
      have z43 := same_new (H := H40) (o := .lst ((bitsL 19 7 ++ bitsL b 5 ++ bitsL (pa o) 3).map V.int ++ (bitsL a 5).map V.int)) m42
      have e28 := z43 _ _ e28
      have s43 := Same.tr s41 z43
      have l42 : upd H40 r42 (.lst ((bitsL 19 7 ++ bitsL b 5 ++ bitsL (pa o) 3).map V.int ++ (bitsL a 5).map V.int)) r42 = some (.lst ((bitsL 19 7 ++ bitsL b 5 ++ bitsL (pa o) 3 ++ bitsL a 5).map V.int)) := by rw [upd_same]; exact congrArg (fun z => some (HO.lst z)) List.map_append.symm
      generalize upd H40 r42 (.lst ((bitsL 19 7 ++ bitsL b 5 ++ bitsL (pa o) 3).map V.int ++ (bitsL a 5).map V.int)) = G43 at *
      refine ⟨_, rfl, _, _, rfl, c, 5, rfl, rfl, (by decide), fun H44 p44 q44 n44 l44 => ?_⟩
      have np44 := ne_of_none (Same.tr s43 q44 |> fun _ => (J.same s43).hP) n44
      have nd44 := ne_of_none (J.same s43).hd n44
      have z45 : Same G43 H44 := q44
      have e28 := z45 _ _ e28
      have l42 := z45 _ _ l42
      have s45 := Same.tr s43 z45
      refine ⟨r42, p44, _, _, rfl, rfl, l42, l44, (by simp only [List.length_append, List.length_map, bits_len]; exact tup_le (by decide)), fun r46 m46 => ?_⟩
      have np46 := ne_of_none (J.same s45).hP m46
      have nd46 := ne_of_none (J.same s45).hd m46
      have z47 := same_new (H := H44) (o := .lst ((bitsL 19 7 ++ bitsL b 5 ++ bitsL (pa o) 3 ++ bitsL a 5).map V.int ++ (bitsL c 5).map V.int)) m46
      have e28 := z47 _ _ e28
      have s47 := Same.tr s45 z47
      have l46 : upd H44 r46 (.lst ((bitsL 19 7 ++ bitsL b 5 ++ bitsL (pa o) 3 ++ bitsL a 5).map V.int ++ (bitsL c 5).map V.int)) r46 = some (.lst ((bitsL 19 7 ++ bitsL b 5 ++ bitsL (pa o) 3 ++ bitsL a 5 ++ bitsL c 5).map V.int)) := by rw [upd_same]; exact congrArg (fun z => some (HO.lst z)) List.map_append.symm
      generalize upd H44 r46 (.lst ((bitsL 19 7 ++ bitsL b 5 ++ bitsL (pa o) 3 ++ bitsL a 5).map V.int ++ (bitsL c 5).map V.int)) = G47 at *
      refine ⟨_, rfl, _, _, rfl, (fi o), 7, rfl, rfl, (by decide), fun H48 p48 q48 n48 l48 => ?_⟩
      have np48 := ne_of_none (Same.tr s47 q48 |> fun _ => (J.same s47).hP) n48
      have nd48 := ne_of_none (J.same s47).hd n48
      have z49 : Same G47 H48 := q48
      have e28 := z49 _ _ e28
      have l46 := z49 _ _ l46
      have s49 := Same.tr s47 z49
      refine ⟨r46, p48, _, _, rfl, rfl, l46, l48, (by simp only [List.length_append, List.length_map, bits_len]; exact tup_le (by decide)), fun r50 m50 => ?_⟩
      have np50 := ne_of_none (J.same s49).hP m50
      have nd50 := ne_of_none (J.same s49).hd m50
      have z51 := same_new (H := H48) (o := .lst ((bitsL 19 7 ++ bitsL b 5 ++ bitsL (pa o) 3 ++ bitsL a 5 ++ bitsL c 5).map V.int ++ (bitsL (fi o) 7).map V.int)) m50
      have e28 := z51 _ _ e28
      have s51 := Same.tr s49 z51
      have l50 : upd H48 r50 (.lst ((bitsL 19 7 ++ bitsL b 5 ++ bitsL (pa o) 3 ++ bitsL a 5 ++ bitsL c 5).map V.int ++ (bitsL (fi o) 7).map V.int)) r50 = some (.lst ((bitsL 19 7 ++ bitsL b 5 ++ bitsL (pa o) 3 ++ bitsL a 5 ++ bitsL c 5 ++ bitsL (fi o) 7).map V.int)) := by rw [upd_same]; exact congrArg (fun z => some (HO.lst z)) List.map_append.symm
      generalize upd H48 r50 (.lst ((bitsL 19 7 ++ bitsL b 5 ++ bitsL (pa o) 3 ++ bitsL a 5 ++ bitsL c 5).map V.int ++ (bitsL (fi o) 7).map V.int)) = G51 at *
      refine ⟨(by show 2 ≤ sizeLine; decide), fun t28 ht28 => ?_⟩
      have z52 := same_new (H := G51) (o := .tup [.ref i28, .ref r50]) ht28
      have e28 := z52 _ _ e28
      have l50 := z52 _ _ l50
      have s52 := Same.tr s51 z52
      have et28 : upd G51 t28 (.tup [.ref i28, .ref r50]) t28 = some (.tup [.ref i28, .ref r50]) := upd_same
      generalize upd G51 t28 (.tup [.ref i28, .ref r50]) = G52 at *
      have J28 := J.same s52
      refine ⟨P, _, _, rfl, rfl, J28.hP, (by rw [List.length_map]; exact tup_lt (by omega)), ?_⟩
      have K28 := J28.add (a := t28) ⟨o, (b, a, c), i28, r50, bitsL 19 7 ++ bitsL b 5 ++ bitsL (pa o) 3 ++ bitsL a 5 ++ bitsL c 5 ++ bitsL (fi o) 7, h48, okk, et28, e28, l50, (Ne.symm nd50), (Ne.symm np50), (by simp only [List.length_append, bits_len]), app01 (app01 (app01 (app01 (app01 (bits_01 _ _) (bits_01 _ _)) (bits_01 _ _)) (bits_01 _ _)) (bits_01 _ _)) (bits_01 _ _), (by have := b_three h48 (Or.inr h3) okk; rw [h19] at this; exact this)⟩
      exact ⟨_, _, _, _, _, _, _, _, rfl, K28, (by rw [List.length_append]; show as.length + 1 ≤ _; omega), (bB.trans (ButL.same s52)).trans (ButL.put (by simp))⟩
    · rintro σ X27 ⟨v1_27, v11_27, v12_27, v13_27, v14_27, v15_27, v16_27, as27, rfl, J27, hl27, bB27⟩
      rw [List.length_map, hlr27] at hl27
      have hl27 : as27.length ≤ 18 + 3 := hl27
      refine ⟨_, rfl, _, rfl, _, rfl, _, _, rfl, d, s0, ms, n + 1 + 1 + 1, 4096, rfl, rfl, J27.hd, J27.hs, by omega, by omega, by decide, fun r HD r0 r1 eD fD => ?_⟩
      have ID := J27.draw eD fD
      refine ⟨_, _, rfl, rfl, (by show 5 ≤ sizeLine; decide), fun tn htn => ⟨tn, rfl, ⟨_, SqT.of upd_same⟩, ?_⟩⟩
      have IN := ID.same (same_new (o := .tup [.int (-2048), .int 2047, .int (-1), .int 0, .int (r - 2048)]) htn)
      have hN : upd HD tn (.tup [.int (-2048), .int 2047, .int (-1), .int 0, .int (r - 2048)]) tn = some (.tup [.int (-2048), .int 2047, .int (-1), .int 0, .int (r - 2048)]) := upd_same
      have nN := Ne.symm (ne_of_none ID.hP htn)
      generalize upd HD tn (.tup [.int (-2048), .int 2047, .int (-1), .int 0, .int (r - 2048)]) = GN at *
      refine for_tup (a := tn) (xs := [.int (-2048), .int 2047, .int (-1), .int 0, .int (r - 2048)]) (fun i σ H' => ∃ (u1 u11 u12 u13 u14 u15 u16 : Option V) (as : List Addr), σ = [some (.ref d), u1, some (.ref t1), some (.ref t2), some (.ref t3), some (.ref t4), some (.ref t5), some (.int a), some (.int b), some (.int c), some (.ref P), u11, u12, u13, u14, u15, u16] ∧ All6 H H' d s0 P t1 t2 t3 t4 t5 ms (n + 1 + 1 + 1 + 1) as ∧ as.length ≤ 21 + 21 * i ∧ ButL [P] GN H') ⟨_, _, _, _, _, _, _, _, rfl, IN, (by omega), ButL.refl⟩ (fun i σ H' _ q => by obtain ⟨_, _, _, _, _, _, _, _, _, _, _, bB⟩ := q; exact SqT.of (bB _ _ hN (by simpa using nN))) ?_ ?_
      · rintro j x σ YN hx ⟨u1, u11, u12, u13, u14, u15, u16, asN, rfl, JN, hlN, bBN⟩
        have hm : ∃ m : Int, x = .int m ∧ -2048 ≤ m ∧ m ≤ 2047 ∧ j < 5 := by
          match j, hx with
          | 0, hx => injection hx with hx; exact ⟨-2048, hx.symm, by omega, by omega, by omega⟩
          | 1, hx => injection hx with hx; exact ⟨2047, hx.symm, by omega, by omega, by omega⟩
          | 2, hx => injection hx with hx; exact ⟨-1, hx.symm, by omega, by omega, by omega⟩
          | 3, hx => injection hx with hx; exact ⟨0, hx.symm, by omega, by omega, by omega⟩
          | 4, hx => injection hx with hx; exact ⟨(r - 2048), hx.symm, by omega, by omega, by omega⟩
          | j + 5, hx => simp at hx
        obtain ⟨m, rfl, m0, m1, hj⟩ := hm
        obtain ⟨ar53, lr53, rr53⟩ := JN.T2
        have hlr53 := rr53.len
        refine ⟨_, rfl, t2, rfl, ⟨_, SqL.of lr53⟩, ?_⟩
        refine for_list (K := K) (a := t2) (xs := ar53.map V.ref) (fun i σ H' => ∃ (v11_53 v12_53 v13_53 v14_53 v15_53 v16_53 : Option V) (as : List Addr), σ = [some (.ref d), some (.int m), some (.ref t1), some (.ref t2), some (.ref t3), some (.ref t4), some (.ref t5), some (.int a), some (.int b), some (.int c), some (.ref P), v11_53, v12_53, v13_53, v14_53, v15_53, v16_53] ∧ All6 H H' d s0 P t1 t2 t3 t4 t5 ms (n + 1 + 1 + 1 + 1) as ∧ as.length ≤ (21 + 21 * j) + i ∧ ButL [P] YN H') ⟨_, _, _, _, _, _, _, rfl, JN, (by first | omega | simp), ButL.refl⟩ (fun i σ H' _ q => by obtain ⟨_, _, _, _, _, _, _, _, _, _, bB⟩ := q; exact SqL.of (bB _ _ lr53 (by simpa using JN.nP.2.1))) ?_ ?_
        · rintro i x σ Y53 hx ⟨v11_53, v12_53, v13_53, v14_53, v15_53, v16_53, as, rfl, J, hl, bB⟩
          obtain ⟨ra, hra, rfl⟩ := ref_at hx
          have rH : Rows Y53 gN ar53 _ := rr53.keep fun x xs z => bB _ _ z (by
            intro q
            have q : x = P := by simpa using q
            rw [q, JN.hP] at z; cases z)
          obtain ⟨o, ho, hrow⟩ := rH.get i ra hra
          have hi : i < 12 := by have := (List.getElem?_eq_some_iff.mp hra).1; rw [hlr53] at this; exact this
          have hrow : Y53 ra = some (.tup [.str (nm o), .int (pa o), .int (la o)]) := hrow
          obtain ⟨h48, h3⟩ := osN_ok o ho
          have okk : okI (fo o) a c m := by rw [h3]; exact ⟨⟨a0, a1⟩, ⟨c0, c1⟩, m0, m1⟩
          refine ⟨ra, _, rfl, SqT.of hrow, rfl, _, _, rfl, _, _, rfl, _, _, rfl, rfl, ?_⟩
          have sR53 : Same Y53 Y53 := Same.rf
          refine ⟨_, rfl, ty_lst (J.same sR53).hP, ?_⟩
          refine ⟨_, rfl, _, rfl, _, rfl, _, rfl, (by show 4 ≤ sizeLine; decide), fun i54 hi54 => ?_⟩
          have z55 := same_new (H := Y53) (o := .tup [.str (nm o), .int a, .int c, .int m]) hi54
          have s55 := Same.tr sR53 z55
          have e54 : upd Y53 i54 (.tup [.str (nm o), .int a, .int c, .int m]) i54 = some (.tup (insV o (a, c, m))) := upd_same
          generalize upd Y53 i54 (.tup [.str (nm o), .int a, .int c, .int m]) = G55 at *
          refine ⟨_, rfl, _, _, rfl, (la o), 7, rfl, rfl, (by decide), fun H56 p56 q56 n56 l56 => ?_⟩
          have np56 := ne_of_none (Same.tr s55 q56 |> fun _ => (J.same s55).hP) n56
          have nd56 := ne_of_none (J.same s55).hd n56
          have z57 : Same G55 H56 := q56
          have e54 := z57 _ _ e54
          have s57 := Same.tr s55 z57
          refine ⟨_, rfl, _, _, rfl, a, 5, rfl, rfl, (by decide), fun H58 p58 q58 n58 l58 => ?_⟩
          have np58 := ne_of_none (Same.tr s57 q58 |> fun _ => (J.same s57).hP) n58
          have nd58 := ne_of_none (J.same s57).hd n58
          have z59 : Same H56 H58 := q58
          have e54 := z59 _ _ e54
          have l56 := z59 _ _ l56
          have s59 := Same.tr s57 z59
          refine ⟨p56, p58, _, _, rfl, rfl, l56, l58, (by simp only [List.length_append, List.length_map, bits_len]; exact tup_le (by decide)), fun r60 m60 => ?_⟩
          have np60 := ne_of_none (J.same s59).hP m60
          have nd60 := ne_of_none (J.same s59).hd m60
          have z61 := same_new (H := H58) (o := .lst ((bitsL (la o) 7).map V.int ++ (bitsL a 5).map V.int)) m60
          have e54 := z61 _ _ e54
          have s61 := Same.tr s59 z61
          have l60 : upd H58 r60 (.lst ((bitsL (la o) 7).map V.int ++ (bitsL a 5).map V.int)) r60 = some (.lst ((bitsL (la o) 7 ++ bitsL a 5).map V.int)) := by rw [upd_same]; exact congrArg (fun z => some (HO.lst z)) List.map_append.symm
          generalize upd H58 r60 (.lst ((bitsL (la o) 7).map V.int ++ (bitsL a 5).map V.int)) = G61 at *
          refine ⟨_, rfl, _, _, rfl, (pa o), 3, rfl, rfl, (by decide), fun H62 p62 q62 n62 l62 => ?_⟩
          have np62 := ne_of_none (Same.tr s61 q62 |> fun _ => (J.same s61).hP) n62
          have nd62 := ne_of_none (J.same s61).hd n62
          have z63 : Same G61 H62 := q62
          have e54 := z63 _ _ e54
          have l60 := z63 _ _ l60
          have s63 := Same.tr s61 z63
          refine ⟨r60, p62, _, _, rfl, rfl, l60, l62, (by simp only [List.length_append, List.length_map, bits_len]; exact tup_le (by decide)), fun r64 m64 => ?_⟩
          have np64 := ne_of_none (J.same s63).hP m64
          have nd64 := ne_of_none (J.same s63).hd m64
          have z65 := same_new (H := H62) (o := .lst ((bitsL (la o) 7 ++ bitsL a 5).map V.int ++ (bitsL (pa o) 3).map V.int)) m64
          have e54 := z65 _ _ e54
          have s65 := Same.tr s63 z65
          have l64 : upd H62 r64 (.lst ((bitsL (la o) 7 ++ bitsL a 5).map V.int ++ (bitsL (pa o) 3).map V.int)) r64 = some (.lst ((bitsL (la o) 7 ++ bitsL a 5 ++ bitsL (pa o) 3).map V.int)) := by rw [upd_same]; exact congrArg (fun z => some (HO.lst z)) List.map_append.symm
          generalize upd H62 r64 (.lst ((bitsL (la o) 7 ++ bitsL a 5).map V.int ++ (bitsL (pa o) 3).map V.int)) = G65 at *
          refine ⟨_, rfl, _, _, rfl, c, 5, rfl, rfl, (by decide), fun H66 p66 q66 n66 l66 => ?_⟩
          have np66 := ne_of_none (Same.tr s65 q66 |> fun _ => (J.same s65).hP) n66
          have nd66 := ne_of_none (J.same s65).hd n66
          have z67 : Same G65 H66 := q66
          have e54 := z67 _ _ e54
          have l64 := z67 _ _ l64
          have s67 := Same.tr s65 z67
          refine ⟨r64, p66, _, _, rfl, rfl, l64, l66, (by simp only [List.length_append, List.length_map, bits_len]; exact tup_le (by decide)), fun r68 m68 => ?_⟩
          have np68 := ne_of_none (J.same s67).hP m68
          have nd68 := ne_of_none (J.same s67).hd m68
          have z69 := same_new (H := H66) (o := .lst ((bitsL (la o) 7 ++ bitsL a 5 ++ bitsL (pa o) 3).map V.int ++ (bitsL c 5).map V.int)) m68
          have e54 := z69 _ _ e54
          have s69 := Same.tr s67 z69
          have l68 : upd H66 r68 (.lst ((bitsL (la o) 7 ++ bitsL a 5 ++ bitsL (pa o) 3).map V.int ++ (bitsL c 5).map V.int)) r68 = some (.lst ((bitsL (la o) 7 ++ bitsL a 5 ++ bitsL (pa o) 3 ++ bitsL c 5).map V.int)) := by rw [upd_same]; exact congrArg (fun z => some (HO.lst z)) List.map_append.symm
          generalize upd H66 r68 (.lst ((bitsL (la o) 7 ++ bitsL a 5 ++ bitsL (pa o) 3).map V.int ++ (bitsL c 5).map V.int)) = G69 at *
          refine ⟨_, rfl, _, _, rfl, m, 12, rfl, rfl, (by decide), fun H70 p70 q70 n70 l70 => ?_⟩
          have np70 := ne_of_none (Same.tr s69 q70 |> fun _ => (J.same s69).hP) n70
          have nd70 := ne_of_none (J.same s69).hd n70
          have z71 : Same G69 H70 := q70
          have e54 := z71 _ _ e54
          have l68 := z71 _ _ l68
          have s71 := Same.tr s69 z71
          refine ⟨r68, p70, _, _, rfl, rfl, l68, l70, (by simp only [List.length_append, List.length_map, bits_len]; exact tup_le (by decide)), fun r72 m72 => ?_⟩
          have np72 := ne_of_none (J.same s71).hP m72
          have nd72 := ne_of_none (J.same s71).hd m72
          have z73 := same_new (H := H70) (o := .lst ((bitsL (la o) 7 ++ bitsL a 5 ++ bitsL (pa o) 3 ++ bitsL c 5).map V.int ++ (bitsL m 12).map V.int)) m72
          have e54 := z73 _ _ e54
          have s73 := Same.tr s71 z73
          have l72 : upd H70 r72 (.lst ((bitsL (la o) 7 ++ bitsL a 5 ++ bitsL (pa o) 3 ++ bitsL c 5).map V.int ++ (bitsL m 12).map V.int)) r72 = some (.lst ((bitsL (la o) 7 ++ bitsL a 5 ++ bitsL (pa o) 3 ++ bitsL c 5 ++ bitsL m 12).map V.int)) := by rw [upd_same]; exact congrArg (fun z => some (HO.lst z)) List.map_append.symm
          generalize upd H70 r72 (.lst ((bitsL (la o) 7 ++ bitsL a 5 ++ bitsL (pa o) 3 ++ bitsL c 5).map V.int ++ (bitsL m 12).map V.int)) = G73 at *
          refine ⟨(by show 2 ≤ sizeLine; decide), fun t54 ht54 => ?_⟩
          have z74 := same_new (H := G73) (o := .tup [.ref i54, .ref r72]) ht54
          have e54 := z74 _ _ e54
          have l72 := z74 _ _ l72
          have s74 := Same.tr s73 z74
          have et54 : upd G73 t54 (.tup [.ref i54, .ref r72]) t54 = some (.tup [.ref i54, .ref r72]) := upd_same
          generalize upd G73 t54 (.tup [.ref i54, .ref r72]) = G74 at *
          have J54 := J.same s74
          refine ⟨P, _, _, rfl, rfl, J54.hP, (by rw [List.length_map]; exact tup_lt (by omega)), ?_⟩
          have K54 := J54.add (a := t54) ⟨o, (a, c, m), i54, r72, bitsL (la o) 7 ++ bitsL a 5 ++ bitsL (pa o) 3 ++ bitsL c 5 ++ bitsL m 12, h48, okk, et54, e54, l72, (Ne.symm nd72), (Ne.symm np72), (by simp only [List.length_append, bits_len]), app01 (app01 (app01 (app01 (bits_01 _ _) (bits_01 _ _)) (bits_01 _ _)) (bits_01 _ _)) (bits_01 _ _), (b_number h48 h3 okk)⟩
          exact ⟨_, _, _, _, _, _, _, rfl, K54, (by rw [List.length_append]; show as.length + 1 ≤ _; omega), (bB.trans (ButL.same s74)).trans (ButL.put (by simp))⟩
        · rintro σ X53 ⟨v11_53, v12_53, v13_53, v14_53, v15_53, v16_53, as53, rfl, J53, hl53, bB53⟩
          rw [List.length_map, hlr53] at hl53
          have hl53 : as53.length ≤ (21 + 21 * j) + 12 := hl53
          refine ⟨_, rfl, _, _, rfl, m, 12, rfl, rfl, (by decide), fun Hb Lb sb nb lb => ?_⟩
          have Ib := J53.same sb
          have nLb := Ne.symm (ne_of_none J53.hP nb)
          obtain ⟨ar75, lr75, rr75⟩ := Ib.T4
          have hlr75 := rr75.len
          refine ⟨_, rfl, t4, rfl, ⟨_, SqL.of lr75⟩, ?_⟩
          refine for_list (K := K) (a := t4) (xs := ar75.map V.ref) (fun i σ H' => ∃ (v11_75 v12_75 v13_75 v15_75 v16_75 : Option V) (as : List Addr), σ = [some (.ref d), some (.int m), some (.ref t1), some (.ref t2), some (.ref t3), some (.ref t4), some (.ref t5), some (.int a), some (.int b), some (.int c), some (.ref P), v11_75, v12_75, v13_75, some (.ref Lb), v15_75, v16_75] ∧ All6 H H' d s0 P t1 t2 t3 t4 t5 ms (n + 1 + 1 + 1 + 1) as ∧ as.length ≤ (21 + 21 * j + 12) + i ∧ ButL [P] Hb H') ⟨_, _, _, _, _, _, rfl, Ib, (by first | omega | simp), ButL.refl⟩ (fun i σ H' _ q => by obtain ⟨_, _, _, _, _, _, _, _, _, bB⟩ := q; exact SqL.of (bB _ _ lr75 (by simpa using Ib.nP.2.2.2.1))) ?_ ?_
          · rintro i x σ Y75 hx ⟨v11_75, v12_75, v13_75, v15_75, v16_75, as, rfl, J, hl, bB⟩
            obtain ⟨ra, hra, rfl⟩ := ref_at hx
            have rH : Rows Y75 g1 ar75 _ := rr75.keep fun x xs z => bB _ _ z (by
              intro q
              have q : x = P := by simpa using q
              rw [q, Ib.hP] at z; cases z)
            obtain ⟨o, ho, hrow⟩ := rH.get i ra hra
            have hi : i < 3 := by have := (List.getElem?_eq_some_iff.mp hra).1; rw [hlr75] at this; exact this
            have hrow : Y75 ra = some (.tup [.str (nm o), .int (pa o)]) := hrow
            obtain ⟨h48, h3, h35⟩ := osT_ok o ho
            have okk : okI (fo o) c b m := by rw [h3]; exact ⟨⟨c0, c1⟩, ⟨b0, b1⟩, m0, m1⟩
            have lb := bB _ _ lb (by simpa using (nLb))
            refine ⟨ra, _, rfl, SqT.of hrow, rfl, _, _, rfl, _, _, rfl, rfl, ?_⟩
            have sR75 : Same Y75 Y75 := Same.rf
            refine ⟨_, rfl, ty_lst (J.same sR75).hP, ?_⟩
            refine ⟨_, rfl, _, rfl, _, rfl, _, rfl, (by show 4 ≤ sizeLine; decide), fun i76 hi76 => ?_⟩
            have z77 := same_new (H := Y75) (o := .tup [.str (nm o), .int c, .int b, .int m]) hi76
            have lb := z77 _ _ lb
            have s77 := Same.tr sR75 z77
            have e76 : upd Y75 i76 (.tup [.str (nm o), .int c, .int b, .int m]) i76 = some (.tup (insV o (c, b, m))) := upd_same
            generalize upd Y75 i76 (.tup [.str (nm o), .int c, .int b, .int m]) = G77 at *
            refine ⟨_, _, rfl, 35, 7, rfl, rfl, (by decide), fun H78 p78 q78 n78 l78 => ?_⟩
            have np78 := ne_of_none (Same.tr s77 q78 |> fun _ => (J.same s77).hP) n78
            have nd78 := ne_of_none (J.same s77).hd n78
            have z79 : Same G77 H78 := q78
            have lb := z79 _ _ lb
            have e76 := z79 _ _ e76
            have s79 := Same.tr s77 z79
            refine ⟨_, rfl, 5, rfl, Lb, _, rfl, SqL.of lb, fun p80 n80 => ?_⟩
            rw [show cutV ((bitsL m 12).map V.int) none (some 5) = (bitsL m 5).map V.int from cutb0 m 12 5 (some 5) (by decide) (by decide)]
            have np80 := ne_of_none (J.same s79).hP n80
            have nd80 := ne_of_none (J.same s79).hd n80
            have z81 := same_new (H := H78) (o := .lst ((bitsL m 5).map V.int)) n80
            have lb := z81 _ _ lb
            have e76 := z81 _ _ e76
            have l78 := z81 _ _ l78
            have s81 := Same.tr s79 z81
            have l80 : upd H78 p80 (.lst ((bitsL m 5).map V.int)) p80 = some (.lst ((bitsL m 5).map V.int)) := upd_same
            generalize upd H78 p80 (.lst ((bitsL m 5).map V.int)) = G81 at *
            refine ⟨p78, p80, _, _, rfl, rfl, l78, l80, (by simp only [List.length_append, List.length_map, bits_len]; exact tup_le (by decide)), fun r82 m82 => ?_⟩
            have np82 := ne_of_none (J.same s81).hP m82
            have nd82 := ne_of_none (J.same s81).hd m82
            have z83 := same_new (H := G81) (o := .lst ((bitsL 35 7).map V.int ++ (bitsL m 5).map V.int)) m82
            have lb := z83 _ _ lb
            have e76 := z83 _ _ e76
            have s83 := Same.tr s81 z83
            have l82 : upd G81 r82 (.lst ((bitsL 35 7).map V.int ++ (bitsL m 5).map V.int)) r82 = some (.lst ((bitsL 35 7 ++ bitsL m 5).map V.int)) := by rw [upd_same]; exact congrArg (fun z => some (HO.lst z)) List.map_append.symm
            generalize upd G81 r82 (.lst ((bitsL 35 7).map V.int ++ (bitsL m 5).map V.int)) = G83 at *
            refine ⟨_, rfl, _, _, rfl, (pa o), 3, rfl, rfl, (by decide), fun H84 p84 q84 n84 l84 => ?_⟩
            have np84 := ne_of_none (Same.tr s83 q84 |> fun _ => (J.same s83).hP) n84
            have nd84 := ne_of_none (J.same s83).hd n84
            have z85 : Same G83 H84 := q84
            have lb := z85 _ _ lb
            have e76 := z85 _ _ e76
            have l82 := z85 _ _ l82
            have s85 := Same.tr s83 z85
            refine ⟨r82, p84, _, _, rfl, rfl, l82, l84, (by simp only [List.length_append, List.length_map, bits_len]; exact tup_le (by decide)), fun r86 m86 => ?_⟩
            have np86 := ne_of_none (J.same s85).hP m86
            have nd86 := ne_of_none (J.same s85).hd m86
            have z87 := same_new (H := H84) (o := .lst ((bitsL 35 7 ++ bitsL m 5).map V.int ++ (bitsL (pa o) 3).map V.int)) m86
            have lb := z87 _ _ lb
            have e76 := z87 _ _ e76
            have s87 := Same.tr s85 z87
            have l86 : upd H84 r86 (.lst ((bitsL 35 7 ++ bitsL m 5).map V.int ++ (bitsL (pa o) 3).map V.int)) r86 = some (.lst ((bitsL 35 7 ++ bitsL m 5 ++ bitsL (pa o) 3).map V.int)) := by rw [upd_same]; exact congrArg (fun z => some (HO.lst z)) List.map_append.symm
            generalize upd H84 r86 (.lst ((bitsL 35 7 ++ bitsL m 5).map V.int ++ (bitsL (pa o) 3).map V.int)) = G87 at *
            refine ⟨_, rfl, _, _, rfl, c, 5, rfl, rfl, (by decide), fun H88 p88 q88 n88 l88 => ?_⟩
            have np88 := ne_of_none (Same.tr s87 q88 |> fun _ => (J.same s87).hP) n88
            have nd88 := ne_of_none (J.same s87).hd n88
            have z89 : Same G87 H88 := q88
            have lb := z89 _ _ lb
            have e76 := z89 _ _ e76
            have l86 := z89 _ _ l86
            have s89 := Same.tr s87 z89
            refine ⟨r86, p88, _, _, rfl, rfl, l86, l88, (by simp only [List.length_append, List.length_map, bits_len]; exact tup_le (by decide)), fun r90 m90 => ?_⟩
            have np90 := ne_of_none (J.same s89).hP m90
            have nd90 := ne_of_none (J.same s89).hd m90
            have z91 := same_new (H := H88) (o := .lst ((bitsL 35 7 ++ bitsL m 5 ++ bitsL (pa o) 3).map V.int ++ (bitsL c 5).map V.int)) m90
            have lb := z91 _ _ lb
            have e76 := z91 _ _ e76
            have s91 := Same.tr s89 z91
            have l90 : upd H88 r90 (.lst ((bitsL 35 7 ++ bitsL m 5 ++ bitsL (pa o) 3).map V.int ++ (bitsL c 5).map V.int)) r90 = some (.lst ((bitsL 35 7 ++ bitsL m 5 ++ bitsL (pa o) 3 ++ bitsL c 5).map V.int)) := by rw [upd_same]; exact congrArg (fun z => some (HO.lst z)) List.map_append.symm
            generalize upd H88 r90 (.lst ((bitsL 35 7 ++ bitsL m 5 ++ bitsL (pa o) 3).map V.int ++ (bitsL c 5).map V.int)) = G91 at *
            refine ⟨_, rfl, _, _, rfl, b, 5, rfl, rfl, (by decide), fun H92 p92 q92 n92 l92 => ?_⟩
            have np92 := ne_of_none (Same.tr s91 q92 |> fun _ => (J.same s91).hP) n92
            have nd92 := ne_of_none (J.same s91).hd n92
            have z93 : Same G91 H92 := q92
            have lb := z93 _ _ lb
            have e76 := z93 _ _ e76
            have l90 := z93 _ _ l90
            have s93 := Same.tr s91 z93
            refine ⟨r90, p92, _, _, rfl, rfl, l90, l92, (by simp only [List.length_append, List.length_map, bits_len]; exact tup_le (by decide)), fun r94 m94 => ?_⟩
            have np94 := ne_of_none (J.same s93).hP m94
            have nd94 := ne_of_none (J.same s93).hd m94
            have z95 := same_new (H := H92) (o := .lst ((bitsL 35 7 ++ bitsL m 5 ++ bitsL (pa o) 3 ++ bitsL c 5).map V.int ++ (bitsL b 5).map V.int)) m94
            have lb := z95 _ _ lb
            have e76 := z95 _ _ e76
            have s95 := Same.tr s93 z95
            have l94 : upd H92 r94 (.lst ((bitsL 35 7 ++ bitsL m 5 ++ bitsL (pa o) 3 ++ bitsL c 5).map V.int ++ (bitsL b 5).map V.int)) r94 = some (.lst ((bitsL 35 7 ++ bitsL m 5 ++ bitsL (pa o) 3 ++ bitsL c 5 ++ bitsL b 5).map V.int)) := by rw [upd_same]; exact congrArg (fun z => some (HO.lst z)) List.map_append.symm
            generalize upd H92 r94 (.lst ((bitsL 35 7 ++ bitsL m 5 ++ bitsL (pa o) 3 ++ bitsL c 5).map V.int ++ (bitsL b 5).map V.int)) = G95 at *
            refine ⟨_, rfl, 5, rfl, Lb, _, rfl, SqL.of lb, fun p96 n96 => ?_⟩
            rw [show cutV ((bitsL m 12).map V.int) (some 5) none = (bitsL (m / 2 ^ 5) 7).map V.int from cutb m 12 5 12 (some 5) none (by decide) (by decide) (by decide) (by decide)]
            have np96 := ne_of_none (J.same s95).hP n96
            have nd96 := ne_of_none (J.same s95).hd n96
            have z97 := same_new (H := G95) (o := .lst ((bitsL (m / 2 ^ 5) 7).map V.int)) n96
            have lb := z97 _ _ lb
            have e76 := z97 _ _ e76
            have l94 := z97 _ _ l94
            have s97 := Same.tr s95 z97
            have l96 : upd G95 p96 (.lst ((bitsL (m / 2 ^ 5) 7).map V.int)) p96 = some (.lst ((bitsL (m / 2 ^ 5) 7).map V.int)) := upd_same
            generalize upd G95 p96 (.lst ((bitsL (m / 2 ^ 5) 7).map V.int)) = G97 at *
            refine ⟨r94, p96, _, _, rfl, rfl, l94, l96, (by simp only [List.length_append, List.length_map, bits_len]; exact tup_le (by decide)), fun r98 m98 => ?_⟩
            have np98 := ne_of_none (J.same s97).hP m98
            have nd98 := ne_of_none (J.same s97).hd m98
            have z99 := same_new (H := G97) (o := .lst ((bitsL 35 7 ++ bitsL m 5 ++ bitsL (pa o) 3 ++ bitsL c 5 ++ bitsL b 5).map V.int ++ (bitsL (m / 2 ^ 5) 7).map V.int)) m98
            have lb := z99 _ _ lb
            have e76 := z99 _ _ e76
            have s99 := Same.tr s97 z99
            have l98 : upd G97 r98 (.lst ((bitsL 35 7 ++ bitsL m 5 ++ bitsL (pa o) 3 ++ bitsL c 5 ++ bitsL b 5).map V.int ++ (bitsL (m / 2 ^ 5) 7).map V.int)) r98 = some (.lst ((bitsL 35 7 ++ bitsL m 5 ++ bitsL (pa o) 3 ++ bitsL c 5 ++ bitsL b 5 ++ bitsL (m / 2 ^ 5) 7).map V.int)) := by rw [upd_same]; exact congrArg (fun z => some (HO.lst z)) List.map_append.symm
            generalize upd G97 r98 (.lst ((bitsL 35 7 ++ bitsL m 5 ++ bitsL (pa o) 3 ++ bitsL c 5 ++ bitsL b 5).map V.int ++ (bitsL (m / 2 ^ 5) 7).map V.int)) = G99 at *
            refine ⟨(by show 2 ≤ sizeLine; decide), fun t76 ht76 => ?_⟩
            have z100 := same_new (H := G99) (o := .tup [.ref i76, .ref r98]) ht76
            have lb := z100 _ _ lb
            have e76 := z100 _ _ e76
            have l98 := z100 _ _ l98
            have s100 := Same.tr s99 z100
            have et76 : upd G99 t76 (.tup [.ref i76, .ref r98]) t76 = some (.tup [.ref i76, .ref r98]) := upd_same
            generalize upd G99 t76 (.tup [.ref i76, .ref r98]) = G100 at *
            have J76 := J.same s100
            refine ⟨P, _, _, rfl, rfl, J76.hP, (by rw [List.length_map]; exact tup_lt (by omega)), ?_⟩
            have K76 := J76.add (a := t76) ⟨o, (c, b, m), i76, r98, bitsL 35 7 ++ bitsL m 5 ++ bitsL (pa o) 3 ++ bitsL c 5 ++ bitsL b 5 ++ bitsL (m / 2 ^ 5) 7, h48, okk, et76, e76, l98, (Ne.symm nd98), (Ne.symm np98), (by simp only [List.length_append, bits_len]), app01 (app01 (app01 (app01 (app01 (bits_01 _ _) (bits_01 _ _)) (bits_01 _ _)) (bits_01 _ _)) (bits_01 _ _)) (bits_01 _ _), (by have := b_store h48 h3 okk; rw [h35] at this; exact this)⟩
            exact ⟨_, _, _, _, _, _, rfl, K76, (by rw [List.length_append]; show as.length + 1 ≤ _; omega), (bB.trans (ButL.same s100)).trans (ButL.put (by simp))⟩
          · rintro σ X75 ⟨v11_75, v12_75, v13_75, v15_75, v16_75, as75, rfl, J75, hl75, bB75⟩
            rw [List.length_map, hlr75] at hl75
            have hl75 : as75.length ≤ (21 + 21 * j + 12) + 3 := hl75
            refine ⟨_, rfl, _, _, rfl, rfl, Or.inl ⟨by decide, by decide⟩, _, _, rfl, 2 * m, 13, rfl, rfl, (by decide), fun Hf Lf sf nf lf => ?_⟩
            have If := J75.same sf
            have nLf := Ne.symm (ne_of_none J75.hP nf)
            obtain ⟨ar101, lr101, rr101⟩ := If.T5
            have hlr101 := rr101.len
            refine ⟨_, rfl, t5, rfl, ⟨_, SqL.of lr101⟩, ?_⟩
            refine for_list (K := K) (a := t5) (xs := ar101.map V.ref) (fun i σ H' => ∃ (v11_101 v12_101 v13_101 v14_101 v16_101 : Option V) (as : List Addr), σ = [some (.ref d), some (.int m), some (.ref t1), some (.ref t2), some (.ref t3), some (.ref t4), some (.ref t5), some (.int a), some (.int b), some (.int c), some (.ref P), v11_101, v12_101, v13_101, v14_101, some (.ref Lf), v16_101] ∧ All6 H H' d s0 P t1 t2 t3 t4 t5 ms (n + 1 + 1 + 1 + 1) as ∧ as.length ≤ (21 + 21 * j + 12 + 3) + i ∧ ButL [P] Hf H') ⟨_, _, _, _, _, _, rfl, If, (by first | omega | simp), ButL.refl⟩ (fun i σ H' _ q => by obtain ⟨_, _, _, _, _, _, _, _, _, bB⟩ := q; exact SqL.of (bB _ _ lr101 (by simpa using If.nP.2.2.2.2))) ?_ ?_
            · rintro i x σ Y101 hx ⟨v11_101, v12_101, v13_101, v14_101, v16_101, as, rfl, J, hl, bB⟩
              obtain ⟨ra, hra, rfl⟩ := ref_at hx
              have rH : Rows Y101 g1 ar101 _ := rr101.keep fun x xs z => bB _ _ z (by
                intro q
                have q : x = P := by simpa using q
                rw [q, If.hP] at z; cases z)
              obtain ⟨o, ho, hrow⟩ := rH.get i ra hra
              have hi : i < 6 := by have := (List.getElem?_eq_some_iff.mp hra).1; rw [hlr101] at this; exact this
              have hrow : Y101 ra = some (.tup [.str (nm o), .int (pa o)]) := hrow
              obtain ⟨h48, h3, h99⟩ := osB_ok o ho
              have okk : okI (fo o) c a (2 * m) := by rw [h3]; exact ⟨⟨c0, c1⟩, ⟨a0, a1⟩, ⟨by omega, by omega⟩, by omega⟩
              have lf := bB _ _ lf (by simpa using (nLf))
              refine ⟨ra, _, rfl, SqT.of hrow, rfl, _, _, rfl, _, _, rfl, rfl, ?_⟩
              have sR101 : Same Y101 Y101 := Same.rf
              refine ⟨_, rfl, ty_lst (J.same sR101).hP, ?_⟩
              refine ⟨_, rfl, _, rfl, _, rfl, _, rfl, _, _, rfl, rfl, Or.inl ⟨by decide, by decide⟩, (by show 4 ≤ sizeLine; decide), fun i102 hi102 => ?_⟩
              have z103 := same_new (H := Y101) (o := .tup [.str (nm o), .int c, .int a, .int (2 * m)]) hi102
              have lf := z103 _ _ lf
              have s103 := Same.tr sR101 z103
              have e102 : upd Y101 i102 (.tup [.str (nm o), .int c, .int a, .int (2 * m)]) i102 = some (.tup (insV o (c, a, (2 * m)))) := upd_same
              generalize upd Y101 i102 (.tup [.str (nm o), .int c, .int a, .int (2 * m)]) = G103 at *
              refine ⟨_, _, rfl, 99, 7, rfl, rfl, (by decide), fun H104 p104 q104 n104 l104 => ?_⟩
              have np104 := ne_of_none (Same.tr s103 q104 |> fun _ => (J.same s103).hP) n104
              have nd104 := ne_of_none (J.same s103).hd n104
              have z105 : Same G103 H104 := q104
              have lf := z105 _ _ lf
              have e102 := z105 _ _ e102
              have s105 := Same.tr s103 z105
              refine ⟨_, rfl, Lf, _, 11, _, rfl, rfl, SqL.of lf, at_of (j := 11) rfl (bit_at (2 * m) (by decide)), (by show 1 ≤ sizeLine; decide), fun p106 n106 => ?_⟩
              have np106 := ne_of_none (J.same s105).hP n106
              have nd106 := ne_of_none (J.same s105).hd n106
              have z107 := same_new (H := H104) (o := .lst [.int ((2 * m) / 2 ^ 11 % 2)]) n106
              have lf := z107 _ _ lf
              have e102 := z107 _ _ e102
              have l104 := z107 _ _ l104
              have s107 := Same.tr s105 z107
              have l106 : upd H104 p106 (.lst [.int ((2 * m) / 2 ^ 11 % 2)]) p106 = some (.lst ((bitsL ((2 * m) / 2 ^ 11) 1).map V.int)) := by rw [upd_same, bits_one]; rfl
              generalize upd H104 p106 (.lst [.int ((2 * m) / 2 ^ 11 % 2)]) = G107 at *
              refine ⟨p104, p106, _, _, rfl, rfl, l104, l106, (by simp only [List.length_append, List.length_map, bits_len]; exact tup_le (by decide)), fun r108 m108 => ?_⟩
              have np108 := ne_of_none (J.same s107).hP m108
              have nd108 := ne_of_none (J.same s107).hd m108
              have z109 := same_new (H := G107) (o := .lst ((bitsL 99 7).map V.int ++ (bitsL ((2 * m) / 2 ^ 11) 1).map V.int)) m108
              have lf := z109 _ _ lf
              have e102 := z109 _ _ e102
              have s109 := Same.tr s107 z109
              have l108 : upd G107 r108 (.lst ((bitsL 99 7).map V.int ++ (bitsL ((2 * m) / 2 ^ 11) 1).map V.int)) r108 = some (.lst ((bitsL 99 7 ++ bitsL ((2 * m) / 2 ^ 11) 1).map V.int)) := by rw [upd_same]; exact congrArg (fun z => some (HO.lst z)) List.map_append.symm
              generalize upd G107 r108 (.lst ((bitsL 99 7).map V.int ++ (bitsL ((2 * m) / 2 ^ 11) 1).map V.int)) = G109 at *
              refine ⟨_, rfl, 1, rfl, 5, rfl, Lf, _, rfl, SqL.of lf, fun p110 n110 => ?_⟩
              rw [show cutV ((bitsL (2 * m) 13).map V.int) (some 1) (some 5) = (bitsL ((2 * m) / 2 ^ 1) 4).map V.int from cutb (2 * m) 13 1 5 (some 1) (some 5) (by decide) (by decide) (by decide) (by decide)]
              have np110 := ne_of_none (J.same s109).hP n110
              have nd110 := ne_of_none (J.same s109).hd n110
              have z111 := same_new (H := G109) (o := .lst ((bitsL ((2 * m) / 2 ^ 1) 4).map V.int)) n110
              have lf := z111 _ _ lf
              have e102 := z111 _ _ e102
              have l108 := z111 _ _ l108
              have s111 := Same.tr s109 z111
              have l110 : upd G109 p110 (.lst ((bitsL ((2 * m) / 2 ^ 1) 4).map V.int)) p110 = some (.lst ((bitsL ((2 * m) / 2 ^ 1) 4).map V.int)) := upd_same
              generalize upd G109 p110 (.lst ((bitsL ((2 * m) / 2 ^ 1) 4).map V.int)) = G111 at *
              refine ⟨r108, p110, _, _, rfl, rfl, l108, l110, (by simp only [List.length_append, List.length_map, bits_len]; exact tup_le (by decide)), fun r112 m112 => ?_⟩
              have np112 := ne_of_none (J.same s111).hP m112
              have nd112 := ne_of_none (J.same s111).hd m112
              have z113 := same_new (H := G111) (o := .lst ((bitsL 99 7 ++ bitsL ((2 * m) / 2 ^ 11) 1).map V.int ++ (bitsL ((2 * m) / 2 ^ 1) 4).map V.int)) m112
              have lf := z113 _ _ lf
              have e102 := z113 _ _ e102
              have s113 := Same.tr s111 z113
              have l112 : upd G111 r112 (.lst ((bitsL 99 7 ++ bitsL ((2 * m) / 2 ^ 11) 1).map V.int ++ (bitsL ((2 * m) / 2 ^ 1) 4).map V.int)) r112 = some (.lst ((bitsL 99 7 ++ bitsL ((2 * m) / 2 ^ 11) 1 ++ bitsL ((2 * m) / 2 ^ 1) 4).map V.int)) := by rw [upd_same]; exact congrArg (fun z => some (HO.lst z)) List.map_append.symm
              generalize upd G111 r112 (.lst ((bitsL 99 7 ++ bitsL ((2 * m) / 2 ^ 11) 1).map V.int ++ (bitsL ((2 * m) / 2 ^ 1) 4).map V.int)) = G113 at *
              refine ⟨_, rfl, _, _, rfl, (pa o), 3, rfl, rfl, (by decide), fun H114 p114 q114 n114 l114 => ?_⟩
              have np114 := ne_of_none (Same.tr s113 q114 |> fun _ => (J.same s113).hP) n114
              have nd114 := ne_of_none (J.same s113).hd n114
              have z115 : Same G113 H114 := q114
              have lf := z115 _ _ lf
              have e102 := z115 _ _ e102
              have l112 := z115 _ _ l112
              have s115 := Same.tr s113 z115
              refine ⟨r112, p114, _, _, rfl, rfl, l112, l114, (by simp only [List.length_append, List.length_map, bits_len]; exact tup_le (by decide)), fun r116 m116 => ?_⟩
              have np116 := ne_of_none (J.same s115).hP m116
              have nd116 := ne_of_none (J.same s115).hd m116
              have z117 := same_new (H := H114) (o := .lst ((bitsL 99 7 ++ bitsL ((2 * m) / 2 ^ 11) 1 ++ bitsL ((2 * m) / 2 ^ 1) 4).map V.int ++ (bitsL (pa o) 3).map V.int)) m116
              have lf := z117 _ _ lf
              have e102 := z117 _ _ e102
              have s117 := Same.tr s115 z117
              have l116 : upd H114 r116 (.lst ((bitsL 99 7 ++ bitsL ((2 * m) / 2 ^ 11) 1 ++ bitsL ((2 * m) / 2 ^ 1) 4).map V.int ++ (bitsL (pa o) 3).map V.int)) r116 = some (.lst ((bitsL 99 7 ++ bitsL ((2 * m) / 2 ^ 11) 1 ++ bitsL ((2 * m) / 2 ^ 1) 4 ++ bitsL (pa o) 3).map V.int)) := by rw [upd_same]; exact congrArg (fun z => some (HO.lst z)) List.map_append.symm
              generalize upd H114 r116 (.lst ((bitsL 99 7 ++ bitsL ((2 * m) / 2 ^ 11) 1 ++ bitsL ((2 * m) / 2 ^ 1) 4).map V.int ++ (bitsL (pa o) 3).map V.int)) = G117 at *
              refine ⟨_, rfl, _, _, rfl, c, 5, rfl, rfl, (by decide), fun H118 p118 q118 n118 l118 => ?_⟩
              have np118 := ne_of_none (Same.tr s117 q118 |> fun _ => (J.same s117).hP) n118
              have nd118 := ne_of_none (J.same s117).hd n118
              have z119 : Same G117 H118 := q118
              have lf := z119 _ _ lf
              have e102 := z119 _ _ e102
              have l116 := z119 _ _ l116
              have s119 := Same.tr s117 z119
              refine ⟨r116, p118, _, _, rfl, rfl, l116, l118, (by simp only [List.length_append, List.length_map, bits_len]; exact tup_le (by decide)), fun r120 m120 => ?_⟩
              have np120 := ne_of_none (J.same s119).hP m120
              have nd120 := ne_of_none (J.same s119).hd m120
              have z121 := same_new (H := H118) (o := .lst ((bitsL 99 7 ++ bitsL ((2 * m) / 2 ^ 11) 1 ++ bitsL ((2 * m) / 2 ^ 1) 4 ++ bitsL (pa o) 3).map V.int ++ (bitsL c 5).map V.int)) m120
              have lf := z121 _ _ lf
              have e102 := z121 _ _ e102
              have s121 := Same.tr s119 z121
              have l120 : upd H118 r120 (.lst ((bitsL 99 7 ++ bitsL ((2 * m) / 2 ^ 11) 1 ++ bitsL ((2 * m) / 2 ^ 1) 4 ++ bitsL (pa o) 3).map V.int ++ (bitsL c 5).map V.int)) r120 = some (.lst ((bitsL 99 7 ++ bitsL ((2 * m) / 2 ^ 11) 1 ++ bitsL ((2 * m) / 2 ^ 1) 4 ++ bitsL (pa o) 3 ++ bitsL c 5).map V.int)) := by rw [upd_same]; exact congrArg (fun z => some (HO.lst z)) List.map_append.symm
              generalize upd H118 r120 (.lst ((bitsL 99 7 ++ bitsL ((2 * m) / 2 ^ 11) 1 ++ bitsL ((2 * m) / 2 ^ 1) 4 ++ bitsL (pa o) 3).map V.int ++ (bitsL c 5).map V.int)) = G121 at *
              refine ⟨_, rfl, _, _, rfl, a, 5, rfl, rfl, (by decide), fun H122 p122 q122 n122 l122 => ?_⟩
              have np122 := ne_of_none (Same.tr s121 q122 |> fun _ => (J.same s121).hP) n122
              have nd122 := ne_of_none (J.same s121).hd n122
              have z123 : Same G121 H122 := q122
              have lf := z123 _ _ lf
              have e102 := z123 _ _ e102
              have l120 := z123 _ _ l120
              have s123 := Same.tr s121 z123
              refine ⟨r120, p122, _, _, rfl, rfl, l120, l122, (by simp only [List.length_append, List.length_map, bits_len]; exact tup_le (by decide)), fun r124 m124 => ?_⟩
              have np124 := ne_of_none (J.same s123).hP m124
              have nd124 := ne_of_none (J.same s123).hd m124
              have z125 := same_new (H := H122) (o := .lst ((bitsL 99 7 ++ bitsL ((2 * m) / 2 ^ 11) 1 ++ bitsL ((2 * m) / 2 ^ 1) 4 ++ bitsL (pa o) 3 ++ bitsL c 5).map V.int ++ (bitsL a 5).map V.int)) m124
              have lf := z125 _ _ lf
              have e102 := z125 _ _ e102
              have s125 := Same.tr s123 z125
              have l124 : upd H122 r124 (.lst ((bitsL 99 7 ++ bitsL ((2 * m) / 2 ^ 11) 1 ++ bitsL ((2 * m) / 2 ^ 1) 4 ++ bitsL (pa o) 3 ++ bitsL c 5).map V.int ++ (bitsL a 5).map V.int)) r124 = some (.lst ((bitsL 99 7 ++ bitsL ((2 * m) / 2 ^ 11) 1 ++ bitsL ((2 * m) / 2 ^ 1) 4 ++ bitsL (pa o) 3 ++ bitsL c 5 ++ bitsL a 5).map V.int)) := by rw [upd_same]; exact congrArg (fun z => some (HO.lst z)) List.map_append.symm
              generalize upd H122 r124 (.lst ((bitsL 99 7 ++ bitsL ((2 * m) / 2 ^ 11) 1 ++ bitsL ((2 * m) / 2 ^ 1) 4 ++ bitsL (pa o) 3 ++ bitsL c 5).map V.int ++ (bitsL a 5).map V.int)) = G125 at *
              refine ⟨_, rfl, 5, rfl, 11, rfl, Lf, _, rfl, SqL.of lf, fun p126 n126 => ?_⟩
              rw [show cutV ((bitsL (2 * m) 13).map V.int) (some 5) (some 11) = (bitsL ((2 * m) / 2 ^ 5) 6).map V.int from cutb (2 * m) 13 5 11 (some 5) (some 11) (by decide) (by decide) (by decide) (by decide)]
              have np126 := ne_of_none (J.same s125).hP n126
              have nd126 := ne_of_none (J.same s125).hd n126
              have z127 := same_new (H := G125) (o := .lst ((bitsL ((2 * m) / 2 ^ 5) 6).map V.int)) n126
              have lf := z127 _ _ lf
              have e102 := z127 _ _ e102
              have l124 := z127 _ _ l124
              have s127 := Same.tr s125 z127
              have l126 : upd G125 p126 (.lst ((bitsL ((2 * m) / 2 ^ 5) 6).map V.int)) p126 = some (.lst ((bitsL ((2 * m) / 2 ^ 5) 6).map V.int)) := upd_same
              generalize upd G125 p126 (.lst ((bitsL ((2 * m) / 2 ^ 5) 6).map V.int)) = G127 at *
              refine ⟨r124, p126, _, _, rfl, rfl, l124, l126, (by simp only [List.length_append, List.length_map, bits_len]; exact tup_le (by decide)), fun r128 m128 => ?_⟩
              have np128 := ne_of_none (J.same s127).hP m128
              have nd128 := ne_of_none (J.same s127).hd m128
              have z129 := same_new (H := G127) (o := .lst ((bitsL 99 7 ++ bitsL ((2 * m) / 2 ^ 11) 1 ++ bitsL ((2 * m) / 2 ^ 1) 4 ++ bitsL (pa o) 3 ++ bitsL c 5 ++ bitsL a 5).map V.int ++ (bitsL ((2 * m) / 2 ^ 5) 6).map V.int)) m128
              have lf := z129 _ _ lf
              have e102 := z129 _ _ e102
              have s129 := Same.tr s127 z129
              have l128 : upd G127 r128 (.lst ((bitsL 99 7 ++ bitsL ((2 * m) / 2 ^ 11) 1 ++ bitsL ((2 * m) / 2 ^ 1) 4 ++ bitsL (pa o) 3 ++ bitsL c 5 ++ bitsL a 5).map V.int ++ (bitsL ((2 * m) / 2 ^ 5) 6).map V.int)) r128 = some (.lst ((bitsL 99 7 ++ bitsL ((2 * m) / 2 ^ 11) 1 ++ bitsL ((2 * m) / 2 ^ 1) 4 ++ bitsL (pa o) 3 ++ bitsL c 5 ++ bitsL a 5 ++ bitsL ((2 * m) / 2 ^ 5) 6).map V.int)) := by rw [upd_same]; exact congrArg (fun z => some (HO.lst z)) List.map_append.symm
              generalize upd G127 r128 (.lst ((bitsL 99 7 ++ bitsL ((2 * m) / 2 ^ 11) 1 ++ bitsL ((2 * m) / 2 ^ 1) 4 ++ bitsL (pa o) 3 ++ bitsL c 5 ++ bitsL a 5).map V.int ++ (bitsL ((2 * m) / 2 ^ 5) 6).map V.int)) = G129 at *
              refine ⟨_, rfl, Lf, _, 12, _, rfl, rfl, SqL.of lf, at_of (j := 12) rfl (bit_at (2 * m) (by decide)), (by show 1 ≤ sizeLine; decide), fun p130 n130 => ?_⟩
              have np130 := ne_of_none (J.same s129).hP n130
              have nd130 := ne_of_none (J.same s129).hd n130
              have z131 := same_new (H := G129) (o := .lst [.int ((2 * m) / 2 ^ 12 % 2)]) n130
              have lf := z131 _ _ lf
              have e102 := z131 _ _ e102
              have l128 := z131 _ _ l128
              have s131 := Same.tr s129 z131
              have l130 : upd G129 p130 (.lst [.int ((2 * m) / 2 ^ 12 % 2)]) p130 = some (.lst ((bitsL ((2 * m) / 2 ^ 12) 1).map V.int)) := by rw [upd_same, bits_one]; rfl
              generalize upd G129 p130 (.lst [.int ((2 * m) / 2 ^ 12 % 2)]) = G131 at *
              refine ⟨r128, p130, _, _, rfl, rfl, l128, l130, (by simp only [List.length_append, List.length_map, bits_len]; exact tup_le (by decide)), fun r132 m132 => ?_⟩
              have np132 := ne_of_none (J.same s131).hP m132
              have nd132 := ne_of_none (J.same s131).hd m132
              have z133 := same_new (H := G131) (o := .lst ((bitsL 99 7 ++ bitsL ((2 * m) / 2 ^ 11) 1 ++ bitsL ((2 * m) / 2 ^ 1) 4 ++ bitsL (pa o) 3 ++ bitsL c 5 ++ bitsL a 5 ++ bitsL ((2 * m) / 2 ^ 5) 6).map V.int ++ (bitsL ((2 * m) / 2 ^ 12) 1).map V.int)) m132
              have lf := z133 _ _ lf
              have e102 := z133 _ _ e102
              have s133 := Same.tr s131 z133
              have l132 : upd G131 r132 (.lst ((bitsL 99 7 ++ bitsL ((2 * m) / 2 ^ 11) 1 ++ bitsL ((2 * m) / 2 ^ 1) 4 ++ bitsL (pa o) 3 ++ bitsL c 5 ++ bitsL a 5 ++ bitsL ((2 * m) / 2 ^ 5) 6).map V.int ++ (bitsL ((2 * m) / 2 ^ 12) 1).map V.int)) r132 = some (.lst ((bitsL 99 7 ++ bitsL ((2 * m) / 2 ^ 11) 1 ++ bitsL ((2 * m) / 2 ^ 1) 4 ++ bitsL (pa o) 3 ++ bitsL c 5 ++ bitsL a 5 ++ bitsL ((2 * m) / 2 ^ 5) 6 ++ bitsL ((2 * m) / 2 ^ 12) 1).map V.int)) := by rw [upd_same]; exact congrArg (fun z => some (HO.lst z)) List.map_append.symm
              generalize upd G131 r132 (.lst ((bitsL 99 7 ++ bitsL ((2 * m) / 2 ^ 11) 1 ++ bitsL ((2 * m) / 2 ^ 1) 4 ++ bitsL (pa o) 3 ++ bitsL c 5 ++ bitsL a 5 ++ bitsL ((2 * m) / 2 ^ 5) 6).map V.int ++ (bitsL ((2 * m) / 2 ^ 12) 1).map V.int)) = G133 at *
              refine ⟨(by show 2 ≤ sizeLine; decide), fun t102 ht102 => ?_⟩
              have z134 := same_new (H := G133) (o := .tup [.ref i102, .ref r132]) ht102
              have lf := z134 _ _ lf
              have e102 := z134 _ _ e102
              have l132 := z134 _ _ l132
              have s134 := Same.tr s133 z134
              have et102 : upd G133 t102 (.tup [.ref i102, .ref r132]) t102 = some (.tup [.ref i102, .ref r132]) := upd_same
              generalize upd G133 t102 (.tup [.ref i102, .ref r132]) = G134 at *
              have J102 := J.same s134
              refine ⟨P, _, _, rfl, rfl, J102.hP, (by rw [List.length_map]; exact tup_lt (by omega)), ?_⟩
              have K102 := J102.add (a := t102) ⟨o, (c, a, (2 * m)), i102, r132, bitsL 99 7 ++ bitsL ((2 * m) / 2 ^ 11) 1 ++ bitsL ((2 * m) / 2 ^ 1) 4 ++ bitsL (pa o) 3 ++ bitsL c 5 ++ bitsL a 5 ++ bitsL ((2 * m) / 2 ^ 5) 6 ++ bitsL ((2 * m) / 2 ^ 12) 1, h48, okk, et102, e102, l132, (Ne.symm nd132), (Ne.symm np132), (by simp only [List.length_append, bits_len]), app01 (app01 (app01 (app01 (app01 (app01 (app01 (bits_01 _ _) (bits_01 _ _)) (bits_01 _ _)) (bits_01 _ _)) (bits_01 _ _)) (bits_01 _ _)) (bits_01 _ _)) (bits_01 _ _), (by have := b_branch h48 h3 okk; rw [h99] at this; exact this)⟩
              exact ⟨_, _, _, _, _, _, rfl, K102, (by rw [List.length_append]; show as.length + 1 ≤ _; omega), (bB.trans (ButL.same s134)).trans (ButL.put (by simp))⟩
            · rintro σ X101 ⟨v11_101, v12_101, v13_101, v14_101, v16_101, as101, rfl, J101, hl101, bB101⟩
              rw [List.length_map, hlr101] at hl101
              have hl101 : as101.length ≤ (21 + 21 * j + 12 + 3) + 6 := hl101
              exact ⟨_, _, _, _, _, _, _, as101, rfl, J101, (by omega), (((bBN.trans bB53).trans ((ButL.same sb).trans bB75)).trans ((ButL.same sf).trans bB101))⟩
      · rintro σ XU ⟨u1, u11, u12, u13, u14, u15, u16, asU, rfl, JU, hlU, bBU⟩
        have hlU : asU.length ≤ 126 := hlU
        refine ⟨_, rfl, _, _, rfl, d, s0, ms, n + 1 + 1 + 1 + 1, 999983, rfl, rfl, JU.hd, JU.hs, by omega, by omega, by decide, fun y HE y0 y1 eE fE => ?_⟩
        have IE := JU.draw eE fE
        refine ⟨(by show 3 ≤ sizeLine; decide), fun tu htu => ⟨tu, rfl, ⟨_, SqT.of upd_same⟩, ?_⟩⟩
        have IP := IE.same (same_new (o := .tup [.int 0, .int 1048575, .int y]) htu)
        have hU : upd HE tu (.tup [.int 0, .int 1048575, .int y]) tu = some (.tup [.int 0, .int 1048575, .int y]) := upd_same
        have nU := Ne.symm (ne_of_none IE.hP htu)
        generalize upd HE tu (.tup [.int 0, .int 1048575, .int y]) = GU at *
        refine for_tup (a := tu) (xs := [.int 0, .int 1048575, .int y]) (fun i σ H' => ∃ (u1 u11 u12 u13 u14 u15 u16 : Option V) (as : List Addr), σ = [some (.ref d), u1, some (.ref t1), some (.ref t2), some (.ref t3), some (.ref t4), some (.ref t5), some (.int a), some (.int b), some (.int c), some (.ref P), u11, u12, u13, u14, u15, u16] ∧ All6 H H' d s0 P t1 t2 t3 t4 t5 ms (n + 1 + 1 + 1 + 1 + 1) as ∧ as.length ≤ 126 + 2 * i ∧ ButL [P] GU H') ⟨_, _, _, _, _, _, _, _, rfl, IP, (by omega), ButL.refl⟩ (fun i σ H' _ q => by obtain ⟨_, _, _, _, _, _, _, _, _, _, _, bB⟩ := q; exact SqT.of (bB _ _ hU (by simpa using nU))) ?_ ?_
        · rintro j x σ YU hx ⟨u1, u11, u12, u13, u14, u15, u16, as, rfl, J, hl, bB⟩
          have hm : ∃ m : Int, x = .int m ∧ 0 ≤ m ∧ m < 1048576 ∧ j < 3 := by
            match j, hx with
            | 0, hx => injection hx with hx; exact ⟨0, hx.symm, by omega, by omega, by omega⟩
            | 1, hx => injection hx with hx; exact ⟨1048575, hx.symm, by omega, by omega, by omega⟩
            | 2, hx => injection hx with hx; exact ⟨y, hx.symm, by omega, by omega, by omega⟩
            | j + 3, hx => simp at hx
          obtain ⟨m, rfl, m0, m1, hj⟩ := hm
          have okl : okI (fo 42) b m 0 := by rw [fo42]; exact ⟨⟨b0, b1⟩, ⟨m0, m1⟩, rfl⟩
          have oka : okI (fo 43) c m 0 := by rw [fo43]; exact ⟨⟨c0, c1⟩, ⟨m0, m1⟩, rfl⟩
          have sR0 : Same YU YU := Same.rf
          refine ⟨_, rfl, ty_lst (J.same sR0).hP, ?_⟩
          refine ⟨_, rfl, _, rfl, (by show 4 ≤ sizeLine; decide), fun i135 hi135 => ?_⟩
          have z136 := same_new (H := YU) (o := .tup [.str "lui", .int b, .int m, .int 0]) hi135
          have s136 := Same.tr sR0 z136
          have e135 : upd YU i135 (.tup [.str "lui", .int b, .int m, .int 0]) i135 = some (.tup (insV 42 (b, m, 0))) := upd_same
          generalize upd YU i135 (.tup [.str "lui", .int b, .int m, .int 0]) = G136 at *
          refine ⟨_, _, rfl, 55, 7, rfl, rfl, (by decide), fun H137 p137 q137 n137 l137 => ?_⟩
          have np137 := ne_of_none (Same.tr s136 q137 |> fun _ => (J.same s136).hP) n137
          have nd137 := ne_of_none (J.same s136).hd n137
          have z138 : Same G136 H137 := q137
          have e135 := z138 _ _ e135
          have s138 := Same.tr s136 z138
          refine ⟨_, rfl, _, _, rfl, b, 5, rfl, rfl, (by decide), fun H139 p139 q139 n139 l139 => ?_⟩
          have np139 := ne_of_none (Same.tr s138 q139 |> fun _ => (J.same s138).hP) n139
          have nd139 := ne_of_none (J.same s138).hd n139
          have z140 : Same H137 H139 := q139
          have e135 := z140 _ _ e135
          have l137 := z140 _ _ l137
          have s140 := Same.tr s138 z140
          refine ⟨p137, p139, _, _, rfl, rfl, l137, l139, (by simp only [List.length_append, List.length_map, bits_len]; exact tup_le (by decide)), fun r141 m141 => ?_⟩
          have np141 := ne_of_none (J.same s140).hP m141
          have nd141 := ne_of_none (J.same s140).hd m141
          have z142 := same_new (H := H139) (o := .lst ((bitsL 55 7).map V.int ++ (bitsL b 5).map V.int)) m141
          have e135 := z142 _ _ e135
          have s142 := Same.tr s140 z142
          have l141 : upd H139 r141 (.lst ((bitsL 55 7).map V.int ++ (bitsL b 5).map V.int)) r141 = some (.lst ((bitsL 55 7 ++ bitsL b 5).map V.int)) := by rw [upd_same]; exact congrArg (fun z => some (HO.lst z)) List.map_append.symm
          generalize upd H139 r141 (.lst ((bitsL 55 7).map V.int ++ (bitsL b 5).map V.int)) = G142 at *
          refine ⟨_, rfl, _, _, rfl, m, 20, rfl, rfl, (by decide), fun H143 p143 q143 n143 l143 => ?_⟩
          have np143 := ne_of_none (Same.tr s142 q143 |> fun _ => (J.same s142).hP) n143
          have nd143 := ne_of_none (J.same s142).hd n143
          have z144 : Same G142 H143 := q143
          have e135 := z144 _ _ e135
          have l141 := z144 _ _ l141
          have s144 := Same.tr s142 z144
          refine ⟨r141, p143, _, _, rfl, rfl, l141, l143, (by simp only [List.length_append, List.length_map, bits_len]; exact tup_le (by decide)), fun r145 m145 => ?_⟩
          have np145 := ne_of_none (J.same s144).hP m145
          have nd145 := ne_of_none (J.same s144).hd m145
          have z146 := same_new (H := H143) (o := .lst ((bitsL 55 7 ++ bitsL b 5).map V.int ++ (bitsL m 20).map V.int)) m145
          have e135 := z146 _ _ e135
          have s146 := Same.tr s144 z146
          have l145 : upd H143 r145 (.lst ((bitsL 55 7 ++ bitsL b 5).map V.int ++ (bitsL m 20).map V.int)) r145 = some (.lst ((bitsL 55 7 ++ bitsL b 5 ++ bitsL m 20).map V.int)) := by rw [upd_same]; exact congrArg (fun z => some (HO.lst z)) List.map_append.symm
          generalize upd H143 r145 (.lst ((bitsL 55 7 ++ bitsL b 5).map V.int ++ (bitsL m 20).map V.int)) = G146 at *
          refine ⟨(by show 2 ≤ sizeLine; decide), fun t135 ht135 => ?_⟩
          have z147 := same_new (H := G146) (o := .tup [.ref i135, .ref r145]) ht135
          have e135 := z147 _ _ e135
          have l145 := z147 _ _ l145
          have s147 := Same.tr s146 z147
          have et135 : upd G146 t135 (.tup [.ref i135, .ref r145]) t135 = some (.tup [.ref i135, .ref r145]) := upd_same
          generalize upd G146 t135 (.tup [.ref i135, .ref r145]) = G147 at *
          have J135 := J.same s147
          refine ⟨P, _, _, rfl, rfl, J135.hP, (by rw [List.length_map]; exact tup_lt (by omega)), ?_⟩
          have K135 := J135.add (a := t135) ⟨42, (b, m, 0), i135, r145, bitsL 55 7 ++ bitsL b 5 ++ bitsL m 20, (by decide), okl, et135, e135, l145, (Ne.symm nd145), (Ne.symm np145), (by simp only [List.length_append, bits_len]), app01 (app01 (bits_01 _ _) (bits_01 _ _)) (bits_01 _ _), (by have := b_upper (o := 42) (by decide) fo42 okl; exact this)⟩
          have bL := (bB.trans (ButL.same s147)).trans (ButL.put (as := [P]) (H := G147) (a := P) (o := .lst (as.map V.ref ++ [.ref t135])) (by simp))
          generalize upd G147 P (.lst (as.map V.ref ++ [.ref t135])) = GL at *
          have hl2 : (as ++ [t135]).length ≤ 127 + 2 * j := by rw [List.length_append]; show as.length + 1 ≤ _; omega
          generalize as ++ [t135] = as2 at *
          have sR1 : Same GL GL := Same.rf
          refine ⟨_, rfl, ty_lst (K135.same sR1).hP, ?_⟩
          refine ⟨_, rfl, _, rfl, (by show 4 ≤ sizeLine; decide), fun i148 hi148 => ?_⟩
          have z149 := same_new (H := GL) (o := .tup [.str "auipc", .int c, .int m, .int 0]) hi148
          have s149 := Same.tr sR1 z149
          have e148 : upd GL i148 (.tup [.str "auipc", .int c, .int m, .int 0]) i148 = some (.tup (insV 43 (c, m, 0))) := upd_same
          generalize upd GL i148 (.tup [.str "auipc", .int c, .int m, .int 0]) = G149 at *
          refine ⟨_, _, rfl, 23, 7, rfl, rfl, (by decide), fun H150 p150 q150 n150 l150 => ?_⟩
          have np150 := ne_of_none (Same.tr s149 q150 |> fun _ => (K135.same s149).hP) n150
          have nd150 := ne_of_none (K135.same s149).hd n150
          have z151 : Same G149 H150 := q150
          have e148 := z151 _ _ e148
          have s151 := Same.tr s149 z151
          refine ⟨_, rfl, _, _, rfl, c, 5, rfl, rfl, (by decide), fun H152 p152 q152 n152 l152 => ?_⟩
          have np152 := ne_of_none (Same.tr s151 q152 |> fun _ => (K135.same s151).hP) n152
          have nd152 := ne_of_none (K135.same s151).hd n152
          have z153 : Same H150 H152 := q152
          have e148 := z153 _ _ e148
          have l150 := z153 _ _ l150
          have s153 := Same.tr s151 z153
          refine ⟨p150, p152, _, _, rfl, rfl, l150, l152, (by simp only [List.length_append, List.length_map, bits_len]; exact tup_le (by decide)), fun r154 m154 => ?_⟩
          have np154 := ne_of_none (K135.same s153).hP m154
          have nd154 := ne_of_none (K135.same s153).hd m154
          have z155 := same_new (H := H152) (o := .lst ((bitsL 23 7).map V.int ++ (bitsL c 5).map V.int)) m154
          have e148 := z155 _ _ e148
          have s155 := Same.tr s153 z155
          have l154 : upd H152 r154 (.lst ((bitsL 23 7).map V.int ++ (bitsL c 5).map V.int)) r154 = some (.lst ((bitsL 23 7 ++ bitsL c 5).map V.int)) := by rw [upd_same]; exact congrArg (fun z => some (HO.lst z)) List.map_append.symm
          generalize upd H152 r154 (.lst ((bitsL 23 7).map V.int ++ (bitsL c 5).map V.int)) = G155 at *
          refine ⟨_, rfl, _, _, rfl, m, 20, rfl, rfl, (by decide), fun H156 p156 q156 n156 l156 => ?_⟩
          have np156 := ne_of_none (Same.tr s155 q156 |> fun _ => (K135.same s155).hP) n156
          have nd156 := ne_of_none (K135.same s155).hd n156
          have z157 : Same G155 H156 := q156
          have e148 := z157 _ _ e148
          have l154 := z157 _ _ l154
          have s157 := Same.tr s155 z157
          refine ⟨r154, p156, _, _, rfl, rfl, l154, l156, (by simp only [List.length_append, List.length_map, bits_len]; exact tup_le (by decide)), fun r158 m158 => ?_⟩
          have np158 := ne_of_none (K135.same s157).hP m158
          have nd158 := ne_of_none (K135.same s157).hd m158
          have z159 := same_new (H := H156) (o := .lst ((bitsL 23 7 ++ bitsL c 5).map V.int ++ (bitsL m 20).map V.int)) m158
          have e148 := z159 _ _ e148
          have s159 := Same.tr s157 z159
          have l158 : upd H156 r158 (.lst ((bitsL 23 7 ++ bitsL c 5).map V.int ++ (bitsL m 20).map V.int)) r158 = some (.lst ((bitsL 23 7 ++ bitsL c 5 ++ bitsL m 20).map V.int)) := by rw [upd_same]; exact congrArg (fun z => some (HO.lst z)) List.map_append.symm
          generalize upd H156 r158 (.lst ((bitsL 23 7 ++ bitsL c 5).map V.int ++ (bitsL m 20).map V.int)) = G159 at *
          refine ⟨(by show 2 ≤ sizeLine; decide), fun t148 ht148 => ?_⟩
          have z160 := same_new (H := G159) (o := .tup [.ref i148, .ref r158]) ht148
          have e148 := z160 _ _ e148
          have l158 := z160 _ _ l158
          have s160 := Same.tr s159 z160
          have et148 : upd G159 t148 (.tup [.ref i148, .ref r158]) t148 = some (.tup [.ref i148, .ref r158]) := upd_same
          generalize upd G159 t148 (.tup [.ref i148, .ref r158]) = G160 at *
          have J148 := K135.same s160
          refine ⟨P, _, _, rfl, rfl, J148.hP, (by rw [List.length_map]; exact tup_lt (by omega)), ?_⟩
          have K148 := J148.add (a := t148) ⟨43, (c, m, 0), i148, r158, bitsL 23 7 ++ bitsL c 5 ++ bitsL m 20, (by decide), oka, et148, e148, l158, (Ne.symm nd158), (Ne.symm np158), (by simp only [List.length_append, bits_len]), app01 (app01 (bits_01 _ _) (bits_01 _ _)) (bits_01 _ _), (by have := b_upper (o := 43) (by decide) fo43 oka; exact this)⟩
          exact ⟨_, _, _, _, _, _, _, _, rfl, K148, (by rw [List.length_append]; show as2.length + 1 ≤ _; omega), (bL.trans (ButL.same s160)).trans (ButL.put (by simp))⟩
        · rintro σ XJ ⟨u1, u11, u12, u13, u14, u15, u16, asJ, rfl, JJ, hlJ, bBJ⟩
          have hlJ : asJ.length ≤ 132 := hlJ
          refine ⟨_, rfl, _, rfl, _, rfl, _, _, rfl, d, s0, ms, n + 1 + 1 + 1 + 1 + 1, 999983, rfl, rfl, JJ.hd, JJ.hs, by omega, by omega, by decide, fun y2 HF y20 y21 eF fF => ?_⟩
          have IF := JJ.draw eF fF
          refine ⟨_, _, rfl, rfl, _, _, rfl, rfl, Or.inl ⟨by decide, by decide⟩, (by show 5 ≤ sizeLine; decide), fun tj htj => ⟨tj, rfl, ⟨_, SqT.of upd_same⟩, ?_⟩⟩
          have IQ := IF.same (same_new (o := .tup [.int (-1048576), .int 1048574, .int (-2), .int 0, .int (2 * (y2 - 499991))]) htj)
          have hJ : upd HF tj (.tup [.int (-1048576), .int 1048574, .int (-2), .int 0, .int (2 * (y2 - 499991))]) tj = some (.tup [.int (-1048576), .int 1048574, .int (-2), .int 0, .int (2 * (y2 - 499991))]) := upd_same
          have nJ := Ne.symm (ne_of_none IF.hP htj)
          generalize upd HF tj (.tup [.int (-1048576), .int 1048574, .int (-2), .int 0, .int (2 * (y2 - 499991))]) = GJ at *
          refine for_tup (a := tj) (xs := [.int (-1048576), .int 1048574, .int (-2), .int 0, .int (2 * (y2 - 499991))]) (fun i σ H' => ∃ (u1 u11 u12 u13 u14 u15 u16 : Option V) (as : List Addr), σ = [some (.ref d), u1, some (.ref t1), some (.ref t2), some (.ref t3), some (.ref t4), some (.ref t5), some (.int a), some (.int b), some (.int c), some (.ref P), u11, u12, u13, u14, u15, u16] ∧ All6 H H' d s0 P t1 t2 t3 t4 t5 ms (n + 1 + 1 + 1 + 1 + 1 + 1) as ∧ as.length ≤ 132 + i ∧ ButL [P] GJ H') ⟨_, _, _, _, _, _, _, _, rfl, IQ, (by omega), ButL.refl⟩ (fun i σ H' _ q => by obtain ⟨_, _, _, _, _, _, _, _, _, _, _, bB⟩ := q; exact SqT.of (bB _ _ hJ (by simpa using nJ))) ?_ ?_
          · rintro j x σ YJ hx ⟨u1, u11, u12, u13, u14, u15, u16, as, rfl, J, hl, bB⟩
            have hm : ∃ m : Int, x = .int m ∧ (-1048576 ≤ m ∧ m ≤ 1048575) ∧ m % 2 = 0 ∧ j < 5 := by
              match j, hx with
              | 0, hx => injection hx with hx; exact ⟨-1048576, hx.symm, by omega, by omega, by omega⟩
              | 1, hx => injection hx with hx; exact ⟨1048574, hx.symm, by omega, by omega, by omega⟩
              | 2, hx => injection hx with hx; exact ⟨-2, hx.symm, by omega, by omega, by omega⟩
              | 3, hx => injection hx with hx; exact ⟨0, hx.symm, by omega, by omega, by omega⟩
              | 4, hx => injection hx with hx; exact ⟨(2 * (y2 - 499991)), hx.symm, by omega, by omega, by omega⟩
              | j + 5, hx => simp at hx
            obtain ⟨m, rfl, m0, m1, hj⟩ := hm
            have okj : okI (fo 44) a m 0 := by rw [fo44]; exact ⟨⟨a0, a1⟩, ⟨m0, m1⟩, rfl⟩
            refine ⟨_, rfl, _, _, rfl, m, 21, rfl, rfl, (by decide), fun Hf Lf sf nf lf => ?_⟩
            have J := J.same sf
            have bB := bB.trans (ButL.same sf)
            have sR2 : Same Hf Hf := Same.rf
            refine ⟨_, rfl, ty_lst (J.same sR2).hP, ?_⟩
            refine ⟨_, rfl, _, rfl, (by show 4 ≤ sizeLine; decide), fun i161 hi161 => ?_⟩
            have z162 := same_new (H := Hf) (o := .tup [.str "jal", .int a, .int m, .int 0]) hi161
            have lf := z162 _ _ lf
            have s162 := Same.tr sR2 z162
            have e161 : upd Hf i161 (.tup [.str "jal", .int a, .int m, .int 0]) i161 = some (.tup (insV 44 (a, m, 0))) := upd_same
            generalize upd Hf i161 (.tup [.str "jal", .int a, .int m, .int 0]) = G162 at *
            refine ⟨_, _, rfl, 111, 7, rfl, rfl, (by decide), fun H163 p163 q163 n163 l163 => ?_⟩
            have np163 := ne_of_none (Same.tr s162 q163 |> fun _ => (J.same s162).hP) n163
            have nd163 := ne_of_none (J.same s162).hd n163
            have z164 : Same G162 H163 := q163
            have lf := z164 _ _ lf
            have e161 := z164 _ _ e161
            have s164 := Same.tr s162 z164
            refine ⟨_, rfl, _, _, rfl, a, 5, rfl, rfl, (by decide), fun H165 p165 q165 n165 l165 => ?_⟩
            have np165 := ne_of_none (Same.tr s164 q165 |> fun _ => (J.same s164).hP) n165
            have nd165 := ne_of_none (J.same s164).hd n165
            have z166 : Same H163 H165 := q165
            have lf := z166 _ _ lf
            have e161 := z166 _ _ e161
            have l163 := z166 _ _ l163
            have s166 := Same.tr s164 z166
            refine ⟨p163, p165, _, _, rfl, rfl, l163, l165, (by simp only [List.length_append, List.length_map, bits_len]; exact tup_le (by decide)), fun r167 m167 => ?_⟩
            have np167 := ne_of_none (J.same s166).hP m167
            have nd167 := ne_of_none (J.same s166).hd m167
            have z168 := same_new (H := H165) (o := .lst ((bitsL 111 7).map V.int ++ (bitsL a 5).map V.int)) m167
            have lf := z168 _ _ lf
            have e161 := z168 _ _ e161
            have s168 := Same.tr s166 z168
            have l167 : upd H165 r167 (.lst ((bitsL 111 7).map V.int ++ (bitsL a 5).map V.int)) r167 = some (.lst ((bitsL 111 7 ++ bitsL a 5).map V.int)) := by rw [upd_same]; exact congrArg (fun z => some (HO.lst z)) List.map_append.symm
            generalize upd H165 r167 (.lst ((bitsL 111 7).map V.int ++ (bitsL a 5).map V.int)) = G168 at *
            refine ⟨_, rfl, 12, rfl, 20, rfl, Lf, _, rfl, SqL.of lf, fun p169 n169 => ?_⟩
            rw [show cutV ((bitsL m 21).map V.int) (some 12) (some 20) = (bitsL (m / 2 ^ 12) 8).map V.int from cutb m 21 12 20 (some 12) (some 20) (by decide) (by decide) (by decide) (by decide)]
            have np169 := ne_of_none (J.same s168).hP n169
            have nd169 := ne_of_none (J.same s168).hd n169
            have z170 := same_new (H := G168) (o := .lst ((bitsL (m / 2 ^ 12) 8).map V.int)) n169
            have lf := z170 _ _ lf
            have e161 := z170 _ _ e161
            have l167 := z170 _ _ l167
            have s170 := Same.tr s168 z170
            have l169 : upd G168 p169 (.lst ((bitsL (m / 2 ^ 12) 8).map V.int)) p169 = some (.lst ((bitsL (m / 2 ^ 12) 8).map V.int)) := upd_same
            generalize upd G168 p169 (.lst ((bitsL (m / 2 ^ 12) 8).map V.int)) = G170 at *
            refine ⟨r167, p169, _, _, rfl, rfl, l167, l169, (by simp only [List.length_append, List.length_map, bits_len]; exact tup_le (by decide)), fun r171 m171 => ?_⟩
            have np171 := ne_of_none (J.same s170).hP m171
            have nd171 := ne_of_none (J.same s170).hd m171
            have z172 := same_new (H := G170) (o := .lst ((bitsL 111 7 ++ bitsL a 5).map V.int ++ (bitsL (m / 2 ^ 12) 8).map V.int)) m171
            have lf := z172 _ _ lf
            have e161 := z172 _ _ e161
            have s172 := Same.tr s170 z172
            have l171 : upd G170 r171 (.lst ((bitsL 111 7 ++ bitsL a 5).map V.int ++ (bitsL (m / 2 ^ 12) 8).map V.int)) r171 = some (.lst ((bitsL 111 7 ++ bitsL a 5 ++ bitsL (m / 2 ^ 12) 8).map V.int)) := by rw [upd_same]; exact congrArg (fun z => some (HO.lst z)) List.map_append.symm
            generalize upd G170 r171 (.lst ((bitsL 111 7 ++ bitsL a 5).map V.int ++ (bitsL (m / 2 ^ 12) 8).map V.int)) = G172 at *
            refine ⟨_, rfl, Lf, _, 11, _, rfl, rfl, SqL.of lf, at_of (j := 11) rfl (bit_at m (by decide)), (by show 1 ≤ sizeLine; decide), fun p173 n173 => ?_⟩
            have np173 := ne_of_none (J.same s172).hP n173
            have nd173 := ne_of_none (J.same s172).hd n173
            have z174 := same_new (H := G172) (o := .lst [.int (m / 2 ^ 11 % 2)]) n173
            have lf := z174 _ _ lf
            have e161 := z174 _ _ e161
            have l171 := z174 _ _ l171
            have s174 := Same.tr s172 z174
            have l173 : upd G172 p173 (.lst [.int (m / 2 ^ 11 % 2)]) p173 = some (.lst ((bitsL (m / 2 ^ 11) 1).map V.int)) := by rw [upd_same, bits_one]; rfl
            generalize upd G172 p173 (.lst [.int (m / 2 ^ 11 % 2)]) = G174 at *
            refine ⟨r171, p173, _, _, rfl, rfl, l171, l173, (by simp only [List.length_append, List.length_map, bits_len]; exact tup_le (by decide)), fun r175 m175 => ?_⟩
            have np175 := ne_of_none (J.same s174).hP m175
            have nd175 := ne_of_none (J.same s174).hd m175
            have z176 := same_new (H := G174) (o := .lst ((bitsL 111 7 ++ bitsL a 5 ++ bitsL (m / 2 ^ 12) 8).map V.int ++ (bitsL (m / 2 ^ 11) 1).map V.int)) m175
            have lf := z176 _ _ lf
            have e161 := z176 _ _ e161
            have s176 := Same.tr s174 z176
            have l175 : upd G174 r175 (.lst ((bitsL 111 7 ++ bitsL a 5 ++ bitsL (m / 2 ^ 12) 8).map V.int ++ (bitsL (m / 2 ^ 11) 1).map V.int)) r175 = some (.lst ((bitsL 111 7 ++ bitsL a 5 ++ bitsL (m / 2 ^ 12) 8 ++ bitsL (m / 2 ^ 11) 1).map V.int)) := by rw [upd_same]; exact congrArg (fun z => some (HO.lst z)) List.map_append.symm
            generalize upd G174 r175 (.lst ((bitsL 111 7 ++ bitsL a 5 ++ bitsL (m / 2 ^ 12) 8).map V.int ++ (bitsL (m / 2 ^ 11) 1).map V.int)) = G176 at *
            refine ⟨_, rfl, 1, rfl, 11, rfl, Lf, _, rfl, SqL.of lf, fun p177 n177 => ?_⟩
            rw [show cutV ((bitsL m 21).map V.int) (some 1) (some 11) = (bitsL (m / 2 ^ 1) 10).map V.int from cutb m 21 1 11 (some 1) (some 11) (by decide) (by decide) (by decide) (by decide)]
            have np177 := ne_of_none (J.same s176).hP n177
            have nd177 := ne_of_none (J.same s176).hd n177
            have z178 := same_new (H := G176) (o := .lst ((bitsL (m / 2 ^ 1) 10).map V.int)) n177
            have lf := z178 _ _ lf
            have e161 := z178 _ _ e161
            have l175 := z178 _ _ l175
            have s178 := Same.tr s176 z178
            have l177 : upd G176 p177 (.lst ((bitsL (m / 2 ^ 1) 10).map V.int)) p177 = some (.lst ((bitsL (m / 2 ^ 1) 10).map V.int)) := upd_same
            generalize upd G176 p177 (.lst ((bitsL (m / 2 ^ 1) 10).map V.int)) = G178 at *
            refine ⟨r175, p177, _, _, rfl, rfl, l175, l177, (by simp only [List.length_append, List.length_map, bits_len]; exact tup_le (by decide)), fun r179 m179 => ?_⟩
            have np179 := ne_of_none (J.same s178).hP m179
            have nd179 := ne_of_none (J.same s178).hd m179
            have z180 := same_new (H := G178) (o := .lst ((bitsL 111 7 ++ bitsL a 5 ++ bitsL (m / 2 ^ 12) 8 ++ bitsL (m / 2 ^ 11) 1).map V.int ++ (bitsL (m / 2 ^ 1) 10).map V.int)) m179
            have lf := z180 _ _ lf
            have e161 := z180 _ _ e161
            have s180 := Same.tr s178 z180
            have l179 : upd G178 r179 (.lst ((bitsL 111 7 ++ bitsL a 5 ++ bitsL (m / 2 ^ 12) 8 ++ bitsL (m / 2 ^ 11) 1).map V.int ++ (bitsL (m / 2 ^ 1) 10).map V.int)) r179 = some (.lst ((bitsL 111 7 ++ bitsL a 5 ++ bitsL (m / 2 ^ 12) 8 ++ bitsL (m / 2 ^ 11) 1 ++ bitsL (m / 2 ^ 1) 10).map V.int)) := by rw [upd_same]; exact congrArg (fun z => some (HO.lst z)) List.map_append.symm
            generalize upd G178 r179 (.lst ((bitsL 111 7 ++ bitsL a 5 ++ bitsL (m / 2 ^ 12) 8 ++ bitsL (m / 2 ^ 11) 1).map V.int ++ (bitsL (m / 2 ^ 1) 10).map V.int)) = G180 at *
            refine ⟨_, rfl, Lf, _, 20, _, rfl, rfl, SqL.of lf, at_of (j := 20) rfl (bit_at m (by decide)), (by show 1 ≤ sizeLine; decide), fun p181 n181 => ?_⟩
            have np181 := ne_of_none (J.same s180).hP n181
            have nd181 := ne_of_none (J.same s180).hd n181
            have z182 := same_new (H := G180) (o := .lst [.int (m / 2 ^ 20 % 2)]) n181
            have lf := z182 _ _ lf
            have e161 := z182 _ _ e161
            have l179 := z182 _ _ l179
            have s182 := Same.tr s180 z182
            have l181 : upd G180 p181 (.lst [.int (m / 2 ^ 20 % 2)]) p181 = some (.lst ((bitsL (m / 2 ^ 20) 1).map V.int)) := by rw [upd_same, bits_one]; rfl
            generalize upd G180 p181 (.lst [.int (m / 2 ^ 20 % 2)]) = G182 at *
            refine ⟨r179, p181, _, _, rfl, rfl, l179, l181, (by simp only [List.length_append, List.length_map, bits_len]; exact tup_le (by decide)), fun r183 m183 => ?_⟩
            have np183 := ne_of_none (J.same s182).hP m183
            have nd183 := ne_of_none (J.same s182).hd m183
            have z184 := same_new (H := G182) (o := .lst ((bitsL 111 7 ++ bitsL a 5 ++ bitsL (m / 2 ^ 12) 8 ++ bitsL (m / 2 ^ 11) 1 ++ bitsL (m / 2 ^ 1) 10).map V.int ++ (bitsL (m / 2 ^ 20) 1).map V.int)) m183
            have lf := z184 _ _ lf
            have e161 := z184 _ _ e161
            have s184 := Same.tr s182 z184
            have l183 : upd G182 r183 (.lst ((bitsL 111 7 ++ bitsL a 5 ++ bitsL (m / 2 ^ 12) 8 ++ bitsL (m / 2 ^ 11) 1 ++ bitsL (m / 2 ^ 1) 10).map V.int ++ (bitsL (m / 2 ^ 20) 1).map V.int)) r183 = some (.lst ((bitsL 111 7 ++ bitsL a 5 ++ bitsL (m / 2 ^ 12) 8 ++ bitsL (m / 2 ^ 11) 1 ++ bitsL (m / 2 ^ 1) 10 ++ bitsL (m / 2 ^ 20) 1).map V.int)) := by rw [upd_same]; exact congrArg (fun z => some (HO.lst z)) List.map_append.symm
            generalize upd G182 r183 (.lst ((bitsL 111 7 ++ bitsL a 5 ++ bitsL (m / 2 ^ 12) 8 ++ bitsL (m / 2 ^ 11) 1 ++ bitsL (m / 2 ^ 1) 10).map V.int ++ (bitsL (m / 2 ^ 20) 1).map V.int)) = G184 at *
            refine ⟨(by show 2 ≤ sizeLine; decide), fun t161 ht161 => ?_⟩
            have z185 := same_new (H := G184) (o := .tup [.ref i161, .ref r183]) ht161
            have lf := z185 _ _ lf
            have e161 := z185 _ _ e161
            have l183 := z185 _ _ l183
            have s185 := Same.tr s184 z185
            have et161 : upd G184 t161 (.tup [.ref i161, .ref r183]) t161 = some (.tup [.ref i161, .ref r183]) := upd_same
            generalize upd G184 t161 (.tup [.ref i161, .ref r183]) = G185 at *
            have J161 := J.same s185
            refine ⟨P, _, _, rfl, rfl, J161.hP, (by rw [List.length_map]; exact tup_lt (by omega)), ?_⟩
            have K161 := J161.add (a := t161) ⟨44, (a, m, 0), i161, r183, bitsL 111 7 ++ bitsL a 5 ++ bitsL (m / 2 ^ 12) 8 ++ bitsL (m / 2 ^ 11) 1 ++ bitsL (m / 2 ^ 1) 10 ++ bitsL (m / 2 ^ 20) 1, (by decide), okj, et161, e161, l183, (Ne.symm nd183), (Ne.symm np183), (by simp only [List.length_append, bits_len]), app01 (app01 (app01 (app01 (app01 (bits_01 _ _) (bits_01 _ _)) (bits_01 _ _)) (bits_01 _ _)) (bits_01 _ _)) (bits_01 _ _), (by have := b_jump (o := 44) (by decide) fo44 okj; exact this)⟩
            exact ⟨_, _, _, _, _, _, _, _, rfl, K161, (by rw [List.length_append]; show as.length + 1 ≤ _; omega), (bB.trans (ButL.same s185)).trans (ButL.put (by simp))⟩
          · rintro σ XZ ⟨u1, u11, u12, u13, u14, u15, u16, asZ, rfl, JZ, hlZ, bBZ⟩
            have hlZ : asZ.length ≤ 137 := hlZ
            refine ⟨_, rfl, ?_⟩
            have gZ : ∀ a ∈ asZ, GoodF XZ a := fun a h => (JZ.good a h).f
            have pZ := JZ.hP
            refine ⟨(by show 4 ≤ sizeLine; decide), fun x0 hx0 => ?_⟩
            have zz := same_new (H := XZ) (o := .tup [.str "ecall", .int 0, .int 0, .int 0]) hx0
            have pZ := zz _ _ pZ
            have gZ := fun a h => (gZ a h).same zz
            have ex0 : upd XZ x0 (.tup [.str "ecall", .int 0, .int 0, .int 0]) x0 = some (.tup (insV 45 (0, 0, 0))) := upd_same
            generalize upd XZ x0 (.tup [.str "ecall", .int 0, .int 0, .int 0]) = W0 at *
            clear zz
            refine ⟨_, _, rfl, 115, 32, rfl, rfl, (by decide), fun V0 l0 sv0 nv0 ev0 => ?_⟩
            have zz := sv0
            have pZ := zz _ _ pZ
            have gZ := fun a h => (gZ a h).same zz
            have ex0 := zz _ _ ex0
            clear zz
            refine ⟨(by show 2 ≤ sizeLine; decide), fun t0' ht0 => ?_⟩
            have zz := same_new (H := V0) (o := .tup [.ref x0, .ref l0]) ht0
            have pZ := zz _ _ pZ
            have gZ := fun a h => (gZ a h).same zz
            have ex0 := zz _ _ ex0
            have ev0 := zz _ _ ev0
            have gg0 : GoodF (upd V0 t0' (.tup [.ref x0, .ref l0])) t0' := ⟨45, (0, 0, 0), x0, l0, bitsL 115 32, by decide, (by rw [fo45]; exact ⟨rfl, rfl, rfl⟩), upd_same, ex0, ev0, bits_len _ _, bits_01 _ _, w45⟩
            generalize upd V0 t0' (.tup [.ref x0, .ref l0]) = U0 at *
            clear zz
            refine ⟨(by show 4 ≤ sizeLine; decide), fun x1 hx1 => ?_⟩
            have zz := same_new (H := U0) (o := .tup [.str "ebreak", .int 0, .int 0, .int 0]) hx1
            have pZ := zz _ _ pZ
            have gZ := fun a h => (gZ a h).same zz
            have ex0 := zz _ _ ex0
            have ev0 := zz _ _ ev0
            have gg0 := gg0.same zz
            have ex1 : upd U0 x1 (.tup [.str "ebreak", .int 0, .int 0, .int 0]) x1 = some (.tup (insV 46 (0, 0, 0))) := upd_same
            generalize upd U0 x1 (.tup [.str "ebreak", .int 0, .int 0, .int 0]) = W1 at *
            clear zz
            refine ⟨_, _, rfl, 1048691, 32, rfl, rfl, (by decide), fun V1 l1 sv1 nv1 ev1 => ?_⟩
            have zz := sv1
            have pZ := zz _ _ pZ
            have gZ := fun a h => (gZ a h).same zz
            have ex0 := zz _ _ ex0
            have ev0 := zz _ _ ev0
            have ex1 := zz _ _ ex1
            have gg0 := gg0.same zz
            clear zz
            refine ⟨(by show 2 ≤ sizeLine; decide), fun t1' ht1 => ?_⟩
            have zz := same_new (H := V1) (o := .tup [.ref x1, .ref l1]) ht1
            have pZ := zz _ _ pZ
            have gZ := fun a h => (gZ a h).same zz
            have ex0 := zz _ _ ex0
            have ev0 := zz _ _ ev0
            have ex1 := zz _ _ ex1
            have ev1 := zz _ _ ev1
            have gg0 := gg0.same zz
            have gg1 : GoodF (upd V1 t1' (.tup [.ref x1, .ref l1])) t1' := ⟨46, (0, 0, 0), x1, l1, bitsL 1048691 32, by decide, (by rw [fo46]; exact ⟨rfl, rfl, rfl⟩), upd_same, ex1, ev1, bits_len _ _, bits_01 _ _, w46⟩
            generalize upd V1 t1' (.tup [.ref x1, .ref l1]) = U1 at *
            clear zz
            refine ⟨(by show 4 ≤ sizeLine; decide), fun x2 hx2 => ?_⟩
            have zz := same_new (H := U1) (o := .tup [.str "fence", .int 0, .int 0, .int 0]) hx2
            have pZ := zz _ _ pZ
            have gZ := fun a h => (gZ a h).same zz
            have ex0 := zz _ _ ex0
            have ev0 := zz _ _ ev0
            have ex1 := zz _ _ ex1
            have ev1 := zz _ _ ev1
            have gg0 := gg0.same zz
            have gg1 := gg1.same zz
            have ex2 : upd U1 x2 (.tup [.str "fence", .int 0, .int 0, .int 0]) x2 = some (.tup (insV 47 (0, 0, 0))) := upd_same
            generalize upd U1 x2 (.tup [.str "fence", .int 0, .int 0, .int 0]) = W2 at *
            clear zz
            refine ⟨_, _, rfl, 267386895, 32, rfl, rfl, (by decide), fun V2 l2 sv2 nv2 ev2 => ?_⟩
            have zz := sv2
            have pZ := zz _ _ pZ
            have gZ := fun a h => (gZ a h).same zz
            have ex0 := zz _ _ ex0
            have ev0 := zz _ _ ev0
            have ex1 := zz _ _ ex1
            have ev1 := zz _ _ ev1
            have ex2 := zz _ _ ex2
            have gg0 := gg0.same zz
            have gg1 := gg1.same zz
            clear zz
            refine ⟨(by show 2 ≤ sizeLine; decide), fun t2' ht2 => ?_⟩
            have zz := same_new (H := V2) (o := .tup [.ref x2, .ref l2]) ht2
            have pZ := zz _ _ pZ
            have gZ := fun a h => (gZ a h).same zz
            have ex0 := zz _ _ ex0
            have ev0 := zz _ _ ev0
            have ex1 := zz _ _ ex1
            have ev1 := zz _ _ ev1
            have ex2 := zz _ _ ex2
            have ev2 := zz _ _ ev2
            have gg0 := gg0.same zz
            have gg1 := gg1.same zz
            have gg2 : GoodF (upd V2 t2' (.tup [.ref x2, .ref l2])) t2' := ⟨47, (0, 0, 0), x2, l2, bitsL 267386895 32, by decide, (by rw [fo47]; exact ⟨rfl, rfl, rfl⟩), upd_same, ex2, ev2, bits_len _ _, bits_01 _ _, w47⟩
            generalize upd V2 t2' (.tup [.ref x2, .ref l2]) = U2 at *
            clear zz
            refine ⟨(by show 3 ≤ sizeLine; decide), fun lz hlz => ?_⟩
            have zz := same_new (H := U2) (o := .lst [.ref t0', .ref t1', .ref t2']) hlz
            have pZ := zz _ _ pZ
            have gZ := fun a h => (gZ a h).same zz
            have gg0 := gg0.same zz
            have gg1 := gg1.same zz
            have gg2 := gg2.same zz
            have ez : upd U2 lz (.lst [.ref t0', .ref t1', .ref t2']) lz = some (.lst [.ref t0', .ref t1', .ref t2']) := upd_same
            generalize upd U2 lz (.lst [.ref t0', .ref t1', .ref t2']) = UZ at *
            clear zz
            refine ⟨P, lz, _, _, rfl, rfl, pZ, ez, (by rw [List.length_map]; show asZ.length + 3 ≤ _; exact tup_le (by omega)), fun R hR => ?_⟩
            refine h _ R (asZ ++ [t0', t1', t2']) (by rw [upd_same, List.map_append]; rfl) (by rw [List.length_append]; show asZ.length + 3 ≤ _; omega) fun a ha => ?_
            rcases List.mem_append.mp ha with m | m
            · exact (gZ a m).same (same_new hR)
            · simp only [List.mem_cons, List.not_mem_nil, or_false] at m
              rcases m with e | e | e
              · rw [e]; exact gg0.same (same_new hR)
              · rw [e]; exact gg1.same (same_new hR)
              · rw [e]; exact gg2.same (same_new hR)
end
end K66

namespace K66
open PySem PyProof.Rows L2 My Ru I6
open Builtin (bitAnd bitOr)
/-! comparing data -/
theorem strOk_of {x : Str} (h : ∀ c ∈ TL.tl x, c < 128) : PyData.strOk x = true := by
  unfold PyData.strOk
  rw [Array.all_eq_true_iff_forall_mem]
  intro c hc
  have := h c (Array.mem_toList_iff.mpr hc)
  exact decide_eq_true (by omega)
theorem nm_ok {o : Nat} (h : o < 48) : PyData.canLay0 (.str (nm o)) = true := by
  show PyData.strOk (nm o) = true
  exact strOk_of fun c hc => by have := nm_low o h c hc; omega
def insD (o : Nat) (q : Int × Int × Int) : PyData := .tuple [.str (nm o), .int q.1, .int q.2.1, .int q.2.2]
theorem dp_ins {K : PySem.W.Frag} {H : Hp} {t : Addr} {o : Nat} {q : Int × Int × Int} (h : H t = some (.tup (insV o q))) : Dp K H (.ref t) (insD o q) :=
  Dp.tup (SqT.of h) (.cons (.str _) (.cons (.int _) (.cons (.int _) (.cons (.int _) .nil))))
theorem insD_same (o : Nat) (q : Int × Int × Int) : PyData.eqv (insD o q) (insD o q) = true := by
  simp [insD, PyData.eqv, PyData.eqvAll]
theorem insD_ok {o : Nat} (h : o < 48) (q : Int × Int × Int) : SeqAt.shaped (insD o q) = true := by
  have h1 := nm_ok h
  unfold SeqAt.shaped insD
  simp [PyData.canLay0, PyData.canLayAll0, PyData.depth, PyData.depthAll] at *
  exact h1
/-! what is refused -/
def wV (w : Str × Int × Int × Int) : List V := [.str w.1, .int w.2.1, .int w.2.2.1, .int w.2.2.2]
def wD (w : Str × Int × Int × Int) : PyData := .tuple [.str w.1, .int w.2.1, .int w.2.2.1, .int w.2.2.2]
def wBad (w : Str × Int × Int × Int) : Bool := (insM (.str w.1) (some w.2.1) (some w.2.2.1) (some w.2.2.2)).isNone && PyData.strOk w.1
theorem dp_w {K : PySem.W.Frag} {H : Hp} {t : Addr} {w : Str × Int × Int × Int} (h : H t = some (.tup (wV w))) : Dp K H (.ref t) (wD w) :=
  Dp.tup (SqT.of h) (.cons (.str _) (.cons (.int _) (.cons (.int _) (.cons (.int _) .nil))))
theorem wD_same (w : Str × Int × Int × Int) : PyData.eqv (wD w) (wD w) = true := by
  simp [wD, PyData.eqv, PyData.eqvAll]
theorem wD_ok {w : Str × Int × Int × Int} (h : PyData.strOk w.1 = true) : SeqAt.shaped (wD w) = true := by
  have h1 : PyData.canLay0 (.str w.1) = true := h
  unfold SeqAt.shaped wD
  simp [PyData.canLay0, PyData.canLayAll0, PyData.depth, PyData.depthAll] at *
  exact h1
def sp__law_refused (K : PySem.W.Frag) : Sp := sp1 fun x H Q _ => ∃ (p : Addr) (w : Str × Int × Int × Int), x = .ref p ∧ H p = some (.tup (wV w)) ∧ wBad w = true ∧ ∀ H', Same H H' → Q (.bl true) H'
def sp_law (K : PySem.W.Frag) : Sp := sp1 fun x H Q _ => ∃ (l : Addr) (ns : List Int), x = .ref l ∧ SqL K H l (ns.map V.int) ∧ ∀ H' : Hp, Q (.bl true) H'
def RW (H : Hp) : List Addr → List (Str × Int × Int × Int) → Prop
  | [], [] => True
  | a :: as, w :: ws => H a = some (.tup (wV w)) ∧ RW H as ws
  | _, _ => False
theorem RW.same {H H' : Hp} (s : Same H H') : ∀ {as : List Addr} {ws : List (Str × Int × Int × Int)}, RW H as ws → RW H' as ws
  | [], [], _ => trivial
  | _ :: _, _ :: _, h => ⟨s _ _ h.1, RW.same s h.2⟩
  | [], _ :: _, h => h.elim
  | _ :: _, [], h => h.elim
theorem RW.app {H : Hp} : ∀ {as : List Addr} {ws : List (Str × Int × Int × Int)} {bs : List Addr} {vs : List (Str × Int × Int × Int)}, RW H as ws → RW H bs vs → RW H (as ++ bs) (ws ++ vs)
  | [], [], _, _, _, h => h
  | _ :: _, _ :: _, _, _, h, k => ⟨h.1, RW.app h.2 k⟩
  | [], _ :: _, _, _, h, _ => h.elim
  | _ :: _, [], _, _, h, _ => h.elim
theorem RW.new {H : Hp} {as : List Addr} {ws : List (Str × Int × Int × Int)} {a : Addr} {xs : List V} (w : Str × Int × Int × Int) (r : RW H as ws) (h : H a = none) (e : xs = wV w := by rfl) : RW (upd H a (.tup xs)) (as ++ [a]) (ws ++ [w]) :=
  RW.app (r.same (same_new h)) ⟨by rw [upd_same, e], trivial⟩
theorem RW.get {H : Hp} : ∀ {as : List Addr} {ws : List (Str × Int × Int × Int)}, RW H as ws → ∀ (i : Nat) (a : Addr), as[i]? = some a → ∃ w, w ∈ ws ∧ H a = some (.tup (wV w))
  | [], [], _, i, a, e => by simp at e
  | b :: as, o :: os, h, 0, a, e => by
    injection e with e
    subst e
    exact ⟨o, List.mem_cons_self, h.1⟩
  | b :: as, o :: os, h, i + 1, a, e => by
    obtain ⟨q, m, k⟩ := RW.get h.2 i a e
    exact ⟨q, List.mem_cons_of_mem _ m, k⟩
  | [], _ :: _, h, _, _, _ => h.elim
  | _ :: _, [], h, _, _, _ => h.elim
theorem cut63 (ns : List Int) : ∃ ms : List Int, cutV (ns.map V.int) none (some 63) = ms.map V.int := cut_ints ns none (some 63)
def ws1 : List (Str × Int × Int × Int) := [("add", 32, 0, 0), ("add", 0, -1, 0), ("addi", 1, 2, 2048), ("addi", 1, 2, -2049), ("slli", 1, 2, 32), ("srai", 1, 2, -1), ("lw", 1, 32, 0), ("sw", 1, 2, 2048)]
def ws2 : List (Str × Int × Int × Int) := [("beq", 1, 2, 4096), ("beq", 1, 2, 3), ("bne", 1, 2, -4098), ("lui", 1, 1048576, 0), ("lui", 1, -1, 0), ("lui", 1, 5, 1), ("jal", 1, 1048576, 0), ("jal", 1, 3, 0)]
def ws3 : List (Str × Int × Int × Int) := [("jal", 1, 4, 4), ("ecall", 1, 0, 0), ("ebreak", 0, 0, 1), ("nop", 0, 0, 0), ("", 0, 0, 0), ("jalr", 1, 2, 4000), ("kind", 1, 1, 1)]
theorem ws_bad : ∀ w ∈ ws1 ++ ws2 ++ ws3, wBad w = true := by decide +kernel
section
variable {P : Program} {w : World} {K : PySem.W.Frag} {mg : Str → Option Value} {base : Heap}
theorem sc__law_refused : FnScope ["told", "e"] ["told"] (defScope s__law_refused) := ⟨rfl, rfl, rfl, by decide +kernel, rfl, by decide +kernel, by decide +kernel⟩
theorem g__law_refused (T : Txt K mg w) (G_encode : Gd P w K mg base (L2.CX P w) 4 "encode" ["instruction"] (sp_encode K)) : Gd P w K mg base CX0 5 "_law_refused" ["told"] (sp__law_refused K) := by
  have sc := sc__law_refused
  refine T.d__law_refused.ok sc len1 (fun _ _ _ _ _ _ us hl => match us, hl with | [_], _ => rfl) (fun f cdv A outer s H vs Q E hr h => ?_)
  obtain ⟨x0, rfl, h⟩ := h
  obtain ⟨p, w0, rfl, hp, hb, h⟩ := h
  refine ⟨_, (pss_one (ps_try_as (i := 1) (c := .ref (CF K)) (tb := fun W => tSeq (tDrop (tCallS (sp_encode K) (WE W) (tCons (tVar 0) tNil))) (tRet (tC (.bl false)))) (ts := fun a cls d => tRet (tOp (rEqD K) (tFldBf (CF K) "thing" a cls d (tVar 1)) (tVar 0))) (Wout := fun _ _ _ _ => False) rfl rfl sc.nd rfl rfl ⟨rfl, by decide, Or.inl T.bf.gC⟩ takes0
     (fun W pn xe tk _ => pss_cons (ps_expr (by exact (pe_gS G_encode hr (fun σ => passAt tk σ) (by exact (pa_cons (pv 0) pa_nil))))) (pss_one (ps_ret pe_bl)))
     (fun a oe cls d pn hz hf => pss_one (ps_ret (by exact (pe_cmpR (op_eqD hr.units) (pe_fldBf T.bf T.bf.noT hz hf (pv 1)) (pv 0) (nomark _))))))), ?_⟩
  obtain ⟨hb1, hb2⟩ := Bool.and_eq_true_iff.mp hb
  have hn : insM (.str w0.1) (some w0.2.1) (some w0.2.2.1) (some w0.2.2.2) = none := by simpa using hb1
  refine ⟨_, rfl, _, rfl, p, .str w0.1, some w0.2.1, some w0.2.2.1, some w0.2.2.2, rfl, hp, Or.inr ⟨_, rfl⟩, (fun o hi => by rw [hn] at hi; cases hi), fun _ H2 d s2 hd => ?_⟩
  refine ⟨true, T.bf.te, fun _ a0 ha0 => ?_, fun q => Bool.noConfusion q⟩
  have s3 := Same.tr s2 (same_new (o := .xd (bfFs (.ref p))) hd)
  refine ⟨_, rfl, rfl, rfl, d, _, _, rfl, upd_same, bf_thing _, _, rfl, wD w0, wD w0, dp_w (s3 _ _ hp), dp_w (s3 _ _ hp), wD_ok hb2, wD_ok hb2, ?_⟩
  rw [wD_same]
  exact h _ s3
theorem sc_law : FnScope ["script", "draw", "wrong", "told", "bits"] ["script"] (defScope s_law) := ⟨rfl, rfl, rfl, by decide +kernel, rfl, by decide +kernel, by decide +kernel⟩
theorem g_law (T : Txt K mg w) (G__law_all : Gd P w K mg base CX0 4 "_law_all" ["draw"] (sp__law_all K)) (G_encode : Gd P w K mg base (L2.CX P w) 4 "encode" ["instruction"] (sp_encode K)) (G__law_sum : Gd P w K mg base CX0 1 "_law_sum" ["bits"] (sp__law_sum K)) (G_decode : Gd P w K mg base CX0 3 "decode" ["word"] (sp_decode K)) (G_instruction_by : Gd P w K mg base (L2.CX P w) 6 "instruction_by" ["text"] (sp_instruction_by K)) (G_instruction_text : Gd P w K mg base (L2.CX P w) 5 "instruction_text" ["instruction"] (sp_instruction_text K)) (G__law_refused : Gd P w K mg base CX0 5 "_law_refused" ["told"] (sp__law_refused K)) : Gd P w K mg base CX0 7 "law" ["script"] (sp_law K) := by
  have sc := sc_law
  refine T.d_law.ok sc len1 (fun _ _ _ _ _ _ us hl => match us, hl with | [_], _ => rfl) (fun f cdv A outer s H vs Q E hr h => ?_)
  obtain ⟨x0, rfl, h⟩ := h
  obtain ⟨sl, ns, rfl, hS, h⟩ := h
  refine ⟨_, (pss_cons (ps_set (i := 1) sc.nd rfl (Or.inl rfl) (pe_lst (pa_cons (pe_slice sl_list (pv 0) po_none (po_some pe_int)) (pa_cons pe_int (pa_cons pe_int pa_nil)))))
      (pss_cons (ps_for PassesOwn.never rfl (pi_list (pe_g G__law_all (hr.mono (by omega)) pass0 (pa_cons (pv 1) pa_nil))) (pg_tup rfl (pgs_cons (pg_name (i := 3) sc.nd rfl (Or.inl rfl)) (pgs_cons (pg_name (i := 4) sc.nd rfl (Or.inl rfl)) pgs_nil))) (pss_one (ps_if (PW.pt (pw_or (pt_cmpR op_ne (pe_callB call_len_seq (by rfl) T.n_len PySem.boot_len (pa_cons (pv 4) pa_nil)) pe_int (nomark _)) (pw_or (pt_cmpR op_ne (pe_g G_encode (hr.mono (by omega)) passF (pa_cons (pv 3) pa_nil)) (pe_g G__law_sum (hr.mono (by omega)) pass0 (pa_cons (pv 4) pa_nil)) (nomark _)) (pw_or (pt_cmpR (op_neD hr.units) (pe_g G_decode (hr.mono (by omega)) pass0 (pa_cons (pe_g G__law_sum (hr.mono (by omega)) pass0 (pa_cons (pv 4) pa_nil)) pa_nil)) (pv 3) (nomark _)) (pw_or1 (pt_cmpR (op_neD hr.units) (pe_g G_instruction_by (hr.mono (by omega)) passF (pa_cons (pe_g G_instruction_text (hr.mono (by omega)) passF (pa_cons (pv 3) pa_nil)) pa_nil)) (pv 3) (nomark _))))))) (pss_one (ps_ret pe_bl)) pss_nil)))
      (pss_cons (ps_set (i := 2) sc.nd rfl (Or.inl rfl) (pe_lst (pa_cons (pe_tup (pa_cons pe_str (pa_cons pe_int (pa_cons pe_int (pa_cons pe_int pa_nil))))) (pa_cons (pe_tup (pa_cons pe_str (pa_cons pe_int (pa_cons (pe_un un_neg pe_int) (pa_cons pe_int pa_nil))))) (pa_cons (pe_tup (pa_cons pe_str (pa_cons pe_int (pa_cons pe_int (pa_cons pe_int pa_nil))))) (pa_cons (pe_tup (pa_cons pe_str (pa_cons pe_int (pa_cons pe_int (pa_cons (pe_un un_neg pe_int) pa_nil))))) (pa_cons (pe_tup (pa_cons pe_str (pa_cons pe_int (pa_cons pe_int (pa_cons pe_int pa_nil))))) (pa_cons (pe_tup (pa_cons pe_str (pa_cons pe_int (pa_cons pe_int (pa_cons (pe_un un_neg pe_int) pa_nil))))) (pa_cons (pe_tup (pa_cons pe_str (pa_cons pe_int (pa_cons pe_int (pa_cons pe_int pa_nil))))) (pa_cons (pe_tup (pa_cons pe_str (pa_cons pe_int (pa_cons pe_int (pa_cons pe_int pa_nil))))) pa_nil))))))))))
      (pss_cons (ps_set (i := 2) sc.nd rfl (Or.inl rfl) (pe_op op_cat (pv 2) (pe_lst (pa_cons (pe_tup (pa_cons pe_str (pa_cons pe_int (pa_cons pe_int (pa_cons pe_int pa_nil))))) (pa_cons (pe_tup (pa_cons pe_str (pa_cons pe_int (pa_cons pe_int (pa_cons pe_int pa_nil))))) (pa_cons (pe_tup (pa_cons pe_str (pa_cons pe_int (pa_cons pe_int (pa_cons (pe_un un_neg pe_int) pa_nil))))) (pa_cons (pe_tup (pa_cons pe_str (pa_cons pe_int (pa_cons pe_int (pa_cons pe_int pa_nil))))) (pa_cons (pe_tup (pa_cons pe_str (pa_cons pe_int (pa_cons (pe_un un_neg pe_int) (pa_cons pe_int pa_nil))))) (pa_cons (pe_tup (pa_cons pe_str (pa_cons pe_int (pa_cons pe_int (pa_cons pe_int pa_nil))))) (pa_cons (pe_tup (pa_cons pe_str (pa_cons pe_int (pa_cons pe_int (pa_cons pe_int pa_nil))))) (pa_cons (pe_tup (pa_cons pe_str (pa_cons pe_int (pa_cons pe_int (pa_cons pe_int pa_nil))))) pa_nil)))))))))))
      (pss_cons (ps_set (i := 2) sc.nd rfl (Or.inl rfl) (pe_op op_cat (pv 2) (pe_lst (pa_cons (pe_tup (pa_cons pe_str (pa_cons pe_int (pa_cons pe_int (pa_cons pe_int pa_nil))))) (pa_cons (pe_tup (pa_cons pe_str (pa_cons pe_int (pa_cons pe_int (pa_cons pe_int pa_nil))))) (pa_cons (pe_tup (pa_cons pe_str (pa_cons pe_int (pa_cons pe_int (pa_cons pe_int pa_nil))))) (pa_cons (pe_tup (pa_cons pe_str (pa_cons pe_int (pa_cons pe_int (pa_cons pe_int pa_nil))))) (pa_cons (pe_tup (pa_cons pe_str (pa_cons pe_int (pa_cons pe_int (pa_cons pe_int pa_nil))))) (pa_cons (pe_tup (pa_cons pe_str (pa_cons pe_int (pa_cons pe_int (pa_cons pe_int pa_nil))))) (pa_cons (pe_tup (pa_cons pe_str (pa_cons pe_int (pa_cons pe_int (pa_cons pe_int pa_nil))))) pa_nil))))))))))
      (pss_one (ps_ret (pe_callB (cr_all rfl) (by rfl) T.n_all (by decide +kernel) (pa_cons (pe_lc (own := [("told", 3)]) (g := gName 3) (by rfl) sc.nd (pi_list (pv 2)) (blkOk_by (own := [("told", 3)]) (N := ["script", "draw", "wrong", "told", "bits"]) (sc := defScope s_law) (by decide +kernel)) (fun _ _ _ _ _ => (pg_name (i := 3) sc.nd rfl (Or.inl rfl))) (fun _ _ _ _ _ => pts_nil) (fun _ _ _ _ _ => (pe_g G__law_refused (hr.mono (by omega)) pass0 (pa_cons (pv 3) pa_nil)))) pa_nil))))))))), ?_⟩
  obtain ⟨ms, hms⟩ := cut_ints ns none (some 63)
  refine ⟨_, rfl, 63, rfl, sl, _, rfl, hS, fun s0 hs0 => ?_⟩
  rw [hms]
  refine ⟨(by show 3 ≤ sizeLine; decide), fun d hd => ?_⟩
  have sd : s0 ≠ d := ne_of_none upd_same hd
  generalize hH1 : upd (upd H s0 (.lst (ms.map V.int))) d (.lst [.ref s0, .int 0, .int 0]) = H1 at *
  have hd1 : H1 d = some (.lst [.ref s0, .int 0, .int 0]) := by rw [← hH1]; exact upd_same
  have hs1 : H1 s0 = some (.lst (ms.map V.int)) := by rw [← hH1, upd_ne sd]; exact upd_same
  clear hH1 hd hs0 hS hms
  refine ⟨_, rfl, _, rfl, d, s0, ms, 0, rfl, hd1, hs1, sd, by decide, by decide, fun H2 P as hP hlen hg => ⟨P, rfl, ⟨_, SqL.of hP⟩, ?_⟩⟩
  clear hd1 hs1
  refine for_list (K := K) (a := P) (xs := as.map V.ref) (fun i σ H' => ∃ (v3 v4 : Option V), σ = [some (.ref sl), some (.ref d), none, v3, v4] ∧ Same H2 H') ⟨_, _, rfl, Same.rf⟩ (fun i σ H' _ ⟨_, _, _, e⟩ => SqL.of (e _ _ hP)) ?_ ?_
  · rintro i x σ H3 hx ⟨v3, v4, rfl, s3⟩
    obtain ⟨ra, hra, rfl⟩ := ref_at hx
    obtain ⟨o, q, I, Bb, bl, ho, hok, h1, h2, hB, hbl, h01, hsum⟩ := (hg ra (List.mem_of_getElem? hra)).same s3
    have hi := ins_ok ho hok
    have wb := written ho hok
    have hdec := dec_word ho hok
    refine ⟨ra, _, rfl, SqT.of h1, rfl, _, _, rfl, _, _, rfl, rfl, ?_⟩
    refine ⟨_, rfl, Bb, _, rfl, Or.inl (SqL.of hB), rfl, _, rfl, if_false_of ?_ ?_⟩
    · show (!decide (V.int ((bl.map V.int).length : Int) = V.int 32)) = false
      rw [List.length_map, hbl]; rfl
    refine ⟨_, rfl, _, rfl, I, .str (nm o), some q.1, some q.2.1, some q.2.2, rfl, h2, Or.inr ⟨_, rfl⟩, fun o2 h2' H4 s4 => ?_, fun hno => by rw [hi] at hno; cases hno⟩
    rw [hi] at h2'
    injection h2' with h2'
    subst h2'
    refine ⟨_, rfl, _, rfl, Bb, bl, rfl, s4 _ _ hB, by omega, h01, fun H5 s5 => ⟨rfl, _, rfl, if_false_of ?_ ?_⟩⟩
    · show (!decide (V.int (wordM o q.1 q.2.1 q.2.2) = V.int (sumB bl))) = false
      rw [hsum, decide_eq_true rfl]; rfl
    have s45 := Same.tr s4 s5
    refine ⟨_, rfl, _, rfl, Bb, bl, rfl, s45 _ _ hB, by omega, h01, fun H6 s6 => ?_⟩
    have s46 := Same.tr s45 s6
    refine ⟨_, rfl, sumB bl, rfl, by rw [hsum]; exact wb.rng.1, by rw [hsum]; exact wb.rng.2, (fun hno => by rw [hsum, hdec] at hno; cases hno), fun o3 h3 H7 p7 s7 hp7 => ?_⟩
    rw [hsum, hdec] at h3
    injection h3 with h3
    subst h3
    rw [hsum, wb.read] at hp7
    have s47 := Same.tr s46 s7
    refine ⟨_, rfl, insD o q, insD o q, dp_ins hp7, dp_ins (s47 _ _ h2), insD_ok ho _, insD_ok ho _, _, rfl, if_false_of (by rw [insD_same]; rfl) ?_⟩
    refine ⟨_, rfl, _, rfl, I, .str (nm o), some q.1, some q.2.1, some q.2.2, rfl, s47 _ _ h2, Or.inr ⟨_, rfl⟩, fun o4 h4 H8 s8 => ?_, fun hno => by rw [hi] at hno; cases hno⟩
    rw [hi] at h4
    injection h4 with h4
    subst h4
    have s48 := Same.tr s47 s8
    have hb := back ho hok
    have hT : txO (partsM (txM o q.1 q.2.1 q.2.2)) = some (txM o q.1 q.2.1 q.2.2) := by
      rw [hb, txO_some (q := (.str (nm o), some q.1, some q.2.1, some q.2.2)) hi]; rfl
    have lw := tx_len ho hok
    refine ⟨_, rfl, txM o q.1 q.2.1 q.2.2, rfl, (by omega), fun _ H9 q9 s9 hq9 => ?_, fun hne => absurd hT hne⟩
    rw [hb] at hq9
    have s49 := Same.tr s48 s9
    refine ⟨_, rfl, insD o q, insD o q, dp_ins hq9, dp_ins (s49 _ _ h2), insD_ok ho _, insD_ok ho _, _, rfl, if_false_of (by rw [insD_same]; rfl) ?_⟩
    exact ⟨_, _, rfl, Same.tr s3 s49⟩
  · rintro σ H3 ⟨v3, v4, rfl, s3⟩
    refine ⟨(by show 4 ≤ sizeLine; decide), fun a1 h1 => ?_⟩
    have r1 : RW H3 [] [] := trivial
    have r1 := RW.new (xs := [.str "add", .int 32, .int 0, .int 0]) ("add", 32, 0, 0) r1 h1
    generalize upd H3 a1 (.tup [.str "add", .int 32, .int 0, .int 0]) = G1 at *
    refine ⟨_, rfl, (by show 4 ≤ sizeLine; decide), fun a2 h2 => ?_⟩
    have r1 := RW.new (xs := [.str "add", .int 0, .int (-1), .int 0]) ("add", 0, -1, 0) r1 h2
    generalize upd G1 a2 (.tup [.str "add", .int 0, .int (-1), .int 0]) = G2 at *
    refine ⟨(by show 4 ≤ sizeLine; decide), fun a3 h3 => ?_⟩
    have r1 := RW.new (xs := [.str "addi", .int 1, .int 2, .int 2048]) ("addi", 1, 2, 2048) r1 h3
    generalize upd G2 a3 (.tup [.str "addi", .int 1, .int 2, .int 2048]) = G3 at *
    refine ⟨_, rfl, (by show 4 ≤ sizeLine; decide), fun a4 h4 => ?_⟩
    have r1 := RW.new (xs := [.str "addi", .int 1, .int 2, .int (-2049)]) ("addi", 1, 2, -2049) r1 h4
    generalize upd G3 a4 (.tup [.str "addi", .int 1, .int 2, .int (-2049)]) = G4 at *
    refine ⟨(by show 4 ≤ sizeLine; decide), fun a5 h5 => ?_⟩
    have r1 := RW.new (xs := [.str "slli", .int 1, .int 2, .int 32]) ("slli", 1, 2, 32) r1 h5
    generalize upd G4 a5 (.tup [.str "slli", .int 1, .int 2, .int 32]) = G5 at *
    refine ⟨_, rfl, (by show 4 ≤ sizeLine; decide), fun a6 h6 => ?_⟩
    have r1 := RW.new (xs := [.str "srai", .int 1, .int 2, .int (-1)]) ("srai", 1, 2, -1) r1 h6
    generalize upd G5 a6 (.tup [.str "srai", .int 1, .int 2, .int (-1)]) = G6 at *
    refine ⟨(by show 4 ≤ sizeLine; decide), fun a7 h7 => ?_⟩
    have r1 := RW.new (xs := [.str "lw", .int 1, .int 32, .int 0]) ("lw", 1, 32, 0) r1 h7
    generalize upd G6 a7 (.tup [.str "lw", .int 1, .int 32, .int 0]) = G7 at *
    refine ⟨(by show 4 ≤ sizeLine; decide), fun a8 h8 => ?_⟩
    have r1 := RW.new (xs := [.str "sw", .int 1, .int 2, .int 2048]) ("sw", 1, 2, 2048) r1 h8
    generalize upd G7 a8 (.tup [.str "sw", .int 1, .int 2, .int 2048]) = G8 at *
    refine ⟨(by show 8 ≤ sizeLine; decide), fun L1 h9 => ?_⟩
    have r1 := r1.same (same_new (o := .lst [.ref a1, .ref a2, .ref a3, .ref a4, .ref a5, .ref a6, .ref a7, .ref a8]) h9)
    have e1 : upd G8 L1 (.lst [.ref a1, .ref a2, .ref a3, .ref a4, .ref a5, .ref a6, .ref a7, .ref a8]) L1 = some (.lst [.ref a1, .ref a2, .ref a3, .ref a4, .ref a5, .ref a6, .ref a7, .ref a8]) := upd_same
    generalize upd G8 L1 (.lst [.ref a1, .ref a2, .ref a3, .ref a4, .ref a5, .ref a6, .ref a7, .ref a8]) = G9 at *
    refine ⟨_, rfl, ?_⟩
    refine ⟨(by show 4 ≤ sizeLine; decide), fun a10 h10 => ?_⟩
    have r2 : RW G9 [] [] := trivial
    have r2 := RW.new (xs := [.str "beq", .int 1, .int 2, .int 4096]) ("beq", 1, 2, 4096) r2 h10
    have r1 := r1.same (same_new (o := .tup [.str "beq", .int 1, .int 2, .int 4096]) h10)
    have e1 := same_new (o := .tup [.str "beq", .int 1, .int 2, .int 4096]) h10 _ _ e1
    generalize upd G9 a10 (.tup [.str "beq", .int 1, .int 2, .int 4096]) = G10 at *
    refine ⟨(by show 4 ≤ sizeLine; decide), fun a11 h11 => ?_⟩
    have r2 := RW.new (xs := [.str "beq", .int 1, .int 2, .int 3]) ("beq", 1, 2, 3) r2 h11
    have r1 := r1.same (same_new (o := .tup [.str "beq", .int 1, .int 2, .int 3]) h11)
    have e1 := same_new (o := .tup [.str "beq", .int 1, .int 2, .int 3]) h11 _ _ e1
    generalize upd G10 a11 (.tup [.str "beq", .int 1, .int 2, .int 3]) = G11 at *
    refine ⟨_, rfl, (by show 4 ≤ sizeLine; decide), fun a12 h12 => ?_⟩
    have r2 := RW.new (xs := [.str "bne", .int 1, .int 2, .int (-4098)]) ("bne", 1, 2, -4098) r2 h12
    have r1 := r1.same (same_new (o := .tup [.str "bne", .int 1, .int 2, .int (-4098)]) h12)
    have e1 := same_new (o := .tup [.str "bne", .int 1, .int 2, .int (-4098)]) h12 _ _ e1
    generalize upd G11 a12 (.tup [.str "bne", .int 1, .int 2, .int (-4098)]) = G12 at *
    refine ⟨(by show 4 ≤ sizeLine; decide), fun a13 h13 => ?_⟩
    have r2 := RW.new (xs := [.str "lui", .int 1, .int 1048576, .int 0]) ("lui", 1, 1048576, 0) r2 h13
    have r1 := r1.same (same_new (o := .tup [.str "lui", .int 1, .int 1048576, .int 0]) h13)
    have e1 := same_new (o := .tup [.str "lui", .int 1, .int 1048576, .int 0]) h13 _ _ e1
    generalize upd G12 a13 (.tup [.str "lui", .int 1, .int 1048576, .int 0]) = G13 at *
    refine ⟨_, rfl, (by show 4 ≤ sizeLine; decide), fun a14 h14 => ?_⟩
    have r2 := RW.new (xs := [.str "lui", .int 1, .int (-1), .int 0]) ("lui", 1, -1, 0) r2 h14
    have r1 := r1.same (same_new (o := .tup [.str "lui", .int 1, .int (-1), .int 0]) h14)
    have e1 := same_new (o := .tup [.str "lui", .int 1, .int (-1), .int 0]) h14 _ _ e1
    generalize upd G13 a14 (.tup [.str "lui", .int 1, .int (-1), .int 0]) = G14 at *
    refine ⟨(by show 4 ≤ sizeLine; decide), fun a15 h15 => ?_⟩
    have r2 := RW.new (xs := [.str "lui", .int 1, .int 5, .int 1]) ("lui", 1, 5, 1) r2 h15
    have r1 := r1.same (same_new (o := .tup [.str "lui", .int 1, .int 5, .int 1]) h15)
    have e1 := same_new (o := .tup [.str "lui", .int 1, .int 5, .int 1]) h15 _ _ e1
    generalize upd G14 a15 (.tup [.str "lui", .int 1, .int 5, .int 1]) = G15 at *
    refine ⟨(by show 4 ≤ sizeLine; decide), fun a16 h16 => ?_⟩
    have r2 := RW.new (xs := [.str "jal", .int 1, .int 1048576, .int 0]) ("jal", 1, 1048576, 0) r2 h16
    have r1 := r1.same (same_new (o := .tup [.str "jal", .int 1, .int 1048576, .int 0]) h16)
    have e1 := same_new (o := .tup [.str "jal", .int 1, .int 1048576, .int 0]) h16 _ _ e1
    generalize upd G15 a16 (.tup [.str "jal", .int 1, .int 1048576, .int 0]) = G16 at *
    refine ⟨(by show 4 ≤ sizeLine; decide), fun a17 h17 => ?_⟩
    have r2 := RW.new (xs := [.str "jal", .int 1, .int 3, .int 0]) ("jal", 1, 3, 0) r2 h17
    have r1 := r1.same (same_new (o := .tup [.str "jal", .int 1, .int 3, .int 0]) h17)
    have e1 := same_new (o := .tup [.str "jal", .int 1, .int 3, .int 0]) h17 _ _ e1
    generalize upd G16 a17 (.tup [.str "jal", .int 1, .int 3, .int 0]) = G17 at *
    refine ⟨(by show 8 ≤ sizeLine; decide), fun L2 h18 => ?_⟩
    have r1 := r1.same (same_new (o := .lst [.ref a10, .ref a11, .ref a12, .ref a13, .ref a14, .ref a15, .ref a16, .ref a17]) h18)
    have e1 := same_new (o := .lst [.ref a10, .ref a11, .ref a12, .ref a13, .ref a14, .ref a15, .ref a16, .ref a17]) h18 _ _ e1
    have r2 := r2.same (same_new (o := .lst [.ref a10, .ref a11, .ref a12, .ref a13, .ref a14, .ref a15, .ref a16, .ref a17]) h18)
    have e2 : upd G17 L2 (.lst [.ref a10, .ref a11, .ref a12, .ref a13, .ref a14, .ref a15, .ref a16, .ref a17]) L2 = some (.lst [.ref a10, .ref a11, .ref a12, .ref a13, .ref a14, .ref a15, .ref a16, .ref a17]) := upd_same
    generalize upd G17 L2 (.lst [.ref a10, .ref a11, .ref a12, .ref a13, .ref a14, .ref a15, .ref a16, .ref a17]) = G18 at *
    refine ⟨L1, L2, _, _, rfl, rfl, e1, e2, (by show 16 ≤ sizeLine; decide), fun M1 h19 => ?_⟩
    have r1 := r1.same (same_new (o := .lst ([V.ref a1, V.ref a2, V.ref a3, V.ref a4, V.ref a5, V.ref a6, V.ref a7, V.ref a8] ++ [V.ref a10, V.ref a11, V.ref a12, V.ref a13, V.ref a14, V.ref a15, V.ref a16, V.ref a17])) h19)
    have e1 := same_new (o := .lst ([V.ref a1, V.ref a2, V.ref a3, V.ref a4, V.ref a5, V.ref a6, V.ref a7, V.ref a8] ++ [V.ref a10, V.ref a11, V.ref a12, V.ref a13, V.ref a14, V.ref a15, V.ref a16, V.ref a17])) h19 _ _ e1
    have r2 := r2.same (same_new (o := .lst ([V.ref a1, V.ref a2, V.ref a3, V.ref a4, V.ref a5, V.ref a6, V.ref a7, V.ref a8] ++ [V.ref a10, V.ref a11, V.ref a12, V.ref a13, V.ref a14, V.ref a15, V.ref a16, V.ref a17])) h19)
    have e2 := same_new (o := .lst ([V.ref a1, V.ref a2, V.ref a3, V.ref a4, V.ref a5, V.ref a6, V.ref a7, V.ref a8] ++ [V.ref a10, V.ref a11, V.ref a12, V.ref a13, V.ref a14, V.ref a15, V.ref a16, V.ref a17])) h19 _ _ e2
    have f1 : upd G18 M1 (.lst ([V.ref a1, V.ref a2, V.ref a3, V.ref a4, V.ref a5, V.ref a6, V.ref a7, V.ref a8] ++ [V.ref a10, V.ref a11, V.ref a12, V.ref a13, V.ref a14, V.ref a15, V.ref a16, V.ref a17])) M1 = some (.lst ([V.ref a1, V.ref a2, V.ref a3, V.ref a4, V.ref a5, V.ref a6, V.ref a7, V.ref a8] ++ [V.ref a10, V.ref a11, V.ref a12, V.ref a13, V.ref a14, V.ref a15, V.ref a16, V.ref a17])) := upd_same
    generalize upd G18 M1 (.lst ([V.ref a1, V.ref a2, V.ref a3, V.ref a4, V.ref a5, V.ref a6, V.ref a7, V.ref a8] ++ [V.ref a10, V.ref a11, V.ref a12, V.ref a13, V.ref a14, V.ref a15, V.ref a16, V.ref a17])) = G19 at *
    refine ⟨_, rfl, ?_⟩
    refine ⟨(by show 4 ≤ sizeLine; decide), fun a20 h20 => ?_⟩
    have r3 : RW G19 [] [] := trivial
    have r3 := RW.new (xs := [.str "jal", .int 1, .int 4, .int 4]) ("jal", 1, 4, 4) r3 h20
    have r1 := r1.same (same_new (o := .tup [.str "jal", .int 1, .int 4, .int 4]) h20)
    have e1 := same_new (o := .tup [.str "jal", .int 1, .int 4, .int 4]) h20 _ _ e1
    have r2 := r2.same (same_new (o := .tup [.str "jal", .int 1, .int 4, .int 4]) h20)
    have e2 := same_new (o := .tup [.str "jal", .int 1, .int 4, .int 4]) h20 _ _ e2
    have f1 := same_new (o := .tup [.str "jal", .int 1, .int 4, .int 4]) h20 _ _ f1
    generalize upd G19 a20 (.tup [.str "jal", .int 1, .int 4, .int 4]) = G20 at *
    refine ⟨(by show 4 ≤ sizeLine; decide), fun a21 h21 => ?_⟩
    have r3 := RW.new (xs := [.str "ecall", .int 1, .int 0, .int 0]) ("ecall", 1, 0, 0) r3 h21
    have r1 := r1.same (same_new (o := .tup [.str "ecall", .int 1, .int 0, .int 0]) h21)
    have e1 := same_new (o := .tup [.str "ecall", .int 1, .int 0, .int 0]) h21 _ _ e1
    have r2 := r2.same (same_new (o := .tup [.str "ecall", .int 1, .int 0, .int 0]) h21)
    have e2 := same_new (o := .tup [.str "ecall", .int 1, .int 0, .int 0]) h21 _ _ e2
    have f1 := same_new (o := .tup [.str "ecall", .int 1, .int 0, .int 0]) h21 _ _ f1
    generalize upd G20 a21 (.tup [.str "ecall", .int 1, .int 0, .int 0]) = G21 at *
    refine ⟨(by show 4 ≤ sizeLine; decide), fun a22 h22 => ?_⟩
    have r3 := RW.new (xs := [.str "ebreak", .int 0, .int 0, .int 1]) ("ebreak", 0, 0, 1) r3 h22
    have r1 := r1.same (same_new (o := .tup [.str "ebreak", .int 0, .int 0, .int 1]) h22)
    have e1 := same_new (o := .tup [.str "ebreak", .int 0, .int 0, .int 1]) h22 _ _ e1
    have r2 := r2.same (same_new (o := .tup [.str "ebreak", .int 0, .int 0, .int 1]) h22)
    have e2 := same_new (o := .tup [.str "ebreak", .int 0, .int 0, .int 1]) h22 _ _ e2
    have f1 := same_new (o := .tup [.str "ebreak", .int 0, .int 0, .int 1]) h22 _ _ f1
    generalize upd G21 a22 (.tup [.str "ebreak", .int 0, .int 0, .int 1]) = G22 at *
    refine ⟨(by show 4 ≤ sizeLine; decide), fun a23 h23 => ?_⟩
    have r3 := RW.new (xs := [.str "nop", .int 0, .int 0, .int 0]) ("nop", 0, 0, 0) r3 h23
    have r1 := r1.same (same_new (o := .tup [.str "nop", .int 0, .int 0, .int 0]) h23)
    have e1 := same_new (o := .tup [.str "nop", .int 0, .int 0, .int 0]) h23 _ _ e1
    have r2 := r2.same (same_new (o := .tup [.str "nop", .int 0, .int 0, .int 0]) h23)
    have e2 := same_new (o := .tup [.str "nop", .int 0, .int 0, .int 0]) h23 _ _ e2
    have f1 := same_new (o := .tup [.str "nop", .int 0, .int 0, .int 0]) h23 _ _ f1
    generalize upd G22 a23 (.tup [.str "nop", .int 0, .int 0, .int 0]) = G23 at *
    refine ⟨(by show 4 ≤ sizeLine; decide), fun a24 h24 => ?_⟩
    have r3 := RW.new (xs := [.str "", .int 0, .int 0, .int 0]) ("", 0, 0, 0) r3 h24
    have r1 := r1.same (same_new (o := .tup [.str "", .int 0, .int 0, .int 0]) h24)
    have e1 := same_new (o := .tup [.str "", .int 0, .int 0, .int 0]) h24 _ _ e1
    have r2 := r2.same (same_new (o := .tup [.str "", .int 0, .int 0, .int 0]) h24)
    have e2 := same_new (o := .tup [.str "", .int 0, .int 0, .int 0]) h24 _ _ e2
    have f1 := same_new (o := .tup [.str "", .int 0, .int 0, .int 0]) h24 _ _ f1
    generalize upd G23 a24 (.tup [.str "", .int 0, .int 0, .int 0]) = G24 at *
    refine ⟨(by show 4 ≤ sizeLine; decide), fun a25 h25 => ?_⟩
    have r3 := RW.new (xs := [.str "jalr", .int 1, .int 2, .int 4000]) ("jalr", 1, 2, 4000) r3 h25
    have r1 := r1.same (same_new (o := .tup [.str "jalr", .int 1, .int 2, .int 4000]) h25)
    have e1 := same_new (o := .tup [.str "jalr", .int 1, .int 2, .int 4000]) h25 _ _ e1
    have r2 := r2.same (same_new (o := .tup [.str "jalr", .int 1, .int 2, .int 4000]) h25)
    have e2 := same_new (o := .tup [.str "jalr", .int 1, .int 2, .int 4000]) h25 _ _ e2
    have f1 := same_new (o := .tup [.str "jalr", .int 1, .int 2, .int 4000]) h25 _ _ f1
    generalize upd G24 a25 (.tup [.str "jalr", .int 1, .int 2, .int 4000]) = G25 at *
    refine ⟨(by show 4 ≤ sizeLine; decide), fun a26 h26 => ?_⟩
    have r3 := RW.new (xs := [.str "kind", .int 1, .int 1, .int 1]) ("kind", 1, 1, 1) r3 h26
    have r1 := r1.same (same_new (o := .tup [.str "kind", .int 1, .int 1, .int 1]) h26)
    have e1 := same_new (o := .tup [.str "kind", .int 1, .int 1, .int 1]) h26 _ _ e1
    have r2 := r2.same (same_new (o := .tup [.str "kind", .int 1, .int 1, .int 1]) h26)
    have e2 := same_new (o := .tup [.str "kind", .int 1, .int 1, .int 1]) h26 _ _ e2
    have f1 := same_new (o := .tup [.str "kind", .int 1, .int 1, .int 1]) h26 _ _ f1
    generalize upd G25 a26 (.tup [.str "kind", .int 1, .int 1, .int 1]) = G26 at *
    refine ⟨(by show 7 ≤ sizeLine; decide), fun L3 h27 => ?_⟩
    have r1 := r1.same (same_new (o := .lst [.ref a20, .ref a21, .ref a22, .ref a23, .ref a24, .ref a25, .ref a26]) h27)
    have e1 := same_new (o := .lst [.ref a20, .ref a21, .ref a22, .ref a23, .ref a24, .ref a25, .ref a26]) h27 _ _ e1
    have r2 := r2.same (same_new (o := .lst [.ref a20, .ref a21, .ref a22, .ref a23, .ref a24, .ref a25, .ref a26]) h27)
    have e2 := same_new (o := .lst [.ref a20, .ref a21, .ref a22, .ref a23, .ref a24, .ref a25, .ref a26]) h27 _ _ e2
    have f1 := same_new (o := .lst [.ref a20, .ref a21, .ref a22, .ref a23, .ref a24, .ref a25, .ref a26]) h27 _ _ f1
    have r3 := r3.same (same_new (o := .lst [.ref a20, .ref a21, .ref a22, .ref a23, .ref a24, .ref a25, .ref a26]) h27)
    have e3 : upd G26 L3 (.lst [.ref a20, .ref a21, .ref a22, .ref a23, .ref a24, .ref a25, .ref a26]) L3 = some (.lst [.ref a20, .ref a21, .ref a22, .ref a23, .ref a24, .ref a25, .ref a26]) := upd_same
    generalize upd G26 L3 (.lst [.ref a20, .ref a21, .ref a22, .ref a23, .ref a24, .ref a25, .ref a26]) = G27 at *
    refine ⟨M1, L3, _, _, rfl, rfl, f1, e3, (by show 23 ≤ sizeLine; decide), fun M2 h28 => ?_⟩
    have r1 := r1.same (same_new (o := .lst (([V.ref a1, V.ref a2, V.ref a3, V.ref a4, V.ref a5, V.ref a6, V.ref a7, V.ref a8] ++ [V.ref a10, V.ref a11, V.ref a12, V.ref a13, V.ref a14, V.ref a15, V.ref a16, V.ref a17]) ++ [V.ref a20, V.ref a21, V.ref a22, V.ref a23, V.ref a24, V.ref a25, V.ref a26])) h28)
    have e1 := same_new (o := .lst (([V.ref a1, V.ref a2, V.ref a3, V.ref a4, V.ref a5, V.ref a6, V.ref a7, V.ref a8] ++ [V.ref a10, V.ref a11, V.ref a12, V.ref a13, V.ref a14, V.ref a15, V.ref a16, V.ref a17]) ++ [V.ref a20, V.ref a21, V.ref a22, V.ref a23, V.ref a24, V.ref a25, V.ref a26])) h28 _ _ e1
    have r2 := r2.same (same_new (o := .lst (([V.ref a1, V.ref a2, V.ref a3, V.ref a4, V.ref a5, V.ref a6, V.ref a7, V.ref a8] ++ [V.ref a10, V.ref a11, V.ref a12, V.ref a13, V.ref a14, V.ref a15, V.ref a16, V.ref a17]) ++ [V.ref a20, V.ref a21, V.ref a22, V.ref a23, V.ref a24, V.ref a25, V.ref a26])) h28)
    have e2 := same_new (o := .lst (([V.ref a1, V.ref a2, V.ref a3, V.ref a4, V.ref a5, V.ref a6, V.ref a7, V.ref a8] ++ [V.ref a10, V.ref a11, V.ref a12, V.ref a13, V.ref a14, V.ref a15, V.ref a16, V.ref a17]) ++ [V.ref a20, V.ref a21, V.ref a22, V.ref a23, V.ref a24, V.ref a25, V.ref a26])) h28 _ _ e2
    have f1 := same_new (o := .lst (([V.ref a1, V.ref a2, V.ref a3, V.ref a4, V.ref a5, V.ref a6, V.ref a7, V.ref a8] ++ [V.ref a10, V.ref a11, V.ref a12, V.ref a13, V.ref a14, V.ref a15, V.ref a16, V.ref a17]) ++ [V.ref a20, V.ref a21, V.ref a22, V.ref a23, V.ref a24, V.ref a25, V.ref a26])) h28 _ _ f1
    have r3 := r3.same (same_new (o := .lst (([V.ref a1, V.ref a2, V.ref a3, V.ref a4, V.ref a5, V.ref a6, V.ref a7, V.ref a8] ++ [V.ref a10, V.ref a11, V.ref a12, V.ref a13, V.ref a14, V.ref a15, V.ref a16, V.ref a17]) ++ [V.ref a20, V.ref a21, V.ref a22, V.ref a23, V.ref a24, V.ref a25, V.ref a26])) h28)
    have e3 := same_new (o := .lst (([V.ref a1, V.ref a2, V.ref a3, V.ref a4, V.ref a5, V.ref a6, V.ref a7, V.ref a8] ++ [V.ref a10, V.ref a11, V.ref a12, V.ref a13, V.ref a14, V.ref a15, V.ref a16, V.ref a17]) ++ [V.ref a20, V.ref a21, V.ref a22, V.ref a23, V.ref a24, V.ref a25, V.ref a26])) h28 _ _ e3
    have f2 : upd G27 M2 (.lst (([V.ref a1, V.ref a2, V.ref a3, V.ref a4, V.ref a5, V.ref a6, V.ref a7, V.ref a8] ++ [V.ref a10, V.ref a11, V.ref a12, V.ref a13, V.ref a14, V.ref a15, V.ref a16, V.ref a17]) ++ [V.ref a20, V.ref a21, V.ref a22, V.ref a23, V.ref a24, V.ref a25, V.ref a26])) M2 = some (.lst (([V.ref a1, V.ref a2, V.ref a3, V.ref a4, V.ref a5, V.ref a6, V.ref a7, V.ref a8] ++ [V.ref a10, V.ref a11, V.ref a12, V.ref a13, V.ref a14, V.ref a15, V.ref a16, V.ref a17]) ++ [V.ref a20, V.ref a21, V.ref a22, V.ref a23, V.ref a24, V.ref a25, V.ref a26])) := upd_same
    generalize upd G27 M2 (.lst (([V.ref a1, V.ref a2, V.ref a3, V.ref a4, V.ref a5, V.ref a6, V.ref a7, V.ref a8] ++ [V.ref a10, V.ref a11, V.ref a12, V.ref a13, V.ref a14, V.ref a15, V.ref a16, V.ref a17]) ++ [V.ref a20, V.ref a21, V.ref a22, V.ref a23, V.ref a24, V.ref a25, V.ref a26])) = G28 at *
    have r : RW G28 [a1, a2, a3, a4, a5, a6, a7, a8, a10, a11, a12, a13, a14, a15, a16, a17, a20, a21, a22, a23, a24, a25, a26] (ws1 ++ ws2 ++ ws3) := (RW.app (RW.app r1 r2) r3)
    have f : G28 M2 = some (.lst (([a1, a2, a3, a4, a5, a6, a7, a8, a10, a11, a12, a13, a14, a15, a16, a17, a20, a21, a22, a23, a24, a25, a26] : List Addr).map V.ref)) := f2
    clear r1 e1 r2 e2 f1 r3 e3 f2
    refine ⟨_, rfl, M2, rfl, ⟨_, SqL.of f⟩, fun D hD => ?_⟩
    refine lc_list (K := K) (a := M2) (xs := ([a1, a2, a3, a4, a5, a6, a7, a8, a10, a11, a12, a13, a14, a15, a16, a17, a20, a21, a22, a23, a24, a25, a26] : List Addr).map V.ref) (fun i H' => Same G28 H' ∧ H' D = some (.lst ((List.replicate i true).map V.bl))) ⟨same_new hD, upd_same⟩ (fun i H' _ p => SqL.of (p.1 _ _ f)) (fun i x H' hx p => ?_) (fun H' p => ?_)
    · obtain ⟨ra, hra, rfl⟩ := ref_at hx
      obtain ⟨w0, hw0, e0⟩ := r.get i ra hra
      have hil : i < 23 := (List.getElem?_eq_some_iff.mp hra).1
      refine ⟨rfl, ?_⟩
      dsimp only [tYes]
      rw [if_pos rfl]
      refine ⟨_, rfl, _, rfl, ra, w0, rfl, p.1 _ _ e0, ws_bad w0 hw0, fun H8 s8 => ?_⟩
      refine ⟨_, s8 _ _ p.2, (by rw [List.length_map, List.length_replicate]; exact tup_lt (by omega)), fun x o e => ?_, ?_⟩
      · by_cases z : x = D
        · rw [z, hD] at e; cases e
        · rw [upd_ne z]; exact s8 _ _ (p.1 _ _ e)
      · rw [upd_same, List.replicate_succ', List.map_append]; rfl
    · refine ⟨D, List.replicate 23 true, rfl, SqL.of p.2, ?_⟩
      exact h H'
end
end K66


namespace K66
open PySem PySem.Spec PyProof.Rows L2 My Ru I6
theorem law_binds {K : PySem.W.Frag} {f : Addr} {fd : FuncData} (F : FunD K "law" "law" (defArgs s_law) (defBody s_law) (defScope s_law) [] [] f fd) (s : Shared) (v : Value) : BindsTo s fd ⟨[v], []⟩ [("script", v)] :=
  L2.FunD.bindsA (ps := ["script"]) F (fun _ _ _ _ _ _ us hl => match us, hl with | [_], _ => rfl) s [v] rfl
theorem law_core {P : Program} {w : World} {K : PySem.W.Frag} {mg : Str → Option Value} {h : Heap} {fa : Addr} {L : Nat} (T : Txt K mg w) (KX : K.In h) (hmg : mg ("law" : PySem.Str) = some (.ref fa))
    (ok : ∀ base : Heap, Gd P w K mg base CX0 L "law" ["script"] (sp_law K)) :
    ∃ (K : PySem.W.Frag) (fd : FuncData) (sp : Sp), K.In h ∧ (∀ (s : Shared) (u : Value), BindsTo s fd ⟨[u], []⟩ [(("script" : PySem.Str), u)]) ∧
        (∀ (H : Hp) (a : Addr) (ns : List Int), ns.length ≤ 63 → Only H → SqL K H a (ns.map V.int) → sp [.ref a] H (fun v _ => v = .bl true) fun _ _ _ => False) ∧
        ∀ base : Heap, K.In base → base.Ns mainGlobals mg → FnOk P w K mg base CX0 L fa fd ["script"] sp := by
  obtain ⟨f, fd, hm, F⟩ := T.d_law.ex
  have ef : f = fa := by
    rw [hmg] at hm
    injection hm with hm
    injection hm with hm
    exact hm.symm
  subst ef
  refine ⟨K, fd, sp_law K, KX, law_binds F, fun H a ns hl _ hS => ⟨_, rfl, a, ns, rfl, hS, fun _ => rfl⟩, fun base _ _ => ?_⟩
  obtain ⟨f', fd', hm', ok, _, _, oc', od', osl', lk'⟩ := (ok base).ex
  have ef : f' = f := by
    rw [hmg] at hm'
    injection hm' with hm'
    injection hm' with hm'
    exact hm'.symm
  subst ef
  obtain ⟨oc, od, dV, kV, doc, pm, an, cdv, ct, osl, _, lk, _⟩ := F.ex
  rw [lk'] at lk
  have ed : fd' = fd := by
    injection lk with lk
    injection lk with _ _ lk _
    injection lk with lk
  rw [← ed]
  exact ok
end K66

namespace K66E
open PySem PySem.Spec PyProof.Rows L2 My Ru I6 K66
section
variable {P : Program} {w : World} {K : PySem.W.Frag} {h : Heap} {mg : Str → Option Value}
theorem df_mk (X : K.In h) (G : h.Ns mainGlobals mg) {x : Str} {st : Stmt} (c1 : (He.Fa.glo x).ok K = true) (c2 : ∃ fd, FunD K x x (defArgs st) (defBody st) (defScope st) [] [] (He.fAd K (x, none)) fd) : Df K mg x st := by
  obtain ⟨fd, F⟩ := c2
  exact ⟨He.ga K x, fd, He.glo_ok X G c1, F⟩
theorem bf_mk (X : K.In h) (G : h.Ns mainGlobals mg) (c1 : (He.Fa.glo "BadForm").ok K = true) (c2 : ∃ fd, FunD K "__init__" "BadForm.__init__" (defArgs s_BadForm___init__) (defBody s_BadForm___init__) (defScope s_BadForm___init__) [] [] (He.fAd K ("BadForm", some "__init__")) fd) (c3 : bfB K (He.ga K "BadForm") = true) : Bf.BfTxt K mg (He.ga K "BadForm") (He.ma K (He.ga K "BadForm") "__init__") := by
  obtain ⟨h1, c3⟩ := He.ba c3
  obtain ⟨h2, c3⟩ := He.ba c3
  obtain ⟨h3, c3⟩ := He.ba c3
  obtain ⟨h4, c3⟩ := He.ba c3
  obtain ⟨h5, c3⟩ := He.ba c3
  obtain ⟨h6, c3⟩ := He.ba c3
  obtain ⟨h7, c3⟩ := He.ba c3
  obtain ⟨h9, c3⟩ := He.ba c3
  obtain ⟨h10, c3⟩ := He.ba c3
  obtain ⟨h11, c3⟩ := He.ba c3
  obtain ⟨h12, c3⟩ := He.ba c3
  obtain ⟨h13, c3⟩ := He.ba c3
  obtain ⟨h14, h15⟩ := He.ba c3
  obtain ⟨fd, F⟩ := c2
  obtain ⟨oc, od, dV, kV, doc, pm, an, cdv, ct, osl, e, lk, hcd, hD, _⟩ := F.ex
  have hdV : dV = .none := by
    rcases hD with ⟨_, z⟩ | ⟨z, _⟩
    · exact z
    · exact absurd rfl z
  subst hdV e
  refine { gC := He.glo_ok X G c1, exI := h1, over := h2, cd := ?_, sa := He.eqO_ok h4, ga := He.eqO_ok h5, gg := He.eqO_ok h6, noT := He.eqO_ok h7, iC := He.eqO_ok h9, tC := of_decide_eq_true h10, kC := h11, exC := of_decide_eq_true h12, tyC := of_decide_eq_true h13, hdC := h14, te := of_decide_eq_true h15, fn := ?_ }
  · cases e : PySem.W.clsIn K (He.ga K "BadForm") with
    | none => rw [e] at h3; cases h3
    | some cd => rw [e] at h3; exact ⟨cd, rfl, h3⟩
  · exact ⟨oc, od, kV, doc, pm, an, cdv, ct, osl, _, _, _, _, _, _, lk, hcd⟩
theorem txt_mk (X : K.In h) (G : h.Ns mainGlobals mg) (c : He.SaysX hfa hfn hts [] hex w h K) : Txt K mg w := by
  have cd := c.t.d
  have cx : hex K = true := c.more
  obtain ⟨v0, cx⟩ := He.ba cx
  obtain ⟨v1, cx⟩ := He.ba cx
  obtain ⟨v2, cx⟩ := He.ba cx
  obtain ⟨v3, cx⟩ := He.ba cx
  obtain ⟨v4, cx⟩ := He.ba cx
  obtain ⟨v5, cx⟩ := He.ba cx
  obtain ⟨v6, cx⟩ := He.ba cx
  obtain ⟨v7, cx⟩ := He.ba cx
  obtain ⟨v8, cx⟩ := He.ba cx
  have kvW : ∀ f, KDct K w (He.ga K "WRITERS") (foS f) (.ref (He.ga K (wnm f))) := by
    intro f
    obtain ⟨es, nn, kd⟩ := c.t.tab 1 (t := (fun K => He.ga K "WRITERS", ["three", "number", "shift", "store", "branch", "upper", "jump", "whole"])) rfl
    obtain ⟨u, e1, e2⟩ := He.valsB_ok v2 (q := (foS f, He.Dv.glo (wnm f))) (List.mem_map.mpr ⟨f, allF_mem f, rfl⟩)
    exact ⟨es, nn, u, kd.at_, kd.lit, e1, e2⟩
  have kvR : ∀ f, KDct K w (He.ga K "READERS") (foS f) (.ref (He.ga K (rnm f))) := by
    intro f
    obtain ⟨es, nn, kd⟩ := c.t.tab 2 (t := (fun K => He.ga K "READERS", ["three", "number", "shift", "store", "branch", "upper", "jump", "whole"])) rfl
    obtain ⟨u, e1, e2⟩ := He.valsB_ok v7 (q := (foS f, He.Dv.glo (rnm f))) (List.mem_map.mpr ⟨f, allF_mem f, rfl⟩)
    exact ⟨es, nn, u, kd.at_, kd.lit, e1, e2⟩
  exact {
    d_is_number := df_mk X G (cd.fact 0 (f := .glo "is_number") rfl) (cd.def_ 0 (d := dd_is_number) rfl),
    d_encode := df_mk X G (cd.fact 1 (f := .glo "encode") rfl) (cd.def_ 1 (d := dd_encode) rfl),
    d__are_registers := df_mk X G (cd.fact 2 (f := .glo "_are_registers") rfl) (cd.def_ 2 (d := dd__are_registers) rfl),
    d__is_distance := df_mk X G (cd.fact 3 (f := .glo "_is_distance") rfl) (cd.def_ 3 (d := dd__is_distance) rfl),
    d__write_three := df_mk X G (cd.fact 4 (f := .glo "_write_three") rfl) (cd.def_ 4 (d := dd__write_three) rfl),
    d__write_number := df_mk X G (cd.fact 5 (f := .glo "_write_number") rfl) (cd.def_ 5 (d := dd__write_number) rfl),
    d__write_store := df_mk X G (cd.fact 6 (f := .glo "_write_store") rfl) (cd.def_ 6 (d := dd__write_store) rfl),
    d__write_branch := df_mk X G (cd.fact 7 (f := .glo "_write_branch") rfl) (cd.def_ 7 (d := dd__write_branch) rfl),
    d__write_upper := df_mk X G (cd.fact 8 (f := .glo "_write_upper") rfl) (cd.def_ 8 (d := dd__write_upper) rfl),
    d__write_jump := df_mk X G (cd.fact 9 (f := .glo "_write_jump") rfl) (cd.def_ 9 (d := dd__write_jump) rfl),
    d__write_whole := df_mk X G (cd.fact 10 (f := .glo "_write_whole") rfl) (cd.def_ 10 (d := dd__write_whole) rfl),
    d_decode := df_mk X G (cd.fact 11 (f := .glo "decode") rfl) (cd.def_ 11 (d := dd_decode) rfl),
    d__with_sign := df_mk X G (cd.fact 12 (f := .glo "_with_sign") rfl) (cd.def_ 12 (d := dd__with_sign) rfl),
    d__read_three := df_mk X G (cd.fact 13 (f := .glo "_read_three") rfl) (cd.def_ 13 (d := dd__read_three) rfl),
    d__read_number := df_mk X G (cd.fact 14 (f := .glo "_read_number") rfl) (cd.def_ 14 (d := dd__read_number) rfl),
    d__read_store := df_mk X G (cd.fact 15 (f := .glo "_read_store") rfl) (cd.def_ 15 (d := dd__read_store) rfl),
    d__read_branch := df_mk X G (cd.fact 16 (f := .glo "_read_branch") rfl) (cd.def_ 16 (d := dd__read_branch) rfl),
    d__read_upper := df_mk X G (cd.fact 17 (f := .glo "_read_upper") rfl) (cd.def_ 17 (d := dd__read_upper) rfl),
    d__read_jump := df_mk X G (cd.fact 18 (f := .glo "_read_jump") rfl) (cd.def_ 18 (d := dd__read_jump) rfl),
    d__read_whole := df_mk X G (cd.fact 19 (f := .glo "_read_whole") rfl) (cd.def_ 19 (d := dd__read_whole) rfl),
    d_instruction_text := df_mk X G (cd.fact 20 (f := .glo "instruction_text") rfl) (cd.def_ 20 (d := dd_instruction_text) rfl),
    d_instruction_by := df_mk X G (cd.fact 21 (f := .glo "instruction_by") rfl) (cd.def_ 21 (d := dd_instruction_by) rfl),
    d__parts_put := df_mk X G (cd.fact 22 (f := .glo "_parts_put") rfl) (cd.def_ 22 (d := dd__parts_put) rfl),
    d__register := df_mk X G (cd.fact 23 (f := .glo "_register") rfl) (cd.def_ 23 (d := dd__register) rfl),
    d__number := df_mk X G (cd.fact 24 (f := .glo "_number") rfl) (cd.def_ 24 (d := dd__number) rfl),
    d__law_cell_at := df_mk X G (cd.fact 25 (f := .glo "_law_cell_at") rfl) (cd.def_ 25 (d := dd__law_cell_at) rfl),
    d__law_draw := df_mk X G (cd.fact 26 (f := .glo "_law_draw") rfl) (cd.def_ 26 (d := dd__law_draw) rfl),
    d__law_number := df_mk X G (cd.fact 27 (f := .glo "_law_number") rfl) (cd.def_ 27 (d := dd__law_number) rfl),
    d__law_next := df_mk X G (cd.fact 28 (f := .glo "_law_next") rfl) (cd.def_ 28 (d := dd__law_next) rfl),
    d__law_bits := df_mk X G (cd.fact 29 (f := .glo "_law_bits") rfl) (cd.def_ 29 (d := dd__law_bits) rfl),
    d__law_sum := df_mk X G (cd.fact 30 (f := .glo "_law_sum") rfl) (cd.def_ 30 (d := dd__law_sum) rfl),
    d__law_tables := df_mk X G (cd.fact 31 (f := .glo "_law_tables") rfl) (cd.def_ 31 (d := dd__law_tables) rfl),
    d__law_all := df_mk X G (cd.fact 32 (f := .glo "_law_all") rfl) (cd.def_ 32 (d := dd__law_all) rfl),
    d__law_refused := df_mk X G (cd.fact 33 (f := .glo "_law_refused") rfl) (cd.def_ 33 (d := dd__law_refused) rfl),
    d_law := df_mk X G (cd.fact 34 (f := .glo "law") rfl) (cd.def_ 34 (d := dd_law) rfl),
    c_MOST_REGISTER := He.int_ok X G (cd.fact 52 (f := .int "MOST_REGISTER" (31)) rfl),
    c_HALF_NUMBER := He.int_ok X G (cd.fact 53 (f := .int "HALF_NUMBER" (2048)) rfl),
    c_HALF_BRANCH := He.int_ok X G (cd.fact 54 (f := .int "HALF_BRANCH" (4096)) rfl),
    c_HALF_JUMP := He.int_ok X G (cd.fact 55 (f := .int "HALF_JUMP" (1048576)) rfl),
    c_MOST_SIGNS := He.int_ok X G (cd.fact 56 (f := .int "MOST_SIGNS" (8)) rfl),
    c_FIGURES := He.str_ok X G (cd.fact 57 (f := .str "FIGURES" "0123456789") rfl),
    c_FORMS := He.glo_ok X G (cd.fact 35 (f := .glo "FORMS") rfl),
    c_BY_LAST_BITS := He.glo_ok X G (cd.fact 36 (f := .glo "BY_LAST_BITS") rfl),
    c_WRITERS := He.glo_ok X G (cd.fact 37 (f := .glo "WRITERS") rfl),
    c_READERS := He.glo_ok X G (cd.fact 38 (f := .glo "READERS") rfl),
    c_REGISTERS := He.glo_ok X G (cd.fact 39 (f := .glo "REGISTERS") rfl),
    c_LOADS := He.glo_ok X G (cd.fact 40 (f := .glo "LOADS") rfl),
    k_FORMS := c.t.tab 0 (t := (fun K => He.ga K "FORMS", ((["add", "sub", "sll", "slt", "sltu", "xor", "srl", "sra", "or", "and", "mul", "mulh", "mulhsu", "mulhu", "div", "divu", "rem", "remu", "addi", "slti"] : List Str) ++ (["sltiu", "xori", "ori", "andi", "slli", "srli", "srai", "lb", "lh", "lw", "lbu", "lhu", "jalr", "sb", "sh", "sw", "beq", "bne", "blt", "bge"] : List Str) ++ (["bltu", "bgeu", "lui", "auipc", "jal", "ecall", "ebreak", "fence"] : List Str)))) rfl,
    k_WRITERS := c.t.tab 1 (t := (fun K => He.ga K "WRITERS", ["three", "number", "shift", "store", "branch", "upper", "jump", "whole"])) rfl,
    k_READERS := c.t.tab 2 (t := (fun K => He.ga K "READERS", ["three", "number", "shift", "store", "branch", "upper", "jump", "whole"])) rfl,
    n_len := He.free_ok X G (cd.fact 42 (f := .free "len") rfl),
    n_tuple := He.free_ok X G (cd.fact 43 (f := .free "tuple") rfl),
    n_isinstance := He.free_ok X G (cd.fact 44 (f := .free "isinstance") rfl),
    n_str := He.free_ok X G (cd.fact 45 (f := .free "str") rfl),
    n_int := He.free_ok X G (cd.fact 46 (f := .free "int") rfl),
    n_bool := He.free_ok X G (cd.fact 47 (f := .free "bool") rfl),
    n_all := He.free_ok X G (cd.fact 48 (f := .free "all") rfl),
    n_enumerate := He.free_ok X G (cd.fact 49 (f := .free "enumerate") rfl),
    n_range := He.free_ok X G (cd.fact 50 (f := .free "range") rfl),
    n_sum := He.free_ok X G (cd.fact 51 (f := .free "sum") rfl),
    ga__write_three := He.glo_ok X G (cd.fact 4 (f := .glo "_write_three") rfl),
    ga__write_number := He.glo_ok X G (cd.fact 5 (f := .glo "_write_number") rfl),
    ga__write_store := He.glo_ok X G (cd.fact 6 (f := .glo "_write_store") rfl),
    ga__write_branch := He.glo_ok X G (cd.fact 7 (f := .glo "_write_branch") rfl),
    ga__write_upper := He.glo_ok X G (cd.fact 8 (f := .glo "_write_upper") rfl),
    ga__write_jump := He.glo_ok X G (cd.fact 9 (f := .glo "_write_jump") rfl),
    ga__write_whole := He.glo_ok X G (cd.fact 10 (f := .glo "_write_whole") rfl),
    ga__read_three := He.glo_ok X G (cd.fact 13 (f := .glo "_read_three") rfl),
    ga__read_number := He.glo_ok X G (cd.fact 14 (f := .glo "_read_number") rfl),
    ga__read_store := He.glo_ok X G (cd.fact 15 (f := .glo "_read_store") rfl),
    ga__read_branch := He.glo_ok X G (cd.fact 16 (f := .glo "_read_branch") rfl),
    ga__read_upper := He.glo_ok X G (cd.fact 17 (f := .glo "_read_upper") rfl),
    ga__read_jump := He.glo_ok X G (cd.fact 18 (f := .glo "_read_jump") rfl),
    ga__read_whole := He.glo_ok X G (cd.fact 19 (f := .glo "_read_whole") rfl),
    bf := bf_mk X G (cd.fact 41 (f := .glo "BadForm") rfl) (cd.def_ 35 (d := dd_BadForm___init__) rfl) v6,
    f_ent := fun o ho => Kg.entA_ok (List.all_eq_true.mp v0 o (List.mem_range.mpr ho)),
    f_no := keysB_ok v1,
    w_tab := kvW,
    r_tab := kvR,
    k_BY := byB_ok v8,
    t_REGISTERS := fun H => by have := He.tupB_ok v3 H; rwa [List.map_map] at this,
    t_LOADS := fun H => by have := He.tupB_ok v4 H; rwa [List.map_map] at this,
    ty_REGISTERS := tyB_ok v5 }
theorem all_ok (X : K.In h) (G : h.Ns mainGlobals mg) (c : He.SaysX hfa hfn hts [] hex w h K) (base : Heap) : Gd P w K mg base CX0 7 "law" ["script"] (sp_law K) := by
  have T := txt_mk X G c
  have G_is_number := g_is_number (P := P) (base := base) T 
  have G__are_registers := g__are_registers (P := P) (base := base) T G_is_number
  have G__is_distance := g__is_distance (P := P) (base := base) T G_is_number
  have G__write_three := g__write_three (P := P) (base := base) T G__are_registers
  have G__write_number := g__write_number (P := P) (base := base) T G__are_registers G_is_number
  have G__write_store := g__write_store (P := P) (base := base) T G__are_registers G_is_number
  have G__write_branch := g__write_branch (P := P) (base := base) T G__are_registers G__is_distance
  have G__write_upper := g__write_upper (P := P) (base := base) T G__are_registers G_is_number
  have G__write_jump := g__write_jump (P := P) (base := base) T G__are_registers G__is_distance G_is_number
  have G__write_whole := g__write_whole (P := P) (base := base) T G_is_number
  have G_encode := g_encode (P := P) (base := base) T G__write_three G__write_number G__write_store G__write_branch G__write_upper G__write_jump G__write_whole
  have G__with_sign := g__with_sign (P := P) (base := base) T 
  have G__read_three := g__read_three (P := P) (base := base) T 
  have G__read_number := g__read_number (P := P) (base := base) T G__with_sign
  have G__read_store := g__read_store (P := P) (base := base) T G__with_sign
  have G__read_branch := g__read_branch (P := P) (base := base) T G__with_sign
  have G__read_upper := g__read_upper (P := P) (base := base) T 
  have G__read_jump := g__read_jump (P := P) (base := base) T G__with_sign
  have G__read_whole := g__read_whole (P := P) (base := base) T 
  have G_decode := g_decode (P := P) (base := base) T G__read_three G__read_number G__read_store G__read_branch G__read_upper G__read_jump G__read_whole
  have G_instruction_text := g_instruction_text (P := P) (base := base) T G_encode
  have G__register := g__register (P := P) (base := base) T 
  have G__number := g__number (P := P) (base := base) T 
  have G__parts_put := g__parts_put (P := P) (base := base) T G__register G__number
  have G_instruction_by := g_instruction_by (P := P) (base := base) T G_instruction_text G__parts_put
  have G__law_cell_at := g__law_cell_at (P := P) (base := base) T 
  have G__law_draw := g__law_draw (P := P) (base := base) T 
  have G__law_number := g__law_number (P := P) (base := base) T G__law_draw
  have G__law_next := g__law_next (P := P) (base := base) T G__law_cell_at G__law_number
  have G__law_bits := g__law_bits (P := P) (base := base) T 
  have G__law_sum := g__law_sum (P := P) (base := base) T 
  have G__law_tables := g__law_tables (P := P) (base := base) T 
  have G__law_all := g__law_all (P := P) (base := base) T G__law_tables G__law_next G__law_bits
  have G__law_refused := g__law_refused (P := P) (base := base) T G_encode
  have G_law := g_law (P := P) (base := base) T G__law_all G_encode G__law_sum G_decode G_instruction_by G_instruction_text G__law_refused
  exact G_law
end
end K66E


namespace K66E
open PySem PySem.Spec PyProof.Rows L2 My Ru I6 K66
theorem name_law : (HandSHeadRun.topDef (PySem.W.OpenLaw.row PySem.Challenge.rw_trueimage_k66_forms_told).prog 53).name = ("law" : PySem.Str) := by kernel_rfl
theorem end_core {P : Program} {w : World} {K : PySem.W.Frag} {h : Heap} {mg : Str → Option Value} {fa : Addr} (KX : K.In h) (G : h.Ns mainGlobals mg) (c : He.SaysX hfa hfn hts [] hex w h K) (hmg : mg ("law" : PySem.Str) = some (.ref fa)) :
    ∃ (K : PySem.W.Frag) (fd : FuncData) (sp : Sp), K.In h ∧ (∀ (s : Shared) (u : Value), BindsTo s fd ⟨[u], []⟩ [(("script" : PySem.Str), u)]) ∧
        (∀ (H : Hp) (a : Addr) (ns : List Int), ns.length ≤ 63 → Only H → SqL K H a (ns.map V.int) → sp [.ref a] H (fun v _ => v = .bl true) fun _ _ _ => False) ∧
        ∀ base : Heap, K.In base → base.Ns mainGlobals mg → FnOk P w K mg base CX0 7 fa fd ["script"] sp :=
  K66.law_core (txt_mk KX G c) KX hmg (fun base => all_ok KX G c base)
end K66E
open PySem PySem.W PySem.Calls PyProof.Rows
set_option maxRecDepth 100000 in
set_option maxHeartbeats 8000000 in
theorem PySem.Challenge.cw_trueimage_k66_forms_told_holds : PySem.Challenge.rw_trueimage_k66_forms_told.Holds := by
  w_on; o_law
  refine HandSHeadRun.head_any (r := OpenLaw.row PySem.Challenge.rw_trueimage_k66_forms_told) (q := view (OpenLaw.row PySem.Challenge.rw_trueimage_k66_forms_told).prog [53]) (H := K66E.hk) (ob := K66E.hob) (M := 9000) (loose := K66E.hloose) (d := HandSHeadRun.topDef (OpenLaw.row PySem.Challenge.rw_trueimage_k66_forms_told).prog 53) (kwd := []) K66E.hob_eq
    (by kernel_rfl) (fun s => by kernel_rfl) K66E.hrun (by kernel_rfl) (by kernel_rfl) (by kernel_rfl) (by rfl) (by first | assumption | decide +kernel) (by decide +kernel) ⟨rfl, rfl, rfl, rfl, rfl, by decide +kernel⟩ ?hw ?hc
  case hw => w_witness2
  case hc =>
    refine L2.walk_ofE (l := PySem.Challenge.rw_trueimage_k66_forms_told) (n := 63) (k := 7) (x := "script") (CX := L2.CX0) rfl (by decide) (by kernel_rfl) ⟨rfl, by decide, by decide⟩ ?F (fun _ _ _ _ z => z)
    intro w mg fa h Y G hmg0
    obtain ⟨K, KX, c⟩ := Y
    exact K66E.end_core KX G c (K66E.name_law ▸ hmg0)

