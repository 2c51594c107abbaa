import PyProof.Rows.All
import Wide.All
import OpenK.AllK
import Wide.FinOn
import HandS.ForMost
import HandS.HeadHook4
import HandS.Wide
import HandS.CallLocal
import HandS.Style
import HandS.Flow
import HandS.Head0
import HandS.Head1
import HandS.Head2
import HandS.HeadEnd
import HandS.EndBits
import HandS.ForExc
import HandS.ExcInit
import HandS.TryElse
import KE.KExcInit
import KE.KExcSuper
import HandS.IsInst
import HandS.StrMore
import KE.GoesNew
import KE.GoesMore
import HandS.Walk
import KE.KBits
import KE.BitLaws
import PyProof.Rows.BitMore
import HandS.Zip
import HandS.DictComp
import HandS.FStr
import HandS.Strs
import HandS.TryOnly
import HandS.Text
import KE.IntTextLaws
import HandS.ClsMeth
import HandS.TupMul
import KE.KDictPairs
import KE.KDictLaws
import KE.GoesZip
import KE.KDictZip
import HandS.TupAny
import PySem.Challenge.RW_trueimage_k55_known_low_runs
set_option Elab.async false
set_option linter.all false
set_option maxRecDepth 100000
set_option maxHeartbeats 2000000
namespace My
open PySem PySem.Spec PyProof.Rows L2
/-! ### promises by the number of arguments -/
def sp1 (p : V → Hp → VK → XK → Prop) : Sp := fun vs H Q E => ∃ a, vs = [a] ∧ p a H Q E
def sp2 (p : V → V → Hp → VK → XK → Prop) : Sp := fun vs H Q E => ∃ a b, vs = [a, b] ∧ p a b H Q E
def sp3 (p : V → V → V → Hp → VK → XK → Prop) : Sp := fun vs H Q E => ∃ a b c, vs = [a, b, c] ∧ p a b c H Q E
def sp4 (p : V → V → V → V → Hp → VK → XK → Prop) : Sp := fun vs H Q E => ∃ a b c d, vs = [a, b, c, d] ∧ p a b c d H Q E
theorem len1 {p} (vs : List V) (H : Hp) (Q : VK) (E : XK) (h : sp1 p vs H Q E) : vs.length = 1 := by obtain ⟨a, rfl, _⟩ := h; rfl
theorem len2 {p} (vs : List V) (H : Hp) (Q : VK) (E : XK) (h : sp2 p vs H Q E) : vs.length = 2 := by obtain ⟨a, b, rfl, _⟩ := h; rfl
theorem len3 {p} (vs : List V) (H : Hp) (Q : VK) (E : XK) (h : sp3 p vs H Q E) : vs.length = 3 := by obtain ⟨a, b, c, rfl, _⟩ := h; rfl
theorem len4 {p} (vs : List V) (H : Hp) (Q : VK) (E : XK) (h : sp4 p vs H Q E) : vs.length = 4 := by obtain ⟨a, b, c, d, rfl, _⟩ := h; rfl
/-! ### a def of the text behind its name, a def that keeps its promise -/
structure Df (K : PySem.W.Frag) (mg : Str → Option Value) (x : Str) (st : Stmt) : Prop where
  ex : ∃ (f : Addr) (fd : FuncData), mg x = some (.ref f) ∧ FunD K x x (defArgs st) (defBody st) (defScope st) [] [] f fd
structure Gd (P : Program) (w : World) (K : PySem.W.Frag) (mg : Str → Option Value) (base : Heap) (CX : CXT) (k : Nat) (x : Str) (ps : List Str) (sp : Sp) : Prop where
  ex : ∃ (f : Addr) (fd : FuncData), mg x = some (.ref f) ∧ FnOk P w K mg base CX k f fd ps sp ∧ Binds K fd ps [] ∧ PySem.W.keepIn K (.ref f) = true ∧ ∃ oc od osl, K.lookup f = some ⟨oc, od, .func fd, osl⟩
section
variable {P : Program} {w : World} {K : PySem.W.Frag} {mg : Str → Option Value} {base : Heap}
theorem Gd.mono {CX : CXT} {j k : Nat} {x : Str} {ps : List Str} {sp : Sp} (h : Gd P w K mg base CX j x ps sp) (hk : j ≤ k) : Gd P w K mg base CX k x ps sp := by
  obtain ⟨f, fd, a, b, c, d, e⟩ := h.ex
  exact ⟨f, fd, a, b.mono hk, c, d, e⟩
/-- a def out of which no exception comes -/
theorem Df.ok {x : Str} {st : Stmt} {N ps : List Str} {k : Nat} {sp : Sp} (D : Df K mg x st) (S : FnScope N ps (defScope st)) (len : ∀ vs H Q E, sp vs H Q E → vs.length = ps.length)
    (hb : ∀ (kV doc pm : Value) (an : Option Addr) (cdv ct : Value) (us : List Value), us.length = ps.length → bindArgs (PySem.W.fnOf x x (defArgs st) (defBody st) (defScope st) .none kV doc pm an cdv ct) ⟨us, []⟩ = pure (ps.zip us))
    (hbody : ∀ (f : Addr) (cdv : Value) (A : Around) (outer : List Env) (s : Shared) (H : Hp) (vs : List V) (Q : VK) (E : XK), Room k (A.deeper (envOfC x (defScope st) s.heap.objs.size f cdv)) → sp vs H Q E →
      ∃ t, PSs (cxOf CX0 P w K mg base N x (defScope st) f cdv A outer s H E).nox (defBody st) t ∧ t { nx := fun _ H' => Q .non H', rt := Q } (start N vs) H) : Gd P w K mg base CX0 (k + 1) x ps sp := by
  obtain ⟨f, fd, hm, F⟩ := D.ex
  have lk : ∃ oc od osl, K.lookup f = some ⟨oc, od, .func fd, osl⟩ := by
    obtain ⟨oc, od, dV, kV, doc, pm, an, cdv, ct, osl, e, l, _⟩ := F.ex
    exact ⟨oc, od, osl, l⟩
  refine ⟨f, fd, hm, F.ok S len fun cdv A outer s H vs Q E hr h => ?_, F.bindsN hb, F.kp, lk⟩
  obtain ⟨t, h1, h2⟩ := hbody f cdv A outer s H vs Q E hr h
  exact ⟨t, h1.nox, h2⟩
end
section
variable {X : Cx} {CX : CXT} {k : Nat} {x : Str} {ps : List Str} {sp : Sp} {E : XK} {e : Expr} {es : List Expr} {t : TA} {p pos : Pos}
def tCallG (sp : Sp) (E : XK) (t : TA) : TE := fun σ H Q => t σ H fun vs H1 => sp vs H1 Q E
theorem pe_g (h : Gd X.prog X.w X.K X.mg X.base CX k x ps sp) (hr : Room k X.A) (hx : Passes CX X E) (ha : PA X (e :: es) t) (hg : Gl X x := by rfl) (hdb : (x == ("__debug__" : Str)) = false := by decide)
    (he : starEach (e :: es) X.env = (false, eval e X.env) :: starEach es X.env := by rfl) (hpl : (backTo pos (starEach es X.env)).any (·.1) = false := by rfl) : PE X (.Call (.Name x p) (e :: es) [] pos) (tCallG sp E t) := by
  obtain ⟨f, fd, hm, F, hb, hk, _⟩ := h.ex
  have z := pe_call (p := p) F hr hg hm hk hb .nil hx ha hdb he hpl
  refine ⟨fun pins s σ H Q I hw => z.run pins s σ H Q I ?_⟩
  have e0 : (fun (vs : List V) (H1 : Hp) => sp (vs ++ []) H1 Q E) = fun vs H1 => sp vs H1 Q E := by
    funext vs H1
    rw [List.append_nil]
  show t σ H (fun vs H1 => sp (vs ++ []) H1 Q E)
  rw [e0]
  exact hw
/-- the module's ints, texts -/
theorem pe_gint {i : Int} (h : ∃ t, X.mg x = some (.int i t)) (hg : Gl X x := by rfl) (hd : (x == ("__debug__" : Str)) = false := by decide) : PE X (.Name x pos) (tC (.int i)) := by
  obtain ⟨t, h⟩ := h
  exact pe_glob hg h ⟨_, rfl⟩ hd
theorem pe_gstr {z : Str} (h : ∃ t, X.mg x = some (.str z t)) (hg : Gl X x := by rfl) (hd : (x == ("__debug__" : Str)) = false := by decide) : PE X (.Name x pos) (tC (.str z)) := by
  obtain ⟨t, h⟩ := h
  exact pe_glob hg h ⟨_, rfl⟩ hd
theorem pe_gref {a : Addr} (h : X.mg x = some (.ref a)) (hg : Gl X x := by rfl) (hd : (x == ("__debug__" : Str)) = false := by decide) : PE X (.Name x pos) (tC (.ref a)) := pe_glob hg h rfl hd
end
end My

set_option maxHeartbeats 4000000
namespace Bt
open PySem PySem.W PySem.Calls PyProof.Rows
abbrev exB : List Value := [.type "Exception", .type "BaseException", .type "object"]
def plainExc (C t : Addr) (dd : Option Addr) : Obj := { cls := .ref C, dict := dd, data := .fields #[.ref t, .none, .none, .none, .bool false, .none] }
section
variable {prog : Program} {w : World} {A : Around} {R : Result → Shared → Prop} {hp : Heap} {g : Array GenState} {d : Drawn} {t : Nat} {os : OsState} {K : Frag} {C x : Addr} {name : Str} {tk : Tok} {v : Value}
/-- the first field of a raised thing: its dict is laid -/
theorem fld_first (X : K.In hp) {t0 : Addr} (hx : hp.get? x = some (plainExc C t0 none)) (hov : excOver K C exB = true) {cd : ClassData} (hcd : clsIn K C = some cd) (hh : cd.hasDict = true) (hno : findIn K (.ref C) name = some none)
    (hq : ∀ h' tk' dx, (∀ b o, b ≠ x → hp.get? b = some o → h'.get? b = some o) → hp.objs.size ≤ dx → dx ≠ x → h'.get? x = some (plainExc C t0 (some dx)) → h'.Ns1 dx (fun y => if y = name then some v else none) →
      R (.ok (.ret .none)) ⟨h', g, d, tk', os⟩) :
    codeAny (model prog w) A (.call (.builtin "object.__setattr__") ⟨[.ref x, .str name tk, v], []⟩) R ⟨hp, g, d, t, os⟩ := by
  have tak : takerIn K C name = some none := by unfold takerIn; rw [hno]; rfl
  have inst : InstAt hp x (plainExc C t0 none) C none := ⟨hx, rfl, rfl, trivial⟩
  have lc : Looks (model prog w) hp (classData C) cd := looks_clsIn X hcd
  have far : x ≠ hp.objs.size := Nat.ne_of_lt (Heap.lt_size hx)
  refine osa_openX (s := ⟨hp, g, d, t, os⟩) PySem.F.store_Exception X inst hov tak fun b => ?_
  obtain ⟨n1, n2, n3, n4, n5, n6, n7, n8, n9, n10, n11⟩ := cd
  dsimp only at hh
  subst hh
  show wpAny _ _ (Builtin.ObjectAttr.storeInOwnDict _ _ _ _ _ _) _ _ _
  unfold Builtin.ObjectAttr.storeInOwnDict Builtin.ObjectAttr.ownDictForStores
  repeat (first | with_reducible refine lc.at ?_ | with_reducible refine wpAny_loadPart_at hx ?_ | with_reducible refine HandSPX.store_in_new ?_ ?_ | wp_step)
  · exact ⟨_, #[], _, (Heap.get?_update_ne _ _ _ _ far.symm).trans (Heap.get?_push_at rfl rfl), rfl, (fun e he => absurd he (by simp)), fun _ => rfl⟩
  · intro h1 tk1 nsd same
    have hx1 : (hp.push { cls := .type "dict", data := .dict #[] }).get? x = some (plainExc C t0 none) := Heap.get?_push_of_some _ hx
    refine hq h1 tk1 hp.objs.size (fun b o hb ho => ?_) (Nat.le_refl _) far.symm ?_ nsd
    · have y := same.2 b (Nat.ne_of_lt (Heap.lt_size ho))
      rw [y, Heap.get?_update_ne _ _ _ _ hb]
      exact Heap.get?_push_of_some _ ho
    · have y := same.2 x far
      rw [y]
      exact Heap.get?_update_self _ hx1 rfl
/-- a further field -/
theorem fld_more (X : K.In hp) {t0 dx : Addr} {m0 : Str → Option Value} {nl : List Str} (hx : hp.get? x = some (plainExc C t0 (some dx))) (hns : hp.Ns1 dx m0) (hw : Within m0 nl) (hz : nl.length ≤ 1000) (hov : excOver K C exB = true) {cd : ClassData} (hcd : clsIn K C = some cd) (hh : cd.hasDict = true) (hno : findIn K (.ref C) name = some none)
    (hq : ∀ h' tk', (∀ b o, b ≠ dx → hp.get? b = some o → h'.get? b = some o) → h'.Ns1 dx (fun y => if y = name then some v else m0 y) → R (.ok (.ret .none)) ⟨h', g, d, tk', os⟩) :
    codeAny (model prog w) A (.call (.builtin "object.__setattr__") ⟨[.ref x, .str name tk, v], []⟩) R ⟨hp, g, d, t, os⟩ := by
  have tak : takerIn K C name = some none := by unfold takerIn; rw [hno]; rfl
  obtain ⟨oD, esD, epD, hoD, hdD, _⟩ := hns.count hw
  have inst : InstAt hp x (plainExc C t0 (some dx)) C (some oD) := ⟨hx, rfl, rfl, hoD⟩
  have lc : Looks (model prog w) hp (classData C) cd := looks_clsIn X hcd
  refine osa_openX (s := ⟨hp, g, d, t, os⟩) PySem.F.store_Exception X inst hov tak fun b => ?_
  obtain ⟨n1, n2, n3, n4, n5, n6, n7, n8, n9, n10, n11⟩ := cd
  dsimp only at hh
  subst hh
  show wpAny _ _ (Builtin.ObjectAttr.storeInOwnDict _ _ _ _ _ _) _ _ _
  unfold Builtin.ObjectAttr.storeInOwnDict Builtin.ObjectAttr.ownDictForStores
  repeat (first | with_reducible refine lc.at ?_ | with_reducible refine wpAny_loadPart_at hx ?_ | with_reducible refine PySem.OEX.store_in_old hns hw hz ?_ | wp_step)
  intro h1 tk1 nsd same
  exact hq h1 tk1 (fun b o hb ho => by rw [same.2 b hb]; exact ho) nsd
end
/-! ### BadText: what the written part says of it; its __init__ -/
def iA (p1 p2 p3 : Pos) : Arguments := { posonlyargs := [], args := [{ arg := "self", annotation := none, pos := p1 }, { arg := "line", annotation := none, pos := p2 }, { arg := "column", annotation := none, pos := p3 }], vararg := none, kwonlyargs := [], kw_defaults := [], kwarg := none, defaults := [] }
def iB (q1 q2 q3 q4 r1 r2 r3 r4 : Pos) : List Stmt := [.Assign [.Attribute (.Name "self" q1) "line" q2] (.Name "line" q3) q4, .Assign [.Attribute (.Name "self" r1) "column" r2] (.Name "column" r3) r4]
def iS : Scope := { kind := .function, names := [(PySem.Str.ofString "self", .local), (PySem.Str.ofString "line", .local), (PySem.Str.ofString "column", .local)], isGenerator := false, isCoroutine := false, more := [] }
structure BtTxt (K : Frag) (mg : Str → Option Value) (C fI : Addr) : Prop where
  gC : mg "BadText" = some (.ref C)
  exI : excInitIn K C exB "Exception.__new__" = true
  over : excOver K C exB = true
  cd : ∃ cd, clsIn K C = some cd ∧ cd.hasDict = true
  sa : findIn K (.ref C) "__setattr__" = some (some (.builtin "object.__setattr__"))
  ga : findIn K (.ref C) "__getattribute__" = some (some (.builtin "BaseException.__getattribute__"))
  gg : findIn K (.ref C) "__getattr__" = some none
  noL : findIn K (.ref C) "line" = some none
  noC : findIn K (.ref C) "column" = some none
  iC : findIn K (.ref C) "__init__" = some (some (.ref fI))
  tC : typeIn K (.ref fI) = some (.type "function")
  kC : keepIn K (.ref C) = true
  exC : subIn K (.ref C) (.type "BaseException") = some true
  tyC : typeIn K (.ref C) = some (.type "type")
  hdC : hasDictIn K C = true
  te : exmOne K (.ref C) (.ref C) = some true
  fn : ∃ (oc : Value) (od : Option Addr) (kV doc pm : Value) (an : Option Addr) (cdv ct : Value) (osl : Array (Option Value)) (p1 p2 p3 q1 q2 q3 q4 r1 r2 r3 r4 : Pos),
    K.lookup fI = some ⟨oc, od, .func (fnOf "__init__" "BadText.__init__" (iA p1 p2 p3) (iB q1 q2 q3 q4 r1 r2 r3 r4) iS .none kV doc pm an cdv ct), osl⟩ ∧ codeIn K cdv "BadText.__init__" = true
theorem one_size (v u : Value) : [v, u].length ≤ sizeLine := by
  rw [sizeLine_eq]
  exact (by decide : 2 ≤ 16777216)
theorem ldC {M : Model} {s : Shared} {name : Str} {scope : Scope} {L a : Addr} {cd : Value} {m : Str → Option Value} {x : Str} {pos : Pos} {v : Value} {Q : Value → Shared → Prop} {A : Around} {E : Value → Shared → Prop} (hn : s.heap.Ns L m) (hv : m x = some v) (h : Q v s)
    (hk : scope.kind = .function := by rfl) (hl : (envOfC name scope L a cd).kindOf x = some .local := by rfl) (hd : (x == ("__debug__" : Str)) = false := by decide) :
    wpAny M A (eval (.Name x pos) (envOfC name scope L a cd)) Q E s := wpAny_Name (wpAny_loadName_local hk hl hn hv h) hd
def two (l c : Value) : Str → Option Value := fun y => if y = "column" then some c else if y = "line" then some l else none
/-- what __init__ leaves of a fresh exception at x -/
structure InitEnd (h h' : Heap) (x C dx t1 : Addr) (l c : Value) : Prop where
  keep : ∀ b o, b ≠ x → h.get? b = some o → h'.get? b = some o
  obj : h'.get? x = some (plainExc C t1 (some dx))
  dbig : h.objs.size ≤ dx
  dne : dx ≠ x
  ns : h'.Ns1 dx (two l c)
/-- a made BadText -/
structure OwnMade (h h' : Heap) (e C d : Addr) (l c : Value) : Prop where
  keep : ∀ b o, h.get? b = some o → h'.get? b = some o
  new : h.objs.size ≤ e
  obj : ∃ oe vs, h'.get? e = some oe ∧ oe.cls = .ref C ∧ oe.dict = some d ∧ oe.data = .fields vs ∧ vs[1]? = some .none
  dbig : h.objs.size ≤ d
  dne : d ≠ e
  ns : h'.Ns1 d (two l c)
section
variable {prog : Program} {w : World} {A : Around} {E : Value → Shared → Prop} {R : Result → Shared → Prop} {s : Shared} {K : Frag} {mg : Str → Option Value} {C fI : Addr}
theorem bt_init (T : BtTxt K mg C fI) {x t0 : Addr} {l c : Value} (X : K.In s.heap) (hlim : s.heap.NoLimit) (hx : s.heap.get? x = some (plainExc C t0 none)) (hnx : K.lookup x = none) (hroom : A.depth < recursionLimit)
    (hq : ∀ h' tk dx, InitEnd s.heap h' x C dx t0 l c → R (.ok (.ret .none)) { s with heap := h', toks := tk }) :
    codeAny (model prog w) A (.call (.ref fI) ⟨[.ref x, l, c], []⟩) R s := by
  obtain ⟨oc, od, kV, doc, pm, an, cdv, ct, osl, p1, p2, p3, q1, q2, q3, q4, r1, r2, r3, r4, ho, hcd⟩ := T.fn
  obtain ⟨cd, hcl, hhd⟩ := T.cd
  refine Att.call_fn (binds := [("self", .ref x), ("line", l), ("column", c)]) X hlim ho hcd hroom (BindsTo.of_eq (by first | rfl | with_unfolding_all rfl)) (by first | rfl | decide | with_unfolding_all rfl) (fun s₁ IC => ?_) rfl rfl rfl
  obtain ⟨h₁, tk₁, rfl⟩ := IC.toInCall.same
  have k : ∀ b o, s.heap.get? b = some o → h₁.get? b = some o := IC.toInCall.keep
  have hn := IC.toInCall.ns
  have hLx : s.heap.objs.size ≠ x := Nat.ne_of_gt (Heap.lt_size hx)
  have X₁ : K.In h₁ := X.keeps k
  have hx₁ := k _ _ hx
  have z : s.heap.objs.size < h₁.objs.size := hn.lt
  -- self.line = line
  show wpAny _ _ (execs _ _) _ _ _
  refine wpAny_execs_cons (plainObj_wpAny_Assign_Attribute ?_)
  refine ldC (v := l) hn (by first | rfl | with_unfolding_all rfl | kernel_rfl) (ldC (v := .ref x) hn (by first | rfl | with_unfolding_all rfl | kernel_rfl) ?_)
  refine set_plain X₁ (ox := plainExc C t0 none) (od := none) ⟨hx₁, rfl, rfl, trivial⟩ T.sa ?_
  refine fld_first X₁ hx₁ T.over hcl hhd T.noL (fun h₂ tk₂ dx k₂ dn dne hx₂ hn₂ => ?_)
  have X₂ : K.In h₂ := fun b o e => k₂ b o (fun q => by rw [q, hnx] at e; cases e) (X₁ b o e)
  have hnL := hn.at (h' := h₂) (fun o e => k₂ _ _ hLx e)
  obtain ⟨oD, hoD⟩ : ∃ o, h₂.get? dx = some o := by
    obtain ⟨o, _, _, e, _⟩ := hn₂
    exact ⟨o, e⟩
  -- self.column = column
  show wpAny _ _ (execs _ _) _ _ _
  refine wpAny_execs_cons (plainObj_wpAny_Assign_Attribute ?_)
  refine ldC (v := c) hnL (by first | rfl | with_unfolding_all rfl | kernel_rfl) (ldC (v := .ref x) hnL (by first | rfl | with_unfolding_all rfl | kernel_rfl) ?_)
  refine set_plain X₂ (ox := plainExc C t0 (some dx)) (od := some oD) ⟨hx₂, rfl, rfl, hoD⟩ T.sa ?_
  have wi : Within (fun y => if y = ("line" : Str) then some l else none) [("line" : Str)] := Within.cons _ _ Within.nil
  refine fld_more X₂ hx₂ hn₂ wi (by decide) T.over hcl hhd T.noC (fun h₃ tk₃ k₃ hn₃ => ?_)
  show wpAny _ _ (execs _ _) _ _ _
  refine wpAny_execs_nil (hq h₃ tk₃ dx ⟨fun b o hb e => k₃ b o (fun q => ?_) (k₂ b o hb (k b o e)), k₃ x _ dne.symm hx₂, Nat.le_of_lt (Nat.lt_of_lt_of_le z dn), dne, hn₃⟩)
  subst q
  exact absurd (Nat.lt_of_lt_of_le (Heap.lt_size (k _ _ e)) dn) (Nat.lt_irrefl _)
theorem bt_made (T : BtTxt K mg C fI) {l c : Value} (X : K.In s.heap) (hlim : s.heap.NoLimit) (hroom : A.depth + 1 < recursionLimit)
    (hq : ∀ h' tk e d, OwnMade s.heap h' e C d l c → R (.ok (.ret (.ref e))) { s with heap := h', toks := tk }) :
    codeAny (model prog w) A (.call (.ref C) ⟨[l, c], []⟩) R s := by
  obtain ⟨nm, N, q, bs, bm, hdct, sn, sub, ab, col, dd, k0, k1, k2, k3, k5, hC, hT⟩ := excInit_of X T.exI
  obtain ⟨hp, g, dr, tk, os⟩ := s
  have k : ∀ b o, hp.get? b = some o → ((hp.push (kdv_tup [l, c])).push (HandSPX.excO C hp.objs.size)).get? b = some o := fun b o e => Heap.get?_push_of_some _ (Heap.get?_push_of_some _ e)
  have hget : ((hp.push (kdv_tup [l, c])).push (HandSPX.excO C hp.objs.size)).get? (hp.objs.size + 1) = some (HandSPX.excO C hp.objs.size) := by heap_get
  have hnx : K.lookup (hp.objs.size + 1) = none := by
    cases e : K.lookup (hp.objs.size + 1) with
    | none => rfl
    | some o =>
      have z : hp.get? (hp.objs.size + 1) = some o := X _ _ e
      exact absurd (Nat.lt_of_succ_lt (Heap.lt_size z)) (Nat.lt_irrefl _)
  refine HandSPX.call_own PySem.F.excBase_Exception hT hC (looks_findIn X T.iC) (fun self => bind_fn X self T.tC) (one_size l c) ?_
  refine bt_init (s := ⟨(hp.push (kdv_tup [l, c])).push (HandSPX.excO C hp.objs.size), g, dr, tk, os⟩) T (X.keeps k) (hlim.keeps k) hget hnx ?_ fun h' tk' dx ⟨k', hx, dn, dne, hns⟩ => ?_
  · show A.depth + 1 < recursionLimit
    exact hroom
  · have old : ∀ b o, hp.get? b = some o → h'.get? b = some o := fun b o e => k' b o (Nat.ne_of_lt (Nat.lt_succ_of_lt (Heap.lt_size e))) (k b o e)
    have z : hp.objs.size + 1 + 1 ≤ dx := by
      first
        | (simpa only [Heap.size_push] using dn)
        | exact dn
        | (have q := dn; rw [Heap.size_push, Heap.size_push] at q; exact q)
    exact ⟨rfl, hq h' tk' (hp.objs.size + 1) dx ⟨old, Nat.le_succ _, ⟨_, _, hx, rfl, rfl, rfl, rfl⟩, Nat.le_trans (Nat.le_trans (Nat.le_succ _) (Nat.le_succ _)) z, dne, hns⟩⟩
end
end Bt
namespace L2
open PySem PySem.Spec PyProof.Rows
def btFs (v u : V) : List (Str × V) := [("column", u), ("line", v)]
theorem bt_line (v u : V) : (btFs v u).lookup ("line" : Str) = some v := by
  have q : (("line" : Str) == ("column" : Str)) = false := by decide +kernel
  unfold btFs
  simp only [List.lookup, q, beq_self_eq_true]
theorem bt_col (v u : V) : (btFs v u).lookup ("column" : Str) = some u := by
  unfold btFs
  simp only [List.lookup, beq_self_eq_true]
theorem bt_rel {v u : V} {v' u' : Value} (r1 : RelV v v') (r2 : RelV u u') (f : Str) : RelO ((btFs v u).lookup f) (Bt.two v' u' f) := by
  unfold Bt.two btFs
  by_cases hc : f = "column"
  · subst hc
    rw [if_pos rfl]
    have q : List.lookup ("column" : Str) [(("column" : Str), u), (("line" : Str), v)] = some u := by simp [List.lookup]
    rw [q]
    exact r2
  · rw [if_neg hc]
    have qc : (f == ("column" : Str)) = false := by simpa using hc
    by_cases hl : f = "line"
    · subst hl
      rw [if_pos rfl]
      have q : List.lookup ("line" : Str) [(("column" : Str), u), (("line" : Str), v)] = some v := by
        simp only [List.lookup, qc]
        simp
      rw [q]
      exact r1
    · rw [if_neg hl]
      have ql : (f == ("line" : Str)) = false := by simpa using hl
      have q : List.lookup f [(("column" : Str), u), (("line" : Str), v)] = none := by
        simp only [List.lookup, qc, ql]
      rw [q]
      trivial
section
variable {X : Cx} {C fI : Addr}
/-- BadText(e, e') -/
def tMkBt (C : Addr) (ta : TA) : St → Hp → XK → Prop := fun σ H Q => ta σ H fun vs H1 => ∃ v u, vs = [v, u] ∧ ∀ d, H1 d = none → Q (.ref C) (some d) (upd H1 d (.xd (btFs v u)))
theorem pmk_bt {a b : Expr} {ta : TA} {p pos : Pos} {k : Nat} (T : Bt.BtTxt X.K X.mg C fI) (hr : Room k X.A) (ha : PA X [a, b] ta) (hg : Gl X "BadText" := by rfl)
    (he : starEach (a :: [b]) X.env = (false, eval a X.env) :: starEach [b] X.env := by rfl) (hpl : (backTo pos (starEach [b] X.env)).any (·.1) = false := by rfl) :
    PMk X (.Call (.Name "BadText" p) [a, b] [] pos) (tMkBt C ta) := by
  intro pins s σ H Q I h
  refine wpAny_Call_Name_kw (ld_glob I hg T.gC ?_)
  refine PySem.W.callWith_K (h₀ := X.base) I.ok.mod.kin T.kC (thn (ha.run pos pins s σ H _ I h) fun us s1 hh => ?_) he hpl
  obtain ⟨vs, H1, I1, r1, v, u, ev, q1⟩ := hh
  subst ev
  refine ⟨I1.kIn, ?_⟩
  obtain ⟨v', u', rfl, rv, ru⟩ := Vals.two r1
  show wpAny _ _ (call (.ref C) [v', u']) _ _ _
  have hlim := I1.nolimit
  obtain ⟨hp, g, dr, tk, os⟩ := s1
  refine wpAny_call (Bt.bt_made T I1.kIn hlim (by have := hr.dp; omega) fun h' tk' e d M => ?_)
  show MkP X pins σ Q (.ref e) ⟨h', g, dr, tk', os⟩
  obtain ⟨oe, fv, hoe, hc, hd, hdat, h1⟩ := M.obj
  have hns := M.ns
  obtain ⟨G', g1, g2⟩ := restrict h' fun b => decide (b ≠ e)
  have gk : ∀ b, b ≠ e → G'.get? b = h'.get? b := fun b hb => g1 b (decide_eq_true hb)
  have ge : G'.get? e = none := g2 e (by simp)
  have old : ∀ b o, hp.get? b = some o → G'.get? b = some o := fun b o q => (gk b (Nat.ne_of_lt (Nat.lt_of_lt_of_le (Heap.lt_size q) M.new))).trans (M.keep b o q)
  have ob : ObjOk X.prog X.w (upd H1 d (.xd (btFs v u))) G' d (.xd (btFs v u)) :=
    ⟨_, hns.at (fun o q => (gk d M.dne).trans q), fun f => bt_rel rv ru f⟩
  have J : Inv X pins σ (upd H1 d (.xd (btFs v u))) ⟨G', g, dr, tk', os⟩ := I1.laid (t' := tk') old M.dbig ob
  refine ⟨e, oe, fv, ⟨G', g, dr, tk', os⟩, _, .ref C, some d, rfl, J, fun b o q => ?_, ge, hoe, ⟨hc, hd⟩, hdat, h1, ?_, rfl, I1.bare, raises_own T.exC T.tyC, q1 d (I1.hok.fresh M.dbig)⟩
  · by_cases hb : b = e
    · have q' : G'.get? b = some o := q
      rw [hb, ge] at q'; cases q'
    · exact (gk b hb).symm.trans q
  · rw [upd_ne (Ne.symm M.dne)]
    exact I1.hok.fresh M.new
/-- raise BadText(e, e') -/
def tRaiseBt (C : Addr) (W : WX) (ta : TA) : TS := fun _ σ H => tMkBt C ta σ H fun cls d H' => W cls d σ H'
theorem ps_raiseBt {a b : Expr} {ta : TA} {W : WX} {p pos pos2 : Pos} {k : Nat} (hc : X.calm = true) (T : Bt.BtTxt X.K X.mg C fI) (hr : Room k X.A) (tk : Takes X W) (ha : PA X [a, b] ta) (hg : Gl X "BadText" := by rfl)
    (he : starEach (a :: [b]) X.env = (false, eval a X.env) :: starEach [b] X.env := by rfl) (hpl : (backTo pos (starEach [b] X.env)).any (·.1) = false := by rfl) :
    PS X (.Raise (some (.Call (.Name "BadText" p) [a, b] [] pos)) none pos2) (tRaiseBt C W ta) := ps_raise hc tk (pmk_bt T hr ha hg he hpl)
/-- error.line, error.column, error the exception that the suite holds (at a; its class cls, its dict d) -/
def tFldBt (C : Addr) (f : Str) (a : Addr) (cls : Value) (d : Option Addr) (te : TE) : TE := fun σ H Q => te σ H fun x H1 => x = .ref a ∧ cls = .ref C ∧ ∃ (dd : Addr) (fs : List (Str × V)) (v : V), d = some dd ∧ H1 dd = some (.xd fs) ∧ fs.lookup f = some v ∧ Q v H1
theorem pe_fldBt {f : Str} {a : Addr} {oe : Obj} {cls : Value} {d : Option Addr} {pn : List (Addr × Obj)} {e : Expr} {te : TE} {pos : Pos} (T : Bt.BtTxt X.K X.mg C fI) (hn : PySem.W.findIn X.K (.ref C) f = some none) (hz : Zc cls d oe) (hf : ∃ vs, oe.data = .fields vs) (he : PE (X.suite a ((a, oe) :: pn)) e te)
    (hb : attributeBase e f X.env (eval e X.env) = eval e X.env := by rfl) :
    PE (X.suite a ((a, oe) :: pn)) (.Attribute e f pos) (tFldBt C f a cls d te) := by
  refine ⟨fun pins s σ H Q I h => ?_⟩
  refine attr_of hb (thn (he.run pins s σ H _ I h) fun u s1 hh => ?_)
  obtain ⟨x, H1, I1, rx, ex, ec, dd, fs, v, ed, ea, l, q⟩ := hh
  subst ex
  obtain rfl : u = Value.ref a := rx
  subst ec
  subst ed
  obtain ⟨ha, _⟩ := I1.pin (a, oe) (List.mem_append_left _ List.mem_cons_self)
  obtain ⟨vs, hd⟩ := hf
  have hx : ObjOk X.prog X.w H1 s1.heap dd (.xd fs) := I1.hok dd _ ea
  obtain ⟨mA, hns, hr⟩ := hx
  obtain ⟨od, ho, hl⟩ := lookIn_ns hns
  obtain ⟨u, hu, ru⟩ := RelO.some_of (v := v) (o := mA f) (by rw [← l]; exact hr f)
  have J : PySem.W.InstAt s1.heap a oe C (some od) := ⟨ha, hz.1, by unfold PySem.W.notCls; rw [hd] <;> rfl, by rw [hz.2]; exact ho⟩
  exact HandSPX.exc_get I1.kIn J T.ga T.gg T.exC (PySem.W.findObj_own T.hdC hn rfl (by rw [hl, hu])) (handed_of ru) ⟨v, H1, I1.tok _, ru, q⟩
end
end L2

namespace L2
open PySem PySem.Spec PyProof.Rows
section
variable {X : Cx} {x n : Str} {c : Value} {i : Nat} {body suite orelse : List Stmt} {b₀ : Stmt} {np pos pos' : Pos} {tb : WX → TS} {ts : Addr → Value → Option Addr → TS} {u : TS}
theorem Inv.thin {pins : List (Addr × Obj)} {σ σ' : St} {H : Hp} {s : Shared} (I : Inv X pins σ H s) (hl : σ'.length = X.N.length) (h : ∀ (j : Nat) (v : V), σ'[j]? = some (some v) → σ[j]? = some (some v)) : Inv X pins σ' H s := by
  obtain ⟨m, hn, hlk⟩ := I.loc
  exact { I with loc := ⟨m, hn, fun j x v e1 e2 e3 => hlk j x v e1 (h j v e2) e3⟩, len := hl }
theorem only_set {n i : Nat} {σ : St} {w : V} (hi : i < σ.length) : ∀ (j : Nat) (v : V), ((List.replicate n (none : Option V)).set i (some w))[j]? = some (some v) → (σ.set i (some w))[j]? = some (some v) := by
  intro j v e
  rw [List.getElem?_set] at e ⊢
  by_cases c : i = j
  · subst c
    rw [if_pos rfl] at e ⊢
    rw [if_pos hi]
    split at e
    · exact e
    · cases e
  · rw [if_neg c] at e
    rw [List.getElem?_replicate] at e
    split at e
    · cases e
    · cases e
/-- what the clause wishes of what the body lets out: it is the clause's own, and the suite returns -/
def wGot (K : PySem.W.Frag) (n : Nat) (c : Value) (i : Nat) (ts : Addr → Value → Option Addr → TS) (D : Ends) : WX := fun cls d _ H =>
  PySem.W.exmOne K cls c = some true ∧ ∀ a, H a = none → ts a cls d { nx := fun _ _ => False, rt := D.rt } ((List.replicate n none).set i (some (.ref a))) H
/-- try: body / except x as n: a suite that returns / else: orelse -/
theorem ps_try_got (ho : PSs X orelse u) (stk : X.stack = X.env :: X.outer) (frm : X.env.frame = some X.env.locals) (nd : X.N.Nodup) (at_ : X.N[i]? = some n) (lo : X.env.kindOf n = some .local) (nm : Names X x c)
    (hb : ∀ (W : WX) (pn : List (Addr × Obj)) (xe : Value → Shared → Prop), Takes (X.tr pn xe) W → PassesOwn (model X.prog X.w) X.A X.env xe → PSs (X.tr pn xe) body (tb W))
    (hsu : ∀ (a : Addr) (oe : Obj) (cls : Value) (d : Option Addr) (pn : List (Addr × Obj)), Zc cls d oe → (∃ vs, oe.data = .fields vs) → PSs (X.suite a ((a, oe) :: pn)) (b₀ :: suite) (ts a cls d)) :
    PS X (.Try body [.ExceptHandler (some (.Name x np)) (some n) (b₀ :: suite) pos'] orelse [] pos) (fun D σ H => tb (wGot X.K X.N.length c i ts D) { D with nx := u D } σ H) := by
  refine ⟨fun ps s0 σ0 H0 D inv rd => wpAny_Try_except ?_⟩
  have xok := inv.ok
  have afr : X.A.frames = some (X.env :: X.outer) := xok.frames.trans (congrArg some stk)
  have run := hb (wGot X.K X.N.length c i ts D) (X.pn ++ ps) (fun e s₁ => wpAny (model X.prog X.w) X.A (noteFrame e X.env) (fun _ s₂ => wpAny (model X.prog X.w) X.A (setFlight e none)
    (fun _ s₃ => wpAny (model X.prog X.w) X.A (handleBy e X.env [.ExceptHandler (some (.Name x np)) (some n) (b₀ :: suite) pos']) (SP X ps D) X.xe s₃) X.xe s₂) X.xe s₁) ?caught PassesOwn.looking
  case caught =>
    rintro ex t ⟨a, B, sI, ps', σ1, H1, cls, d, rfl, Jt, stays, upto, air, fresh, eos, gens, em, rds⟩
    have J1 : Inv X ps σ1 H1 sI := Jt.ofTry xok
    refine Sky.land Zc.steady afr frm (stk ▸ air) fun g1 f1 u1 => ?_
    have K1 : Inv X ps σ1 H1 { t with heap := g1 } := J1.landed stays f1.1 (upto.trans u1) eos gens
    obtain ⟨o1, w1, e1, z1, d1⟩ := f1.there
    have outOf : a ∉ frs (X.env :: X.outer) := by
      intro m
      obtain ⟨_, o', e', no⟩ := f1.2.2.1.mem m
      rw [e1] at e'
      cases e'
      exact no _ d1
    have aL : a ≠ X.env.locals := by
      intro z
      exact outOf (List.mem_filterMap.mpr ⟨X.env, List.mem_cons_self, by rw [frm, z]⟩)
    have aF : a ∉ X.fs := by
      intro m
      obtain ⟨e, he, q⟩ := List.mem_filterMap.mp m
      exact outOf (List.mem_filterMap.mpr ⟨e, List.mem_cons_of_mem _ he, q⟩)
    have C1 := K1.suite e1 d1 fresh aL aF
    refine wpAny_handleBy_cons (codeAny_handlers_test ?_) (fun q => by cases q)
    have ty : PySem.W.Looks (model X.prog X.w) g1 (typeOf (.ref a)) cls := by
      intro A Q E s k q
      exact wpAny_typeOf_ref (k _ _ e1) (by rw [z1.1]; exact q)
    have mt := PySem.W.exm_one (M := model X.prog X.w) K1.kIn ty em
    have nme : wpAny (model X.prog X.w) (X.A.mark (some (.ref a))) (eval (.Name x np) X.env) (fun v s' => v = c ∧ s' = { t with heap := g1 }) (fun _ _ => False) { t with heap := g1 } := by
      obtain ⟨gl, nd', hm | ⟨hm, hv, hn⟩⟩ := nm
      · exact ld_glob (X := X.suite a ((a, o1) :: (X.pn ++ ps))) C1 gl hm ⟨rfl, rfl⟩ nd'
      · exact ld_blt (X := X.suite a ((a, o1) :: (X.pn ++ ps))) C1 gl hm hv ⟨rfl, rfl⟩ hn nd'
    refine wpAny_mono nme ?_ (fun _ _ z => z.elim)
    rintro v s' ⟨rfl, rfl⟩
    refine mt.here ?_
    refine codeAny_handlers_suite_as (HandSPX.lands_againZ f1 fun g2 f2 u2 => ?_)
    have K2 : Inv X ps σ1 H1 { t with heap := g2 } := J1.landed stays f2.1 ((upto.trans u1).trans u2) eos gens
    obtain ⟨o2, w2, e2, z2, d2⟩ := f2.there
    refine store_ok (X := X.suite a ((a, o2) :: (X.pn ++ ps))) (v := .ref a) (K2.suite e2 d2 fresh aL aF) nd at_ (.inl lo) rfl (fun s3 C3 => ?_) (.inr lo)
    have hiN : i < σ1.length := by
      rw [K1.len]
      exact (List.getElem?_eq_some_iff.mp at_).1
    refine wpAny_mono ((hsu a o2 cls d (X.pn ++ ps) z2 ⟨_, d2⟩).run [] s3 _ H1 _ (C3.thin (by rw [List.length_set, List.length_replicate]) (only_set hiN)) (rds a fresh)) (fun fl s4 sp => ?_) (fun _ _ z => z.elim)
    cases fl with
    | ret v4 =>
      obtain ⟨y, σ4, H4, C4, ry, q4⟩ := sp
      exact gone_ok (C4.unsuite xok) nd at_ lo fun s5 K5 => ⟨y, _, H4, K5, ry, q4⟩
    | next =>
      obtain ⟨_, _, _, q⟩ := sp
      exact q.elim
    | brk =>
      obtain ⟨_, _, _, q⟩ := sp
      exact q.elim
    | cont =>
      obtain ⟨_, _, _, q⟩ := sp
      exact q.elim
  refine wpAny_mono (run.run [] s0 σ0 H0 { D with nx := u D } (inv.toTry _) rd) (fun fl s1 sp => ?_) (fun _ _ z => z)
  cases fl with
  | next =>
    obtain ⟨σ1, H1, J1, q1⟩ := sp
    exact ho.run ps s1 σ1 H1 D (J1.ofTry xok) q1
  | ret v =>
    obtain ⟨y, σ1, H1, J1, ry, q1⟩ := sp
    exact ⟨y, σ1, H1, J1.ofTry xok, ry, q1⟩
  | brk =>
    obtain ⟨σ1, H1, J1, q1⟩ := sp
    exact ⟨σ1, H1, J1.ofTry xok, q1⟩
  | cont =>
    obtain ⟨σ1, H1, J1, q1⟩ := sp
    exact ⟨σ1, H1, J1.ofTry xok, q1⟩
end
end L2

/-! The reader as plain functions of the rest of the pieces. A piece: its sort's number, its line, its column. -/
namespace Mir
abbrev Pc := Nat × Nat × Nat
inductive Rs (α : Type) where
  | ok (a : α)
  | bad (l k : Nat)
  | out
def Rs.bind {α β : Type} : Rs α → (α → Rs β) → Rs β
  | .ok a, f => f a
  | .bad l k, _ => .bad l k
  | .out, _ => .out
instance : Monad Rs where
  pure := .ok
  bind := Rs.bind
def Post {α : Type} (m : Rs α) (good : α → Prop) (ill : Nat → Nat → Prop) : Prop := match m with
  | .ok a => good a
  | .bad l k => ill l k
  | .out => False
theorem post_bind {α β : Type} {m : Rs α} {f : α → Rs β} {good : β → Prop} {ill : Nat → Nat → Prop} (h : Post (m >>= f) good ill) : Post m (fun a => Post (f a) good ill) ill := by
  cases m with
  | ok a => exact h
  | bad l k => exact h
  | out => exact h
theorem post_mono {α : Type} {m : Rs α} {g g' : α → Prop} {i i' : Nat → Nat → Prop} (h : Post m g i) (hg : ∀ a, g a → g' a) (hi : ∀ l k, i l k → i' l k) : Post m g' i' := by
  cases m with
  | ok a => exact hg a h
  | bad l k => exact hi l k h
  | out => exact h
/-- the next piece's sort (0 at the end) -/
def hd (r : List Pc) : Nat := match r with
  | (c, _, _) :: _ => c
  | [] => 0
/-- the next piece is wrong -/
def ill {α : Type} (r : List Pc) : Rs α := match r with
  | (_, l, k) :: _ => .bad l k
  | [] => .out
def want (s : Nat) (r : List Pc) : Rs (List Pc) := if hd r = s then .ok r.tail else ill r
/-- sorts by numbers -/
def sorts : List String := ["end", "name", "number", "wrong", "module", "use", "struct", "int", "uint", "void", "if", "else", "while", "do", "for", "break", "continue", "switch", "case", "default", "return", "out", "assert", "in", "more", "length", "mod",
  "<<", ">>", "<=", ">=", "==", "!=", "&&", "||", "+", "-", "*", "/", "&", "|", "^", "~", "!", "<", ">", "=", "?", ":", ";", ",", ".", "(", ")", "[", "]", "{", "}"]
def strn (c : Nat) : Nat := match c with
  | 34 => 1 | 33 => 2 | 40 => 3 | 41 => 4 | 39 => 5 | 31 => 6 | 32 => 6 | 44 => 7 | 29 => 7 | 45 => 7 | 30 => 7 | 27 => 8 | 28 => 8 | 35 => 9 | 36 => 9 | 37 => 10 | 38 => 10 | 26 => 10
  | _ => 0
/-! ### expressions. What is held: 0 one sign, 1 two, 2 a call, 3 a bracket, 4 an index, 5 a choice's middle, 6 its last part; with the strength -/
structure Es where
  r : List Pc
  n : Nat
  d : Int
  h : List (Nat × Nat)
  b : Bool
def counted (s : Es) : Rs Es := if 120 ≤ s.n then ill s.r else .ok { s with r := s.r.tail, n := s.n + 1 }
def take1 (s : Es) : Es := { s with r := s.r.tail, n := s.n + 1 }
def wantE (c : Nat) (s : Es) : Rs Es := if hd s.r = c then .ok (take1 s) else ill s.r
def within (t : Nat) (s : Es) : Rs Es := if 30 < s.d + 1 then ill s.r else .ok { s with d := s.d + 1, h := (t, 0) :: s.h }
/-- one piece that begins: whole or not -/
def begin1 (s : Es) : Rs (Bool × Es) := match hd s.r with
  | 2 => do let s ← counted s; pure (true, { s with b := false })
  | 1 => do
    let s ← counted s
    if hd s.r = 52 then
      let s := take1 s
      if hd s.r = 53 then pure (true, { take1 s with b := true })
      else do let s ← within 2 s; pure (false, s)
    else pure (true, { s with b := false })
  | 52 => do let s ← counted s; let s ← within 3 s; pure (false, s)
  | _ => do let s ← counted s; let s ← wantE 52 s; let s ← wantE 53 s; pure (true, { s with b := false })
def isAhead (c : Nat) : Bool := c == 43 || c == 42 || c == 36
def isBegin (c : Nat) : Bool := c == 2 || c == 1 || c == 23 || c == 24 || c == 52
def operand : Nat → Es → Rs Es
  | 0, _ => .out
  | f + 1, s =>
    if isAhead (hd s.r) then operand f { take1 s with h := (0, 11) :: s.h }
    else if isBegin (hd s.r) then do
      let (w, s) ← begin1 s
      if w then pure s else operand f s
    else ill s.r
def settle (k : Nat) : List (Nat × Nat) → Bool → List (Nat × Nat) × Bool
  | [], b => ([], b)
  | (t, m) :: h, b => if k ≤ m then settle k h false else ((t, m) :: h, b)
def set1 (k : Nat) (s : Es) : Es := { s with h := (settle k s.h s.b).1, b := (settle k s.h s.b).2 }
def thirds : List (Nat × Nat) → Int → Bool → List (Nat × Nat) × Int × Bool
  | [], d, b => ([], d, b)
  | (t, m) :: h, d, b => if t = 6 then thirds h (d - 1) false else ((t, m) :: h, d, b)
def setAll (s : Es) : Es := let s1 := set1 1 s; let (h, d, b) := thirds s1.h s1.d s1.b; { s1 with h := h, d := d, b := b }
def closing (t : Nat) : Nat := match t with
  | 5 => 48 | 2 => 53 | 3 => 53 | _ => 55
def field (s : Es) : Rs Es := do
  let s ← counted s
  if hd s.r = 25 then pure { take1 s with b := false }
  else do let s ← wantE 1 s; pure { s with b := false }
def close (s : Es) : Rs (Bool × Es) := match s.h with
  | [] => .out
  | (t, m) :: h =>
    if t < 2 ∨ 5 < t then .out
    else if t = 5 ∧ hd s.r = 48 then pure (true, { take1 s with h := (6, 0) :: h })
    else if t = 2 ∧ hd s.r = 50 then pure (true, { take1 s with h := (2, 0) :: h })
    else do
      let s ← wantE (closing t) s
      pure (false, { s with d := s.d - 1, h := h, b := if t = 3 then s.b else t == 2 })
def behind : Nat → Es → Rs (Bool × Es)
  | 0, _ => .out
  | f + 1, s =>
    if hd s.r = 51 then do let s ← field s; behind f s
    else if hd s.r = 54 then do let s ← counted s; let s ← within 4 s; pure (true, s)
    else if strn (hd s.r) ≠ 0 then let q := set1 (strn (hd s.r)) s; pure (true, { take1 q with h := (1, strn (hd s.r)) :: q.h })
    else if hd s.r = 47 then do let s ← within 5 (take1 (set1 1 s)); pure (true, s)
    else
      let s := setAll s
      if s.h.isEmpty then pure (false, s)
      else do
        let (g, s) ← close s
        if g then pure (true, s) else behind f s
def turns : Nat → Es → Rs (Bool × List Pc)
  | 0, _ => .out
  | f + 1, s => do
    let s ← operand f s
    let (g, s) ← behind f s
    if g then turns f s else pure (s.b, s.r)
def expr (f : Nat) (d : Nat) (r : List Pc) : Rs (Bool × List Pc) := if 30 < d then ill r else turns f ⟨r, 0, (d : Int), [], false⟩
/-! ### statements -/
def isKind (c : Nat) : Bool := c == 7 || c == 8 || c == 6
def kind (r : List Pc) : Rs (List Pc) := if hd r = 6 then want 1 r.tail else pure r.tail
def many (r : List Pc) : Rs (List Pc) := if hd r = 54 then do let r ← want 2 r.tail; want 55 r else pure r
def more (f d : Nat) : Nat → List Pc → Rs (List Pc)
  | 0, _ => .out
  | g + 1, r => if hd r = 50 then do let (_, r) ← expr f d r.tail; more f d g r else pure r
def firsts (f d : Nat) (r : List Pc) : Rs (List Pc) :=
  if hd r = 46 then
    if hd r.tail = 56 then
      if hd r.tail.tail = 57 then want 57 r.tail.tail
      else do let (_, r) ← expr f d r.tail.tail; let r ← more f d f r; want 57 r
    else do let (_, r) ← expr f d r.tail; pure r
  else pure r
def decl (f d : Nat) (r : List Pc) : Rs (List Pc) := do
  let r ← kind r
  let r ← want 1 r
  let r ← many r
  firsts f (d + 1) r
def plain (f d : Nat) (r : List Pc) : Rs (List Pc) := do
  let (b, r) ← expr f (d + 1) r
  if hd r = 46 then do let (_, r) ← expr f (d + 1) r.tail; pure r
  else if b then pure r else ill r
def test (f d : Nat) (r : List Pc) : Rs (List Pc) := do
  let r ← want 52 r
  let (_, r) ← expr f (d + 1) r
  want 53 r
def isStmt (c : Nat) : Bool := c == 56 || c == 10 || c == 12 || c == 13 || c == 14 || c == 17 || c == 15 || c == 16 || c == 20 || c == 21 || c == 22
mutual
def stmts (f : Nat) (d : Nat) (r : List Pc) : Rs (List Pc) := match f with
  | 0 => .out
  | f + 1 => if hd r = 57 then pure r else do let r ← stmt f d false r; stmts f d r
def stmt (f : Nat) (d : Nat) (alone : Bool) (r : List Pc) : Rs (List Pc) := match f with
  | 0 => .out
  | f + 1 =>
    if 30 < d then ill r
    else if isStmt (hd r) then known f d r
    else if isKind (hd r) && alone then ill r
    else if isKind (hd r) then do let r ← decl f d r; want 49 r
    else do let r ← plain f d r; want 49 r
/-- the sorts that are not read here are .out: nothing is told of them -/
def known (f : Nat) (d : Nat) (r : List Pc) : Rs (List Pc) := match f with
  | 0 => .out
  | f + 1 =>
    if hd r = 56 then do let r ← stmts f (d + 1) r.tail; want 57 r
    else if hd r = 10 then do
      let r ← test f d r.tail
      let r ← stmt f (d + 1) true r
      if hd r = 11 then stmt f (d + 1) true r.tail else pure r
    else if hd r = 20 then (if hd r.tail = 49 then want 49 r.tail else do let (_, r) ← expr f (d + 1) r.tail; want 49 r)
    else if hd r = 21 then do let r ← test f d r.tail; want 49 r
    else .out
end
/-! ### items: what is not read here is .out -/
def function (f : Nat) (r : List Pc) : Rs (List Pc) := do
  let r ← want 52 r
  if hd r ≠ 53 then .out
  else do
    let r ← want 53 r
    let r ← want 56 r
    let r ← stmts f 1 r
    want 57 r
def item (f : Nat) (r : List Pc) : Rs (List Pc) :=
  if hd r = 7 then do
    let r ← kind r
    let r ← want 1 r
    if hd r = 52 then function f r else .out
  else .out
def items (f : Nat) : Nat → List Pc → Rs (List Pc)
  | 0, _ => .out
  | g + 1, r => if hd r ≠ 0 then do let r ← item f r; items f g r else pure r
def modul (f : Nat) (r : List Pc) : Rs (List Pc) := do
  let r ← want 4 r
  let r ← want 1 r
  let r ← want 49 r
  if hd r = 5 then .out else items f f r
/-- sorts of pieces: the last one alone is the end -/
def Wf : List Pc → Prop
  | [] => False
  | [t] => t.1 = 0
  | t :: u :: r => (t.1 ≠ 0 ∧ t.1 < 58) ∧ Wf (u :: r)
theorem Wf.tl {r : List Pc} (h : Wf r) (z : hd r ≠ 0) : Wf r.tail := by
  match r, h with
  | [(c, l, k)], h => exact absurd h z
  | t :: u :: r, h => exact h.2
theorem Wf.cons {r : List Pc} (h : Wf r) : ∃ c l k t, r = (c, l, k) :: t ∧ c < 58 := by
  match r, h with
  | [(c, l, k)], h => exact ⟨c, l, k, [], rfl, by have : c = 0 := h; omega⟩
  | (c, l, k) :: u :: r, h => exact ⟨c, l, k, u :: r, rfl, h.1.2⟩
end Mir

namespace My
open PySem PySem.Spec PyProof.Rows L2
/-! ### more of promises: classes, methods, defs that may raise -/
structure Cl (K : PySem.W.Frag) (mg : Str → Option Value) (x : Str) (C : Addr) : Prop where
  g : mg x = some (.ref C)
  c : Cls K C
structure Dm (K : PySem.W.Frag) (C : Addr) (m qual : Str) (st : Stmt) : Prop where
  ex : ∃ (f : Addr) (fd : FuncData), Meth K C m f ∧ FunD K m qual (defArgs st) (defBody st) (defScope st) [] [] f fd
structure Gm (P : Program) (w : World) (K : PySem.W.Frag) (mg : Str → Option Value) (base : Heap) (CX : CXT) (k : Nat) (C : Addr) (m : Str) (ps : List Str) (sp : Sp) : Prop where
  ex : ∃ (f : Addr) (fd : FuncData), Meth K C m f ∧ FnOk P w K mg base CX k f fd ps sp ∧ Binds K fd ps []
section
variable {P : Program} {w : World} {K : PySem.W.Frag} {mg : Str → Option Value} {base : Heap}
theorem Gm.mono {CX : CXT} {j k : Nat} {C : Addr} {m : Str} {ps : List Str} {sp : Sp} (h : Gm P w K mg base CX j C m ps sp) (hk : j ≤ k) : Gm P w K mg base CX k C m ps sp := by
  obtain ⟨f, fd, a, b, c⟩ := h.ex
  exact ⟨f, fd, a, b.mono hk, c⟩
theorem Df.okX {x : Str} {st : Stmt} {N ps : List Str} {k : Nat} {sp : Sp} (D : Df K mg x st) (S : FnScope N ps (defScope st)) (len : ∀ vs H Q E, sp vs H Q E → vs.length = ps.length)
    (hb : ∀ (kV doc pm : Value) (an : Option Addr) (cdv ct : Value) (us : List Value), us.length = ps.length → bindArgs (PySem.W.fnOf x x (defArgs st) (defBody st) (defScope st) .none kV doc pm an cdv ct) ⟨us, []⟩ = pure (ps.zip us))
    (hbody : ∀ (f : Addr) (cdv : Value) (A : Around) (outer : List Env) (s : Shared) (H : Hp) (vs : List V) (Q : VK) (E : XK), Room k (A.deeper (envOfC x (defScope st) s.heap.objs.size f cdv)) → sp vs H Q E →
      ∃ t, PSs (cxOf (L2.CX P w) P w K mg base N x (defScope st) f cdv A outer s H E) (defBody st) t ∧ t { nx := fun _ H' => Q .non H', rt := Q } (start N vs) H) : Gd P w K mg base (L2.CX P w) (k + 1) x ps sp := by
  obtain ⟨f, fd, hm, F⟩ := D.ex
  have lk : ∃ oc od osl, K.lookup f = some ⟨oc, od, .func fd, osl⟩ := by
    obtain ⟨oc, od, dV, kV, doc, pm, an, cdv, ct, osl, e, l, _⟩ := F.ex
    exact ⟨oc, od, osl, l⟩
  exact ⟨f, fd, hm, F.ok S len fun cdv A outer s H vs Q E hr h => hbody f cdv A outer s H vs Q E hr h, F.bindsN hb, F.kp, lk⟩
theorem Dm.ok {C : Addr} {m qual : Str} {st : Stmt} {N ps : List Str} {k : Nat} {sp : Sp} (D : Dm K C m qual st) (S : FnScope N ps (defScope st)) (len : ∀ vs H Q E, sp vs H Q E → vs.length = ps.length)
    (hb : ∀ (kV doc pm : Value) (an : Option Addr) (cdv ct : Value) (us : List Value), us.length = ps.length → bindArgs (PySem.W.fnOf m qual (defArgs st) (defBody st) (defScope st) .none kV doc pm an cdv ct) ⟨us, []⟩ = pure (ps.zip us))
    (hbody : ∀ (f : Addr) (cdv : Value) (A : Around) (outer : List Env) (s : Shared) (H : Hp) (vs : List V) (Q : VK) (E : XK), Room k (A.deeper (envOfC qual (defScope st) s.heap.objs.size f cdv)) → sp vs H Q E →
      ∃ t, PSs (cxOf CX0 P w K mg base N qual (defScope st) f cdv A outer s H E).nox (defBody st) t ∧ t { nx := fun _ H' => Q .non H', rt := Q } (start N vs) H) : Gm P w K mg base CX0 (k + 1) C m ps sp := by
  obtain ⟨f, fd, hm, F⟩ := D.ex
  refine ⟨f, fd, hm, F.ok S len fun cdv A outer s H vs Q E hr h => ?_, F.bindsN hb⟩
  obtain ⟨t, h1, h2⟩ := hbody f cdv A outer s H vs Q E hr h
  exact ⟨t, h1.nox, h2⟩
theorem Dm.okX {C : Addr} {m qual : Str} {st : Stmt} {N ps : List Str} {k : Nat} {sp : Sp} (D : Dm K C m qual st) (S : FnScope N ps (defScope st)) (len : ∀ vs H Q E, sp vs H Q E → vs.length = ps.length)
    (hb : ∀ (kV doc pm : Value) (an : Option Addr) (cdv ct : Value) (us : List Value), us.length = ps.length → bindArgs (PySem.W.fnOf m qual (defArgs st) (defBody st) (defScope st) .none kV doc pm an cdv ct) ⟨us, []⟩ = pure (ps.zip us))
    (hbody : ∀ (f : Addr) (cdv : Value) (A : Around) (outer : List Env) (s : Shared) (H : Hp) (vs : List V) (Q : VK) (E : XK), Room k (A.deeper (envOfC qual (defScope st) s.heap.objs.size f cdv)) → sp vs H Q E →
      ∃ t, PSs (cxOf (L2.CX P w) P w K mg base N qual (defScope st) f cdv A outer s H E) (defBody st) t ∧ t { nx := fun _ H' => Q .non H', rt := Q } (start N vs) H) : Gm P w K mg base (L2.CX P w) (k + 1) C m ps sp := by
  obtain ⟨f, fd, hm, F⟩ := D.ex
  exact ⟨f, fd, hm, F.ok S len fun cdv A outer s H vs Q E hr h => hbody f cdv A outer s H vs Q E hr h, F.bindsN hb⟩
end
section
variable {X : Cx} {CX : CXT} {k : Nat} {x m : Str} {ps : List Str} {sp : Sp} {E : XK} {e o : Expr} {es : List Expr} {t : TA} {ta : TE} {p pos apos : Pos} {C : Addr}
/-- o.m(..) -/
def tMethG (C : Addr) (m : Str) (sp : Sp) (E : XK) (ta : TE) (t : TA) : TE := fun σ H Q => ta σ H fun x H1 => ∃ a dx fs, x = .ref a ∧ H1 a = some (.ins C dx fs) ∧ fs.lookup m = none ∧ t σ H1 fun vs H2 => sp (x :: vs) H2 Q E
theorem pe_gm {pl : Sem Bool} (he : PE X o ta) (c : Cls X.K C) (G : Gm X.prog X.w X.K X.mg X.base CX k C m ps sp) (hr : Room k X.A) (hx : Passes CX X E) (ha : PA X (e :: es) t)
    (hst : starEach (e :: es) X.env = (false, eval e X.env) :: starEach es X.env := by rfl) (hpl : (backTo pos (starEach es X.env)).any (·.1) = false := by rfl)
    (ht : eval (.Call (.Attribute o m apos) (e :: es) [] pos) X.env = (do
      let ov ← eval o X.env
      standAt apos.atName
      let (f, first) ← holding [ov] (getMethod ov m pl)
      callWith pos f first (backTo pos (starEach (e :: es) X.env)) (backToKw pos (keywordEach [] X.env))) := by rfl) :
    PE X (.Call (.Attribute o m apos) (e :: es) [] pos) (tMethG C m sp E ta t) := by
  obtain ⟨f, fd, hm, F, hb⟩ := G.ex
  have z := pe_meth he c hm F hr hb .nil hx ha hst hpl ht
  refine ⟨fun pins s σ H Q I hw => z.run pins s σ H Q I ?_⟩
  have e0 : (fun (x : V) (H1 : Hp) => ∃ a dx fs, x = .ref a ∧ H1 a = some (.ins C dx fs) ∧ fs.lookup m = none ∧ t σ H1 fun vs H2 => sp (x :: (vs ++ [])) H2 Q E) = fun x H1 => ∃ a dx fs, x = .ref a ∧ H1 a = some (.ins C dx fs) ∧ fs.lookup m = none ∧ t σ H1 fun vs H2 => sp (x :: vs) H2 Q E := by
    funext x H1
    simp only [List.append_nil]
  show ta σ H (fun (x : V) (H1 : Hp) => ∃ a dx fs, x = .ref a ∧ H1 a = some (.ins C dx fs) ∧ fs.lookup m = none ∧ t σ H1 fun vs H2 => sp (x :: (vs ++ [])) H2 Q E)
  rw [e0]
  exact hw
theorem pe_gm0 {pl : Sem Bool} (he : PE X o ta) (c : Cls X.K C) (G : Gm X.prog X.w X.K X.mg X.base CX k C m ps sp) (hr : Room k X.A) (hx : Passes CX X E)
    (ht : eval (.Call (.Attribute o m apos) [] [] pos) X.env = (do
      let ov ← eval o X.env
      standAt apos.atName
      let (f, first) ← holding [ov] (getMethod ov m pl)
      callWith pos f first (backTo pos (starEach [] X.env)) (backToKw pos (keywordEach [] X.env))) := by rfl) :
    PE X (.Call (.Attribute o m apos) [] [] pos) (tMethG C m sp E ta tNil) := by
  obtain ⟨f, fd, hm, F, hb⟩ := G.ex
  have z := pe_meth0 he c hm F hr hb .nil hx ht
  exact ⟨fun pins s σ H Q I hw => z.run pins s σ H Q I hw⟩
end
end My
namespace My
open PySem PySem.Spec PyProof.Rows L2
def sp5 (p : V → V → V → V → V → Hp → VK → XK → Prop) : Sp := fun vs H Q E => ∃ a b c d e, vs = [a, b, c, d, e] ∧ p a b c d e H Q E
theorem len5 {p} (vs : List V) (H : Hp) (Q : VK) (E : XK) (h : sp5 p vs H Q E) : vs.length = 5 := by obtain ⟨a, b, c, d, e, rfl, _⟩ := h; rfl
end My
namespace Rd
open PySem PySem.Spec PyProof.Rows L2 My Mir
def srt (c : Nat) : Str := PySem.Str.ofString (sorts.getD c "")
theorem srt_ix : ∀ a, a < 58 → ∀ b, b < 58 → srt a = srt b → a = b := by decide +kernel
theorem srt_dec {a b : Nat} (ha : a < 58) (hb : b < 58) : decide (V.str (srt a) = V.str (srt b)) = decide (a = b) := by
  by_cases h : a = b
  · subst h; simp
  · rw [decide_eq_false h, decide_eq_false]
    intro z
    exact h (srt_ix a ha b hb (V.str.inj z))
/-- a piece at p -/
def TokAt (H : Hp) (p : Addr) (t : Pc) : Prop := ∃ (w : V) (q : Addr), H p = some (.tup [.str (srt t.1), w, .ref q]) ∧ H q = some (.tup [.int (t.2.1 : Int), .int (t.2.2 : Int)]) ∧
  (t.1 = 2 → ∃ (u : Addr) (z : Int) (kd : V), w = .ref u ∧ H u = some (.tup [.int z, kd]))
def Tks (H : Hp) : List Addr → List Pc → Prop
  | [], [] => True
  | p :: ps, t :: ts => TokAt H p t ∧ Tks H ps ts
  | _, _ => False
/-- the cursor at c: its list at l, its place n, the rest r -/
def Cur (CC : Addr) (H : Hp) (c l : Addr) (n : Nat) (r : List Pc) : Prop :=
  (∃ dx, H c = some (.ins CC dx [("pieces", .ref l), ("at", .int (n : Int))])) ∧ ∃ ps : List Addr, H l = some (.lst (ps.map V.ref)) ∧ Tks H (ps.drop n) r ∧ n + r.length ≤ 4000000
/-- all but these stays -/
def ButL (as : List Addr) (H H' : Hp) : Prop := ∀ b o, H b = some o → ¬ b ∈ as → H' b = some o
theorem ButL.refl {as : List Addr} {H : Hp} : ButL as H H := fun _ _ e _ => e
theorem ButL.trans {as : List Addr} {H H1 H2 : Hp} (a : ButL as H H1) (b : ButL as H1 H2) : ButL as H H2 := fun x o e h => b x o (a x o e h) h
theorem ButL.more {as bs : List Addr} {H H1 : Hp} (a : ButL as H H1) (h : ∀ x, x ∈ as → x ∈ bs) : ButL bs H H1 := fun x o e n => a x o e fun m => n (h x m)
theorem ButL.same {as : List Addr} {H H1 : Hp} (a : Same H H1) : ButL as H H1 := fun x o e _ => a x o e
theorem ButL.put {as : List Addr} {H : Hp} {a : Addr} {o : HO} (h : a ∈ as) : ButL as H (upd H a o) := fun x u e n => by
  rw [upd_ne (fun z => n (by rw [z]; exact h))]; exact e
theorem ButL.new {as : List Addr} {H : Hp} {a : Addr} {o : HO} (h : H a = none) : ButL as H (upd H a o) := fun x u e _ => by
  rw [upd_ne (ne_of_none e h)]; exact e
/-- none of these is a tuple -/
def Mu (as : List Addr) (H : Hp) : Prop := ∀ a, a ∈ as → ∀ xs, H a ≠ some (.tup xs)
theorem ButL.tup {as : List Addr} {H H' : Hp} (h : ButL as H H') (m : Mu as H) {p : Addr} {xs : List V} (e : H p = some (.tup xs)) : H' p = some (.tup xs) := h p _ e fun z => m p z xs e
theorem TokAt.keep {as : List Addr} {H H' : Hp} (h : ButL as H H') (m : Mu as H) {p : Addr} {t : Pc} (x : TokAt H p t) : TokAt H' p t := by
  obtain ⟨w, q, a, b, c⟩ := x
  exact ⟨w, q, h.tup m a, h.tup m b, fun z => by
    obtain ⟨u, i, kd, e, f⟩ := c z
    exact ⟨u, i, kd, e, h.tup m f⟩⟩
theorem Tks.keep {as : List Addr} {H H' : Hp} (h : ButL as H H') (m : Mu as H) : ∀ {ps : List Addr} {ts : List Pc}, Tks H ps ts → Tks H' ps ts
  | [], [], _ => trivial
  | p :: ps, t :: ts, x => ⟨TokAt.keep h m x.1, Tks.keep h m x.2⟩
  | [], _ :: _, x => x.elim
  | _ :: _, [], x => x.elim
theorem mu1 {H : Hp} {c CC dx : Addr} {fs : List (Str × V)} (h : H c = some (.ins CC dx fs)) : Mu [c] H := by
  intro a ha xs e
  have z : a = c := by simpa using ha
  rw [z, h] at e
  cases e
/-- what is let out: BadText of this line and column; all but these stays -/
def Bad (CB : Addr) (as : List Addr) (H : Hp) (E : XK) (l k : Nat) : Prop := ∀ (d : Addr) (H' : Hp), ButL as H H' → H' d = some (.xd (btFs (.int (l : Int)) (.int (k : Int)))) → E (.ref CB) (some d) H'
theorem Bad.after {CB : Addr} {as : List Addr} {H H' : Hp} {E : XK} {l k : Nat} (h : Bad CB as H E l k) (b : ButL as H H') : Bad CB as H' E l k := fun d H2 b2 e => h d H2 (b.trans b2) e
theorem Bad.less {CB : Addr} {as bs : List Addr} {H : Hp} {E : XK} {l k : Nat} (h : Bad CB bs H E l k) (s : ∀ x, x ∈ as → x ∈ bs) : Bad CB as H E l k := fun d H2 b2 e => h d H2 (b2.more s) e
/-- a def that moves a cursor -/
def Runs (CC CB : Addr) {α : Type} (F : List Pc → Rs (α × List Pc)) (Rel : α → V → Hp → Prop) (c : Addr) (H : Hp) (Q : VK) (E : XK) : Prop := ∃ (l : Addr) (n : Nat) (r : List Pc), Cur CC H c l n r ∧ Wf r ∧
  Post (F r) (fun a => ∀ (v : V) (n' : Nat) (H' : Hp), ButL [c] H H' → Cur CC H' c l n' a.2 → Wf a.2 → n' + a.2.length = n + r.length → Rel a.1 v H' → Q v H') (Bad CB [c] H E)
def RunsU (CC CB : Addr) (F : List Pc → Rs (List Pc)) (c : Addr) (H : Hp) (Q : VK) (E : XK) : Prop := ∃ (l : Addr) (n : Nat) (r : List Pc), Cur CC H c l n r ∧ Wf r ∧
  Post (F r) (fun r' => ∀ (v : V) (n' : Nat) (H' : Hp), ButL [c] H H' → Cur CC H' c l n' r' → Wf r' → n' + r'.length = n + r.length → Q v H') (Bad CB [c] H E)
theorem Cur.keep {CC c l : Addr} {n : Nat} {r : List Pc} {as : List Addr} {H H' : Hp} (x : Cur CC H c l n r) (h : ButL as H H') (m : Mu as H) (hc : ¬ c ∈ as) (hl : ¬ l ∈ as) : Cur CC H' c l n r := by
  obtain ⟨⟨dx, a⟩, ps, b, t, z⟩ := x
  exact ⟨⟨dx, h _ _ a hc⟩, ps, h _ _ b hl, Tks.keep h m t, z⟩
/-- something new is laid -/
theorem Cur.laid {CC c l a : Addr} {n : Nat} {r : List Pc} {H : Hp} {o : HO} (x : Cur CC H c l n r) (h : H a = none) : Cur CC (upd H a o) c l n r := x.keep (as := []) (ButL.new h) (fun a ha => by cases ha) (by simp) (by simp)
/-- the piece ahead -/
theorem Cur.tok {CC c l : Addr} {n : Nat} {r : List Pc} {H : Hp} (x : Cur CC H c l n r) (w : Wf r) : ∃ (ps : List Addr) (p : Addr) (t : Pc) (ts : List Pc) (dx : Addr), r = t :: ts ∧ t.1 < 58 ∧ H c = some (.ins CC dx [("pieces", .ref l), ("at", .int (n : Int))]) ∧
    H l = some (.lst (ps.map V.ref)) ∧ ps[n]? = some p ∧ TokAt H p t ∧ Tks H (ps.drop (n + 1)) ts ∧ n + 1 + ts.length ≤ 4000000 := by
  obtain ⟨⟨dx, a⟩, ps, b, t, zz⟩ := x
  obtain ⟨c', l', k', ts, rfl, hc⟩ := w.cons
  cases e : ps.drop n with
  | nil =>
    rw [e] at t
    exact t.elim
  | cons p qs =>
    rw [e] at t
    have hn : n < ps.length := by
      have z := congrArg List.length e
      rw [List.length_drop, List.length_cons] at z
      omega
    have e2 := List.drop_eq_getElem_cons hn
    rw [e] at e2
    obtain ⟨e3, e4⟩ := List.cons.inj e2
    refine ⟨ps, p, (c', l', k'), ts, dx, rfl, hc, a, b, ?_, t.1, ?_⟩
    · rw [List.getElem?_eq_getElem hn, e3]
    · refine ⟨by rw [← e4]; exact t.2, ?_⟩
      have zz' : n + (ts.length + 1) ≤ 4000000 := zz
      omega
end Rd

namespace Zp
open PySem PySem.Spec PyProof.Rows L2
/-! ### zip of three lists -/
def It3 (K : PySem.W.Frag) (a b c : Addr) (xs ys zs : List V) : It :=
  ⟨fun i H => SqL K H a xs ∧ SqL K H b ys ∧ SqL K H c zs ∧ i < xs.length ∧ i < ys.length ∧ i < zs.length,
   fun i H v H' => ∃ T x y z, v = .ref T ∧ H T = none ∧ H' = upd H T (.tup [x, y, z]) ∧ xs[i]? = some x ∧ ys[i]? = some y ∧ zs[i]? = some z,
   fun i H => SqL K H a xs ∧ SqL K H b ys ∧ SqL K H c zs ∧ i = xs.length ∧ i = ys.length ∧ i = zs.length⟩
structure Far (z TI TO i1 i2 i3 a b c : Addr) : Prop where
  sep : ZipSep3 z TI TO i1 i2 i3 [i1, a] [i2, b] [i3, c]
  a1 : a ≠ i1
  b2 : b ≠ i2
  c3 : c ≠ i3
  tiz : TI ≠ z
  tito : TI ≠ TO
  ti1 : TI ≠ i1
  ti2 : TI ≠ i2
  ti3 : TI ≠ i3
theorem turn3 {P : Program} {w : World} {K : PySem.W.Frag} {elts : List Expr} {kk : Nat} {tpos : Pos} {a b c z TI TO i1 i2 i3 : Addr} {xs ys zs : List V} (D : Far z TI TO i1 i2 i3 a b c) :
    Turn P w K (.Tuple elts kk tpos) (It3 K a b c xs ys zs) [z, TI, TO, i1, i2, i3] z
      (fun i h => IsZip h z TI TO .none ∧ IsTupOf3 h TI (.ref i1) (.ref i2) (.ref i3) ∧ (∃ u v w, IsTupOf3 h TO u v w) ∧ h.IsListIter i1 a i ∧ h.IsListIter i2 b i ∧ h.IsListIter i3 c i) where
  mem := by simp
  obj := fun i h st q hq => by
    obtain ⟨s1, s2, ⟨u, v, w, s3⟩, ⟨o1, e1, _, d1⟩, ⟨o2, e2, _, d2⟩, ⟨o3, e3, _, d3⟩⟩ := st
    have cs : q = z ∨ q = TI ∨ q = TO ∨ q = i1 ∨ q = i2 ∨ q = i3 := by simpa using hq
    rcases cs with rfl | rfl | rfl | rfl | rfl | rfl
    · exact ⟨_, s1, fun v n => nomatch n⟩
    · exact ⟨_, s2, fun v n => nomatch n⟩
    · exact ⟨_, s3, fun v n => nomatch n⟩
    · exact ⟨o1, e1, fun v n => by rw [d1] at n; cases n⟩
    · exact ⟨o2, e2, fun v n => by rw [d2] at n; cases n⟩
    · exact ⟨o3, e3, fun v n => by rw [d3] at n; cases n⟩
  keep := fun i h h' st k => by
    obtain ⟨s1, s2, ⟨u, v, w, s3⟩, t1, t2, t3⟩ := st
    exact ⟨k z (by simp) _ s1, k TI (by simp) _ s2, ⟨u, v, w, k TO (by simp) _ s3⟩, t1.at fun o e => k i1 (by simp) o e, t2.at fun o e => k i2 (by simp) o e, t3.at fun o e => k i3 (by simp) o e⟩
  item := by
    intro X eP ew eK hcalm i pins s σ H E I far st go
    subst eP ew eK
    obtain ⟨s1, s2, s3, t1, t2, t3⟩ := st
    obtain ⟨qa, qb, qc, la, lb, lc⟩ := go
    obtain ⟨us, ra, pa, _⟩ := I.list qa
    obtain ⟨vs, rb, pb, _⟩ := I.list qb
    obtain ⟨ws, rc, pc, _⟩ := I.list qc
    have na := ra.length
    have nb := rb.length
    have nc := rc.length
    have hh : (X.A.in1).handled = none := I.ok.hd hcalm
    have G := GoesN.zip3 (prog := X.prog) (w := X.w) (A := X.A) (elts := elts) (x1 := kk) (pos := tpos) D.sep (Draws.list hh i1 a D.a1 us.toArray) (Draws.list hh i2 b D.b2 vs.toArray) (Draws.list hh i3 c D.c3 ws.toArray)
    have lts : ∀ q ∈ ([z, TI, TO, i1, i2, i3] : List Addr), q < s.heap.objs.size := fun q hq => by
      obtain ⟨u, v, w, s3⟩ := s3
      obtain ⟨o1, e1, _⟩ := t1
      obtain ⟨o2, e2, _⟩ := t2
      obtain ⟨o3, e3, _⟩ := t3
      have cs : q = z ∨ q = TI ∨ q = TO ∨ q = i1 ∨ q = i2 ∨ q = i3 := by simpa using hq
      rcases cs with e | e | e | e | e | e
      · rw [e]; exact Heap.lt_size s1
      · rw [e]; exact Heap.lt_size s2
      · rw [e]; exact Heap.lt_size s3
      · rw [e]; exact Heap.lt_size e1
      · rw [e]; exact Heap.lt_size e2
      · rw [e]; exact Heap.lt_size e3
    have hmin : i < min (min us.toArray.size vs.toArray.size) ws.toArray.size := by simp only [List.size_toArray]; omega
    refine wpAny_mono (G.goes i s (fun v s2 => ∃ x H', Inv X pins σ H' s2 ∧ RelV x v ∧ (It3 X.K a b c xs ys zs).yld i H x H' ∧
      (IsZip s2.heap z TI TO .none ∧ IsTupOf3 s2.heap TI (.ref i1) (.ref i2) (.ref i3) ∧ (∃ u v w, IsTupOf3 s2.heap TO u v w) ∧ s2.heap.IsListIter i1 a (i + 1) ∧ s2.heap.IsListIter i2 b (i + 1) ∧ s2.heap.IsListIter i3 c (i + 1)) ∧ ∀ q ∈ [z, TI, TO, i1, i2, i3], H' q = none)
      E hmin ⟨s1, s2, s3, ⟨t1, pa.isList⟩, ⟨t2, pb.isList⟩, ⟨t3, pc.isList⟩⟩ fun v h' tk hY st' hk htk => ?_) (fun r s4 ⟨v, er, hv⟩ => ⟨v, er, hv⟩) fun _ _ e => e
    obtain ⟨T, u1, u2, u3, rfl, hnew, y1, y2, y3, oT, eT, cT, nT, dT⟩ := hY
    obtain ⟨z1, z2, z3, ⟨k1, _⟩, ⟨k2, _⟩, ⟨k3, _⟩⟩ := st'
    obtain ⟨x, ex⟩ : ∃ x, xs[i]? = some x := ⟨xs[i], List.getElem?_eq_getElem la⟩
    obtain ⟨y, ey⟩ : ∃ y, ys[i]? = some y := ⟨ys[i], List.getElem?_eq_getElem lb⟩
    obtain ⟨q, eq⟩ : ∃ q, zs[i]? = some q := ⟨zs[i], List.getElem?_eq_getElem lc⟩
    obtain ⟨x', gx, rx⟩ := ra.get ex
    obtain ⟨y', gy, ry⟩ := rb.get ey
    obtain ⟨q', gq, rq⟩ := rc.get eq
    have f1 : u1 = x' := by
      have : us[i]? = some u1 := by simpa using y1
      rw [gx] at this; injection this with this; exact this.symm
    have f2 : u2 = y' := by
      have : vs[i]? = some u2 := by simpa using y2
      rw [gy] at this; injection this with this; exact this.symm
    have f3 : u3 = q' := by
      have : ws[i]? = some u3 := by simpa using y3
      rw [gq] at this; injection this with this; exact this.symm
    subst f1 f2 f3
    have new : ObjOk X.prog X.w (upd H T (.tup [x, y, q])) h' T (.tup [x, y, q]) :=
      ⟨by show 3 ≤ sizeLine; decide, [u1, u2, u3], .cons rx (.cons ry (.cons rq .nil)), ⟨_, eT, cT, nT, dT⟩⟩
    have J : Inv X pins σ (upd H T (.tup [x, y, q])) { s with heap := h', toks := tk } :=
      I.turnedNew (ch := [z, TI, TO, i1, i2, i3]) (fun q o nb e => hk q o (fun m => nb (by
        have cs : q = z ∨ q = TO ∨ q = i1 ∨ q = i2 ∨ q = i3 := by simpa using m
        rcases cs with e | e | e | e | e <;> simp [e])) e) far hnew new
    refine ⟨.ref T, _, J, rfl, ⟨T, x, y, q, rfl, I.hok.fresh hnew, rfl, ex, ey, eq⟩, ⟨z1, z2, z3, k1, k2, k3⟩, fun b hb => ?_⟩
    rw [upd_ne (Nat.ne_of_lt (Nat.lt_of_lt_of_le (lts b hb) hnew))]
    exact (far b hb).1
  done := by
    intro X eP ew eK hcalm i pins s σ H E I far st stop
    subst eP ew eK
    obtain ⟨s1, s2, s3, t1, t2, t3⟩ := st
    obtain ⟨qa, qb, qc, la, lb, lc⟩ := stop
    obtain ⟨us, ra, pa, _⟩ := I.list qa
    obtain ⟨vs, rb, pb, _⟩ := I.list qb
    obtain ⟨ws, rc, pc, _⟩ := I.list qc
    have na := ra.length
    have nb := rb.length
    have nc := rc.length
    have hh : (X.A.in1).handled = none := I.ok.hd hcalm
    have G := GoesN.zip3 (prog := X.prog) (w := X.w) (A := X.A) (elts := elts) (x1 := kk) (pos := tpos) D.sep (Draws.list hh i1 a D.a1 us.toArray) (Draws.list hh i2 b D.b2 vs.toArray) (Draws.list hh i3 c D.c3 ws.toArray)
    have hmin : min (min us.toArray.size vs.toArray.size) ws.toArray.size = i := by simp only [List.size_toArray]; omega
    rw [hmin] at G
    refine G.stops s (fun s2 => Inv X pins σ H s2) E ⟨s1, s2, s3, ⟨t1, pa.isList⟩, ⟨t2, pb.isList⟩, ⟨t3, pc.isList⟩⟩ fun h' tk hk htk => ?_
    exact I.turnedL (ch := [z, TI, TO, i1, i2, i3]) (fun q o nb e => hk q o (fun m => nb (by
        have cs : q = z ∨ q = TO ∨ q = i1 ∨ q = i2 ∨ q = i3 := by simpa using m
        rcases cs with e | e | e | e | e <;> simp [e])) e) far
  self := fun A i s Q E st h => wpAny_pyIter_zip st.1 h
def iZip3 (K : PySem.W.Frag) (ta : TA) : TI := fun σ H R => ta σ H fun vs H1 => ∃ a b c xs ys zs, vs = [.ref a, .ref b, .ref c] ∧ SqL K H1 a xs ∧ SqL K H1 b ys ∧ SqL K H1 c zs ∧ R (It3 K a b c xs ys zs) H1
theorem pi_zip3 {X : Cx} {e e2 e3 : Expr} {ta : TA} {p pos tpos : Pos} {elts : List Expr} {kk : Nat} (hg : Gl X "zip") (hm : X.mg "zip" = none) (ha : PA X [e, e2, e3] ta)
    (hs : starEach [e, e2, e3] X.env = (false, eval e X.env) :: starEach [e2, e3] X.env := by rfl) (hpl : (backTo pos (starEach [e2, e3] X.env)).any (·.1) = false := by rfl) :
    PI X (.Tuple elts kk tpos) (.Call (.Name "zip" p) [e, e2, e3] [] pos) (iZip3 X.K ta) := by
  refine ⟨fun pins s σ H R I hw => ?_⟩
  refine Call_ (ld_blt I hg hm PyProof.Rows.boot_zip (PyProof.Rows.callWith_type1 (thn (ha.run pos pins s σ H _ I hw) fun us s1 ⟨vs, H1, I1, r1, q1⟩ => ?_) hs hpl))
  obtain ⟨a, b, c, xs, ys, zs, rfl, qa, qb, qc, q⟩ := q1
  cases r1 with
  | cons ra rr =>
    cases rr with
    | cons rb rr =>
      cases rr with
      | cons rc rr =>
        cases rr
        cases ra
        cases rb
        cases rc
        obtain ⟨us, va, pa, _⟩ := I1.list qa
        obtain ⟨ws, vb, pb, _⟩ := I1.list qb
        obtain ⟨ts, vc, pc, _⟩ := I1.list qc
        have la : a < s1.heap.objs.size := pa.lt
        have lb : b < s1.heap.objs.size := pb.lt
        have lc : c < s1.heap.objs.size := pc.lt
        refine zip_begins3 (begins_list a us.toArray) (begins_list b ws.toArray) (begins_list c ts.toArray) pa.isList pb.isList pc.isList fun h' hz hTI hTO h1 h2 h3 hsz hk => wpAny_pyIter_zip hz ?_
        have J : Inv X pins σ H1 { s1 with heap := h' } := I1.kept (t' := s1.toks) hk
        generalize hN : s1.heap.objs.size = N at *
        have far : Far (N + 5) (N + 3) (N + 4) N (N + 1) (N + 2) a b c :=
          { sep := zip_sep3 (by intro q hq; have : q = a := by simpa using hq
                                rw [this]; exact la) (by intro q hq; have : q = b := by simpa using hq
                                                         rw [this]; exact lb) (by intro q hq; have : q = c := by simpa using hq
                                                                                  rw [this]; exact lc)
            a1 := Nat.ne_of_lt la, b2 := Nat.ne_of_lt (Nat.lt_succ_of_lt lb), c3 := Nat.ne_of_lt (Nat.lt_succ_of_lt (Nat.lt_succ_of_lt lc))
            tiz := show (N + 3 : Nat) ≠ N + 5 by omega, tito := show (N + 3 : Nat) ≠ N + 4 by omega, ti1 := show (N + 3 : Nat) ≠ N by omega, ti2 := show (N + 3 : Nat) ≠ N + 1 by omega, ti3 := show (N + 3 : Nat) ≠ N + 2 by omega }
        refine ⟨N + 5, [N + 5, N + 3, N + 4, N, N + 1, N + 2], _, _, H1, rfl, J, turn3 far, ⟨hz, hTI, ⟨_, _, _, hTO⟩, ⟨_, h1, rfl, rfl⟩, ⟨_, h2, rfl, rfl⟩, ⟨_, h3, rfl, rfl⟩⟩, fun x hx => ?_, q⟩
        have cs : x = N + 5 ∨ x = N + 3 ∨ x = N + 4 ∨ x = N ∨ x = N + 1 ∨ x = N + 2 := by simpa using hx
        have le : N ≤ x := by
          rcases cs with e | e | e | e | e | e
          · rw [e]; exact Nat.le_add_right N 5
          · rw [e]; exact Nat.le_add_right N 3
          · rw [e]; exact Nat.le_add_right N 4
          · rw [e]; exact Nat.le_refl N
          · rw [e]; exact Nat.le_add_right N 1
          · rw [e]; exact Nat.le_add_right N 2
        have le' : s1.heap.objs.size ≤ x := by rw [hN]; exact le
        exact I1.fpOk le' (I1.hok.fresh le')
theorem walk3 {K : PySem.W.Frag} {a b c : Addr} {xs ys zs : List V} (h1 : ys.length = xs.length) (h2 : zs.length = xs.length) :
    Walk (It3 K a b c xs ys zs) xs.length (fun H => SqL K H a xs ∧ SqL K H b ys ∧ SqL K H c zs)
      (fun i H v H' => ∃ T x y z, v = .ref T ∧ H T = none ∧ H' = upd H T (.tup [x, y, z]) ∧ xs[i]? = some x ∧ ys[i]? = some y ∧ zs[i]? = some z) :=
  ⟨fun i H hi q => ⟨q.1, q.2.1, q.2.2, hi, by omega, by omega⟩, fun H q => ⟨q.1, q.2.1, q.2.2, rfl, h1.symm, h2.symm⟩, fun _ _ _ _ _ _ y => y⟩
end Zp

namespace Kg
open PySem PySem.Spec PyProof.Rows L2
/-! ### d.get(k, x) of a written dict whose keys are ints -/
structure KInt (K : PySem.W.Frag) (d : Addr) (es : Array DictEntry) (n : Nat) : Prop where
  at_ : K.lookup d = some ⟨.type "dict", none, .dict es n, #[]⟩
  lit : ∀ e ∈ es, ∃ k t, e.key = .int k t ∧ e.hash = hashInt k
  low : (d == sysModules) = false
theorem KInt.map {prog : Program} {w : World} {K : PySem.W.Frag} {d : Addr} {es : Array DictEntry} {n : Nat} {h : Heap} (D : KInt K d es n) (X : K.In h) : h.MapOf (intKind prog w) d (fun k => findBy Value.isInt es k) :=
  ⟨_, es, n, X _ _ D.at_, ⟨rfl, rfl, rfl⟩, rfl, fun e he => by
    obtain ⟨k, t, a, b⟩ := D.lit e he
    exact ⟨k, by rw [a]; exact intKind_is prog w k t, b⟩, fun _ => rfl⟩
def tKGet (d : Addr) (es : Array DictEntry) (td ty tx : TE) : TE := fun σ H Q => td σ H fun x H1 => x = .ref d ∧ ty σ H1 fun y H2 => tx σ H2 fun z H3 => ∃ (k : Int) (u : Value) (v : V), y = .int k ∧ findBy Value.isInt es k = some u ∧ RelV v u ∧ Q v H3
theorem pe_kget {X : Cx} {o e f : Expr} {apos cpos : Pos} {td ty tx : TE} {d : Addr} {es : Array DictEntry} {n : Nat} (D : KInt X.K d es n) (ho : PE X o td) (he : PE X e ty) (hf : PE X f tx) (m : M2 X o "get" apos e f cpos) :
    PE X (.Call (.Attribute o "get" apos) [e, f] [] cpos) (tKGet d es td ty tx) := by
  refine ⟨fun pins s σ H Q I hw => ?_⟩
  refine wpAny_Call_method m.base m.few m.line PySem.F.plainAttrs_dict PySem.F.slot_dict_get PySem.F.type_dict_get (thn (ho.run pins s σ H _ I hw) fun u s1 ⟨x, H1, I1, rx, ex, q1⟩ => ?_)
  subst ex
  obtain rfl : u = Value.ref d := rx
  have M1 := D.map (prog := X.prog) (w := X.w) I1.kIn
  refine ⟨M1.typeIs, fun b q => ?_, ?_⟩
  · cases q
    exact ⟨_, I1.kIn _ _ D.at_, rfl⟩
  rw [m.trees]
  refine Calls.callWith_builtin rfl (Calls.evalArgs_plain (Calls.spliced_cons (thn (he.run pins s1 σ H1 _ I1 q1) fun kv s2 ⟨y, H2, I2, ry, q2⟩ =>
    Calls.spliced_cons (thn (hf.run pins s2 σ H2 _ I2 q2) fun fv s3 ⟨z, H3, I3, rz, k, u, v, ey, hk, ru, q3⟩ => Calls.spliced_nil ?_))))
  subst ey
  obtain ⟨t, rfl⟩ := ry
  have M3 := D.map (prog := X.prog) (w := X.w) I3.kIn
  refine call_meetsIn PySem.F.slot_dict_get M3.typeIs PySem.F.entry_dict_get (PySem.F.args_dict_get_3 _ _ _) (meets_dict_get_default (intKind X.prog X.w) d (intKind_is _ _ k t) D.low fv) ⟨_, M3, v, H3, I3.tok _, ?_, q3⟩
  rw [hk]
  exact ru
/-! ### written tuples, told by a Bool of the written part -/
def tupA (K : PySem.W.Frag) (u : Value) (vs : List V) : Bool := match u with
  | .ref a => match K.lookup a with
    | some ⟨.type c, _, .seq its _, _⟩ => decide (c = "tuple") && (decide (its.size ≤ sizeLine) && He.relAll vs its.toList)
    | _ => false
  | _ => false
theorem tupA_ok {K : PySem.W.Frag} {u : Value} {vs : List V} (h : tupA K u vs = true) : ∃ a, u = .ref a ∧ ∀ H : Hp, SqT K H a vs := by
  unfold tupA at h
  split at h
  · rename_i a
    refine ⟨a, rfl, fun H => ?_⟩
    split at h
    · rename_i c od its n osl hl
      obtain ⟨h1, h2⟩ := He.ba h
      obtain ⟨h2, h3⟩ := He.ba h2
      have e1 : c = "tuple" := of_decide_eq_true h1
      subst e1
      exact Or.inr ⟨_, its, n, hl, rfl, rfl, of_decide_eq_true h2, He.relAll_ok h3⟩
    · cases h
  · cases h
/-- a written dict's entry at a text is this tuple -/
def entA (K : PySem.W.Frag) (d : Addr) (x : Str) (vs : List V) : Bool := match PySem.W.nsIn K d x with
  | some (some u) => tupA K u vs
  | _ => false
theorem entA_ok {K : PySem.W.Frag} {d : Addr} {x : Str} {vs : List V} (h : entA K d x vs = true) : ∃ a, PySem.W.nsIn K d x = some (some (.ref a)) ∧ ∀ H : Hp, SqT K H a vs := by
  unfold entA at h
  split at h
  · rename_i u hu
    obtain ⟨a, rfl, q⟩ := tupA_ok h
    exact ⟨a, hu, q⟩
  · cases h
def intOk (e : DictEntry) : Bool := match e.key with
  | .int k _ => decide (e.hash = hashInt k)
  | _ => false
theorem intOk_ok {e : DictEntry} (h : intOk e = true) : ∃ k t, e.key = .int k t ∧ e.hash = hashInt k := by
  unfold intOk at h
  split at h
  · rename_i k t hk
    exact ⟨k, t, hk, of_decide_eq_true h⟩
  · cases h
/-- a written dict with int keys; at each of these ints this tuple of texts -/
def kintB (K : PySem.W.Frag) (d : Addr) (qs : List (Int × List V)) : Bool := match K.lookup d with
  | some ⟨.type c, none, .dict es _, sl⟩ => decide (c = "dict") && (decide (sl.toList = []) && (!(d == sysModules) && (es.all intOk && qs.all fun q => match findBy Value.isInt es q.1 with
    | some u => tupA K u q.2
    | none => false)))
  | _ => false
theorem kintB_ok {K : PySem.W.Frag} {d : Addr} {qs : List (Int × List V)} (h : kintB K d qs = true) : ∃ es n, KInt K d es n ∧ ∀ q ∈ qs, ∃ a, findBy Value.isInt es q.1 = some (.ref a) ∧ ∀ H : Hp, SqT K H a q.2 := by
  unfold kintB at h
  split at h
  · rename_i c es n sl hl
    obtain ⟨h1, h⟩ := He.ba h
    obtain ⟨h2, h⟩ := He.ba h
    obtain ⟨h3, h⟩ := He.ba h
    obtain ⟨h4, h5⟩ := He.ba h
    have e1 : c = "dict" := of_decide_eq_true h1
    have e2 : sl = #[] := by apply Array.ext'; exact of_decide_eq_true h2
    subst e1 e2
    refine ⟨es, n, ⟨hl, fun e he => intOk_ok (Array.all_eq_true_iff_forall_mem.mp h4 e he), by simpa using h3⟩, fun q hq => ?_⟩
    have h6 := List.all_eq_true.mp h5 q hq
    split at h6
    · rename_i u hu
      obtain ⟨a, rfl, r⟩ := tupA_ok h6
      exact ⟨a, hu, r⟩
    · cases h6
  · cases h
end Kg

namespace K70
open PySem PySem.Spec PyProof.Rows L2 My
/-! ### lines, and what they take -/
inductive Ln where
  | lab (n : Nat) | br (o g : Nat) | nop | stop | jmp (g : Nat)
deriving DecidableEq
def behind : List Ln → List Nat
  | .lab n :: r => n :: behind r
  | _ => []
def size0 : Ln → List Ln → Nat
  | .lab _, _ => 0
  | .jmp g, r => if g ∈ behind r then 0 else 1
  | _, _ => 1
def isBr : Ln → Bool
  | .br _ _ => true
  | _ => false
def szs (F : Nat → Bool) : Nat → List Ln → List Nat
  | _, [] => []
  | i, l :: r => (if (isBr l && F i) = true then 2 else size0 l r) :: szs F (i + 1) r
theorem szs_len (F : Nat → Bool) : ∀ (ls : List Ln) (i : Nat), (szs F i ls).length = ls.length
  | [], _ => rfl
  | l :: r, i => by rw [szs, List.length_cons, List.length_cons, szs_len F r]
def starts : Nat → List Nat → List Nat
  | _, [] => []
  | s, z :: zs => s :: starts (s + z) zs
theorem starts_len : ∀ (zs : List Nat) (s : Nat), (starts s zs).length = zs.length
  | [], _ => rfl
  | z :: zs, s => by rw [starts, List.length_cons, List.length_cons, starts_len zs]
theorem starts_at : ∀ (zs : List Nat) (s i : Nat), i < zs.length → (starts s zs)[i]? = some (s + (zs.take i).sum)
  | [], _, i, h => by simp at h
  | z :: zs, s, 0, _ => by simp [starts]
  | z :: zs, s, i + 1, h => by
    have q := starts_at zs (s + z) i (by simpa using h)
    simp only [starts, List.getElem?_cons_succ, List.take_succ_cons, List.sum_cons]
    rw [q, Nat.add_assoc]
def labs : Nat → List Ln → List Nat → List (Key × V) → List (Key × V)
  | s, l :: ls, z :: zs, acc => labs (s + z) ls zs (match l with
    | .lab n => putK acc (.inl (n : Int)) (.int (s : Int))
    | _ => acc)
  | _, _, _, acc => acc
def labPos (g : Nat) : Nat → List Ln → List Nat → Option Nat
  | s, l :: ls, z :: zs => match labPos g (s + z) ls zs with
    | some p => some p
    | none => if l = .lab g then some s else none
  | _, _, _ => none
theorem labs_get (g : Nat) : ∀ (ls : List Ln) (zs : List Nat) (s : Nat) (acc : List (Key × V)), valV (labs s ls zs acc) (.inl (g : Int)) = match labPos g s ls zs with
    | some p => some (.int (p : Int))
    | none => valV acc (.inl (g : Int))
  | [], _, _, _ => by unfold labs labPos; rfl
  | l :: ls, [], _, _ => by unfold labs labPos; rfl
  | l :: ls, z :: zs, s, acc => by
    unfold labs labPos
    rw [labs_get g ls zs (s + z)]
    cases e : labPos g (s + z) ls zs with
    | some p => rfl
    | none =>
      cases l with
      | lab n =>
        show valV (putK acc (.inl (n : Int)) (.int (s : Int))) (.inl (g : Int)) = _
        rw [valV_put]
        by_cases c : g = n
        · subst c
          rw [if_pos rfl, if_pos rfl]
        · rw [if_neg (fun z => c (by injection z with z; omega)), if_neg (fun z => c (by injection z with z; exact z.symm))]
      | _ => rfl
theorem labs_nodup : ∀ (ls : List Ln) (zs : List Nat) (s : Nat) (acc : List (Key × V)), (acc.map (·.1)).Nodup → ((labs s ls zs acc).map (·.1)).Nodup
  | [], _, _, _, h => by unfold labs; exact h
  | l :: ls, [], _, _, h => by unfold labs; exact h
  | l :: ls, z :: zs, s, acc, h => by
    unfold labs
    refine labs_nodup ls zs (s + z) _ ?_
    cases l with
    | lab n =>
      show ((putK acc (.inl (n : Int)) (.int (s : Int))).map (·.1)).Nodup
      cases e : valV acc (.inl (n : Int)) with
      | none => exact nd_putK _ h e
      | some v =>
        have q : (putK acc (.inl (n : Int)) (.int (s : Int))).map (·.1) = acc.map (·.1) := by
          unfold putK
          have : (acc.any fun kv => decide (kv.1 = (.inl (n : Int)))) = true := by
            unfold valV at e
            cases e2 : acc.find? (fun kv => decide (kv.1 = (Sum.inl (n : Int)))) with
            | none => rw [e2] at e; cases e
            | some kv =>
              have := List.find?_some e2
              exact List.any_eq_true.mpr ⟨kv, List.mem_of_find?_eq_some e2, this⟩
          simp only [this, if_true, List.map_map]
          apply List.map_congr_left
          intro kv _
          dsimp only [Function.comp]
          by_cases c : kv.1 = Sum.inl (n : Int)
          · simp [c]
          · simp [c]
        rw [q]
        exact h
    | _ => exact h
theorem nodup_get : ∀ {kvs : List (Key × V)}, (kvs.map (·.1)).Nodup → ∀ p ∈ kvs, valV kvs p.1 = some p.2
  | [], _, p, hp => by cases hp
  | q :: kvs, h, p, hp => by
    rw [List.map_cons, List.nodup_cons] at h
    unfold valV
    rw [List.find?_cons]
    by_cases c : q.1 = p.1
    · rw [show decide (q.1 = p.1) = true from decide_eq_true c]
      rcases List.mem_cons.mp hp with rfl | hp
      · rfl
      · exact absurd (by rw [c]; exact List.mem_map_of_mem hp) h.1
    · rw [show decide (q.1 = p.1) = false from decide_eq_false c]
      rcases List.mem_cons.mp hp with rfl | hp
      · exact absurd rfl c
      · exact nodup_get h.2 p hp
/-! ### places -/
def S (F : Nat → Bool) (ls : List Ln) (i : Nat) : Nat := ((szs F 0 ls).take i).sum
def lastLab (g : Nat) : List Ln → Option Nat
  | [] => none
  | l :: r => match lastLab g r with
    | some j => some (j + 1)
    | none => if l = .lab g then some 0 else none
theorem labPos_eq (g : Nat) (F : Nat → Bool) : ∀ (ls : List Ln) (i s : Nat), labPos g s ls (szs F i ls) = (lastLab g ls).map fun j => s + ((szs F i ls).take j).sum
  | [], _, _ => rfl
  | l :: r, i, s => by
    unfold szs labPos lastLab
    rw [labPos_eq g F r (i + 1)]
    cases e : lastLab g r with
    | some j => simp [Nat.add_assoc]
    | none =>
      by_cases c : l = .lab g
      · simp [c]
      · simp [c]
theorem lastLab_lt (g : Nat) : ∀ (ls : List Ln) (j : Nat), lastLab g ls = some j → j < ls.length
  | [], _, h => by cases h
  | l :: r, j, h => by
    unfold lastLab at h
    cases e : lastLab g r with
    | some k =>
      rw [e] at h
      injection h with h
      have := lastLab_lt g r k e
      simp only [List.length_cons]; omega
    | none =>
      rw [e] at h
      dsimp only at h
      split at h
      · injection h with h; simp only [List.length_cons]; omega
      · cases h
def dist (F : Nat → Bool) (ls : List Ln) (i g : Nat) : Int := (S F ls ((lastLab g ls).getD 0) : Int) - (S F ls i : Int)
def reach (d : Int) : Bool := decide (-1024 ≤ d) && decide (d ≤ 1023)
def fitsB (F : Nat → Bool) (ls : List Ln) : Prop := ∀ i o g, ls[i]? = some (.br o g) → F i = false → reach (dist F ls i g) = true
/-! more words never bring things nearer -/
theorem szs_le {F G : Nat → Bool} (h : ∀ i, F i = true → G i = true) : ∀ (ls : List Ln) (i k : Nat), (szs F i ls)[k]?.getD 0 ≤ (szs G i ls)[k]?.getD 0
  | [], _, _ => by simp [szs]
  | l :: r, i, 0 => by
    simp only [szs, List.getElem?_cons_zero, Option.getD_some]
    by_cases b : isBr l = true
    · have z : size0 l r = 1 := by cases l <;> first | rfl | cases b
      rw [b, z, Bool.true_and, Bool.true_and]
      cases f : F i with
      | true => rw [h i f]; exact Nat.le_refl _
      | false => cases G i <;> simp
    · have : isBr l = false := by simpa using b
      rw [this]
      simp
  | l :: r, i, k + 1 => by
    simp only [szs, List.getElem?_cons_succ]
    exact szs_le h r (i + 1) k
theorem sum_take_succ (xs : List Nat) (k : Nat) : (xs.take (k + 1)).sum = (xs.take k).sum + xs[k]?.getD 0 := by
  rw [List.take_add_one, List.sum_append]
  cases xs[k]? <;> simp
theorem sum_mono {xs ys : List Nat} (h : ∀ k : Nat, xs[k]?.getD 0 ≤ ys[k]?.getD 0) (i : Nat) : ∀ m, (xs.take (i + m)).sum + (ys.take i).sum ≤ (ys.take (i + m)).sum + (xs.take i).sum
  | 0 => by rw [Nat.add_zero, Nat.add_comm]; exact Nat.le_refl _
  | m + 1 => by
    have q := sum_mono h i m
    have e := h (i + m)
    rw [← Nat.add_assoc, sum_take_succ, sum_take_succ]
    omega
theorem sum_grow (xs : List Nat) (i : Nat) : ∀ m, (xs.take i).sum ≤ (xs.take (i + m)).sum
  | 0 => Nat.le_refl _
  | m + 1 => by
    have q := sum_grow xs i m
    rw [← Nat.add_assoc, sum_take_succ]
    omega
theorem S_mono {F G : Nat → Bool} (h : ∀ i, F i = true → G i = true) (ls : List Ln) {i j : Nat} (hij : i ≤ j) : S F ls j + S G ls i ≤ S G ls j + S F ls i ∧ S F ls i ≤ S F ls j := by
  obtain ⟨m, rfl⟩ := Nat.exists_eq_add_of_le hij
  exact ⟨sum_mono (szs_le h ls 0) i m, sum_grow _ i m⟩
theorem reach_mono {F G : Nat → Bool} (h : ∀ i, F i = true → G i = true) {ls : List Ln} {i g : Nat} (r : reach (dist G ls i g) = true) : reach (dist F ls i g) = true := by
  unfold reach dist at *
  rw [Bool.and_eq_true, decide_eq_true_eq, decide_eq_true_eq] at *
  rcases Nat.le_total i ((lastLab g ls).getD 0) with c | c
  · obtain ⟨a, b⟩ := S_mono h ls c
    omega
  · obtain ⟨a, b⟩ := S_mono h ls c
    obtain ⟨a', b'⟩ := S_mono (F := G) (G := G) (fun _ z => z) ls c
    omega
/-! ### branches, in their order -/
def brs (ls : List Ln) : List Nat := (List.range ls.length).filter fun i => isBr (ls.getD i .nop)
theorem mem_brs {ls : List Ln} {i : Nat} : i ∈ brs ls ↔ ∃ o g, ls[i]? = some (.br o g) := by
  unfold brs
  rw [List.mem_filter, List.mem_range]
  constructor
  · rintro ⟨h, b⟩
    have e : ls[i]? = some ls[i] := List.getElem?_eq_getElem h
    rw [List.getD_eq_getElem?_getD, e, Option.getD_some] at b
    cases q : ls[i] with
    | br o g => exact ⟨o, g, by rw [e, q]⟩
    | _ => rw [q] at b; cases b
  · rintro ⟨o, g, e⟩
    have h : i < ls.length := by
      by_cases c : i < ls.length
      · exact c
      · rw [List.getElem?_eq_none (by omega)] at e; cases e
    exact ⟨h, by rw [List.getD_eq_getElem?_getD, e]; rfl⟩
theorem brs_nodup (ls : List Ln) : (brs ls).Nodup := List.Pairwise.filter _ List.nodup_range
theorem brs_sorted (ls : List Ln) : (brs ls).Pairwise (· < ·) := List.Pairwise.filter _ List.pairwise_lt_range
/-- all that is known of what long_branches tells -/
structure Best (ls : List Ln) (F : Nat → Bool) : Prop where
  sub : ∀ i, F i = true → i ∈ brs ls
  fit : fitsB F ls
  least : ∀ G : Nat → Bool, fitsB G ls → ∀ i, F i = true → G i = true
/-! one look at all branches, at the places of F: what comes to be long -/
structure Look (ls : List Ln) (F F' : Nat → Bool) (t : Nat) : Prop where
  more : ∀ i, F i = true → F' i = true
  sub : ∀ i, F' i = true → i ∈ brs ls
  low : ∀ G : Nat → Bool, fitsB G ls → (∀ i, F i = true → G i = true) → ∀ i, F' i = true → G i = true
  done : (∀ i, F' i = true → F i = true) → ∀ k, k < t → ∀ i, (brs ls)[k]? = some i → ∀ o g, ls[i]? = some (.br o g) → F i = false → reach (dist F ls i g) = true
theorem Look.start {ls : List Ln} {F : Nat → Bool} (h : ∀ i, F i = true → i ∈ brs ls) : Look ls F F 0 := ⟨fun _ z => z, h, fun _ _ z => z, fun _ k hk => absurd hk (by omega)⟩
/-- a branch is left as it is -/
theorem Look.keep {ls : List Ln} {F F' : Nat → Bool} {t i o g : Nat} (L : Look ls F F' t) (hi : (brs ls)[t]? = some i) (hl : ls[i]? = some (.br o g)) (h : F' i = true ∨ reach (dist F ls i g) = true) : Look ls F F' (t + 1) :=
  ⟨L.more, L.sub, L.low, fun z k hk j hj o' g' e f => by
    by_cases c : k < t
    · exact L.done z k c j hj o' g' e f
    · have : k = t := by omega
      subst this
      rw [hi] at hj
      injection hj with hj
      subst hj
      rw [hl] at e
      injection e with e
      injection e with e1 e2
      subst e1 e2
      rcases h with h | h
      · rw [z i h] at f; cases f
      · exact h⟩
/-- a branch comes to be long -/
theorem Look.put {ls : List Ln} {F F' : Nat → Bool} {t i o g : Nat} (L : Look ls F F' t) (hi : (brs ls)[t]? = some i) (hl : ls[i]? = some (.br o g)) (hF : F' i = false) (h : reach (dist F ls i g) = false) : Look ls F (fun j => decide (j = i) || F' j) (t + 1) := by
  refine ⟨fun j z => by rw [Bool.or_eq_true]; exact Or.inr (L.more j z), fun j z => ?_, fun G q s j z => ?_, fun z => ?_⟩
  · rw [Bool.or_eq_true, decide_eq_true_eq] at z
    rcases z with rfl | z
    · exact mem_brs.mpr ⟨o, g, hl⟩
    · exact L.sub j z
  · rw [Bool.or_eq_true, decide_eq_true_eq] at z
    rcases z with rfl | z
    · cases e : G j with
      | true => rfl
      | false =>
        have := reach_mono s (q j o g hl e)
        rw [h] at this; cases this
    · exact L.low G q s j z
  · have a := z i (by simp)
    rw [L.more i a] at hF
    cases hF
theorem Look.best {ls : List Ln} {F F' : Nat → Bool} (L : Look ls F F' (brs ls).length) (hm : ∀ G : Nat → Bool, fitsB G ls → ∀ i, F i = true → G i = true) (z : ∀ i, F' i = true → F i = true) : Best ls F := by
  refine ⟨fun i h => L.sub i (L.more i h), fun i o g e f => ?_, hm⟩
  obtain ⟨k, hk, q⟩ := List.getElem_of_mem (mem_brs.mpr ⟨o, g, e⟩)
  exact L.done z k hk i (by rw [List.getElem?_eq_getElem hk, q]) o g e f
theorem Look.least {ls : List Ln} {F F' : Nat → Bool} {t : Nat} (L : Look ls F F' t) (hm : ∀ G : Nat → Bool, fitsB G ls → ∀ i, F i = true → G i = true) : ∀ G : Nat → Bool, fitsB G ls → ∀ i, F' i = true → G i = true := fun G q i z => L.low G q (hm G q) i z
end K70

namespace K70
open PySem PyProof.Rows L2 My
open Builtin (bitAnd bitOr)
/-! ### words of branches and jumps -/
theorem and_disj : ∀ (k : Nat) (a b : Int), a % 2 ^ k = 0 → 0 ≤ b → b < 2 ^ k → bitAnd a b = 0
  | 0, a, b, _, h0, h1 => by
    have : b = 0 := by
      have : (2 : Int) ^ 0 = 1 := by decide
      omega
    subst this
    exact bitAnd_zero a
  | k + 1, a, b, h, h0, h1 => by
    have e : (2 : Int) ^ (k + 1) = 2 * 2 ^ k := by rw [Int.pow_succ, Int.mul_comm]
    rw [e] at h h1
    have hp : (0 : Int) < 2 ^ k := Int.pow_pos (by decide)
    obtain ⟨q, hq⟩ : ∃ q, a = 2 * 2 ^ k * q := ⟨a / (2 * 2 ^ k), by have := Int.mul_ediv_add_emod a (2 * 2 ^ k); rw [h, Int.add_zero] at this; exact this.symm⟩
    have ha : a % 2 = 0 := by rw [hq, Int.mul_assoc]; exact Int.mul_emod_right _ _
    have ha2 : a / 2 = 2 ^ k * q := by rw [hq, Int.mul_assoc]; exact Int.mul_ediv_cancel_left _ (by decide)
    rw [PySem.W.kbt_halves a b, and_disj k (a / 2) (b / 2) (by rw [ha2]; exact Int.mul_emod_right _ _) (by omega) (by omega), if_neg (by omega)]
    rfl
theorem and_shift : ∀ (k : Nat) (x p : Int), bitAnd x (p * 2 ^ k) = bitAnd (x / 2 ^ k) p * 2 ^ k
  | 0, x, p => by
    have : (2 : Int) ^ 0 = 1 := by decide
    rw [this, Int.mul_one, Int.mul_one, Int.ediv_one]
  | k + 1, x, p => by
    have e : (2 : Int) ^ (k + 1) = 2 ^ k * 2 := Int.pow_succ ..
    have e2 : p * (2 ^ k * 2) = 2 * (p * 2 ^ k) := by rw [← Int.mul_assoc, Int.mul_comm]
    rw [e, e2, PySem.W.kbt_halves, Int.mul_ediv_cancel_left _ (by decide), and_shift k (x / 2) p, if_neg (by omega), Int.ediv_ediv_of_nonneg (by decide), Int.mul_comm 2 ((2 : Int) ^ k), Int.add_zero, Int.mul_comm 2, Int.mul_assoc]
/-- a field where there is nothing yet -/
theorem or_field (m k : Nat) {x p : Int} (h : (x / 2 ^ k) % 2 ^ m = 0) (h0 : 0 ≤ p) (h1 : p < 2 ^ m) : bitOr x (p * 2 ^ k) = x + p * 2 ^ k := by
  rw [bitOr_and, and_shift, and_disj m _ _ h h0 h1, Int.zero_mul, Int.sub_zero]
theorem or_fieldL (m k : Nat) {M D x p : Int} (hM : (2 : Int) ^ m = M) (hD : (2 : Int) ^ k = D) (h : (x / D) % M = 0) (h0 : 0 ≤ p) (h1 : p < M) : bitOr x (p * D) = x + p * D := by
  subst hM hD
  exact or_field m k h h0 h1
theorem p31 : (2 : Int) ^ 31 = 2147483648 := by decide
theorem p25 : (2 : Int) ^ 25 = 33554432 := by decide
theorem p21 : (2 : Int) ^ 21 = 2097152 := by decide
theorem p20 : (2 : Int) ^ 20 = 1048576 := by decide
theorem p15 : (2 : Int) ^ 15 = 32768 := by decide
theorem p12 : (2 : Int) ^ 12 = 4096 := by decide
theorem p11 : (2 : Int) ^ 11 = 2048 := by decide
theorem p10 : (2 : Int) ^ 10 = 1024 := by decide
theorem p8 : (2 : Int) ^ 8 = 256 := by decide
theorem p7 : (2 : Int) ^ 7 = 128 := by decide
theorem p6 : (2 : Int) ^ 6 = 64 := by decide
theorem p5 : (2 : Int) ^ 5 = 32 := by decide
theorem p4 : (2 : Int) ^ 4 = 16 := by decide
theorem p3 : (2 : Int) ^ 3 = 8 := by decide
theorem p1 : (2 : Int) ^ 1 = 2 := by decide
def opns : List Str := ["beq", "bne", "blt", "bge", "bltu", "bgeu"]
def opn (o : Nat) : Str := opns.getD o ""
def prt (o : Nat) : Int := ([0, 1, 4, 5, 6, 7] : List Int).getD o 0
def trn (o : Nat) : Nat := ([1, 0, 3, 2, 5, 4] : List Nat).getD o 0
theorem prt_ok : ∀ o, o < 6 → 0 ≤ prt o ∧ prt o < 8 := by decide
theorem trn_ok : ∀ o, o < 6 → trn o < 6 := by decide
def wB0 (d : Int) : Int := bitOr (bitOr (bitOr (bitOr (bitOr (bitAnd (d / 2 ^ 12) 1 * 2 ^ 31) (bitAnd (d / 2 ^ 5) 63 * 2 ^ 25)) (11 * 2 ^ 20)) (10 * 2 ^ 15)) (bitAnd (d / 2 ^ 1) 15 * 2 ^ 8)) (bitAnd (d / 2 ^ 11) 1 * 2 ^ 7)
def fin (x l p f : Int) : Int := bitOr (bitOr (bitOr x l) (p * 2 ^ 12)) (f * 2 ^ 25)
def wB (o : Nat) (d : Int) : Int := fin (wB0 d) 99 (prt o) 0
def wJ0 (d : Int) : Int := bitOr (bitOr (bitOr (bitOr (bitAnd (d / 2 ^ 20) 1 * 2 ^ 31) (bitAnd (d / 2 ^ 1) 1023 * 2 ^ 21)) (bitAnd (d / 2 ^ 11) 1 * 2 ^ 20)) (bitAnd (d / 2 ^ 12) 255 * 2 ^ 12)) (0 * 2 ^ 7)
def wJ (d : Int) : Int := fin (wJ0 d) 111 0 0
def sgn (n h : Int) : Int := if h ≤ n then n - 2 * h else n
def rB (w : Int) : Int := bitOr (bitOr (bitOr (w / 2 ^ 31 * 2 ^ 12) (bitAnd (w / 2 ^ 7) 1 * 2 ^ 11)) (bitAnd (w / 2 ^ 25) 63 * 2 ^ 5)) (bitAnd (w / 2 ^ 8) 15 * 2 ^ 1)
def rJ (w : Int) : Int := bitOr (bitOr (bitOr (w / 2 ^ 31 * 2 ^ 20) (bitAnd (w / 2 ^ 12) 255 * 2 ^ 12)) (bitAnd (w / 2 ^ 20) 1 * 2 ^ 11)) (bitAnd (w / 2 ^ 21) 1023 * 2 ^ 1)
theorem m1 (x : Int) : bitAnd x 1 = x % 2 := bitAnd_m1 x
theorem m4 (x : Int) : bitAnd x 15 = x % 16 := bitAnd_m4 x
theorem m6 (x : Int) : bitAnd x 63 = x % 64 := bitAnd_m6 x
theorem m8 (x : Int) : bitAnd x 255 = x % 256 := bitAnd_m8 x
theorem m10 (x : Int) : bitAnd x 1023 = x % 1024 := PySem.W.kbt_mask x 10
theorem or0 (x : Int) (k : Nat) : bitOr x (0 * 2 ^ k) = x := by rw [Int.zero_mul, bitOr_and, bitAnd_zero, Int.add_zero, Int.sub_zero]
theorem or_low (m : Nat) {x p : Int} (h : x % 2 ^ m = 0) (h0 : 0 ≤ p) (h1 : p < 2 ^ m) : bitOr x p = x + p := by
  have := or_field m 0 (x := x) (p := p) (by rw [show (2 : Int) ^ 0 = 1 from by decide, Int.ediv_one]; exact h) h0 h1
  rw [show (2 : Int) ^ 0 = 1 from by decide, Int.mul_one] at this
  exact this
theorem wB_eq {o : Nat} (ho : o < 6) (d : Int) : wB o d = (d / 4096 % 2) * 2147483648 + (d / 32 % 64) * 33554432 + 11534336 + 327680 + (d / 2 % 16) * 256 + (d / 2048 % 2) * 128 + 99 + prt o * 4096 := by
  have hp := prt_ok o ho
  unfold wB fin wB0
  rw [m1, m1, m4, m6, or0, p31, p25, p20, p15, p12, p11, p8, p7, p5, p1]
  have h12 : 0 ≤ d / 4096 % 2 ∧ d / 4096 % 2 < 2 := by omega
  have h5 : 0 ≤ d / 32 % 64 ∧ d / 32 % 64 < 64 := by omega
  have h1 : 0 ≤ d / 2 % 16 ∧ d / 2 % 16 < 16 := by omega
  have h11 : 0 ≤ d / 2048 % 2 ∧ d / 2048 % 2 < 2 := by omega
  generalize d / 4096 % 2 = f12 at *
  generalize d / 32 % 64 = f5 at *
  generalize d / 2 % 16 = f1 at *
  generalize d / 2048 % 2 = f11 at *
  generalize prt o = p at *
  rw [or_fieldL 6 25 p6 p25 (by omega) (by omega) (by omega), or_fieldL 5 20 p5 p20 (by omega) (by omega) (by omega), or_fieldL 5 15 p5 p15 (by omega) (by omega) (by omega), or_fieldL 4 8 p4 p8 (by omega) (by omega) (by omega), or_fieldL 1 7 p1 p7 (by omega) (by omega) (by omega)]
  rw [or_low 7 (p := 99) (by omega) (by omega) (by omega), or_fieldL 3 12 p3 p12 (by omega) (by omega) (by omega)]
  omega
theorem wJ_eq (d : Int) : wJ d = (d / 1048576 % 2) * 2147483648 + (d / 2 % 1024) * 2097152 + (d / 2048 % 2) * 1048576 + (d / 4096 % 256) * 4096 + 111 := by
  unfold wJ fin wJ0
  rw [m1, m1, m8, m10, or0, or0, or0, p31, p21, p20, p12, p11, p1]
  have h20 : 0 ≤ d / 1048576 % 2 ∧ d / 1048576 % 2 < 2 := by omega
  have h1 : 0 ≤ d / 2 % 1024 ∧ d / 2 % 1024 < 1024 := by omega
  have h11 : 0 ≤ d / 2048 % 2 ∧ d / 2048 % 2 < 2 := by omega
  have h12 : 0 ≤ d / 4096 % 256 ∧ d / 4096 % 256 < 256 := by omega
  generalize d / 1048576 % 2 = f20 at *
  generalize d / 2 % 1024 = f1 at *
  generalize d / 2048 % 2 = f11 at *
  generalize d / 4096 % 256 = f12 at *
  rw [or_fieldL 10 21 p10 p21 (by omega) (by omega) (by omega), or_fieldL 1 20 p1 p20 (by omega) (by omega) (by omega), or_fieldL 8 12 p8 p12 (by omega) (by omega) (by omega)]
  rw [or_low 7 (p := 111) (by omega) (by omega) (by omega)]
structure GoodB (o : Nat) (d : Int) : Prop where
  even : bitAnd d 1 = 0
  last : bitAnd (wB o d) 127 = 99
  part : bitAnd (wB o d / 2 ^ 12) 7 = prt o
  one : bitAnd (wB o d / 2 ^ 15) 31 = 10
  other : bitAnd (wB o d / 2 ^ 20) 31 = 11
  far : sgn (rB (wB o d)) 4096 = d
structure GoodJ (d : Int) : Prop where
  even : bitAnd d 1 = 0
  last : bitAnd (wJ d) 127 = 111
  one : bitAnd (wJ d / 2 ^ 7) 31 = 0
  far : sgn (rJ (wJ d)) 1048576 = d
structure FieldsB (w f12 f5 f1 f11 p : Int) : Prop where
  a : w % 128 = 99
  b : w / 4096 % 8 = p
  c : w / 32768 % 32 = 10
  d : w / 1048576 % 32 = 11
  e : w / 2147483648 = f12
  f : w / 128 % 2 = f11
  g : w / 33554432 % 64 = f5
  h : w / 256 % 16 = f1
theorem fieldsB {w f12 f5 f1 f11 p : Int} (h12 : 0 ≤ f12 ∧ f12 < 2) (h5 : 0 ≤ f5 ∧ f5 < 64) (h1 : 0 ≤ f1 ∧ f1 < 16) (h11 : 0 ≤ f11 ∧ f11 < 2) (hp : 0 ≤ p ∧ p < 8)
    (e : w = f12 * 2147483648 + f5 * 33554432 + 11534336 + 327680 + f1 * 256 + f11 * 128 + 99 + p * 4096) : FieldsB w f12 f5 f1 f11 p := by
  refine ⟨by omega, by omega, by omega, by omega, by omega, by omega, by omega, by omega⟩
theorem rB_eq {w f12 f5 f1 f11 : Int} (h12 : 0 ≤ f12 ∧ f12 < 2) (h5 : 0 ≤ f5 ∧ f5 < 64) (h1 : 0 ≤ f1 ∧ f1 < 16) (h11 : 0 ≤ f11 ∧ f11 < 2) (e : w / 2147483648 = f12) (f : w / 128 % 2 = f11) (g : w / 33554432 % 64 = f5) (h : w / 256 % 16 = f1) :
    rB w = f12 * 4096 + f11 * 2048 + f5 * 32 + f1 * 2 := by
  unfold rB
  rw [m1, m4, m6, show w / 2 ^ 31 = f12 from e, show w / 2 ^ 7 % 2 = f11 from f, show w / 2 ^ 25 % 64 = f5 from g, show w / 2 ^ 8 % 16 = f1 from h]
  clear e f g h
  rw [or_field 1 11 (by omega) (by omega) (by omega), or_field 6 5 (by omega) (by omega) (by omega), or_field 4 1 (by omega) (by omega) (by omega)]
  omega
theorem goodB {o : Nat} (ho : o < 6) {k : Int} (h1 : -1024 ≤ k) (h2 : k ≤ 1023) : GoodB o (4 * k) := by
  have e := wB_eq ho (4 * k)
  have F := fieldsB (by omega) (by omega) (by omega) (by omega) (prt_ok o ho) e
  have r := rB_eq (by omega) (by omega) (by omega) (by omega) F.e F.f F.g F.h
  refine ⟨by rw [m1]; omega, by rw [bitAnd_m7]; exact F.a, by rw [bitAnd_m3]; exact F.b, by rw [bitAnd_m5]; exact F.c, by rw [bitAnd_m5]; exact F.d, ?_⟩
  rw [r]
  clear e F r
  unfold sgn
  split <;> omega
structure FieldsJ (w f20 f1 f11 f12 : Int) : Prop where
  a : w % 128 = 111
  b : w / 128 % 32 = 0
  e : w / 2147483648 = f20
  f : w / 4096 % 256 = f12
  g : w / 1048576 % 2 = f11
  h : w / 2097152 % 1024 = f1
theorem fieldsJ {w f20 f1 f11 f12 : Int} (h20 : 0 ≤ f20 ∧ f20 < 2) (h1 : 0 ≤ f1 ∧ f1 < 1024) (h11 : 0 ≤ f11 ∧ f11 < 2) (h12 : 0 ≤ f12 ∧ f12 < 256)
    (e : w = f20 * 2147483648 + f1 * 2097152 + f11 * 1048576 + f12 * 4096 + 111) : FieldsJ w f20 f1 f11 f12 := by
  refine ⟨by omega, by omega, by omega, by omega, by omega, by omega⟩
theorem rJ_eq {w f20 f1 f11 f12 : Int} (h20 : 0 ≤ f20 ∧ f20 < 2) (h1 : 0 ≤ f1 ∧ f1 < 1024) (h11 : 0 ≤ f11 ∧ f11 < 2) (h12 : 0 ≤ f12 ∧ f12 < 256) (e : w / 2147483648 = f20) (f : w / 4096 % 256 = f12) (g : w / 1048576 % 2 = f11) (h : w / 2097152 % 1024 = f1) :
    rJ w = f20 * 1048576 + f12 * 4096 + f11 * 2048 + f1 * 2 := by
  unfold rJ
  rw [m1, m8, m10, show w / 2 ^ 31 = f20 from e, show w / 2 ^ 12 % 256 = f12 from f, show w / 2 ^ 20 % 2 = f11 from g, show w / 2 ^ 21 % 1024 = f1 from h]
  clear e f g h
  rw [or_field 8 12 (by omega) (by omega) (by omega), or_field 1 11 (by omega) (by omega) (by omega), or_field 10 1 (by omega) (by omega) (by omega)]
  omega
theorem goodJ {k : Int} (h1 : -100000 ≤ k) (h2 : k ≤ 100000) : GoodJ (4 * k) := by
  have e := wJ_eq (4 * k)
  have F := fieldsJ (by omega) (by omega) (by omega) (by omega) e
  have r := rJ_eq (by omega) (by omega) (by omega) (by omega) F.e F.f F.g F.h
  refine ⟨by rw [m1]; omega, by rw [bitAnd_m7]; exact F.a, by rw [bitAnd_m5]; exact F.b, ?_⟩
  rw [r]
  clear e F r
  unfold sgn
  split <;> omega
end K70

namespace Kg
open PySem PySem.Spec PyProof.Rows L2
/-- a comprehension goes to a name that inner blocks read: nothing is swapped -/
theorem sw_cell {elt : Expr} {gs : List Comprehension} {scope : Scope} {pos py : Pos} {y : Str} {l : Nat} {env : Env} (hy : env.scope.names.lookup y = some .cell) :
    swapsWith (.ListComp elt gs scope pos) (some (.Name y py)) l env = pure false := by
  have ky : env.kindOf y = some .cell := hy
  unfold swapsWith
  simp only [ky]
  cases h : (env.blockKind == ScopeKind.function) <;> rfl
/-- what e gives is a dict (a list) that from here on is only read -/
def tLockE (td : TE) : TE := fun σ H Q => td σ H fun x H1 => ∃ d u, x = .ref d ∧ H1 d = some u ∧ Mut (some u) ∧ ∀ o, Q x (upd H1 d (.frz o u))
theorem pe_locked {X : Cx} {e : Expr} {td : TE} (he : PE X e td) : PE X e (tLockE td) := by
  refine ⟨fun pins s σ H Q I hw => ?_⟩
  refine thn (he.run pins s σ H _ I hw) fun u s1 ⟨x, H1, I1, rx, d, v, ex, hd, mu, q⟩ => ?_
  obtain ⟨o, I2⟩ := I1.lock hd mu
  exact ⟨x, _, I2, rx, q o⟩
end Kg

namespace Ru
open PySem PySem.Spec PyProof.Rows L2 My
theorem if_true_of {c : Bool} {A B : Prop} (hc : c = true) (h : A) : if c = true then A else B := by
  rw [if_pos hc]
  exact h
theorem if_false_of {c : Bool} {A B : Prop} (hc : c = false) (h : B) : if c = true then A else B := by
  rw [hc, if_neg Bool.false_ne_true]
  exact h
theorem small_lists : (4000000 : Nat) < sizeLine := by rw [sizeLine_eq]; decide
theorem tup_le {n : Nat} (h : n ≤ 4000000) : n ≤ sizeLine := Nat.le_of_lt (Nat.lt_of_le_of_lt h small_lists)
theorem tup_lt {n : Nat} (h : n < 4000000) : n < sizeLine := Nat.lt_of_le_of_lt (Nat.le_of_lt h) small_lists
theorem ty_lst {K : PySem.W.Frag} {H : Hp} {p : Addr} {xs : List V} (h : H p = some (.lst xs)) : tyV K "list" (.ref p) H := .inl ⟨rfl, xs, SqL.of h⟩
theorem tru_lst {K : PySem.W.Frag} {H : Hp} {p : Addr} {xs : List V} (h : H p = some (.lst xs)) : TruV K (.ref p) H (!xs.isEmpty) := .inl ⟨xs, SqL.of h, rfl⟩
theorem pe_mkG0 {X : Cx} {CX : CXT} {k : Nat} {C : Addr} {x : Str} {ps : List Str} {sp : Sp} {E : XK} {p pos : Pos} (h : Gm X.prog X.w X.K X.mg X.base CX k C "__init__" ps sp) (M : PySem.W.makesIn X.K C = true ∧ PySem.W.keepIn X.K (.ref C) = true) (hm : X.mg x = some (.ref C)) (hr : Room (k + 1) X.A) (hx : Passes CX X E) (hg : Gl X x := by rfl)
    (hdb : (x == ("__debug__" : Str)) = false := by decide) : PE X (.Call (.Name x p) [] [] pos) (tMake C sp [] E tNil) := by
  obtain ⟨f, fd, m, F, b⟩ := h.ex
  exact pe_make0 ⟨M.1, m.at_, m.fn, M.2⟩ F hr hg hm b .nil hx hdb
/-- a local name holds one of these defs -/
def Held (P : Program) (w : World) (K : PySem.W.Frag) (mg : Str → Option Value) (base : Heap) (CX : CXT) (k : Nat) (f : Addr) (sp : Sp) : Prop :=
  ∃ (fd : FuncData) (ps : List Str), FnOk P w K mg base CX k f fd ps sp ∧ PySem.W.keepIn K (.ref f) = true ∧ Binds K fd ps []
theorem held_of {P : Program} {w : World} {K : PySem.W.Frag} {mg : Str → Option Value} {base : Heap} {CX : CXT} {j k : Nat} {x : Str} {ps : List Str} {sp : Sp} (h : Gd P w K mg base CX j x ps sp) (hjk : j ≤ k) {f : Addr} (hf : mg x = some (.ref f)) : Held P w K mg base CX k f sp := by
  obtain ⟨f', fd, m, F, b, kp, _⟩ := h.ex
  rw [m] at hf
  cases hf
  exact ⟨fd, ps, F.mono hjk, kp, b⟩
def tHeld (i : Nat) (Sf : Addr → Sp → Prop) (E : XK) (t : TA) : TE := fun σ H Q => ∃ f sp, σ[i]? = some (some (.ref f)) ∧ Sf f sp ∧ t σ H fun vs H1 => sp vs H1 Q E
theorem pe_callV {X : Cx} {CX : CXT} {k i : Nat} {E : XK} {x : Str} {p pos : Pos} {e : Expr} {es : List Expr} {t : TA} {Sf : Addr → Sp → Prop} (A : ∀ f sp, Sf f sp → Held X.prog X.w X.K X.mg X.base CX k f sp) (hr : Room k X.A) (hN : X.N[i]? = some x) (hv : Vis X.env.scope x) (hx : Passes CX X E) (ha : PA X (e :: es) t)
    (hdb : (x == ("__debug__" : Str)) = false := by decide) (hcd : (x == ("__classdict__" : Str)) = false := by decide)
    (he : starEach (e :: es) X.env = (false, eval e X.env) :: starEach es X.env := by rfl) (hpl : (backTo pos (starEach es X.env)).any (·.1) = false := by rfl) : PE X (.Call (.Name x p) (e :: es) [] pos) (tHeld i Sf E t) := by
  refine ⟨fun pins s σ H Q I hw => ?_⟩
  obtain ⟨f, sp, hs, hS, ht⟩ := hw
  obtain ⟨fd, ps, F, hk, hb⟩ := A f sp hS
  refine (pe_callL (i := i) (f := f) (sp := sp) (dvs := []) (E := E) F hr hN hv hk hb .nil hx ha hdb hcd he hpl).run pins s σ H Q I ⟨hs, ?_⟩
  have e0 : (fun (vs : List V) (H1 : Hp) => sp (vs ++ []) H1 Q E) = fun vs H1 => sp vs H1 Q E := by
    funext vs H1
    rw [List.append_nil]
  show t σ H (fun vs H1 => sp (vs ++ []) H1 Q E)
  rw [e0]
  exact ht
end Ru

namespace Bf
open PySem PySem.W PySem.Calls PyProof.Rows
open Bt (exB plainExc fld_first ldC)
/-! ### BadForm: what the written part says of it; its __init__ -/
def iA (p1 p2 : Pos) : Arguments := { posonlyargs := [], args := [{ arg := "self", annotation := none, pos := p1 }, { arg := "thing", annotation := none, pos := p2 }], vararg := none, kwonlyargs := [], kw_defaults := [], kwarg := none, defaults := [] }
def iB (q1 q2 q3 q4 : Pos) : List Stmt := [.Assign [.Attribute (.Name "self" q1) "thing" q2] (.Name "thing" q3) q4]
def iS : Scope := { kind := .function, names := [(PySem.Str.ofString "self", .local), (PySem.Str.ofString "thing", .local)], isGenerator := false, isCoroutine := false, more := [] }
structure BfTxt (K : Frag) (mg : Str → Option Value) (C fI : Addr) : Prop where
  gC : mg "BadForm" = some (.ref C)
  exI : excInitIn K C exB "Exception.__new__" = true
  over : excOver K C exB = true
  cd : ∃ cd, clsIn K C = some cd ∧ cd.hasDict = true
  sa : findIn K (.ref C) "__setattr__" = some (some (.builtin "object.__setattr__"))
  ga : findIn K (.ref C) "__getattribute__" = some (some (.builtin "BaseException.__getattribute__"))
  gg : findIn K (.ref C) "__getattr__" = some none
  noT : findIn K (.ref C) "thing" = some none
  iC : findIn K (.ref C) "__init__" = some (some (.ref fI))
  tC : typeIn K (.ref fI) = some (.type "function")
  kC : keepIn K (.ref C) = true
  exC : subIn K (.ref C) (.type "BaseException") = some true
  tyC : typeIn K (.ref C) = some (.type "type")
  hdC : hasDictIn K C = true
  te : exmOne K (.ref C) (.ref C) = some true
  fn : ∃ (oc : Value) (od : Option Addr) (kV doc pm : Value) (an : Option Addr) (cdv ct : Value) (osl : Array (Option Value)) (p1 p2 q1 q2 q3 q4 : Pos),
    K.lookup fI = some ⟨oc, od, .func (fnOf "__init__" "BadForm.__init__" (iA p1 p2) (iB q1 q2 q3 q4) iS .none kV doc pm an cdv ct), osl⟩ ∧ codeIn K cdv "BadForm.__init__" = true
theorem one_size (v : Value) : [v].length ≤ sizeLine := by
  rw [sizeLine_eq]
  exact (by decide : 1 ≤ 16777216)
def two (l : Value) : Str → Option Value := fun y => if y = "thing" then some l else none
/-- what __init__ leaves of a fresh exception at x -/
structure InitEnd (h h' : Heap) (x C dx t1 : Addr) (l : Value) : Prop where
  keep : ∀ b o, b ≠ x → h.get? b = some o → h'.get? b = some o
  obj : h'.get? x = some (plainExc C t1 (some dx))
  dbig : h.objs.size ≤ dx
  dne : dx ≠ x
  ns : h'.Ns1 dx (two l)
/-- a made BadForm -/
structure OwnMade (h h' : Heap) (e C d : Addr) (l : Value) : Prop where
  keep : ∀ b o, h.get? b = some o → h'.get? b = some o
  new : h.objs.size ≤ e
  obj : ∃ oe vs, h'.get? e = some oe ∧ oe.cls = .ref C ∧ oe.dict = some d ∧ oe.data = .fields vs ∧ vs[1]? = some .none
  dbig : h.objs.size ≤ d
  dne : d ≠ e
  ns : h'.Ns1 d (two l)
section
variable {prog : Program} {w : World} {A : Around} {E : Value → Shared → Prop} {R : Result → Shared → Prop} {s : Shared} {K : Frag} {mg : Str → Option Value} {C fI : Addr}
theorem bf_init (T : BfTxt K mg C fI) {x t0 : Addr} {l : Value} (X : K.In s.heap) (hlim : s.heap.NoLimit) (hx : s.heap.get? x = some (plainExc C t0 none)) (hnx : K.lookup x = none) (hroom : A.depth < recursionLimit)
    (hq : ∀ h' tk dx, InitEnd s.heap h' x C dx t0 l → R (.ok (.ret .none)) { s with heap := h', toks := tk }) :
    codeAny (model prog w) A (.call (.ref fI) ⟨[.ref x, l], []⟩) R s := by
  obtain ⟨oc, od, kV, doc, pm, an, cdv, ct, osl, p1, p2, q1, q2, q3, q4, ho, hcd⟩ := T.fn
  obtain ⟨cd, hcl, hhd⟩ := T.cd
  refine Att.call_fn (binds := [("self", .ref x), ("thing", l)]) X hlim ho hcd hroom (BindsTo.of_eq (by first | rfl | with_unfolding_all rfl)) (by first | rfl | decide | with_unfolding_all rfl) (fun s₁ IC => ?_) rfl rfl rfl
  obtain ⟨h₁, tk₁, rfl⟩ := IC.toInCall.same
  have k : ∀ b o, s.heap.get? b = some o → h₁.get? b = some o := IC.toInCall.keep
  have hn := IC.toInCall.ns
  have hLx : s.heap.objs.size ≠ x := Nat.ne_of_gt (Heap.lt_size hx)
  have X₁ : K.In h₁ := X.keeps k
  have hx₁ := k _ _ hx
  have z : s.heap.objs.size < h₁.objs.size := hn.lt
  -- self.line = line
  show wpAny _ _ (execs _ _) _ _ _
  refine wpAny_execs_cons (plainObj_wpAny_Assign_Attribute ?_)
  refine ldC (v := l) hn (by first | rfl | with_unfolding_all rfl | kernel_rfl) (ldC (v := .ref x) hn (by first | rfl | with_unfolding_all rfl | kernel_rfl) ?_)
  refine set_plain X₁ (ox := plainExc C t0 none) (od := none) ⟨hx₁, rfl, rfl, trivial⟩ T.sa ?_
  refine fld_first X₁ hx₁ T.over hcl hhd T.noT (fun h₂ tk₂ dx k₂ dn dne hx₂ hn₂ => ?_)
  show wpAny _ _ (execs _ _) _ _ _
  exact wpAny_execs_nil (hq h₂ tk₂ dx ⟨fun b o hb e => k₂ b o hb (k b o e), hx₂, Nat.le_of_lt (Nat.lt_of_lt_of_le z dn), dne, hn₂⟩)
theorem bf_made (T : BfTxt K mg C fI) {l : Value} (X : K.In s.heap) (hlim : s.heap.NoLimit) (hroom : A.depth + 1 < recursionLimit)
    (hq : ∀ h' tk e d, OwnMade s.heap h' e C d l → R (.ok (.ret (.ref e))) { s with heap := h', toks := tk }) :
    codeAny (model prog w) A (.call (.ref C) ⟨[l], []⟩) R s := by
  obtain ⟨nm, N, q, bs, bm, hdct, sn, sub, ab, col, dd, k0, k1, k2, k3, k5, hC, hT⟩ := excInit_of X T.exI
  obtain ⟨hp, g, dr, tk, os⟩ := s
  have k : ∀ b o, hp.get? b = some o → ((hp.push (kdv_tup [l])).push (HandSPX.excO C hp.objs.size)).get? b = some o := fun b o e => Heap.get?_push_of_some _ (Heap.get?_push_of_some _ e)
  have hget : ((hp.push (kdv_tup [l])).push (HandSPX.excO C hp.objs.size)).get? (hp.objs.size + 1) = some (HandSPX.excO C hp.objs.size) := by heap_get
  have hnx : K.lookup (hp.objs.size + 1) = none := by
    cases e : K.lookup (hp.objs.size + 1) with
    | none => rfl
    | some o =>
      have z : hp.get? (hp.objs.size + 1) = some o := X _ _ e
      exact absurd (Nat.lt_of_succ_lt (Heap.lt_size z)) (Nat.lt_irrefl _)
  refine HandSPX.call_own PySem.F.excBase_Exception hT hC (looks_findIn X T.iC) (fun self => bind_fn X self T.tC) (one_size l) ?_
  refine bf_init (s := ⟨(hp.push (kdv_tup [l])).push (HandSPX.excO C hp.objs.size), g, dr, tk, os⟩) T (X.keeps k) (hlim.keeps k) hget hnx ?_ fun h' tk' dx ⟨k', hx, dn, dne, hns⟩ => ?_
  · show A.depth + 1 < recursionLimit
    exact hroom
  · have old : ∀ b o, hp.get? b = some o → h'.get? b = some o := fun b o e => k' b o (Nat.ne_of_lt (Nat.lt_succ_of_lt (Heap.lt_size e))) (k b o e)
    have z : hp.objs.size + 1 + 1 ≤ dx := by
      first
        | (simpa only [Heap.size_push] using dn)
        | exact dn
        | (have q := dn; rw [Heap.size_push, Heap.size_push] at q; exact q)
    exact ⟨rfl, hq h' tk' (hp.objs.size + 1) dx ⟨old, Nat.le_succ _, ⟨_, _, hx, rfl, rfl, rfl, rfl⟩, Nat.le_trans (Nat.le_trans (Nat.le_succ _) (Nat.le_succ _)) z, dne, hns⟩⟩
end
end Bf
namespace L2
open PySem PySem.Spec PyProof.Rows
def bfFs (v : V) : List (Str × V) := [("thing", v)]
theorem bf_thing (v : V) : (bfFs v).lookup ("thing" : Str) = some v := by
  unfold bfFs
  simp only [List.lookup, beq_self_eq_true]
theorem bf_rel {v : V} {v' : Value} (r1 : RelV v v') (f : Str) : RelO ((bfFs v).lookup f) (Bf.two v' f) := by
  unfold Bf.two bfFs
  by_cases hc : f = "thing"
  · subst hc
    rw [if_pos rfl]
    have q : List.lookup ("thing" : Str) [(("thing" : Str), v)] = some v := by simp [List.lookup]
    rw [q]
    exact r1
  · rw [if_neg hc]
    have qc : (f == ("thing" : Str)) = false := by simpa using hc
    have q : List.lookup f [(("thing" : Str), v)] = none := by
      simp only [List.lookup, qc]
    rw [q]
    trivial
section
variable {X : Cx} {C fI : Addr}
theorem vals_one {v : V} {us : List Value} (r : Vals [v] us) : ∃ v', us = [v'] ∧ RelV v v' := by
  cases r with
  | cons rv rn =>
    rename_i v' us'
    cases rn
    exact ⟨v', rfl, rv⟩
/-- BadForm(e) -/
def tMkBf (C : Addr) (ta : TA) : St → Hp → XK → Prop := fun σ H Q => ta σ H fun vs H1 => ∃ v, vs = [v] ∧ ∀ d, H1 d = none → Q (.ref C) (some d) (upd H1 d (.xd (bfFs v)))
theorem pmk_bf {a : Expr} {ta : TA} {p pos : Pos} {k : Nat} (T : Bf.BfTxt X.K X.mg C fI) (hr : Room k X.A) (ha : PA X [a] ta) (hg : Gl X "BadForm" := by rfl)
    (he : starEach (a :: []) X.env = (false, eval a X.env) :: starEach [] X.env := by rfl) (hpl : (backTo pos (starEach [] X.env)).any (·.1) = false := by rfl) :
    PMk X (.Call (.Name "BadForm" p) [a] [] pos) (tMkBf C ta) := by
  intro pins s σ H Q I h
  refine wpAny_Call_Name_kw (ld_glob I hg T.gC ?_)
  refine PySem.W.callWith_K (h₀ := X.base) I.ok.mod.kin T.kC (thn (ha.run pos pins s σ H _ I h) fun us s1 hh => ?_) he hpl
  obtain ⟨vs, H1, I1, r1, v, ev, q1⟩ := hh
  subst ev
  refine ⟨I1.kIn, ?_⟩
  obtain ⟨v', rfl, rv⟩ := vals_one r1
  show wpAny _ _ (call (.ref C) [v']) _ _ _
  have hlim := I1.nolimit
  obtain ⟨hp, g, dr, tk, os⟩ := s1
  refine wpAny_call (Bf.bf_made T I1.kIn hlim (by have := hr.dp; omega) fun h' tk' e d M => ?_)
  show MkP X pins σ Q (.ref e) ⟨h', g, dr, tk', os⟩
  obtain ⟨oe, fv, hoe, hc, hd, hdat, h1⟩ := M.obj
  have hns := M.ns
  obtain ⟨G', g1, g2⟩ := restrict h' fun b => decide (b ≠ e)
  have gk : ∀ b, b ≠ e → G'.get? b = h'.get? b := fun b hb => g1 b (decide_eq_true hb)
  have ge : G'.get? e = none := g2 e (by simp)
  have old : ∀ b o, hp.get? b = some o → G'.get? b = some o := fun b o q => (gk b (Nat.ne_of_lt (Nat.lt_of_lt_of_le (Heap.lt_size q) M.new))).trans (M.keep b o q)
  have ob : ObjOk X.prog X.w (upd H1 d (.xd (bfFs v))) G' d (.xd (bfFs v)) :=
    ⟨_, hns.at (fun o q => (gk d M.dne).trans q), fun f => bf_rel rv f⟩
  have J : Inv X pins σ (upd H1 d (.xd (bfFs v))) ⟨G', g, dr, tk', os⟩ := I1.laid (t' := tk') old M.dbig ob
  refine ⟨e, oe, fv, ⟨G', g, dr, tk', os⟩, _, .ref C, some d, rfl, J, fun b o q => ?_, ge, hoe, ⟨hc, hd⟩, hdat, h1, ?_, rfl, I1.bare, raises_own T.exC T.tyC, q1 d (I1.hok.fresh M.dbig)⟩
  · by_cases hb : b = e
    · have q' : G'.get? b = some o := q
      rw [hb, ge] at q'; cases q'
    · exact (gk b hb).symm.trans q
  · rw [upd_ne (Ne.symm M.dne)]
    exact I1.hok.fresh M.new
/-- raise BadForm(e, e') -/
def tRaiseBf (C : Addr) (W : WX) (ta : TA) : TS := fun _ σ H => tMkBf C ta σ H fun cls d H' => W cls d σ H'
theorem ps_raiseBf {a : Expr} {ta : TA} {W : WX} {p pos pos2 : Pos} {k : Nat} (hc : X.calm = true) (T : Bf.BfTxt X.K X.mg C fI) (hr : Room k X.A) (tk : Takes X W) (ha : PA X [a] ta) (hg : Gl X "BadForm" := by rfl)
    (he : starEach (a :: []) X.env = (false, eval a X.env) :: starEach [] X.env := by rfl) (hpl : (backTo pos (starEach [] X.env)).any (·.1) = false := by rfl) :
    PS X (.Raise (some (.Call (.Name "BadForm" p) [a] [] pos)) none pos2) (tRaiseBf C W ta) := ps_raise hc tk (pmk_bf T hr ha hg he hpl)
/-- error.line, error.column, error the exception that the suite holds (at a; its class cls, its dict d) -/
def tFldBf (C : Addr) (f : Str) (a : Addr) (cls : Value) (d : Option Addr) (te : TE) : TE := fun σ H Q => te σ H fun x H1 => x = .ref a ∧ cls = .ref C ∧ ∃ (dd : Addr) (fs : List (Str × V)) (v : V), d = some dd ∧ H1 dd = some (.xd fs) ∧ fs.lookup f = some v ∧ Q v H1
theorem pe_fldBf {f : Str} {a : Addr} {oe : Obj} {cls : Value} {d : Option Addr} {pn : List (Addr × Obj)} {e : Expr} {te : TE} {pos : Pos} (T : Bf.BfTxt X.K X.mg C fI) (hn : PySem.W.findIn X.K (.ref C) f = some none) (hz : Zc cls d oe) (hf : ∃ vs, oe.data = .fields vs) (he : PE (X.suite a ((a, oe) :: pn)) e te)
    (hb : attributeBase e f X.env (eval e X.env) = eval e X.env := by rfl) :
    PE (X.suite a ((a, oe) :: pn)) (.Attribute e f pos) (tFldBf C f a cls d te) := by
  refine ⟨fun pins s σ H Q I h => ?_⟩
  refine attr_of hb (thn (he.run pins s σ H _ I h) fun u s1 hh => ?_)
  obtain ⟨x, H1, I1, rx, ex, ec, dd, fs, v, ed, ea, l, q⟩ := hh
  subst ex
  obtain rfl : u = Value.ref a := rx
  subst ec
  subst ed
  obtain ⟨ha, _⟩ := I1.pin (a, oe) (List.mem_append_left _ List.mem_cons_self)
  obtain ⟨vs, hd⟩ := hf
  have hx : ObjOk X.prog X.w H1 s1.heap dd (.xd fs) := I1.hok dd _ ea
  obtain ⟨mA, hns, hr⟩ := hx
  obtain ⟨od, ho, hl⟩ := lookIn_ns hns
  obtain ⟨u, hu, ru⟩ := RelO.some_of (v := v) (o := mA f) (by rw [← l]; exact hr f)
  have J : PySem.W.InstAt s1.heap a oe C (some od) := ⟨ha, hz.1, by unfold PySem.W.notCls; rw [hd] <;> rfl, by rw [hz.2]; exact ho⟩
  exact HandSPX.exc_get I1.kIn J T.ga T.gg T.exC (PySem.W.findObj_own T.hdC hn rfl (by rw [hl, hu])) (handed_of ru) ⟨v, H1, I1.tok _, ru, q⟩
end
end L2

namespace Kg
open PySem PySem.Spec PyProof.Rows L2
/-- d.get(k, x) of a written dict with int keys: found, or not -/
def tKGetO (d : Addr) (es : Array DictEntry) (td ty tx : TE) : TE := fun σ H Q => td σ H fun x H1 => x = .ref d ∧ ty σ H1 fun y H2 => tx σ H2 fun z H3 => ∃ (k : Int), y = .int k ∧
  ((findBy Value.isInt es k = none ∧ Q z H3) ∨ ∃ (u : Value) (v : V), findBy Value.isInt es k = some u ∧ RelV v u ∧ Q v H3)
theorem pe_kgetO {X : Cx} {o e f : Expr} {apos cpos : Pos} {td ty tx : TE} {d : Addr} {es : Array DictEntry} {n : Nat} (D : KInt X.K d es n) (ho : PE X o td) (he : PE X e ty) (hf : PE X f tx) (m : M2 X o "get" apos e f cpos) :
    PE X (.Call (.Attribute o "get" apos) [e, f] [] cpos) (tKGetO d es td ty tx) := by
  refine ⟨fun pins s σ H Q I hw => ?_⟩
  refine wpAny_Call_method m.base m.few m.line PySem.F.plainAttrs_dict PySem.F.slot_dict_get PySem.F.type_dict_get (thn (ho.run pins s σ H _ I hw) fun u s1 ⟨x, H1, I1, rx, ex, q1⟩ => ?_)
  subst ex
  obtain rfl : u = Value.ref d := rx
  have M1 := D.map (prog := X.prog) (w := X.w) I1.kIn
  refine ⟨M1.typeIs, fun b q => ?_, ?_⟩
  · cases q
    exact ⟨_, I1.kIn _ _ D.at_, rfl⟩
  rw [m.trees]
  refine Calls.callWith_builtin rfl (Calls.evalArgs_plain (Calls.spliced_cons (thn (he.run pins s1 σ H1 _ I1 q1) fun kv s2 ⟨y, H2, I2, ry, q2⟩ =>
    Calls.spliced_cons (thn (hf.run pins s2 σ H2 _ I2 q2) fun fv s3 ⟨z, H3, I3, rz, k, ey, hk⟩ => Calls.spliced_nil ?_))))
  subst ey
  obtain ⟨t, rfl⟩ := ry
  have M3 := D.map (prog := X.prog) (w := X.w) I3.kIn
  rcases hk with ⟨hk, q3⟩ | ⟨u, v, hk, ru, q3⟩
  · refine call_meetsIn PySem.F.slot_dict_get M3.typeIs PySem.F.entry_dict_get (PySem.F.args_dict_get_3 _ _ _) (meets_dict_get_default (intKind X.prog X.w) d (intKind_is _ _ k t) D.low fv) ⟨_, M3, z, H3, I3.tok _, ?_, q3⟩
    rw [hk]
    exact rz
  · refine call_meetsIn PySem.F.slot_dict_get M3.typeIs PySem.F.entry_dict_get (PySem.F.args_dict_get_3 _ _ _) (meets_dict_get_default (intKind X.prog X.w) d (intKind_is _ _ k t) D.low fv) ⟨_, M3, v, H3, I3.tok _, ?_, q3⟩
    rw [hk]
    exact ru
end Kg
namespace L2
open PySem PySem.Spec PyProof.Rows
/-- an f-string of two parts or more, its reading by a name -/
def tJd (ts : List TE) : TE := fun σ H Q => tJs ts Str.empty σ H fun out H1 => Q (.str out) H1
theorem pe_joinedD {X : Cx} {v1 v2 : Expr} {rest : List Expr} {ts : List TE} {pos : Pos} (h : PJ X (v1 :: v2 :: rest) ts) : PE X (.JoinedStr (v1 :: v2 :: rest) pos) (tJd ts) := pe_joined h
end L2
namespace My
open PySem PySem.Spec PyProof.Rows L2
def sp0 (p : Hp → VK → XK → Prop) : Sp := fun vs H Q E => vs = [] ∧ p H Q E
theorem len0 {p} (vs : List V) (H : Hp) (Q : VK) (E : XK) (h : sp0 p vs H Q E) : vs.length = 0 := by rw [h.1]; rfl
def tCallG0 (sp : Sp) (E : XK) : TE := fun _ H Q => sp [] H Q E
theorem pe_g0 {X : Cx} {CX : CXT} {k : Nat} {x : Str} {ps : List Str} {sp : Sp} {E : XK} {p pos : Pos} (h : Gd X.prog X.w X.K X.mg X.base CX k x ps sp) (hr : Room k X.A) (hx : Passes CX X E) (hg : Gl X x := by rfl) (hdb : (x == ("__debug__" : Str)) = false := by decide) : PE X (.Call (.Name x p) [] [] pos) (tCallG0 sp E) := by
  obtain ⟨f, fd, hm, F, hb, hk, _⟩ := h.ex
  have z := pe_call0 (p := p) (pos := pos) F hr hg hm hk hb .nil hx hdb
  exact ⟨fun pins s σ H Q I hw => z.run pins s σ H Q I hw⟩
end My

namespace B6
open PySem PyProof.Rows L2
open Builtin (bitAnd bitOr)
/-! ### words of branches and jumps -/
theorem and_disj : ∀ (k : Nat) (a b : Int), a % 2 ^ k = 0 → 0 ≤ b → b < 2 ^ k → bitAnd a b = 0
  | 0, a, b, _, h0, h1 => by
    have : b = 0 := by
      have : (2 : Int) ^ 0 = 1 := by decide
      omega
    subst this
    exact bitAnd_zero a
  | k + 1, a, b, h, h0, h1 => by
    have e : (2 : Int) ^ (k + 1) = 2 * 2 ^ k := by rw [Int.pow_succ, Int.mul_comm]
    rw [e] at h h1
    have hp : (0 : Int) < 2 ^ k := Int.pow_pos (by decide)
    obtain ⟨q, hq⟩ : ∃ q, a = 2 * 2 ^ k * q := ⟨a / (2 * 2 ^ k), by have := Int.mul_ediv_add_emod a (2 * 2 ^ k); rw [h, Int.add_zero] at this; exact this.symm⟩
    have ha : a % 2 = 0 := by rw [hq, Int.mul_assoc]; exact Int.mul_emod_right _ _
    have ha2 : a / 2 = 2 ^ k * q := by rw [hq, Int.mul_assoc]; exact Int.mul_ediv_cancel_left _ (by decide)
    rw [PySem.W.kbt_halves a b, and_disj k (a / 2) (b / 2) (by rw [ha2]; exact Int.mul_emod_right _ _) (by omega) (by omega), if_neg (by omega)]
    rfl
theorem and_shift : ∀ (k : Nat) (x p : Int), bitAnd x (p * 2 ^ k) = bitAnd (x / 2 ^ k) p * 2 ^ k
  | 0, x, p => by
    have : (2 : Int) ^ 0 = 1 := by decide
    rw [this, Int.mul_one, Int.mul_one, Int.ediv_one]
  | k + 1, x, p => by
    have e : (2 : Int) ^ (k + 1) = 2 ^ k * 2 := Int.pow_succ ..
    have e2 : p * (2 ^ k * 2) = 2 * (p * 2 ^ k) := by rw [← Int.mul_assoc, Int.mul_comm]
    rw [e, e2, PySem.W.kbt_halves, Int.mul_ediv_cancel_left _ (by decide), and_shift k (x / 2) p, if_neg (by omega), Int.ediv_ediv_of_nonneg (by decide), Int.mul_comm 2 ((2 : Int) ^ k), Int.add_zero, Int.mul_comm 2, Int.mul_assoc]
/-- a field where there is nothing yet -/
theorem or_field (m k : Nat) {x p : Int} (h : (x / 2 ^ k) % 2 ^ m = 0) (h0 : 0 ≤ p) (h1 : p < 2 ^ m) : bitOr x (p * 2 ^ k) = x + p * 2 ^ k := by
  rw [bitOr_and, and_shift, and_disj m _ _ h h0 h1, Int.zero_mul, Int.sub_zero]
theorem or_fieldL (m k : Nat) {M D x p : Int} (hM : (2 : Int) ^ m = M) (hD : (2 : Int) ^ k = D) (h : (x / D) % M = 0) (h0 : 0 ≤ p) (h1 : p < M) : bitOr x (p * D) = x + p * D := by
  subst hM hD
  exact or_field m k h h0 h1
theorem p31 : (2 : Int) ^ 31 = 2147483648 := by decide
theorem p25 : (2 : Int) ^ 25 = 33554432 := by decide
theorem p21 : (2 : Int) ^ 21 = 2097152 := by decide
theorem p20 : (2 : Int) ^ 20 = 1048576 := by decide
theorem p15 : (2 : Int) ^ 15 = 32768 := by decide
theorem p12 : (2 : Int) ^ 12 = 4096 := by decide
theorem p11 : (2 : Int) ^ 11 = 2048 := by decide
theorem p10 : (2 : Int) ^ 10 = 1024 := by decide
theorem p8 : (2 : Int) ^ 8 = 256 := by decide
theorem p7 : (2 : Int) ^ 7 = 128 := by decide
theorem p6 : (2 : Int) ^ 6 = 64 := by decide
theorem p5 : (2 : Int) ^ 5 = 32 := by decide
theorem p4 : (2 : Int) ^ 4 = 16 := by decide
theorem p3 : (2 : Int) ^ 3 = 8 := by decide
theorem p1 : (2 : Int) ^ 1 = 2 := by decide
def fin (x l p f : Int) : Int := bitOr (bitOr (bitOr x l) (p * 2 ^ 12)) (f * 2 ^ 25)
def sgn (n h : Int) : Int := if h ≤ n then n - 2 * h else n
def rB (w : Int) : Int := bitOr (bitOr (bitOr (w / 2 ^ 31 * 2 ^ 12) (bitAnd (w / 2 ^ 7) 1 * 2 ^ 11)) (bitAnd (w / 2 ^ 25) 63 * 2 ^ 5)) (bitAnd (w / 2 ^ 8) 15 * 2 ^ 1)
def rJ (w : Int) : Int := bitOr (bitOr (bitOr (w / 2 ^ 31 * 2 ^ 20) (bitAnd (w / 2 ^ 12) 255 * 2 ^ 12)) (bitAnd (w / 2 ^ 20) 1 * 2 ^ 11)) (bitAnd (w / 2 ^ 21) 1023 * 2 ^ 1)
theorem m1 (x : Int) : bitAnd x 1 = x % 2 := bitAnd_m1 x
theorem m4 (x : Int) : bitAnd x 15 = x % 16 := bitAnd_m4 x
theorem m6 (x : Int) : bitAnd x 63 = x % 64 := bitAnd_m6 x
theorem m8 (x : Int) : bitAnd x 255 = x % 256 := bitAnd_m8 x
theorem m10 (x : Int) : bitAnd x 1023 = x % 1024 := PySem.W.kbt_mask x 10
theorem or0 (x : Int) (k : Nat) : bitOr x (0 * 2 ^ k) = x := by rw [Int.zero_mul, bitOr_and, bitAnd_zero, Int.add_zero, Int.sub_zero]
theorem or_low (m : Nat) {x p : Int} (h : x % 2 ^ m = 0) (h0 : 0 ≤ p) (h1 : p < 2 ^ m) : bitOr x p = x + p := by
  have := or_field m 0 (x := x) (p := p) (by rw [show (2 : Int) ^ 0 = 1 from by decide, Int.ediv_one]; exact h) h0 h1
  rw [show (2 : Int) ^ 0 = 1 from by decide, Int.mul_one] at this
  exact this
theorem rB_eq {w f12 f5 f1 f11 : Int} (h12 : 0 ≤ f12 ∧ f12 < 2) (h5 : 0 ≤ f5 ∧ f5 < 64) (h1 : 0 ≤ f1 ∧ f1 < 16) (h11 : 0 ≤ f11 ∧ f11 < 2) (e : w / 2147483648 = f12) (f : w / 128 % 2 = f11) (g : w / 33554432 % 64 = f5) (h : w / 256 % 16 = f1) :
    rB w = f12 * 4096 + f11 * 2048 + f5 * 32 + f1 * 2 := by
  unfold rB
  rw [m1, m4, m6, show w / 2 ^ 31 = f12 from e, show w / 2 ^ 7 % 2 = f11 from f, show w / 2 ^ 25 % 64 = f5 from g, show w / 2 ^ 8 % 16 = f1 from h]
  clear e f g h
  rw [or_field 1 11 (by omega) (by omega) (by omega), or_field 6 5 (by omega) (by omega) (by omega), or_field 4 1 (by omega) (by omega) (by omega)]
  omega
theorem rJ_eq {w f20 f1 f11 f12 : Int} (h20 : 0 ≤ f20 ∧ f20 < 2) (h1 : 0 ≤ f1 ∧ f1 < 1024) (h11 : 0 ≤ f11 ∧ f11 < 2) (h12 : 0 ≤ f12 ∧ f12 < 256) (e : w / 2147483648 = f20) (f : w / 4096 % 256 = f12) (g : w / 1048576 % 2 = f11) (h : w / 2097152 % 1024 = f1) :
    rJ w = f20 * 1048576 + f12 * 4096 + f11 * 2048 + f1 * 2 := by
  unfold rJ
  rw [m1, m8, m10, show w / 2 ^ 31 = f20 from e, show w / 2 ^ 12 % 256 = f12 from f, show w / 2 ^ 20 % 2 = f11 from g, show w / 2 ^ 21 % 1024 = f1 from h]
  clear e f g h
  rw [or_field 8 12 (by omega) (by omega) (by omega), or_field 1 11 (by omega) (by omega) (by omega), or_field 10 1 (by omega) (by omega) (by omega)]
  omega
/-! ### words of the other forms: what is written, as a sum; what is read of it -/
def w3 (one other third : Int) : Int := bitOr (bitOr (third * 2 ^ 20) (other * 2 ^ 15)) (one * 2 ^ 7)
def wN (one other n : Int) : Int := bitOr (bitOr (bitAnd n 4095 * 2 ^ 20) (other * 2 ^ 15)) (one * 2 ^ 7)
def wS (one other n : Int) : Int := bitOr (bitOr (bitOr (bitAnd (n / 2 ^ 5) 127 * 2 ^ 25) (other * 2 ^ 20)) (one * 2 ^ 15)) (bitAnd n 31 * 2 ^ 7)
def wU (one n : Int) : Int := bitOr (n * 2 ^ 12) (one * 2 ^ 7)
theorem m12 (x : Int) : bitAnd x 4095 = x % 4096 := PySem.W.kbt_mask x 12
theorem fin_eq {x l p f : Int} (hx : x % 128 = 0) (h12 : x / 4096 % 8 = 0) (h25 : x / 33554432 % 128 = 0 ∨ f = 0) (h0 : 0 ≤ l ∧ l < 128) (h1 : 0 ≤ p ∧ p < 8) (h2 : 0 ≤ f ∧ f < 128) :
    fin x l p f = x + l + p * 4096 + f * 33554432 := by
  unfold fin
  rw [p12, p25, or_low 7 (p := l) (by rw [p7]; exact hx) (by omega) (by rw [p7]; omega), or_fieldL 3 12 p3 p12 (by omega) (by omega) (by omega)]
  rcases h25 with h | h
  · rw [or_fieldL 7 25 p7 p25 (by omega) (by omega) (by omega)]
  · rw [h, ← p25, or0]; omega
theorem w3_eq {a b c : Int} (ha : 0 ≤ a ∧ a < 32) (hb : 0 ≤ b ∧ b < 32) (hc : 0 ≤ c ∧ c < 32) : w3 a b c = c * 1048576 + b * 32768 + a * 128 := by
  unfold w3
  rw [p20, p15, p7, or_fieldL 5 15 p5 p15 (by omega) (by omega) (by omega), or_fieldL 5 7 p5 p7 (by omega) (by omega) (by omega)]
theorem wN_eq {a b : Int} (ha : 0 ≤ a ∧ a < 32) (hb : 0 ≤ b ∧ b < 32) (n : Int) : wN a b n = n % 4096 * 1048576 + b * 32768 + a * 128 := by
  unfold wN
  rw [m12, p20, p15, p7]
  have hn : 0 ≤ n % 4096 ∧ n % 4096 < 4096 := by omega
  generalize n % 4096 = c at *
  rw [or_fieldL 5 15 p5 p15 (by omega) (by omega) (by omega), or_fieldL 5 7 p5 p7 (by omega) (by omega) (by omega)]
theorem wS_eq {a b : Int} (ha : 0 ≤ a ∧ a < 32) (hb : 0 ≤ b ∧ b < 32) (n : Int) : wS a b n = n / 32 % 128 * 33554432 + b * 1048576 + a * 32768 + n % 32 * 128 := by
  unfold wS
  rw [show bitAnd (n / 2 ^ 5) 127 = n / 2 ^ 5 % 128 from bitAnd_m7 _, bitAnd_m5, p5, p25, p20, p15, p7]
  have h1 : 0 ≤ n / 32 % 128 ∧ n / 32 % 128 < 128 := by omega
  have h2 : 0 ≤ n % 32 ∧ n % 32 < 32 := by omega
  generalize n / 32 % 128 = c at *
  generalize n % 32 = d at *
  rw [or_fieldL 5 20 p5 p20 (by omega) (by omega) (by omega), or_fieldL 5 15 p5 p15 (by omega) (by omega) (by omega), or_fieldL 5 7 p5 p7 (by omega) (by omega) (by omega)]
theorem wU_eq {a n : Int} (ha : 0 ≤ a ∧ a < 32) (hn : 0 ≤ n ∧ n < 1048576) : wU a n = n * 4096 + a * 128 := by
  unfold wU
  rw [p12, p7, or_fieldL 5 7 p5 p7 (by omega) (by omega) (by omega)]
/-- the fields of a word -/
structure Fields (w l rd f3 r1 r2 f7 : Int) : Prop where
  last : w % 128 = l
  rd : w / 128 % 32 = rd
  part : w / 4096 % 8 = f3
  one : w / 32768 % 32 = r1
  two : w / 1048576 % 32 = r2
  first : w / 33554432 = f7
theorem fields {w l rd f3 r1 r2 f7 : Int} (hl : 0 ≤ l ∧ l < 128) (h1 : 0 ≤ rd ∧ rd < 32) (h2 : 0 ≤ f3 ∧ f3 < 8) (h3 : 0 ≤ r1 ∧ r1 < 32) (h4 : 0 ≤ r2 ∧ r2 < 32) (h5 : 0 ≤ f7 ∧ f7 < 128)
    (e : w = f7 * 33554432 + r2 * 1048576 + r1 * 32768 + f3 * 4096 + rd * 128 + l) : Fields w l rd f3 r1 r2 f7 := by
  refine ⟨by omega, by omega, by omega, by omega, by omega, by omega⟩
/-- a word is the sum of its fields -/
theorem whole_eq {w : Int} (h : 0 ≤ w ∧ w < 4294967296) : w = w / 33554432 * 33554432 + w / 1048576 % 32 * 1048576 + w / 32768 % 32 * 32768 + w / 4096 % 8 * 4096 + w / 128 % 32 * 128 + w % 128 := by omega
/-- three registers, or a shift: written, and read again -/
theorem three_back {l p f a b c : Int} (hl : 0 ≤ l ∧ l < 128) (hp : 0 ≤ p ∧ p < 8) (hf : 0 ≤ f ∧ f < 128) (ha : 0 ≤ a ∧ a < 32) (hb : 0 ≤ b ∧ b < 32) (hc : 0 ≤ c ∧ c < 32) :
    fin (w3 a b c) l p f = f * 33554432 + c * 1048576 + b * 32768 + p * 4096 + a * 128 + l := by
  rw [w3_eq ha hb hc, fin_eq (by omega) (by omega) (Or.inl (by omega)) hl hp hf]; omega
/-- a number of twelve bits -/
theorem number_back {l p a b : Int} (hl : 0 ≤ l ∧ l < 128) (hp : 0 ≤ p ∧ p < 8) (ha : 0 ≤ a ∧ a < 32) (hb : 0 ≤ b ∧ b < 32) (n : Int) : fin (wN a b n) l p 0 = n % 4096 * 1048576 + b * 32768 + p * 4096 + a * 128 + l := by
  rw [wN_eq ha hb n, fin_eq (by omega) (by omega) (Or.inr rfl) hl hp (by omega)]; omega
theorem store_back {l p a b : Int} (hl : 0 ≤ l ∧ l < 128) (hp : 0 ≤ p ∧ p < 8) (ha : 0 ≤ a ∧ a < 32) (hb : 0 ≤ b ∧ b < 32) (n : Int) : fin (wS a b n) l p 0 = n / 32 % 128 * 33554432 + b * 1048576 + a * 32768 + p * 4096 + n % 32 * 128 + l := by
  rw [wS_eq ha hb n]
  have h1 : 0 ≤ n / 32 % 128 ∧ n / 32 % 128 < 128 := by omega
  have h2 : 0 ≤ n % 32 ∧ n % 32 < 32 := by omega
  generalize n / 32 % 128 = c at *
  generalize n % 32 = d at *
  rw [fin_eq (by omega) (by omega) (Or.inr rfl) hl hp (by omega)]; omega
theorem upper_back {l a n : Int} (hl : 0 ≤ l ∧ l < 128) (ha : 0 ≤ a ∧ a < 32) (hn : 0 ≤ n ∧ n < 1048576) : bitOr (wU a n) l = n * 4096 + a * 128 + l := by
  rw [wU_eq ha hn, or_low 7 (p := l) (by rw [p7]; omega) (by omega) (by rw [p7]; omega)]
theorem sgn12 {n : Int} (h : -2048 ≤ n ∧ n ≤ 2047) : sgn (n % 4096) 2048 = n := by
  unfold sgn
  split <;> omega
theorem sgn12s {n : Int} (h : -2048 ≤ n ∧ n ≤ 2047) : sgn (n / 32 % 128 * 32 + n % 32) 2048 = n := by
  unfold sgn
  split <;> omega
/-- what is read of twelve bits is a number that goes there again -/
theorem sgn_low {u : Int} (h : 0 ≤ u ∧ u < 4096) : -2048 ≤ sgn u 2048 ∧ sgn u 2048 ≤ 2047 ∧ sgn u 2048 % 4096 = u := by
  unfold sgn
  split <;> omega
end B6

namespace I6
open PySem PyProof.Rows L2 B6
open Builtin (bitAnd bitOr)
/-! ### instructions: names, forms, words -/
inductive Fo where | three | number | shift | store | branch | upper | jump | whole
  deriving DecidableEq
def foS : Fo → Str
  | .three => "three" | .number => "number" | .shift => "shift" | .store => "store" | .branch => "branch" | .upper => "upper" | .jump => "jump" | .whole => "whole"
def nmsS : List String := ["add", "sub", "sll", "slt", "sltu", "xor", "srl", "sra", "or", "and", "mul", "mulh", "mulhsu", "mulhu", "div", "divu", "rem", "remu", "addi", "slti", "sltiu", "xori", "ori", "andi", "slli", "srli", "srai", "lb", "lh", "lw", "lbu", "lhu", "jalr", "sb", "sh", "sw", "beq", "bne", "blt", "bge", "bltu", "bgeu", "lui", "auipc", "jal", "ecall", "ebreak", "fence"]
def fos : List Fo := [.three, .three, .three, .three, .three, .three, .three, .three, .three, .three, .three, .three, .three, .three, .three, .three, .three, .three, .number, .number, .number, .number, .number, .number, .shift, .shift, .shift, .number, .number, .number, .number, .number, .number, .store, .store, .store, .branch, .branch, .branch, .branch, .branch, .branch, .upper, .upper, .jump, .whole, .whole, .whole]
def las : List Int := [51, 51, 51, 51, 51, 51, 51, 51, 51, 51, 51, 51, 51, 51, 51, 51, 51, 51, 19, 19, 19, 19, 19, 19, 19, 19, 19, 3, 3, 3, 3, 3, 103, 35, 35, 35, 99, 99, 99, 99, 99, 99, 55, 23, 111, 115, 115, 15]
def pas : List Int := [0, 0, 1, 2, 3, 4, 5, 5, 6, 7, 0, 1, 2, 3, 4, 5, 6, 7, 0, 2, 3, 4, 6, 7, 1, 5, 5, 0, 1, 2, 4, 5, 0, 0, 1, 2, 0, 1, 4, 5, 6, 7, 0, 0, 0, 115, 1048691, 267386895]
def fis : List Int := [0, 32, 0, 0, 0, 0, 0, 32, 0, 0, 1, 1, 1, 1, 1, 1, 1, 1, 0, 0, 0, 0, 0, 0, 0, 0, 32, 0, 0, 0, 0, 0, 0, 0, 0, 0, 0, 0, 0, 0, 0, 0, 0, 0, 0, 0, 0, 0]
def regsS : List String := ["zero", "ra", "sp", "gp", "tp", "t0", "t1", "t2", "s0", "s1", "a0", "a1", "a2", "a3", "a4", "a5", "a6", "a7", "s2", "s3", "s4", "s5", "s6", "s7", "s8", "s9", "s10", "s11", "t3", "t4", "t5", "t6"]
def nm (o : Nat) : Str := Str.ofString (nmsS.getD o "")
def fo (o : Nat) : Fo := fos.getD o .whole
def la (o : Nat) : Int := las.getD o 0
def pa (o : Nat) : Int := pas.getD o 0
def fi (o : Nat) : Int := fis.getD o 0
def byl (l : Int) : List Nat := (List.range 48).filter fun o => decide (la o = l)
theorem byl_mem {l : Int} {o : Nat} (h : o ∈ byl l) : o < 48 ∧ la o = l := by
  obtain ⟨a, b⟩ := List.mem_filter.mp h
  exact ⟨List.mem_range.mp a, of_decide_eq_true b⟩
abbrev O := Option Int
def isN (x : O) (a b : Int) : Bool := match x with | some i => decide (a ≤ i) && decide (i ≤ b) | none => false
def dist (x : O) (h : Int) : Bool := isN x (-h) (h - 1) && decide (bitAnd (x.getD 0) 1 = 0)
def ok : Fo → O → O → O → Bool
  | .three, x, y, z | .shift, x, y, z => isN x 0 31 && (isN y 0 31 && isN z 0 31)
  | .number, x, y, z | .store, x, y, z => (isN x 0 31 && isN y 0 31) && isN z (-2048) 2047
  | .branch, x, y, z => (isN x 0 31 && isN y 0 31) && dist z 4096
  | .upper, x, y, z => isN x 0 31 && (isN y 0 1048575 && isN z 0 0)
  | .jump, x, y, z => isN x 0 31 && (dist y 1048576 && isN z 0 0)
  | .whole, x, y, z => isN x 0 0 && (isN y 0 0 && isN z 0 0)
def wB (a b d : Int) : Int := bitOr (bitOr (bitOr (bitOr (bitOr (bitAnd (d / 2 ^ 12) 1 * 2 ^ 31) (bitAnd (d / 2 ^ 5) 63 * 2 ^ 25)) (b * 2 ^ 20)) (a * 2 ^ 15)) (bitAnd (d / 2 ^ 1) 15 * 2 ^ 8)) (bitAnd (d / 2 ^ 11) 1 * 2 ^ 7)
def wJ (a d : Int) : Int := bitOr (bitOr (bitOr (bitOr (bitAnd (d / 2 ^ 20) 1 * 2 ^ 31) (bitAnd (d / 2 ^ 1) 1023 * 2 ^ 21)) (bitAnd (d / 2 ^ 11) 1 * 2 ^ 20)) (bitAnd (d / 2 ^ 12) 255 * 2 ^ 12)) (a * 2 ^ 7)
def wr : Fo → Int → Int → Int → Int
  | .three, a, b, c | .shift, a, b, c => w3 a b c
  | .number, a, b, c => wN a b c
  | .store, a, b, c => wS a b c
  | .branch, a, b, c => wB a b c
  | .upper, a, b, _ => wU a b
  | .jump, a, b, _ => wJ a b
  | .whole, _, _, _ => 0
def wordM (o : Nat) (a b c : Int) : Int := if fo o = .whole then pa o else fin (wr (fo o) a b c) (la o) (pa o) (fi o)
def fnd (o : Nat) (w : Int) : Bool := match fo o with
  | .whole => decide (w = pa o)
  | .upper | .jump => true
  | .three | .shift => decide (bitAnd (w / 2 ^ 12) 7 = pa o) && decide (w / 2 ^ 25 = fi o)
  | _ => decide (bitAnd (w / 2 ^ 12) 7 = pa o)
def rd : Fo → Int → Int × Int × Int
  | .three, w | .shift, w => (bitAnd (w / 2 ^ 7) 31, bitAnd (w / 2 ^ 15) 31, bitAnd (w / 2 ^ 20) 31)
  | .number, w => (bitAnd (w / 2 ^ 7) 31, bitAnd (w / 2 ^ 15) 31, sgn (w / 2 ^ 20) 2048)
  | .store, w => (bitAnd (w / 2 ^ 15) 31, bitAnd (w / 2 ^ 20) 31, sgn (bitOr (w / 2 ^ 25 * 2 ^ 5) (bitAnd (w / 2 ^ 7) 31)) 2048)
  | .branch, w => (bitAnd (w / 2 ^ 15) 31, bitAnd (w / 2 ^ 20) 31, sgn (rB w) 4096)
  | .upper, w => (bitAnd (w / 2 ^ 7) 31, w / 2 ^ 12, 0)
  | .jump, w => (bitAnd (w / 2 ^ 7) 31, sgn (rJ w) 1048576, 0)
  | .whole, _ => (0, 0, 0)
def decM (w : Int) : Option Nat := (byl (bitAnd w 127)).find? fun o => fnd o w
theorem isN_i {i a b : Int} (h : isN (some i) a b = true) : a ≤ i ∧ i ≤ b := by
  unfold isN at h
  simpa using h
theorem i_isN {i a b : Int} (h0 : a ≤ i) (h1 : i ≤ b) : isN (some i) a b = true := by
  unfold isN
  simp [h0, h1]
theorem i_dist {d h : Int} (h0 : -h ≤ d) (h1 : d ≤ h - 1) (h2 : d % 2 = 0) : dist (some d) h = true := by
  unfold dist
  rw [i_isN h0 h1, show bitAnd ((some d : O).getD 0) 1 = d % 2 from m1 d, h2]
  rfl
theorem dist_i {d h : Int} (e : dist (some d) h = true) : (-h ≤ d ∧ d ≤ h - 1) ∧ d % 2 = 0 := by
  unfold dist at e
  obtain ⟨a, b⟩ := Bool.and_eq_true_iff.mp e
  refine ⟨isN_i a, ?_⟩
  have := of_decide_eq_true b
  rwa [show bitAnd ((some d : O).getD 0) 1 = d % 2 from m1 d] at this
/-- the table's rows -/
structure Row (o : Nat) : Prop where
  l : 0 ≤ la o ∧ la o < 128
  p : fo o ≠ .whole → 0 ≤ pa o ∧ pa o < 8
  f : 0 ≤ fi o ∧ fi o < 128
  f0 : fo o ≠ .three → fo o ≠ .shift → fi o = 0
  p0 : fo o = .upper ∨ fo o = .jump → pa o = 0
  w : fo o = .whole → 0 ≤ pa o ∧ pa o < 4294967296 ∧ pa o % 128 = la o
theorem row {o : Nat} (h : o < 48) : Row o := by
  have k : ∀ o, o < 48 → (0 ≤ la o ∧ la o < 128) ∧ (fo o ≠ .whole → 0 ≤ pa o ∧ pa o < 8) ∧ (0 ≤ fi o ∧ fi o < 128) ∧ (fo o ≠ .three → fo o ≠ .shift → fi o = 0) ∧ (fo o = .upper ∨ fo o = .jump → pa o = 0) ∧ (fo o = .whole → 0 ≤ pa o ∧ pa o < 4294967296 ∧ pa o % 128 = la o) := by decide +kernel
  obtain ⟨a, b, c, d, e, f⟩ := k o h
  exact ⟨a, b, c, d, e, f⟩
theorem wB_eq {a b l p d : Int} (ha : 0 ≤ a ∧ a < 32) (hb : 0 ≤ b ∧ b < 32) (hl : 0 ≤ l ∧ l < 128) (hp : 0 ≤ p ∧ p < 8) :
    fin (wB a b d) l p 0 = (d / 4096 % 2) * 2147483648 + (d / 32 % 64) * 33554432 + b * 1048576 + a * 32768 + (d / 2 % 16) * 256 + (d / 2048 % 2) * 128 + l + p * 4096 := by
  unfold fin wB
  rw [m1, m1, m4, m6, or0, p31, p25, p20, p15, p12, p11, p8, p7, p5, p1]
  have h12 : 0 ≤ d / 4096 % 2 ∧ d / 4096 % 2 < 2 := by omega
  have h5 : 0 ≤ d / 32 % 64 ∧ d / 32 % 64 < 64 := by omega
  have h1 : 0 ≤ d / 2 % 16 ∧ d / 2 % 16 < 16 := by omega
  have h11 : 0 ≤ d / 2048 % 2 ∧ d / 2048 % 2 < 2 := by omega
  generalize d / 4096 % 2 = f12 at *
  generalize d / 32 % 64 = f5 at *
  generalize d / 2 % 16 = f1 at *
  generalize d / 2048 % 2 = f11 at *
  rw [or_fieldL 6 25 p6 p25 (by omega) (by omega) (by omega), or_fieldL 5 20 p5 p20 (by omega) (by omega) (by omega), or_fieldL 5 15 p5 p15 (by omega) (by omega) (by omega), or_fieldL 4 8 p4 p8 (by omega) (by omega) (by omega), or_fieldL 1 7 p1 p7 (by omega) (by omega) (by omega)]
  rw [or_low 7 (p := l) (by rw [p7]; omega) (by omega) (by rw [p7]; omega), or_fieldL 3 12 p3 p12 (by omega) (by omega) (by omega)]
theorem wJ_eq {a l d : Int} (ha : 0 ≤ a ∧ a < 32) (hl : 0 ≤ l ∧ l < 128) :
    fin (wJ a d) l 0 0 = (d / 1048576 % 2) * 2147483648 + (d / 2 % 1024) * 2097152 + (d / 2048 % 2) * 1048576 + (d / 4096 % 256) * 4096 + a * 128 + l := by
  unfold fin wJ
  rw [m1, m1, m8, m10, or0, or0, p31, p21, p20, p12, p11, p7, p1]
  have h20 : 0 ≤ d / 1048576 % 2 ∧ d / 1048576 % 2 < 2 := by omega
  have h1 : 0 ≤ d / 2 % 1024 ∧ d / 2 % 1024 < 1024 := by omega
  have h11 : 0 ≤ d / 2048 % 2 ∧ d / 2048 % 2 < 2 := by omega
  have h12 : 0 ≤ d / 4096 % 256 ∧ d / 4096 % 256 < 256 := by omega
  generalize d / 1048576 % 2 = f20 at *
  generalize d / 2 % 1024 = f1 at *
  generalize d / 2048 % 2 = f11 at *
  generalize d / 4096 % 256 = f12 at *
  rw [or_fieldL 10 21 p10 p21 (by omega) (by omega) (by omega), or_fieldL 1 20 p1 p20 (by omega) (by omega) (by omega), or_fieldL 8 12 p8 p12 (by omega) (by omega) (by omega), or_fieldL 5 7 p5 p7 (by omega) (by omega) (by omega)]
  rw [or_low 7 (p := l) (by rw [p7]; omega) (by omega) (by rw [p7]; omega)]
theorem fin_upper {a n l : Int} (ha : 0 ≤ a ∧ a < 32) (hn : 0 ≤ n ∧ n < 1048576) (hl : 0 ≤ l ∧ l < 128) : fin (wU a n) l 0 0 = n * 4096 + a * 128 + l := by
  unfold fin
  rw [or0, or0, upper_back hl ha hn]
theorem sBk {x y : Int} (hx : 0 ≤ x ∧ x < 128) (hy : 0 ≤ y ∧ y < 32) : bitOr (x * 2 ^ 5) y = x * 32 + y := by
  rw [p5, or_low 5 (p := y) (by rw [p5]; omega) (by omega) (by rw [p5]; omega)]
/-- the word as a number of fields, for a right instruction -/
def okI (f : Fo) (a b c : Int) : Prop := match f with
  | .three | .shift => (0 ≤ a ∧ a < 32) ∧ (0 ≤ b ∧ b < 32) ∧ (0 ≤ c ∧ c < 32)
  | .number | .store => (0 ≤ a ∧ a < 32) ∧ (0 ≤ b ∧ b < 32) ∧ (-2048 ≤ c ∧ c ≤ 2047)
  | .branch => (0 ≤ a ∧ a < 32) ∧ (0 ≤ b ∧ b < 32) ∧ (-4096 ≤ c ∧ c ≤ 4095) ∧ c % 2 = 0
  | .upper => (0 ≤ a ∧ a < 32) ∧ (0 ≤ b ∧ b < 1048576) ∧ c = 0
  | .jump => (0 ≤ a ∧ a < 32) ∧ ((-1048576 ≤ b ∧ b ≤ 1048575) ∧ b % 2 = 0) ∧ c = 0
  | .whole => a = 0 ∧ b = 0 ∧ c = 0
theorem ok_of {f : Fo} {a b c : Int} (h : okI f a b c) : ok f (some a) (some b) (some c) = true := by
  cases f <;> simp only [okI] at h <;> simp only [ok, Bool.and_eq_true]
  · exact ⟨i_isN (by omega) (by omega), i_isN (by omega) (by omega), i_isN (by omega) (by omega)⟩
  · exact ⟨⟨i_isN (by omega) (by omega), i_isN (by omega) (by omega)⟩, i_isN (by omega) (by omega)⟩
  · exact ⟨i_isN (by omega) (by omega), i_isN (by omega) (by omega), i_isN (by omega) (by omega)⟩
  · exact ⟨⟨i_isN (by omega) (by omega), i_isN (by omega) (by omega)⟩, i_isN (by omega) (by omega)⟩
  · exact ⟨⟨i_isN (by omega) (by omega), i_isN (by omega) (by omega)⟩, i_dist (by omega) (by omega) (by omega)⟩
  · exact ⟨i_isN (by omega) (by omega), i_isN (by omega) (by omega), i_isN (by omega) (by omega)⟩
  · exact ⟨i_isN (by omega) (by omega), i_dist (by omega) (by omega) (by omega), i_isN (by omega) (by omega)⟩
  · exact ⟨i_isN (by omega) (by omega), i_isN (by omega) (by omega), i_isN (by omega) (by omega)⟩
theorem of_ok {f : Fo} {x y z : O} (h : ok f x y z = true) : ∃ a b c, x = some a ∧ y = some b ∧ z = some c ∧ okI f a b c := by
  have nn : ∀ {p q : Int}, isN none p q = true → False := fun q => by cases q
  have nd : ∀ {p : Int}, dist none p = true → False := fun q => by cases q
  cases f <;> simp only [ok, Bool.and_eq_true] at h <;> cases x <;> cases y <;> cases z <;> (try (exfalso; rcases h with ⟨⟨h1, h2⟩, h3⟩; first | exact nn h1 | exact nn h2 | exact nn h3 | exact nd h3)) <;> (try (exfalso; rcases h with ⟨h1, h2, h3⟩; first | exact nn h1 | exact nn h2 | exact nd h2 | exact nn h3))
  all_goals rename_i a b c
  all_goals refine ⟨a, b, c, rfl, rfl, rfl, ?_⟩
  all_goals simp only [okI]
  · obtain ⟨h1, h2, h3⟩ := h; have := isN_i h1; have := isN_i h2; have := isN_i h3; omega
  · obtain ⟨⟨h1, h2⟩, h3⟩ := h; have := isN_i h1; have := isN_i h2; have := isN_i h3; omega
  · obtain ⟨h1, h2, h3⟩ := h; have := isN_i h1; have := isN_i h2; have := isN_i h3; omega
  · obtain ⟨⟨h1, h2⟩, h3⟩ := h; have := isN_i h1; have := isN_i h2; have := isN_i h3; omega
  · obtain ⟨⟨h1, h2⟩, h3⟩ := h; have := isN_i h1; have := isN_i h2; have := dist_i h3; omega
  · obtain ⟨h1, h2, h3⟩ := h; have := isN_i h1; have := isN_i h2; have := isN_i h3; omega
  · obtain ⟨h1, h2, h3⟩ := h; have := isN_i h1; have := dist_i h2; have := isN_i h3; omega
  · obtain ⟨h1, h2, h3⟩ := h; have := isN_i h1; have := isN_i h2; have := isN_i h3; omega
/-- what a word tells is right, and has this word -/
structure Told (o : Nat) (w a b c : Int) : Prop where
  good : okI (fo o) a b c
  word : wordM o a b c = w
theorem m5 (x : Int) : bitAnd x 31 = x % 32 := bitAnd_m5 x
theorem m7 (x : Int) : bitAnd x 127 = x % 128 := bitAnd_m7 x
theorem m3 (x : Int) : bitAnd x 7 = x % 8 := bitAnd_m3 x
theorem sgn12f {f g : Int} (hf : 0 ≤ f ∧ f < 128) (hg : 0 ≤ g ∧ g < 32) {d : Int} (e : d = sgn (f * 32 + g) 2048) : (-2048 ≤ d ∧ d ≤ 2047) ∧ d / 32 % 128 = f ∧ d % 32 = g := by
  unfold sgn at e
  split at e <;> refine ⟨⟨by omega, by omega⟩, by omega, by omega⟩
theorem sgn13 {f12 f11 f5 f1 : Int} (h12 : 0 ≤ f12 ∧ f12 < 2) (h5 : 0 ≤ f5 ∧ f5 < 64) (h1 : 0 ≤ f1 ∧ f1 < 16) (h11 : 0 ≤ f11 ∧ f11 < 2) {d : Int} (e : d = sgn (f12 * 4096 + f11 * 2048 + f5 * 32 + f1 * 2) 4096) :
    (-4096 ≤ d ∧ d ≤ 4095) ∧ d % 2 = 0 ∧ d / 4096 % 2 = f12 ∧ d / 2048 % 2 = f11 ∧ d / 32 % 64 = f5 ∧ d / 2 % 16 = f1 := by
  unfold sgn at e
  split at e <;> refine ⟨⟨by omega, by omega⟩, by omega, by omega, by omega, by omega, by omega⟩
theorem sgn21 {f20 f12 f11 f1 : Int} (h20 : 0 ≤ f20 ∧ f20 < 2) (h12 : 0 ≤ f12 ∧ f12 < 256) (h11 : 0 ≤ f11 ∧ f11 < 2) (h1 : 0 ≤ f1 ∧ f1 < 1024) {d : Int} (e : d = sgn (f20 * 1048576 + f12 * 4096 + f11 * 2048 + f1 * 2) 1048576) :
    (-1048576 ≤ d ∧ d ≤ 1048575) ∧ d % 2 = 0 ∧ d / 1048576 % 2 = f20 ∧ d / 4096 % 256 = f12 ∧ d / 2048 % 2 = f11 ∧ d / 2 % 1024 = f1 := by
  unfold sgn at e
  split at e <;> refine ⟨⟨by omega, by omega⟩, by omega, by omega, by omega, by omega, by omega⟩
theorem told {o : Nat} {w : Int} (ho : o < 48) (h : 0 ≤ w ∧ w < 4294967296) (hl : w % 128 = la o) (hf : fnd o w = true) : Told o w (rd (fo o) w).1 (rd (fo o) w).2.1 (rd (fo o) w).2.2 := by
  have R := row ho
  have e7 : w / 2 ^ 7 % 32 = w / 128 % 32 := by rw [p7]
  have e12 : w / 2 ^ 12 % 8 = w / 4096 % 8 := by rw [p12]
  unfold fnd at hf
  cases e : fo o with
  | three =>
    rw [e] at hf
    dsimp only at hf
    obtain ⟨f1, f2⟩ := Bool.and_eq_true_iff.mp hf
    have f1 := of_decide_eq_true f1
    have f2 := of_decide_eq_true f2
    rw [m3, p12] at f1
    rw [p25] at f2
    have rp := R.p (by rw [e]; exact fun z => by cases z)
    have rf := R.f
    have rl := R.l
    dsimp only [rd]
    rw [m5, m5, m5, p7, p15, p20]
    refine ⟨by rw [e]; exact ⟨by omega, by omega, by omega⟩, ?_⟩
    unfold wordM
    rw [e, if_neg (by intro z; cases z)]
    dsimp only [wr]
    rw [three_back rl rp rf (by omega) (by omega) (by omega)]
    omega
  | shift =>
    rw [e] at hf
    dsimp only at hf
    obtain ⟨f1, f2⟩ := Bool.and_eq_true_iff.mp hf
    have f1 := of_decide_eq_true f1
    have f2 := of_decide_eq_true f2
    rw [m3, p12] at f1
    rw [p25] at f2
    have rp := R.p (by rw [e]; exact fun z => by cases z)
    have rf := R.f
    have rl := R.l
    dsimp only [rd]
    rw [m5, m5, m5, p7, p15, p20]
    refine ⟨by rw [e]; exact ⟨by omega, by omega, by omega⟩, ?_⟩
    unfold wordM
    rw [e, if_neg (by intro z; cases z)]
    dsimp only [wr]
    rw [three_back rl rp rf (by omega) (by omega) (by omega)]
    omega
  | number =>
    rw [e] at hf
    dsimp only at hf
    have f1 := of_decide_eq_true hf
    rw [m3, p12] at f1
    have rp := R.p (by rw [e]; exact fun z => by cases z)
    have rf := R.f0 (by rw [e]; exact fun z => by cases z) (by rw [e]; exact fun z => by cases z)
    have rl := R.l
    dsimp only [rd]
    rw [m5, m5, p7, p15, p20]
    have sl := sgn_low (u := w / 1048576) (by omega)
    refine ⟨by rw [e]; exact ⟨by omega, by omega, by omega⟩, ?_⟩
    unfold wordM
    rw [e, if_neg (by intro z; cases z)]
    dsimp only [wr]
    rw [rf, number_back rl rp (by omega) (by omega)]
    omega
  | store =>
    rw [e] at hf
    dsimp only at hf
    have f1 := of_decide_eq_true hf
    rw [m3, p12] at f1
    have rp := R.p (by rw [e]; exact fun z => by cases z)
    have rf := R.f0 (by rw [e]; exact fun z => by cases z) (by rw [e]; exact fun z => by cases z)
    have rl := R.l
    dsimp only [rd]
    rw [m5, m5, m5, p7, p15, p20, p25, sBk (by omega) (by omega)]
    obtain ⟨k0, k1, k2⟩ := sgn12f (f := w / 33554432) (g := w / 128 % 32) (by omega) (by omega) rfl
    refine ⟨by rw [e]; exact ⟨by omega, by omega, k0⟩, ?_⟩
    unfold wordM
    rw [e, if_neg (by intro z; cases z)]
    dsimp only [wr]
    rw [rf, store_back rl rp (by omega) (by omega), k1, k2]
    clear k0 k1 k2
    omega
  | branch =>
    rw [e] at hf
    dsimp only at hf
    have f1 := of_decide_eq_true hf
    rw [m3, p12] at f1
    have rp := R.p (by rw [e]; exact fun z => by cases z)
    have rf := R.f0 (by rw [e]; exact fun z => by cases z) (by rw [e]; exact fun z => by cases z)
    have rl := R.l
    dsimp only [rd]
    rw [m5, m5, p15, p20, rB_eq (w := w) (by omega) (by omega) (by omega) (by omega) rfl rfl rfl rfl]
    obtain ⟨k0, k1, k2, k3, k4, k5⟩ := sgn13 (f12 := w / 2147483648) (f5 := w / 33554432 % 64) (f1 := w / 256 % 16) (f11 := w / 128 % 2) (by omega) (by omega) (by omega) (by omega) rfl
    refine ⟨by rw [e]; exact ⟨by omega, by omega, k0, k1⟩, ?_⟩
    unfold wordM
    rw [e, if_neg (by intro z; cases z)]
    dsimp only [wr]
    rw [rf, wB_eq (by omega) (by omega) rl rp, k2, k3, k4, k5]
    clear k0 k1 k2 k3 k4 k5
    have g1 : w / 33554432 = w / 2147483648 * 64 + w / 33554432 % 64 := by omega
    have g2 : w / 128 % 32 = w / 256 % 16 * 2 + w / 128 % 2 := by omega
    have g3 := whole_eq h
    rw [f1, hl] at g3
    generalize w / 33554432 % 64 = q1 at *
    generalize w / 2147483648 = q2 at *
    generalize w / 33554432 = q3 at *
    generalize w / 256 % 16 = q4 at *
    generalize w / 128 % 2 = q5 at *
    omega
  | upper =>
    have rf := R.f0 (by rw [e]; exact fun z => by cases z) (by rw [e]; exact fun z => by cases z)
    have rp := R.p0 (.inl e)
    have rl := R.l
    dsimp only [rd]
    rw [m5, p7, p12]
    refine ⟨by rw [e]; exact ⟨by omega, by omega, rfl⟩, ?_⟩
    unfold wordM
    rw [e, if_neg (by intro z; cases z)]
    dsimp only [wr]
    rw [rf, rp, fin_upper (by omega) (by omega) rl]
    omega
  | jump =>
    have rf := R.f0 (by rw [e]; exact fun z => by cases z) (by rw [e]; exact fun z => by cases z)
    have rp := R.p0 (.inr e)
    have rl := R.l
    dsimp only [rd]
    rw [m5, p7, rJ_eq (w := w) (by omega) (by omega) (by omega) (by omega) rfl rfl rfl rfl]
    obtain ⟨k0, k1, k2, k3, k4, k5⟩ := sgn21 (f20 := w / 2147483648) (f12 := w / 4096 % 256) (f11 := w / 1048576 % 2) (f1 := w / 2097152 % 1024) (by omega) (by omega) (by omega) (by omega) rfl
    refine ⟨by rw [e]; exact ⟨by omega, ⟨k0, k1⟩, rfl⟩, ?_⟩
    unfold wordM
    rw [e, if_neg (by intro z; cases z)]
    dsimp only [wr]
    rw [rf, rp, wJ_eq (by omega) rl, k2, k3, k4, k5]
    clear k0 k1 k2 k3 k4 k5
    have g1 : w = w / 4096 * 4096 + w / 128 % 32 * 128 + w % 128 := by omega
    have g2 : w / 4096 = w / 1048576 * 256 + w / 4096 % 256 := by omega
    have g3 : w / 1048576 = w / 2097152 * 2 + w / 1048576 % 2 := by omega
    have g4 : w / 2097152 = w / 2147483648 * 1024 + w / 2097152 % 1024 := by omega
    rw [hl] at g1
    generalize w / 128 % 32 = q1 at *
    generalize w / 4096 % 256 = q2 at *
    generalize w / 1048576 % 2 = q3 at *
    generalize w / 2097152 % 1024 = q4 at *
    generalize w / 4096 = q5 at *
    generalize w / 1048576 = q6 at *
    generalize w / 2097152 = q7 at *
    generalize w / 2147483648 = q8 at *
    omega
  | whole =>
    rw [e] at hf
    dsimp only at hf
    have f1 := of_decide_eq_true hf
    refine ⟨by rw [e]; exact ⟨rfl, rfl, rfl⟩, ?_⟩
    unfold wordM
    rw [e, if_pos rfl, f1]

/-! ### which words are told -/
def known (w : Int) : Bool :=
  if w % 128 = 55 ∨ w % 128 = 23 ∨ w % 128 = 111 then true
  else if w % 128 = 51 then decide (w / 33554432 = 0 ∨ w / 33554432 = 1) || (decide (w / 33554432 = 32) && decide (w / 4096 % 8 = 0 ∨ w / 4096 % 8 = 5))
  else if w % 128 = 19 then (!decide (w / 4096 % 8 = 1 ∨ w / 4096 % 8 = 5)) || (decide (w / 33554432 = 0) || (decide (w / 4096 % 8 = 5) && decide (w / 33554432 = 32)))
  else if w % 128 = 3 then decide (w / 4096 % 8 = 0 ∨ w / 4096 % 8 = 1 ∨ w / 4096 % 8 = 2 ∨ w / 4096 % 8 = 4 ∨ w / 4096 % 8 = 5)
  else if w % 128 = 103 then decide (w / 4096 % 8 = 0)
  else if w % 128 = 35 then decide (w / 4096 % 8 < 3)
  else if w % 128 = 99 then !decide (w / 4096 % 8 = 2 ∨ w / 4096 % 8 = 3)
  else decide (w = 115 ∨ w = 1048691 ∨ w = 267386895)
/-- what fnd asks, by the fields -/
def fq (o : Nat) (w t s : Int) : Bool := match fo o with
  | .whole => decide (w = pa o)
  | .upper | .jump => true
  | .three | .shift => decide (t = pa o) && decide (s = fi o)
  | _ => decide (t = pa o)
theorem fnd_fq (o : Nat) (w : Int) : fnd o w = fq o w (w / 4096 % 8) (w / 33554432) := by
  unfold fnd fq
  rw [m3, p12, p25]
theorem find_any {p : Nat → Bool} : ∀ (l : List Nat), (l.find? p).isSome = l.any p
  | [] => rfl
  | a :: l => by
    rw [List.any_cons, List.find?_cons]
    cases e : p a with
    | true => rfl
    | false => rw [Bool.false_or]; exact find_any l
theorem b51 : byl 51 = [0, 1, 2, 3, 4, 5, 6, 7, 8, 9, 10, 11, 12, 13, 14, 15, 16, 17] := by decide +kernel
theorem b19 : byl 19 = [18, 19, 20, 21, 22, 23, 24, 25, 26] := by decide +kernel
theorem b3 : byl 3 = [27, 28, 29, 30, 31] := by decide +kernel
theorem b103 : byl 103 = [32] := by decide +kernel
theorem b35 : byl 35 = [33, 34, 35] := by decide +kernel
theorem b99 : byl 99 = [36, 37, 38, 39, 40, 41] := by decide +kernel
theorem b55 : byl 55 = [42] := by decide +kernel
theorem b23 : byl 23 = [43] := by decide +kernel
theorem b111 : byl 111 = [44] := by decide +kernel
theorem b115 : byl 115 = [45, 46] := by decide +kernel
theorem b15 : byl 15 = [47] := by decide +kernel
theorem bno {l : Int} (h : l ≠ 51 ∧ l ≠ 19 ∧ l ≠ 3 ∧ l ≠ 103 ∧ l ≠ 35 ∧ l ≠ 99 ∧ l ≠ 55 ∧ l ≠ 23 ∧ l ≠ 111 ∧ l ≠ 115 ∧ l ≠ 15) : byl l = [] := by
  have k : ∀ o, o < 48 → la o ∈ ([51, 19, 3, 103, 35, 99, 55, 23, 111, 115, 15] : List Int) := by decide +kernel
  cases e : byl l with
  | nil => rfl
  | cons o r =>
    obtain ⟨h1, h2⟩ := byl_mem (l := l) (o := o) (by rw [e]; exact List.mem_cons_self)
    have := k o h1
    rw [h2] at this
    simp only [List.mem_cons, List.not_mem_nil, or_false] at this
    omega
theorem known_is {w : Int} (h : 0 ≤ w ∧ w < 4294967296) : (decM w).isSome = known w := by
  unfold decM
  rw [m7, find_any]
  simp only [fnd_fq]
  unfold known
  have ht : w / 4096 % 8 = 0 ∨ w / 4096 % 8 = 1 ∨ w / 4096 % 8 = 2 ∨ w / 4096 % 8 = 3 ∨ w / 4096 % 8 = 4 ∨ w / 4096 % 8 = 5 ∨ w / 4096 % 8 = 6 ∨ w / 4096 % 8 = 7 := by omega
  by_cases c55 : w % 128 = 55
  · rw [c55, b55]; rfl
  by_cases c23 : w % 128 = 23
  · rw [c23, b23]; rfl
  by_cases c111 : w % 128 = 111
  · rw [c111, b111]; rfl
  rw [if_neg (by omega)]
  generalize hs : w / 33554432 = s at *
  generalize w / 4096 % 8 = t at *
  by_cases c51 : w % 128 = 51
  · rw [if_pos c51, c51, b51]
    rcases ht with e | e | e | e | e | e | e | e <;> subst e <;> by_cases s0 : s = 0 <;> by_cases s1 : s = 1 <;> by_cases s2 : s = 32 <;> simp [fq, fo, fos, pa, pas, fi, fis, s0, s1, s2] <;> (try omega)
  rw [if_neg c51]
  by_cases c19 : w % 128 = 19
  · rw [if_pos c19, c19, b19]
    rcases ht with e | e | e | e | e | e | e | e <;> subst e <;> by_cases s0 : s = 0 <;> by_cases s2 : s = 32 <;> simp [fq, fo, fos, pa, pas, fi, fis, s0, s2] <;> (try omega)
  rw [if_neg c19]
  by_cases c3 : w % 128 = 3
  · rw [if_pos c3, c3, b3]
    rcases ht with e | e | e | e | e | e | e | e <;> subst e <;> rfl
  rw [if_neg c3]
  by_cases c103 : w % 128 = 103
  · rw [if_pos c103, c103, b103]
    rcases ht with e | e | e | e | e | e | e | e <;> subst e <;> rfl
  rw [if_neg c103]
  by_cases c35 : w % 128 = 35
  · rw [if_pos c35, c35, b35]
    rcases ht with e | e | e | e | e | e | e | e <;> subst e <;> rfl
  rw [if_neg c35]
  by_cases c99 : w % 128 = 99
  · rw [if_pos c99, c99, b99]
    rcases ht with e | e | e | e | e | e | e | e <;> subst e <;> rfl
  rw [if_neg c99]
  by_cases c115 : w % 128 = 115
  · rw [c115, b115]
    by_cases e1 : w = 115 <;> by_cases e2 : w = 1048691 <;> simp [fq, fo, fos, pa, pas, e1, e2] <;> (try omega)
  by_cases c15 : w % 128 = 15
  · rw [c15, b15]
    by_cases e1 : w = 267386895 <;> simp [fq, fo, fos, pa, pas, e1] <;> (try omega)
  rw [bno ⟨c51, c19, c3, c103, c35, c99, c55, c23, c111, c115, c15⟩]
  symm
  rw [List.any_nil]
  refine decide_eq_false ?_
  omega
/-- what decode tells -/
theorem dec_told {w : Int} (h : 0 ≤ w ∧ w < 4294967296) {o : Nat} (e : decM w = some o) : o < 48 ∧ Told o w (rd (fo o) w).1 (rd (fo o) w).2.1 (rd (fo o) w).2.2 := by
  unfold decM at e
  obtain ⟨ho, hl⟩ := byl_mem (List.mem_of_find?_eq_some e)
  rw [m7] at hl
  exact ⟨ho, told ho h hl.symm (by simpa using List.find?_some e)⟩
end I6

namespace I6
open PySem PyProof.Rows L2 B6 TL NumText
open Builtin.Str (strSub)
/-! ### texts of instructions -/
def posOf : List Str → Str → Option Nat
  | [], _ => none
  | x :: r, s => if x = s then some 0 else (posOf r s).map (· + 1)
theorem posOf_some : ∀ {l : List Str} {s : Str} {j : Nat}, posOf l s = some j → l[j]? = some s ∧ ∀ m, m < j → l[m]? ≠ some s
  | [], s, j, h => by cases h
  | x :: r, s, j, h => by
    unfold posOf at h
    by_cases c : x = s
    · rw [if_pos c] at h
      injection h with h
      subst h c
      exact ⟨rfl, fun m hm => absurd hm (Nat.not_lt_zero _)⟩
    · rw [if_neg c] at h
      cases e : posOf r s with
      | none => rw [e] at h; cases h
      | some k =>
        rw [e] at h
        injection h with h
        subst h
        obtain ⟨a, b⟩ := posOf_some e
        refine ⟨a, fun m hm => ?_⟩
        cases m with
        | zero => intro z; injection z with z; exact c z
        | succ m => exact b m (by have : m + 1 < k + 1 := hm; omega)
theorem posOf_none : ∀ {l : List Str} {s : Str}, posOf l s = none → s ∉ l
  | [], s, _ => by simp
  | x :: r, s, h => by
    unfold posOf at h
    by_cases c : x = s
    · rw [if_pos c] at h; cases h
    · rw [if_neg c] at h
      cases e : posOf r s with
      | none =>
        intro m
        rcases List.mem_cons.mp m with m | m
        · exact c m.symm
        · exact posOf_none e m
      | some k => rw [e] at h; cases h
theorem posOf_lt {l : List Str} {s : Str} {j : Nat} (h : posOf l s = some j) : j < l.length := (List.getElem?_eq_some_iff.mp (posOf_some h).1).1
def regs : List Str := regsS.map Str.ofString
def nms : List Str := nmsS.map Str.ofString
def loads : List Str := ["lb", "lh", "lw", "lbu", "lhu"]
def rg (i : Int) : Str := regs.getD i.toNat Str.empty
def num (i : Int) : Str := (toString i : String)
def regO (t : Str) : O := (posOf regs t).map fun j => (j : Int)
def digs (t : Str) : Bool := (tl t).all fun c => decide (48 ≤ c ∧ c ≤ 57)
def numO (t : Str) : O := if Txt.removeprefix t "-" = Str.empty ∨ 8 < t.length ∨ digs (Txt.removeprefix t "-") = false then none else intText? t
theorem nm_pos : ∀ o, o < 48 → posOf nms (nm o) = some o := by decide +kernel
theorem nm_get {o : Nat} (h : o < 48) : nms[o]? = some (nm o) := (posOf_some (nm_pos o h)).1
theorem pos_nm {s : Str} {o : Nat} (h : posOf nms s = some o) : o < 48 ∧ s = nm o := by
  have h1 : o < 48 := posOf_lt h
  refine ⟨h1, ?_⟩
  have := (posOf_some h).1
  rw [nm_get h1] at this
  injection this with this
  exact this.symm
theorem rg_pos' : ∀ i, i < 32 → posOf regs (regs.getD i Str.empty) = some i := by decide +kernel
theorem regO_rg {i : Int} (h : 0 ≤ i ∧ i < 32) : regO (rg i) = some i := by
  unfold regO rg
  rw [rg_pos' i.toNat (by omega)]
  show some ((i.toNat : Nat) : Int) = some i
  rw [Int.toNat_of_nonneg h.1]
theorem rg_get {i : Int} (h : 0 ≤ i ∧ i < 32) : regs[i.toNat]? = some (rg i) := (posOf_some (rg_pos' i.toNat (by omega))).1
theorem nm_low : ∀ o, o < 48 → ∀ c, c ∈ tl (nm o) → 97 ≤ c ∧ c ≤ 122 := by
  have k : ∀ o, o < 48 → (tl (nm o)).all (fun c => decide (97 ≤ c ∧ c ≤ 122)) = true := by decide +kernel
  intro o h c hc
  exact of_decide_eq_true (List.all_eq_true.mp (k o h) c hc)
theorem nm_len : ∀ o, o < 48 → (tl (nm o)).length ≤ 6 ∧ 0 < (tl (nm o)).length := by decide +kernel
theorem rg_low {i : Int} (h : 0 ≤ i ∧ i < 32) : ∀ c, c ∈ tl (rg i) → (97 ≤ c ∧ c ≤ 122) ∨ (48 ≤ c ∧ c ≤ 57) := by
  have k : ∀ i, i < 32 → (tl (regs.getD i Str.empty)).all (fun c => decide ((97 ≤ c ∧ c ≤ 122) ∨ (48 ≤ c ∧ c ≤ 57))) = true := by decide +kernel
  intro c hc
  exact of_decide_eq_true (List.all_eq_true.mp (k i.toNat (by omega)) c hc)
theorem rg_len {i : Int} (h : 0 ≤ i ∧ i < 32) : (tl (rg i)).length ≤ 4 ∧ 0 < (tl (rg i)).length := by
  have k : ∀ i, i < 32 → (tl (regs.getD i Str.empty)).length ≤ 4 ∧ 0 < (tl (regs.getD i Str.empty)).length := by decide +kernel
  exact k i.toNat (by omega)
theorem tl_pos {i : Int} (h : 0 ≤ i) : tl (num i) = numL i.toNat := by
  obtain ⟨n, rfl⟩ := Int.eq_ofNat_of_zero_le h
  exact tl_num n
theorem tl_neg {i : Int} (h : i < 0) : tl (num i) = 45 :: numL (-i).toNat := by
  obtain ⟨m, rfl⟩ := Int.eq_negSucc_of_lt_zero h
  have e : toString (Int.negSucc m) = "-" ++ toString ((m + 1 : Nat) : Int) := rfl
  show tl (Str.ofString (toString (Int.negSucc m))) = _
  rw [e, tl_ofString, String.toList_append, List.map_append, ← tl_ofString, ← tl_ofString, tl_num]
  rfl
theorem num_chars {i : Int} : ∀ c, c ∈ tl (num i) → c = 45 ∨ (48 ≤ c ∧ c ≤ 57) := by
  intro c hc
  by_cases h : 0 ≤ i
  · rw [tl_pos h] at hc
    exact .inr (numL_digits _ c hc)
  · rw [tl_neg (by omega)] at hc
    rcases List.mem_cons.mp hc with hc | hc
    · exact .inl hc
    · exact .inr (numL_digits _ c hc)
theorem num_len {i : Int} (h : -10000000 < i ∧ i < 10000000) : (tl (num i)).length ≤ 8 := by
  by_cases c : 0 ≤ i
  · rw [tl_pos c]
    have := numL_len (n := i.toNat) (k := 7) (by decide) (by have : (10 : Nat) ^ 7 = 10000000 := by decide
                                                             omega)
    omega
  · rw [tl_neg (by omega), List.length_cons]
    have := numL_len (n := (-i).toNat) (k := 7) (by decide) (by have : (10 : Nat) ^ 7 = 10000000 := by decide
                                                                omega)
    omega
theorem minus_tl : tl ("-" : Str) = [45] := by decide +kernel
theorem open_tl : tl ("(" : Str) = [40] := by decide +kernel
theorem close_tl : tl (")" : Str) = [41] := by decide +kernel
theorem blank_tl : tl (" " : Str) = [32] := by decide +kernel
theorem sep_tl : tl (", " : Str) = [44, 32] := by decide +kernel
theorem tl_empty : tl Str.empty = [] := rfl
theorem subAt_tl (x y : Str) (i : Nat) : Builtin.Str.subAt x y i = decide (((tl x).drop i).take (tl y).length = tl y) := by
  unfold Builtin.Str.subAt
  have e : (x.cps.extract i (i + y.length)).toList = ((tl x).drop i).take (tl y).length := by
    rw [Array.toList_extract, List.extract_eq_drop_take]
    show List.take (i + y.length - i) (List.drop i (tl x)) = _
    rw [len_tl, Nat.add_sub_cancel_left]
  by_cases c : ((tl x).drop i).take (tl y).length = tl y
  · rw [decide_eq_true c]
    rw [beq_iff_eq]
    apply Array.toList_inj.mp
    rw [e]; exact c
  · rw [decide_eq_false c]
    rw [beq_eq_false_iff_ne]
    intro z
    apply c
    rw [← e, z]
theorem removeprefix_tl (x y : Str) : tl (Txt.removeprefix x y) = if (tl x).take (tl y).length = tl y then (tl x).drop (tl y).length else tl x := by
  unfold Txt.removeprefix
  rw [subAt_tl, List.drop_zero]
  by_cases c : (tl x).take (tl y).length = tl y
  · rw [if_pos c, if_pos (decide_eq_true c)]
    show tl (if (x.length - y.length == x.length) = true then x else strSub x y.length x.length) = _
    split
    · rename_i h
      have h := of_decide_eq_true h
      have hl : (tl y).length = 0 ∨ (tl x).length = 0 := by rw [len_tl x, len_tl y] at h; omega
      rcases hl with hl | hl
      · rw [hl]; rfl
      · have : tl x = [] := List.length_eq_zero_iff.mp hl
        rw [this]; simp
    · rw [tl_strSub_end, len_tl y]
  · rw [if_neg c, if_neg (by simpa using c)]
    rfl
theorem removesuffix_tl (x y : Str) : tl (Txt.removesuffix x y) = if (tl y).length ≤ (tl x).length ∧ (tl x).drop ((tl x).length - (tl y).length) = tl y then (tl x).take ((tl x).length - (tl y).length) else tl x := by
  unfold Txt.removesuffix
  rw [subAt_tl, len_tl x, len_tl y]
  have e : List.take (tl y).length (List.drop ((tl x).length - (tl y).length) (tl x)) = List.drop ((tl x).length - (tl y).length) (tl x) ∨ ¬ (tl y).length ≤ (tl x).length := by
    by_cases h : (tl y).length ≤ (tl x).length
    · left
      apply List.take_of_length_le
      rw [List.length_drop]; omega
    · exact .inr h
  rcases e with e | e
  · rw [e]
    by_cases c : (tl y).length ≤ (tl x).length ∧ (tl x).drop ((tl x).length - (tl y).length) = tl y
    · rw [if_pos c, if_pos (by simpa using c)]
      show tl (if ((tl x).length - (tl y).length - 0 == x.length) = true then x else strSub x 0 ((tl x).length - (tl y).length)) = _
      split
      · rename_i h
        have h := of_decide_eq_true h
        rw [len_tl x, Nat.sub_zero] at h
        rw [List.take_of_length_le (by omega)]
      · rw [tl_strSub, List.drop_zero, Nat.sub_zero]
    · rw [if_neg c, if_neg (by simpa using c)]
      rfl
  · rw [if_neg (show ¬ (_ && _) = true from by rw [Bool.and_eq_true_iff]; exact fun z => e (of_decide_eq_true z.1)), if_neg (fun z => e z.1)]
    rfl
theorem int_neg {i : Int} (h : i < 0) (hl : (tl (num i)).length ≤ 8) : intText? (num i) = some i := by
  have e := intText_neg (x := num i) (cs := numL (-i).toNat) (tl_neg h) (numL_digits _) (numL_ne _) (by rw [len_tl]; omega)
  rw [numL_val] at e
  rw [e]
  congr 1
  omega
theorem int_of {i : Int} (h : -10000000 < i ∧ i < 10000000) : intText? (num i) = some i := by
  by_cases c : 0 ≤ i
  · obtain ⟨n, rfl⟩ := Int.eq_ofNat_of_zero_le c
    refine int_num ?_
    have := num_len h
    rw [tl_pos c] at this
    exact Nat.le_trans this (by decide)
  · exact int_neg (by omega) (num_len h)
theorem str_ne {x : Str} (h : tl x ≠ []) : x ≠ Str.empty := fun z => h (by rw [z]; rfl)
theorem numO_num {i : Int} (h : -10000000 < i ∧ i < 10000000) : numO (num i) = some i := by
  unfold numO
  have e : tl (Txt.removeprefix (num i) "-") = numL i.natAbs := by
    rw [removeprefix_tl, minus_tl]
    by_cases c : 0 ≤ i
    · rw [tl_pos c, show i.toNat = i.natAbs by omega, if_neg]
      intro z
      have := numL_digits i.natAbs 45 (by
        have : [45] = List.take [45].length (numL i.natAbs) := z.symm
        have m : 45 ∈ List.take [45].length (numL i.natAbs) := by rw [← this]; simp
        exact List.mem_of_mem_take m)
      omega
    · rw [tl_neg (by omega), if_pos (show List.take [45].length (45 :: numL (-i).toNat) = [45] from rfl), show (-i).toNat = i.natAbs by omega]
      rfl
  rw [if_neg, int_of h]
  rintro (z | z | z)
  · have : tl (Txt.removeprefix (num i) "-") = [] := by rw [z]; rfl
    rw [e] at this
    exact numL_ne _ this
  · rw [len_tl] at z
    have := num_len h
    omega
  · unfold digs at z
    rw [e] at z
    have : (numL i.natAbs).all (fun c => decide (48 ≤ c ∧ c ≤ 57)) = true := List.all_eq_true.mpr fun c hc => decide_eq_true (numL_digits _ c hc)
    rw [this] at z
    cases z
def isLd (o : Nat) : Bool := decide (27 ≤ o) && decide (o ≤ 31)
def txM (o : Nat) (a b c : Int) : Str := match fo o with
  | .whole => nm o
  | .store => Str.empty ++ nm o ++ " " ++ rg b ++ ", " ++ num c ++ "(" ++ rg a ++ ")"
  | .upper | .jump => Str.empty ++ nm o ++ " " ++ rg a ++ ", " ++ num b
  | .three => Str.empty ++ nm o ++ " " ++ rg a ++ ", " ++ rg b ++ ", " ++ rg c
  | .number => if isLd o = true then Str.empty ++ nm o ++ " " ++ rg a ++ ", " ++ num c ++ "(" ++ rg b ++ ")" else Str.empty ++ nm o ++ " " ++ rg a ++ ", " ++ rg b ++ ", " ++ num c
  | .shift | .branch => Str.empty ++ nm o ++ " " ++ rg a ++ ", " ++ rg b ++ ", " ++ num c
def nmI (t : Str) : Option Fo := (posOf nms t).map fo
def partsM (t : Str) : V × O × O × O :=
  if nmI (Txt.partition t " ").1 = some .whole then (.str (Txt.partition t " ").1, some 0, some 0, some 0)
  else if nmI (Txt.partition t " ").1 = some .store ∨ (Txt.partition t " ").1 ∈ loads then
    (if nmI (Txt.partition t " ").1 = some .store then
      (.str (Txt.partition t " ").1, regO (Txt.removesuffix (Txt.partition ((Txt.split (Txt.partition t " ").2.2 ", ").getLastD Str.empty) "(").2.2 ")"), regO ((Txt.split (Txt.partition t " ").2.2 ", ").headD Str.empty), numO (Txt.partition ((Txt.split (Txt.partition t " ").2.2 ", ").getLastD Str.empty) "(").1)
    else (.str (Txt.partition t " ").1, regO ((Txt.split (Txt.partition t " ").2.2 ", ").headD Str.empty), regO (Txt.removesuffix (Txt.partition ((Txt.split (Txt.partition t " ").2.2 ", ").getLastD Str.empty) "(").2.2 ")"), numO (Txt.partition ((Txt.split (Txt.partition t " ").2.2 ", ").getLastD Str.empty) "(").1))
  else if nmI (Txt.partition t " ").1 = some .upper ∨ nmI (Txt.partition t " ").1 = some .jump then
    (.str (Txt.partition t " ").1, regO ((Txt.split (Txt.partition t " ").2.2 ", ").headD Str.empty), numO ((Txt.split (Txt.partition t " ").2.2 ", ").getLastD Str.empty), some 0)
  else if nmI (Txt.partition t " ").1 = none ∨ (Txt.split (Txt.partition t " ").2.2 ", ").length ≠ 3 then (.non, some 0, some 0, some 0)
  else (.str (Txt.partition t " ").1, regO ((Txt.split (Txt.partition t " ").2.2 ", ").headD Str.empty), regO ((Txt.split (Txt.partition t " ").2.2 ", ").getD 1 Str.empty),
    if nmI (Txt.partition t " ").1 = some .three then regO ((Txt.split (Txt.partition t " ").2.2 ", ").getD 2 Str.empty) else numO ((Txt.split (Txt.partition t " ").2.2 ", ").getD 2 Str.empty))
theorem fr_rg {i : Int} (h : 0 ≤ i ∧ i < 32) {c : Nat} (hc : c < 48) : c ∉ tl (rg i) := fun m => by have := rg_low h c m; omega
theorem fr_num {i : Int} {c : Nat} (hc : c < 45) : c ∉ tl (num i) := fun m => by have := num_chars c m; omega
theorem fr_nm {o : Nat} (h : o < 48) : 32 ∉ tl (nm o) := fun m => by have := nm_low o h 32 m; omega
theorem app_assoc (a b c : Str) : a ++ b ++ c = a ++ (b ++ c) := ext_tl (by rw [tl_append, tl_append, tl_append, tl_append, List.append_assoc])
theorem emp_app (a : Str) : Str.empty ++ a = a := ext_tl (by rw [tl_append]; rfl)
theorem cut_first {o : Nat} (h : o < 48) (r : Str) : Txt.partition (Str.empty ++ nm o ++ " " ++ r) " " = (nm o, ((" " : Str), r)) := by
  rw [emp_app]
  exact partition_app blank_tl (fr_nm h)
theorem cut_none {o : Nat} (h : o < 48) : Txt.partition (nm o) " " = (nm o, Str.empty, Str.empty) := partition_none blank_tl (fr_nm h)
theorem split2 {a b : Str} (ha : 44 ∉ tl a) (hb : 44 ∉ tl b) : Txt.split (a ++ ", " ++ b) ", " = [a, b] := by
  have := split_join (y := ", ") sep_tl (by decide +kernel) (parts := [a, b]) (by simp) (fun p hp => by
    simp only [List.mem_cons, List.not_mem_nil, or_false] at hp
    rcases hp with e | e <;> subst e <;> assumption)
  rw [join_eq] at this
  exact this
theorem split3 {a b c : Str} (ha : 44 ∉ tl a) (hb : 44 ∉ tl b) (hc : 44 ∉ tl c) : Txt.split (a ++ ", " ++ b ++ ", " ++ c) ", " = [a, b, c] := by
  have := split_join (y := ", ") sep_tl (by decide +kernel) (parts := [a, b, c]) (by simp) (fun p hp => by
    simp only [List.mem_cons, List.not_mem_nil, or_false] at hp
    rcases hp with e | e | e <;> subst e <;> assumption)
  rw [join_eq] at this
  rw [show a ++ ", " ++ b ++ ", " ++ c = Str.join ", " [a, b, c] from by
    show a ++ ", " ++ b ++ ", " ++ c = a ++ ", " ++ (b ++ ", " ++ c)
    rw [app_assoc (a ++ ", ") b, app_assoc (a ++ ", "), ]]
  exact this
theorem close_rg {i : Int} (h : 0 ≤ i ∧ i < 32) : Txt.removesuffix (rg i ++ ")") ")" = rg i := by
  refine ext_tl ?_
  rw [removesuffix_tl, close_tl, tl_append, close_tl, List.length_append]
  have e : (tl (rg i)).length + [41].length - [41].length = (tl (rg i)).length := Nat.add_sub_cancel _ _
  rw [e, List.drop_left, List.take_left, if_pos ⟨Nat.le_add_left _ _, rfl⟩]
theorem cut_num {n : Int} (r : Str) : Txt.partition (num n ++ "(" ++ r) "(" = (num n, (("(" : Str), r)) := partition_app open_tl (fr_num (by decide))
theorem ld_fo : ∀ o, o < 48 → (nm o ∈ loads ↔ isLd o = true) := by decide +kernel
theorem st_ld : ∀ o, o < 48 → isLd o = true → fo o = .number := by decide +kernel
/-- what is written is read again -/
theorem back {o : Nat} (ho : o < 48) {a b c : Int} (h : okI (fo o) a b c) : partsM (txM o a b c) = (.str (nm o), some a, some b, some c) := by
  have hf : nmI (nm o) = some (fo o) := by unfold nmI; rw [nm_pos o ho]; rfl
  have nl : fo o ≠ .number → ¬ nm o ∈ loads := fun z m => z (st_ld o ho ((ld_fo o ho).mp m))
  have hmem : ∀ {d1 d2 : Int}, fo o = .number → isLd o = true → -2048 ≤ d1 ∧ d1 ≤ 2047 → True := fun _ _ _ => trivial
  unfold txM
  cases e : fo o with
  | whole =>
    rw [e] at h hf
    obtain ⟨rfl, rfl, rfl⟩ := h
    dsimp only
    unfold partsM
    rw [cut_none ho]
    dsimp only
    rw [hf, if_pos rfl]
  | store =>
    rw [e] at h hf
    obtain ⟨ha, hb, hc⟩ := h
    dsimp only
    rw [show Str.empty ++ nm o ++ " " ++ rg b ++ ", " ++ num c ++ "(" ++ rg a ++ ")" = Str.empty ++ nm o ++ " " ++ (rg b ++ ", " ++ (num c ++ "(" ++ (rg a ++ ")"))) from by simp only [app_assoc]]
    unfold partsM
    rw [cut_first ho]
    dsimp only
    rw [split2 (fr_rg hb (by decide)) (by
      rw [tl_append, tl_append, tl_append, open_tl, close_tl]
      simp only [List.mem_append, List.mem_singleton]
      rintro ((m | m) | m | m)
      · exact fr_num (by decide) m
      · cases m
      · exact fr_rg ha (by decide) m
      · cases m), hf, if_neg (by intro z; cases z), if_pos (Or.inl rfl), if_pos rfl]
    rw [show ([rg b, num c ++ "(" ++ (rg a ++ ")")] : List Str).getLastD Str.empty = num c ++ "(" ++ (rg a ++ ")") from rfl, cut_num]
    show (V.str (nm o), regO (Txt.removesuffix (rg a ++ ")") ")"), regO (rg b), numO (num c)) = _
    rw [close_rg ha, regO_rg ha, regO_rg hb, numO_num (by omega)]
  | upper =>
    rw [e] at h hf
    obtain ⟨ha, hb, rfl⟩ := h
    dsimp only
    rw [show Str.empty ++ nm o ++ " " ++ rg a ++ ", " ++ num b = Str.empty ++ nm o ++ " " ++ (rg a ++ ", " ++ num b) from by simp only [app_assoc]]
    unfold partsM
    rw [cut_first ho]
    dsimp only
    rw [split2 (fr_rg ha (by decide)) (fr_num (by decide)), hf, if_neg (by intro z; cases z), if_neg (by rintro (z | z); cases z; exact nl (by rw [e]; intro z; cases z) z), if_pos (Or.inl rfl)]
    rw [show ([rg a, num b] : List Str).getLastD Str.empty = num b from rfl, show ([rg a, num b] : List Str).headD Str.empty = rg a from rfl, regO_rg ha, numO_num (by omega)]
  | jump =>
    rw [e] at h hf
    obtain ⟨ha, hb, rfl⟩ := h
    dsimp only
    rw [show Str.empty ++ nm o ++ " " ++ rg a ++ ", " ++ num b = Str.empty ++ nm o ++ " " ++ (rg a ++ ", " ++ num b) from by simp only [app_assoc]]
    unfold partsM
    rw [cut_first ho]
    dsimp only
    rw [split2 (fr_rg ha (by decide)) (fr_num (by decide)), hf, if_neg (by intro z; cases z), if_neg (by rintro (z | z); cases z; exact nl (by rw [e]; intro z; cases z) z), if_pos (Or.inr rfl)]
    rw [show ([rg a, num b] : List Str).getLastD Str.empty = num b from rfl, show ([rg a, num b] : List Str).headD Str.empty = rg a from rfl, regO_rg ha, numO_num (by omega)]
  | three =>
    rw [e] at h hf
    obtain ⟨ha, hb, hc⟩ := h
    dsimp only
    rw [show Str.empty ++ nm o ++ " " ++ rg a ++ ", " ++ rg b ++ ", " ++ rg c = Str.empty ++ nm o ++ " " ++ (rg a ++ ", " ++ rg b ++ ", " ++ rg c) from by simp only [app_assoc]]
    unfold partsM
    rw [cut_first ho]
    dsimp only
    rw [split3 (fr_rg ha (by decide)) (fr_rg hb (by decide)) (fr_rg hc (by decide)), hf, if_neg (by intro z; cases z), if_neg (by rintro (z | z); cases z; exact nl (by rw [e]; intro z; cases z) z), if_neg (by rintro (z | z) <;> cases z), if_neg (by rintro (z | z); cases z; exact z rfl), if_pos rfl]
    show (V.str (nm o), regO (rg a), regO (rg b), regO (rg c)) = _
    rw [regO_rg ha, regO_rg hb, regO_rg hc]
  | shift =>
    rw [e] at h hf
    obtain ⟨ha, hb, hc⟩ := h
    dsimp only
    rw [show Str.empty ++ nm o ++ " " ++ rg a ++ ", " ++ rg b ++ ", " ++ num c = Str.empty ++ nm o ++ " " ++ (rg a ++ ", " ++ rg b ++ ", " ++ num c) from by simp only [app_assoc]]
    unfold partsM
    rw [cut_first ho]
    dsimp only
    rw [split3 (fr_rg ha (by decide)) (fr_rg hb (by decide)) (fr_num (by decide)), hf, if_neg (by intro z; cases z), if_neg (by rintro (z | z); cases z; exact nl (by rw [e]; intro z; cases z) z), if_neg (by rintro (z | z) <;> cases z), if_neg (by rintro (z | z); cases z; exact z rfl), if_neg (by intro z; cases z)]
    show (V.str (nm o), regO (rg a), regO (rg b), numO (num c)) = _
    rw [regO_rg ha, regO_rg hb, numO_num (by omega)]
  | branch =>
    rw [e] at h hf
    obtain ⟨ha, hb, hc⟩ := h
    dsimp only
    rw [show Str.empty ++ nm o ++ " " ++ rg a ++ ", " ++ rg b ++ ", " ++ num c = Str.empty ++ nm o ++ " " ++ (rg a ++ ", " ++ rg b ++ ", " ++ num c) from by simp only [app_assoc]]
    unfold partsM
    rw [cut_first ho]
    dsimp only
    rw [split3 (fr_rg ha (by decide)) (fr_rg hb (by decide)) (fr_num (by decide)), hf, if_neg (by intro z; cases z), if_neg (by rintro (z | z); cases z; exact nl (by rw [e]; intro z; cases z) z), if_neg (by rintro (z | z) <;> cases z), if_neg (by rintro (z | z); cases z; exact z rfl), if_neg (by intro z; cases z)]
    show (V.str (nm o), regO (rg a), regO (rg b), numO (num c)) = _
    rw [regO_rg ha, regO_rg hb, numO_num (by omega)]
  | number =>
    rw [e] at h hf
    obtain ⟨ha, hb, hc⟩ := h
    dsimp only
    by_cases cl : isLd o = true
    · rw [if_pos cl]
      rw [show Str.empty ++ nm o ++ " " ++ rg a ++ ", " ++ num c ++ "(" ++ rg b ++ ")" = Str.empty ++ nm o ++ " " ++ (rg a ++ ", " ++ (num c ++ "(" ++ (rg b ++ ")"))) from by simp only [app_assoc]]
      unfold partsM
      rw [cut_first ho]
      dsimp only
      rw [split2 (fr_rg ha (by decide)) (by
        rw [tl_append, tl_append, tl_append, open_tl, close_tl]
        simp only [List.mem_append, List.mem_singleton]
        rintro ((m | m) | m | m)
        · exact fr_num (by decide) m
        · cases m
        · exact fr_rg hb (by decide) m
        · cases m), hf, if_neg (by intro z; cases z), if_pos (Or.inr ((ld_fo o ho).mpr cl)), if_neg (by intro z; cases z)]
      rw [show ([rg a, num c ++ "(" ++ (rg b ++ ")")] : List Str).getLastD Str.empty = num c ++ "(" ++ (rg b ++ ")") from rfl, cut_num]
      show (V.str (nm o), regO (rg a), regO (Txt.removesuffix (rg b ++ ")") ")"), numO (num c)) = _
      rw [close_rg hb, regO_rg ha, regO_rg hb, numO_num (by omega)]
    · rw [if_neg cl]
      rw [show Str.empty ++ nm o ++ " " ++ rg a ++ ", " ++ rg b ++ ", " ++ num c = Str.empty ++ nm o ++ " " ++ (rg a ++ ", " ++ rg b ++ ", " ++ num c) from by simp only [app_assoc]]
      unfold partsM
      rw [cut_first ho]
      dsimp only
      rw [split3 (fr_rg ha (by decide)) (fr_rg hb (by decide)) (fr_num (by decide)), hf, if_neg (by intro z; cases z), if_neg (by rintro (z | z); cases z; exact cl ((ld_fo o ho).mp z)), if_neg (by rintro (z | z) <;> cases z), if_neg (by rintro (z | z); cases z; exact z rfl), if_neg (by intro z; cases z)]
      show (V.str (nm o), regO (rg a), regO (rg b), numO (num c)) = _
      rw [regO_rg ha, regO_rg hb, numO_num (by omega)]
end I6

namespace I6
open PySem PyProof.Rows L2 B6
open Builtin (bitAnd bitOr)
/-! ### written, then read -/
theorem sgn13r {d : Int} (h : -4096 ≤ d ∧ d ≤ 4095) (e : d % 2 = 0) : sgn (d / 4096 % 2 * 4096 + d / 2048 % 2 * 2048 + d / 32 % 64 * 32 + d / 2 % 16 * 2) 4096 = d := by
  unfold sgn
  split <;> omega
theorem sgn21r {d : Int} (h : -1048576 ≤ d ∧ d ≤ 1048575) (e : d % 2 = 0) : sgn (d / 1048576 % 2 * 1048576 + d / 4096 % 256 * 4096 + d / 2048 % 2 * 2048 + d / 2 % 1024 * 2) 1048576 = d := by
  unfold sgn
  split <;> omega
/-- what the word of a right instruction tells -/
structure Back (o : Nat) (w : Int) (a b c : Int) : Prop where
  rng : 0 ≤ w ∧ w < 4294967296
  last : w % 128 = la o
  found : fnd o w = true
  read : rd (fo o) w = (a, b, c)
theorem written {o : Nat} (ho : o < 48) {a b c : Int} (h : okI (fo o) a b c) : Back o (wordM o a b c) a b c := by
  have R := row ho
  have rl := R.l
  have rf := R.f
  cases e : fo o with
  | three =>
    rw [e] at h
    obtain ⟨ha, hb, hc⟩ := h
    have rp := R.p (by rw [e]; exact fun z => by cases z)
    have ew : wordM o a b c = fi o * 33554432 + c * 1048576 + b * 32768 + pa o * 4096 + a * 128 + la o := by
      unfold wordM
      rw [e, if_neg (by intro z; cases z)]
      exact three_back rl rp rf ha hb hc
    rw [ew]
    generalize hw : fi o * 33554432 + c * 1048576 + b * 32768 + pa o * 4096 + a * 128 + la o = w
    have F := fields (w := w) rl ha rp hb hc rf (by omega)
    refine ⟨by omega, F.last, ?_, ?_⟩
    · unfold fnd
      rw [e]
      dsimp only
      rw [m3, p12, p25, F.part, F.first, decide_eq_true rfl, decide_eq_true rfl]; rfl
    · rw [e]
      show (bitAnd (w / 2 ^ 7) 31, bitAnd (w / 2 ^ 15) 31, bitAnd (w / 2 ^ 20) 31) = _
      rw [m5, m5, m5, p7, p15, p20, F.rd, F.one, F.two]
  | shift =>
    rw [e] at h
    obtain ⟨ha, hb, hc⟩ := h
    have rp := R.p (by rw [e]; exact fun z => by cases z)
    have ew : wordM o a b c = fi o * 33554432 + c * 1048576 + b * 32768 + pa o * 4096 + a * 128 + la o := by
      unfold wordM
      rw [e, if_neg (by intro z; cases z)]
      exact three_back rl rp rf ha hb hc
    rw [ew]
    generalize hw : fi o * 33554432 + c * 1048576 + b * 32768 + pa o * 4096 + a * 128 + la o = w
    have F := fields (w := w) rl ha rp hb hc rf (by omega)
    refine ⟨by omega, F.last, ?_, ?_⟩
    · unfold fnd
      rw [e]
      dsimp only
      rw [m3, p12, p25, F.part, F.first, decide_eq_true rfl, decide_eq_true rfl]; rfl
    · rw [e]
      show (bitAnd (w / 2 ^ 7) 31, bitAnd (w / 2 ^ 15) 31, bitAnd (w / 2 ^ 20) 31) = _
      rw [m5, m5, m5, p7, p15, p20, F.rd, F.one, F.two]
  | number =>
    rw [e] at h
    obtain ⟨ha, hb, hc⟩ := h
    have rp := R.p (by rw [e]; exact fun z => by cases z)
    have f0 := R.f0 (by rw [e]; exact fun z => by cases z) (by rw [e]; exact fun z => by cases z)
    have ew : wordM o a b c = c % 4096 * 1048576 + b * 32768 + pa o * 4096 + a * 128 + la o := by
      unfold wordM
      rw [e, if_neg (by intro z; cases z), f0]
      exact number_back rl rp ha hb c
    rw [ew]
    generalize hw : c % 4096 * 1048576 + b * 32768 + pa o * 4096 + a * 128 + la o = w
    have g1 : w % 128 = la o ∧ w / 128 % 32 = a ∧ w / 4096 % 8 = pa o ∧ w / 32768 % 32 = b ∧ w / 1048576 = c % 4096 := by
      have : 0 ≤ c % 4096 ∧ c % 4096 < 4096 := by omega
      generalize c % 4096 = q at *
      refine ⟨by omega, by omega, by omega, by omega, by omega⟩
    refine ⟨by omega, g1.1, ?_, ?_⟩
    · unfold fnd
      rw [e]
      dsimp only
      rw [m3, p12, g1.2.2.1, decide_eq_true rfl]
    · rw [e]
      show (bitAnd (w / 2 ^ 7) 31, bitAnd (w / 2 ^ 15) 31, sgn (w / 2 ^ 20) 2048) = _
      rw [m5, m5, p7, p15, p20, g1.2.1, g1.2.2.2.1, g1.2.2.2.2, sgn12 hc]
  | store =>
    rw [e] at h
    obtain ⟨ha, hb, hc⟩ := h
    have rp := R.p (by rw [e]; exact fun z => by cases z)
    have f0 := R.f0 (by rw [e]; exact fun z => by cases z) (by rw [e]; exact fun z => by cases z)
    have ew : wordM o a b c = c / 32 % 128 * 33554432 + b * 1048576 + a * 32768 + pa o * 4096 + c % 32 * 128 + la o := by
      unfold wordM
      rw [e, if_neg (by intro z; cases z), f0]
      exact store_back rl rp ha hb c
    rw [ew]
    have r1 : 0 ≤ c / 32 % 128 ∧ c / 32 % 128 < 128 := by omega
    have r2 : 0 ≤ c % 32 ∧ c % 32 < 32 := by omega
    have hs := sgn12s hc
    generalize c / 32 % 128 = q1 at *
    generalize c % 32 = q2 at *
    generalize hw : q1 * 33554432 + b * 1048576 + a * 32768 + pa o * 4096 + q2 * 128 + la o = w
    have F := fields (w := w) rl r2 rp ha hb r1 (by omega)
    refine ⟨by omega, F.last, ?_, ?_⟩
    · unfold fnd
      rw [e]
      dsimp only
      rw [m3, p12, F.part, decide_eq_true rfl]
    · rw [e]
      show (bitAnd (w / 2 ^ 15) 31, bitAnd (w / 2 ^ 20) 31, sgn (bitOr (w / 2 ^ 25 * 2 ^ 5) (bitAnd (w / 2 ^ 7) 31)) 2048) = _
      rw [m5, m5, m5, p7, p15, p20, p25, F.rd, F.one, F.two, F.first, sBk r1 r2, hs]
  | branch =>
    rw [e] at h
    obtain ⟨ha, hb, hc, he⟩ := h
    have rp := R.p (by rw [e]; exact fun z => by cases z)
    have f0 := R.f0 (by rw [e]; exact fun z => by cases z) (by rw [e]; exact fun z => by cases z)
    have ew : wordM o a b c = (c / 4096 % 2) * 2147483648 + (c / 32 % 64) * 33554432 + b * 1048576 + a * 32768 + (c / 2 % 16) * 256 + (c / 2048 % 2) * 128 + la o + pa o * 4096 := by
      unfold wordM
      rw [e, if_neg (by intro z; cases z), f0]
      exact wB_eq ha hb rl rp
    rw [ew]
    have hs := sgn13r hc he
    have r1 : 0 ≤ c / 4096 % 2 ∧ c / 4096 % 2 < 2 := by omega
    have r2 : 0 ≤ c / 32 % 64 ∧ c / 32 % 64 < 64 := by omega
    have r3 : 0 ≤ c / 2 % 16 ∧ c / 2 % 16 < 16 := by omega
    have r4 : 0 ≤ c / 2048 % 2 ∧ c / 2048 % 2 < 2 := by omega
    generalize c / 4096 % 2 = q1 at *
    generalize c / 32 % 64 = q2 at *
    generalize c / 2 % 16 = q3 at *
    generalize c / 2048 % 2 = q4 at *
    generalize hw : q1 * 2147483648 + q2 * 33554432 + b * 1048576 + a * 32768 + q3 * 256 + q4 * 128 + la o + pa o * 4096 = w
    have g : w % 128 = la o ∧ w / 4096 % 8 = pa o ∧ w / 32768 % 32 = a ∧ w / 1048576 % 32 = b ∧ w / 2147483648 = q1 ∧ w / 128 % 2 = q4 ∧ w / 33554432 % 64 = q2 ∧ w / 256 % 16 = q3 := by
      refine ⟨by omega, by omega, by omega, by omega, by omega, by omega, by omega, by omega⟩
    refine ⟨by omega, g.1, ?_, ?_⟩
    · unfold fnd
      rw [e]
      dsimp only
      rw [m3, p12, g.2.1, decide_eq_true rfl]
    · rw [e]
      show (bitAnd (w / 2 ^ 15) 31, bitAnd (w / 2 ^ 20) 31, sgn (rB w) 4096) = _
      rw [m5, m5, p15, p20, g.2.2.1, g.2.2.2.1, rB_eq r1 r2 r3 r4 g.2.2.2.2.1 g.2.2.2.2.2.1 g.2.2.2.2.2.2.1 g.2.2.2.2.2.2.2, hs]
  | upper =>
    rw [e] at h
    obtain ⟨ha, hb, rfl⟩ := h
    have f0 := R.f0 (by rw [e]; exact fun z => by cases z) (by rw [e]; exact fun z => by cases z)
    have rp := R.p0 (.inl e)
    have ew : wordM o a b 0 = b * 4096 + a * 128 + la o := by
      unfold wordM
      rw [e, if_neg (by intro z; cases z), f0, rp]
      exact fin_upper ha hb rl
    rw [ew]
    refine ⟨by omega, by omega, by unfold fnd; rw [e], ?_⟩
    rw [e]
    show (bitAnd ((b * 4096 + a * 128 + la o) / 2 ^ 7) 31, (b * 4096 + a * 128 + la o) / 2 ^ 12, (0 : Int)) = _
    rw [m5, p7, p12, show (b * 4096 + a * 128 + la o) / 128 % 32 = a by omega, show (b * 4096 + a * 128 + la o) / 4096 = b by omega]
  | jump =>
    rw [e] at h
    obtain ⟨ha, ⟨hb, he⟩, rfl⟩ := h
    have f0 := R.f0 (by rw [e]; exact fun z => by cases z) (by rw [e]; exact fun z => by cases z)
    have rp := R.p0 (.inr e)
    have ew : wordM o a b 0 = (b / 1048576 % 2) * 2147483648 + (b / 2 % 1024) * 2097152 + (b / 2048 % 2) * 1048576 + (b / 4096 % 256) * 4096 + a * 128 + la o := by
      unfold wordM
      rw [e, if_neg (by intro z; cases z), f0, rp]
      exact wJ_eq ha rl
    rw [ew]
    have hs := sgn21r hb he
    have r1 : 0 ≤ b / 1048576 % 2 ∧ b / 1048576 % 2 < 2 := by omega
    have r2 : 0 ≤ b / 2 % 1024 ∧ b / 2 % 1024 < 1024 := by omega
    have r3 : 0 ≤ b / 2048 % 2 ∧ b / 2048 % 2 < 2 := by omega
    have r4 : 0 ≤ b / 4096 % 256 ∧ b / 4096 % 256 < 256 := by omega
    generalize b / 1048576 % 2 = q1 at *
    generalize b / 2 % 1024 = q2 at *
    generalize b / 2048 % 2 = q3 at *
    generalize b / 4096 % 256 = q4 at *
    generalize hw : q1 * 2147483648 + q2 * 2097152 + q3 * 1048576 + q4 * 4096 + a * 128 + la o = w
    have g : w % 128 = la o ∧ w / 128 % 32 = a ∧ w / 2147483648 = q1 ∧ w / 4096 % 256 = q4 ∧ w / 1048576 % 2 = q3 ∧ w / 2097152 % 1024 = q2 := by
      refine ⟨by omega, by omega, by omega, by omega, by omega, by omega⟩
    refine ⟨by omega, g.1, by unfold fnd; rw [e], ?_⟩
    rw [e]
    show (bitAnd (w / 2 ^ 7) 31, sgn (rJ w) 1048576, (0 : Int)) = _
    rw [m5, p7, g.2.1, rJ_eq r1 r2 r3 r4 g.2.2.1 g.2.2.2.1 g.2.2.2.2.1 g.2.2.2.2.2, hs]
  | whole =>
    rw [e] at h
    obtain ⟨rfl, rfl, rfl⟩ := h
    have rw_ := R.w e
    have ew : wordM o 0 0 0 = pa o := by unfold wordM; rw [if_pos e]
    rw [ew]
    refine ⟨⟨rw_.1, rw_.2.1⟩, rw_.2.2, ?_, by rw [e]; rfl⟩
    unfold fnd
    rw [e]
    exact decide_eq_true rfl
set_option synthInstance.maxHeartbeats 4000000 in
set_option synthInstance.maxSize 100000 in
theorem apart1 : ∀ o, o < 48 → ∀ q, q < 48 → la o = la q → fo o = .whole → fo q = .whole ∧ (¬ pa o = pa q ∨ o = q) := by decide +kernel
set_option synthInstance.maxHeartbeats 4000000 in
set_option synthInstance.maxSize 100000 in
theorem apart2 : ∀ o, o < 48 → ∀ q, q < 48 → la o = la q → (fo o = .upper ∨ fo o = .jump) → o = q := by decide +kernel
set_option synthInstance.maxHeartbeats 4000000 in
set_option synthInstance.maxSize 100000 in
theorem apart3 : ∀ o, o < 48 → ∀ q, q < 48 → la o = la q → (fo o = .three ∨ fo o = .shift) → ((fo q = .three ∨ fo q = .shift) ∧ (¬ pa o = pa q ∨ ¬ fi o = fi q ∨ o = q)) ∨ (fo q = .number ∧ ¬ pa o = pa q) := by decide +kernel
set_option synthInstance.maxHeartbeats 4000000 in
set_option synthInstance.maxSize 100000 in
theorem apart4 : ∀ o, o < 48 → ∀ q, q < 48 → la o = la q → (fo o = .number ∨ fo o = .store ∨ fo o = .branch) → (¬ pa o = pa q ∨ o = q) ∧ ¬ fo q = .whole ∧ ¬ fo q = .upper ∧ ¬ fo q = .jump := by decide +kernel
theorem only {w : Int} {o q : Nat} (ho : o < 48) (hq : q < 48) (el : la o = la q) (h1 : fnd o w = true) (h2 : fnd q w = true) : o = q := by
  have k1 := apart1 o ho q hq el
  have k2 := apart2 o ho q hq el
  have k3 := apart3 o ho q hq el
  have k4 := apart4 o ho q hq el
  unfold fnd at h1 h2
  cases e : fo o with
  | whole =>
    obtain ⟨f, g⟩ := k1 e
    rw [e] at h1
    rw [f] at h2
    rcases g with g | g
    · exact absurd ((of_decide_eq_true h1).symm.trans (of_decide_eq_true h2)) g
    · exact g
  | upper => exact k2 (.inl e)
  | jump => exact k2 (.inr e)
  | three =>
    rw [e] at h1
    obtain ⟨a1, a2⟩ := Bool.and_eq_true_iff.mp h1
    have a1 := of_decide_eq_true a1
    have a2 := of_decide_eq_true a2
    rcases k3 (.inl e) with ⟨f, g⟩ | ⟨f, g⟩
    · rcases f with f | f <;> rw [f] at h2 <;> obtain ⟨b1, b2⟩ := Bool.and_eq_true_iff.mp h2 <;> exact (g.resolve_left (fun z => z (a1.symm.trans (of_decide_eq_true b1)))).resolve_left (fun z => z (a2.symm.trans (of_decide_eq_true b2)))
    · rw [f] at h2
      exact absurd (a1.symm.trans (of_decide_eq_true h2)) g
  | shift =>
    rw [e] at h1
    obtain ⟨a1, a2⟩ := Bool.and_eq_true_iff.mp h1
    have a1 := of_decide_eq_true a1
    have a2 := of_decide_eq_true a2
    rcases k3 (.inr e) with ⟨f, g⟩ | ⟨f, g⟩
    · rcases f with f | f <;> rw [f] at h2 <;> obtain ⟨b1, b2⟩ := Bool.and_eq_true_iff.mp h2 <;> exact (g.resolve_left (fun z => z (a1.symm.trans (of_decide_eq_true b1)))).resolve_left (fun z => z (a2.symm.trans (of_decide_eq_true b2)))
    · rw [f] at h2
      exact absurd (a1.symm.trans (of_decide_eq_true h2)) g
  | number =>
    rw [e] at h1
    have a1 := of_decide_eq_true h1
    obtain ⟨g, n1, n2, n3⟩ := k4 (.inl e)
    have b1 : bitAnd (w / 2 ^ 12) 7 = pa q := by
      cases f : fo q <;> rw [f] at h2 n1 n2 n3
      case whole => exact absurd rfl n1
      case upper => exact absurd rfl n2
      case jump => exact absurd rfl n3
      case three => exact of_decide_eq_true (Bool.and_eq_true_iff.mp h2).1
      case shift => exact of_decide_eq_true (Bool.and_eq_true_iff.mp h2).1
      all_goals exact of_decide_eq_true h2
    exact g.resolve_left (fun z => z (a1.symm.trans b1))
  | store =>
    rw [e] at h1
    have a1 := of_decide_eq_true h1
    obtain ⟨g, n1, n2, n3⟩ := k4 (.inr (.inl e))
    have b1 : bitAnd (w / 2 ^ 12) 7 = pa q := by
      cases f : fo q <;> rw [f] at h2 n1 n2 n3
      case whole => exact absurd rfl n1
      case upper => exact absurd rfl n2
      case jump => exact absurd rfl n3
      case three => exact of_decide_eq_true (Bool.and_eq_true_iff.mp h2).1
      case shift => exact of_decide_eq_true (Bool.and_eq_true_iff.mp h2).1
      all_goals exact of_decide_eq_true h2
    exact g.resolve_left (fun z => z (a1.symm.trans b1))
  | branch =>
    rw [e] at h1
    have a1 := of_decide_eq_true h1
    obtain ⟨g, n1, n2, n3⟩ := k4 (.inr (.inr e))
    have b1 : bitAnd (w / 2 ^ 12) 7 = pa q := by
      cases f : fo q <;> rw [f] at h2 n1 n2 n3
      case whole => exact absurd rfl n1
      case upper => exact absurd rfl n2
      case jump => exact absurd rfl n3
      case three => exact of_decide_eq_true (Bool.and_eq_true_iff.mp h2).1
      case shift => exact of_decide_eq_true (Bool.and_eq_true_iff.mp h2).1
      all_goals exact of_decide_eq_true h2
    exact g.resolve_left (fun z => z (a1.symm.trans b1))
theorem dec_word {o : Nat} (ho : o < 48) {a b c : Int} (h : okI (fo o) a b c) : decM (wordM o a b c) = some o := by
  have B := written ho h
  unfold decM
  rw [m7, B.last]
  cases e : (byl (la o)).find? fun q => fnd q (wordM o a b c) with
  | none =>
    have := List.find?_eq_none.mp e o (List.mem_filter.mpr ⟨List.mem_range.mpr ho, decide_eq_true rfl⟩)
    exact absurd B.found this
  | some q =>
    obtain ⟨hq, el⟩ := byl_mem (List.mem_of_find?_eq_some e)
    rw [only ho hq el.symm B.found (by simpa using List.find?_some e)]
/-! ### bits -/
def bitsL (n : Int) (m : Nat) : List Int := (List.range m).map fun i => n / 2 ^ i % 2
def sumB : List Int → Int
  | [] => 0
  | b :: r => b + 2 * sumB r
theorem bits_len (n : Int) (m : Nat) : (bitsL n m).length = m := by unfold bitsL; rw [List.length_map, List.length_range]
theorem bits_01 (n : Int) (m : Nat) : ∀ b ∈ bitsL n m, 0 ≤ b ∧ b ≤ 1 := by
  intro b hb
  obtain ⟨i, _, rfl⟩ := List.mem_map.mp hb
  omega
theorem bits_succ (n : Int) (m : Nat) : bitsL n (m + 1) = n % 2 :: bitsL (n / 2) m := by
  unfold bitsL
  rw [List.range_succ_eq_map, List.map_cons, List.map_map]
  have e0 : n / 2 ^ 0 % 2 = n % 2 := by rw [show (2 : Int) ^ 0 = 1 from by decide, Int.ediv_one]
  rw [e0]
  congr 1
  refine List.map_congr_left fun i _ => ?_
  show n / 2 ^ (i + 1) % 2 = n / 2 / 2 ^ i % 2
  rw [Int.pow_succ, Int.mul_comm, Int.ediv_ediv_of_nonneg (by decide)]
theorem sum_bits : ∀ (m : Nat) (n : Int) (r : List Int), sumB (bitsL n m ++ r) = n % 2 ^ m + 2 ^ m * sumB r
  | 0, n, r => by
    rw [show (2 : Int) ^ 0 = 1 from by decide, Int.emod_one, Int.one_mul, Int.zero_add]; rfl
  | m + 1, n, r => by
    rw [bits_succ, List.cons_append]
    show n % 2 + 2 * sumB (bitsL (n / 2) m ++ r) = _
    rw [sum_bits m (n / 2) r, Int.pow_succ]
    have hp : (0 : Int) < 2 ^ m := Int.pow_pos (by decide)
    generalize (2 : Int) ^ m = k at *
    have e1 : n % (k * 2) = n % 2 + 2 * (n / 2 % k) := by
      have h1 := Int.mul_ediv_add_emod (n / 2) k
      have r0 := Int.emod_nonneg (n / 2) (show k ≠ 0 by omega)
      have r1 := Int.emod_lt_of_pos (n / 2) hp
      have e2 : n = (n % 2 + 2 * (n / 2 % k)) + (k * 2) * (n / 2 / k) := by
        have e3 : (k * 2) * (n / 2 / k) = 2 * (k * (n / 2 / k)) := by rw [Int.mul_comm k 2, Int.mul_assoc]
        rw [e3]; omega
      have e4 : n % (k * 2) = ((n % 2 + 2 * (n / 2 % k)) + (k * 2) * (n / 2 / k)) % (k * 2) := congrArg (· % (k * 2)) e2
      rw [e4, Int.add_mul_emod_self_left, Int.emod_eq_of_lt (by omega) (by omega)]
    rw [e1, Int.mul_add, Int.mul_comm k 2, Int.mul_assoc, Int.add_assoc]
/-- a part of these bits -/
theorem bits_part (n : Int) {k i j : Nat} (h : i + j ≤ k) : ((bitsL n k).drop i).take j = bitsL (n / 2 ^ i) j := by
  apply List.ext_getElem?
  intro m
  rw [List.getElem?_take]
  by_cases c : m < j
  · rw [if_pos c, List.getElem?_drop]
    unfold bitsL
    rw [List.getElem?_map, List.getElem?_map, List.getElem?_range (by omega), List.getElem?_range c]
    show some (n / 2 ^ (i + m) % 2) = some (n / 2 ^ i / 2 ^ m % 2)
    rw [Int.pow_add, Int.ediv_ediv_of_nonneg (Int.le_of_lt (Int.pow_pos (by decide)))]
  · rw [if_neg c, List.getElem?_eq_none (by rw [bits_len]; omega)]
theorem bits_one (n : Int) : bitsL n 1 = [n % 2] := by
  unfold bitsL
  show [n / 2 ^ 0 % 2] = _
  rw [show (2 : Int) ^ 0 = 1 from by decide, Int.ediv_one]
theorem sum_nil : sumB [] = 0 := rfl
theorem sum_last (n : Int) (m : Nat) : sumB (bitsL n m) = n % 2 ^ m := by
  have := sum_bits m n []
  rw [List.append_nil, sum_nil, Int.mul_zero, Int.add_zero] at this
  exact this
/-! ### the words of the law -/
theorem b_three {o : Nat} (ho : o < 48) {a b c : Int} (e : fo o = .three ∨ fo o = .shift) (h : okI (fo o) a b c) : sumB (bitsL (la o) 7 ++ bitsL a 5 ++ bitsL (pa o) 3 ++ bitsL b 5 ++ bitsL c 5 ++ bitsL (fi o) 7) = wordM o a b c := by
  have R := row ho
  have rl := R.l
  have rf := R.f
  have rp := R.p (by rcases e with e | e <;> rw [e] <;> exact fun z => by cases z)
  have hh : (0 ≤ a ∧ a < 32) ∧ (0 ≤ b ∧ b < 32) ∧ (0 ≤ c ∧ c < 32) := by rcases e with e | e <;> rw [e] at h <;> exact h
  obtain ⟨ha, hb, hc⟩ := hh
  have ew : wordM o a b c = fi o * 33554432 + c * 1048576 + b * 32768 + pa o * 4096 + a * 128 + la o := by
    unfold wordM
    rcases e with e | e <;> rw [e, if_neg (by intro z; cases z)] <;> exact three_back rl rp rf ha hb hc
  rw [ew]
  simp only [List.append_assoc]
  rw [sum_bits, sum_bits, sum_bits, sum_bits, sum_bits, sum_last, p7, p5, p3]
  omega
theorem b_number {o : Nat} (ho : o < 48) {a b c : Int} (e : fo o = .number) (h : okI (fo o) a b c) : sumB (bitsL (la o) 7 ++ bitsL a 5 ++ bitsL (pa o) 3 ++ bitsL b 5 ++ bitsL c 12) = wordM o a b c := by
  have R := row ho
  have rl := R.l
  have rp := R.p (by rw [e]; exact fun z => by cases z)
  have f0 := R.f0 (by rw [e]; exact fun z => by cases z) (by rw [e]; exact fun z => by cases z)
  rw [e] at h
  obtain ⟨ha, hb, hc⟩ := h
  have ew : wordM o a b c = c % 4096 * 1048576 + b * 32768 + pa o * 4096 + a * 128 + la o := by
    unfold wordM
    rw [e, if_neg (by intro z; cases z), f0]
    exact number_back rl rp ha hb c
  rw [ew]
  simp only [List.append_assoc]
  rw [sum_bits, sum_bits, sum_bits, sum_bits, sum_last, p7, p5, p3, p12]
  generalize c % 4096 = q
  omega
theorem b_store {o : Nat} (ho : o < 48) {a b c : Int} (e : fo o = .store) (h : okI (fo o) a b c) : sumB (bitsL (la o) 7 ++ bitsL c 5 ++ bitsL (pa o) 3 ++ bitsL a 5 ++ bitsL b 5 ++ bitsL (c / 2 ^ 5) 7) = wordM o a b c := by
  have R := row ho
  have rl := R.l
  have rp := R.p (by rw [e]; exact fun z => by cases z)
  have f0 := R.f0 (by rw [e]; exact fun z => by cases z) (by rw [e]; exact fun z => by cases z)
  rw [e] at h
  obtain ⟨ha, hb, hc⟩ := h
  have ew : wordM o a b c = c / 32 % 128 * 33554432 + b * 1048576 + a * 32768 + pa o * 4096 + c % 32 * 128 + la o := by
    unfold wordM
    rw [e, if_neg (by intro z; cases z), f0]
    exact store_back rl rp ha hb c
  rw [ew]
  simp only [List.append_assoc]
  rw [sum_bits, sum_bits, sum_bits, sum_bits, sum_bits, sum_last, p7, p5, p3]
  generalize c / 32 % 128 = q
  generalize c % 32 = q2
  omega
theorem b_branch {o : Nat} (ho : o < 48) {a b c : Int} (e : fo o = .branch) (h : okI (fo o) a b c) :
    sumB (bitsL (la o) 7 ++ bitsL (c / 2 ^ 11) 1 ++ bitsL (c / 2 ^ 1) 4 ++ bitsL (pa o) 3 ++ bitsL a 5 ++ bitsL b 5 ++ bitsL (c / 2 ^ 5) 6 ++ bitsL (c / 2 ^ 12) 1) = wordM o a b c := by
  have R := row ho
  have rl := R.l
  have rp := R.p (by rw [e]; exact fun z => by cases z)
  have f0 := R.f0 (by rw [e]; exact fun z => by cases z) (by rw [e]; exact fun z => by cases z)
  rw [e] at h
  obtain ⟨ha, hb, hc, he⟩ := h
  have ew : wordM o a b c = (c / 4096 % 2) * 2147483648 + (c / 32 % 64) * 33554432 + b * 1048576 + a * 32768 + (c / 2 % 16) * 256 + (c / 2048 % 2) * 128 + la o + pa o * 4096 := by
    unfold wordM
    rw [e, if_neg (by intro z; cases z), f0]
    exact wB_eq ha hb rl rp
  rw [ew]
  simp only [List.append_assoc]
  rw [sum_bits, sum_bits, sum_bits, sum_bits, sum_bits, sum_bits, sum_bits, sum_last, p12, p11, p7, p6, p5, p4, p3, p1]
  generalize c / 4096 % 2 = q1
  generalize c / 32 % 64 = q2
  generalize c / 2 % 16 = q3
  generalize c / 2048 % 2 = q4
  omega
theorem b_upper {o : Nat} (ho : o < 48) {a b : Int} (e : fo o = .upper) (h : okI (fo o) a b 0) : sumB (bitsL (la o) 7 ++ bitsL a 5 ++ bitsL b 20) = wordM o a b 0 := by
  have R := row ho
  have rl := R.l
  have f0 := R.f0 (by rw [e]; exact fun z => by cases z) (by rw [e]; exact fun z => by cases z)
  have rp := R.p0 (.inl e)
  rw [e] at h
  obtain ⟨ha, hb, _⟩ := h
  have ew : wordM o a b 0 = b * 4096 + a * 128 + la o := by
    unfold wordM
    rw [e, if_neg (by intro z; cases z), f0, rp]
    exact fin_upper ha hb rl
  rw [ew]
  simp only [List.append_assoc]
  rw [sum_bits, sum_bits, sum_last, p20, p7, p5]
  omega
theorem b_jump {o : Nat} (ho : o < 48) {a b : Int} (e : fo o = .jump) (h : okI (fo o) a b 0) :
    sumB (bitsL (la o) 7 ++ bitsL a 5 ++ bitsL (b / 2 ^ 12) 8 ++ bitsL (b / 2 ^ 11) 1 ++ bitsL (b / 2 ^ 1) 10 ++ bitsL (b / 2 ^ 20) 1) = wordM o a b 0 := by
  have R := row ho
  have rl := R.l
  have f0 := R.f0 (by rw [e]; exact fun z => by cases z) (by rw [e]; exact fun z => by cases z)
  have rp := R.p0 (.inr e)
  rw [e] at h
  obtain ⟨ha, ⟨hb, he⟩, _⟩ := h
  have ew : wordM o a b 0 = (b / 1048576 % 2) * 2147483648 + (b / 2 % 1024) * 2097152 + (b / 2048 % 2) * 1048576 + (b / 4096 % 256) * 4096 + a * 128 + la o := by
    unfold wordM
    rw [e, if_neg (by intro z; cases z), f0, rp]
    exact wJ_eq ha rl
  rw [ew]
  simp only [List.append_assoc]
  rw [sum_bits, sum_bits, sum_bits, sum_bits, sum_bits, sum_last, p20, p12, p11, p10, p8, p7, p5, p1]
  generalize b / 1048576 % 2 = q1
  generalize b / 2 % 1024 = q2
  generalize b / 2048 % 2 = q3
  generalize b / 4096 % 256 = q4
  omega
end I6

namespace Mh
open PySem PySem.Spec PyProof.Rows L2 My Ru ClX
/-! a method of a class, read through the class that heirs it -/
section
variable {P : Program} {w : World} {K : PySem.W.Frag} {mg : Str → Option Value} {base : Heap} {CX : CXT} {k : Nat} {C D : Addr} {m : Str} {ps : List Str} {sp : Sp}
theorem Gm.heir (h : Gm P w K mg base CX k C m ps sp) (e : PySem.W.findIn K (.ref D) m = PySem.W.findIn K (.ref C) m) : Gm P w K mg base CX k D m ps sp := by
  obtain ⟨f, fd, a, b, c⟩ := h.ex
  exact ⟨f, fd, ⟨by rw [e]; exact a.at_, a.fn, a.kp⟩, b, c⟩
end
/-- the class at C gives its def m as it stands -/
structure Cf (K : PySem.W.Frag) (C : Addr) (m : Str) : Prop where
  ex : ∃ (mc : Value) (f : Addr), CRead K C mc ∧ PySem.W.findIn K (.ref C) m = some (some (.ref f)) ∧ PySem.W.findCls K (.ref C) mc m = some (.val (.ref f))
section
variable {X : Cx} {CX : CXT} {k : Nat} {x m : Str} {ps : List Str} {sp : Sp} {E : XK} {e o : Expr} {es : List Expr} {t : TA} {ta tb : TE} {p pos apos : Pos} {C : Addr}
theorem pe_or (ha : PE X e ta) (hb : PE X e tb) : PE X e (fun σ H Q => ta σ H Q ∨ tb σ H Q) :=
  ⟨fun pins s σ H Q I h => h.elim (ha.run pins s σ H Q I) (hb.run pins s σ H Q I)⟩
def tCFun (C : Addr) (sp : Sp) (E : XK) (ta : TE) (t : TA) : TE := fun σ H Q => ta σ H fun x H1 => x = .ref C ∧ t σ H1 fun vs H2 => sp vs H2 Q E
/-- C.m(..), m a def of C -/
theorem pe_cfun {pl : Sem Bool} (he : PE X o ta) (c : Cf X.K C m) (G : Gm X.prog X.w X.K X.mg X.base CX k C m ps sp) (hr : Room k X.A) (hx : Passes CX X E) (ha : PA X (e :: es) t)
    (hst : starEach (e :: es) X.env = (false, eval e X.env) :: starEach es X.env := by rfl) (hpl : (backTo pos (starEach es X.env)).any (·.1) = false := by rfl)
    (ht : eval (.Call (.Attribute o m apos) (e :: es) [] pos) X.env = (do
      let ov ← eval o X.env
      standAt apos.atName
      let (f, first) ← holding [ov] (getMethod ov m pl)
      callWith pos f first (backTo pos (starEach (e :: es) X.env)) (backToKw pos (keywordEach [] X.env))) := by rfl) :
    PE X (.Call (.Attribute o m apos) (e :: es) [] pos) (tCFun C sp E ta t) := by
  obtain ⟨f, fd, hm, F, hb⟩ := G.ex
  obtain ⟨mc, g, r, h1, h2⟩ := c.ex
  obtain rfl : g = f := by
    have z := hm.at_
    rw [h1] at z
    cases z
    rfl
  refine ⟨fun pins s σ H Q I h => ?_⟩
  refine PySem.W.methodCall_KW (pl := pl) (thn (he.run pins s σ H _ I h) fun u s1 ⟨x, H1, I1, rx, ex, q⟩ => ?_) ht
  subst ex
  obtain rfl : u = Value.ref C := rx
  refine PySem.W.method_cls I1.kIn r.ga (getcval_ok (v := .ref g) I1 r ⟨h2, rfl⟩ fun s2 I2 => ?_)
  refine PySem.W.callWith_K (h₀ := X.base) (first := []) I2.ok.mod.kin hm.kp (thn (ha.run pos pins s2 σ H1 _ I2 q) fun us s3 ⟨vs, H2, I3, rv, q3⟩ => ⟨I3.kIn, ?_⟩) hst hpl
  exact run_fn (dvs := []) F hr hb .nil hx I3 rv (by rw [List.append_nil]; exact q3)
end
/-! dict() of a tuple of pairs whose object is known -/
section
variable {X : Cx} {es : List Expr} {t : TA} {pos : Pos}
def tTupF (t : TA) : TE := fun σ H Q => t σ H fun xs H1 => xs.length ≤ sizeLine ∧ ∀ a o, H1 a = none → o.dict = none → Q (.ref a) (upd H1 a (.frz o (.tup xs)))
theorem pe_tupF {x1} (h : PA X es t) : PE X (.Tuple es x1 pos) (tTupF t) := by
  refine ⟨fun pins s σ H Q I hq => wpAny_Tuple_spliced (thn (h.run pos pins s σ H _ I hq) fun us s1 ⟨xs, H1, I1, r, z, q⟩ => ⟨r.length ▸ z, ?_⟩)⟩
  have g : (s1.heap.push { cls := .type "tuple", data := .seq us.toArray 0 }).get? s1.heap.objs.size = some { cls := .type "tuple", data := .seq us.toArray 0 } := Heap.get?_push_size _ rfl
  refine ⟨.ref s1.heap.objs.size, _, I1.laid (t' := s1.toks) (fun b u e => Heap.get?_push_of_some _ e) (Nat.le_refl _) (o := .frz { cls := .type "tuple", data := .seq us.toArray 0 } (.tup xs)) ⟨g, z, us, r, _, g, rfl, _, rfl⟩, rfl, q _ _ (I1.hok.fresh (Nat.le_refl _)) rfl⟩
theorem pairs_are {pins : List (Addr × Obj)} {σ : L2.St} {H : Hp} {s : Shared} (I : Inv X pins σ H s) : ∀ {ps : List Addr} {kvs : List (Key × V)}, Paired (fun p kv => SqT X.K H p [kV kv.1, kv.2]) ps kvs →
    ∃ (prs : List (Key × Value)) (pvs : List (Value × Value)), KV kvs prs ∧ prs.length = ps.length ∧ pvs.length = ps.length ∧
      ∀ (j : Nat) (k v : Value), pvs[j]? = some (k, v) → ∃ (b : Addr) (q : Key), ps[j]? = some b ∧ prs[j]? = some (q, v) ∧ IsTup s.heap b #[k, v] ∧ keyIs q k = true
  | _, _, .nil => ⟨[], [], .nil, rfl, rfl, fun j k v e => by simp at e⟩
  | _, _, .cons (a := p) (b := kv) h t => by
    obtain ⟨prs, pvs, r, l1, l2, hp⟩ := pairs_are I t
    obtain ⟨its, rv, ht, _⟩ := I.tuple h
    obtain ⟨u, y, ei, ru, ry⟩ := vals2 rv
    subst ei
    refine ⟨(kv.1, y) :: prs, (u, y) :: pvs, .cons ⟨rfl, ry⟩ r, by simp [l1], by simp [l2], fun j k v e => ?_⟩
    rcases j with _ | j
    · have e' : (u, y) = (k, v) := by simpa using e
      cases e'
      exact ⟨p, kv.1, rfl, rfl, ht, kV_is (P := X.prog) (w := X.w) ru⟩
    · obtain ⟨b, q, a1, a2, a3, a4⟩ := hp j k v (by simpa using e)
      exact ⟨b, q, by simpa using a1, by simpa using a2, a3, a4⟩
def rDictTup (K : PySem.W.Frag) : List V → Hp → VK → Prop := fun xs H Q => ∃ (a : Addr) (o : Obj) (ps : List Addr) (kvs : List (Key × V)), xs = [.ref a] ∧ H a = some (.frz o (.tup (ps.map V.ref))) ∧ o.dict = none ∧ Paired (fun p kv => SqT K H p [kV kv.1, kv.2]) ps kvs ∧
    ∀ p, H p = none → Q (.ref p) (upd H p (.dK (mergeK [] kvs)))
theorem call_dictTup (hcalm : X.calm = true) : CallR X (.type "dict") (rDictTup X.K) := by
  rintro pins s σ H xs us Q I r ⟨a, o, ps, kvs, rfl, hq, hd, hp, q⟩
  obtain ⟨u, rfl, rx⟩ := vals1 r
  cases rx
  obtain ⟨g, z, its, rv, o', g', hc, n, hdat⟩ := I.hok a _ hq
  obtain rfl : o = o' := by rw [g] at g'; exact Option.some.inj g'
  obtain rfl := refs_at rv
  obtain ⟨prs, pvs, rel, l1, l2, hpr⟩ := pairs_are I hp
  rw [List.length_map] at z
  refine PySem.call_dict_pairs (knd := mixKind X.prog X.w) (kvs := prs) (PairArg.tuple (prog := X.prog) (w := X.w) a (ps.map Value.ref).toArray (fun j => ps.getD j 0) pvs) (I.ok.hd hcalm) ⟨⟨o, n, g, hc, hd, hdat⟩, by simp [l2], fun j k v e => ?_⟩ ⟨by rw [l1, l2], fun i key v e => ?_⟩ (by rw [l2]; exact z) fun h' tk hd' k => ?_
  · obtain ⟨b, qk, a1, a2, ⟨ot, ho, hc', m, hs⟩, a4⟩ := hpr j k v e
    have e1 : ps.getD j 0 = b := by rw [List.getD_eq_getElem?_getD, a1]; rfl
    refine ⟨by simp [a1, e1], ?_⟩
    show PairAt s.heap (ps.getD j 0) k v
    rw [e1]
    exact .inl ⟨ot, ho, hc', m, hs⟩
  · obtain ⟨b, qk, a1, a2, a3, a4⟩ := hpr i key v e
    exact ⟨qk, a2, a4⟩
  · have hm : (s.heap.objs.size == sysModules) = false := beq_eq_false_iff_ne.mpr (Nat.ne_of_gt I.big)
    have hlen : (mergeK [] kvs).length ≤ sizeLine := by
      have z1 := length_mergeK kvs []
      have z2 : kvs.length = ps.length := by rw [← l1]; exact rel.length
      rw [List.length_nil] at z1
      omega
    exact ⟨.ref s.heap.objs.size, _, I.laid (t' := tk) (fun b u e => k b u (fun h => nomatch h) e) (Nat.le_refl _) (o := .dK (mergeK [] kvs)) ⟨hlen, hm, merged [] prs, KV.merge rel .nil, hd'⟩, rfl, q _ (I.hok.fresh (Nat.le_refl _))⟩
end
/-! a method of one of two classes -/
section
variable {X : Cx} {CX : CXT} {k i : Nat} {m y : Str} {ps : List Str} {sp : Sp} {E : XK} {e : Expr} {es : List Expr} {t : TA} {p pos apos : Pos} {C D : Addr}
def tMeth2 (C D : Addr) (i : Nat) (m : Str) (sp : Sp) (E : XK) (t : TA) : TE := fun σ H Q => ∃ a B dx fs, σ[i]? = some (some (.ref a)) ∧ H a = some (.ins B dx fs) ∧ (B = C ∨ B = D) ∧ fs.lookup m = none ∧ t σ H fun vs H2 => sp (.ref a :: vs) H2 Q E
theorem pe_gm2 {pl : Sem Bool} (he : PE X (.Name y p) (tVar i)) (c : Cls X.K C) (d : Cls X.K D) (G : Gm X.prog X.w X.K X.mg X.base CX k C m ps sp) (G' : Gm X.prog X.w X.K X.mg X.base CX k D m ps sp) (hr : Room k X.A) (hx : Passes CX X E) (ha : PA X (e :: es) t)
    (hst : starEach (e :: es) X.env = (false, eval e X.env) :: starEach es X.env := by rfl) (hpl : (backTo pos (starEach es X.env)).any (·.1) = false := by rfl)
    (ht : eval (.Call (.Attribute (.Name y p) m apos) (e :: es) [] pos) X.env = (do
      let ov ← eval (.Name y p) X.env
      standAt apos.atName
      let (f, first) ← holding [ov] (getMethod ov m pl)
      callWith pos f first (backTo pos (starEach (e :: es) X.env)) (backToKw pos (keywordEach [] X.env))) := by rfl) :
    PE X (.Call (.Attribute (.Name y p) m apos) (e :: es) [] pos) (tMeth2 C D i m sp E t) := by
  refine ⟨fun pins s σ H Q I hw => ?_⟩
  obtain ⟨a, B, dx, fs, h1, h2, h3, h4, h5⟩ := hw
  rcases h3 with rfl | rfl
  · exact (pe_gm he c G hr hx ha hst hpl ht).run pins s σ H Q I ⟨_, h1, a, dx, fs, rfl, h2, h4, h5⟩
  · exact (pe_gm he d G' hr hx ha hst hpl ht).run pins s σ H Q I ⟨_, h1, a, dx, fs, rfl, h2, h4, h5⟩
theorem pe_gm20 {pl : Sem Bool} (he : PE X (.Name y p) (tVar i)) (c : Cls X.K C) (d : Cls X.K D) (G : Gm X.prog X.w X.K X.mg X.base CX k C m ps sp) (G' : Gm X.prog X.w X.K X.mg X.base CX k D m ps sp) (hr : Room k X.A) (hx : Passes CX X E)
    (ht : eval (.Call (.Attribute (.Name y p) m apos) [] [] pos) X.env = (do
      let ov ← eval (.Name y p) X.env
      standAt apos.atName
      let (f, first) ← holding [ov] (getMethod ov m pl)
      callWith pos f first (backTo pos (starEach [] X.env)) (backToKw pos (keywordEach [] X.env))) := by rfl) :
    PE X (.Call (.Attribute (.Name y p) m apos) [] [] pos) (tMeth2 C D i m sp E tNil) := by
  refine ⟨fun pins s σ H Q I hw => ?_⟩
  obtain ⟨a, B, dx, fs, h1, h2, h3, h4, h5⟩ := hw
  rcases h3 with rfl | rfl
  · exact (pe_gm0 he c G hr hx ht).run pins s σ H Q I ⟨_, h1, a, dx, fs, rfl, h2, h4, h5⟩
  · exact (pe_gm0 he d G' hr hx ht).run pins s σ H Q I ⟨_, h1, a, dx, fs, rfl, h2, h4, h5⟩
end
end Mh

/-! a head's Hook that also knows the table of the interpreter's own statics: C.m through a class asks it -/
namespace Hy
open PySem PySem.Spec L2
/-- what an object names -/
def kids (g : Addr → Option Obj) (a : Addr) : List Addr := match g a with
  | some o => He.refsO o
  | none => []
def two (g : Addr → Option Obj) (a : Addr) : List Addr := let ks := kids g a; ks ++ ks.flatMap (kids g)
/-- what stands near a name's object: a def's code and tables, a class's names and their defs -/
def near (g : Addr → Option Obj) (a : Addr) : List Addr := match g a with
  | some ⟨_, _, .func fd, _⟩ => two g a
  | some ⟨_, _, .cls cd, _⟩ => let ms := kids g cd.ns; cd.ns :: (ms ++ ms.flatMap (two g))
  | some o => He.refsO o
  | none => []
def part (g : Addr → Option Obj) (_ : Nat) : PySem.W.Frag := He.frT g (let ks := kids g mainGlobals; mainGlobals :: cStatics :: (ks ++ ks.flatMap (near g)))
def look (n : Nat) (fa : List He.Fa) (fn : List He.DefD) (ts : List He.Tab) (ex : PySem.W.Frag → Bool) (g : Addr → Option Obj) : He.AlX :=
  (He.obsT fa fn ts (part g n), ex (part g n))
section
variable {n : Nat} {fa : List He.Fa} {fn : List He.DefD} {ts : List He.Tab} {ex : PySem.W.Frag → Bool}
theorem told {w : World} {h : Heap} (e : look n fa fn ts ex h.get? = He.valX fn ts w) : He.SaysX fa fn ts [] ex w h (part h.get? n) where
  t := congrArg Prod.fst e
  more := congrArg Prod.snd e
  hd := fun _ hp => nomatch hp
  out := fun _ hp => nomatch hp
  empty := fun _ hp => nomatch hp
end
def hook (n : Nat) (fa : List He.Fa) (fn : List He.DefD) (ts : List He.Tab) (ex : PySem.W.Frag → Bool) : PySem.W.Hook where
  α := He.AlX
  obs s := look n fa fn ts ex s.heap.get?
  val w := He.valX fn ts w
  says w h := ∃ F : PySem.W.Frag, F.In h ∧ He.SaysX fa fn ts [] ex w h F
  of _ s e := ⟨part s.heap.get? n, He.frT_in, told e⟩
  keeps _ _ _ p k := by
    obtain ⟨F, i, c⟩ := p
    exact ⟨F, PySem.W.Frag.In.keeps i k, { t := c.t, more := c.more, hd := c.hd, out := c.out, empty := fun _ hp => nomatch hp }⟩
theorem look_eq {n : Nat} {fa : List He.Fa} {fn : List He.DefD} {ts : List He.Tab} {ex : PySem.W.Frag → Bool} {g : Addr → Option Obj} {s : Shared} (h : ∀ a, g a = s.heap.get? a) : look n fa fn ts ex g = (hook n fa fn ts ex).obs s := by
  cases (show g = s.heap.get? from funext h)
  rfl
/-- what the top's run shows of itself -/
def Shows {α : Type} (r : PySem.W.OpenRow) (m : Nat) (w : World) (f : PySem.W.SharedT → α) (v : α) : Prop :=
  ∀ os : OsState, (HandSHeadRun.endF (HandSHeadRun.stepQ (HandSHeadRun.denQ HandSHeadRun.tabQ) r.prog w) m r.prog w os).map f = some v
theorem Shows.both {α β : Type} {r : PySem.W.OpenRow} {m : Nat} {w : World} {f : PySem.W.SharedT → α} {g : PySem.W.SharedT → β} {v : α} {u : β} (h1 : Shows r m w f v) (h2 : Shows r m w g u) : Shows r m w (fun s => (f s, g s)) (v, u) := fun os => by
  have a := h1 os
  have b := h2 os
  cases e : HandSHeadRun.endF (HandSHeadRun.stepQ (HandSHeadRun.denQ HandSHeadRun.tabQ) r.prog w) m r.prog w os with
  | none => rw [e] at a; cases a
  | some s =>
    rw [e] at a b
    have a : f s = v := Option.some.inj a
    have b : g s = u := Option.some.inj b
    show some (f s, g s) = some (v, u)
    rw [a, b]
end Hy

/-! d[k] of a written dict whose keys are ints; d.get(k) and d.update(e) of dicts of the hand layer -/
namespace Ki
open PySem PySem.Spec PyProof.Rows L2 Kg
section
variable {X : Cx}
def rIxK (d : Addr) (es : Array DictEntry) : R2 := fun x y H Q => ∃ (k : Int) (u : Value) (v : V), x = .ref d ∧ y = .int k ∧ findBy Value.isInt es k = some u ∧ RelV v u ∧ Q v H
theorem ix_kint {d : Addr} {es : Array DictEntry} {n : Nat} (D : KInt X.K d es n) : IxR X (rIxK d es) := by
  intro value slice pins s σ H x y v u Q I rx ry h hs
  obtain ⟨k, w, z, rfl, rfl, e, ru, q⟩ := h
  obtain rfl : v = Value.ref d := rx
  obtain ⟨t, rfl⟩ := ry
  have hm := D.map (prog := X.prog) (w := X.w) I.kIn
  exact tail_any hm.typeIs slot_dict_getitem.lookup (wpAny_getItem_of (intKind_is X.prog X.w k t) hm e ⟨z, H, I.tok _, ru, q⟩) hs
/-- d.update(e), e another dict -/
def rUpd : V → List V → Hp → VK → Prop := fun x vs H Q => ∃ (a b : Addr) (ks ls : List (Key × V)), x = .ref a ∧ vs = [.ref b] ∧ a ≠ b ∧ H a = some (.dK ks) ∧ H b = some (.dK ls) ∧ ks.length + ls.length ≤ sizeLine ∧ Q .non (upd H a (.dK (mergeK ks ls)))
theorem mt_upd : MtM X "dict.update" rUpd := by
  intro pins s σ H x vs v us Q I rx rv h
  obtain ⟨a, b, ks, ls, rfl, rfl, ne, ea, eb, hz, q⟩ := h
  cases rx
  obtain ⟨u, rfl, ru⟩ := rv.one
  cases ru
  obtain ⟨z1, hd1, ws1, rel1, dd1⟩ := dk_of I.hok ea
  obtain ⟨z2, hd2, ws2, rel2, dd2⟩ := dk_of I.hok eb
  refine call_meetsIn PySem.F.slot_dict_update dd1.typeIs PySem.F.entry_dict_update (PySem.F.args_dict_update_2 _ _) (meets_dict_update (mixKind X.prog X.w) a b ne hd2)
    ⟨ws1, ws2, dd1, dd2, by rw [← rel1.length, ← rel2.length]; exact hz, fun h' dd' _ hs => ?_⟩
  have he : ∃ q, h'.get? a = some q := let ⟨q, _, _, hq, _⟩ := dd'; ⟨q, hq⟩
  refine ⟨.non, _, d_write I (by rw [ea]; exact True.intro) hs he (dk_new ?_ hd1 (KV.merge rel2 rel1) dd'), rfl, q⟩
  have z := length_mergeK ls ks
  omega
end
end Ki

/-! dict(zip(t, x)) of a tuple and a list or tuple; del xs[i:] -/
namespace Q5
open PySem PySem.Spec PyProof.Rows L2
section
variable {prog : Program} {w : World} {A : Around} {E : Value → Shared → Prop} {s : Shared} {z TI TO i1 i2 : Addr} {f1 f2 : List Addr} {n1 n2 i : Nat} {P1 P2 : Nat → Value → Prop} {S1 S2 : Nat → Heap → Prop}
/-- the next pair of a zip whose last pair is still there -/
theorem held_item {Q : Value → Shared → Prop} {T : Addr} {f : Bool} {oT : Obj} (S : ZipSep2 z TI TO i1 i2 f1 f2) (D1 : Draws prog w A i1 f1 n1 P1 S1) (D2 : Draws prog w A i2 f2 n2 P2 S2)
    (gz : IsZipHeld s.heap z TI TO T f) (gT : s.heap.get? T = some oT) (gI : IsTupOf2 s.heap TI (.ref i1) (.ref i2)) (a1 : S1 i s.heap) (a2 : S2 i s.heap) (l1 : i < n1) (l2 : i < n2)
    (q : ∀ x y h' tk, P1 i x → P2 i y → IsZipHeld h' z TI TO T true → S1 (i + 1) h' → S2 (i + 1) h' → IsTupOf2 h' s.heap.objs.size x y →
      (∀ c o, c ≠ z → c ≠ i1 → c ≠ i2 → s.heap.get? c = some o → h'.get? c = some o) → Q (.ref s.heap.objs.size) { s with heap := h', toks := tk }) :
    wpAny (model prog w) A (Builtin.«zip.__next__» ⟨[.ref z], []⟩) (fun fin s' => ∃ v, fin = .done (.ret v) ∧ Q v s') E s := by
  obtain ⟨hp, g, d, tk0, os⟩ := s
  show wpAny _ _ (field (.ref z) 2 >>= _) _ _ _
  refine wpAny_bind (wpAny_field gz rfl (x := .bool false) rfl (show wpAny _ _ (field (.ref z) 3 >>= _) _ _ _ from wpAny_bind (wpAny_field gz rfl (x := .ref TI) rfl (wpAny_bind (wpAny_seqItems gI rfl ?_)))))
  show wpAny _ _ (Builtin.SmallTypes.ownedTupleIsFree (.ref z) >>= _) _ _ _
  refine wpAny_bind (wpAny_tupleHeld_zip gz gT fun k1 z1 e1 => ?_)
  simp only [Bool.false_eq_true, if_false]
  refine wpAny_bind ?_
  rw [← Array.forIn_toList]
  simp only [List.forIn_cons, List.forIn_nil]
  have b1 : S1 i k1 := D1.over a1 e1 S.zf1
  have b2 : S2 i k1 := D2.over a2 e1 S.zf2
  refine wpAny_bind (wpAny_bind (wpAny_holding (show wpAny _ _ (Builtin.SmallTypes.nextOf (.ref i1) >>= _) _ _ _ from wpAny_bind (D1.item i _ _ _ l1 b1 fun x k2 t2 px c1 e2 => wpAny_pure (wpAny_pure ?_)))))
  have c2 : S2 i k2 := D2.over b2 e2 S.sep1_2
  refine wpAny_bind (wpAny_bind (wpAny_holding (show wpAny _ _ (Builtin.SmallTypes.nextOf (.ref i2) >>= _) _ _ _ from wpAny_bind (D2.item i _ _ _ l2 c2 fun y k3 t3 py d2 e3 => wpAny_pure (wpAny_pure (wpAny_pure ?_))))))
  have d1 : S1 (i + 1) k3 := D1.over c1 e3 S.sep2_1
  have sz : k3.objs.size = hp.objs.size := by rw [e3.1, e2.1, e1.1]
  have z3 : IsZipHeld k3 z TI TO T true := e3.extBut _ _ S.zi2 (e2.extBut _ _ S.zi1 z1)
  have hk : ∀ c o, c ≠ z → c ≠ i1 → c ≠ i2 → hp.get? c = some o → k3.get? c = some o := fun c o m1 m2 m3 e => e3.extBut _ _ m3 (e2.extBut _ _ m2 (e1.extBut _ _ m1 e))
  show wpAny _ _ (newTuple [x, y] >>= _) _ _ _
  refine wpAny_bind (wpAny_newTuple (wpAny_pure ⟨_, rfl, ?_⟩))
  show Q (.ref k3.objs.size) _
  have gp : IsTupOf2 (k3.push { cls := .type "tuple", data := .seq #[x, y] }) k3.objs.size x y := Heap.get?_push_size _ rfl
  rw [sz] at gp ⊢
  have up : ∀ c o, k3.get? c = some o → (k3.push { cls := .type "tuple", data := .seq #[x, y] }).get? c = some o := fun c o e => Heap.get?_push_of_some _ e
  exact q x y _ t3 px py (up _ _ z3) (D1.frame _ _ _ d1 fun b _ o e => up b o e) (D2.frame _ _ _ d2 fun b _ o e => up b o e) gp fun c o m1 m2 m3 e => up c o (hk c o m1 m2 m3 e)
/-- .. its end -/
theorem held_end {Q : Fin → Shared → Prop} {T : Addr} {f : Bool} {oT : Obj} (S : ZipSep2 z TI TO i1 i2 f1 f2) (D1 : Draws prog w A i1 f1 n1 P1 S1) (D2 : Draws prog w A i2 f2 n2 P2 S2)
    (gz : IsZipHeld s.heap z TI TO T f) (gT : s.heap.get? T = some oT) (gI : IsTupOf2 s.heap TI (.ref i1) (.ref i2)) (a1 : S1 i s.heap) (a2 : S2 i s.heap) (l1 : i ≤ n1) (l2 : i ≤ n2) (hend : i = n1 ∨ i = n2)
    (q : ∀ h' tk e, (∀ c o, c ≠ z → c ≠ i1 → c ≠ i2 → s.heap.get? c = some o → h'.get? c = some o) → (∃ o, h'.get? e = some o ∧ o.cls = .type "StopIteration") → E (.ref e) { s with heap := h', toks := tk }) :
    wpAny (model prog w) A (Builtin.«zip.__next__» ⟨[.ref z], []⟩) Q E s := by
  obtain ⟨hp, g, d, tk0, os⟩ := s
  show wpAny _ _ (field (.ref z) 2 >>= _) _ _ _
  refine wpAny_bind (wpAny_field gz rfl (x := .bool false) rfl (show wpAny _ _ (field (.ref z) 3 >>= _) _ _ _ from wpAny_bind (wpAny_field gz rfl (x := .ref TI) rfl (wpAny_bind (wpAny_seqItems gI rfl ?_)))))
  show wpAny _ _ (Builtin.SmallTypes.ownedTupleIsFree (.ref z) >>= _) _ _ _
  refine wpAny_bind (wpAny_tupleHeld_zip gz gT fun k1 z1 e1 => ?_)
  simp only [Bool.false_eq_true, if_false]
  refine wpAny_bind ?_
  rw [← Array.forIn_toList]
  simp only [List.forIn_cons, List.forIn_nil]
  have b1 : S1 i k1 := D1.over a1 e1 S.zf1
  have b2 : S2 i k1 := D2.over a2 e1 S.zf2
  refine wpAny_bind (wpAny_bind (wpAny_holding (show wpAny _ _ (Builtin.SmallTypes.nextOf (.ref i1) >>= _) _ _ _ from wpAny_bind ?_)))
  by_cases c : i = n1
  · subst c
    exact D1.done _ _ _ b1 fun k2 e e2 he => q k2 _ e (fun c o m1 m2 _ x => e2 _ _ m2 (e1.extBut _ _ m1 x)) he
  · obtain rfl : i = n2 := by omega
    refine D1.item i _ _ _ (by omega) b1 fun x k2 t2 px c1 e2 => wpAny_pure (wpAny_pure ?_)
    have c2 : S2 i k2 := D2.over b2 e2 S.sep1_2
    refine wpAny_bind (wpAny_bind (wpAny_holding (show wpAny _ _ (Builtin.SmallTypes.nextOf (.ref i2) >>= _) _ _ _ from wpAny_bind ?_)))
    exact D2.done _ _ _ c2 fun k3 e e3 he => q k3 _ e (fun c o m1 m2 m3 x => e3 _ _ m3 (e2.extBut _ _ m2 (e1.extBut _ _ m1 x))) he
theorem next_item {Q : Option Value → Shared → Prop} {T : Addr} {f : Bool} {oT : Obj} (S : ZipSep2 z TI TO i1 i2 f1 f2) (D1 : Draws prog w A.in1 i1 f1 n1 P1 S1) (D2 : Draws prog w A.in1 i2 f2 n2 P2 S2)
    (gz : IsZipHeld s.heap z TI TO T f) (gT : s.heap.get? T = some oT) (gI : IsTupOf2 s.heap TI (.ref i1) (.ref i2)) (a1 : S1 i s.heap) (a2 : S2 i s.heap) (l1 : i < n1) (l2 : i < n2)
    (q : ∀ x y h' tk, P1 i x → P2 i y → IsZipHeld h' z TI TO T true → S1 (i + 1) h' → S2 (i + 1) h' → IsTupOf2 h' s.heap.objs.size x y →
      (∀ c o, c ≠ z → c ≠ i1 → c ≠ i2 → s.heap.get? c = some o → h'.get? c = some o) → Q (some (.ref s.heap.objs.size)) { s with heap := h', toks := tk }) :
    wpAny (model prog w) A (pyNext (.ref z)) Q E s := by
  have ty : s.TypeIs (.ref z) "zip" := ⟨_, gz, rfl⟩
  unfold pyNext
  exact wpAny_bind (wpAny_attempt (wpAny_callSpecial?_slot (name := Str.ofString "__next__") ty F.slot_zip_next (wpAny_call_entry F.slot_zip_next ty F.entry_zip_next
    (held_item S D1 D2 gz gT gI a1 a2 l1 l2 fun x y h' tk y1 y2 b1 b2 d1 d2 b5 => wpAny_pure (q x y h' tk y1 y2 b1 b2 d1 d2 b5)) (F.args_zip_next_1 _))))
theorem next_end {Q : Option Value → Shared → Prop} {T : Addr} {f : Bool} {oT : Obj} (S : ZipSep2 z TI TO i1 i2 f1 f2) (D1 : Draws prog w A.in1 i1 f1 n1 P1 S1) (D2 : Draws prog w A.in1 i2 f2 n2 P2 S2)
    (gz : IsZipHeld s.heap z TI TO T f) (gT : s.heap.get? T = some oT) (gI : IsTupOf2 s.heap TI (.ref i1) (.ref i2)) (a1 : S1 i s.heap) (a2 : S2 i s.heap) (l1 : i ≤ n1) (l2 : i ≤ n2) (hend : i = n1 ∨ i = n2)
    (q : ∀ h' tk, (∀ c o, c ≠ z → c ≠ i1 → c ≠ i2 → s.heap.get? c = some o → h'.get? c = some o) → Q none { s with heap := h', toks := tk }) : wpAny (model prog w) A (pyNext (.ref z)) Q E s := by
  have ty : s.TypeIs (.ref z) "zip" := ⟨_, gz, rfl⟩
  unfold pyNext
  refine wpAny_bind (wpAny_attempt (wpAny_callSpecial?_slot (name := Str.ofString "__next__") ty F.slot_zip_next (wpAny_call_entry F.slot_zip_next ty F.entry_zip_next
    (held_end S D1 D2 gz gT gI a1 a2 l1 l2 hend fun h' tk e hk he => ?_) (F.args_zip_next_1 _))))
  obtain ⟨o, ho, hc⟩ := he
  exact wpAny_bind (wpAny_isInstance (T := "StopIteration") (b := true) ⟨o, ho, hc⟩ isSubtype_stop (wpAny_pure (q _ _ hk)))
/-- a zip of any two iterators, as what dict() is made of -/
theorem zipArg (S : ZipSep2 z TI TO i1 i2 f1 f2) (D1 : ∀ A : Around, A.handled = none → Draws prog w A i1 f1 n1 P1 S1) (D2 : ∀ A : Around, A.handled = none → Draws prog w A i2 f2 n2 P2 S2)
    (u1 : ∀ h, S1 0 h → ∀ b ∈ f1, ∃ o, h.get? b = some o) (u2 : ∀ h, S2 0 h → ∀ b ∈ f2, ∃ o, h.get? b = some o)
    (k1 : ∀ h h', S1 0 h → (∀ b o, h.get? b = some o → h'.get? b = some o) → S1 0 h') (k2 : ∀ h h', S2 0 h → (∀ b o, h.get? b = some o → h'.get? b = some o) → S2 0 h') :
    PairArg prog w "zip" z (z :: TI :: TO :: (f1 ++ f2)) [z, TO, i1, i2] (min n1 n2) (fun i k v => P1 i k ∧ P2 i v)
      (fun h => IsZip h z TI TO .none ∧ IsTupOf2 h TI (.ref i1) (.ref i2) ∧ (∃ a b, IsTupOf2 h TO a b) ∧ S1 0 h ∧ S2 0 h) where
  type := fun s ok => ⟨_, ok.1, rfl⟩
  notDict := by decide
  keep := fun h h' ok hk => by
    obtain ⟨gz, gI, ⟨a, b, gO⟩, a1, a2⟩ := ok
    exact ⟨hk _ _ gz, hk _ _ gI, ⟨a, b, hk _ _ gO⟩, k1 _ _ a1 hk, k2 _ _ a2 hk⟩
  there := fun h ok b hb => by
    obtain ⟨gz, gI, ⟨a, c, gO⟩, a1, a2⟩ := ok
    rcases List.mem_cons.mp hb with rfl | hb
    · exact ⟨_, gz⟩
    rcases List.mem_cons.mp hb with rfl | hb
    · exact ⟨_, gI⟩
    rcases List.mem_cons.mp hb with rfl | hb
    · exact ⟨_, gO⟩
    rcases List.mem_append.mp hb with hb | hb
    · exact u1 h a1 b hb
    · exact u2 h a2 b hb
  sub := fun b hb => by
    have m1 := S.mem1
    have m2 := S.mem2
    simp at hb ⊢
    rcases hb with rfl | rfl | rfl | rfl
    · exact .inl rfl
    · exact .inr (.inr (.inl rfl))
    · exact .inr (.inr (.inr (.inl m1)))
    · exact .inr (.inr (.inr (.inr m2)))
  noKeys := fun A s Q E hA ok h => getAttrOr_miss_zip ok.1 rfl rfl rfl zip_no_keys (by decide +kernel) hA h
  iter := fun A s d Q E hA ok hd hdf h => by
    obtain ⟨gz, gI, ⟨a, b, gO⟩, a1, a2⟩ := ok
    have dz : d ≠ z := fun e => hdf (by rw [e]; simp)
    have dI : d ≠ TI := fun e => hdf (by rw [e]; simp)
    have dO : d ≠ TO := fun e => hdf (by rw [e]; simp)
    have d1 : d ∉ f1 := fun e => hdf (by simp [e])
    have d2 : d ∉ f2 := fun e => hdf (by simp [e])
    have di1 : d ≠ i1 := fun e => d1 (by rw [e]; exact S.mem1)
    have di2 : d ≠ i2 := fun e => d2 (by rw [e]; exact S.mem2)
    have B1 := D1 A.in1 hA
    have B2 := D2 A.in1 hA
    refine wpAny_pyIter_zip gz (h z [z, TO, i1, i2] (fun i h => IsTupOf2 h TI (.ref i1) (.ref i2) ∧ S1 i h ∧ S2 i h ∧ ((IsZip h z TI TO .none ∧ ∃ a b, IsTupOf2 h TO a b) ∨ ∃ T f oT, IsZipHeld h z TI TO T f ∧ h.get? T = some oT ∧ T ≠ z ∧ T ≠ i1 ∧ T ≠ i2 ∧ T ≠ d)) s.heap s.toks
      { off := ?off, frame := ?frame, item := ?item, done := ?done } ⟨gI, a1, a2, .inl ⟨gz, a, b, gO⟩⟩ (fun _ _ e => e) fun b hb => .inl hb)
    case off => simp [dz, dO, di1, di2]
    case frame =>
      intro i h1 h2 st hk
      obtain ⟨gI, a1, a2, gz⟩ := st
      refine ⟨hk _ _ dI.symm gI, B1.frame _ _ _ a1 fun b hb o e => hk b o (fun e => d1 (e ▸ hb)) e, B2.frame _ _ _ a2 fun b hb o e => hk b o (fun e => d2 (e ▸ hb)) e, ?_⟩
      rcases gz with ⟨gz, a, b, gO⟩ | ⟨T, f, oT, gz, gT, r1, r2, r3, r4⟩
      · exact .inl ⟨hk _ _ dz.symm gz, a, b, hk _ _ dO.symm gO⟩
      · exact .inr ⟨T, f, oT, hk _ _ dz.symm gz, hk _ _ r4 gT, r1, r2, r3, r4⟩
    case item =>
      intro i s1 Q1 E1 hi st hds hQ
      obtain ⟨gI, a1, a2, gz⟩ := st
      have l1 : i < n1 := by omega
      have l2 : i < n2 := by omega
      have n1' : s1.heap.objs.size ≠ i1 := let ⟨_, e⟩ := B1.live _ _ a1; Nat.ne_of_gt (Heap.lt_size e)
      have n2' : s1.heap.objs.size ≠ i2 := let ⟨_, e⟩ := B2.live _ _ a2; Nat.ne_of_gt (Heap.lt_size e)
      rcases gz with ⟨gz, a, b, gO⟩ | ⟨T, f, oT, gz, gT, r1, r2, r3, r4⟩
      · refine wpAny_pyNext_zipD2_item S B1 B2 gz gI gO a1 a2 l1 l2 fun x y h' tk px py b1 b2 b3 b4 b5 b6 hk => ?_
        exact hQ s1.heap.objs.size x y h' tk ⟨px, py⟩ (.inl ⟨_, b5, rfl, _, rfl⟩) ⟨hk _ _ S.TIz S.TITO S.TIi1 S.TIi2 gI, b3, b4, .inr ⟨s1.heap.objs.size, false, _, b1, b5, Nat.ne_of_gt (Heap.lt_size gz), n1', n2', Nat.ne_of_gt hds⟩⟩
          fun c o hc e => hk c o (fun x => hc (by simp [x])) (fun x => hc (by simp [x])) (fun x => hc (by simp [x])) (fun x => hc (by simp [x])) e
      · refine next_item S B1 B2 gz gT gI a1 a2 l1 l2 fun x y h' tk px py b1 b3 b4 b5 hk => ?_
        exact hQ s1.heap.objs.size x y h' tk ⟨px, py⟩ (.inl ⟨_, b5, rfl, _, rfl⟩) ⟨hk _ _ S.TIz S.TIi1 S.TIi2 gI, b3, b4, .inr ⟨T, true, oT, b1, hk _ _ r1 r2 r3 gT, r1, r2, r3, r4⟩⟩
          fun c o hc e => hk c o (fun x => hc (by simp [x])) (fun x => hc (by simp [x])) (fun x => hc (by simp [x])) e
    case done =>
      intro s1 Q1 E1 st hQ
      obtain ⟨gI, a1, a2, gz⟩ := st
      have hend : min n1 n2 = n1 ∨ min n1 n2 = n2 := by omega
      rcases gz with ⟨gz, a, b, gO⟩ | ⟨T, f, oT, gz, gT, r1, r2, r3, r4⟩
      · exact wpAny_pyNext_zipD2_end S B1 B2 gz gI gO a1 a2 (by omega) (by omega) hend fun h' tk hk => hQ h' tk fun c o hc e => hk c o (fun x => hc (by simp [x])) (fun x => hc (by simp [x])) (fun x => hc (by simp [x])) (fun x => hc (by simp [x])) e
      · exact next_end S B1 B2 gz gT gI a1 a2 (by omega) (by omega) hend fun h' tk hk => hQ h' tk fun c o hc e => hk c o (fun x => hc (by simp [x])) (fun x => hc (by simp [x])) (fun x => hc (by simp [x])) e
end
/-! the hand layer's rule -/
section
variable {X : Cx} {e1 e2 : Expr} {ta : TA} {p p2 pos pos2 : Pos}
theorem draws_t {prog : Program} {w : World} (it t : Addr) (hne : t ≠ it) (items : Array Value) : ∀ A : Around, A.handled = none → Draws prog w A it [it, t] items.size (fun i v => items[i]? = some v) (fun i h => h.IsTupleIter it t i ∧ h.IsTuple t items) :=
  fun _ hh => Draws.tuple hh it t hne items
theorem draws_l {prog : Program} {w : World} (it t : Addr) (hne : t ≠ it) (items : Array Value) : ∀ A : Around, A.handled = none → Draws prog w A it [it, t] items.size (fun i v => items[i]? = some v) (fun i h => h.IsListIter it t i ∧ h.IsList t items) :=
  fun _ hh => Draws.list hh it t hne items
def rDZ (K : PySem.W.Frag) : List V → Hp → VK → Prop := fun vs H Q => ∃ (a b : Addr) (ks : List Key) (ys : List V), vs = [.ref a, .ref b] ∧ SqT K H a (ks.map kV) ∧ (SqL K H b ys ∨ SqT K H b ys) ∧
  ∀ p, H p = none → Q (.ref p) (upd H p (.dK (mergeK [] (ks.zip ys))))
def tDZ (K : PySem.W.Frag) (ta : TA) : TE := fun σ H Q => ta σ H fun vs H1 => rDZ K vs H1 Q
theorem kv_zip : ∀ {ks : List Key} {ys : List V} {us : List Value}, Vals ys us → KV (ks.zip ys) (ks.zip us)
  | [], _, _, _ => by simp only [List.zip_nil_left]; exact .nil
  | _ :: _, [], _, .nil => by simp only [List.zip_nil_right]; exact .nil
  | k :: ks, y :: ys, _ :: _, .cons r t => by simp only [List.zip_cons_cons]; exact .cons ⟨rfl, r⟩ (kv_zip t)
theorem has_keys {P : Program} {w : World} {ks : List Key} {its us : List Value} (r : Vals (ks.map kV) its) : PairsHave (mixKind P w) (min its.toArray.size us.toArray.size) (fun i k v => its.toArray[i]? = some k ∧ us.toArray[i]? = some v) (ks.zip us) := by
  have hl := r.length
  rw [List.length_map] at hl
  refine ⟨by rw [List.length_zip, hl]; rfl, fun i key v h => ?_⟩
  have h1 : its[i]? = some key := by simpa using h.1
  have h2 : us[i]? = some v := by simpa using h.2
  have hi : i < its.length := (List.getElem?_eq_some_iff.mp h1).1
  have hk : ks[i]? = some ks[i] := List.getElem?_eq_getElem (by omega)
  obtain ⟨u, hu, ru⟩ := r.get (i := i) (x := kV ks[i]) (by rw [List.getElem?_map, hk]; rfl)
  rw [h1] at hu
  cases hu
  exact ⟨ks[i], by rw [List.getElem?_zip_eq_some]; exact ⟨hk, h2⟩, kV_is ru⟩
theorem far (k : Nat) {a N : Nat} (h : a < N) : N + k ≠ a := by omega
theorem dz_run {pins : List (Addr × Obj)} {σ : L2.St} {H : Hp} {s : Shared} {Q : VK} {a b : Addr} {ks : List Key} {ys : List V} {its us : List Value} {o2 : Obj} {B : Heap → Prop} {S2 : Addr → Nat → Heap → Prop} (hc : X.calm = true) (I : Inv X pins σ H s) (rk : Vals (ks.map kV) its) (rv : Vals ys us) (zk : its.length ≤ sizeLine)
    (pa : s.heap.IsTuple a its.toArray) (B2 : Begins (.ref b) o2 B) (hB : B s.heap) (lb : b < s.heap.objs.size)
    (D2 : ∀ it, b ≠ it → ∀ A : Around, A.handled = none → Draws X.prog X.w A it [it, b] us.toArray.size (fun i v => us.toArray[i]? = some v) (S2 it))
    (hs : ∀ it h, h.get? it = some o2 → B h → S2 it 0 h) (u2 : ∀ it h, S2 it 0 h → ∀ c ∈ [it, b], ∃ o, h.get? c = some o) (k2 : ∀ it h h', S2 it 0 h → (∀ b o, h.get? b = some o → h'.get? b = some o) → S2 it 0 h')
    (q : ∀ p, H p = none → Q (.ref p) (upd H p (.dK (mergeK [] (ks.zip ys))))) (R : Value → Shared → Prop) (hR : ∀ v s', wpAny (model X.prog X.w) X.A (call (.type "dict") [v]) (EP X pins σ Q) X.xe s' → R v s') :
    wpAny (model X.prog X.w) X.A (call (.type "zip") [.ref a, .ref b]) R X.xe s := by
  have la : a < s.heap.objs.size := let ⟨_, ga, _⟩ := pa; Heap.lt_size ga
  refine zip_begins2 (begins_tuple a its.toArray) B2 pa hB fun h' gz gI gO g1 g2 sz hk => hR _ _ ?_
  have hh : X.A.handled = none := I.ok.hd hc
  generalize hN : s.heap.objs.size = N at *
  have S : ZipSep2 (N + 4) (N + 2) (N + 3) N (N + 1) [N, a] [N + 1, b] :=
    { TIz := show (N + 2 : Nat) ≠ N + 4 by omega, TOz := show (N + 3 : Nat) ≠ N + 4 by omega, TITO := show (N + 2 : Nat) ≠ N + 3 by omega, TIi1 := show (N + 2 : Nat) ≠ N by omega, mem1 := by simp
      zf1 := fun h => by
        rcases List.mem_cons.mp h with e | h
        · exact absurd (show (N + 4 : Nat) = N from e) (by omega)
        · exact far 4 la (List.mem_singleton.mp h)
      Tf1 := fun h => by
        rcases List.mem_cons.mp h with e | h
        · exact absurd (show (N + 3 : Nat) = N from e) (by omega)
        · exact far 3 la (List.mem_singleton.mp h)
      TIi2 := show (N + 2 : Nat) ≠ N + 1 by omega, mem2 := by simp
      zf2 := fun h => by
        rcases List.mem_cons.mp h with e | h
        · exact absurd (show (N + 4 : Nat) = N + 1 from e) (by omega)
        · exact far 4 lb (List.mem_singleton.mp h)
      Tf2 := fun h => by
        rcases List.mem_cons.mp h with e | h
        · exact absurd (show (N + 3 : Nat) = N + 1 from e) (by omega)
        · exact far 3 lb (List.mem_singleton.mp h)
      sep1_2 := fun h => by
        rcases List.mem_cons.mp h with e | h
        · exact absurd (show (N : Nat) = N + 1 from e) (by omega)
        · exact far 0 lb (List.mem_singleton.mp h)
      sep2_1 := fun h => by
        rcases List.mem_cons.mp h with e | h
        · exact absurd (show (N + 1 : Nat) = N from e) (by omega)
        · exact far 1 la (List.mem_singleton.mp h) }
  have nb : b ≠ N + 1 := Nat.ne_of_lt (Nat.lt_succ_of_lt lb)
  refine PySem.call_dict_pairs (s := { s with heap := h' }) (knd := mixKind X.prog X.w) (kvs := ks.zip us) (zipArg S (fun A hA => draws_t N a (Nat.ne_of_lt la) its.toArray A hA) (D2 (N + 1) nb) (fun h x c hc => ?_) (fun h x => u2 _ h x) (fun h h2 x e => ⟨x.1.at fun o g => e _ o g, x.2.at fun o g => e _ o g⟩) (fun h h2 x e => k2 _ h h2 x e)) hh
    ⟨gz, gI, ⟨_, _, gO⟩, ⟨⟨_, g1, rfl, rfl⟩, pa.at fun o e => hk _ o e⟩, hs _ _ g2 (B2.keeps _ _ hB hk)⟩ (has_keys rk) ?_ fun h2 tk hd hk2 => ?_
  · obtain ⟨⟨o1, e1, _⟩, o2, e2, _⟩ := x
    rcases List.mem_cons.mp hc with e | hc
    · rw [e]; exact ⟨o1, e1⟩
    · rw [List.mem_singleton.mp hc]; exact ⟨o2, e2⟩
  · have : its.toArray.size = its.length := rfl
    omega
  · have I2 : Inv X pins σ (upd H h'.objs.size (.dK (mergeK [] (ks.zip ys)))) { s with heap := h2, toks := tk } := by
      have old : ∀ c o, s.heap.get? c = some o → c < N := fun c o e => by rw [← hN]; exact Heap.lt_size e
      refine I.laid (fun c o e => hk2 c o (fun m => ?_) (hk c o e)) (by rw [sz, hN]; exact Nat.le_add_right N 5) ⟨?_, beq_eq_false_iff_ne.mpr (Nat.ne_of_gt ?_), _, KV.merge (kv_zip rv) .nil, hd⟩
      · have l := old c o e
        have cs : c = N + 4 ∨ c = N + 3 ∨ c = N ∨ c = N + 1 := by simpa using m
        rcases cs with e | e | e | e
        · exact far 4 l e.symm
        · exact far 3 l e.symm
        · exact far 0 l e.symm
        · exact far 1 l e.symm
      · have z1 := length_mergeK (ks.zip ys) []
        have z2 : (ks.zip ys).length ≤ its.length := by
          have := rk.length
          rw [List.length_map] at this
          rw [List.length_zip]
          omega
        rw [List.length_nil] at z1
        omega
      · have z := I.big
        rw [hN] at z
        rw [sz]
        exact Nat.lt_of_lt_of_le z (Nat.le_add_right N 5)
    exact ⟨.ref h'.objs.size, _, I2, rfl, q _ (I.hok.fresh (by rw [sz, hN]; exact Nat.le_add_right N 5))⟩
theorem pe_dictZip (hc : X.calm = true) (ha : PA X [e1, e2] ta) (hm : X.mg "dict" = none) (hm2 : X.mg "zip" = none) (hg : Gl X "dict" := by rfl) (hg2 : Gl X "zip" := by rfl)
    (hs : starEach [e1, e2] X.env = (false, eval e1 X.env) :: starEach [e2] X.env := by rfl) (hpl : (backTo pos2 (starEach [e2] X.env)).any (·.1) = false := by rfl)
    (hs2 : starEach [.Call (.Name "zip" p2) [e1, e2] [] pos2] X.env = (false, eval (.Call (.Name "zip" p2) [e1, e2] [] pos2) X.env) :: starEach [] X.env := by rfl) (hpl2 : (backTo pos (starEach [] X.env)).any (·.1) = false := by rfl) :
    PE X (.Call (.Name "dict" p) [.Call (.Name "zip" p2) [e1, e2] [] pos2] [] pos) (tDZ X.K ta) := by
  refine ⟨fun pins s σ H Q I h => ?_⟩
  refine Call_ (ld_blt I hg hm boot_dict (callWith_type1 ?_ hs2 hpl2))
  rw [hs2]
  refine Calls.spliced_cons ?_
  refine Call_ (ld_blt I hg2 hm2 boot_zip (callWith_type1 (thn (ha.run pos2 pins s σ H _ I h) fun us s1 ⟨vs, H1, I1, r1, q1⟩ => ?_) hs hpl))
  obtain ⟨a, b, ks, ys, ex, qa, qb, q⟩ := q1
  subst ex
  obtain ⟨u, u', eu, ru, ru'⟩ := vals2 r1
  subst eu
  cases ru
  cases ru'
  obtain ⟨its, rv, pa, zk⟩ := I1.tuple qa
  replace zk : its.length ≤ sizeLine := by rw [← rv.length]; exact zk
  have fin : ∀ v s', wpAny (model X.prog X.w) X.A (call (.type "dict") [v]) (EP X pins σ Q) X.xe s' → wpAny (model X.prog X.w) X.A (spliced (backTo pos (starEach [] X.env))) (fun vs s2 => wpAny (model X.prog X.w) X.A (call (.type "dict") (v :: vs)) (EP X pins σ Q) X.xe s2) X.xe s' := fun v s' h => Calls.spliced_nil h
  rcases qb with qb | qb
  · obtain ⟨us, rb, pb, _⟩ := I1.list qb
    exact dz_run hc I1 rv rb zk pa (begins_list b us.toArray) pb.isList pb.lt (S2 := fun it i h => h.IsListIter it b i ∧ h.IsList b us.toArray) (fun it n => draws_l it b n us.toArray) (fun it h e x => ⟨⟨_, e, rfl, rfl⟩, x⟩)
      (fun it h x c hm => by
        obtain ⟨⟨o1, e1, _⟩, o2, e2, _⟩ := x
        rcases List.mem_cons.mp hm with e | hm
        · rw [e]; exact ⟨o1, e1⟩
        · rw [List.mem_singleton.mp hm]; exact ⟨o2, e2⟩) (fun it h h' x k => ⟨x.1.at fun o g => k _ o g, x.2.at fun o g => k _ o g⟩) q _ fin
  · obtain ⟨us, rb, pb, _⟩ := I1.tuple qb
    exact dz_run hc I1 rv rb zk pa (begins_tuple b us.toArray) pb pb.lt (S2 := fun it i h => h.IsTupleIter it b i ∧ h.IsTuple b us.toArray) (fun it n => draws_t it b n us.toArray) (fun it h e x => ⟨⟨_, e, rfl, rfl⟩, x⟩)
      (fun it h x c hm => by
        obtain ⟨⟨o1, e1, _⟩, o2, e2, _⟩ := x
        rcases List.mem_cons.mp hm with e | hm
        · rw [e]; exact ⟨o1, e1⟩
        · rw [List.mem_singleton.mp hm]; exact ⟨o2, e2⟩) (fun it h h' x k => ⟨x.1.at fun o g => k _ o g, x.2.at fun o g => k _ o g⟩) q _ fin
end
/-! del xs[i:] -/
theorem cut_eq {α : Type} (sel : Nat → Bool) (a : Nat) : ∀ (xs : List α) (k : Nat), (∀ j, k ≤ j → j < k + xs.length → sel j = decide (a ≤ j)) → ((xs.zipIdx k).filterMap fun (x, j) => if sel j = true then none else some x) = xs.take (a - k)
  | [], k, _ => by simp
  | x :: xs, k, h => by
    have ih := cut_eq sel a xs (k + 1) (fun j h1 h2 => h j (by omega) (by rw [List.length_cons]; omega))
    have hk := h k (Nat.le_refl _) (by rw [List.length_cons]; omega)
    rw [List.zipIdx_cons, List.filterMap_cons]
    by_cases c : a ≤ k
    · rw [decide_eq_true c] at hk
      simp only [hk, if_true]
      rw [ih, show a - k = 0 by omega, show a - (k + 1) = 0 by omega]
      rfl
    · rw [decide_eq_false c] at hk
      simp only [hk, Bool.false_eq_true, if_false]
      rw [ih, show a - k = (a - (k + 1)) + 1 by omega]
      rfl
theorem bounds_from {a n : Nat} (h : a ≤ n) : sliceBounds (some (a : Int)) none none n = ((a : Int), (n : Int), 1) := by
  have e1 : ¬ ((a : Int) < 0) := by omega
  have e2 : max (0 : Int) (min (a : Int) (n : Int)) = a := by omega
  simp only [sliceBounds, Option.getD_none, show (1 : Int) > 0 by decide, if_true, if_neg e1, e2]
section
variable {X : Cx} {o i : Expr} {to ti : TE} {tpos spos pos : Pos}
theorem delItem_from {prog : Program} {w : World} {A : Around} {E : Value → Shared → Prop} {s : Shared} {l sl : Addr} {items : List Value} {n : Nat} {a : Nat} {t : Tok} {Q : Unit → Shared → Prop} (e : s.heap.get? l = some { cls := .type "list", data := .seq items.toArray n }) (hz : items.length ≤ sizeLine)
    (gs : s.heap.IsSliceOf sl (.int a t) .none .none) (ha : a ≤ items.length) (h : ∀ f : Array Value → Array Value, f items.toArray = (items.take a).toArray → Q () { s with heap := s.heap.update l (Obj.mapSeq f) }) :
    wpAny (model prog w) A (delItem (.ref l) (.ref sl)) Q E s := by
  have gl : s.heap.IsList l items.toArray := PySem.IsL.isList e
  obtain ⟨os, gos, gcs, gds⟩ := id gs
  have ts : s.TypeIs (.ref sl) "slice" := ⟨os, gos, gcs⟩
  refine wpAny_delItem_slot gl.typeIs (by decide) F.slot_list_delitem (wpAny_call_entry F.slot_list_delitem gl.typeIs F.entry_list_delitem ?_ (F.args_list_delitem_2 _ _))
  show wpAny _ _ (Builtin.List.listSubscript? (.ref sl) >>= _) _ _ s
  refine wpAny_bind ?_
  unfold Builtin.List.listSubscript?
  refine wpAny_bind (wpAny_specialOf ts slice_no_index ?_)
  simp only [Option.isNone_none, if_true]
  refine wpAny_pure (show wpAny _ _ (typeOf (.ref sl) >>= _) _ _ s from wpAny_bind (wpAny_typeOf ts ?_))
  rw [if_neg (by decide), listSliceParts_eq]
  refine wpAny_bind (wpAny_bind (wpAny_field gos gds (x := .none) rfl (wpAny_bind (wpAny_listPart .none ?_))))
  rw [if_neg (show ¬ ((rawPart none == rawInt 0) = true) from Bool.false_ne_true)]
  refine wpAny_bind (wpAny_field gos gds (x := .int a t) rfl (wpAny_bind (wpAny_listPart (.int _ _) (wpAny_bind (wpAny_field gos gds (x := .none) rfl (wpAny_bind (wpAny_listPart .none (wpAny_pure ?_))))))))
  unfold Builtin.List.listItems
  refine wpAny_bind (wpAny_bind (wpAny_seqItems e rfl (wpAny_pure ?_)))
  refine wpAny_bind (wpAny_of_eq ((sliceIndices_raw (some (a : Int)) none none items.toArray.size (by simp)).trans (congrArg (pure : Int × Int × Int → Sem (Int × Int × Int)) (bounds_from (by rw [List.size_toArray]; exact ha)))) (wpAny_bind (wpAny_rule ?_)))
  have hf : ∀ xs : List Value, xs.length = items.length → ∀ sel : Nat → Bool, (∀ j, j < items.length → sel j = decide (a ≤ j)) → (xs.zipIdx.filterMap fun x => if sel x.2 = true then none else some x.1) = xs.take a := fun xs hl sel hs =>
    cut_eq sel a xs 0 fun j _ hj => hs j (by omega)
  have sel_ok : ∀ j : Nat, j < items.length → (decide ((a : Int) ≤ (j : Int)) && decide ((j : Int) < (items.length : Int)) && ((j : Int) - (a : Int)) % 1 == 0) = decide (a ≤ j) := fun j hj => by
    have e1 : ((j : Int) - (a : Int)) % 1 = 0 := by omega
    have e2 : decide ((j : Int) < (items.length : Int)) = true := decide_eq_true (by omega)
    rw [e1, e2]
    by_cases c : a ≤ j
    · rw [decide_eq_true c, decide_eq_true (show (a : Int) ≤ (j : Int) by omega)]; rfl
    · rw [decide_eq_false c, decide_eq_false (show ¬ (a : Int) ≤ (j : Int) by omega)]; rfl
  refine wpAny_bind (m := Builtin.List.listUpdate (.ref l) _) (show wpAny _ _ (updateSeq l _) _ _ s from wpAny_updateSeq (hz := by rw [List.size_toArray]; exact hz) (_hz' := ?_) e rfl (wpAny_bind (wpAny_letGo (wpAny_pure ⟨.none, rfl, h _ ?_⟩))))
  · refine congrArg List.toArray (hf items rfl _ ?_)
    intro j hj
    exact sel_ok j hj
  · refine Nat.le_trans (Nat.le_of_eq (congrArg (fun z : List Value => z.toArray.size) (hf items rfl _ ?_))) ?_
    · intro j hj
      exact sel_ok j hj
    · rw [List.size_toArray, List.length_take]
      omega
def tDelS (to ti : TE) : TS := fun D σ H => to σ H fun x H1 => ti σ H1 fun y H2 => ∃ (l : Addr) (xs : List V) (a : Nat), x = .ref l ∧ y = .int a ∧ H2 l = some (.lst xs) ∧ a ≤ xs.length ∧ D.nx σ (upd H2 l (.lst (xs.take a)))
theorem ps_delS (ho : PE X o to) (hi : PE X i ti) : PS X (.Delete [.Subscript o (.Slice (some i) none none spos) tpos] pos) (tDelS to ti) := by
  refine ⟨fun pins s σ H D I h => ?_⟩
  refine wpAny_Delete (wpAny_deleteEach_cons (wpAny_delete_Subscript (thn (ho.run pins s σ H _ I h) fun u s1 ⟨x, H1, I1, rx, q1⟩ => ?_)))
  refine wpAny_Slice ?_
  rw [evalPart_some]
  refine thn (hi.run pins s1 σ H1 _ I1 q1) fun vl s2 ⟨y, H2, I2, ry, l, xs, a, ex, ey, hl, ha, q2⟩ => ?_
  subst ex
  subst ey
  cases rx
  obtain ⟨t, rfl⟩ := ry
  rw [evalPart_none]
  refine wpAny_pure (wpAny_pure ?_)
  have I3 : Inv X pins σ H2 { s2 with heap := s2.heap.push { cls := .type "slice", data := .fields #[.int a t, .none, .none] } } := I2.kept (t' := s2.toks) fun b ob q => Heap.get?_push_of_some _ q
  obtain ⟨z, its, n, r, hn, e⟩ := I3.lstM hl
  refine delItem_from e (by omega) (Heap.IsSliceOf.new ..) (by omega) fun f hf => wpAny_deleteEach_nil ⟨σ, _, I3.lset (its' := its.take a) (t' := s2.toks) hl e hf (r.take a) ?_, q2⟩
  rw [List.length_take]
  omega
end
/-! o.f as a target among several -/
def gFld (K : PySem.W.Frag) (to : TE) (f : Str) : TG := fun v σ H Q => to σ H fun x H1 => ∃ a C dx fs, x = .ref a ∧ H1 a = some (.ins C dx fs) ∧ Cls K C ∧ NoAttr K C f ∧ fs.length < 1000 ∧ Q σ (upd H1 a (.ins C dx (putF f v fs)))
theorem pg_fld {X : Cx} {o : Expr} {to : TE} {f : Str} {pos : Pos} (ho : PE X o to) : PG X (.Attribute o f pos) (gFld X.K to f) := by
  refine ⟨fun pins s σ H v u Q I r h => ?_⟩
  rw [assign_Attribute]
  refine wpAny_bind (wpAny_holding (thn (ho.run pins s σ H _ I h) fun ov s1 ⟨x, H1, I1, rx, a, C, dx, fs, ex, ea, c, n, l, q⟩ => ?_))
  subst ex
  obtain rfl : ov = Value.ref a := rx
  refine wpAny_bind (wpAny_standAt (wpAny_bind (wpAny_holding (setattr_ok I1 ea c n l r fun s2 I2 => ?_))))
  exact wpAny_release ⟨σ, _, I2, q⟩
/-- a field, read within a comprehension: the written part by its name -/
theorem pe_fldK {X : Cx} {K : PySem.W.Frag} {e : Expr} {ta : TE} {f : Str} {pos : Pos} (hk : X.K = K) (he : PE X e ta) (hb : attributeBase e f X.env (eval e X.env) = eval e X.env) : PE X (.Attribute e f pos) (tFld K ta f) := by
  subst hk
  exact pe_fld he hb
theorem pi_or {X : Cx} {tg e : Expr} {u v : TI} (h1 : PI X tg e u) (h2 : PI X tg e v) : PI X tg e (fun σ H R => u σ H R ∨ v σ H R) :=
  ⟨fun pins s σ H R I h => h.elim (h1.run pins s σ H R I) (h2.run pins s σ H R I)⟩
end Q5

/-! a tuple taken no times -/
namespace Q6
open PySem PySem.Spec PyProof.Rows L2
theorem none_of (l : Addr) (items : Array Value) (n : Nat) (dd : Option Addr) (sl : Array (Option Value)) (u : Tok) (c1 : (items.isEmpty || (0 : Int) == 1) = false) :
    Meets (Builtin.«tuple.__mul__» ⟨[.ref l, .int 0 u], []⟩) (fun _ R s => s.heap.get? l = some { cls := .type "tuple", dict := dd, data := .seq items n, slots := sl } ∧
      R (.ok (.ret (Value.ref s.heap.objs.size))) { s with heap := s.heap.push { cls := Value.type "tuple", data := Data.seq #[] }, toks := s.toks }) :=
  .of_wp fun prog w A R s h => by
    obtain ⟨hp, g, d, tk, os⟩ := s
    obtain ⟨hl, h⟩ := h
    have f1 := AutoSeq1.idx_int
    have c2 : (decide ((0 : Int) ≤ 0) || items.isEmpty) = true := rfl
    wp_walk using wpAny_loadPart' hl
    repeat (first
      | (refine wpAny_ite_false (decide_eq_false (by rw [c1]; exact Bool.false_ne_true)) ?_; wp_walk using wpAny_loadPart' hl))
    exact ⟨_, rfl, h⟩
def rRepT0 (K : PySem.W.Frag) : R2 := fun x y H Q => ∃ l xs, x = .ref l ∧ y = .int 0 ∧ SqT K H l xs ∧ xs ≠ [] ∧ ∀ p, H p = none → Q (.ref p) (upd H p (.tup []))
theorem op_repT0 {X : Cx} : OpR X (binaryOp .Mult) (rRepT0 X.K) := by
  intro pins s σ H x y v u Q I rx ry h
  obtain ⟨l, xs, rfl, rfl, hT, hne, q⟩ := h
  cases rx
  obtain ⟨t, rfl⟩ := ry
  obtain ⟨its, r, ⟨⟨cls, dd, data, sl⟩, ho, hc, n, hd⟩, hs⟩ := I.tuple hT
  simp only at hc hd
  subst hc hd
  have hn : its ≠ [] := fun e => hne (by
    have := r.length
    rw [e] at this
    exact List.eq_nil_of_length_eq_zero this)
  have hi : (its.toArray.isEmpty || (0 : Int) == 1) = false := by
    cases its with
    | nil => exact absurd rfl hn
    | cons a b => rfl
  refine wpAny_binaryOp_repeat_ref (T := "tuple") (U := "int") (by decide) ⟨_, ho, rfl⟩ (fun s' => typeIs_int s' 0 t) noFill_tuple_mul F.fills_int_mul F.slot_int_rmul repeat_tuple F.slot_int_index.lookup
    (call_meets F.slot_int_rmul (typeIs_int s 0 t) F.entry_int_rmul (F.args_int_rmul_2 _ _) (int_rmul_tuple 0 t l its.toArray n dd sl)
      ⟨ho, rfl, ⟨_, ho, rfl⟩, call_meets F.slot_tuple_mul ⟨_, ho, rfl⟩ F.entry_tuple_mul (F.args_tuple_mul_2 _ _) (none_of l its.toArray n dd sl t hi) ⟨ho, ?_⟩⟩)
  refine ⟨.ref s.heap.objs.size, _, I.laid (t' := s.toks) (o := .tup []) (fun b ob q => Heap.get?_push_of_some _ q) (Nat.le_refl _) ?_, rfl, q _ (I.hok.fresh (Nat.le_refl _))⟩
  exact ⟨by rw [sizeLine_eq]; decide, [], .nil, IsTup.new _ _⟩
end Q6

/-! chosen rows run: a mirror as plain data -/
namespace M55
open PySem PySem.Spec PyProof.Rows L2
inductive Lc where
  | at_ (x : Int) | nm | sl (k : Nat)
  deriving DecidableEq
/-- what stands in a row, its place told apart -/
inductive Rk where
  | set (x n : Int) | inp (x : Int) | out (x : Int) | more (x : Int)
  | three (o : Nat) (x a b : Int) | imm (o : Nat) (x a n : Int)
  | name (x : Int) | slot (x : Int) (k : Nat)
  | load (x : Int) (l : Lc) (b : Int) | store (x : Int) (l : Lc) (b : Int)
  | must (o : Nat) (a b : Int) (kind : Str) | deep (x a n : Int) | call (x : Int) (f : Str) (args : List Int)
  | branch (o : Nat) (a b : Int) (g : Nat) (as : List Int) (g2 : Nat) (as2 : List Int)
  | ret (x : Int) | go (g : Nat) (as : List Int) | tail (f : Str) (as : List Int)
structure Rw where
  k : Rk
  (pa pb : Int)
def plD (r : Rw) : PyData := .tuple [.str "m", .int r.pa, .int r.pb]
/-- names of work: 0 sub, 1 slti, 2 addi, 3 add; of branches: 0 bge, 1 bltu -/
def opS (o : Nat) : Str := if o = 0 then "sub" else if o = 1 then "slti" else if o = 2 then "addi" else "add"
def brS (o : Nat) : Str := if o = 0 then "bge" else "bltu"
def intsD (xs : List Int) : PyData := .tuple (xs.map PyData.int)
def lcD : Lc → List PyData
  | .at_ x => [.str "at", .int x]
  | .nm => [.str "name", .str "g"]
  | .sl k => [.str "slot", .int (k : Int)]
def rkN : Rk → Str
  | .set _ _ => "set" | .inp _ => "in" | .out _ => "out" | .more _ => "more" | .three _ _ _ _ => "three" | .imm _ _ _ _ => "imm" | .name _ => "name" | .slot _ _ => "slot" | .load _ _ _ => "load" | .store _ _ _ => "store"
  | .must _ _ _ _ => "must" | .deep _ _ _ => "deep" | .call _ _ _ => "call" | .branch _ _ _ _ _ _ _ => "branch" | .ret _ => "return" | .go _ _ => "go" | .tail _ _ => "tail"
/-- what stands between the name and the place -/
def rkD : Rk → List PyData
  | .set x n => [.int x, .int n] | .inp x => [.int x] | .out x => [.int x] | .more x => [.int x]
  | .three o x a b => [.str (opS o), .int x, .int a, .int b] | .imm o x a n => [.str (opS o), .int x, .int a, .int n]
  | .name x => [.int x, .str "g"] | .slot x k => [.int x, .int (k : Int)]
  | .load x l b => .int x :: (lcD l ++ [.int b]) | .store x l b => .int x :: (lcD l ++ [.int b])
  | .must o a b kind => [.str (brS o), .int a, .int b, .str kind] | .deep x a n => [.int x, .int a, .int n] | .call x f args => [.int x, .str f, intsD args]
  | .branch o a b g as g2 as2 => [.str (brS o), .int a, .int b, .int (g : Int), intsD as, .int (g2 : Int), intsD as2]
  | .ret x => [.int x] | .go g as => [.int (g : Int), intsD as] | .tail f as => [.str f, intsD as]
/-- branch, return and go have no place -/
def bare : Rk → Bool
  | .branch _ _ _ _ _ _ _ => true | .ret _ => true | .go _ _ => true | _ => false
def rwD (r : Rw) : PyData := .tuple (.str (rkN r.k) :: (rkD r.k ++ if bare r.k = true then [] else [plD r]))
structure Bl where
  ps : List Int
  rows : List Rw
  en : Rw
def blD (b : Bl) : PyData := .tuple [intsD b.ps, .tuple (b.rows.map rwD), rwD b.en]
structure Fn where
  nm : Str
  sl : List Int
  bs : List Bl
def fnD (f : Fn) : PyData := .tuple [.str f.nm, intsD f.sl, .tuple (f.bs.map blD)]
structure Fm where
  bs : List Bl
  rows : List Rw
  er : Rw
  at_ : Nat
  w : List (Key × V)
  first : Nat
  sl : List V
structure Mm where
  inp : List V
  lim : Int
  tk : Nat
  out : List V
  en : Option PyData
  st : Nat
  fns : List Fn
  cur : Fm
  wt : List Fm
  th : List V
  sl : List V
def sg (w : Int) : Int := if 2147483648 ≤ w then w - 4294967296 else w
def made (o : Nat) (a b : Int) : Int := if o = 0 then (a - b) % 4294967296 else if o = 1 then (if sg a < sg b then 1 else 0) else (a + b) % 4294967296
def takn (o : Nat) (a b : Int) : Bool := if o = 0 then !decide (sg a < sg b) else decide (a < b)
def inl (x : Int) : Key := Sum.inl x
def wI (w : List (Key × V)) (x : Int) : Option Int := match valV w (inl x) with
  | some (.int n) => some n
  | _ => none
def wV (w : List (Key × V)) (x : Int) : Option V := valV w (inl x)
def Mm.setW (m : Mm) (x : Int) (v : V) : Mm := { m with cur := { m.cur with w := putK m.cur.w (inl x) v } }
def trapD (kind : Str) (r : Rw) : PyData := .tuple [.str "trap", .str kind, plD r]
def vals (w : List (Key × V)) : List Int → Option (List V)
  | [] => some []
  | x :: xs => match wV w x, vals w xs with
    | some v, some vs => some (v :: vs)
    | _, _ => none
/-- the block's beginning -/
def begB (f : Fm) (g : Nat) (as : List V) : Option Fm := match f.bs[g]? with
  | some b => if 1000 < f.w.length + as.length then none else some { f with rows := b.rows, er := b.en, at_ := 0, w := mergeK f.w (mergeK [] ((b.ps.map inl).zip as)) }
  | none => none
def slotsFrom : List Int → List V → List V × List V
  | [], sl => ([], sl)
  | n :: ns, sl => let r := slotsFrom ns (sl ++ (List.replicate n.toNat (V.int 0) ++ [V.non])); (V.int (1073741824 + 4 * (sl.length : Int)) :: r.1, r.2)
def findF (fs : List Fn) (x : Str) : Option Fn := fs.find? fun f => decide (f.nm = x)
/-- a function's beginning -/
def okSl (f : Fn) : Bool := decide (f.sl.length ≤ 100) && f.sl.all fun n => decide (0 ≤ n) && decide (n ≤ 100)
def begF (m : Mm) (x : Str) (as : List V) : Option Mm := match findF m.fns x with
  | none => none
  | some f => if (okSl f && decide (m.sl.length ≤ 1000)) = false then none else match begB ⟨f.bs, [], ⟨.ret 0, 0, 0⟩, 0, [(inl (-1), V.int 0)], m.sl.length, (slotsFrom f.sl m.sl).1⟩ 0 as with
    | none => none
    | some fr => some { m with cur := fr, sl := (slotsFrom f.sl m.sl).2 }
/-- a place of words: of the slots or not, its number -/
def spotA (m : Mm) (l : Lc) (b : Int) : Option Int := match l with
  | .at_ x => (wI m.cur.w x).map fun s => (s + b) % 4294967296
  | .nm => some ((4096 + b) % 4294967296)
  | .sl k => match m.cur.sl[k]? with
    | some (.int s) => some ((s + b) % 4294967296)
    | _ => none
def cellsOf (m : Mm) (a : Int) : List V × Int := if 1073741824 ≤ a then (m.sl, a - 1073741824) else (m.th, a - 4096)
/-- is there a word at this place -/
def there (ws : List V) (at_ : Int) : Bool := decide (at_ % 4 = 0) && (decide (0 ≤ at_) && (decide (at_ < 4 * (ws.length : Int)) && !decide (ws.getD (at_ / 4).toNat V.non = V.non)))
def putWord (m : Mm) (a : Int) (v : V) : Mm := if 1073741824 ≤ a then { m with sl := m.sl.set ((a - 1073741824) / 4).toNat v } else { m with th := m.th.set ((a - 4096) / 4).toNat v }
def giveBack (m : Mm) (v : V) : Option Mm := match m.wt.getLast? with
  | none => match v with
    | .int n => some { m with en := some (.tuple [.str "answer", .int n]) }
    | _ => none
  | some f => if 1000 < f.w.length ∨ f.at_ = 0 then none else match f.rows[f.at_ - 1]? with
    | some ⟨.call x _ _, _, _⟩ => some { m with cur := { f with w := putK f.w (inl x) v }, wt := m.wt.dropLast }
    | _ => none
def small (m : Mm) : Bool := decide (m.cur.w.length ≤ 1000) && (decide (m.out.length ≤ 1000) && (decide (m.wt.length ≤ 1000) && (decide (m.tk ≤ m.inp.length) && decide (m.cur.first ≤ m.sl.length))))
def deed' (m : Mm) (r : Rw) : Option Mm := match r.k with
  | .set x n => some (m.setW x (.int n))
  | .name x => some (m.setW x (.int 4096))
  | .slot x k => match m.cur.sl[k]? with
    | some v => some (m.setW x v)
    | none => none
  | .three o x a b => match wI m.cur.w a, wI m.cur.w b with
    | some p, some q => some (m.setW x (.int (made o p q)))
    | _, _ => none
  | .imm o x a n => match wI m.cur.w a with
    | some p => some (m.setW x (.int (made o p (n % 4294967296))))
    | none => none
  | .load x l b => match spotA m l b with
    | none => none
    | some a => if there (cellsOf m a).1 (cellsOf m a).2 = true then some (m.setW x ((cellsOf m a).1.getD ((cellsOf m a).2 / 4).toNat .non)) else some { m with en := some (.tuple [.str "astray", plD r]) }
  | .store x l b => match spotA m l b, wV m.cur.w x with
    | some a, some v => if there (cellsOf m a).1 (cellsOf m a).2 = true then some (putWord m a v) else some { m with en := some (.tuple [.str "astray", plD r]) }
    | _, _ => none
  | .must o a b kind => match wI m.cur.w a, wI m.cur.w b with
    | some p, some q => if takn o p q = true then some m else some { m with en := some (trapD kind r) }
    | _, _ => none
  | .deep x a n => match wI m.cur.w a with
    | some p => let d := (p + n) % 4294967296
      if m.lim < d then some { m.setW x (.int d) with en := some (trapD "stack" r) } else some (m.setW x (.int d))
    | none => none
  | .call x f args => match vals m.cur.w args with
    | some vs => begF { m with wt := m.wt ++ [m.cur] } f vs
    | none => none
  | .out x => match wI m.cur.w x with
    | some n => some { m with out := m.out ++ [.int n] }
    | none => none
  | .inp x => match m.inp[m.tk]? with
    | some v => some { m.setW x v with tk := m.tk + 1 }
    | none => some { m.setW x .non with en := some (trapD "input" r) }
  | .more x => some (m.setW x (.int (if m.tk < m.inp.length then 1 else 0)))
  | .go g as => match vals m.cur.w as with
    | some vs => (begB m.cur g vs).map fun f => { m with cur := f }
    | none => none
  | .branch o a b g as g2 as2 => match wI m.cur.w a, wI m.cur.w b with
    | some p, some q => match vals m.cur.w (if takn o p q = true then as else as2) with
      | some vs => (begB m.cur (if takn o p q = true then g else g2) vs).map fun f => { m with cur := f }
      | none => none
    | _, _ => none
  | .ret x => match wV m.cur.w x with
    | some v => giveBack { m with sl := m.sl.take m.cur.first } v
    | none => none
  | .tail f as => match vals m.cur.w as with
    | some vs => begF { m with sl := m.sl.take m.cur.first } f vs
    | none => none
def deed (m : Mm) (r : Rw) : Option Mm := if small m = true then deed' m r else none
/-- the row that is next -/
def nextR (f : Fm) : Rw := f.rows.getD f.at_ f.er
def stepM (m : Mm) : Option Mm := deed { m with st := m.st + 1, cur := { m.cur with at_ := m.cur.at_ + 1 } } (nextR m.cur)
def runM (most : Nat) : Nat → Mm → Option Mm
  | 0, _ => none
  | n + 1, m => match m.en with
    | some _ => some m
    | none => if most ≤ m.st then some { m with en := some (.tuple [.str "on"]) } else match stepM m with
      | some m' => runM most n m'
      | none => none
def f0 : Fm := ⟨[], [], ⟨.ret 0, 0, 0⟩, 0, [], 0, []⟩
def mm0 (fns : List Fn) (inp : List V) (lim : Int) : Mm := ⟨inp, lim, 0, [], none, 0, fns, f0, [], [.int 1, .int 11, .int 0, .non], []⟩
def runL (fns : List Fn) (inp : List V) (lim : Int) (most : Nat) : Option Mm := match begF (mm0 fns inp lim) "main" [.int 1] with
  | some m => runM most 60 m
  | none => none
end M55

namespace M55
open PySem PySem.Spec PyProof.Rows L2
def p3 (k : Rk) : Rw := ⟨k, 3, 1⟩
def p4 (k : Rk) : Rw := ⟨k, 4, 4⟩
def rows0 (a : Int) : List Rw := [p3 (.set 1 a), p3 (.inp 2), p3 (.three 0 3 1 2), p3 (.imm 1 4 3 5), p3 (.out 3), p3 (.out 4),
  p3 (.name 5), p3 (.slot 6 1), p3 (.store 3 (.at_ 5) 8), p3 (.load 7 .nm 8), p3 (.store 7 (.sl 1) 4),
  p3 (.imm 2 8 6 4), p3 (.load 9 (.at_ 8) 0), p3 (.out 9), p3 (.load 10 .nm 4), p3 (.out 10), p3 (.more 11),
  ⟨.deep 12 0 3, 7, 7⟩, p3 (.call 13 "f" [12, 3, -1]), p3 (.out 13), p3 (.out 11)]
def rows2 : List Rw := [⟨.must 1 14 2 "told", 8, 8⟩, ⟨.load 15 (.at_ 16) 1, 9, 9⟩]
def bls (a : Int) : List Bl := [⟨[0], rows0 a, p3 (.branch 0 3 (-1) 2 [3, 6] 1 [2])⟩, ⟨[17], [p3 (.out 17)], p3 (.ret 17)⟩, ⟨[14, 16], rows2, p3 (.ret 15)⟩]
def fMain (a : Int) : Fn := ⟨"main", [1, 2], bls a⟩
def fH : Fn := ⟨"h", [], [⟨[0, 1, 2], [p4 (.three 3 3 1 2), p4 (.three 3 4 0 3)], p4 (.ret 4)⟩]⟩
def fF : Fn := ⟨"f", [], [⟨[0, 1, 2], [], p4 (.go 1 [1, 0])⟩, ⟨[3, 4], [p4 (.three 3 5 3 3)], p4 (.tail "h" [4, 5, 2])⟩]⟩
def fns (a : Int) : List Fn := [fMain a, fF, fH]
def words : List Int := [0, 1, 2, 9, 2147483647, 2147483648, 4294967295, 77777]
def lowA (a b : Int) : Int := (a - b) % 4294967296
def outs0 (a b : Int) : List Int := [lowA a b, if sg (lowA a b) < 5 then 1 else 0, lowA a b, 11]
def outs1 (a b : Int) : List Int := outs0 a b ++ [(2 * lowA a b + 4) % 4294967296, 0]
def m77 (k : Str) (q : Int) : PyData := .tuple [.str "trap", .str k, .tuple [.str "m", .int q, .int q]]
/-- what is due: outputs, the ending -/
def due (a b lim : Int) : List Int × PyData := if lim < 4 then (outs0 a b, m77 "stack" 7) else if sg (lowA a b) < 0 then (outs1 a b ++ [b], .tuple [.str "answer", .int b])
  else (outs1 a b, if lowA a b < b then .tuple [.str "astray", .tuple [.str "m", .int 9, .int 9]] else m77 "told" 8)
def isO : Option PyData → PyData → Bool
  | some d, e => PyData.eqv d e
  | none, _ => false
def okR (r : Option Mm) (o : List Int) (e : PyData) (st : Option Nat) : Bool := match r with
  | some m => decide (m.out = o.map V.int) && (isO m.en e && match st with | some n => decide (m.st = n) | none => true)
  | none => false
def hd (r : Option Mm) (x : Int) : Bool := match r with
  | some m => decide (m.out.head? = some (V.int x)) && m.en.isSome
  | none => false
def chk (a b lim : Int) : Bool := okR (runL (fns a) [.int b] lim 1000) (due a b lim).1 (due a b lim).2 none &&
  (okR (runL (fns a) [] lim 1000) [] (.tuple [.str "trap", .str "input", .tuple [.str "m", .int 3, .int 1]]) none &&
  (hd (runL (fns a) [.int b, .int 5, .int 6] lim 1000) (lowA a b) && okR (runL (fns a) [.int b] lim 3) [] (.tuple [.str "on"]) (some 3)))
end M55

namespace M55
open PySem PySem.Spec PyProof.Rows L2
def lowD (d : PyData) : Bool := d.canLay0 && decide (d.depth ≤ 9)
def isP : Option PyData → PyData → Bool
  | some d, e => PyData.eqv d e && (lowD d && lowD e)
  | none, _ => false
def okP (r : Option Mm) (o : List Int) (e : PyData) (st : Option Nat) : Bool := match r with
  | some m => decide (m.out = o.map V.int) && (isP m.en e && match st with | some n => decide (m.st = n) | none => true)
  | none => false
def chP (a b lim : Int) : Bool := okP (runL (fns a) [.int b] lim 1000) (due a b lim).1 (due a b lim).2 none &&
  (okP (runL (fns a) [] lim 1000) [] (.tuple [.str "trap", .str "input", .tuple [.str "m", .int 3, .int 1]]) none &&
  (hd (runL (fns a) [.int b, .int 5, .int 6] lim 1000) (lowA a b) && okP (runL (fns a) [.int b] lim 3) [] (.tuple [.str "on"]) (some 3)))
theorem all_P : (words.all fun a => words.all fun b => [2, 3, 4, 5, 6].all fun l => chP a b l) = true := by decide +kernel
/-- how a run ends -/
def Ran (r : Option Mm) (o : List Int) (e : PyData) : Prop := ∃ m d, r = some m ∧ m.out = o.map V.int ∧ m.en = some d ∧ PyData.eqv d e = true ∧ lowD d = true ∧ lowD e = true
theorem ran_of {r : Option Mm} {o : List Int} {e : PyData} {st : Option Nat} (h : okP r o e st = true) : Ran r o e ∧ ∀ m n, r = some m → st = some n → m.st = n := by
  cases r with
  | none => cases h
  | some m =>
    unfold okP at h
    obtain ⟨h1, h2⟩ := Bool.and_eq_true_iff.mp h
    obtain ⟨h2, h3⟩ := Bool.and_eq_true_iff.mp h2
    refine ⟨?_, ?_⟩
    · cases en : m.en with
      | none => rw [en] at h2; cases h2
      | some d =>
        rw [en] at h2
        obtain ⟨h4, h5⟩ := Bool.and_eq_true_iff.mp h2
        obtain ⟨h5, h6⟩ := Bool.and_eq_true_iff.mp h5
        exact ⟨m, d, rfl, of_decide_eq_true h1, en, h4, h5, h6⟩
    · intro m' n e1 e2
      injection e1 with e1
      subst e1 e2
      exact of_decide_eq_true h3
theorem ran_all {a b lim : Int} (ha : a ∈ words) (hb : b ∈ words) (hl : lim ∈ ([2, 3, 4, 5, 6] : List Int)) :
    Ran (runL (fns a) [.int b] lim 1000) (due a b lim).1 (due a b lim).2 ∧ Ran (runL (fns a) [] lim 1000) [] (.tuple [.str "trap", .str "input", .tuple [.str "m", .int 3, .int 1]]) ∧
    (∃ m os d, runL (fns a) [.int b, .int 5, .int 6] lim 1000 = some m ∧ m.out = .int (lowA a b) :: os ∧ m.en = some d) ∧
    Ran (runL (fns a) [.int b] lim 3) [] (.tuple [.str "on"]) ∧ ∀ m, runL (fns a) [.int b] lim 3 = some m → m.st = 3 := by
  have h := all_P
  have h1 := List.all_eq_true.mp (List.all_eq_true.mp (List.all_eq_true.mp h a ha) b hb) lim hl
  unfold chP at h1
  obtain ⟨c1, h1⟩ := Bool.and_eq_true_iff.mp h1
  obtain ⟨c2, h1⟩ := Bool.and_eq_true_iff.mp h1
  obtain ⟨c3, c4⟩ := Bool.and_eq_true_iff.mp h1
  refine ⟨(ran_of c1).1, (ran_of c2).1, ?_, (ran_of c4).1, fun m e => (ran_of c4).2 m 3 e rfl⟩
  generalize runL (fns a) [.int b, .int 5, .int 6] lim 1000 = r at c3
  cases r with
  | none => cases c3
  | some m =>
    obtain ⟨z1, z2⟩ := Bool.and_eq_true_iff.mp c3
    replace z1 := of_decide_eq_true z1
    obtain ⟨d, z2⟩ := Option.isSome_iff_exists.mp z2
    cases eo : m.out with
    | nil => rw [eo] at z1; cases z1
    | cons x os =>
      rw [eo] at z1
      injection z1 with z1
      subst z1
      exact ⟨m, os, d, rfl, eo, z2⟩
end M55

namespace M55
open PySem PySem.Spec PyProof.Rows L2
theorem lays_ints : ∀ ns : List Int, PyData.canLayAll0 (ns.map .int) = true
  | [] => rfl
  | n :: ns => by
    rw [List.map_cons, PyData.canLayAll0, lays_ints ns]; rfl
theorem eqv_outs (ns : List Int) {d e : PyData} (h : PyData.eqv d e = true) : PyData.eqv (.tuple [.tuple (ns.map .int), d]) (.tuple [.tuple (ns.map .int), e]) = true := by
  have h1 : PyData.eqv (.tuple (ns.map .int)) (.tuple (ns.map .int)) = true := PySem.SeqAt.eqv_refl _ (lays_ints ns)
  show (PyData.eqv (.tuple (ns.map .int)) (.tuple (ns.map .int)) && (PyData.eqv d e && true)) = true
  rw [h1, h]; rfl
theorem depth_ints : ∀ ns : List Int, PyData.depthAll (ns.map .int) ≤ 1
  | [] => by decide
  | n :: ns => by
    have := depth_ints ns
    rw [List.map_cons, PyData.depthAll, PyData.depth]
    omega
theorem shaped_two (ns : List Int) {d : PyData} (h : lowD d = true) : SeqAt.shaped (.tuple [.tuple (ns.map .int), d]) = true := by
  obtain ⟨h1, h2⟩ := Bool.and_eq_true_iff.mp h
  replace h2 := of_decide_eq_true h2
  have z1 := depth_ints ns
  refine Bool.and_eq_true_iff.mpr ⟨?_, decide_eq_true ?_⟩
  · show (PyData.canLayAll0 (ns.map .int) && (PyData.canLay0 d && true)) = true
    rw [lays_ints, h1]; rfl
  · show max (PyData.depthAll (ns.map .int) + 1) (max d.depth 0) + 1 ≤ 64
    omega
theorem shaped_three {d : PyData} (h : lowD d = true) : SeqAt.shaped (.tuple [.tuple [], d, .int 3]) = true := by
  obtain ⟨h1, h2⟩ := Bool.and_eq_true_iff.mp h
  replace h2 := of_decide_eq_true h2
  refine Bool.and_eq_true_iff.mpr ⟨?_, decide_eq_true ?_⟩
  · show (true && (PyData.canLay0 d && (true && true))) = true
    rw [h1]; rfl
  · show max (0 + 1) (max d.depth (max 0 0)) + 1 ≤ 64
    omega
theorem eqv_three {d e : PyData} (h : PyData.eqv d e = true) : PyData.eqv (.tuple [.tuple [], d, .int 3]) (.tuple [.tuple [], e, .int 3]) = true := by
  show (true && (PyData.eqv d e && (true && true))) = true
  rw [h]; rfl
theorem shaped_ints (ns : List Int) : SeqAt.shaped (.tuple (ns.map .int)) = true := by
  have z1 := depth_ints ns
  refine Bool.and_eq_true_iff.mpr ⟨lays_ints ns, decide_eq_true ?_⟩
  show PyData.depthAll (ns.map .int) + 1 ≤ 64
  omega
theorem eqv_ints (ns : List Int) : PyData.eqv (.tuple (ns.map .int)) (.tuple (ns.map .int)) = true := PySem.SeqAt.eqv_refl _ (lays_ints ns)
theorem head_due (a b lim : Int) : ∃ os, (due a b lim).1 = lowA a b :: os := by
  unfold due
  by_cases c : lim < 4
  · rw [if_pos c]; exact ⟨_, rfl⟩
  · rw [if_neg c]
    by_cases c2 : sg (lowA a b) < 0
    · rw [if_pos c2]; exact ⟨_, rfl⟩
    · rw [if_neg c2]; exact ⟨_, rfl⟩
end M55

namespace K55
open PySem PyProof.Rows L2 My Ru M55
def top (i : Nat) : Stmt := PySem.Challenge.pw_trueimage_k55_known_low_runs.main.body.getD i (.Pass ⟨0, 0, 0, 0⟩)
abbrev s_word_of : Stmt := top 3
abbrev s_signed : Stmt := top 4
abbrev s__add : Stmt := top 5
abbrev s__sub : Stmt := top 6
abbrev s__lts : Stmt := top 14
abbrev s_apply : Stmt := top 22
abbrev s_made_of : Stmt := top 25
abbrev s_is_branch_taken : Stmt := top 30
abbrev s_low_gives : Stmt := top 35
abbrev s__real : Stmt := top 36
abbrev s_low_uses : Stmt := top 37
abbrev s_low_hands : Stmt := top 38
abbrev s_low_end_uses : Stmt := top 39
abbrev s_Going___init__ : Stmt := inClass (top 41) 0
abbrev s_Going_trap : Stmt := inClass (top 41) 1
abbrev s_Going_take : Stmt := inClass (top 41) 2
abbrev s_Going_more : Stmt := inClass (top 41) 3
abbrev s_RowFrame___init__ : Stmt := inClass (top 43) 0
abbrev s_RowFrame_begin_block : Stmt := inClass (top 43) 1
abbrev s_RowFrame_all_worths : Stmt := inClass (top 43) 2
abbrev s_RowFrame_go : Stmt := inClass (top 43) 3
abbrev s_RowFrame_next_row : Stmt := inClass (top 43) 4
abbrev s_RowFrame_last_row : Stmt := inClass (top 43) 5
abbrev s_RowRun___init__ : Stmt := inClass (top 44) 0
abbrev s_RowRun_give_back : Stmt := inClass (top 44) 1
abbrev s_run_to_end : Stmt := top 45
abbrev s_do_out : Stmt := top 46
abbrev s_do_in : Stmt := top 47
abbrev s_do_more : Stmt := top 48
abbrev s_do_go : Stmt := top 49
abbrev s_run_low : Stmt := top 55
abbrev s_LowFrame___init__ : Stmt := inClass (top 56) 0
abbrev s_LowRun___init__ : Stmt := inClass (top 57) 0
abbrev s_LowRun_begin : Stmt := inClass (top 57) 1
abbrev s_LowRun_end_frame : Stmt := inClass (top 57) 2
abbrev s_LowRun_step : Stmt := inClass (top 57) 3
abbrev s_LowRun_spot : Stmt := inClass (top 57) 4
abbrev s__set : Stmt := top 58
abbrev s__name : Stmt := top 59
abbrev s__slot : Stmt := top 60
abbrev s__three : Stmt := top 61
abbrev s__imm : Stmt := top 62
abbrev s__load : Stmt := top 63
abbrev s__store : Stmt := top 64
abbrev s__must : Stmt := top 65
abbrev s__deep : Stmt := top 66
abbrev s__call : Stmt := top 67
abbrev s__branch : Stmt := top 68
abbrev s__return : Stmt := top 69
abbrev s__tail : Stmt := top 70
abbrev s__law_cell_at : Stmt := top 73
abbrev s__law_draw : Stmt := top 74
abbrev s__law_number : Stmt := top 75
abbrev s__law_next : Stmt := top 76
abbrev s__law_pick : Stmt := top 77
abbrev s__law_main : Stmt := top 78
abbrev s_law : Stmt := top 79
def ddN : Rk → Str
  | .set _ _ => "_set"
  | .inp _ => "do_in"
  | .out _ => "do_out"
  | .more _ => "do_more"
  | .three _ _ _ _ => "_three"
  | .imm _ _ _ _ => "_imm"
  | .name _ => "_name"
  | .slot _ _ => "_slot"
  | .load _ _ _ => "_load"
  | .store _ _ _ => "_store"
  | .must _ _ _ _ => "_must"
  | .deep _ _ _ => "_deep"
  | .call _ _ _ => "_call"
  | .branch _ _ _ _ _ _ _ => "_branch"
  | .ret _ => "_return"
  | .go _ _ => "do_go"
  | .tail _ _ => "_tail"
def frF : List Str := ["blocks", "worths", "rows", "end_row", "at", "first", "slots"]
def goF : List Str := ["inputs", "limit", "taken", "outputs", "ending", "steps", "functions", "frame", "waiting", "addresses", "things", "slots"]
structure Txt (K : PySem.W.Frag) (mg : Str → Option Value) (w : World) : Prop where
  c_GREATEST : ∃ t, mg "GREATEST" = some (.int (4294967295) t)
  c_HALF : ∃ t, mg "HALF" = some (.int (2147483648) t)
  d_word_of : Df K mg "word_of" s_word_of
  d_signed : Df K mg "signed" s_signed
  d__add : Df K mg "_add" s__add
  d__sub : Df K mg "_sub" s__sub
  d__lts : Df K mg "_lts" s__lts
  c_KINDS_OF_WORK : mg "KINDS_OF_WORK" = some (.ref (He.ga K "KINDS_OF_WORK"))
  k_KINDS_OF_WORK : ∃ es n, KDict K w (He.ga K "KINDS_OF_WORK") es n
  d_apply : Df K mg "apply" s_apply
  c_KINDS : mg "KINDS" = some (.ref (He.ga K "KINDS"))
  k_KINDS : ∃ es n, KDict K w (He.ga K "KINDS") es n
  d_made_of : Df K mg "made_of" s_made_of
  d_is_branch_taken : Df K mg "is_branch_taken" s_is_branch_taken
  c_NOUGHT : ∃ t, mg "NOUGHT" = some (.int (-1) t)
  c_GIVEN : mg "GIVEN" = some (.ref (He.ga K "GIVEN"))
  k_GIVEN : ∃ es n, KDict K w (He.ga K "GIVEN") es n
  c_USED : mg "USED" = some (.ref (He.ga K "USED"))
  k_USED : ∃ es n, KDict K w (He.ga K "USED") es n
  d_low_gives : Df K mg "low_gives" s_low_gives
  d__real : Df K mg "_real" s__real
  d_low_uses : Df K mg "low_uses" s_low_uses
  d_low_hands : Df K mg "low_hands" s_low_hands
  d_low_end_uses : Df K mg "low_end_uses" s_low_end_uses
  d_Going___init__ : Dm K (He.ga K "Going") "__init__" "Going.__init__" s_Going___init__
  d_Going_trap : Dm K (He.ga K "Going") "trap" "Going.trap" s_Going_trap
  d_Going_take : Dm K (He.ga K "Going") "take" "Going.take" s_Going_take
  d_Going_more : Dm K (He.ga K "Going") "more" "Going.more" s_Going_more
  d_RowFrame___init__ : Dm K (He.ga K "RowFrame") "__init__" "RowFrame.__init__" s_RowFrame___init__
  d_RowFrame_begin_block : Dm K (He.ga K "RowFrame") "begin_block" "RowFrame.begin_block" s_RowFrame_begin_block
  d_RowFrame_all_worths : Dm K (He.ga K "RowFrame") "all_worths" "RowFrame.all_worths" s_RowFrame_all_worths
  d_RowFrame_go : Dm K (He.ga K "RowFrame") "go" "RowFrame.go" s_RowFrame_go
  d_RowFrame_next_row : Dm K (He.ga K "RowFrame") "next_row" "RowFrame.next_row" s_RowFrame_next_row
  d_RowFrame_last_row : Dm K (He.ga K "RowFrame") "last_row" "RowFrame.last_row" s_RowFrame_last_row
  d_RowRun___init__ : Dm K (He.ga K "RowRun") "__init__" "RowRun.__init__" s_RowRun___init__
  d_RowRun_give_back : Dm K (He.ga K "RowRun") "give_back" "RowRun.give_back" s_RowRun_give_back
  d_run_to_end : Df K mg "run_to_end" s_run_to_end
  d_do_out : Df K mg "do_out" s_do_out
  d_do_in : Df K mg "do_in" s_do_in
  d_do_more : Df K mg "do_more" s_do_more
  d_do_go : Df K mg "do_go" s_do_go
  c_BYTES : ∃ t, mg "BYTES" = some (.int (4) t)
  c_GLOBALS_START : ∃ t, mg "GLOBALS_START" = some (.int (4096) t)
  c_SLOTS_START : ∃ t, mg "SLOTS_START" = some (.int (1073741824) t)
  d_run_low : Df K mg "run_low" s_run_low
  d_LowFrame___init__ : Dm K (He.ga K "LowFrame") "__init__" "LowFrame.__init__" s_LowFrame___init__
  d_LowRun___init__ : Dm K (He.ga K "LowRun") "__init__" "LowRun.__init__" s_LowRun___init__
  d_LowRun_begin : Dm K (He.ga K "LowRun") "begin" "LowRun.begin" s_LowRun_begin
  d_LowRun_end_frame : Dm K (He.ga K "LowRun") "end_frame" "LowRun.end_frame" s_LowRun_end_frame
  d_LowRun_step : Dm K (He.ga K "LowRun") "step" "LowRun.step" s_LowRun_step
  d_LowRun_spot : Dm K (He.ga K "LowRun") "spot" "LowRun.spot" s_LowRun_spot
  d__set : Df K mg "_set" s__set
  d__name : Df K mg "_name" s__name
  d__slot : Df K mg "_slot" s__slot
  d__three : Df K mg "_three" s__three
  d__imm : Df K mg "_imm" s__imm
  d__load : Df K mg "_load" s__load
  d__store : Df K mg "_store" s__store
  d__must : Df K mg "_must" s__must
  d__deep : Df K mg "_deep" s__deep
  d__call : Df K mg "_call" s__call
  d__branch : Df K mg "_branch" s__branch
  d__return : Df K mg "_return" s__return
  d__tail : Df K mg "_tail" s__tail
  c_DEEDS : mg "DEEDS" = some (.ref (He.ga K "DEEDS"))
  k_DEEDS : ∃ es n, KDict K w (He.ga K "DEEDS") es n
  d__law_cell_at : Df K mg "_law_cell_at" s__law_cell_at
  d__law_draw : Df K mg "_law_draw" s__law_draw
  d__law_number : Df K mg "_law_number" s__law_number
  d__law_next : Df K mg "_law_next" s__law_next
  d__law_pick : Df K mg "_law_pick" s__law_pick
  d__law_main : Df K mg "_law_main" s__law_main
  d_law : Df K mg "law" s_law
  cl_Going : Cl K mg "Going" (He.ga K "Going")
  cl_RowFrame : Cl K mg "RowFrame" (He.ga K "RowFrame")
  cl_RowRun : Cl K mg "RowRun" (He.ga K "RowRun")
  cl_LowFrame : Cl K mg "LowFrame" (He.ga K "LowFrame")
  cl_LowRun : Cl K mg "LowRun" (He.ga K "LowRun")
  mk_LowFrame : PySem.W.makesIn K (He.ga K "LowFrame") = true ∧ PySem.W.keepIn K (.ref (He.ga K "LowFrame")) = true
  mk_LowRun : PySem.W.makesIn K (He.ga K "LowRun") = true ∧ PySem.W.keepIn K (.ref (He.ga K "LowRun")) = true
  na_LowFrame : ∀ f ∈ frF, NoAttr K (He.ga K "LowFrame") f
  na_LowRun : ∀ f ∈ goF, NoAttr K (He.ga K "LowRun") f
  hi_LowRun_trap : PySem.W.findIn K (.ref (He.ga K "LowRun")) "trap" = PySem.W.findIn K (.ref (He.ga K "Going")) "trap"
  hi_LowRun_take : PySem.W.findIn K (.ref (He.ga K "LowRun")) "take" = PySem.W.findIn K (.ref (He.ga K "Going")) "take"
  hi_LowRun_more : PySem.W.findIn K (.ref (He.ga K "LowRun")) "more" = PySem.W.findIn K (.ref (He.ga K "Going")) "more"
  hi_LowRun_give_back : PySem.W.findIn K (.ref (He.ga K "LowRun")) "give_back" = PySem.W.findIn K (.ref (He.ga K "RowRun")) "give_back"
  hi_LowFrame_begin_block : PySem.W.findIn K (.ref (He.ga K "LowFrame")) "begin_block" = PySem.W.findIn K (.ref (He.ga K "RowFrame")) "begin_block"
  hi_LowFrame_all_worths : PySem.W.findIn K (.ref (He.ga K "LowFrame")) "all_worths" = PySem.W.findIn K (.ref (He.ga K "RowFrame")) "all_worths"
  hi_LowFrame_go : PySem.W.findIn K (.ref (He.ga K "LowFrame")) "go" = PySem.W.findIn K (.ref (He.ga K "RowFrame")) "go"
  hi_LowFrame_next_row : PySem.W.findIn K (.ref (He.ga K "LowFrame")) "next_row" = PySem.W.findIn K (.ref (He.ga K "RowFrame")) "next_row"
  hi_LowFrame_last_row : PySem.W.findIn K (.ref (He.ga K "LowFrame")) "last_row" = PySem.W.findIn K (.ref (He.ga K "RowFrame")) "last_row"
  cf_Going : Mh.Cf K (He.ga K "Going") "__init__"
  cf_RowRun : Mh.Cf K (He.ga K "RowRun") "__init__"
  cf_RowFrame : Mh.Cf K (He.ga K "RowFrame") "__init__"
  n_len : mg "len" = none
  n_tuple : mg "tuple" = none
  n_int : mg "int" = none
  n_range : mg "range" = none
  n_zip : mg "zip" = none
  n_list : mg "list" = none
  n_dict : mg "dict" = none
  ga__sub : mg "_sub" = some (.ref (He.ga K "_sub"))
  ga__lts : mg "_lts" = some (.ref (He.ga K "_lts"))
  ga__add : mg "_add" = some (.ref (He.ga K "_add"))
  ga__set : mg "_set" = some (.ref (He.ga K "_set"))
  ga__name : mg "_name" = some (.ref (He.ga K "_name"))
  ga__slot : mg "_slot" = some (.ref (He.ga K "_slot"))
  ga__three : mg "_three" = some (.ref (He.ga K "_three"))
  ga__imm : mg "_imm" = some (.ref (He.ga K "_imm"))
  ga__load : mg "_load" = some (.ref (He.ga K "_load"))
  ga__store : mg "_store" = some (.ref (He.ga K "_store"))
  ga__must : mg "_must" = some (.ref (He.ga K "_must"))
  ga__deep : mg "_deep" = some (.ref (He.ga K "_deep"))
  ga__call : mg "_call" = some (.ref (He.ga K "_call"))
  ga_do_out : mg "do_out" = some (.ref (He.ga K "do_out"))
  ga_do_in : mg "do_in" = some (.ref (He.ga K "do_in"))
  ga_do_more : mg "do_more" = some (.ref (He.ga K "do_more"))
  ga_do_go : mg "do_go" = some (.ref (He.ga K "do_go"))
  ga__branch : mg "_branch" = some (.ref (He.ga K "_branch"))
  ga__return : mg "_return" = some (.ref (He.ga K "_return"))
  ga__tail : mg "_tail" = some (.ref (He.ga K "_tail"))
  ki_sub : KDct K w (He.ga K "KINDS") "sub" (.str "sub")
  ki_slti : KDct K w (He.ga K "KINDS") "slti" (.str "lts")
  ki_addi : KDct K w (He.ga K "KINDS") "addi" (.str "add")
  ki_add : KDct K w (He.ga K "KINDS") "add" (.str "add")
  kw_sub : KDct K w (He.ga K "KINDS_OF_WORK") "sub" (.ref (He.ga K "_sub"))
  kw_lts : KDct K w (He.ga K "KINDS_OF_WORK") "lts" (.ref (He.ga K "_lts"))
  kw_add : KDct K w (He.ga K "KINDS_OF_WORK") "add" (.ref (He.ga K "_add"))
  dd : ∀ k : Rk, KDct K w (He.ga K "DEEDS") (rkN k) (.ref (He.ga K (ddN k)))
  gv_set : KDct K w (He.ga K "GIVEN") "set" (.int 1)
  gv_name : KDct K w (He.ga K "GIVEN") "name" (.int 1)
  gv_slot : KDct K w (He.ga K "GIVEN") "slot" (.int 1)
  gv_three : KDct K w (He.ga K "GIVEN") "three" (.int 2)
  gv_imm : KDct K w (He.ga K "GIVEN") "imm" (.int 2)
  gv_load : KDct K w (He.ga K "GIVEN") "load" (.int 1)
  gv_deep : KDct K w (He.ga K "GIVEN") "deep" (.int 1)
  gv_call : KDct K w (He.ga K "GIVEN") "call" (.int 1)
  gv_in : KDct K w (He.ga K "GIVEN") "in" (.int 1)
  gv_more : KDct K w (He.ga K "GIVEN") "more" (.int 1)
  gn_store : PySem.W.nsIn K (He.ga K "GIVEN") "store" = some none
  gn_out : PySem.W.nsIn K (He.ga K "GIVEN") "out" = some none
  us_store : ∃ a, KDct K w (He.ga K "USED") "store" (.ref a) ∧ ∀ H : Hp, SqT K H a [.int 1]
  us_load : ∃ a, KDct K w (He.ga K "USED") "load" (.ref a) ∧ ∀ H : Hp, SqT K H a []
open Builtin (bitAnd bitOr)
abbrev CLF (K : PySem.W.Frag) : Addr := He.ga K "LowFrame"
abbrev CLR (K : PySem.W.Frag) : Addr := He.ga K "LowRun"
theorem same_new {H : Hp} {a : Addr} {o : HO} (h : H a = none) : Same H (upd H a o) := fun x u e => by
  rw [upd_ne (ne_of_none e h)]; exact e
theorem Same.tr {H H1 H2 : Hp} (a : Same H H1) (b : Same H1 H2) : Same H H2 := fun x o e => b x o (a x o e)
theorem Same.rf {H : Hp} : Same H H := fun _ _ e => e
def ButL (as : List Addr) (H H' : Hp) : Prop := ∀ b o, H b = some o → ¬ b ∈ as → H' b = some o
theorem ButL.refl {as : List Addr} {H : Hp} : ButL as H H := fun _ _ e _ => e
theorem ButL.trans {as : List Addr} {H H1 H2 : Hp} (a : ButL as H H1) (b : ButL as H1 H2) : ButL as H H2 := fun x o e h => b x o (a x o e h) h
theorem ButL.same {as : List Addr} {H H1 : Hp} (a : Same H H1) : ButL as H H1 := fun x o e _ => a x o e
theorem ButL.put {as : List Addr} {H : Hp} {a : Addr} {o : HO} (h : a ∈ as) : ButL as H (upd H a o) := fun x u e n => by
  rw [upd_ne (fun z => n (by rw [z]; exact h))]; exact e
theorem ButL.wide {as bs : List Addr} {H H1 : Hp} (a : ButL as H H1) (h : ∀ b, b ∈ as → b ∈ bs) : ButL bs H H1 := fun x o e n => a x o e fun z => n (h x z)
/-- tuples stay -/
def TK (H H' : Hp) : Prop := ∀ b xs, H b = some (.tup xs) → H' b = some (.tup xs)
theorem TK.rf {H : Hp} : TK H H := fun _ _ e => e
theorem TK.tr {H H1 H2 : Hp} (a : TK H H1) (b : TK H1 H2) : TK H H2 := fun x o e => b x o (a x o e)
theorem TK.same {H H1 : Hp} (a : Same H H1) : TK H H1 := fun x o e => a x _ e
theorem TK.but {as : List Addr} {H H' : Hp} (bt : ButL as H H') (n : ∀ a ∈ as, ∀ xs, H a ≠ some (.tup xs)) : TK H H' := fun b xs e => bt b _ e fun h => n b h xs e
/-! texts -/
mutual
inductive DT (H : Hp) : V → PyData → Prop
  | int (i : Int) : DT H (.int i) (.int i)
  | str (x : Str) : DT H (.str x) (.str x)
  | tup {a : Addr} {xs : List V} {ds : List PyData} : H a = some (.tup xs) → DTs H xs ds → DT H (.ref a) (.tuple ds)
inductive DTs (H : Hp) : List V → List PyData → Prop
  | nil : DTs H [] []
  | cons {v : V} {vs : List V} {d : PyData} {ds : List PyData} : DT H v d → DTs H vs ds → DTs H (v :: vs) (d :: ds)
end
mutual
theorem DT.keep {H H' : Hp} (k : TK H H') : ∀ {d : PyData} {v : V}, DT H v d → DT H' v d
  | _, _, .int i => .int i
  | _, _, .str x => .str x
  | _, _, .tup e h => .tup (k _ _ e) (DTs.keep k h)
theorem DTs.keep {H H' : Hp} (k : TK H H') : ∀ {ds : List PyData} {vs : List V}, DTs H vs ds → DTs H' vs ds
  | _, _, .nil => .nil
  | _, _, .cons h t => .cons (DT.keep k h) (DTs.keep k t)
end
mutual
theorem DT.dp {K : PySem.W.Frag} {H : Hp} : ∀ {d : PyData} {v : V}, DT H v d → Dp K H v d
  | _, _, .int i => .int i
  | _, _, .str x => .str x
  | _, _, .tup e h => .tup (SqT.of e) (DTs.dp h)
theorem DTs.dp {K : PySem.W.Frag} {H : Hp} : ∀ {ds : List PyData} {vs : List V}, DTs H vs ds → DpAll K H vs ds
  | _, _, .nil => .nil
  | _, _, .cons h t => .cons (DT.dp h) (DTs.dp t)
end
theorem DTs.len {H : Hp} : ∀ {ds : List PyData} {vs : List V}, DTs H vs ds → vs.length = ds.length
  | _, _, .nil => rfl
  | _, _, .cons _ t => by rw [List.length_cons, List.length_cons, DTs.len t]
theorem DTs.get {H : Hp} : ∀ {ds : List PyData} {vs : List V}, DTs H vs ds → ∀ {i : Nat} {d : PyData}, ds[i]? = some d → ∃ v, vs[i]? = some v ∧ DT H v d
  | _, _, .nil, i, d, e => by simp at e
  | _, _, .cons h _, 0, d, e => by
    injection e with e
    subst e
    exact ⟨_, rfl, h⟩
  | _, _, .cons _ t, i + 1, d, e => DTs.get t e
theorem DTs.app {H : Hp} : ∀ {ds es : List PyData} {vs ws : List V}, DTs H vs ds → DTs H ws es → DTs H (vs ++ ws) (ds ++ es)
  | _, _, _, _, .nil, h => h
  | _, _, _, _, .cons h t, k => .cons h (DTs.app t k)
theorem DT.tupI {H : Hp} {v : V} {ds : List PyData} (h : DT H v (.tuple ds)) : ∃ a xs, v = .ref a ∧ H a = some (.tup xs) ∧ DTs H xs ds := by
  cases h with | tup e t => exact ⟨_, _, rfl, e, t⟩
theorem DT.intI {H : Hp} {v : V} {i : Int} (h : DT H v (.int i)) : v = .int i := by cases h; rfl
theorem DT.strI {H : Hp} {v : V} {x : Str} (h : DT H v (.str x)) : v = .str x := by cases h; rfl
theorem DTs.ints {H : Hp} : ∀ {ns : List Int} {vs : List V}, DTs H vs (ns.map PyData.int) → vs = ns.map V.int
  | [], _, h => by cases h; rfl
  | n :: ns, _, h => by
    cases h with | cons a t => rw [DT.intI a, DTs.ints t]; rfl
theorem DTs.of_ints {H : Hp} : ∀ ns : List Int, DTs H (ns.map V.int) (ns.map PyData.int)
  | [] => .nil
  | n :: ns => .cons (.int n) (DTs.of_ints ns)
theorem DTs.one {H : Hp} {xs : List V} {d : PyData} {ds : List PyData} (h : DTs H xs (d :: ds)) : ∃ v vs, xs = v :: vs ∧ DT H v d ∧ DTs H vs ds := by
  cases h with | cons a t => exact ⟨_, _, rfl, a, t⟩
theorem DTs.no {H : Hp} {xs : List V} (h : DTs H xs []) : xs = [] := by cases h; rfl
/-! what stands where -/
def Cells (H : Hp) (cs : List (Addr × HO)) : Prop := (cs.map Prod.fst).Nodup ∧ ∀ c ∈ cs, H c.1 = some c.2
theorem Cells.same {H H' : Hp} {cs : List (Addr × HO)} (h : Cells H cs) (s : Same H H') : Cells H' cs := ⟨h.1, fun c hc => s _ _ (h.2 c hc)⟩
theorem Cells.blk {H H' : Hp} {as : List Addr} {l1 blk blk' l2 : List (Addr × HO)} (h : Cells H (l1 ++ (blk ++ l2))) (bt : ButL as H H') (hs : ∀ p ∈ as, p ∈ blk.map Prod.fst) (ha : blk'.map Prod.fst = blk.map Prod.fst) (hv : ∀ c ∈ blk', H' c.1 = some c.2) :
    Cells H' (l1 ++ (blk' ++ l2)) := by
  obtain ⟨nd, hc⟩ := h
  refine ⟨by rw [List.map_append, List.map_append, ha, ← List.map_append, ← List.map_append]; exact nd, fun c hm => ?_⟩
  rw [List.map_append, List.map_append] at nd
  obtain ⟨_, n2, n3⟩ := List.nodup_append.mp nd
  obtain ⟨_, _, n4⟩ := List.nodup_append.mp n2
  rcases List.mem_append.mp hm with m | m
  · refine bt _ _ (hc c (List.mem_append_left _ m)) fun z => ?_
    exact n3 c.1 (List.mem_map_of_mem m) c.1 (List.mem_append_left _ (hs _ z)) rfl
  · rcases List.mem_append.mp m with m | m
    · exact hv c m
    · refine bt _ _ (hc c (List.mem_append_right _ (List.mem_append_right _ m))) fun z => ?_
      exact n4 c.1 (hs _ z) c.1 (List.mem_map_of_mem m) rfl
theorem Cells.set1 {H : Hp} {l1 l2 : List (Addr × HO)} {p : Addr} {o o' : HO} (h : Cells H (l1 ++ ((p, o) :: l2))) : Cells (upd H p o') (l1 ++ ((p, o') :: l2)) :=
  Cells.blk (as := [p]) (blk := [(p, o)]) (blk' := [(p, o')]) h (ButL.put (by simp)) (by simp) rfl (fun c hc => by
    obtain rfl : c = (p, o') := by simpa using hc
    exact upd_same)
theorem Cells.perm {H : Hp} {cs ds : List (Addr × HO)} (h : Cells H cs) (p : ds.Perm cs) : Cells H ds :=
  ⟨(p.map Prod.fst).nodup_iff.mpr h.1, fun c hc => h.2 c (p.mem_iff.mp hc)⟩
theorem Cells.sub {H : Hp} {cs ds : List (Addr × HO)} (h : Cells H cs) (p : ds.Sublist cs) : Cells H ds :=
  ⟨h.1.sublist (p.map Prod.fst), fun c hc => h.2 c (p.mem hc)⟩
theorem Cells.add {H : Hp} {cs : List (Addr × HO)} {p : Addr} {o : HO} (h : Cells H cs) (n : ∀ c ∈ cs, p ≠ c.1) (e : H p = some o) : Cells H ((p, o) :: cs) := by
  refine ⟨?_, fun c hc => ?_⟩
  · rw [List.map_cons, List.nodup_cons]
    refine ⟨fun m => ?_, h.1⟩
    obtain ⟨c, hc, e⟩ := List.mem_map.mp m
    exact n c hc e.symm
  · rcases List.mem_cons.mp hc with rfl | hc
    · exact e
    · exact h.2 c hc
theorem Cells.new {H : Hp} {cs : List (Addr × HO)} {p : Addr} {o : HO} (h : Cells H cs) (n : H p = none) : Cells (upd H p o) ((p, o) :: cs) :=
  (h.same (same_new n)).add (fun c hc => (ne_of_none (h.2 c hc) n).symm) upd_same
structure FA where
  (f fx dw fs : Addr)
  (bv rv ev : V)
def ffs (A : FA) (m : Fm) : List (Str × V) := [("blocks", A.bv), ("worths", .ref A.dw), ("rows", A.rv), ("end_row", A.ev), ("at", .int m.at_), ("first", .int m.first), ("slots", .ref A.fs)]
def fcells (K : PySem.W.Frag) (A : FA) (m : Fm) : List (Addr × HO) := [(A.f, .ins (CLF K) A.fx (ffs A m)), (A.dw, .dK m.w), (A.fs, .lst m.sl)]
structure FT (H : Hp) (A : FA) (m : Fm) : Prop where
  bv : DT H A.bv (.tuple (m.bs.map blD))
  rv : DT H A.rv (.tuple (m.rows.map rwD))
  ev : DT H A.ev (rwD m.er)
theorem FT.keep {H H' : Hp} {A : FA} {m : Fm} (h : FT H A m) (k : TK H H') : FT H' A m := ⟨h.bv.keep k, h.rv.keep k, h.ev.keep k⟩
structure GA where
  (a dx li lo df lw da lt ls : Addr)
  ev : V
  fvs : List V
def gfs (G : GA) (m : Mm) (fv : V) : List (Str × V) := [("inputs", .ref G.li), ("limit", .int m.lim), ("taken", .int m.tk), ("outputs", .ref G.lo), ("ending", G.ev), ("steps", .int m.st), ("functions", .ref G.df), ("frame", fv), ("waiting", .ref G.lw), ("addresses", .ref G.da), ("things", .ref G.lt), ("slots", .ref G.ls)]
def fkv : List Fn → List V → List (Key × V)
  | f :: fs, v :: vs => (Sum.inr f.nm, v) :: fkv fs vs
  | _, _ => []
def hcells (K : PySem.W.Frag) (G : GA) (m : Mm) (fv : V) (Ws : List FA) : List (Addr × HO) :=
  [(G.a, .ins (CLR K) G.dx (gfs G m fv)), (G.lo, .lst m.out), (G.lw, .lst (Ws.map fun A => V.ref A.f)), (G.lt, .lst m.th), (G.ls, .lst m.sl), (G.li, .lst m.inp), (G.df, .dK (fkv m.fns G.fvs)), (G.da, .dK [(Sum.inr "g", .int 4096)])]
def wcells (K : PySem.W.Frag) : List FA → List Fm → List (Addr × HO)
  | A :: As, f :: fs => fcells K A f ++ wcells K As fs
  | _, _ => []
def FTs (H : Hp) : List FA → List Fm → Prop
  | A :: As, f :: fs => FT H A f ∧ FTs H As fs
  | [], [] => True
  | _, _ => False
theorem FTs.keep {H H' : Hp} (k : TK H H') : ∀ {As : List FA} {fs : List Fm}, FTs H As fs → FTs H' As fs
  | [], [], h => h
  | _ :: _, _ :: _, h => ⟨h.1.keep k, FTs.keep k h.2⟩
  | [], _ :: _, h => h.elim
  | _ :: _, [], h => h.elim
def EnOk (H : Hp) (v : V) (e : Option PyData) : Prop := (e = none ∧ v = .non) ∨ ∃ d, e = some d ∧ DT H v d
theorem EnOk.keep {H H' : Hp} {v : V} {e : Option PyData} (h : EnOk H v e) (k : TK H H') : EnOk H' v e := by
  rcases h with h | ⟨d, e, h⟩
  · exact .inl h
  · exact .inr ⟨d, e, h.keep k⟩
/-- the run, its frame apart -/
structure RB (K : PySem.W.Frag) (H : Hp) (G : GA) (m : Mm) (fv : V) (Ws : List FA) : Prop where
  cs : Cells H (hcells K G m fv Ws ++ wcells K Ws m.wt)
  ws : FTs H Ws m.wt
  fn : DTs H G.fvs (m.fns.map fnD)
  en : EnOk H G.ev m.en
structure RX (K : PySem.W.Frag) (H : Hp) (G : GA) (m : Mm) (fv : V) (C : FA) (Ws : List FA) : Prop where
  cs : Cells H (hcells K G m fv Ws ++ (fcells K C m.cur ++ wcells K Ws m.wt))
  cf : FT H C m.cur
  ws : FTs H Ws m.wt
  fn : DTs H G.fvs (m.fns.map fnD)
  en : EnOk H G.ev m.en
abbrev R (K : PySem.W.Frag) (H : Hp) (G : GA) (m : Mm) (C : FA) (Ws : List FA) : Prop := RX K H G m (.ref C.f) C Ws
section
variable {K : PySem.W.Frag} {H H' : Hp} {G : GA} {m m' : Mm} {C : FA} {Ws : List FA}
theorem R.ga (r : R K H G m C Ws) : H G.a = some (.ins (CLR K) G.dx (gfs G m (.ref C.f))) := r.cs.2 (G.a, .ins (CLR K) G.dx (gfs G m (.ref C.f))) (by simp [hcells])
theorem R.lo (r : R K H G m C Ws) : H G.lo = some (.lst m.out) := r.cs.2 (G.lo, .lst m.out) (by simp [hcells])
theorem R.lw (r : R K H G m C Ws) : H G.lw = some (.lst (Ws.map fun A => V.ref A.f)) := r.cs.2 (G.lw, .lst (Ws.map fun A => V.ref A.f)) (by simp [hcells])
theorem R.lt (r : R K H G m C Ws) : H G.lt = some (.lst m.th) := r.cs.2 (G.lt, .lst m.th) (by simp [hcells])
theorem R.ls (r : R K H G m C Ws) : H G.ls = some (.lst m.sl) := r.cs.2 (G.ls, .lst m.sl) (by simp [hcells])
theorem R.li (r : R K H G m C Ws) : H G.li = some (.lst m.inp) := r.cs.2 (G.li, .lst m.inp) (by simp [hcells])
theorem R.df (r : R K H G m C Ws) : H G.df = some (.dK (fkv m.fns G.fvs)) := r.cs.2 (G.df, .dK (fkv m.fns G.fvs)) (by simp [hcells])
theorem R.da (r : R K H G m C Ws) : H G.da = some (.dK [(Sum.inr "g", .int 4096)]) := r.cs.2 (G.da, .dK [(Sum.inr "g", .int 4096)]) (by simp [hcells])
theorem R.f (r : R K H G m C Ws) : H C.f = some (.ins (CLF K) C.fx (ffs C m.cur)) := r.cs.2 (C.f, .ins (CLF K) C.fx (ffs C m.cur)) (by simp [fcells])
theorem R.dw (r : R K H G m C Ws) : H C.dw = some (.dK m.cur.w) := r.cs.2 (C.dw, .dK m.cur.w) (by simp [fcells])
theorem R.fs (r : R K H G m C Ws) : H C.fs = some (.lst m.cur.sl) := r.cs.2 (C.fs, .lst m.cur.sl) (by simp [fcells])
theorem R.base (r : R K H G m C Ws) : RB K H G m (.ref C.f) Ws := ⟨r.cs.sub (List.Sublist.append (List.Sublist.refl _) (List.sublist_append_right _ _)), r.ws, r.fn, r.en⟩
theorem RB.ga {fv : V} (r : RB K H G m fv Ws) : H G.a = some (.ins (CLR K) G.dx (gfs G m fv)) := r.cs.2 (G.a, .ins (CLR K) G.dx (gfs G m fv)) (by simp [hcells])
theorem RB.ls {fv : V} (r : RB K H G m fv Ws) : H G.ls = some (.lst m.sl) := r.cs.2 (G.ls, .lst m.sl) (by simp [hcells])
theorem RB.df {fv : V} (r : RB K H G m fv Ws) : H G.df = some (.dK (fkv m.fns G.fvs)) := r.cs.2 (G.df, .dK (fkv m.fns G.fvs)) (by simp [hcells])
theorem R.same (r : R K H G m C Ws) (s : Same H H') : R K H' G m C Ws := ⟨r.cs.same s, r.cf.keep (TK.same s), r.ws.keep (TK.same s), r.fn.keep (TK.same s), r.en.keep (TK.same s)⟩
theorem RB.same {fv : V} (r : RB K H G m fv Ws) (s : Same H H') : RB K H' G m fv Ws := ⟨r.cs.same s, r.ws.keep (TK.same s), r.fn.keep (TK.same s), r.en.keep (TK.same s)⟩
/-- a change of one cell that is no tuple -/
theorem tk_upd {p : Addr} {o o' : HO} (e : H p = some o) (n : ∀ xs, o ≠ .tup xs) : TK H (upd H p o') := fun b xs h => by
  rw [upd_ne (fun z => by rw [z, e] at h; exact n xs (Option.some.inj h))]; exact h
theorem R.setW (r : R K H G m C Ws) (w : List (Key × V)) : R K (upd H C.dw (.dK w)) G { m with cur := { m.cur with w := w } } C Ws := by
  have k : TK H (upd H C.dw (.dK w)) := tk_upd r.dw (fun xs => by simp)
  refine ⟨?_, ⟨r.cf.bv.keep k, r.cf.rv.keep k, r.cf.ev.keep k⟩, r.ws.keep k, r.fn.keep k, r.en.keep k⟩
  exact Cells.set1 (l1 := hcells K G m (.ref C.f) Ws ++ [(C.f, .ins (CLF K) C.fx (ffs C m.cur))]) (p := C.dw) (o := .dK m.cur.w) (l2 := (C.fs, .lst m.cur.sl) :: wcells K Ws m.wt) (by
    have := r.cs
    simp only [List.append_assoc] at this ⊢
    exact this) |> fun z => by simp only [List.append_assoc] at z; exact z
theorem R.setOut (r : R K H G m C Ws) (xs : List V) : R K (upd H G.lo (.lst xs)) G { m with out := xs } C Ws := by
  have k : TK H (upd H G.lo (.lst xs)) := tk_upd r.lo (fun xs => by simp)
  exact ⟨Cells.set1 (l1 := [(G.a, .ins (CLR K) G.dx (gfs G m (.ref C.f)))]) (p := G.lo) (o := .lst m.out) r.cs, r.cf.keep k, r.ws.keep k, r.fn.keep k, r.en.keep k⟩
theorem R.setTh (r : R K H G m C Ws) (xs : List V) : R K (upd H G.lt (.lst xs)) G { m with th := xs } C Ws := by
  have k : TK H (upd H G.lt (.lst xs)) := tk_upd r.lt (fun xs => by simp)
  exact ⟨Cells.set1 (l1 := [(G.a, .ins (CLR K) G.dx (gfs G m (.ref C.f))), (G.lo, .lst m.out), (G.lw, .lst (Ws.map fun A => V.ref A.f))]) (p := G.lt) (o := .lst m.th) r.cs, r.cf.keep k, r.ws.keep k, r.fn.keep k, r.en.keep k⟩
theorem R.setSl (r : R K H G m C Ws) (xs : List V) : R K (upd H G.ls (.lst xs)) G { m with sl := xs } C Ws := by
  have k : TK H (upd H G.ls (.lst xs)) := tk_upd r.ls (fun xs => by simp)
  exact ⟨Cells.set1 (l1 := [(G.a, .ins (CLR K) G.dx (gfs G m (.ref C.f))), (G.lo, .lst m.out), (G.lw, .lst (Ws.map fun A => V.ref A.f)), (G.lt, .lst m.th)]) (p := G.ls) (o := .lst m.sl) r.cs, r.cf.keep k, r.ws.keep k, r.fn.keep k, r.en.keep k⟩
/-- one of the run's own fields -/
theorem R.setG (r : R K H G m C Ws) {fs : List (Str × V)} {ev : V} (hf : fs = gfs { G with ev := ev } m' (.ref C.f)) (hm : m' = { m with tk := m'.tk, en := m'.en, st := m'.st }) (he : EnOk H ev m'.en) : R K (upd H G.a (.ins (CLR K) G.dx fs)) { G with ev := ev } m' C Ws := by
  subst hf
  have k : TK H (upd H G.a (.ins (CLR K) G.dx (gfs { G with ev := ev } m' (.ref C.f)))) := tk_upd r.ga (fun xs => by simp)
  rw [hm]
  rw [hm] at k he
  exact ⟨Cells.set1 (l1 := []) (p := G.a) (o := .ins (CLR K) G.dx (gfs G m (.ref C.f))) r.cs, r.cf.keep k, r.ws.keep k, r.fn.keep k, he.keep k⟩
/-- the frame's rows and place -/
theorem R.setF (r : R K H G m C Ws) {as : List Addr} {C' : FA} {f' : Fm} (bt : ButL as H H') (hs : ∀ p ∈ as, p = C.f ∨ p = C.dw ∨ p = C.fs) (hc : C' = { C with rv := C'.rv, ev := C'.ev }) (e : H' C.f = some (.ins (CLF K) C.fx (ffs C' f'))) (d : H' C.dw = some (.dK f'.w)) (l : H' C.fs = some (.lst f'.sl)) (ft : FT H' C' f') :
    R K H' G { m with cur := f' } C' Ws ∧ TK H H' := by
  have k : TK H H' := TK.but bt fun a ha xs z => by
    rcases hs a ha with q | q | q
    · rw [q, r.f] at z; cases z
    · rw [q, r.dw] at z; cases z
    · rw [q, r.fs] at z; cases z
  have h1 : C'.f = C.f := by rw [hc]
  have h2 : C'.dw = C.dw := by rw [hc]
  have h3 : C'.fs = C.fs := by rw [hc]
  have h4 : C'.fx = C.fx := by rw [hc]
  refine ⟨⟨?_, ft, r.ws.keep k, r.fn.keep k, r.en.keep k⟩, k⟩
  have z := Cells.blk (H' := H') (as := as) (l1 := hcells K G m (.ref C.f) Ws) (blk := fcells K C m.cur) (blk' := fcells K C' f') (l2 := wcells K Ws m.wt) r.cs bt (fun p hp => by
    rcases hs p hp with q | q | q <;> simp [fcells, q]) (by simp [fcells, h1, h2, h3]) (fun c hc => by
    simp only [fcells, h1, h2, h3, h4, List.mem_cons, List.not_mem_nil, or_false] at hc
    rcases hc with rfl | rfl | rfl
    · exact e
    · exact d
    · exact l)
  rw [h1]
  exact z
theorem RX.ga {fv : V} (r : RX K H G m fv C Ws) : H G.a = some (.ins (CLR K) G.dx (gfs G m fv)) := r.cs.2 (G.a, .ins (CLR K) G.dx (gfs G m fv)) (by simp [hcells])
theorem RX.ls {fv : V} (r : RX K H G m fv C Ws) : H G.ls = some (.lst m.sl) := r.cs.2 (G.ls, .lst m.sl) (by simp [hcells])
theorem RX.f {fv : V} (r : RX K H G m fv C Ws) : H C.f = some (.ins (CLF K) C.fx (ffs C m.cur)) := r.cs.2 (C.f, .ins (CLF K) C.fx (ffs C m.cur)) (by simp [fcells])
theorem RX.fs {fv : V} (r : RX K H G m fv C Ws) : H C.fs = some (.lst m.cur.sl) := r.cs.2 (C.fs, .lst m.cur.sl) (by simp [fcells])
theorem RX.same {fv : V} (r : RX K H G m fv C Ws) (s : Same H H') : RX K H' G m fv C Ws := ⟨r.cs.same s, r.cf.keep (TK.same s), r.ws.keep (TK.same s), r.fn.keep (TK.same s), r.en.keep (TK.same s)⟩
theorem RX.setSl {fv : V} (r : RX K H G m fv C Ws) (xs : List V) : RX K (upd H G.ls (.lst xs)) G { m with sl := xs } fv C Ws := by
  have k : TK H (upd H G.ls (.lst xs)) := tk_upd r.ls (fun xs => by simp)
  exact ⟨Cells.set1 (l1 := [(G.a, .ins (CLR K) G.dx (gfs G m fv)), (G.lo, .lst m.out), (G.lw, .lst (Ws.map fun A => V.ref A.f)), (G.lt, .lst m.th)]) (p := G.ls) (o := .lst m.sl) r.cs, r.cf.keep k, r.ws.keep k, r.fn.keep k, r.en.keep k⟩
theorem RX.setFs {fv : V} (r : RX K H G m fv C Ws) (xs : List V) : RX K (upd H C.fs (.lst xs)) G { m with cur := { m.cur with sl := xs } } fv C Ws := by
  have k : TK H (upd H C.fs (.lst xs)) := tk_upd r.fs (fun xs => by simp)
  refine ⟨?_, ⟨r.cf.bv.keep k, r.cf.rv.keep k, r.cf.ev.keep k⟩, r.ws.keep k, r.fn.keep k, r.en.keep k⟩
  exact Cells.set1 (l1 := hcells K G m fv Ws ++ [(C.f, .ins (CLF K) C.fx (ffs C m.cur)), (C.dw, .dK m.cur.w)]) (p := C.fs) (o := .lst m.cur.sl) (l2 := wcells K Ws m.wt) (by
    have := r.cs
    simp only [List.append_assoc] at this ⊢
    exact this) |> fun z => by simp only [List.append_assoc] at z; exact z
/-- the run's frame is told -/
theorem RX.setFv {fv : V} (r : RX K H G m fv C Ws) : R K (upd H G.a (.ins (CLR K) G.dx (gfs G m (.ref C.f)))) G m C Ws := by
  have k : TK H (upd H G.a (.ins (CLR K) G.dx (gfs G m (.ref C.f)))) := tk_upd r.ga (fun xs => by simp)
  exact ⟨Cells.set1 (l1 := []) (p := G.a) (o := .ins (CLR K) G.dx (gfs G m fv)) r.cs, r.cf.keep k, r.ws.keep k, r.fn.keep k, r.en.keep k⟩
theorem RB.li {fv : V} (r : RB K H G m fv Ws) : H G.li = some (.lst m.inp) := r.cs.2 (G.li, .lst m.inp) (by simp [hcells])
end

end K55

namespace K55E
open PySem PySem.Spec PyProof.Rows L2 My Ru M55 K55
def dd_word_of : He.DefD := ⟨("word_of", none), "word_of", "word_of", defArgs s_word_of, defBody s_word_of, defScope s_word_of, [], []⟩
def dd_signed : He.DefD := ⟨("signed", none), "signed", "signed", defArgs s_signed, defBody s_signed, defScope s_signed, [], []⟩
def dd__add : He.DefD := ⟨("_add", none), "_add", "_add", defArgs s__add, defBody s__add, defScope s__add, [], []⟩
def dd__sub : He.DefD := ⟨("_sub", none), "_sub", "_sub", defArgs s__sub, defBody s__sub, defScope s__sub, [], []⟩
def dd__lts : He.DefD := ⟨("_lts", none), "_lts", "_lts", defArgs s__lts, defBody s__lts, defScope s__lts, [], []⟩
def dd_apply : He.DefD := ⟨("apply", none), "apply", "apply", defArgs s_apply, defBody s_apply, defScope s_apply, [], []⟩
def dd_made_of : He.DefD := ⟨("made_of", none), "made_of", "made_of", defArgs s_made_of, defBody s_made_of, defScope s_made_of, [], []⟩
def dd_is_branch_taken : He.DefD := ⟨("is_branch_taken", none), "is_branch_taken", "is_branch_taken", defArgs s_is_branch_taken, defBody s_is_branch_taken, defScope s_is_branch_taken, [], []⟩
def dd_low_gives : He.DefD := ⟨("low_gives", none), "low_gives", "low_gives", defArgs s_low_gives, defBody s_low_gives, defScope s_low_gives, [], []⟩
def dd__real : He.DefD := ⟨("_real", none), "_real", "_real", defArgs s__real, defBody s__real, defScope s__real, [], []⟩
def dd_low_uses : He.DefD := ⟨("low_uses", none), "low_uses", "low_uses", defArgs s_low_uses, defBody s_low_uses, defScope s_low_uses, [], []⟩
def dd_low_hands : He.DefD := ⟨("low_hands", none), "low_hands", "low_hands", defArgs s_low_hands, defBody s_low_hands, defScope s_low_hands, [], []⟩
def dd_low_end_uses : He.DefD := ⟨("low_end_uses", none), "low_end_uses", "low_end_uses", defArgs s_low_end_uses, defBody s_low_end_uses, defScope s_low_end_uses, [], []⟩
def dd_run_to_end : He.DefD := ⟨("run_to_end", none), "run_to_end", "run_to_end", defArgs s_run_to_end, defBody s_run_to_end, defScope s_run_to_end, [], []⟩
def dd_do_out : He.DefD := ⟨("do_out", none), "do_out", "do_out", defArgs s_do_out, defBody s_do_out, defScope s_do_out, [], []⟩
def dd_do_in : He.DefD := ⟨("do_in", none), "do_in", "do_in", defArgs s_do_in, defBody s_do_in, defScope s_do_in, [], []⟩
def dd_do_more : He.DefD := ⟨("do_more", none), "do_more", "do_more", defArgs s_do_more, defBody s_do_more, defScope s_do_more, [], []⟩
def dd_do_go : He.DefD := ⟨("do_go", none), "do_go", "do_go", defArgs s_do_go, defBody s_do_go, defScope s_do_go, [], []⟩
def dd_run_low : He.DefD := ⟨("run_low", none), "run_low", "run_low", defArgs s_run_low, defBody s_run_low, defScope s_run_low, [], []⟩
def dd__set : He.DefD := ⟨("_set", none), "_set", "_set", defArgs s__set, defBody s__set, defScope s__set, [], []⟩
def dd__name : He.DefD := ⟨("_name", none), "_name", "_name", defArgs s__name, defBody s__name, defScope s__name, [], []⟩
def dd__slot : He.DefD := ⟨("_slot", none), "_slot", "_slot", defArgs s__slot, defBody s__slot, defScope s__slot, [], []⟩
def dd__three : He.DefD := ⟨("_three", none), "_three", "_three", defArgs s__three, defBody s__three, defScope s__three, [], []⟩
def dd__imm : He.DefD := ⟨("_imm", none), "_imm", "_imm", defArgs s__imm, defBody s__imm, defScope s__imm, [], []⟩
def dd__load : He.DefD := ⟨("_load", none), "_load", "_load", defArgs s__load, defBody s__load, defScope s__load, [], []⟩
def dd__store : He.DefD := ⟨("_store", none), "_store", "_store", defArgs s__store, defBody s__store, defScope s__store, [], []⟩
def dd__must : He.DefD := ⟨("_must", none), "_must", "_must", defArgs s__must, defBody s__must, defScope s__must, [], []⟩
def dd__deep : He.DefD := ⟨("_deep", none), "_deep", "_deep", defArgs s__deep, defBody s__deep, defScope s__deep, [], []⟩
def dd__call : He.DefD := ⟨("_call", none), "_call", "_call", defArgs s__call, defBody s__call, defScope s__call, [], []⟩
def dd__branch : He.DefD := ⟨("_branch", none), "_branch", "_branch", defArgs s__branch, defBody s__branch, defScope s__branch, [], []⟩
def dd__return : He.DefD := ⟨("_return", none), "_return", "_return", defArgs s__return, defBody s__return, defScope s__return, [], []⟩
def dd__tail : He.DefD := ⟨("_tail", none), "_tail", "_tail", defArgs s__tail, defBody s__tail, defScope s__tail, [], []⟩
def dd__law_cell_at : He.DefD := ⟨("_law_cell_at", none), "_law_cell_at", "_law_cell_at", defArgs s__law_cell_at, defBody s__law_cell_at, defScope s__law_cell_at, [], []⟩
def dd__law_draw : He.DefD := ⟨("_law_draw", none), "_law_draw", "_law_draw", defArgs s__law_draw, defBody s__law_draw, defScope s__law_draw, [], []⟩
def dd__law_number : He.DefD := ⟨("_law_number", none), "_law_number", "_law_number", defArgs s__law_number, defBody s__law_number, defScope s__law_number, [], []⟩
def dd__law_next : He.DefD := ⟨("_law_next", none), "_law_next", "_law_next", defArgs s__law_next, defBody s__law_next, defScope s__law_next, [], []⟩
def dd__law_pick : He.DefD := ⟨("_law_pick", none), "_law_pick", "_law_pick", defArgs s__law_pick, defBody s__law_pick, defScope s__law_pick, [], []⟩
def dd__law_main : He.DefD := ⟨("_law_main", none), "_law_main", "_law_main", defArgs s__law_main, defBody s__law_main, defScope s__law_main, [], []⟩
def dd_law : He.DefD := ⟨("law", none), "law", "law", defArgs s_law, defBody s_law, defScope s_law, [], []⟩
def dd_Going___init__ : He.DefD := ⟨("Going", some "__init__"), "__init__", "Going.__init__", defArgs s_Going___init__, defBody s_Going___init__, defScope s_Going___init__, [], []⟩
def dd_Going_trap : He.DefD := ⟨("Going", some "trap"), "trap", "Going.trap", defArgs s_Going_trap, defBody s_Going_trap, defScope s_Going_trap, [], []⟩
def dd_Going_take : He.DefD := ⟨("Going", some "take"), "take", "Going.take", defArgs s_Going_take, defBody s_Going_take, defScope s_Going_take, [], []⟩
def dd_Going_more : He.DefD := ⟨("Going", some "more"), "more", "Going.more", defArgs s_Going_more, defBody s_Going_more, defScope s_Going_more, [], []⟩
def dd_RowFrame___init__ : He.DefD := ⟨("RowFrame", some "__init__"), "__init__", "RowFrame.__init__", defArgs s_RowFrame___init__, defBody s_RowFrame___init__, defScope s_RowFrame___init__, [], []⟩
def dd_RowFrame_begin_block : He.DefD := ⟨("RowFrame", some "begin_block"), "begin_block", "RowFrame.begin_block", defArgs s_RowFrame_begin_block, defBody s_RowFrame_begin_block, defScope s_RowFrame_begin_block, [], []⟩
def dd_RowFrame_all_worths : He.DefD := ⟨("RowFrame", some "all_worths"), "all_worths", "RowFrame.all_worths", defArgs s_RowFrame_all_worths, defBody s_RowFrame_all_worths, defScope s_RowFrame_all_worths, [], []⟩
def dd_RowFrame_go : He.DefD := ⟨("RowFrame", some "go"), "go", "RowFrame.go", defArgs s_RowFrame_go, defBody s_RowFrame_go, defScope s_RowFrame_go, [], []⟩
def dd_RowFrame_next_row : He.DefD := ⟨("RowFrame", some "next_row"), "next_row", "RowFrame.next_row", defArgs s_RowFrame_next_row, defBody s_RowFrame_next_row, defScope s_RowFrame_next_row, [], []⟩
def dd_RowFrame_last_row : He.DefD := ⟨("RowFrame", some "last_row"), "last_row", "RowFrame.last_row", defArgs s_RowFrame_last_row, defBody s_RowFrame_last_row, defScope s_RowFrame_last_row, [], []⟩
def dd_RowRun___init__ : He.DefD := ⟨("RowRun", some "__init__"), "__init__", "RowRun.__init__", defArgs s_RowRun___init__, defBody s_RowRun___init__, defScope s_RowRun___init__, [], []⟩
def dd_RowRun_give_back : He.DefD := ⟨("RowRun", some "give_back"), "give_back", "RowRun.give_back", defArgs s_RowRun_give_back, defBody s_RowRun_give_back, defScope s_RowRun_give_back, [], []⟩
def dd_LowFrame___init__ : He.DefD := ⟨("LowFrame", some "__init__"), "__init__", "LowFrame.__init__", defArgs s_LowFrame___init__, defBody s_LowFrame___init__, defScope s_LowFrame___init__, [], []⟩
def dd_LowRun___init__ : He.DefD := ⟨("LowRun", some "__init__"), "__init__", "LowRun.__init__", defArgs s_LowRun___init__, defBody s_LowRun___init__, defScope s_LowRun___init__, [], []⟩
def dd_LowRun_begin : He.DefD := ⟨("LowRun", some "begin"), "begin", "LowRun.begin", defArgs s_LowRun_begin, defBody s_LowRun_begin, defScope s_LowRun_begin, [], []⟩
def dd_LowRun_end_frame : He.DefD := ⟨("LowRun", some "end_frame"), "end_frame", "LowRun.end_frame", defArgs s_LowRun_end_frame, defBody s_LowRun_end_frame, defScope s_LowRun_end_frame, [], []⟩
def dd_LowRun_step : He.DefD := ⟨("LowRun", some "step"), "step", "LowRun.step", defArgs s_LowRun_step, defBody s_LowRun_step, defScope s_LowRun_step, [], []⟩
def dd_LowRun_spot : He.DefD := ⟨("LowRun", some "spot"), "spot", "LowRun.spot", defArgs s_LowRun_spot, defBody s_LowRun_spot, defScope s_LowRun_spot, [], []⟩
def hfn : List He.DefD := ([dd_word_of, dd_signed, dd__add, dd__sub, dd__lts, dd_apply, dd_made_of, dd_is_branch_taken, dd_low_gives, dd__real, dd_low_uses, dd_low_hands, dd_low_end_uses, dd_run_to_end, dd_do_out, dd_do_in, dd_do_more, dd_do_go, dd_run_low, dd__set] : List He.DefD) ++ ([dd__name, dd__slot, dd__three, dd__imm, dd__load, dd__store, dd__must, dd__deep, dd__call, dd__branch, dd__return, dd__tail, dd__law_cell_at, dd__law_draw, dd__law_number, dd__law_next, dd__law_pick, dd__law_main, dd_law, dd_Going___init__] : List He.DefD) ++ ([dd_Going_trap, dd_Going_take, dd_Going_more, dd_RowFrame___init__, dd_RowFrame_begin_block, dd_RowFrame_all_worths, dd_RowFrame_go, dd_RowFrame_next_row, dd_RowFrame_last_row, dd_RowRun___init__, dd_RowRun_give_back, dd_LowFrame___init__, dd_LowRun___init__, dd_LowRun_begin, dd_LowRun_end_frame, dd_LowRun_step, dd_LowRun_spot] : List He.DefD)
def hfa : List He.Fa := ([.glo "word_of", .glo "signed", .glo "_add", .glo "_sub", .glo "_lts", .glo "apply", .glo "made_of", .glo "is_branch_taken", .glo "low_gives", .glo "_real", .glo "low_uses", .glo "low_hands", .glo "low_end_uses", .glo "run_to_end", .glo "do_out", .glo "do_in", .glo "do_more", .glo "do_go", .glo "run_low", .glo "_set"] : List He.Fa) ++ ([.glo "_name", .glo "_slot", .glo "_three", .glo "_imm", .glo "_load", .glo "_store", .glo "_must", .glo "_deep", .glo "_call", .glo "_branch", .glo "_return", .glo "_tail", .glo "_law_cell_at", .glo "_law_draw", .glo "_law_number", .glo "_law_next", .glo "_law_pick", .glo "_law_main", .glo "law", .glo "KINDS_OF_WORK"] : List He.Fa) ++ ([.glo "KINDS", .glo "GIVEN", .glo "USED", .glo "DEEDS", .glo "Going", .glo "RowFrame", .glo "RowRun", .glo "LowFrame", .glo "LowRun", .free "len", .free "tuple", .free "int", .free "range", .free "zip", .free "list", .free "dict", .int "GREATEST" (4294967295), .int "HALF" (2147483648), .int "NOUGHT" (-1), .int "BYTES" (4)] : List He.Fa) ++ ([.int "GLOBALS_START" (4096), .int "SLOTS_START" (1073741824), .cls "Going", .cls "RowFrame", .cls "RowRun", .cls "LowFrame", .cls "LowRun", .meth "Going" "__init__", .meth "Going" "trap", .meth "Going" "take", .meth "Going" "more", .meth "RowFrame" "__init__", .meth "RowFrame" "begin_block", .meth "RowFrame" "all_worths", .meth "RowFrame" "go", .meth "RowFrame" "next_row", .meth "RowFrame" "last_row", .meth "RowRun" "__init__", .meth "RowRun" "give_back", .meth "LowFrame" "__init__"] : List He.Fa) ++ ([.meth "LowRun" "__init__", .meth "LowRun" "begin", .meth "LowRun" "end_frame", .meth "LowRun" "step", .meth "LowRun" "spot"] : List He.Fa)
def hts : List He.Tab := [(fun K => He.ga K "KINDS_OF_WORK", ["add", "sub", "mul", "and", "or", "xor", "shl", "shr", "sar", "lts", "ltu", "eq", "divs", "rems", "divu", "remu"]), (fun K => He.ga K "KINDS", ((["add", "sub", "sll", "slt", "sltu", "xor", "srl", "sra", "or", "and", "mul", "div", "divu", "rem", "remu", "addi", "slti", "sltiu", "xori", "ori"] : List Str) ++ (["andi", "slli", "srli", "srai"] : List Str))), (fun K => He.ga K "GIVEN", ["set", "name", "slot", "three", "imm", "load", "deep", "call", "in", "more"]), (fun K => He.ga K "USED", ["set", "name", "slot", "three", "imm", "load", "store", "must", "deep", "out", "in", "more"]), (fun K => He.ga K "DEEDS", ["set", "name", "slot", "three", "imm", "load", "store", "must", "deep", "call", "out", "in", "more", "go", "branch", "return", "tail", "trap"])]
def sample : List Rk := [.set 0 0, .inp 0, .out 0, .more 0, .three 0 0 0 0, .imm 0 0 0 0, .name 0, .slot 0 0, .load 0 .nm 0, .store 0 .nm 0, .must 0 0 0 "", .deep 0 0 0, .call 0 "" [], .branch 0 0 0 0 [] 0 [], .ret 0, .go 0 [], .tail "" []]
theorem sample_mem (k : Rk) : (rkN k, ddN k) ∈ sample.map fun k => (rkN k, ddN k) := by cases k <;> simp [sample, rkN, ddN]
def mkB (K : PySem.W.Frag) (c : Str) : Bool := PySem.W.makesIn K (He.ga K c) && PySem.W.keepIn K (.ref (He.ga K c))
def cfB (K : PySem.W.Frag) (C : Addr) (m : Str) : Bool := PySem.W.readsIn K C (.type "type") && (He.eqO (PySem.W.specialIn K (.ref C) "__getattribute__") (some (some (.builtin "type.__getattribute__"))) && (match PySem.W.findCls K (.ref C) (.type "type") m with
  | some (.val (.ref f)) => He.eqO (PySem.W.findIn K (.ref C) m) (some (some (.ref f)))
  | _ => false))
theorem cfB_ok {K : PySem.W.Frag} {C : Addr} {m : Str} (h : cfB K C m = true) : Mh.Cf K C m := by
  unfold cfB at h
  obtain ⟨h1, h⟩ := He.ba h
  obtain ⟨h2, h⟩ := He.ba h
  split at h
  · rename_i f e
    exact ⟨.type "type", f, ⟨h1, He.eqO_ok h2⟩, He.eqO_ok h, e⟩
  · cases h
def hex (K : PySem.W.Frag) : Bool := ((He.valsB K (He.ga K "KINDS") [("sub", He.Dv.str "sub"), ("slti", He.Dv.str "lts"), ("addi", He.Dv.str "add"), ("add", He.Dv.str "add")]) && ((He.valsB K (He.ga K "KINDS_OF_WORK") [("sub", He.Dv.glo "_sub"), ("lts", He.Dv.glo "_lts"), ("add", He.Dv.glo "_add")]) && ((He.valsB K (He.ga K "DEEDS") (sample.map fun k => (rkN k, He.Dv.glo (ddN k)))) && ((He.valsB K (He.ga K "GIVEN") [("set", He.Dv.int 1), ("name", He.Dv.int 1), ("slot", He.Dv.int 1), ("three", He.Dv.int 2), ("imm", He.Dv.int 2), ("load", He.Dv.int 1), ("deep", He.Dv.int 1), ("call", He.Dv.int 1), ("in", He.Dv.int 1), ("more", He.Dv.int 1)]) && (((["store", "out"] : List Str).all fun f => He.eqO (PySem.W.nsIn K (He.ga K "GIVEN") f) (some none)) && ((Kg.entA K (He.ga K "USED") "store" [.int 1]) && ((Kg.entA K (He.ga K "USED") "load" []) && ((mkB K "LowFrame") && ((mkB K "LowRun") && ((frF.all fun f => He.eqO (PySem.W.findIn K (.ref (He.ga K "LowFrame")) f) (some none)) && ((goF.all fun f => He.eqO (PySem.W.findIn K (.ref (He.ga K "LowRun")) f) (some none)) && ((([("LowRun", "trap", "Going"), ("LowRun", "take", "Going"), ("LowRun", "more", "Going"), ("LowRun", "give_back", "RowRun"), ("LowFrame", "begin_block", "RowFrame"), ("LowFrame", "all_worths", "RowFrame"), ("LowFrame", "go", "RowFrame"), ("LowFrame", "next_row", "RowFrame"), ("LowFrame", "last_row", "RowFrame")] : List (Str × Str × Str)).all fun q => He.eqO (PySem.W.findIn K (.ref (He.ga K q.1)) q.2.1) (some (some (.ref (He.ma K (He.ga K q.2.2) q.2.1)))) && He.eqO (PySem.W.findIn K (.ref (He.ga K q.2.2)) q.2.1) (some (some (.ref (He.ma K (He.ga K q.2.2) q.2.1))))) && ((cfB K (He.ga K "Going") "__init__") && ((cfB K (He.ga K "RowRun") "__init__") && ((cfB K (He.ga K "RowFrame") "__init__") && true)))))))))))))))
abbrev hk : PySem.W.Hook := Hy.hook 5 hfa hfn hts hex
def hob (s : PySem.W.SharedT) : He.AlX := Hy.look 5 hfa hfn hts hex (HandSHeadRun.getT s)
theorem hob_eq (s : PySem.W.SharedT) : hob s = hk.obs s.abs := Hy.look_eq (HandSHeadRun.getT_eq s)
def hloose : List Str := (["GREATEST", "HALF", "word_of", "signed", "_add", "_sub", "_mul", "_and", "_or", "_xor", "_shl", "_shr", "_sar", "_lts", "_ltu", "_eq", "_divs", "_rems", "_divu", "_remu"] : List Str) ++ (["KINDS_OF_WORK", "apply", "KINDS", "made_of", "_mulh", "_mulhsu", "_mulhu", "HIGH_PARTS", "is_branch_taken", "NOUGHT", "GIVEN", "USED", "low_gives", "_real", "low_uses", "low_hands", "low_end_uses", "Going", "RowFrame", "RowRun"] : List Str) ++ (["run_to_end", "do_out", "do_in", "do_more", "do_go", "do_trap", "BYTES", "GLOBALS_START", "SLOTS_START", "run_low", "LowFrame", "LowRun", "_set", "_name", "_slot", "_three", "_imm", "_load", "_store", "_must"] : List Str) ++ (["_deep", "_call", "_branch", "_return", "_tail", "DEEDS", "_law_cell_at", "_law_draw", "_law_number", "_law_next", "_law_pick", "_law_main"] : List Str)
theorem hrunFl (w : World) : Hy.Shows (PySem.W.OpenLaw.row PySem.Challenge.rw_trueimage_k55_known_low_runs) 9000 (w.withFollow "special-get-raises" false) (fun s => HandSHeadRun.looksF (PySem.W.OpenLaw.row PySem.Challenge.rw_trueimage_k55_known_low_runs).prog (PySem.W.boot_heap (w.withFollow "special-get-raises" false).params) s.abs) true := by
  intro os
  kernel_rfl
theorem hrunFs (w : World) : Hy.Shows (PySem.W.OpenLaw.row PySem.Challenge.rw_trueimage_k55_known_low_runs) 9000 (w.withFollow "special-get-raises" false) (fun s => HandSHeadRun.seenQ (PySem.W.view (PySem.W.OpenLaw.row PySem.Challenge.rw_trueimage_k55_known_low_runs).prog [79]) hloose (PySem.importedModules (PySem.W.OpenLaw.row PySem.Challenge.rw_trueimage_k55_known_low_runs).prog.main.body) (fun s => PySem.W.xlAt (PySem.W.view (PySem.W.OpenLaw.row PySem.Challenge.rw_trueimage_k55_known_low_runs).prog [79]) [] s && PySem.W.recOk (PySem.W.OpenLaw.row PySem.Challenge.rw_trueimage_k55_known_low_runs).toRowW.records s) s.abs) (PySem.W.openGood (PySem.W.view (PySem.W.OpenLaw.row PySem.Challenge.rw_trueimage_k55_known_low_runs).prog [79]) hloose) := by
  intro os
  kernel_rfl
theorem hrunFo (w : World) : Hy.Shows (PySem.W.OpenLaw.row PySem.Challenge.rw_trueimage_k55_known_low_runs) 9000 (w.withFollow "special-get-raises" false) (fun s => He.obsT hfa hfn hts (Hy.part (HandSHeadRun.getT s) 5)) (He.valT hfn hts (w.withFollow "special-get-raises" false)) := by
  intro os
  kernel_rfl
theorem hrunFx (w : World) : Hy.Shows (PySem.W.OpenLaw.row PySem.Challenge.rw_trueimage_k55_known_low_runs) 9000 (w.withFollow "special-get-raises" false) (fun s => hex (Hy.part (HandSHeadRun.getT s) 5)) true := by
  intro os
  kernel_rfl
theorem hrunF (w : World) : HandSHeadRun.RunEq (PySem.W.OpenLaw.row PySem.Challenge.rw_trueimage_k55_known_low_runs) (PySem.W.view (PySem.W.OpenLaw.row PySem.Challenge.rw_trueimage_k55_known_low_runs).prog [79]) hk hob 9000 hloose (w.withFollow "special-get-raises" false) := (hrunFl w).both ((hrunFs w).both ((hrunFo w).both (hrunFx w)))
theorem hrunTl (w : World) : Hy.Shows (PySem.W.OpenLaw.row PySem.Challenge.rw_trueimage_k55_known_low_runs) 9000 (w.withFollow "special-get-raises" true) (fun s => HandSHeadRun.looksF (PySem.W.OpenLaw.row PySem.Challenge.rw_trueimage_k55_known_low_runs).prog (PySem.W.boot_heap (w.withFollow "special-get-raises" true).params) s.abs) true := by
  intro os
  kernel_rfl
theorem hrunTs (w : World) : Hy.Shows (PySem.W.OpenLaw.row PySem.Challenge.rw_trueimage_k55_known_low_runs) 9000 (w.withFollow "special-get-raises" true) (fun s => HandSHeadRun.seenQ (PySem.W.view (PySem.W.OpenLaw.row PySem.Challenge.rw_trueimage_k55_known_low_runs).prog [79]) hloose (PySem.importedModules (PySem.W.OpenLaw.row PySem.Challenge.rw_trueimage_k55_known_low_runs).prog.main.body) (fun s => PySem.W.xlAt (PySem.W.view (PySem.W.OpenLaw.row PySem.Challenge.rw_trueimage_k55_known_low_runs).prog [79]) [] s && PySem.W.recOk (PySem.W.OpenLaw.row PySem.Challenge.rw_trueimage_k55_known_low_runs).toRowW.records s) s.abs) (PySem.W.openGood (PySem.W.view (PySem.W.OpenLaw.row PySem.Challenge.rw_trueimage_k55_known_low_runs).prog [79]) hloose) := by
  intro os
  kernel_rfl
theorem hrunTo (w : World) : Hy.Shows (PySem.W.OpenLaw.row PySem.Challenge.rw_trueimage_k55_known_low_runs) 9000 (w.withFollow "special-get-raises" true) (fun s => He.obsT hfa hfn hts (Hy.part (HandSHeadRun.getT s) 5)) (He.valT hfn hts (w.withFollow "special-get-raises" true)) := by
  intro os
  kernel_rfl
theorem hrunTx (w : World) : Hy.Shows (PySem.W.OpenLaw.row PySem.Challenge.rw_trueimage_k55_known_low_runs) 9000 (w.withFollow "special-get-raises" true) (fun s => hex (Hy.part (HandSHeadRun.getT s) 5)) true := by
  intro os
  kernel_rfl
theorem hrunT (w : World) : HandSHeadRun.RunEq (PySem.W.OpenLaw.row PySem.Challenge.rw_trueimage_k55_known_low_runs) (PySem.W.view (PySem.W.OpenLaw.row PySem.Challenge.rw_trueimage_k55_known_low_runs).prog [79]) hk hob 9000 hloose (w.withFollow "special-get-raises" true) := (hrunTl w).both ((hrunTs w).both ((hrunTo w).both (hrunTx w)))
theorem hrun (w : World) : HandSHeadRun.RunEq (PySem.W.OpenLaw.row PySem.Challenge.rw_trueimage_k55_known_low_runs) (PySem.W.view (PySem.W.OpenLaw.row PySem.Challenge.rw_trueimage_k55_known_low_runs).prog [79]) hk hob 9000 hloose w := PySem.W.byRow2 "special-get-raises" (P := fun w => HandSHeadRun.RunEq (PySem.W.OpenLaw.row PySem.Challenge.rw_trueimage_k55_known_low_runs) (PySem.W.view (PySem.W.OpenLaw.row PySem.Challenge.rw_trueimage_k55_known_low_runs).prog [79]) hk hob 9000 hloose w) hrunF hrunT w
end K55E


namespace K55
open PySem PyProof.Rows L2 My Ru M55
open Builtin (bitAnd bitOr)
theorem m32 (x : Int) : bitAnd x 4294967295 = x % 4294967296 := PySem.W.kbt_mask x 32
theorem m2 (x : Int) : bitAnd x 3 = x % 4 := PySem.W.kbt_mask x 2
theorem dec_i (a b : Int) : decide (V.int a = V.int b) = decide (a = b) := by
  by_cases h : a = b
  · rw [decide_eq_true h, decide_eq_true (by rw [h])]
  · rw [decide_eq_false h, decide_eq_false (fun z => h (by injection z))]
theorem bl_eq (p q : Bool) : decide (V.bl p = V.bl q) = (p == q) := by cases p <;> cases q <;> rfl
theorem beq_t (p q : Bool) (h : q = true) : (p == q) = p := by rw [h]; cases p <;> rfl
theorem beq_f (p q : Bool) (h : q = false) : (p == q) = !p := by rw [h]; cases p <;> rfl
theorem kdct_ns {K : PySem.W.Frag} {w : World} {a : Addr} {x : Str} {v : V} (h : KDct K w a x v) : ∃ r, PySem.W.nsIn K a x = some (some r) := by
  obtain ⟨es, n, u, h1, h2, h3, h4⟩ := h
  exact ⟨u, h3⟩
/-! promises: words -/
def kiS (o : Nat) : Str := if o = 0 then "sub" else if o = 1 then "lts" else "add"
def sp_word_of (K : PySem.W.Frag) : Sp := sp1 fun x H Q _ => ∃ n : Int, x = .int n ∧ Q (.int (n % 4294967296)) H
def sp_signed (K : PySem.W.Frag) : Sp := sp1 fun x H Q _ => ∃ n : Int, x = .int n ∧ Q (.int (sg n)) H
def spMk (o : Nat) : Sp := sp2 fun x y H Q _ => ∃ a b : Int, x = .int a ∧ y = .int b ∧ Q (.int (made o a b)) H
def sp__add (K : PySem.W.Frag) : Sp := spMk 2
def sp__sub (K : PySem.W.Frag) : Sp := spMk 0
def sp__lts (K : PySem.W.Frag) : Sp := spMk 1
def sp_apply (K : PySem.W.Frag) : Sp := sp3 fun x y z H Q _ => ∃ (o : Nat) (a b : Int), x = .str (kiS o) ∧ y = .int a ∧ z = .int b ∧ Q (.int (made o a b)) H
def sp_made_of (K : PySem.W.Frag) : Sp := sp3 fun x y z H Q _ => ∃ (o : Nat) (a b : Int), x = .str (opS o) ∧ y = .int a ∧ z = .int b ∧ Q (.int (made o a b)) H
def sp_is_branch_taken (K : PySem.W.Frag) : Sp := sp3 fun x y z H Q _ => ∃ (o : Nat) (a b : Int), x = .str (brS o) ∧ y = .int a ∧ z = .int b ∧ ∀ H', Same H H' → Q (.bl (takn o a b)) H'
theorem ki_cases (o : Nat) : (kiS o = "sub" ∧ ∀ a b, made o a b = made 0 a b) ∨ (kiS o = "lts" ∧ ∀ a b, made o a b = made 1 a b) ∨ (kiS o = "add" ∧ ∀ a b, made o a b = made 2 a b) := by
  by_cases h : o = 0
  · subst h; exact .inl ⟨rfl, fun _ _ => rfl⟩
  · by_cases h1 : o = 1
    · subst h1; exact .inr (.inl ⟨rfl, fun _ _ => rfl⟩)
    · exact .inr (.inr ⟨by unfold kiS; rw [if_neg h, if_neg h1], fun a b => by unfold made; rw [if_neg h, if_neg h1, if_neg (by decide), if_neg (by decide)]⟩)
theorem Txt.ki {K : PySem.W.Frag} {mg : Str → Option Value} {w : World} (T : Txt K mg w) (o : Nat) : KDct K w (He.ga K "KINDS") (opS o) (.str (kiS o)) := by
  unfold opS kiS
  split
  · exact T.ki_sub
  · split
    · exact T.ki_slti
    · split
      · exact T.ki_addi
      · exact T.ki_add
section
variable {P : Program} {w : World} {K : PySem.W.Frag} {mg : Str → Option Value} {base : Heap}
theorem sc_word_of : FnScope ["number"] ["number"] (defScope s_word_of) := ⟨rfl, rfl, rfl, by decide +kernel, rfl, by decide +kernel, by decide +kernel⟩
theorem g_word_of (T : Txt K mg w)  : Gd P w K mg base CX0 1 "word_of" ["number"] (sp_word_of K) := by
  have sc := sc_word_of
  refine T.d_word_of.ok sc len1 (fun _ _ _ _ _ _ us hl => match us, hl with | [_], _ => rfl) (fun f cdv A outer s H vs Q E hr h => ?_)
  obtain ⟨x0, rfl, h⟩ := h
  obtain ⟨n, rfl, h⟩ := h
  refine ⟨_, (pss_one (ps_ret (pe_op op_and (pv 0) (pe_gint T.c_GREATEST)))), ?_⟩
  refine ⟨_, rfl, _, _, rfl, rfl, ?_⟩
  show Q (.int (bitAnd n 4294967295)) H
  rw [m32]
  exact h
theorem sc_signed : FnScope ["word"] ["word"] (defScope s_signed) := ⟨rfl, rfl, rfl, by decide +kernel, rfl, by decide +kernel, by decide +kernel⟩
theorem g_signed (T : Txt K mg w)  : Gd P w K mg base CX0 1 "signed" ["word"] (sp_signed K) := by
  have sc := sc_signed
  refine T.d_signed.ok sc len1 (fun _ _ _ _ _ _ us hl => match us, hl with | [_], _ => rfl) (fun f cdv A outer s H vs Q E hr h => ?_)
  obtain ⟨x0, rfl, h⟩ := h
  obtain ⟨n, rfl, h⟩ := h
  refine ⟨_, (pss_cons (ps_if (pt_cmpR op_ge (pv 0) (pe_gint T.c_HALF) (nomark _)) (pss_one (ps_ret (pe_op op_sub (pe_op op_sub (pv 0) (pe_gint T.c_GREATEST)) pe_int))) pss_nil)
      (pss_one (ps_ret (pv 0)))), ?_⟩
  refine ⟨_, rfl, _, _, rfl, rfl, _, rfl, ?_⟩
  unfold sg at h
  by_cases c : (2147483648 : Int) ≤ n
  · rw [if_pos c] at h
    refine if_true_of (decide_eq_true c) ?_
    refine ⟨_, rfl, _, _, rfl, rfl, _, _, rfl, rfl, ?_⟩
    show Q (.int (n - 4294967295 - 1)) H
    rw [show n - 4294967295 - 1 = n - 4294967296 by omega]
    exact h
  · rw [if_neg c] at h
    refine if_false_of (decide_eq_false c) ?_
    exact ⟨_, rfl, h⟩
theorem sc__add : FnScope ["a", "b"] ["a", "b"] (defScope s__add) := ⟨rfl, rfl, rfl, by decide +kernel, rfl, by decide +kernel, by decide +kernel⟩
theorem g__add (T : Txt K mg w) (G_word_of : Gd P w K mg base CX0 1 "word_of" ["number"] (sp_word_of K)) : Gd P w K mg base CX0 2 "_add" ["a", "b"] (sp__add K) := by
  have sc := sc__add
  refine T.d__add.ok sc len2 (fun _ _ _ _ _ _ us hl => match us, hl with | [_, _], _ => rfl) (fun f cdv A outer s H vs Q E hr h => ?_)
  obtain ⟨x0, x1, rfl, h⟩ := h
  obtain ⟨a, b, rfl, rfl, h⟩ := h
  refine ⟨_, (pss_one (ps_ret (pe_g G_word_of (hr.mono (by omega)) pass0 (pa_cons (pe_op op_add (pv 0) (pv 1)) pa_nil)))), ?_⟩
  exact ⟨_, rfl, _, rfl, _, _, rfl, rfl, _, rfl, _, rfl, h⟩
theorem sc__sub : FnScope ["a", "b"] ["a", "b"] (defScope s__sub) := ⟨rfl, rfl, rfl, by decide +kernel, rfl, by decide +kernel, by decide +kernel⟩
theorem g__sub (T : Txt K mg w) (G_word_of : Gd P w K mg base CX0 1 "word_of" ["number"] (sp_word_of K)) : Gd P w K mg base CX0 2 "_sub" ["a", "b"] (sp__sub K) := by
  have sc := sc__sub
  refine T.d__sub.ok sc len2 (fun _ _ _ _ _ _ us hl => match us, hl with | [_, _], _ => rfl) (fun f cdv A outer s H vs Q E hr h => ?_)
  obtain ⟨x0, x1, rfl, h⟩ := h
  obtain ⟨a, b, rfl, rfl, h⟩ := h
  refine ⟨_, (pss_one (ps_ret (pe_g G_word_of (hr.mono (by omega)) pass0 (pa_cons (pe_op op_sub (pv 0) (pv 1)) pa_nil)))), ?_⟩
  exact ⟨_, rfl, _, rfl, _, _, rfl, rfl, _, rfl, _, rfl, h⟩
theorem sc__lts : FnScope ["a", "b"] ["a", "b"] (defScope s__lts) := ⟨rfl, rfl, rfl, by decide +kernel, rfl, by decide +kernel, by decide +kernel⟩
theorem g__lts (T : Txt K mg w) (G_signed : Gd P w K mg base CX0 1 "signed" ["word"] (sp_signed K)) : Gd P w K mg base CX0 2 "_lts" ["a", "b"] (sp__lts K) := by
  have sc := sc__lts
  refine T.d__lts.ok sc len2 (fun _ _ _ _ _ _ us hl => match us, hl with | [_, _], _ => rfl) (fun f cdv A outer s H vs Q E hr h => ?_)
  obtain ⟨x0, x1, rfl, h⟩ := h
  obtain ⟨a, b, rfl, rfl, h⟩ := h
  refine ⟨_, (pss_one (ps_ret (pe_ifExp (pt_cmpR op_lt (pe_g G_signed (hr.mono (by omega)) pass0 (pa_cons (pv 0) pa_nil)) (pe_g G_signed (hr.mono (by omega)) pass0 (pa_cons (pv 1) pa_nil)) (nomark _)) pe_int pe_int))), ?_⟩
  refine ⟨_, rfl, _, rfl, _, rfl, _, rfl, _, rfl, _, rfl, _, _, rfl, rfl, _, rfl, ?_⟩
  have e : made 1 a b = if sg a < sg b then 1 else 0 := rfl
  rw [e] at h
  by_cases c : sg a < sg b
  · rw [if_pos c] at h
    exact if_true_of (decide_eq_true c) h
  · rw [if_neg c] at h
    exact if_false_of (decide_eq_false c) h
theorem sc_apply : FnScope ["kind", "a", "b", "work"] ["kind", "a", "b"] (defScope s_apply) := ⟨rfl, rfl, rfl, by decide +kernel, rfl, by decide +kernel, by decide +kernel⟩
theorem g_apply (T : Txt K mg w) (G__sub : Gd P w K mg base CX0 2 "_sub" ["a", "b"] (sp__sub K)) (G__lts : Gd P w K mg base CX0 2 "_lts" ["a", "b"] (sp__lts K)) (G__add : Gd P w K mg base CX0 2 "_add" ["a", "b"] (sp__add K)) : Gd P w K mg base CX0 3 "apply" ["kind", "a", "b"] (sp_apply K) := by
  have sc := sc_apply
  refine T.d_apply.ok sc len3 (fun _ _ _ _ _ _ us hl => match us, hl with | [_, _, _], _ => rfl) (fun f cdv A outer s H vs Q E hr h => ?_)
  obtain ⟨x0, x1, x2, rfl, h⟩ := h
  obtain ⟨o, a, b, rfl, rfl, rfl, h⟩ := h
  have HB_work : ∀ f sp, ((f = He.ga K "_sub" ∧ sp = sp__sub K) ∨ (f = He.ga K "_lts" ∧ sp = sp__lts K) ∨ (f = He.ga K "_add" ∧ sp = sp__add K)) → Held P w K mg base CX0 2 f sp := by
    rintro f sp (⟨rfl, rfl⟩ | ⟨rfl, rfl⟩ | ⟨rfl, rfl⟩)
    · exact held_of G__sub (by omega) T.ga__sub
    · exact held_of G__lts (by omega) T.ga__lts
    · exact held_of G__add (by omega) T.ga__add
  refine ⟨_, (pss_cons (ps_set (i := 3) sc.nd rfl (Or.inl rfl) (pe_ix ix_kdict (pe_gref T.c_KINDS_OF_WORK) (pv 0) (fun _ _ => rfl)))
      (pss_one (ps_ret (Ru.pe_callV (i := 3) HB_work (hr.mono (by omega)) rfl (Or.inl rfl) pass0 (pa_cons (pv 1) (pa_cons (pv 2) pa_nil)))))), ?_⟩
  rcases ki_cases o with ⟨e, f⟩ | ⟨e, f⟩ | ⟨e, f⟩
  · rw [f] at h
    rw [e]
    exact ⟨_, rfl, _, _, _, rfl, rfl, T.kw_sub, _, _, rfl, .inl ⟨rfl, rfl⟩, _, rfl, _, rfl, _, _, rfl, a, b, rfl, rfl, h⟩
  · rw [f] at h
    rw [e]
    exact ⟨_, rfl, _, _, _, rfl, rfl, T.kw_lts, _, _, rfl, .inr (.inl ⟨rfl, rfl⟩), _, rfl, _, rfl, _, _, rfl, a, b, rfl, rfl, h⟩
  · rw [f] at h
    rw [e]
    exact ⟨_, rfl, _, _, _, rfl, rfl, T.kw_add, _, _, rfl, .inr (.inr ⟨rfl, rfl⟩), _, rfl, _, rfl, _, _, rfl, a, b, rfl, rfl, h⟩
theorem sc_made_of : FnScope ["name", "one", "other", "high"] ["name", "one", "other"] (defScope s_made_of) := ⟨rfl, rfl, rfl, by decide +kernel, rfl, by decide +kernel, by decide +kernel⟩
theorem g_made_of (T : Txt K mg w) (G_apply : Gd P w K mg base CX0 3 "apply" ["kind", "a", "b"] (sp_apply K)) : Gd P w K mg base CX0 4 "made_of" ["name", "one", "other"] (sp_made_of K) := by
  have sc := sc_made_of
  refine T.d_made_of.ok sc len3 (fun _ _ _ _ _ _ us hl => match us, hl with | [_, _, _], _ => rfl) (fun f cdv A outer s H vs Q E hr h => ?_)
  obtain ⟨x0, x1, x2, rfl, h⟩ := h
  obtain ⟨o, a, b, rfl, rfl, rfl, h⟩ := h
  obtain ⟨esK, nK, kd_KINDS⟩ := T.k_KINDS
  refine ⟨_, (pss_cons (ps_if (pt_cmpR (op_in_kd kd_KINDS) (pv 0) (pe_gref T.c_KINDS) rfl) (pss_one (ps_ret (pe_g G_apply (hr.mono (by omega)) pass0 (pa_cons (pe_ix ix_kdict (pe_gref T.c_KINDS) (pv 0) (fun _ _ => rfl)) (pa_cons (pv 1) (pa_cons (pv 2) pa_nil)))))) pss_nil)
      (pss_cons ps_never
      (pss_one ps_never))), ?_⟩
  obtain ⟨r, hk⟩ := kdct_ns (T.ki o)
  refine ⟨_, rfl, _, some r, rfl, rfl, hk, _, rfl, if_true_of rfl ?_⟩
  exact ⟨_, rfl, _, _, _, rfl, rfl, T.ki o, _, rfl, _, rfl, _, _, _, rfl, o, a, b, rfl, rfl, rfl, h⟩
theorem sc_is_branch_taken : FnScope ["name", "one", "other"] ["name", "one", "other"] (defScope s_is_branch_taken) := ⟨rfl, rfl, rfl, by decide +kernel, rfl, by decide +kernel, by decide +kernel⟩
theorem g_is_branch_taken (T : Txt K mg w) (G_signed : Gd P w K mg base CX0 1 "signed" ["word"] (sp_signed K)) : Gd P w K mg base CX0 2 "is_branch_taken" ["name", "one", "other"] (sp_is_branch_taken K) := by
  have sc := sc_is_branch_taken
  refine T.d_is_branch_taken.ok sc len3 (fun _ _ _ _ _ _ us hl => match us, hl with | [_, _, _], _ => rfl) (fun f cdv A outer s H vs Q E hr h => ?_)
  obtain ⟨x0, x1, x2, rfl, h⟩ := h
  obtain ⟨o, a, b, rfl, rfl, rfl, h⟩ := h
  refine ⟨_, (pss_cons (ps_if (pt_cmpR op_in_seq (pv 0) (pe_tup (pa_cons pe_str (pa_cons pe_str pa_nil))) rfl) (pss_one (ps_ret (pe_cmpR op_eq (pe_cmpR op_eq (pv 1) (pv 2) (nomark _)) (pe_cmpR op_eq (pv 0) pe_str (nomark _)) (nomark _)))) pss_nil)
      (pss_cons (ps_if (pt_cmpR op_in_seq (pv 0) (pe_tup (pa_cons pe_str (pa_cons pe_str pa_nil))) rfl) (pss_one (ps_ret (pe_cmpR op_eq (pe_cmpR op_lt (pe_g G_signed (hr.mono (by omega)) pass0 (pa_cons (pv 1) pa_nil)) (pe_g G_signed (hr.mono (by omega)) pass0 (pa_cons (pv 2) pa_nil)) (nomark _)) (pe_cmpR op_eq (pv 0) pe_str (nomark _)) (nomark _)))) pss_nil)
      (pss_one (ps_ret (pe_cmpR op_eq (pe_cmpR op_lt (pv 1) (pv 2) (nomark _)) (pe_cmpR op_eq (pv 0) pe_str (nomark _)) (nomark _)))))), ?_⟩
  by_cases z : o = 0
  · subst z
    refine ⟨_, rfl, (by show 2 ≤ sizeLine; decide), fun t1 ht1 => ⟨t1, _, rfl, Or.inr (SqT.of upd_same), rfl, rfl, _, rfl, if_false_of rfl ?_⟩⟩
    refine ⟨_, rfl, (by show 2 ≤ sizeLine; decide), fun t2 ht2 => ⟨t2, _, rfl, Or.inr (SqT.of upd_same), rfl, rfl, _, rfl, if_true_of rfl ?_⟩⟩
    refine ⟨_, rfl, _, rfl, _, rfl, _, rfl, _, rfl, _, rfl, _, _, rfl, rfl, _, rfl, rfl, rfl, ?_⟩
    show Q (.bl (decide (V.bl (decide (sg a < sg b)) = V.bl (decide (V.str "bge" = V.str "blt"))))) _
    rw [bl_eq, beq_f _ _ (by decide +kernel)]
    exact h _ (Same.tr (same_new ht1) (same_new ht2))
  · have e : brS o = "bltu" := if_neg z
    have e2 : takn o a b = decide (a < b) := if_neg z
    rw [e2] at h
    rw [e]
    refine ⟨_, rfl, (by show 2 ≤ sizeLine; decide), fun t1 ht1 => ⟨t1, _, rfl, Or.inr (SqT.of upd_same), rfl, rfl, _, rfl, if_false_of rfl ?_⟩⟩
    refine ⟨_, rfl, (by show 2 ≤ sizeLine; decide), fun t2 ht2 => ⟨t2, _, rfl, Or.inr (SqT.of upd_same), rfl, rfl, _, rfl, if_false_of rfl ?_⟩⟩
    refine ⟨_, rfl, _, rfl, _, _, rfl, rfl, _, rfl, rfl, rfl, ?_⟩
    show Q (.bl (decide (V.bl (decide (a < b)) = V.bl (decide (V.str "bltu" = V.str "bltu"))))) _
    rw [bl_eq, beq_t _ _ (by decide +kernel)]
    exact h _ (Same.tr (same_new ht1) (same_new ht2))
end
end K55

namespace K55
open PySem PyProof.Rows L2 My Ru M55
open Builtin (bitAnd bitOr)
theorem SqT.but {K : PySem.W.Frag} {as : List Addr} {H H' : Hp} {p : Addr} {xs : List V} (b : ButL as H H') (n : ∀ a ∈ as, ∃ o, H a = some o ∧ (∀ ys, o ≠ .tup ys) ∧ ∀ ob u, o ≠ .frz ob u) (h : SqT K H p xs) : SqT K H' p xs := by
  rcases h with (h | ⟨o, h⟩) | h
  · refine .inl (.inl (b _ _ h fun z => ?_))
    obtain ⟨o, e, f, _⟩ := n _ z
    rw [h] at e
    exact f xs (Option.some.inj e).symm
  · refine .inl (.inr ⟨o, b _ _ h fun z => ?_⟩)
    obtain ⟨u, e, _, f⟩ := n _ z
    rw [h] at e
    exact f _ _ (Option.some.inj e).symm
  · exact .inr h
theorem SqT.same {K : PySem.W.Frag} {H H' : Hp} {p : Addr} {xs : List V} (s : Same H H') (h : SqT K H p xs) : SqT K H' p xs := by
  rcases h with (h | ⟨o, h⟩) | h
  · exact .inl (.inl (s _ _ h))
  · exact .inl (.inr ⟨o, s _ _ h⟩)
  · exact .inr h
theorem SqL.same {K : PySem.W.Frag} {H H' : Hp} {p : Addr} {xs : List V} (s : Same H H') (h : SqL K H p xs) : SqL K H' p xs := by
  rcases h with (h | ⟨o, h⟩) | h
  · exact .inl (.inl (s _ _ h))
  · exact .inl (.inr ⟨o, s _ _ h⟩)
  · exact .inr h
def ffx (bv : V) (dw : Addr) (rv ev av : V) (xs : List (Str × V)) : List (Str × V) := ("blocks", bv) :: ("worths", .ref dw) :: ("rows", rv) :: ("end_row", ev) :: ("at", av) :: xs
def xsF (xs : List (Str × V)) : Prop := xs = [] ∨ ∃ u v : V, xs = [(("first" : Str), u), (("slots" : Str), v)]
theorem xsF.len {xs : List (Str × V)} (h : xsF xs) : xs.length ≤ 2 := by
  rcases h with rfl | ⟨u, v, rfl⟩ <;> simp
theorem naF {K : PySem.W.Frag} {mg : Str → Option Value} {w : World} (T : Txt K mg w) {f : Str} (h : f ∈ frF) : NoAttr K (CLF K) f := T.na_LowFrame f h
theorem naG {K : PySem.W.Frag} {mg : Str → Option Value} {w : World} (T : Txt K mg w) {f : Str} (h : f ∈ goF) : NoAttr K (CLR K) f := T.na_LowRun f h
theorem f_bl : ("blocks" : Str) ∈ frF := by decide +kernel
theorem f_wo : ("worths" : Str) ∈ frF := by decide +kernel
theorem f_ro : ("rows" : Str) ∈ frF := by decide +kernel
theorem f_en : ("end_row" : Str) ∈ frF := by decide +kernel
theorem f_at : ("at" : Str) ∈ frF := by decide +kernel
theorem f_fi : ("first" : Str) ∈ frF := by decide +kernel
theorem f_sl : ("slots" : Str) ∈ frF := by decide +kernel
def Sq2 (K : PySem.W.Frag) (H : Hp) (p : Addr) (xs : List V) : Prop := SqL K H p xs ∨ SqT K H p xs
theorem Sq2.same {K : PySem.W.Frag} {H H' : Hp} {p : Addr} {xs : List V} (s : Same H H') (h : Sq2 K H p xs) : Sq2 K H' p xs := h.imp (SqL.same s) (SqT.same s)
/-- a block is begun -/
def begins (H : Hp) (f fx dw : Addr) (bv : V) (xs : List (Str × V)) (w : List (Key × V)) (b : Bl) (as : List V) (K : PySem.W.Frag) (Q : V → Hp → Prop) : Prop :=
  ∀ (H' : Hp) (rv ev : V), ButL [f, dw] H H' → H' f = some (.ins (CLF K) fx (ffx bv dw rv ev (.int 0) xs)) → H' dw = some (.dK (mergeK w (mergeK [] ((b.ps.map inl).zip as)))) → DT H' rv (.tuple (b.rows.map rwD)) → DT H' ev (rwD b.en) → Q .non H'
def sp_RowFrame_begin_block (K : PySem.W.Frag) : Sp := sp3 fun x y z H Q _ => ∃ (f fx dw hd : Addr) (bv rv ev av : V) (xs : List (Str × V)) (w : List (Key × V)) (bs : List Bl) (g : Nat) (b : Bl) (as : List V),
  x = .ref f ∧ y = .int (g : Int) ∧ z = .ref hd ∧ H f = some (.ins (CLF K) fx (ffx bv dw rv ev av xs)) ∧ xsF xs ∧ DT H bv (.tuple (bs.map blD)) ∧ bs[g]? = some b ∧ H dw = some (.dK w) ∧ Sq2 K H hd as ∧ w.length + as.length ≤ 1000 ∧ hd ≠ f ∧ begins H f fx dw bv xs w b as K Q
def sp_RowFrame_all_worths (K : PySem.W.Frag) : Sp := sp2 fun x y H Q _ => ∃ (f fx dw t : Addr) (bv rv ev av : V) (xs : List (Str × V)) (w : List (Key × V)) (ns : List Int) (vs : List V), x = .ref f ∧ y = .ref t ∧ H f = some (.ins (CLF K) fx (ffx bv dw rv ev av xs)) ∧ H dw = some (.dK w) ∧
  H t = some (.tup (ns.map V.int)) ∧ vals w ns = some vs ∧ ns.length ≤ 1000 ∧ ∀ (H' : Hp) (l : Addr), Same H H' → H' l = some (.lst vs) → H l = none → Q (.ref l) H'
def sp_RowFrame_go (K : PySem.W.Frag) : Sp := sp3 fun x y z H Q _ => ∃ (f fx dw t : Addr) (bv rv ev av : V) (xs : List (Str × V)) (w : List (Key × V)) (bs : List Bl) (g : Nat) (b : Bl) (ns : List Int) (as : List V),
  x = .ref f ∧ y = .int (g : Int) ∧ z = .ref t ∧ H f = some (.ins (CLF K) fx (ffx bv dw rv ev av xs)) ∧ xsF xs ∧ DT H bv (.tuple (bs.map blD)) ∧ bs[g]? = some b ∧ H dw = some (.dK w) ∧ H t = some (.tup (ns.map V.int)) ∧ vals w ns = some as ∧ ns.length ≤ 1000 ∧ w.length + as.length ≤ 1000 ∧ begins H f fx dw bv xs w b as K Q
theorem vals_len {w : List (Key × V)} : ∀ {ns : List Int} {vs : List V}, vals w ns = some vs → vs.length = ns.length
  | [], vs, h => by injection h with h; rw [← h]; rfl
  | n :: ns, vs, h => by
    unfold vals at h
    split at h
    · rename_i v us e1 e2
      injection h with h
      rw [← h, List.length_cons, List.length_cons, vals_len e2]
    · cases h
theorem vals_get {w : List (Key × V)} : ∀ {ns : List Int} {vs : List V}, vals w ns = some vs → ∀ {i : Nat} {n : Int}, ns[i]? = some n → ∃ v, vs[i]? = some v ∧ valV w (inl n) = some v
  | [], vs, h, i, n, e => by simp at e
  | m :: ns, vs, h, i, n, e => by
    unfold vals at h
    split at h
    · rename_i v us e1 e2
      injection h with h
      subst h
      cases i with
      | zero =>
        injection e with e
        subst e
        exact ⟨v, rfl, e1⟩
      | succ i => exact vals_get e2 e
    · cases h
theorem take_snoc {α : Type} {xs : List α} {i : Nat} {x : α} (h : xs[i]? = some x) : xs.take (i + 1) = xs.take i ++ [x] := by
  rw [List.take_add_one, h]; rfl
def sp_RowFrame_next_row (K : PySem.W.Frag) : Sp := sp1 fun x H Q _ => ∃ (f fx dw : Addr) (bv rv ev : V) (n : Nat) (xs : List (Str × V)) (rows : List Rw) (er : Rw), x = .ref f ∧ H f = some (.ins (CLF K) fx (ffx bv dw rv ev (.int (n : Int)) xs)) ∧ xsF xs ∧ DT H rv (.tuple (rows.map rwD)) ∧ DT H ev (rwD er) ∧
  ∀ v, DT (upd H f (.ins (CLF K) fx (ffx bv dw rv ev (.int ((n + 1 : Nat) : Int)) xs))) v (rwD (rows.getD n er)) → Q v (upd H f (.ins (CLF K) fx (ffx bv dw rv ev (.int ((n + 1 : Nat) : Int)) xs)))
def sp_RowFrame_last_row (K : PySem.W.Frag) : Sp := sp1 fun x H Q _ => ∃ (f fx dw : Addr) (bv rv ev : V) (n : Nat) (xs : List (Str × V)) (rows : List Rw) (r : Rw), x = .ref f ∧ H f = some (.ins (CLF K) fx (ffx bv dw rv ev (.int (n : Int)) xs)) ∧ xsF xs ∧ DT H rv (.tuple (rows.map rwD)) ∧ 1 ≤ n ∧ rows[n - 1]? = some r ∧
  ∀ v, DT H v (rwD r) → Q v H
def sp_RowFrame___init__ (K : PySem.W.Frag) : Sp := sp4 fun x y z u H Q _ => ∃ (f fx dw hd : Addr) (bv : V) (w : List (Key × V)) (bs : List Bl) (b : Bl) (as : List V),
  x = .ref f ∧ y = bv ∧ z = .ref dw ∧ u = .ref hd ∧ H f = some (.ins (CLF K) fx []) ∧ DT H bv (.tuple (bs.map blD)) ∧ bs[0]? = some b ∧ H dw = some (.dK w) ∧ Sq2 K H hd as ∧ w.length + as.length ≤ 1000 ∧ hd ≠ f ∧ begins H f fx dw bv [] w b as K Q
/-- a new frame -/
def spFrame (H : Hp) (f fx : Addr) (fn : Fn) (as : List V) (n : Nat) (K : PySem.W.Frag) (Q : V → Hp → Prop) : Prop :=
  ∃ fr, begB ⟨fn.bs, [], ⟨.ret 0, 0, 0⟩, 0, [(inl (-1), V.int 0)], n, []⟩ 0 as = some fr ∧ ∀ (H' : Hp) (A : FA), A.f = f → A.fx = fx → ButL [f] H H' → H' f = some (.ins (CLF K) fx (ffs A fr)) → H' A.dw = some (.dK fr.w) → H' A.fs = some (.lst []) → FT H' A fr → H A.dw = none → H A.fs = none → A.dw ≠ A.fs → Q .non H'
def sp_LowFrame___init__ (K : PySem.W.Frag) : Sp := sp4 fun x y z u H Q _ => ∃ (f fx hd : Addr) (fn : Fn) (as : List V) (n : Nat),
  x = .ref f ∧ DT H y (fnD fn) ∧ z = .ref hd ∧ u = .int (n : Int) ∧ H f = some (.ins (CLF K) fx []) ∧ Sq2 K H hd as ∧ hd ≠ f ∧ spFrame H f fx fn as n K Q
theorem sz (n : Nat) (h : n ≤ 10000) : n ≤ sizeLine := by rw [sizeLine_eq]; omega
theorem sz' (n : Nat) (h : n ≤ 10000) : n < sizeLine := by rw [sizeLine_eq]; omega
section
variable {P : Program} {w : World} {K : PySem.W.Frag} {mg : Str → Option Value} {base : Heap}
theorem sc_RowFrame_begin_block : FnScope ["self", "number", "handed", "params"] ["self", "number", "handed"] (defScope s_RowFrame_begin_block) := ⟨rfl, rfl, rfl, by decide +kernel, rfl, by decide +kernel, by decide +kernel⟩
theorem g_RowFrame_begin_block (T : Txt K mg w)  : Gm P w K mg base CX0 1 (He.ga K "RowFrame") "begin_block" ["self", "number", "handed"] (sp_RowFrame_begin_block K) := by
  have sc := sc_RowFrame_begin_block
  refine T.d_RowFrame_begin_block.ok sc len3 (fun _ _ _ _ _ _ us hl => match us, hl with | [_, _, _], _ => rfl) (fun f cdv A outer s H vs Q E hr h => ?_)
  obtain ⟨x0, x1, x2, rfl, h⟩ := h
  obtain ⟨f, fx, dw, hd, bv, rv, ev, av, xs, w, bs, g, b, as, rfl, rfl, rfl, hf, hx, hb, hg, hw, ha, hz, hn, h⟩ := h
  obtain ⟨p, ys, rfl, hp, hys⟩ := hb.tupI
  have hd1 : (bs.map blD)[g]? = some (blD b) := by rw [List.getElem?_map, hg]; rfl
  obtain ⟨q, hq, hqb⟩ := hys.get hd1
  obtain ⟨q1, zs, rfl, hq1, hzs⟩ := hqb.tupI
  obtain ⟨v1, r1, rfl, d1, hr1⟩ := hzs.one
  obtain ⟨v2, r2, rfl, d2, hr2⟩ := hr1.one
  obtain ⟨v3, r3, rfl, d3, hr3⟩ := hr2.one
  obtain rfl := hr3.no
  obtain ⟨pp, pxs, rfl, hpp, hpxs⟩ := d1.tupI
  obtain rfl := hpxs.ints
  have hl := hx.len
  refine ⟨_, (pss_cons (ps_asg (pe_ix ix_tup (pe_fld (pv 0) rfl) (pv 1) (fun _ _ => rfl)) (pg_tup rfl (pgs_cons (pg_name (i := 3) sc.nd rfl (Or.inl rfl)) (pgs_cons (Q5.pg_fld (pv 0)) (pgs_cons (Q5.pg_fld (pv 0)) pgs_nil)))))
      (pss_cons (ps_expr (pe_bm PySem.F.plainAttrs_dict PySem.F.slot_dict_update PySem.F.type_dict_update Ki.mt_upd (pe_fld (pv 0) rfl) (pa_cons (Q5.pe_dictZip rfl (pa_cons (pv 3) (pa_cons (pv 2) pa_nil)) T.n_dict T.n_zip) pa_nil)))
      (pss_one (ps_fld (pv 0) pe_int rfl)))), ?_⟩
  refine ⟨_, rfl, f, _, fx, _, _, rfl, hf, T.cl_LowFrame.c, naF T f_bl, rfl, _, rfl, p, _, g, _, rfl, rfl, SqT.of hp, atI_nat hq, q1, _, rfl, SqT.of hq1, rfl, _, _, rfl, _, _, rfl, ?_⟩
  refine ⟨_, rfl, f, _, fx, _, rfl, hf, T.cl_LowFrame.c, naF T f_ro, (by show xs.length + 5 < 1000; omega), ?_⟩
  refine ⟨_, _, rfl, _, rfl, f, _, fx, _, rfl, upd_same, T.cl_LowFrame.c, naF T f_en, (by show xs.length + 5 < 1000; omega), rfl, ?_⟩
  generalize hG : upd (upd H f (.ins (CLF K) fx (putF "rows" v2 (ffx (.ref p) dw rv ev av xs)))) f (.ins (CLF K) fx (putF "end_row" v3 (putF "rows" v2 (ffx (.ref p) dw rv ev av xs)))) = G
  have b1 : ButL [f] H G := by rw [← hG]; exact ButL.trans (ButL.put (by simp)) (ButL.put (by simp))
  have g1 : G f = some (.ins (CLF K) fx (ffx (.ref p) dw v2 v3 av xs)) := by rw [← hG, upd_same]; rfl
  clear hG
  have nf : ∀ a ∈ [f], ∃ o, H a = some o ∧ (∀ ys, o ≠ .tup ys) ∧ ∀ ob u, o ≠ .frz ob u := by
    intro a ha
    obtain rfl : a = f := by simpa using ha
    exact ⟨_, hf, by simp, by simp⟩
  have ndw : dw ≠ f := ne_of hw hf (by simp)
  have gw : G dw = some (.dK w) := b1 _ _ hw (by simpa using ndw)
  have gp : G pp = some (.tup (b.ps.map V.int)) := b1 _ _ hpp (by simpa using ne_of hpp hf (by simp))
  have ga : Sq2 K G hd as := by
    rcases ha with ((h | ⟨o, h⟩) | h) | h
    · exact .inl (.inl (.inl (b1 _ _ h (by simpa using hn))))
    · exact .inl (.inl (.inr ⟨o, b1 _ _ h (by simpa using hn)⟩))
    · exact .inl (.inr h)
    · exact .inr (SqT.but b1 nf h)
  refine ⟨_, rfl, f, _, fx, _, _, rfl, g1, T.cl_LowFrame.c, naF T f_wo, rfl, .inr (.inr (.inl ⟨rfl, .inl ⟨w, gw⟩⟩)), ?_⟩
  refine ⟨_, rfl, _, rfl, pp, hd, b.ps.map inl, as, rfl, SqT.of (by rw [List.map_map]; exact gp), ga, fun n nn => ?_⟩
  have nd : dw ≠ n := ne_of_none gw nn
  refine ⟨dw, n, w, _, rfl, rfl, nd, same_new nn _ _ gw, upd_same, ?_, ?_⟩
  · have z1 := length_mergeK ((b.ps.map inl).zip as) []
    rw [List.length_nil, List.length_zip] at z1
    exact sz _ (by omega)
  refine ⟨_, rfl, f, _, fx, _, rfl, by rw [upd_ne ndw.symm]; exact same_new nn _ _ g1, T.cl_LowFrame.c, naF T f_at, (by show xs.length + 5 < 1000; omega), ?_⟩
  have bb : ButL [f, dw] H (upd (upd (upd G n (.dK (mergeK [] ((b.ps.map inl).zip as)))) dw (.dK (mergeK w (mergeK [] ((b.ps.map inl).zip as))))) f (.ins (CLF K) fx (putF "at" (.int 0) (ffx (.ref p) dw v2 v3 av xs)))) :=
    ButL.trans (b1.wide (by simp)) (ButL.trans (ButL.same (same_new nn)) (ButL.trans (ButL.put (by simp)) (ButL.put (by simp))))
  have kk : TK H (upd (upd (upd G n (.dK (mergeK [] ((b.ps.map inl).zip as)))) dw (.dK (mergeK w (mergeK [] ((b.ps.map inl).zip as))))) f (.ins (CLF K) fx (putF "at" (.int 0) (ffx (.ref p) dw v2 v3 av xs)))) := TK.but bb fun a ha xs z => by
    have : a = f ∨ a = dw := by simpa using ha
    rcases this with e | e
    · rw [e, hf] at z; cases z
    · rw [e, hw] at z; cases z
  exact h _ v2 v3 bb upd_same (by rw [upd_ne ndw]; exact upd_same) (d2.keep kk) (d3.keep kk)
theorem sc_RowFrame_all_worths : FnScope ["self", "values", "value"] ["self", "values"] (defScope s_RowFrame_all_worths) := ⟨rfl, rfl, rfl, by decide +kernel, rfl, by decide +kernel, by decide +kernel⟩
theorem g_RowFrame_all_worths (T : Txt K mg w)  : Gm P w K mg base CX0 1 (He.ga K "RowFrame") "all_worths" ["self", "values"] (sp_RowFrame_all_worths K) := by
  have sc := sc_RowFrame_all_worths
  refine T.d_RowFrame_all_worths.ok sc len2 (fun _ _ _ _ _ _ us hl => match us, hl with | [_, _], _ => rfl) (fun f cdv A outer s H vs Q E hr h => ?_)
  obtain ⟨x0, x1, rfl, h⟩ := h
  obtain ⟨f, fx, dw, t, bv, rv, ev, av, xs, w, ns, vs, rfl, rfl, hf, hw, ht, hv, hz, h⟩ := h
  have hl := vals_len hv
  refine ⟨_, (pss_one (ps_ret (pe_lc (own := [("value", 2)]) (g := gName 2) (by rfl) sc.nd (pi_tup (pv 1)) (blkOk_by (own := [("value", 2)]) (N := ["self", "values", "value"]) (sc := defScope s_RowFrame_all_worths) (by decide +kernel)) (fun _ _ _ _ _ => (pg_name (i := 2) sc.nd rfl (Or.inl rfl))) (fun _ _ _ _ _ => pts_nil) (fun _ _ _ _ _ => (pe_dget (hu_of hr) (Q5.pe_fldK (K := K) rfl (pv 0) rfl) (pv 2) (fun _ _ => rfl)))))), ?_⟩
  refine ⟨_, rfl, t, rfl, ⟨_, SqT.of ht⟩, fun D hD => ?_⟩
  have tD : t ≠ D := ne_of_none ht hD
  refine lc_tup (a := t) (xs := ns.map V.int) (fun i H' => Same H H' ∧ H' D = some (.lst (vs.take i))) ⟨same_new hD, by rw [upd_same]; rfl⟩ (fun i H' _ p => SqT.of (p.1 _ _ ht)) (fun i x H' hx p => ?_) (fun H' p => ?_)
  · rw [List.getElem?_map] at hx
    cases en : ns[i]? with
    | none => rw [en] at hx; cases hx
    | some n =>
      rw [en] at hx
      injection hx with hx
      subst hx
      obtain ⟨v, e1, e2⟩ := vals_get hv en
      refine ⟨rfl, ?_⟩
      dsimp only [tYes]
      rw [if_pos rfl]
      have hi : i < ns.length := (List.getElem?_eq_some_iff.mp en).1
      refine ⟨_, rfl, f, _, fx, _, _, rfl, p.1 _ _ hf, T.cl_LowFrame.c, naF T f_wo, rfl, _, rfl, dw, v, rfl, (e2 ▸ DGet.k (k := inl n) (p.1 _ _ hw)), _, p.2, sz' _ (by rw [List.length_take]; omega), ?_, ?_⟩
      · intro b o e
        rw [upd_ne (ne_of_none e hD)]
        exact p.1 _ _ e
      · rw [upd_same, take_snoc e1]
  · refine h H' D p.1 ?_ hD
    have := p.2
    rw [List.length_map, ← hl, List.take_length] at this
    exact this
theorem sc_RowFrame_go : FnScope ["self", "goal", "args"] ["self", "goal", "args"] (defScope s_RowFrame_go) := ⟨rfl, rfl, rfl, by decide +kernel, rfl, by decide +kernel, by decide +kernel⟩
theorem g_RowFrame_go (T : Txt K mg w) (G_RowFrame_begin_block : Gm P w K mg base CX0 1 (He.ga K "RowFrame") "begin_block" ["self", "number", "handed"] (sp_RowFrame_begin_block K)) (G_RowFrame_all_worths : Gm P w K mg base CX0 1 (He.ga K "RowFrame") "all_worths" ["self", "values"] (sp_RowFrame_all_worths K)) : Gm P w K mg base CX0 2 (He.ga K "RowFrame") "go" ["self", "goal", "args"] (sp_RowFrame_go K) := by
  have sc := sc_RowFrame_go
  refine T.d_RowFrame_go.ok sc len3 (fun _ _ _ _ _ _ us hl => match us, hl with | [_, _, _], _ => rfl) (fun f cdv A outer s H vs Q E hr h => ?_)
  obtain ⟨x0, x1, x2, rfl, h⟩ := h
  obtain ⟨f, fx, dw, t, bv, rv, ev, av, xs, w, bs, g, b, ns, as, rfl, rfl, rfl, hf, hx, hb, hg, hw, ht, hv, hz, hz2, h⟩ := h
  refine ⟨_, (pss_one (ps_expr (pe_gm (pv 0) T.cl_LowFrame.c (Mh.Gm.heir G_RowFrame_begin_block T.hi_LowFrame_begin_block) (hr.mono (by omega)) pass0 (pa_cons (pv 1) (pa_cons (pe_gm (pv 0) T.cl_LowFrame.c (Mh.Gm.heir G_RowFrame_all_worths T.hi_LowFrame_all_worths) (hr.mono (by omega)) pass0 (pa_cons (pv 2) pa_nil)) pa_nil))))), ?_⟩
  refine ⟨_, rfl, f, fx, _, rfl, hf, (by rcases hx with rfl | ⟨u, v, rfl⟩ <;> rfl), _, rfl, ?_⟩
  refine ⟨_, rfl, f, fx, _, rfl, hf, (by rcases hx with rfl | ⟨u, v, rfl⟩ <;> rfl), _, rfl, ?_⟩
  refine ⟨_, _, rfl, f, fx, dw, t, bv, rv, ev, av, xs, w, ns, as, rfl, rfl, hf, hw, ht, hv, hz, fun H1 l s1 hl1 hl0 => ?_⟩
  refine ⟨_, _, _, rfl, f, fx, dw, l, bv, rv, ev, av, xs, w, bs, g, b, as, rfl, rfl, rfl, s1 _ _ hf, hx, hb.keep (TK.same s1), hg, s1 _ _ hw, .inl (SqL.of hl1), hz2, (ne_of_none hf hl0).symm, fun H2 rv2 ev2 b2 e1 e2 e3 e4 => ?_⟩
  exact h H2 rv2 ev2 (ButL.trans (ButL.same s1) b2) e1 e2 e3 e4
theorem sc_RowFrame_next_row : FnScope ["self"] ["self"] (defScope s_RowFrame_next_row) := ⟨rfl, rfl, rfl, by decide +kernel, rfl, by decide +kernel, by decide +kernel⟩
theorem g_RowFrame_next_row (T : Txt K mg w)  : Gm P w K mg base CX0 1 (He.ga K "RowFrame") "next_row" ["self"] (sp_RowFrame_next_row K) := by
  have sc := sc_RowFrame_next_row
  refine T.d_RowFrame_next_row.ok sc len1 (fun _ _ _ _ _ _ us hl => match us, hl with | [_], _ => rfl) (fun f cdv A outer s H vs Q E hr h => ?_)
  obtain ⟨x0, rfl, h⟩ := h
  obtain ⟨f, fx, dw, bv, rv, ev, n, xs, rows, er, rfl, hf, hx, hr, he, h⟩ := h
  obtain ⟨p, ys, rfl, hp, hys⟩ := hr.tupI
  have hl := hx.len
  have hyl := hys.len
  rw [List.length_map] at hyl
  refine ⟨_, (pss_cons (ps_fldaug (pv 0) pe_int in_add)
      (pss_one (ps_ret (pe_ifExp (pt_cmpR op_le (pe_fld (pv 0) rfl) (pe_callB call_len_seq (by rfl) T.n_len PySem.boot_len (pa_cons (pe_fld (pv 0) rfl) pa_nil)) (nomark _)) (pe_ix ix_tup (pe_fld (pv 0) rfl) (pe_op op_sub (pe_fld (pv 0) rfl) pe_int) (fun _ _ => rfl)) (pe_fld (pv 0) rfl))))), ?_⟩
  refine ⟨_, rfl, f, _, fx, _, _, rfl, hf, T.cl_LowFrame.c, naF T f_at, rfl, _, _, rfl, rfl, fx, _, hf, (by show xs.length + 5 < 1000; omega), ?_⟩
  have e0 : putF "at" (.int ((n : Int) + 1)) (ffx bv dw (.ref p) ev (.int (n : Int)) xs) = ffx bv dw (.ref p) ev (.int ((n + 1 : Nat) : Int)) xs := rfl
  rw [e0]
  generalize hG : upd H f (.ins (CLF K) fx (ffx bv dw (.ref p) ev (.int ((n + 1 : Nat) : Int)) xs)) = G at *
  have g1 : G f = some (.ins (CLF K) fx (ffx bv dw (.ref p) ev (.int ((n + 1 : Nat) : Int)) xs)) := by rw [← hG]; exact upd_same
  have kk : TK H G := by rw [← hG]; exact tk_upd hf (by simp)
  have gp := kk _ _ hp
  refine ⟨_, rfl, f, _, fx, _, _, rfl, g1, T.cl_LowFrame.c, naF T f_at, rfl, _, rfl, f, _, fx, _, _, rfl, g1, T.cl_LowFrame.c, naF T f_ro, rfl, p, _, rfl, Or.inr (SqT.of gp), _, _, rfl, rfl, _, rfl, ?_⟩
  by_cases c : n < rows.length
  · refine if_true_of (decide_eq_true (by rw [hyl]; omega)) ?_
    have hd1 : (rows.map rwD)[n]? = some (rwD rows[n]) := by rw [List.getElem?_map, List.getElem?_eq_getElem c]; rfl
    obtain ⟨v, e1, e2⟩ := hys.get hd1
    refine ⟨_, rfl, f, _, fx, _, _, rfl, g1, T.cl_LowFrame.c, naF T f_ro, rfl, _, rfl, f, _, fx, _, _, rfl, g1, T.cl_LowFrame.c, naF T f_at, rfl, _, _, rfl, rfl, p, _, _, v, rfl, rfl, SqT.of gp, ?_, ?_⟩
    · rw [show ((n + 1 : Nat) : Int) - 1 = (n : Int) by omega]
      exact atI_nat e1
    · refine h v ?_
      rw [List.getD_eq_getElem?_getD, List.getElem?_eq_getElem c]
      exact e2.keep kk
  · refine if_false_of (decide_eq_false (by rw [hyl]; omega)) ?_
    refine ⟨_, rfl, f, _, fx, _, _, rfl, g1, T.cl_LowFrame.c, naF T f_en, rfl, h ev ?_⟩
    rw [List.getD_eq_getElem?_getD, List.getElem?_eq_none (by omega)]
    exact he.keep kk
theorem sc_RowFrame_last_row : FnScope ["self"] ["self"] (defScope s_RowFrame_last_row) := ⟨rfl, rfl, rfl, by decide +kernel, rfl, by decide +kernel, by decide +kernel⟩
theorem g_RowFrame_last_row (T : Txt K mg w)  : Gm P w K mg base CX0 1 (He.ga K "RowFrame") "last_row" ["self"] (sp_RowFrame_last_row K) := by
  have sc := sc_RowFrame_last_row
  refine T.d_RowFrame_last_row.ok sc len1 (fun _ _ _ _ _ _ us hl => match us, hl with | [_], _ => rfl) (fun f cdv A outer s H vs Q E hr h => ?_)
  obtain ⟨x0, rfl, h⟩ := h
  obtain ⟨f, fx, dw, bv, rv, ev, n, xs, rows, r, rfl, hf, hx, hr, hn, hrow, h⟩ := h
  obtain ⟨p, ys, rfl, hp, hys⟩ := hr.tupI
  refine ⟨_, (pss_one (ps_ret (pe_ix ix_tup (pe_fld (pv 0) rfl) (pe_op op_sub (pe_fld (pv 0) rfl) pe_int) (fun _ _ => rfl)))), ?_⟩
  have hd1 : (rows.map rwD)[n - 1]? = some (rwD r) := by rw [List.getElem?_map, hrow]; rfl
  obtain ⟨v, e1, e2⟩ := hys.get hd1
  refine ⟨_, rfl, f, _, fx, _, _, rfl, hf, T.cl_LowFrame.c, naF T f_ro, rfl, _, rfl, f, _, fx, _, _, rfl, hf, T.cl_LowFrame.c, naF T f_at, rfl, _, _, rfl, rfl, p, _, _, v, rfl, rfl, SqT.of hp, ?_, h v e2⟩
  rw [show (n : Int) - 1 = ((n - 1 : Nat) : Int) by omega]
  exact atI_nat e1
end
end K55

namespace K55
open PySem PyProof.Rows L2 My Ru M55
open Builtin (bitAnd bitOr)
section
variable {P : Program} {w : World} {K : PySem.W.Frag} {mg : Str → Option Value} {base : Heap}
theorem sc_RowFrame___init__ : FnScope ["self", "blocks", "worths", "args"] ["self", "blocks", "worths", "args"] (defScope s_RowFrame___init__) := ⟨rfl, rfl, rfl, by decide +kernel, rfl, by decide +kernel, by decide +kernel⟩
theorem g_RowFrame___init__ (T : Txt K mg w) (G_RowFrame_begin_block : Gm P w K mg base CX0 1 (He.ga K "RowFrame") "begin_block" ["self", "number", "handed"] (sp_RowFrame_begin_block K)) : Gm P w K mg base CX0 2 (He.ga K "RowFrame") "__init__" ["self", "blocks", "worths", "args"] (sp_RowFrame___init__ K) := by
  have sc := sc_RowFrame___init__
  refine T.d_RowFrame___init__.ok sc len4 (fun _ _ _ _ _ _ us hl => match us, hl with | [_, _, _, _], _ => rfl) (fun f cdv A outer s H vs Q E hr h => ?_)
  obtain ⟨x0, x1, x2, x3, rfl, h⟩ := h
  obtain ⟨f, fx, dw, hd, bv, w, bs, b, as, rfl, rfl, rfl, rfl, hf, hb, hg, hw, ha, hz, hn, h⟩ := h
  refine ⟨_, (pss_cons (ps_fld (pv 0) (pv 1) rfl)
      (pss_cons (ps_fld (pv 0) (pv 2) rfl)
      (pss_cons (ps_fld (pv 0) (pe_tup pa_nil) rfl)
      (pss_cons (ps_fld (pv 0) (pe_tup pa_nil) rfl)
      (pss_cons (ps_fld (pv 0) pe_int rfl)
      (pss_one (ps_expr (pe_gm (pv 0) T.cl_LowFrame.c (Mh.Gm.heir G_RowFrame_begin_block T.hi_LowFrame_begin_block) (hr.mono (by omega)) pass0 (pa_cons pe_int (pa_cons (pv 3) pa_nil)))))))))), ?_⟩
  have ndw : dw ≠ f := ne_of hw hf (by simp)
  refine ⟨_, rfl, _, rfl, f, _, fx, _, rfl, hf, T.cl_LowFrame.c, naF T f_bl, (by show 0 < 1000; decide), ?_⟩
  refine ⟨_, rfl, _, rfl, f, _, fx, _, rfl, upd_same, T.cl_LowFrame.c, naF T f_wo, (by show 1 < 1000; decide), ?_⟩
  rw [upd_upd]
  generalize hG : upd H f (.ins (CLF K) fx (putF "worths" (.ref dw) (putF "blocks" x1 []))) = G
  have b1 : ButL [f] H G := by rw [← hG]; exact ButL.put (by simp)
  have g1 : G f = some (.ins (CLF K) fx [("blocks", x1), ("worths", .ref dw)]) := by rw [← hG, upd_same]; rfl
  clear hG
  refine ⟨(by show 0 ≤ sizeLine; decide), fun t1 h1 => ?_⟩
  refine ⟨_, rfl, f, _, fx, _, rfl, same_new h1 _ _ g1, T.cl_LowFrame.c, naF T f_ro, (by show 2 < 1000; decide), ?_⟩
  generalize hG2 : upd (upd G t1 (.tup [])) f (.ins (CLF K) fx (putF "rows" (.ref t1) [("blocks", x1), ("worths", .ref dw)])) = G2
  have b2 : ButL [f] H G2 := by rw [← hG2]; exact ButL.trans b1 (ButL.trans (ButL.same (same_new h1)) (ButL.put (by simp)))
  have g2 : G2 f = some (.ins (CLF K) fx [("blocks", x1), ("worths", .ref dw), ("rows", .ref t1)]) := by rw [← hG2, upd_same]; rfl
  clear hG2
  refine ⟨(by show 0 ≤ sizeLine; decide), fun t2 h2 => ?_⟩
  refine ⟨_, rfl, f, _, fx, _, rfl, same_new h2 _ _ g2, T.cl_LowFrame.c, naF T f_en, (by show 3 < 1000; decide), ?_⟩
  generalize hG3 : upd (upd G2 t2 (.tup [])) f (.ins (CLF K) fx (putF "end_row" (.ref t2) [("blocks", x1), ("worths", .ref dw), ("rows", .ref t1)])) = G3
  have b3 : ButL [f] H G3 := by rw [← hG3]; exact ButL.trans b2 (ButL.trans (ButL.same (same_new h2)) (ButL.put (by simp)))
  have g3 : G3 f = some (.ins (CLF K) fx [("blocks", x1), ("worths", .ref dw), ("rows", .ref t1), ("end_row", .ref t2)]) := by rw [← hG3, upd_same]; rfl
  clear hG3
  refine ⟨_, rfl, f, _, fx, _, rfl, g3, T.cl_LowFrame.c, naF T f_at, (by show 4 < 1000; decide), ?_⟩
  have b4 : ButL [f] H (upd G3 f (.ins (CLF K) fx (putF "at" (.int 0) [("blocks", x1), ("worths", .ref dw), ("rows", .ref t1), ("end_row", .ref t2)]))) := ButL.trans b3 (ButL.put (by simp))
  generalize hG4 : upd G3 f (.ins (CLF K) fx (putF "at" (.int 0) [("blocks", x1), ("worths", .ref dw), ("rows", .ref t1), ("end_row", .ref t2)])) = G4 at *
  have g4 : G4 f = some (.ins (CLF K) fx (ffx x1 dw (.ref t1) (.ref t2) (.int 0) [])) := by rw [← hG4, upd_same]; rfl
  clear hG4
  have nf : ∀ a ∈ [f], ∃ o, H a = some o ∧ (∀ ys, o ≠ .tup ys) ∧ ∀ ob u, o ≠ .frz ob u := by
    intro a ha
    obtain rfl : a = f := by simpa using ha
    exact ⟨_, hf, by simp, by simp⟩
  have kk : TK H G4 := TK.but b4 fun a ha xs z => by
    obtain rfl : a = f := by simpa using ha
    rw [hf] at z; cases z
  have ga : Sq2 K G4 hd as := by
    rcases ha with ((h | ⟨o, h⟩) | h) | h
    · exact .inl (.inl (.inl (b4 _ _ h (by simpa using hn))))
    · exact .inl (.inl (.inr ⟨o, b4 _ _ h (by simpa using hn)⟩))
    · exact .inl (.inr h)
    · exact .inr (SqT.but b4 nf h)
  refine ⟨_, rfl, f, fx, _, rfl, g4, rfl, _, rfl, ?_⟩
  refine ⟨_, _, _, rfl, f, fx, dw, hd, x1, _, _, _, [], w, bs, 0, b, as, rfl, rfl, rfl, g4, .inl rfl, hb.keep kk, hg, b4 _ _ hw (by simpa using ndw), ga, hz, hn, fun H5 rv ev b5 e1 e2 e3 e4 => ?_⟩
  exact h H5 rv ev (ButL.trans (b4.wide (by simp)) b5) e1 e2 e3 e4
theorem sc_LowFrame___init__ : FnScope ["self", "function", "args", "first"] ["self", "function", "args", "first"] (defScope s_LowFrame___init__) := ⟨rfl, rfl, rfl, by decide +kernel, rfl, by decide +kernel, by decide +kernel⟩
theorem g_LowFrame___init__ (T : Txt K mg w) (G_RowFrame___init__ : Gm P w K mg base CX0 2 (He.ga K "RowFrame") "__init__" ["self", "blocks", "worths", "args"] (sp_RowFrame___init__ K)) : Gm P w K mg base CX0 3 (He.ga K "LowFrame") "__init__" ["self", "function", "args", "first"] (sp_LowFrame___init__ K) := by
  have sc := sc_LowFrame___init__
  refine T.d_LowFrame___init__.ok sc len4 (fun _ _ _ _ _ _ us hl => match us, hl with | [_, _, _, _], _ => rfl) (fun f cdv A outer s H vs Q E hr h => ?_)
  obtain ⟨x0, x1, x2, x3, rfl, h⟩ := h
  obtain ⟨f, fx, hd, fn, as, n, rfl, hy, rfl, rfl, hf, ha, hn, fr, hfr, h⟩ := h
  obtain ⟨p, ys, rfl, hp, hys⟩ := hy.tupI
  obtain ⟨v1, r1, rfl, d1, hr1⟩ := hys.one
  obtain ⟨v2, r2, rfl, d2, hr2⟩ := hr1.one
  obtain ⟨v3, r3, rfl, d3, hr3⟩ := hr2.one
  obtain rfl := hr3.no
  unfold begB at hfr
  dsimp only at hfr
  cases hg : fn.bs[0]? with
  | none => rw [hg] at hfr; cases hfr
  | some b =>
  rw [hg] at hfr
  dsimp only at hfr
  split at hfr
  · cases hfr
  rename_i hlen
  injection hfr with hfr
  refine ⟨_, (pss_cons (ps_expr (Mh.pe_cfun (pe_gref T.cl_RowFrame.g) T.cf_RowFrame G_RowFrame___init__ (hr.mono (by omega)) pass0 (pa_cons (pv 0) (pa_cons (pe_ix ix_tup (pv 1) pe_int (fun _ _ => rfl)) (pa_cons (pe_disp (pps_cons (pe_gint T.c_NOUGHT) pe_int pps_nil) rfl rfl (by simp) (by decide)) (pa_cons (pv 2) pa_nil))))))
      (pss_cons (ps_fld (pv 0) (pv 3) rfl)
      (pss_one (ps_fld (pv 0) (pe_lst pa_nil) rfl)))), ?_⟩
  refine ⟨rfl, _, rfl, _, rfl, p, _, 2, _, rfl, rfl, SqT.of hp, rfl, fun dw hdw => ?_⟩
  have s1 : Same H (upd H dw (.dK [])) := same_new hdw
  refine ⟨upd_same, [(inl (-1), V.int 0)], rfl, (by show 1 ≤ 15; decide), ?_⟩
  rw [upd_upd]
  have s2 : Same H (upd H dw (.dK (mergeK [] [(inl (-1), V.int 0)]))) := same_new hdw
  generalize hG : upd H dw (.dK (mergeK [] [(inl (-1), V.int 0)])) = G at *
  have gd : G dw = some (.dK [(inl (-1), V.int 0)]) := by rw [← hG, upd_same]; rfl
  clear hG
  refine ⟨_, rfl, ?_⟩
  refine ⟨_, _, _, _, rfl, f, fx, dw, hd, v3, [(inl (-1), V.int 0)], fn.bs, b, as, rfl, rfl, rfl, rfl, s2 _ _ hf, d3.keep (TK.same s2), hg, gd, ha.same s2, by omega, hn, fun H5 rv ev b5 e1 e2 e3 e4 => ?_⟩
  have ndf : dw ≠ f := (ne_of_none hf hdw).symm
  refine ⟨_, rfl, _, rfl, f, _, fx, _, rfl, e1, T.cl_LowFrame.c, naF T f_fi, (by show 5 < 1000; decide), ?_⟩
  refine ⟨(by show 0 ≤ sizeLine; decide), fun l hl => ?_⟩
  have nlf : l ≠ f := fun z => by rw [z, upd_same] at hl; cases hl
  refine ⟨_, rfl, f, _, fx, _, rfl, same_new hl _ _ upd_same, T.cl_LowFrame.c, naF T f_sl, (by show 6 < 1000; decide), ?_⟩
  have nld : dw ≠ l := fun z => by rw [← z, upd_ne ndf, e2] at hl; cases hl
  have hl5 : H5 l = none := by rw [upd_ne nlf] at hl; exact hl
  have hl0 : H l = none := by
    cases e : H l with
    | none => rfl
    | some o =>
      have := b5 _ _ (s2 _ _ e) (by simp; exact ⟨nlf, nld.symm⟩)
      rw [hl5] at this; cases this
  have bt : ButL [f] H (upd (upd (upd H5 f (.ins (CLF K) fx (putF "first" (.int (n : Int)) (ffx v3 dw rv ev (.int 0) [])))) l (.lst [])) f (.ins (CLF K) fx (putF "slots" (.ref l) (putF "first" (.int (n : Int)) (ffx v3 dw rv ev (.int 0) []))))) := by
    intro b o e nb
    have nb' : b ≠ f := by simpa using nb
    rw [upd_ne nb', upd_ne (ne_of_none e hl0), upd_ne nb']
    exact b5 _ _ (s2 _ _ e) (by simp; exact ⟨nb', ne_of_none e hdw⟩)
  have kk : TK H5 (upd (upd (upd H5 f (.ins (CLF K) fx (putF "first" (.int (n : Int)) (ffx v3 dw rv ev (.int 0) [])))) l (.lst [])) f (.ins (CLF K) fx (putF "slots" (.ref l) (putF "first" (.int (n : Int)) (ffx v3 dw rv ev (.int 0) []))))) := fun b xs e => by
    have nb' : b ≠ f := fun z => by rw [z, e1] at e; cases e
    rw [upd_ne nb', upd_ne (fun z => by rw [z, hl5] at e; cases e), upd_ne nb']
    exact e
  have k0 : TK H (upd (upd (upd H5 f (.ins (CLF K) fx (putF "first" (.int (n : Int)) (ffx v3 dw rv ev (.int 0) [])))) l (.lst [])) f (.ins (CLF K) fx (putF "slots" (.ref l) (putF "first" (.int (n : Int)) (ffx v3 dw rv ev (.int 0) []))))) := TK.but bt fun a ha xs z => by
    obtain rfl : a = f := by simpa using ha
    rw [hf] at z; cases z
  subst hfr
  exact h _ ⟨f, fx, dw, l, v3, rv, ev⟩ rfl rfl bt (by rw [upd_same]; rfl) (by rw [upd_ne ndf, upd_ne nld, upd_ne ndf]; exact e2) (by rw [upd_ne nlf]; exact upd_same) ⟨d3.keep k0, e3.keep kk, e4.keep kk⟩ hdw hl0 nld
end
end K55

namespace K55
open PySem PyProof.Rows L2 My Ru M55
open Builtin (bitAnd bitOr)
theorem g_in : ("inputs" : Str) ∈ goF := by decide +kernel
theorem g_li : ("limit" : Str) ∈ goF := by decide +kernel
theorem g_ta : ("taken" : Str) ∈ goF := by decide +kernel
theorem g_ou : ("outputs" : Str) ∈ goF := by decide +kernel
theorem g_en : ("ending" : Str) ∈ goF := by decide +kernel
theorem g_st : ("steps" : Str) ∈ goF := by decide +kernel
theorem g_fu : ("functions" : Str) ∈ goF := by decide +kernel
theorem g_fr : ("frame" : Str) ∈ goF := by decide +kernel
theorem g_wa : ("waiting" : Str) ∈ goF := by decide +kernel
theorem g_ad : ("addresses" : Str) ∈ goF := by decide +kernel
theorem g_th : ("things" : Str) ∈ goF := by decide +kernel
theorem g_sl : ("slots" : Str) ∈ goF := by decide +kernel
def gf0 (li lo df : Addr) (lim : Int) : List (Str × V) := [("inputs", .ref li), ("limit", .int lim), ("taken", .int 0), ("outputs", .ref lo), ("ending", .non), ("steps", .int 0), ("functions", .ref df)]
def sp_Going___init__ (K : PySem.W.Frag) : Sp := sp3 fun x y z H Q _ => ∃ (a dx li : Addr) (lim : Int), x = .ref a ∧ y = .ref li ∧ z = .int lim ∧ H a = some (.ins (CLR K) dx []) ∧
  ∀ (H' : Hp) (lo df : Addr), ButL [a] H H' → H' a = some (.ins (CLR K) dx (gf0 li lo df lim)) → H' lo = some (.lst []) → H' df = some (.dK []) → H lo = none → H df = none → lo ≠ df → Q .non H'
def sp_RowRun___init__ (K : PySem.W.Frag) : Sp := sp3 fun x y z H Q _ => ∃ (a dx li : Addr) (lim : Int), x = .ref a ∧ y = .ref li ∧ z = .int lim ∧ H a = some (.ins (CLR K) dx []) ∧
  ∀ (H' : Hp) (lo df lw : Addr), ButL [a] H H' → H' a = some (.ins (CLR K) dx (gf0 li lo df lim ++ ([("frame", .non), ("waiting", .ref lw)] : List (Str × V)))) → H' lo = some (.lst []) → H' df = some (.dK []) → H' lw = some (.lst []) → H lo = none → H df = none → H lw = none → lo ≠ df → lw ≠ lo → lw ≠ df → Q .non H'
/-- a new object beside those that a leaves -/
theorem back_none {as : List Addr} {H G : Hp} {l : Addr} (b : ButL as H G) (h : G l = none) (n : ¬ l ∈ as) : H l = none := by
  cases e : H l with
  | none => rfl
  | some o =>
    have := b _ _ e n
    rw [h] at this; cases this
structure Th where
  (nm kd : Str)
  words : Int
  firsts : List Int
def thD (t : Th) : PyData := .tuple [.str t.nm, .str t.kd, .int t.words, intsD t.firsts]
structure Un where
  nm : Str
  ths : List Th
  fns : List Fn
def unD (u : Un) : PyData := .tuple [.str u.nm, .tuple (u.ths.map thD), .tuple (u.fns.map fnD)]
def newTh (t : Th) : List V := t.firsts.map V.int ++ (List.replicate (t.words - (t.firsts.length : Int)).toNat [V.int 0]).flatten ++ [V.non]
def addTh (s : List V × List (Key × V)) (t : Th) : List V × List (Key × V) := (s.1 ++ newTh t, putK s.2 (Sum.inr t.nm) (.int (4096 + 4 * (s.1.length : Int))))
def foldTh (ts : List Th) : List V × List (Key × V) := ts.foldl addTh ([], [])
theorem fold_le : ∀ (ys : List Th) (s : List V × List (Key × V)), s.1.length ≤ (ys.foldl addTh s).1.length ∧ s.2.length ≤ (ys.foldl addTh s).2.length
  | [], s => ⟨Nat.le_refl _, Nat.le_refl _⟩
  | y :: ys, s => by
    have h := fold_le ys (addTh s y)
    have h1 : s.1.length ≤ (addTh s y).1.length := by show _ ≤ (s.1 ++ newTh y).length; rw [List.length_append]; omega
    have h2 : s.2.length ≤ (addTh s y).2.length := by
      show _ ≤ (putK s.2 _ _).length
      unfold putK
      split
      · rw [List.length_map]; exact Nat.le_refl _
      · rw [List.length_append]; omega
    exact ⟨Nat.le_trans h1 h.1, Nat.le_trans h2 h.2⟩
theorem fold_pre {xs ys : List Th} : (foldTh xs).1.length ≤ (foldTh (xs ++ ys)).1.length ∧ (foldTh xs).2.length ≤ (foldTh (xs ++ ys)).2.length := by
  unfold foldTh
  rw [List.foldl_append]
  exact fold_le ys _
theorem fold_snoc {xs : List Th} {t : Th} : foldTh (xs ++ [t]) = addTh (foldTh xs) t := by
  unfold foldTh
  rw [List.foldl_append]; rfl
theorem fkv_snoc : ∀ {fs : List Fn} {vs : List V} {f : Fn} {v : V}, vs.length = fs.length → fkv (fs ++ [f]) (vs ++ [v]) = fkv fs vs ++ [(Sum.inr f.nm, v)]
  | [], [], f, v, _ => rfl
  | g :: fs, u :: vs, f, v, h => by
    show (Sum.inr g.nm, u) :: fkv (fs ++ [f]) (vs ++ [v]) = _
    rw [fkv_snoc (by simpa using h)]; rfl
  | [], _ :: _, _, _, h => by simp at h
  | _ :: _, [], _, _, h => by simp at h
theorem fkv_none {x : Str} : ∀ {fs : List Fn} {vs : List V}, ¬ x ∈ fs.map Fn.nm → valV (fkv fs vs) (Sum.inr x) = none
  | [], _, _ => rfl
  | _ :: _, [], _ => rfl
  | f :: fs, v :: vs, h => by
    show valV ((Sum.inr f.nm, v) :: fkv fs vs) _ = none
    rw [List.map_cons, List.mem_cons] at h
    rw [valV_neg (fun z => h (.inl (by injection z with z; exact z.symm)))]
    exact fkv_none (fun z => h (.inr z))
theorem fkv_some {x : Str} {H : Hp} : ∀ {fs : List Fn} {vs : List V} {f : Fn}, DTs H vs (fs.map fnD) → findF fs x = some f → ∃ v, valV (fkv fs vs) (Sum.inr x) = some v ∧ DT H v (fnD f)
  | [], _, f, _, h => by cases h
  | g :: fs, _, f, d, h => by
    obtain ⟨v, vs, rfl, d1, d2⟩ := d.one
    unfold findF at h
    rw [List.find?_cons] at h
    by_cases c : g.nm = x
    · rw [decide_eq_true c] at h
      injection h with h
      subst h
      exact ⟨v, valV_pos (by rw [c]), d1⟩
    · rw [decide_eq_false c] at h
      obtain ⟨u, e1, e2⟩ := fkv_some d2 h
      exact ⟨u, by show valV ((Sum.inr g.nm, v) :: fkv fs vs) _ = _; rw [valV_neg (fun z => c (by injection z))]; exact e1, e2⟩
theorem putK_new {κ : Type} [DecidableEq κ] {kvs : List (κ × V)} {k : κ} {v : V} (h : valV kvs k = none) : putK kvs k v = kvs ++ [(k, v)] := by
  unfold putK
  rw [valV_any, h]; rfl
theorem fkv_len : ∀ {fs : List Fn} {vs : List V}, (fkv fs vs).length ≤ fs.length
  | [], _ => Nat.le_refl _
  | _ :: _, [] => by show 0 ≤ _; omega
  | _ :: fs, _ :: vs => by
    show (fkv fs vs).length + 1 ≤ fs.length + 1
    have := fkv_len (fs := fs) (vs := vs)
    omega
def icells (K : PySem.W.Frag) (G : GA) (m : Mm) (adr : List (Key × V)) (lu : Addr) (uvs : List V) : List (Addr × HO) :=
  [(G.ls, .lst m.sl), (G.lt, .lst m.th), (G.da, .dK adr), (G.lw, .lst []), (G.df, .dK (fkv m.fns G.fvs)), (G.lo, .lst m.out), (G.a, .ins (CLR K) G.dx (gfs G m .non)), (lu, .lst uvs), (G.li, .lst m.inp)]
theorem perm9 {α : Type} (x0 x1 x2 x3 x4 x5 x6 x7 x8 : α) : [x6, x5, x3, x1, x0, x8, x4, x2, x7].Perm [x0, x1, x2, x3, x4, x5, x6, x7, x8] := by
  have h : ([6, 5, 3, 1, 0, 8, 4, 2, 7] : List Nat).Perm [0, 1, 2, 3, 4, 5, 6, 7, 8] := by decide
  exact h.map fun i => [x0, x1, x2, x3, x4, x5, x6, x7, x8].getD i x0
/-- what holds while the run is made: these things, these functions are in -/
structure IV (K : PySem.W.Frag) (H0 H : Hp) (G : GA) (lu : Addr) (uvs inp : List V) (lim : Int) (ts : List Th) (fs : List Fn) : Prop where
  cs : Cells H (icells K G { mm0 fs inp lim with th := (foldTh ts).1 } (foldTh ts).2 lu uvs)
  fn : DTs H G.fvs (fs.map fnD)
  k : TK H0 H
def sp_LowRun___init__ (K : PySem.W.Frag) : Sp := sp4 fun x y z u H Q _ => ∃ (a dx lu li : Addr) (lim : Int) (uvs inp : List V) (us : List Un), x = .ref a ∧ y = .ref lu ∧ z = .ref li ∧ u = .int lim ∧ H a = some (.ins (CLR K) dx []) ∧ H lu = some (.lst uvs) ∧ H li = some (.lst inp) ∧ li ≠ lu ∧
  DTs H uvs (us.map unD) ∧ ((us.flatMap Un.fns).map Fn.nm).Nodup ∧ (us.flatMap Un.fns).length ≤ 1000 ∧ foldTh (us.flatMap Un.ths) = (([V.int 1, V.int 11, V.int 0, V.non] : List V), ([(Sum.inr "g", V.int 4096)] : List (Key × V))) ∧ (∀ t ∈ us.flatMap Un.ths, t.words ≤ 1000 ∧ -1000 ≤ t.words ∧ t.firsts.length ≤ 1000) ∧
  ∀ (H' : Hp) (G : GA), G.a = a → RB K H' G (mm0 (us.flatMap Un.fns) inp lim) .non [] → TK H H' → Q .non H'
section
variable {P : Program} {w : World} {K : PySem.W.Frag} {mg : Str → Option Value} {base : Heap}
theorem sc_Going___init__ : FnScope ["self", "inputs", "limit"] ["self", "inputs", "limit"] (defScope s_Going___init__) := ⟨rfl, rfl, rfl, by decide +kernel, rfl, by decide +kernel, by decide +kernel⟩
theorem g_Going___init__ (T : Txt K mg w)  : Gm P w K mg base CX0 1 (He.ga K "Going") "__init__" ["self", "inputs", "limit"] (sp_Going___init__ K) := by
  have sc := sc_Going___init__
  refine T.d_Going___init__.ok sc len3 (fun _ _ _ _ _ _ us hl => match us, hl with | [_, _, _], _ => rfl) (fun f cdv A outer s H vs Q E hr h => ?_)
  obtain ⟨x0, x1, x2, rfl, h⟩ := h
  obtain ⟨a, dx, li, lim, rfl, rfl, rfl, ha, h⟩ := h
  refine ⟨_, (pss_cons (ps_fld (pv 0) (pv 1) rfl)
      (pss_cons (ps_fld (pv 0) (pv 2) rfl)
      (pss_cons (ps_fld (pv 0) pe_int rfl)
      (pss_cons (ps_fld (pv 0) (pe_lst pa_nil) rfl)
      (pss_cons (ps_fld (pv 0) pe_non rfl)
      (pss_cons (ps_fld (pv 0) pe_int rfl)
      (pss_one (ps_fld (pv 0) pe_dnewK rfl)))))))), ?_⟩
  refine ⟨_, rfl, _, rfl, a, _, dx, _, rfl, ha, T.cl_LowRun.c, naG T g_in, (by show 0 < 1000; decide), ?_⟩
  refine ⟨_, rfl, _, rfl, a, _, dx, _, rfl, upd_same, T.cl_LowRun.c, naG T g_li, (by show 1 < 1000; decide), ?_⟩
  rw [upd_upd]
  refine ⟨_, rfl, a, _, dx, _, rfl, upd_same, T.cl_LowRun.c, naG T g_ta, (by show 2 < 1000; decide), ?_⟩
  rw [upd_upd]
  generalize hG : upd H a (.ins (CLR K) dx (putF "taken" (.int 0) (putF "limit" (.int lim) (putF "inputs" (.ref li) [])))) = G
  have b1 : ButL [a] H G := by rw [← hG]; exact ButL.put (by simp)
  have g1 : G a = some (.ins (CLR K) dx [("inputs", .ref li), ("limit", .int lim), ("taken", .int 0)]) := by rw [← hG, upd_same]; rfl
  clear hG
  refine ⟨(by show 0 ≤ sizeLine; decide), fun lo h1 => ?_⟩
  have nlo : lo ≠ a := (ne_of_none g1 h1).symm
  refine ⟨_, rfl, a, _, dx, _, rfl, same_new h1 _ _ g1, T.cl_LowRun.c, naG T g_ou, (by show 3 < 1000; decide), ?_⟩
  refine ⟨_, rfl, a, _, dx, _, rfl, upd_same, T.cl_LowRun.c, naG T g_en, (by show 4 < 1000; decide), ?_⟩
  rw [upd_upd]
  refine ⟨_, rfl, a, _, dx, _, rfl, upd_same, T.cl_LowRun.c, naG T g_st, (by show 5 < 1000; decide), ?_⟩
  rw [upd_upd]
  have b2 : ButL [a] H (upd (upd G lo (.lst [])) a (.ins (CLR K) dx (putF "steps" (.int 0) (putF "ending" .non (putF "outputs" (.ref lo) [("inputs", .ref li), ("limit", .int lim), ("taken", .int 0)]))))) := ButL.trans b1 (ButL.trans (ButL.same (same_new h1)) (ButL.put (by simp)))
  generalize hG2 : upd (upd G lo (.lst [])) a (.ins (CLR K) dx (putF "steps" (.int 0) (putF "ending" .non (putF "outputs" (.ref lo) [("inputs", .ref li), ("limit", .int lim), ("taken", .int 0)])))) = G2 at *
  have g2 : G2 a = some (.ins (CLR K) dx [("inputs", .ref li), ("limit", .int lim), ("taken", .int 0), ("outputs", .ref lo), ("ending", .non), ("steps", .int 0)]) := by rw [← hG2, upd_same]; rfl
  have g2o : G2 lo = some (.lst []) := by rw [← hG2, upd_ne nlo, upd_same]
  clear hG2
  intro df h2
  have ndf : df ≠ a := (ne_of_none g2 h2).symm
  have ndo : lo ≠ df := ne_of_none g2o h2
  refine ⟨_, rfl, a, _, dx, _, rfl, same_new h2 _ _ g2, T.cl_LowRun.c, naG T g_fu, (by show 6 < 1000; decide), ?_⟩
  exact h _ lo df (ButL.trans b2 (ButL.trans (ButL.same (same_new h2)) (ButL.put (by simp)))) (by rw [upd_same]; rfl) (by rw [upd_ne nlo, upd_ne ndo]; exact g2o) (by rw [upd_ne ndf, upd_same])
    (back_none b1 h1 (by simpa using nlo)) (back_none b2 h2 (by simpa using ndf)) ndo
theorem sc_RowRun___init__ : FnScope ["self", "inputs", "limit"] ["self", "inputs", "limit"] (defScope s_RowRun___init__) := ⟨rfl, rfl, rfl, by decide +kernel, rfl, by decide +kernel, by decide +kernel⟩
theorem g_RowRun___init__ (T : Txt K mg w) (G_Going___init__ : Gm P w K mg base CX0 1 (He.ga K "Going") "__init__" ["self", "inputs", "limit"] (sp_Going___init__ K)) : Gm P w K mg base CX0 2 (He.ga K "RowRun") "__init__" ["self", "inputs", "limit"] (sp_RowRun___init__ K) := by
  have sc := sc_RowRun___init__
  refine T.d_RowRun___init__.ok sc len3 (fun _ _ _ _ _ _ us hl => match us, hl with | [_, _, _], _ => rfl) (fun f cdv A outer s H vs Q E hr h => ?_)
  obtain ⟨x0, x1, x2, rfl, h⟩ := h
  obtain ⟨a, dx, li, lim, rfl, rfl, rfl, ha, h⟩ := h
  refine ⟨_, (pss_cons (ps_expr (Mh.pe_cfun (pe_gref T.cl_Going.g) T.cf_Going G_Going___init__ (hr.mono (by omega)) pass0 (pa_cons (pv 0) (pa_cons (pv 1) (pa_cons (pv 2) pa_nil)))))
      (pss_cons (ps_fld (pv 0) pe_non rfl)
      (pss_one (ps_fld (pv 0) (pe_lst pa_nil) rfl)))), ?_⟩
  refine ⟨rfl, _, rfl, _, rfl, _, rfl, _, _, _, rfl, a, dx, li, lim, rfl, rfl, rfl, ha, fun G lo df b1 g1 go gd n1 n2 n3 => ?_⟩
  have nlo : lo ≠ a := (ne_of_none ha n1).symm
  have ndf : df ≠ a := (ne_of_none ha n2).symm
  refine ⟨_, rfl, a, _, dx, _, rfl, g1, T.cl_LowRun.c, naG T g_fr, (by show 7 < 1000; decide), ?_⟩
  have b2 : ButL [a] H (upd G a (.ins (CLR K) dx (putF "frame" .non (gf0 li lo df lim)))) := ButL.trans b1 (ButL.put (by simp))
  generalize hG2 : upd G a (.ins (CLR K) dx (putF "frame" .non (gf0 li lo df lim))) = G2 at *
  have g2 : G2 a = some (.ins (CLR K) dx (gf0 li lo df lim ++ ([("frame", .non)] : List (Str × V)))) := by rw [← hG2, upd_same]; rfl
  have g2o : G2 lo = some (.lst []) := by rw [← hG2, upd_ne nlo]; exact go
  have g2d : G2 df = some (.dK []) := by rw [← hG2, upd_ne ndf]; exact gd
  clear hG2
  refine ⟨(by show 0 ≤ sizeLine; decide), fun lw h3 => ?_⟩
  have nlw : lw ≠ a := (ne_of_none g2 h3).symm
  refine ⟨_, rfl, a, _, dx, _, rfl, same_new h3 _ _ g2, T.cl_LowRun.c, naG T g_wa, (by show 8 < 1000; decide), ?_⟩
  have e1 : lw ≠ lo := (ne_of_none g2o h3).symm
  have e2 : lw ≠ df := (ne_of_none g2d h3).symm
  exact h _ lo df lw (ButL.trans b2 (ButL.trans (ButL.same (same_new h3)) (ButL.put (by simp)))) (by rw [upd_same]; rfl) (by rw [upd_ne nlo, upd_ne e1.symm]; exact g2o) (by rw [upd_ne ndf, upd_ne e2.symm]; exact g2d) (by rw [upd_ne nlw, upd_same])
    n1 n2 (back_none b2 h3 (by simpa using nlw)) n3 e1 e2
end
end K55

namespace K55
open PySem PyProof.Rows L2 My Ru M55
open Builtin (bitAnd bitOr)
theorem flat_one {α : Type} (v : α) : ∀ k : Nat, (List.replicate k [v]).flatten = List.replicate k v
  | 0 => rfl
  | k + 1 => by
    show [v] ++ (List.replicate k [v]).flatten = v :: List.replicate k v
    rw [flat_one v k]; rfl
section
variable {K : PySem.W.Frag} {H0 H H' : Hp} {G : GA} {lu : Addr} {uvs inp : List V} {lim : Int} {ts : List Th} {fs : List Fn}
theorem IV.same (v : IV K H0 H G lu uvs inp lim ts fs) (s : Same H H') : IV K H0 H' G lu uvs inp lim ts fs := ⟨v.cs.same s, v.fn.keep (TK.same s), v.k.tr (TK.same s)⟩
theorem IV.ga (v : IV K H0 H G lu uvs inp lim ts fs) : H G.a = some (.ins (CLR K) G.dx (gfs G { mm0 fs inp lim with th := (foldTh ts).1 } .non)) := v.cs.2 (G.a, .ins (CLR K) G.dx (gfs G { mm0 fs inp lim with th := (foldTh ts).1 } .non)) (by simp [icells])
theorem IV.lt (v : IV K H0 H G lu uvs inp lim ts fs) : H G.lt = some (.lst (foldTh ts).1) := v.cs.2 (G.lt, .lst (foldTh ts).1) (by simp [icells])
theorem IV.da (v : IV K H0 H G lu uvs inp lim ts fs) : H G.da = some (.dK (foldTh ts).2) := v.cs.2 (G.da, .dK (foldTh ts).2) (by simp [icells])
theorem IV.df (v : IV K H0 H G lu uvs inp lim ts fs) : H G.df = some (.dK (fkv fs G.fvs)) := v.cs.2 (G.df, .dK (fkv fs G.fvs)) (by simp [icells, mm0])
theorem IV.lu_ (v : IV K H0 H G lu uvs inp lim ts fs) : H lu = some (.lst uvs) := v.cs.2 (lu, .lst uvs) (by simp [icells])
/-- a thing is in -/
theorem IV.thing (v : IV K H0 H G lu uvs inp lim ts fs) (t : Th) : Same (upd H G.da (.dK (addTh (foldTh ts) t).2)) H' → IV K H0 (upd H' G.lt (.lst (addTh (foldTh ts) t).1)) G lu uvs inp lim (ts ++ [t]) fs := by
  intro s
  have k1 : TK H (upd H G.da (.dK (addTh (foldTh ts) t).2)) := tk_upd v.da (by simp)
  have c1 : Cells (upd H G.da (.dK (addTh (foldTh ts) t).2)) (icells K G { mm0 fs inp lim with th := (foldTh ts).1 } (addTh (foldTh ts) t).2 lu uvs) :=
    Cells.set1 (l1 := [(G.ls, .lst []), (G.lt, .lst (foldTh ts).1)]) (p := G.da) (o := .dK (foldTh ts).2) v.cs
  have c2 := c1.same s
  have e2 : H' G.lt = some (.lst (foldTh ts).1) := c2.2 (G.lt, .lst (foldTh ts).1) (by simp [icells])
  have k2 : TK H' (upd H' G.lt (.lst (addTh (foldTh ts) t).1)) := tk_upd e2 (by simp)
  have kk := (k1.tr (TK.same s)).tr k2
  refine ⟨?_, v.fn.keep kk, v.k.tr kk⟩
  rw [fold_snoc]
  exact Cells.set1 (l1 := [(G.ls, .lst [])]) (p := G.lt) (o := .lst (foldTh ts).1) c2
/-- a function is in -/
theorem IV.func (v : IV K H0 H G lu uvs inp lim ts fs) (f : Fn) {x : V} (d : DT H x (fnD f)) (n : ¬ f.nm ∈ fs.map Fn.nm) : IV K H0 (upd H G.df (.dK (putK (fkv fs G.fvs) (Sum.inr f.nm) x))) { G with fvs := G.fvs ++ [x] } lu uvs inp lim ts (fs ++ [f]) := by
  have hl : G.fvs.length = fs.length := by have := v.fn.len; rw [List.length_map] at this; exact this
  have k1 : TK H (upd H G.df (.dK (putK (fkv fs G.fvs) (Sum.inr f.nm) x))) := tk_upd v.df (by simp)
  refine ⟨?_, ?_, v.k.tr k1⟩
  · rw [putK_new (fkv_none n), ← fkv_snoc hl]
    exact Cells.set1 (l1 := [(G.ls, .lst []), (G.lt, .lst (foldTh ts).1), (G.da, .dK (foldTh ts).2), (G.lw, .lst [])]) (p := G.df) (o := .dK (fkv fs G.fvs)) v.cs
  · rw [List.map_append]
    exact (v.fn.keep k1).app (.cons (d.keep k1) .nil)
end
theorem flat_take {α β : Type} (f : α → List β) {xs : List α} {i : Nat} {x : α} (h : xs[i]? = some x) : (xs.take (i + 1)).flatMap f = (xs.take i).flatMap f ++ f x := by
  rw [take_snoc h, List.flatMap_append]; simp
theorem flat_pre {α β : Type} (f : α → List β) {xs : List α} {i : Nat} {x : α} (h : xs[i]? = some x) (j : Nat) : ∃ rest, xs.flatMap f = ((xs.take i).flatMap f ++ (f x).take j) ++ rest := by
  refine ⟨(f x).drop j ++ (xs.drop (i + 1)).flatMap f, ?_⟩
  rw [List.append_assoc, ← List.append_assoc ((f x).take j), List.take_append_drop, ← List.append_assoc, ← flat_take f h, ← List.flatMap_append, List.take_append_drop]
theorem fst_th {a b c : Nat} (h : a ≤ b) (e : b ≤ c) : a ≤ c := Nat.le_trans h e
section
variable {P : Program} {w : World} {K : PySem.W.Frag} {mg : Str → Option Value} {base : Heap}
theorem sc_LowRun___init__ : FnScope ["self", "units", "inputs", "limit", "_", "things", "functions", "function", "name", "words", "firsts"] ["self", "units", "inputs", "limit"] (defScope s_LowRun___init__) := ⟨rfl, rfl, rfl, by decide +kernel, rfl, by decide +kernel, by decide +kernel⟩
theorem g_LowRun___init__ (T : Txt K mg w) (G_RowRun___init__ : Gm P w K mg base CX0 2 (He.ga K "RowRun") "__init__" ["self", "inputs", "limit"] (sp_RowRun___init__ K)) : Gm P w K mg base CX0 3 (He.ga K "LowRun") "__init__" ["self", "units", "inputs", "limit"] (sp_LowRun___init__ K) := by
  have sc := sc_LowRun___init__
  refine T.d_LowRun___init__.ok sc len4 (fun _ _ _ _ _ _ us hl => match us, hl with | [_, _, _, _], _ => rfl) (fun f cdv A outer s H vs Q E hr h => ?_)
  obtain ⟨x0, x1, x2, x3, rfl, h⟩ := h
  obtain ⟨a, dx, lu, li, lim, uvs, inp, us, rfl, rfl, rfl, rfl, ha, hu, hi, hul, hus, hnd, hfl, hth, htb, h⟩ := h
  refine ⟨_, (pss_cons (ps_expr (Mh.pe_cfun (pe_gref T.cl_RowRun.g) T.cf_RowRun G_RowRun___init__ (hr.mono (by omega)) pass0 (pa_cons (pv 0) (pa_cons (pv 2) (pa_cons (pv 3) pa_nil)))))
      (pss_cons (ps_fld (pv 0) pe_dnewK rfl)
      (pss_cons (ps_fld (pv 0) (pe_lst pa_nil) rfl)
      (pss_cons (ps_fld (pv 0) (pe_lst pa_nil) rfl)
      (pss_one (ps_for PassesOwn.never rfl (pi_list (pv 1)) (pg_tup rfl (pgs_cons (pg_name (i := 4) sc.nd rfl (Or.inl rfl)) (pgs_cons (pg_name (i := 5) sc.nd rfl (Or.inl rfl)) (pgs_cons (pg_name (i := 6) sc.nd rfl (Or.inl rfl)) pgs_nil)))) (pss_cons (ps_for PassesOwn.never rfl (pi_tup (pv 5)) (pg_tup rfl (pgs_cons (pg_name (i := 8) sc.nd rfl (Or.inl rfl)) (pgs_cons (pg_name (i := 4) sc.nd rfl (Or.inl rfl)) (pgs_cons (pg_name (i := 9) sc.nd rfl (Or.inl rfl)) (pgs_cons (pg_name (i := 10) sc.nd rfl (Or.inl rfl)) pgs_nil))))) (pss_cons (ps_dput (hu_of hr) (pe_fld (pv 0) rfl) (pv 8) (pe_op op_add (pe_gint T.c_GLOBALS_START) (pe_op op_mul (pe_gint T.c_BYTES) (pe_callB call_len_seq (by rfl) T.n_len PySem.boot_len (pa_cons (pe_fld (pv 0) rfl) pa_nil)))) rfl)
      (pss_one (ps_expr (pe_bm PySem.F.plainAttrs_list PySem.F.slot_list_extend PySem.F.type_list_extend mt_extend (pe_fld (pv 0) rfl) (pa_cons (pe_op op_cat (pe_op op_cat (pe_callTy call_list_of (by rfl) T.n_list (by decide +kernel) (pa_cons (pv 10) pa_nil)) (pe_op op_rep (pe_lst (pa_cons pe_int pa_nil)) (pe_op op_sub (pv 9) (pe_callB call_len_seq (by rfl) T.n_len PySem.boot_len (pa_cons (pv 10) pa_nil))))) (pe_lst (pa_cons pe_non pa_nil))) pa_nil))))))
      (pss_one (ps_for PassesOwn.never rfl (pi_tup (pv 6)) (pg_name (i := 7) sc.nd rfl (Or.inl rfl)) (pss_one (ps_dput (hu_of hr) (pe_fld (pv 0) rfl) (pe_ix ix_tup (pv 7) pe_int (fun _ _ => rfl)) (pv 7) rfl))))))))))), ?_⟩
  refine ⟨rfl, _, rfl, _, rfl, _, rfl, _, _, _, rfl, a, dx, li, lim, rfl, rfl, rfl, ha, fun G1 lo df lw b1 g1 go gd gw n1 n2 n3 e1 e2 e3 => ?_⟩
  have nlu : lu ≠ a := ne_of hu ha (by simp)
  have nli : li ≠ a := ne_of hi ha (by simp)
  have c0 : Cells G1 [(a, .ins (CLR K) dx (gf0 li lo df lim ++ ([("frame", .non), ("waiting", .ref lw)] : List (Str × V)))), (lu, .lst uvs), (li, .lst inp)] := by
    refine ⟨?_, ?_⟩
    · simp only [List.map_cons, List.map_nil, List.nodup_cons, List.mem_cons, List.not_mem_nil, or_false, not_or]
      exact ⟨⟨nlu.symm, nli.symm⟩, hul.symm, by simp⟩
    · intro c hc
      simp only [List.mem_cons, List.not_mem_nil, or_false] at hc
      rcases hc with rfl | rfl | rfl
      · exact g1
      · exact b1 _ _ hu (by simpa using nlu)
      · exact b1 _ _ hi (by simpa using nli)
  have old : ∀ {l : Addr}, H l = none → l ≠ a ∧ l ≠ lu ∧ l ≠ li := fun {l} n => ⟨(ne_of_none ha n).symm, (ne_of_none hu n).symm, (ne_of_none hi n).symm⟩
  have c1 := Cells.add (p := lo) (o := .lst []) c0 (by
    intro c hc
    simp only [List.mem_cons, List.not_mem_nil, or_false] at hc
    obtain ⟨q1, q2, q3⟩ := old n1
    rcases hc with rfl | rfl | rfl
    · exact q1
    · exact q2
    · exact q3) go
  have c2 := Cells.add (p := df) (o := .dK []) c1 (by
    intro c hc
    simp only [List.mem_cons, List.not_mem_nil, or_false] at hc
    obtain ⟨q1, q2, q3⟩ := old n2
    rcases hc with rfl | rfl | rfl | rfl
    · exact e1.symm
    · exact q1
    · exact q2
    · exact q3) gd
  have c3 := Cells.add (p := lw) (o := .lst []) c2 (by
    intro c hc
    simp only [List.mem_cons, List.not_mem_nil, or_false] at hc
    obtain ⟨q1, q2, q3⟩ := old n3
    rcases hc with rfl | rfl | rfl | rfl | rfl
    · exact e3
    · exact e2
    · exact q1
    · exact q2
    · exact q3) gw
  have k1 : TK H G1 := TK.but b1 fun b hb xs z => by
    obtain rfl : b = a := by simpa using hb
    rw [ha] at z; cases z
  intro da h4
  have c4 := Cells.new (o := .dK []) c3 h4
  have k2 : TK H (upd G1 da (.dK [])) := k1.tr (TK.same (same_new h4))
  generalize upd G1 da (.dK []) = G2 at *
  refine ⟨_, rfl, a, _, dx, _, rfl, c4.2 (a, .ins (CLR K) dx (gf0 li lo df lim ++ ([("frame", .non), ("waiting", .ref lw)] : List (Str × V)))) (by simp), T.cl_LowRun.c, naG T g_ad, (by show 9 < 1000; decide), ?_⟩
  have c5 : Cells (upd G2 a (.ins (CLR K) dx (putF "addresses" (.ref da) (gf0 li lo df lim ++ ([("frame", .non), ("waiting", .ref lw)] : List (Str × V)))))) [(da, .dK []), (lw, .lst []), (df, .dK []), (lo, .lst []), (a, .ins (CLR K) dx (gf0 li lo df lim ++ ([("frame", .non), ("waiting", .ref lw), ("addresses", .ref da)] : List (Str × V)))), (lu, .lst uvs), (li, .lst inp)] :=
    Cells.set1 (l1 := [(da, .dK []), (lw, .lst []), (df, .dK []), (lo, .lst [])]) (p := a) c4
  have k3 : TK H (upd G2 a (.ins (CLR K) dx (putF "addresses" (.ref da) (gf0 li lo df lim ++ ([("frame", .non), ("waiting", .ref lw)] : List (Str × V)))))) := k2.tr (tk_upd (c4.2 (a, .ins (CLR K) dx (gf0 li lo df lim ++ ([("frame", .non), ("waiting", .ref lw)] : List (Str × V)))) (by simp)) (by simp))
  generalize upd G2 a (.ins (CLR K) dx (putF "addresses" (.ref da) (gf0 li lo df lim ++ ([("frame", .non), ("waiting", .ref lw)] : List (Str × V))))) = G3 at *
  refine ⟨(by show 0 ≤ sizeLine; decide), fun lt h5 => ?_⟩
  have c6 := Cells.new (o := .lst []) c5 h5
  have k4 : TK H (upd G3 lt (.lst [])) := k3.tr (TK.same (same_new h5))
  generalize upd G3 lt (.lst []) = G4 at *
  refine ⟨_, rfl, a, _, dx, _, rfl, c6.2 (a, .ins (CLR K) dx (gf0 li lo df lim ++ ([("frame", .non), ("waiting", .ref lw), ("addresses", .ref da)] : List (Str × V)))) (by simp), T.cl_LowRun.c, naG T g_th, (by show 10 < 1000; decide), ?_⟩
  have c7 : Cells (upd G4 a (.ins (CLR K) dx (putF "things" (.ref lt) (gf0 li lo df lim ++ ([("frame", .non), ("waiting", .ref lw), ("addresses", .ref da)] : List (Str × V)))))) [(lt, .lst []), (da, .dK []), (lw, .lst []), (df, .dK []), (lo, .lst []), (a, .ins (CLR K) dx (gf0 li lo df lim ++ ([("frame", .non), ("waiting", .ref lw), ("addresses", .ref da), ("things", .ref lt)] : List (Str × V)))), (lu, .lst uvs), (li, .lst inp)] :=
    Cells.set1 (l1 := [(lt, .lst []), (da, .dK []), (lw, .lst []), (df, .dK []), (lo, .lst [])]) (p := a) c6
  have k5 : TK H (upd G4 a (.ins (CLR K) dx (putF "things" (.ref lt) (gf0 li lo df lim ++ ([("frame", .non), ("waiting", .ref lw), ("addresses", .ref da)] : List (Str × V)))))) := k4.tr (tk_upd (c6.2 (a, .ins (CLR K) dx (gf0 li lo df lim ++ ([("frame", .non), ("waiting", .ref lw), ("addresses", .ref da)] : List (Str × V)))) (by simp)) (by simp))
  generalize upd G4 a (.ins (CLR K) dx (putF "things" (.ref lt) (gf0 li lo df lim ++ ([("frame", .non), ("waiting", .ref lw), ("addresses", .ref da)] : List (Str × V))))) = G5 at *
  refine ⟨(by show 0 ≤ sizeLine; decide), fun ls h6 => ?_⟩
  have c8 := Cells.new (o := .lst []) c7 h6
  have k6 : TK H (upd G5 ls (.lst [])) := k5.tr (TK.same (same_new h6))
  generalize upd G5 ls (.lst []) = G6 at *
  refine ⟨_, rfl, a, _, dx, _, rfl, c8.2 (a, .ins (CLR K) dx (gf0 li lo df lim ++ ([("frame", .non), ("waiting", .ref lw), ("addresses", .ref da), ("things", .ref lt)] : List (Str × V)))) (by simp), T.cl_LowRun.c, naG T g_sl, (by show 11 < 1000; decide), ?_⟩
  have iv0 : IV K H (upd G6 a (.ins (CLR K) dx (putF "slots" (.ref ls) (gf0 li lo df lim ++ ([("frame", .non), ("waiting", .ref lw), ("addresses", .ref da), ("things", .ref lt)] : List (Str × V)))))) ⟨a, dx, li, lo, df, lw, da, lt, ls, .non, []⟩ lu uvs inp lim [] [] :=
    ⟨Cells.set1 (l1 := [(ls, .lst []), (lt, .lst []), (da, .dK []), (lw, .lst []), (df, .dK []), (lo, .lst [])]) (p := a) c8, .nil, k6.tr (tk_upd (c8.2 (a, .ins (CLR K) dx (gf0 li lo df lim ++ ([("frame", .non), ("waiting", .ref lw), ("addresses", .ref da), ("things", .ref lt)] : List (Str × V)))) (by simp)) (by simp))⟩
  generalize upd G6 a (.ins (CLR K) dx (putF "slots" (.ref ls) (gf0 li lo df lim ++ ([("frame", .non), ("waiting", .ref lw), ("addresses", .ref da), ("things", .ref lt)] : List (Str × V))))) = G7 at *
  clear c0 c1 c2 c3 c4 c5 c6 c7 c8 k1 k2 k3 k4 k5 k6 h4 h5 h6
  have hlen := hus.len
  rw [List.length_map] at hlen
  refine ⟨_, rfl, lu, rfl, ⟨_, SqL.of iv0.lu_⟩, ?_⟩
  refine for_list (xs := uvs) (fun i σ H' => ∃ (fvs : List V) (o4 o5 o6 o7 o8 o9 o10 : Option V), σ = [some (.ref a), some (.ref lu), some (.ref li), some (.int lim), o4, o5, o6, o7, o8, o9, o10] ∧ IV K H H' ⟨a, dx, li, lo, df, lw, da, lt, ls, .non, fvs⟩ lu uvs inp lim ((us.take i).flatMap Un.ths) ((us.take i).flatMap Un.fns))
    ⟨[], _, _, _, _, _, _, _, rfl, iv0⟩ (fun i σ H' _ p => ?_) (fun i x σ H' hx p => ?_) (fun σ H' p => ?_)
  · obtain ⟨fvs, o4, o5, o6, o7, o8, o9, o10, rfl, v⟩ := p
    exact SqL.of v.lu_
  · obtain ⟨fvs, o4, o5, o6, o7, o8, o9, o10, rfl, v⟩ := p
    have hi' : i < us.length := by rw [← hlen]; exact (List.getElem?_eq_some_iff.mp hx).1
    obtain ⟨u, hu'⟩ : ∃ u, us[i]? = some u := ⟨us[i], List.getElem?_eq_getElem hi'⟩
    obtain ⟨x', hx', du⟩ := (hus.keep v.k).get (i := i) (d := unD u) (by rw [List.getElem?_map, hu']; rfl)
    rw [hx] at hx'
    injection hx' with hx'
    subst hx'
    obtain ⟨q, ys, rfl, hq, hys⟩ := du.tupI
    obtain ⟨v1, r1, rfl, d1, hr1⟩ := hys.one
    obtain ⟨v2, r2, rfl, d2, hr2⟩ := hr1.one
    obtain ⟨v3, r3, rfl, d3, hr3⟩ := hr2.one
    obtain rfl := hr3.no
    obtain ⟨qt, tvs, rfl, hqt, htvs⟩ := d2.tupI
    obtain ⟨qf, fs', rfl, hqf, hfs'⟩ := d3.tupI
    have ltv := htvs.len
    have lfv := hfs'.len
    rw [List.length_map] at ltv lfv
    refine ⟨q, _, rfl, SqT.of hq, rfl, _, _, rfl, _, _, rfl, _, _, rfl, rfl, ?_⟩
    refine ⟨_, rfl, qt, rfl, ⟨_, SqT.of hqt⟩, ?_⟩
    refine for_tup (xs := tvs) (fun j σ H2 => ∃ (o4 o7 o8 o9 o10 : Option V), σ = [some (.ref a), some (.ref lu), some (.ref li), some (.int lim), o4, some (.ref qt), some (.ref qf), o7, o8, o9, o10] ∧ TK H' H2 ∧ IV K H H2 ⟨a, dx, li, lo, df, lw, da, lt, ls, .non, fvs⟩ lu uvs inp lim ((us.take i).flatMap Un.ths ++ u.ths.take j) ((us.take i).flatMap Un.fns))
      ⟨_, _, _, _, _, rfl, TK.rf, by rw [List.take_zero, List.append_nil]; exact v⟩ (fun j σ H2 _ p => ?_) (fun j x σ H2 hx p => ?_) (fun σ H2 p => ?_)
    · obtain ⟨o4, o7, o8, o9, o10, rfl, k2, v2⟩ := p
      exact SqT.of (k2 _ _ hqt)
    · obtain ⟨o4, o7, o8, o9, o10, rfl, k2, v2⟩ := p
      have hj : j < u.ths.length := by rw [← ltv]; exact (List.getElem?_eq_some_iff.mp hx).1
      obtain ⟨t, ht⟩ : ∃ t, u.ths[j]? = some t := ⟨u.ths[j], List.getElem?_eq_getElem hj⟩
      obtain ⟨x', hx', dt⟩ := (htvs.keep k2).get (i := j) (d := thD t) (by rw [List.getElem?_map, ht]; rfl)
      rw [hx] at hx'
      injection hx' with hx'
      subst hx'
      obtain ⟨qa, ys, rfl, hqa, hys⟩ := dt.tupI
      obtain ⟨v1, r1, rfl, d1, hr1⟩ := hys.one
      obtain ⟨v2', r2, rfl, d2, hr2⟩ := hr1.one
      obtain ⟨v3, r3, rfl, d3, hr3⟩ := hr2.one
      obtain ⟨v4, r4, rfl, d4, hr4⟩ := hr3.one
      obtain rfl := hr4.no
      obtain rfl := d1.strI
      obtain rfl := d2.strI
      obtain rfl := d3.intI
      obtain ⟨qn, nvs, rfl, hqn, hnvs⟩ := d4.tupI
      obtain rfl := hnvs.ints
      obtain ⟨b0, b1, b2⟩ := htb t (by
        obtain ⟨rest, e⟩ := flat_pre Un.ths hu' (j + 1)
        rw [e, take_snoc ht]
        simp)
      have hfit : (foldTh ((us.take i).flatMap Un.ths ++ u.ths.take j ++ [t])).1.length ≤ 4 ∧ (foldTh ((us.take i).flatMap Un.ths ++ u.ths.take j ++ [t])).2.length ≤ 1 := by
        obtain ⟨rest, e⟩ := flat_pre Un.ths hu' (j + 1)
        rw [take_snoc ht, ← List.append_assoc ((us.take i).flatMap Un.ths)] at e
        have z := fold_pre (xs := (us.take i).flatMap Un.ths ++ u.ths.take j ++ [t]) (ys := rest)
        rw [← e, hth] at z
        exact z
      have hfit0 := fold_pre (xs := (us.take i).flatMap Un.ths ++ u.ths.take j) (ys := [t])
      generalize hts : (us.take i).flatMap Un.ths ++ u.ths.take j = ts at *
      have hnew : (foldTh ts).1.length + (newTh t).length ≤ 4 := by
        have := hfit.1
        rw [fold_snoc] at this
        have e : (addTh (foldTh ts) t).1 = (foldTh ts).1 ++ newTh t := rfl
        rw [e, List.length_append] at this
        exact this
      have hnl : (newTh t).length = t.firsts.length + (t.words - (t.firsts.length : Int)).toNat + 1 := by
        unfold newTh
        rw [List.length_append, List.length_append, List.length_map, flat_one, List.length_replicate]; rfl
      refine ⟨qa, _, rfl, SqT.of hqa, rfl, _, _, rfl, _, _, rfl, _, _, rfl, _, _, rfl, rfl, ?_⟩
      refine ⟨_, rfl, a, _, dx, _, _, rfl, v2.ga, T.cl_LowRun.c, naG T g_th, rfl, lt, _, rfl, Or.inl (SqL.of v2.lt), _, _, rfl, rfl, Or.inl ⟨by decide, by decide⟩, _, _, rfl, rfl, ?_⟩
      refine ⟨_, rfl, a, _, dx, _, _, rfl, v2.ga, T.cl_LowRun.c, naG T g_ad, rfl, _, rfl, da, _, rfl, DPut.k (k := Sum.inr t.nm) v2.da (sz' _ (by omega)), ?_⟩
      have e0 : (putK (foldTh ts).2 (Sum.inr t.nm) (V.int (4096 + 4 * ((foldTh ts).1.length : Int)))) = (addTh (foldTh ts) t).2 := rfl
      rw [e0]
      have kA : TK H2 (upd H2 da (.dK (addTh (foldTh ts) t).2)) := tk_upd v2.da (by simp)
      have gA : upd H2 da (.dK (addTh (foldTh ts) t).2) a = some (.ins (CLR K) dx (gfs ⟨a, dx, li, lo, df, lw, da, lt, ls, .non, fvs⟩ { mm0 ((us.take i).flatMap Un.fns) inp lim with th := (foldTh ts).1 } .non)) := by
        rw [upd_ne (ne_of v2.ga v2.da (by simp))]; exact v2.ga
      have gT : upd H2 da (.dK (addTh (foldTh ts) t).2) lt = some (.lst (foldTh ts).1) := by
        rw [upd_ne (ne_of v2.lt v2.da (by simp))]; exact v2.lt
      have gN : upd H2 da (.dK (addTh (foldTh ts) t).2) qn = some (.tup (t.firsts.map V.int)) := kA _ _ hqn
      generalize hA : upd H2 da (.dK (addTh (foldTh ts) t).2) = A1 at *
      refine ⟨_, rfl, a, _, dx, _, _, rfl, gA, T.cl_LowRun.c, naG T g_th, rfl, .inl ⟨rfl, _, SqL.of gT⟩, ?_⟩
      refine ⟨_, rfl, qn, _, rfl, Or.inr (SqT.of gN), fun l1 f1 => ?_⟩
      refine ⟨(by show 1 ≤ sizeLine; decide), fun l2 f2 => ?_⟩
      have s1 : Same A1 (upd A1 l1 (.lst (t.firsts.map V.int))) := same_new f1
      have s2 := Same.tr s1 (same_new (o := .lst [V.int 0]) f2)
      refine ⟨_, rfl, _, rfl, qn, _, rfl, Or.inr (SqT.of (s2 _ _ gN)), _, _, rfl, rfl, ?_⟩
      rw [List.length_map]
      refine ⟨l2, _, [V.int 0], rfl, rfl, upd_same, by omega, by omega, sz _ (by show 1 * _ ≤ 10000; omega), fun l3 f3 => ?_⟩
      have s3 := Same.tr s2 (same_new (o := .lst (List.replicate (t.words - (t.firsts.length : Int)).toNat [V.int 0]).flatten) f3)
      have e1 : (upd (upd A1 l1 (.lst (t.firsts.map V.int))) l2 (.lst [V.int 0])) l1 = some (.lst (t.firsts.map V.int)) := same_new f2 _ _ upd_same
      refine ⟨l1, l3, t.firsts.map V.int, _, rfl, rfl, same_new f3 _ _ e1, upd_same, sz _ (by rw [List.length_map, flat_one, List.length_replicate]; omega), fun l4 f4 => ?_⟩
      have s4 := Same.tr s3 (same_new (o := .lst (t.firsts.map V.int ++ (List.replicate (t.words - (t.firsts.length : Int)).toNat [V.int 0]).flatten)) f4)
      refine ⟨(by show 1 ≤ sizeLine; decide), fun l5 f5 => ?_⟩
      have s5 := Same.tr s4 (same_new (o := .lst [V.non]) f5)
      refine ⟨l4, l5, _, [V.non], rfl, rfl, same_new f5 _ _ upd_same, upd_same, sz _ (by rw [List.length_append, List.length_map, flat_one, List.length_replicate]; show _ + 1 ≤ _; omega), fun l6 f6 => ?_⟩
      have s6 := Same.tr s5 (same_new (o := .lst (t.firsts.map V.int ++ (List.replicate (t.words - (t.firsts.length : Int)).toNat [V.int 0]).flatten ++ [V.non])) f6)
      refine ⟨lt, l6, (foldTh ts).1, newTh t, rfl, rfl, s6 _ _ gT, upd_same, sz _ (by omega), ?_⟩
      refine ⟨_, _, _, _, _, rfl, ?_, ?_⟩
      · exact (k2.tr (kA.tr (TK.same s6))).tr (tk_upd (s6 _ _ gT) (by simp))
      · rw [take_snoc ht, ← List.append_assoc, hts]
        exact v2.thing t (by rw [hA]; exact s6)
    · obtain ⟨o4, o7, o8, o9, o10, rfl, k2, v2⟩ := p
      rw [ltv, List.take_length, ← flat_take Un.ths hu'] at v2
      refine ⟨_, rfl, qf, rfl, ⟨_, SqT.of (k2 _ _ hqf)⟩, ?_⟩
      refine for_tup (xs := fs') (fun j σ H3 => ∃ (fvs' : List V) (o4 o5 o7 o8 o9 o10 : Option V), σ = [some (.ref a), some (.ref lu), some (.ref li), some (.int lim), o4, o5, some (.ref qf), o7, o8, o9, o10] ∧ TK H' H3 ∧ IV K H H3 ⟨a, dx, li, lo, df, lw, da, lt, ls, .non, fvs'⟩ lu uvs inp lim ((us.take (i + 1)).flatMap Un.ths) ((us.take i).flatMap Un.fns ++ u.fns.take j))
        ⟨fvs, _, _, _, _, _, _, rfl, k2, by rw [List.take_zero, List.append_nil]; exact v2⟩ (fun j σ H3 _ p => ?_) (fun j x σ H3 hx p => ?_) (fun σ H3 p => ?_)
      · obtain ⟨fvs', o4, o5, o7, o8, o9, o10, rfl, k3, v3⟩ := p
        exact SqT.of (k3 _ _ hqf)
      · obtain ⟨fvs', o4, o5, o7, o8, o9, o10, rfl, k3, v3⟩ := p
        have hj : j < u.fns.length := by rw [← lfv]; exact (List.getElem?_eq_some_iff.mp hx).1
        obtain ⟨fn, ht⟩ : ∃ t, u.fns[j]? = some t := ⟨u.fns[j], List.getElem?_eq_getElem hj⟩
        obtain ⟨x', hx', dt⟩ := (hfs'.keep k3).get (i := j) (d := fnD fn) (by rw [List.getElem?_map, ht]; rfl)
        rw [hx] at hx'
        injection hx' with hx'
        subst hx'
        obtain ⟨qa, ys, rfl, hqa, hys⟩ := id dt.tupI
        obtain ⟨v1, r1, rfl, d1, hr1⟩ := hys.one
        obtain rfl := d1.strI
        have hnew : ¬ fn.nm ∈ ((us.take i).flatMap Un.fns ++ u.fns.take j).map Fn.nm := by
          obtain ⟨rest, e⟩ := flat_pre Un.fns hu' (j + 1)
          rw [take_snoc ht, ← List.append_assoc ((us.take i).flatMap Un.fns)] at e
          rw [e, List.map_append, List.map_append] at hnd
          have z := (List.nodup_append.mp (List.nodup_append.mp hnd).1).2.2
          exact fun m => z _ m fn.nm (by simp) rfl
        have hsz : (fkv ((us.take i).flatMap Un.fns ++ u.fns.take j) fvs').length ≤ 1000 := by
          obtain ⟨rest, e⟩ := flat_pre Un.fns hu' j
          have z := fkv_len (fs := (us.take i).flatMap Un.fns ++ u.fns.take j) (vs := fvs')
          have z2 := congrArg List.length e
          rw [List.length_append] at z2
          omega
        refine ⟨_, rfl, _, rfl, a, _, dx, _, _, rfl, v3.ga, T.cl_LowRun.c, naG T g_fu, rfl, _, rfl, qa, _, ((0 : Nat) : Int), _, rfl, rfl, SqT.of hqa, atI_nat (by rfl), df, _, rfl, DPut.k (k := Sum.inr fn.nm) v3.df (sz' _ (Nat.le_trans hsz (by decide))), ?_⟩
        refine ⟨fvs' ++ [.ref qa], _, _, _, _, _, _, rfl, k3.tr (tk_upd v3.df (by simp)), ?_⟩
        rw [take_snoc ht, ← List.append_assoc]
        exact v3.func fn dt hnew
      · obtain ⟨fvs', o4, o5, o7, o8, o9, o10, rfl, k3, v3⟩ := p
        rw [lfv, List.take_length, ← flat_take Un.fns hu'] at v3
        exact ⟨fvs', _, _, _, _, _, _, _, rfl, v3⟩
  · obtain ⟨fvs, o4, o5, o6, o7, o8, o9, o10, rfl, v⟩ := p
    rw [hlen, List.take_length] at v
    obtain ⟨vc, vf, vk⟩ := v
    rw [hth] at vc
    refine h H' ⟨a, dx, li, lo, df, lw, da, lt, ls, .non, fvs⟩ rfl ⟨?_, trivial, vf, .inl ⟨rfl, rfl⟩⟩ vk
    have pp := Cells.perm vc (perm9 _ _ _ _ _ _ _ _ _)
    exact pp.sub (List.sublist_append_left (l₁ := hcells K ⟨a, dx, li, lo, df, lw, da, lt, ls, .non, fvs⟩ (mm0 (us.flatMap Un.fns) inp lim) .non []) [(lu, .lst uvs)] |> fun z => by simpa [hcells, wcells, mm0] using z)
end
end K55

namespace K55
open PySem PyProof.Rows L2 My Ru M55
open Builtin (bitAnd bitOr)
def sp_Going_trap (K : PySem.W.Frag) : Sp := sp3 fun x y z H Q _ => ∃ (G : GA) (m : Mm) (C : FA) (Ws : List FA) (k : Str) (d : PyData), x = .ref G.a ∧ y = .str k ∧ DT H z d ∧ R K H G m C Ws ∧
  ∀ (H' : Hp) (G' : GA), R K H' G' { m with en := some (.tuple [.str "trap", .str k, d]) } C Ws → G'.a = G.a → TK H H' → Q .non H'
def sp_Going_take (K : PySem.W.Frag) : Sp := sp2 fun x y H Q _ => ∃ (G : GA) (m : Mm) (C : FA) (Ws : List FA) (d : PyData), x = .ref G.a ∧ DT H y d ∧ R K H G m C Ws ∧ m.tk ≤ m.inp.length ∧
  (∀ v, m.inp[m.tk]? = some v → ∀ H' : Hp, R K H' G { m with tk := m.tk + 1 } C Ws → TK H H' → Q v H') ∧
  (m.inp[m.tk]? = none → ∀ (H' : Hp) (G' : GA), R K H' G' { m with en := some (.tuple [.str "trap", .str "input", d]) } C Ws → G'.a = G.a → TK H H' → Q .non H')
def sp_Going_more (K : PySem.W.Frag) : Sp := sp1 fun x H Q _ => ∃ (G : GA) (m : Mm) (C : FA) (Ws : List FA), x = .ref G.a ∧ R K H G m C Ws ∧ Q (.int (if m.tk < m.inp.length then 1 else 0)) H
def sp_LowRun_end_frame (K : PySem.W.Frag) : Sp := sp1 fun x H Q _ => ∃ (G : GA) (m : Mm) (C : FA) (Ws : List FA), x = .ref G.a ∧ R K H G m C Ws ∧ m.cur.first ≤ m.sl.length ∧
  ∀ H' : Hp, R K H' G { m with sl := m.sl.take m.cur.first } C Ws → TK H H' → ButL [G.ls] H H' → Q .non H'
def wsA (G : GA) (a : Int) : Addr := if 1073741824 ≤ a then G.ls else G.lt
def lcY : Lc → Str
  | .at_ _ => "at" | .nm => "name" | .sl _ => "slot"
def lcZ : Lc → V
  | .at_ x => .int x | .nm => .str "g" | .sl k => .int (k : Int)
def sp5 (p : V → V → V → V → V → Hp → VK → XK → Prop) : Sp := fun vs H Q E => ∃ a b c d e, vs = [a, b, c, d, e] ∧ p a b c d e H Q E
theorem len5 {p} (vs : List V) (H : Hp) (Q : VK) (E : XK) (h : sp5 p vs H Q E) : vs.length = 5 := by obtain ⟨a, b, c, d, e, rfl, _⟩ := h; rfl
def sp_LowRun_spot (K : PySem.W.Frag) : Sp := sp5 fun x y u v z H Q _ => ∃ (G : GA) (m : Mm) (C : FA) (Ws : List FA) (l : Lc) (b ad : Int) (d : PyData), x = .ref G.a ∧ y = .str (lcY l) ∧ u = lcZ l ∧ v = .int b ∧ DT H z d ∧ R K H G m C Ws ∧ spotA m l b = some ad ∧
  (there (cellsOf m ad).1 (cellsOf m ad).2 = true → ∀ (H' : Hp) (t : Addr), Same H H' → H' t = some (.tup [.ref (wsA G ad), .int ((cellsOf m ad).2 / 4)]) → Q (.ref t) H') ∧
  (there (cellsOf m ad).1 (cellsOf m ad).2 = false → ∀ (H' : Hp) (G' : GA) (t : Addr), R K H' G' { m with en := some (.tuple [.str "astray", d]) } C Ws → G'.a = G.a → TK H H' → H' t = some (.tup [.non, .int 0]) → Q (.ref t) H')
def sp_RowRun_give_back (K : PySem.W.Frag) : Sp := sp2 fun x v H Q _ => ∃ (G : GA) (m m' : Mm) (C : FA) (Ws : List FA), x = .ref G.a ∧ R K H G m C Ws ∧ giveBack m v = some m' ∧
  ∀ (H' : Hp) (G' : GA) (C' : FA) (Ws' : List FA), R K H' G' m' C' Ws' → G'.a = G.a → TK H H' → Q .non H'
def sp_LowRun_begin (K : PySem.W.Frag) : Sp := sp3 fun x y z H Q _ => ∃ (G : GA) (m m' : Mm) (fv : V) (Ws : List FA) (f : Str) (hd : Addr) (as : List V), x = .ref G.a ∧ y = .str f ∧ z = .ref hd ∧ RB K H G m fv Ws ∧ (H hd = some (.lst as) ∨ H hd = some (.tup as)) ∧ begF m f as = some m' ∧
  ∀ (H' : Hp) (C' : FA), R K H' G m' C' Ws → TK H H' → Q .non H'
theorem slotsFrom_snoc : ∀ (xs : List Int) (n : Int) (sl : List V), slotsFrom (xs ++ [n]) sl = ((slotsFrom xs sl).1 ++ [V.int (1073741824 + 4 * ((slotsFrom xs sl).2.length : Int))], (slotsFrom xs sl).2 ++ (List.replicate n.toNat (V.int 0) ++ [V.non]))
  | [], n, sl => rfl
  | x :: xs, n, sl => by
    have ih := slotsFrom_snoc xs n (sl ++ (List.replicate x.toNat (V.int 0) ++ [V.non]))
    show (V.int (1073741824 + 4 * (sl.length : Int)) :: (slotsFrom (xs ++ [n]) _).1, (slotsFrom (xs ++ [n]) _).2) = _
    rw [ih]; rfl
theorem slots_len : ∀ (xs : List Int) (sl : List V), (∀ n ∈ xs, 0 ≤ n ∧ n ≤ 100) → (slotsFrom xs sl).1.length = xs.length ∧ (slotsFrom xs sl).2.length ≤ sl.length + 101 * xs.length
  | [], sl, _ => ⟨rfl, by show sl.length ≤ _; omega⟩
  | x :: xs, sl, h => by
    have ih := slots_len xs (sl ++ (List.replicate x.toNat (V.int 0) ++ [V.non])) (fun n hn => h n (List.mem_cons_of_mem _ hn))
    have hx := h x List.mem_cons_self
    refine ⟨?_, ?_⟩
    · show (slotsFrom xs _).1.length + 1 = _
      rw [ih.1]; rfl
    · show (slotsFrom xs _).2.length ≤ _
      have := ih.2
      rw [List.length_append, List.length_append, List.length_replicate] at this
      rw [List.length_cons]
      have e : ([V.non] : List V).length = 1 := rfl
      omega
theorem getLast_snoc {α : Type} : ∀ {xs : List α} {x : α}, xs.getLast? = some x → xs = xs.dropLast ++ [x]
  | [], x, h => by cases h
  | [a], x, h => by injection h with h; subst h; rfl
  | a :: b :: xs, x, h => by
    have ih := getLast_snoc (xs := b :: xs) (x := x) (by rw [List.getLast?_cons_cons] at h; exact h)
    show a :: b :: xs = (a :: (b :: xs).dropLast) ++ [x]
    rw [List.cons_append, ← ih]
theorem FTs.snoc {H : Hp} : ∀ {As : List FA} {fs : List Fm} {A : FA} {f : Fm}, FTs H As fs → FT H A f → FTs H (As ++ [A]) (fs ++ [f])
  | [], [], _, _, _, h => ⟨h, trivial⟩
  | _ :: _, _ :: _, _, _, h, k => ⟨h.1, FTs.snoc h.2 k⟩
  | [], _ :: _, _, _, h, _ => h.elim
  | _ :: _, [], _, _, h, _ => h.elim
theorem FTs.unsnoc {H : Hp} : ∀ {As : List FA} {fs : List Fm} {f : Fm}, FTs H As (fs ++ [f]) → ∃ As' A, As = As' ++ [A] ∧ FTs H As' fs ∧ FT H A f
  | [], [], f, h => h.elim
  | [], _ :: _, f, h => h.elim
  | [A], [], f, h => ⟨[], A, rfl, trivial, h.1⟩
  | A :: B :: As, [], f, h => h.2.elim
  | A :: As, g :: fs, f, h => by
    obtain ⟨As', B, rfl, h1, h2⟩ := FTs.unsnoc (As := As) (fs := fs) (f := f) h.2
    exact ⟨A :: As', B, rfl, ⟨h.1, h1⟩, h2⟩
theorem wcells_snoc {K : PySem.W.Frag} {H : Hp} : ∀ {As : List FA} {fs : List Fm} {A : FA} {f : Fm}, FTs H As fs → wcells K (As ++ [A]) (fs ++ [f]) = wcells K As fs ++ fcells K A f
  | [], [], A, f, _ => by show fcells K A f ++ [] = [] ++ fcells K A f; rw [List.append_nil, List.nil_append]
  | B :: As, g :: fs, A, f, h => by
    show fcells K B g ++ wcells K (As ++ [A]) (fs ++ [f]) = (fcells K B g ++ wcells K As fs) ++ fcells K A f
    rw [wcells_snoc h.2, List.append_assoc]
  | [], _ :: _, _, _, h => h.elim
  | _ :: _, [], _, _, h => h.elim
theorem FTs.len {H : Hp} : ∀ {As : List FA} {fs : List Fm}, FTs H As fs → As.length = fs.length
  | [], [], _ => rfl
  | _ :: _, _ :: _, h => by rw [List.length_cons, List.length_cons, FTs.len h.2]
  | [], _ :: _, h => h.elim
  | _ :: _, [], h => h.elim
section
variable {K : PySem.W.Frag} {H H' : Hp} {G : GA} {m m' : Mm} {C : FA} {Ws : List FA}
theorem gf_len (G : GA) (m : Mm) (fv : V) : (gfs G m fv).length = 12 := rfl
theorem R.end_ (r : R K H G m C Ws) {vs : List V} {ds : List PyData} (d : DTs H vs ds) {t : Addr} (ht : H t = none) : R K (upd (upd H t (.tup vs)) G.a (.ins (CLR K) G.dx (putF "ending" (.ref t) (gfs G m (.ref C.f))))) { G with ev := .ref t } { m with en := some (.tuple ds) } C Ws ∧
    TK H (upd (upd H t (.tup vs)) G.a (.ins (CLR K) G.dx (putF "ending" (.ref t) (gfs G m (.ref C.f))))) := by
  have s := same_new (o := .tup vs) ht
  have r2 : R K (upd H t (.tup vs)) G m C Ws := r.same s
  have dt : EnOk (upd H t (.tup vs)) (.ref t) (some (.tuple ds)) := .inr ⟨_, rfl, .tup upd_same (d.keep (TK.same s))⟩
  exact ⟨r2.setG (m' := { m with en := some (.tuple ds) }) rfl rfl dt, (TK.same s).tr (tk_upd r2.ga (by simp))⟩
end
section
variable {P : Program} {w : World} {K : PySem.W.Frag} {mg : Str → Option Value} {base : Heap}
theorem sc_Going_trap : FnScope ["self", "kind", "place"] ["self", "kind", "place"] (defScope s_Going_trap) := ⟨rfl, rfl, rfl, by decide +kernel, rfl, by decide +kernel, by decide +kernel⟩
theorem g_Going_trap (T : Txt K mg w)  : Gm P w K mg base CX0 1 (He.ga K "Going") "trap" ["self", "kind", "place"] (sp_Going_trap K) := by
  have sc := sc_Going_trap
  refine T.d_Going_trap.ok sc len3 (fun _ _ _ _ _ _ us hl => match us, hl with | [_, _, _], _ => rfl) (fun f cdv A outer s H vs Q E hr h => ?_)
  obtain ⟨x0, x1, x2, rfl, h⟩ := h
  obtain ⟨G, m, C, Ws, k, d, rfl, rfl, hz, r, h⟩ := h
  refine ⟨_, (pss_one (ps_fld (pv 0) (pe_tup (pa_cons pe_str (pa_cons (pv 1) (pa_cons (pv 2) pa_nil)))) rfl)), ?_⟩
  refine ⟨_, rfl, _, rfl, (by show 3 ≤ sizeLine; decide), fun t ht => ?_⟩
  refine ⟨_, rfl, G.a, _, G.dx, _, rfl, same_new ht _ _ r.ga, T.cl_LowRun.c, naG T g_en, (by rw [gf_len]; decide), ?_⟩
  have q := r.end_ (vs := [.str "trap", .str k, x2]) (ds := [.str "trap", .str k, d]) (.cons (.str _) (.cons (.str _) (.cons hz .nil))) ht
  exact h _ _ q.1 rfl q.2
theorem sc_Going_take : FnScope ["self", "place"] ["self", "place"] (defScope s_Going_take) := ⟨rfl, rfl, rfl, by decide +kernel, rfl, by decide +kernel, by decide +kernel⟩
theorem g_Going_take (T : Txt K mg w) (G_Going_trap : Gm P w K mg base CX0 1 (He.ga K "Going") "trap" ["self", "kind", "place"] (sp_Going_trap K)) : Gm P w K mg base CX0 2 (He.ga K "Going") "take" ["self", "place"] (sp_Going_take K) := by
  have sc := sc_Going_take
  refine T.d_Going_take.ok sc len2 (fun _ _ _ _ _ _ us hl => match us, hl with | [_, _], _ => rfl) (fun f cdv A outer s H vs Q E hr h => ?_)
  obtain ⟨x0, x1, rfl, h⟩ := h
  obtain ⟨G, m, C, Ws, d, rfl, hy, r, hle, hs, hn⟩ := h
  refine ⟨_, (pss_cons (ps_if (pt_cmpR op_eq (pe_fld (pv 0) rfl) (pe_callB call_len_seq (by rfl) T.n_len PySem.boot_len (pa_cons (pe_fld (pv 0) rfl) pa_nil)) (nomark _)) (pss_cons (ps_expr (pe_gm (pv 0) T.cl_LowRun.c (Mh.Gm.heir G_Going_trap T.hi_LowRun_trap) (hr.mono (by omega)) pass0 (pa_cons pe_str (pa_cons (pv 1) pa_nil))))
      (pss_one (ps_ret pe_non))) pss_nil)
      (pss_cons (ps_fldaug (pv 0) pe_int in_add)
      (pss_one (ps_ret (pe_ix ix_list (pe_fld (pv 0) rfl) (pe_op op_sub (pe_fld (pv 0) rfl) pe_int) (fun _ _ => rfl)))))), ?_⟩
  refine ⟨_, rfl, G.a, _, G.dx, _, _, rfl, r.ga, T.cl_LowRun.c, naG T g_ta, rfl, _, rfl, G.a, _, G.dx, _, _, rfl, r.ga, T.cl_LowRun.c, naG T g_in, rfl, G.li, _, rfl, Or.inl (SqL.of r.li), rfl, _, rfl, ?_⟩
  by_cases c : m.tk = m.inp.length
  · refine if_true_of (by rw [c]; exact decide_eq_true rfl) ?_
    refine ⟨_, rfl, G.a, G.dx, _, rfl, r.ga, rfl, _, rfl, ?_⟩
    refine ⟨_, _, _, rfl, G, m, C, Ws, "input", d, rfl, rfl, hy, r, fun H1 G1 r1 e1 k1 => ?_⟩
    exact hn (List.getElem?_eq_none (by omega)) H1 G1 r1 e1 k1
  · refine if_false_of (by rw [dec_i]; exact decide_eq_false (by omega)) ?_
    have hlt : m.tk < m.inp.length := by omega
    refine ⟨_, rfl, G.a, _, G.dx, _, _, rfl, r.ga, T.cl_LowRun.c, naG T g_ta, rfl, _, _, rfl, rfl, G.dx, _, r.ga, (by rw [gf_len]; decide), ?_⟩
    have r1 := r.setG (m' := { m with tk := m.tk + 1 }) (fs := putF "taken" (.int ((m.tk : Int) + 1)) (gfs G m (.ref C.f))) (ev := G.ev) rfl rfl r.en
    have k1 : TK H (upd H G.a (.ins (CLR K) G.dx (putF "taken" (.int ((m.tk : Int) + 1)) (gfs G m (.ref C.f))))) := tk_upd r.ga (by simp)
    generalize upd H G.a (.ins (CLR K) G.dx (putF "taken" (.int ((m.tk : Int) + 1)) (gfs G m (.ref C.f)))) = H1 at *
    refine ⟨_, rfl, G.a, _, G.dx, _, _, rfl, r1.ga, T.cl_LowRun.c, naG T g_in, rfl, _, rfl, G.a, _, G.dx, _, _, rfl, r1.ga, T.cl_LowRun.c, naG T g_ta, rfl, _, _, rfl, rfl, G.li, _, _, m.inp[m.tk], rfl, rfl, SqL.of r1.li, ?_, ?_⟩
    · show atI m.inp (((m.tk + 1 : Nat) : Int) - 1) = _
      rw [show ((m.tk + 1 : Nat) : Int) - 1 = (m.tk : Int) by omega]
      exact atI_nat (List.getElem?_eq_getElem hlt)
    · exact hs _ (List.getElem?_eq_getElem hlt) H1 r1 k1
theorem sc_Going_more : FnScope ["self"] ["self"] (defScope s_Going_more) := ⟨rfl, rfl, rfl, by decide +kernel, rfl, by decide +kernel, by decide +kernel⟩
theorem g_Going_more (T : Txt K mg w)  : Gm P w K mg base CX0 1 (He.ga K "Going") "more" ["self"] (sp_Going_more K) := by
  have sc := sc_Going_more
  refine T.d_Going_more.ok sc len1 (fun _ _ _ _ _ _ us hl => match us, hl with | [_], _ => rfl) (fun f cdv A outer s H vs Q E hr h => ?_)
  obtain ⟨x0, rfl, h⟩ := h
  obtain ⟨G, m, C, Ws, rfl, r, h⟩ := h
  refine ⟨_, (pss_one (ps_ret (pe_ifExp (pt_cmpR op_lt (pe_fld (pv 0) rfl) (pe_callB call_len_seq (by rfl) T.n_len PySem.boot_len (pa_cons (pe_fld (pv 0) rfl) pa_nil)) (nomark _)) pe_int pe_int))), ?_⟩
  refine ⟨_, rfl, G.a, _, G.dx, _, _, rfl, r.ga, T.cl_LowRun.c, naG T g_ta, rfl, _, rfl, G.a, _, G.dx, _, _, rfl, r.ga, T.cl_LowRun.c, naG T g_in, rfl, G.li, _, rfl, Or.inl (SqL.of r.li), _, _, rfl, rfl, _, rfl, ?_⟩
  by_cases c : m.tk < m.inp.length
  · rw [if_pos c] at h
    exact if_true_of (decide_eq_true (by omega)) h
  · rw [if_neg c] at h
    exact if_false_of (decide_eq_false (by omega)) h
theorem sc_LowRun_end_frame : FnScope ["self"] ["self"] (defScope s_LowRun_end_frame) := ⟨rfl, rfl, rfl, by decide +kernel, rfl, by decide +kernel, by decide +kernel⟩
theorem g_LowRun_end_frame (T : Txt K mg w)  : Gm P w K mg base CX0 1 (He.ga K "LowRun") "end_frame" ["self"] (sp_LowRun_end_frame K) := by
  have sc := sc_LowRun_end_frame
  refine T.d_LowRun_end_frame.ok sc len1 (fun _ _ _ _ _ _ us hl => match us, hl with | [_], _ => rfl) (fun f cdv A outer s H vs Q E hr h => ?_)
  obtain ⟨x0, rfl, h⟩ := h
  obtain ⟨G, m, C, Ws, rfl, r, hle, h⟩ := h
  refine ⟨_, (pss_one (Q5.ps_delS (pe_fld (pv 0) rfl) (pe_fld (pe_fld (pv 0) rfl) rfl))), ?_⟩
  refine ⟨_, rfl, G.a, _, G.dx, _, _, rfl, r.ga, T.cl_LowRun.c, naG T g_sl, rfl, _, rfl, G.a, _, G.dx, _, _, rfl, r.ga, T.cl_LowRun.c, naG T g_fr, rfl, C.f, _, C.fx, _, _, rfl, r.f, T.cl_LowFrame.c, naF T f_fi, rfl, ?_⟩
  refine ⟨G.ls, m.sl, m.cur.first, rfl, rfl, r.ls, hle, ?_⟩
  exact h _ (r.setSl _) (tk_upd r.ls (by simp)) (ButL.put (by simp))
end
end K55

namespace K55
open PySem PyProof.Rows L2 My Ru M55
open Builtin (bitAnd bitOr)
/-- a statement, then the rest, what lies between told once -/
def tMid (t u : TS) : TS := fun D σ H => ∃ M : L2.St → Hp → Prop, t { D with nx := M } σ H ∧ ∀ σ1 H1, M σ1 H1 → u D σ1 H1
theorem pss_mid {X : Cx} {st : Stmt} {rest : List Stmt} {t u : TS} (h1 : PS X st t) (h2 : PSs X rest u) : PSs X (st :: rest) (tMid t u) := by
  refine ⟨fun pins s σ H D I ⟨M, a, b⟩ => wpAny_execs_cons (thn (h1.run pins s σ H { D with nx := M } I a) fun f s1 q => ?_)⟩
  match f, q with
  | .next, ⟨σ1, H1, I1, q1⟩ => exact h2.run pins s1 σ1 H1 D I1 (b σ1 H1 q1)
  | .ret v, q => exact q
  | .brk, q => exact q
  | .cont, q => exact q
theorem ixN_at {n i : Nat} (h : i < n) : ixN n (i : Int) = some i := by
  unfold ixN
  rw [if_pos (Int.natCast_nonneg i), Int.toNat_natCast, if_pos (by omega)]
theorem ixN_int {n : Nat} {k : Int} (h0 : 0 ≤ k) (h1 : k < n) : ixN n k = some k.toNat := by
  have e : k = (k.toNat : Int) := by omega
  have := ixN_at (n := n) (i := k.toNat) (by omega)
  rw [← e] at this
  exact this
theorem there_t {ws : List V} {a : Int} (h : there ws a = true) : a % 4 = 0 ∧ 0 ≤ a ∧ a < 4 * (ws.length : Int) ∧ ws.getD (a / 4).toNat V.non ≠ V.non := by
  unfold there at h
  simp only [Bool.and_eq_true, decide_eq_true_eq, Bool.not_eq_true', decide_eq_false_iff_not] at h
  exact ⟨h.1, h.2.1, h.2.2.1, h.2.2.2⟩
theorem wI_at {w : List (Key × V)} {x n : Int} (h : wI w x = some n) : valV w (inl x) = some (.int n) := by
  unfold wI at h
  split at h
  · rename_i k e
    injection h with h
    rw [e, h]
  · cases h
section
variable {P : Program} {w : World} {K : PySem.W.Frag} {mg : Str → Option Value} {base : Heap}
theorem sc_LowRun_spot : FnScope ["self", "kind", "what", "behind", "place", "address", "start", "words", "at"] ["self", "kind", "what", "behind", "place"] (defScope s_LowRun_spot) := ⟨rfl, rfl, rfl, by decide +kernel, rfl, by decide +kernel, by decide +kernel⟩
theorem g_LowRun_spot (T : Txt K mg w) (G_word_of : Gd P w K mg base CX0 1 "word_of" ["number"] (sp_word_of K)) : Gm P w K mg base CX0 2 (He.ga K "LowRun") "spot" ["self", "kind", "what", "behind", "place"] (sp_LowRun_spot K) := by
  have sc := sc_LowRun_spot
  refine T.d_LowRun_spot.ok sc len5 (fun _ _ _ _ _ _ us hl => match us, hl with | [_, _, _, _, _], _ => rfl) (fun f cdv A outer s H vs Q E hr h => ?_)
  obtain ⟨x0, x1, x2, x3, x4, rfl, h⟩ := h
  obtain ⟨G, m, C, Ws, l, b, ad, d, rfl, rfl, rfl, rfl, hz, r, hsp, hs, hn⟩ := h
  refine ⟨_, (pss_mid (ps_if (pt_cmpR op_eq (pv 1) pe_str (nomark _)) (pss_one (ps_set (i := 6) sc.nd rfl (Or.inl rfl) (pe_dget (hu_of hr) (pe_fld (pe_fld (pv 0) rfl) rfl) (pv 2) (fun _ _ => rfl)))) (pss_one (ps_set (i := 6) sc.nd rfl (Or.inl rfl) (pe_ifExp (pt_cmpR op_eq (pv 1) pe_str (nomark _)) (pe_dget (hu_of hr) (pe_fld (pv 0) rfl) (pv 2) (fun _ _ => rfl)) (pe_ix ix_list (pe_fld (pe_fld (pv 0) rfl) rfl) (pv 2) (fun _ _ => rfl))))))
      (pss_cons (ps_set (i := 5) sc.nd rfl (Or.inl rfl) (pe_g G_word_of (hr.mono (by omega)) pass0 (pa_cons (pe_op op_add (pv 6) (pv 3)) pa_nil)))
      (pss_cons (ps_par (i := 7) (j := 8) (by rfl) sc.nd rfl rfl (by decide) rfl rfl (pa_cons (pe_fld (pv 0) rfl) (pa_cons (pe_op op_sub (pv 5) (pe_gint T.c_GLOBALS_START)) pa_nil)) (by rfl))
      (pss_mid (ps_if (pt_cmpR op_ge (pv 5) (pe_gint T.c_SLOTS_START) (nomark _)) (pss_one (ps_par (i := 7) (j := 8) (by rfl) sc.nd rfl rfl (by decide) rfl rfl (pa_cons (pe_fld (pv 0) rfl) (pa_cons (pe_op op_sub (pv 5) (pe_gint T.c_SLOTS_START)) pa_nil)) (by rfl))) pss_nil)
      (pss_mid (ps_if (PW.pt (pw_and (pt_cmpR op_eq (pe_op op_and (pv 8) (pe_op op_sub (pe_gint T.c_BYTES) pe_int)) pe_int (nomark _)) (pw_and (pt_chain op_le op_lt pe_int (pv 8) (pe_op op_mul (pe_gint T.c_BYTES) (pe_callB call_len_seq (by rfl) T.n_len PySem.boot_len (pa_cons (pv 7) pa_nil)))) (pw_and1 (pt_cmpR op_notN (pe_ix ix_list (pv 7) (pe_op op_fdiv (pv 8) (pe_gint T.c_BYTES)) (fun _ _ => rfl)) pe_non (nomark _)))))) (pss_one (ps_ret (pe_tup (pa_cons (pv 7) (pa_cons (pe_op op_fdiv (pv 8) (pe_gint T.c_BYTES)) pa_nil))))) pss_nil)
      (pss_cons (ps_fld (pv 0) (pe_tup (pa_cons pe_str (pa_cons (pv 4) pa_nil))) rfl)
      (pss_one (ps_ret (pe_tup (pa_cons pe_non (pa_cons pe_int pa_nil))))))))))), ?_⟩
  refine ⟨fun σ H1 => ∃ st : Int, H1 = H ∧ σ = [some (.ref G.a), some (.str (lcY l)), some (lcZ l), some (.int b), some x4, none, some (.int st), none, none] ∧ (st + b) % 4294967296 = ad, ?_, ?_⟩
  · cases l with
    | at_ x =>
      refine ⟨_, rfl, rfl, _, rfl, if_true_of rfl ?_⟩
      have e : ∃ st, wI m.cur.w x = some st ∧ (st + b) % 4294967296 = ad := by
        show ∃ st, _
        unfold spotA at hsp
        dsimp only at hsp
        cases c : wI m.cur.w x with
        | none => rw [c] at hsp; cases hsp
        | some st => rw [c] at hsp; injection hsp with hsp; exact ⟨st, rfl, hsp⟩
      obtain ⟨st, e1, e2⟩ := e
      refine ⟨_, rfl, G.a, _, G.dx, _, _, rfl, r.ga, T.cl_LowRun.c, naG T g_fr, rfl, C.f, _, C.fx, _, _, rfl, r.f, T.cl_LowFrame.c, naF T f_wo, rfl, _, rfl, C.dw, _, rfl, (wI_at e1 ▸ DGet.k (k := inl x) r.dw), ?_⟩
      exact ⟨st, rfl, rfl, e2⟩
    | nm =>
      refine ⟨_, rfl, rfl, _, rfl, if_false_of rfl ?_⟩
      refine ⟨_, rfl, rfl, _, rfl, if_true_of rfl ?_⟩
      refine ⟨_, rfl, G.a, _, G.dx, _, _, rfl, r.ga, T.cl_LowRun.c, naG T g_ad, rfl, _, rfl, G.da, .int 4096, rfl, DGet.k (k := Sum.inr "g") r.da, ?_⟩
      injection hsp with hsp
      exact ⟨4096, rfl, rfl, hsp⟩
    | sl k =>
      refine ⟨_, rfl, rfl, _, rfl, if_false_of rfl ?_⟩
      refine ⟨_, rfl, rfl, _, rfl, if_false_of rfl ?_⟩
      have e : ∃ st, m.cur.sl[k]? = some (.int st) ∧ (st + b) % 4294967296 = ad := by
        unfold spotA at hsp
        dsimp only at hsp
        split at hsp
        · rename_i st c
          injection hsp with hsp
          exact ⟨st, c, hsp⟩
        · cases hsp
      obtain ⟨st, e1, e2⟩ := e
      refine ⟨_, rfl, G.a, _, G.dx, _, _, rfl, r.ga, T.cl_LowRun.c, naG T g_fr, rfl, C.f, _, C.fx, _, _, rfl, r.f, T.cl_LowFrame.c, naF T f_sl, rfl, _, rfl, C.fs, _, (k : Int), _, rfl, rfl, SqL.of r.fs, atI_nat e1, ?_⟩
      exact ⟨st, rfl, rfl, e2⟩
  · rintro σ H1 ⟨st, rfl, rfl, e2⟩
    refine ⟨_, rfl, _, rfl, _, _, rfl, rfl, _, rfl, _, rfl, ?_⟩
    rw [e2]
    refine ⟨_, rfl, G.a, _, G.dx, _, _, rfl, r.ga, T.cl_LowRun.c, naG T g_th, rfl, _, rfl, _, _, rfl, rfl, _, _, rfl, ?_⟩
    refine ⟨fun σ H2 => H2 = H1 ∧ σ = [some (.ref G.a), some (.str (lcY l)), some (lcZ l), some (.int b), some x4, some (.int ad), some (.int st), some (.ref (wsA G ad)), some (.int (cellsOf m ad).2)], ?_, ?_⟩
    · refine ⟨_, rfl, _, _, rfl, rfl, _, rfl, ?_⟩
      by_cases c : (1073741824 : Int) ≤ ad
      · refine if_true_of (decide_eq_true c) ?_
        refine ⟨_, rfl, G.a, _, G.dx, _, _, rfl, r.ga, T.cl_LowRun.c, naG T g_sl, rfl, _, rfl, _, _, rfl, rfl, _, _, rfl, rfl, ?_⟩
        unfold wsA cellsOf
        rw [if_pos c, if_pos c]; rfl
      · refine if_false_of (decide_eq_false c) ?_
        refine ⟨rfl, ?_⟩
        unfold wsA cellsOf
        rw [if_neg c, if_neg c]; rfl
    · rintro σ H2 ⟨rfl, rfl⟩
      have hws : H2 (wsA G ad) = some (.lst (cellsOf m ad).1) := by
        unfold wsA cellsOf
        by_cases c : (1073741824 : Int) ≤ ad
        · rw [if_pos c, if_pos c]; exact r.ls
        · rw [if_neg c, if_neg c]; exact r.lt
      generalize hW : wsA G ad = W at *
      generalize hc1 : (cellsOf m ad).1 = ws at *
      generalize hc2 : (cellsOf m ad).2 = pt at *
      have e4 : bitAnd pt (4 - 1) = pt % 4 := by rw [show (4 - 1 : Int) = 3 by decide, m2]
      refine ⟨fun σ H3 => H3 = H2 ∧ σ = [some (.ref G.a), some (.str (lcY l)), some (lcZ l), some (.int b), some x4, some (.int ad), some (.int st), some (.ref W), some (.int pt)] ∧ there ws pt = false, ?_, ?_⟩
      · refine ⟨_, rfl, _, _, rfl, rfl, _, _, rfl, rfl, rfl, _, rfl, ?_⟩
        by_cases d1 : pt % 4 = 0
        · refine if_true_of (by show decide (V.int (bitAnd pt (4 - 1)) = V.int 0) = true; rw [e4, dec_i]; exact decide_eq_true d1) ?_
          by_cases d2 : 0 ≤ pt
          · refine ⟨_, rfl, _, _, rfl, rfl, true, congrArg V.bl (decide_eq_true d2), if_true_of rfl ?_⟩
            by_cases d3 : pt < 4 * (ws.length : Int)
            · refine ⟨_, rfl, W, _, rfl, Or.inl (SqL.of hws), _, _, rfl, rfl, Or.inl ⟨by decide, by decide⟩, _, _, rfl, rfl, _, rfl, if_true_of (decide_eq_true d3) ?_⟩
              have hlt : (pt / 4).toNat < ws.length := by omega
              refine ⟨_, rfl, _, rfl, _, _, rfl, rfl, ⟨by decide, by decide⟩, W, _, _, ws[(pt / 4).toNat], rfl, rfl, SqL.of hws, ?_, ?_⟩
              · exact at_of (j := (pt / 4).toNat) (by omega) (List.getElem?_eq_getElem hlt)
              have eg : ws.getD (pt / 4).toNat V.non = ws[(pt / 4).toNat] := by rw [List.getD_eq_getElem?_getD, List.getElem?_eq_getElem hlt]; rfl
              refine ⟨rfl, _, rfl, ?_⟩
              by_cases d4 : ws[(pt / 4).toNat] = V.non
              · refine if_false_of (by rw [decide_eq_true d4]; rfl) ?_
                refine ⟨rfl, rfl, ?_⟩
                unfold there
                rw [eg, decide_eq_true d4]; simp
              · refine if_true_of (by rw [decide_eq_false d4]; rfl) ?_
                refine ⟨_, rfl, _, rfl, _, _, rfl, rfl, ⟨by decide, by decide⟩, (by show 2 ≤ sizeLine; decide), fun t ht => ?_⟩
                refine hs ?_ _ t (same_new ht) upd_same
                unfold there
                rw [eg, decide_eq_true d1, decide_eq_true d2, decide_eq_true d3, decide_eq_false d4]; rfl
            · refine ⟨_, rfl, W, _, rfl, Or.inl (SqL.of hws), _, _, rfl, rfl, Or.inl ⟨by decide, by decide⟩, _, _, rfl, rfl, _, rfl, if_false_of (decide_eq_false d3) ?_⟩
              refine ⟨rfl, rfl, ?_⟩
              unfold there
              rw [decide_eq_false d3]; simp
          · refine ⟨_, rfl, _, _, rfl, rfl, false, congrArg V.bl (decide_eq_false d2), if_false_of rfl ?_⟩
            refine ⟨false, rfl, if_false_of rfl ⟨rfl, rfl, ?_⟩⟩
            unfold there
            rw [decide_eq_false d2]; simp
        · refine if_false_of (by show decide (V.int (bitAnd pt (4 - 1)) = V.int 0) = false; rw [e4, dec_i]; exact decide_eq_false d1) ?_
          refine ⟨rfl, rfl, ?_⟩
          unfold there
          rw [decide_eq_false d1]; rfl
      · rintro σ H3 ⟨rfl, rfl, hno⟩
        refine ⟨_, rfl, (by show 2 ≤ sizeLine; decide), fun t ht => ?_⟩
        refine ⟨_, rfl, G.a, _, G.dx, _, rfl, same_new ht _ _ r.ga, T.cl_LowRun.c, naG T g_en, (by rw [gf_len]; decide), ?_⟩
        have q := r.end_ (vs := [.str "astray", x4]) (ds := [.str "astray", d]) (.cons (.str _) (.cons hz .nil)) ht
        refine ⟨(by show 2 ≤ sizeLine; decide), fun t2 ht2 => ?_⟩
        exact hn hno _ _ t2 (q.1.same (same_new ht2)) rfl (q.2.tr (TK.same (same_new ht2))) upd_same
end
end K55

namespace K55
open PySem PyProof.Rows L2 My Ru M55
open Builtin (bitAnd bitOr)
def wrefs (Ws : List FA) : List V := Ws.map fun B => V.ref B.f
theorem wrefs_snoc (Ws : List FA) (B : FA) : wrefs (Ws ++ [B]) = wrefs Ws ++ [V.ref B.f] := by unfold wrefs; rw [List.map_append]; rfl
theorem last_at {α : Type} (xs : List α) (x : α) : (xs ++ [x])[(xs ++ [x]).length - 1]? = some x := by
  rw [List.length_append]
  show (xs ++ [x])[xs.length + 1 - 1]? = _
  rw [Nat.add_sub_cancel, List.getElem?_append_right (Nat.le_refl _), Nat.sub_self]; rfl
section
variable {P : Program} {w : World} {K : PySem.W.Frag} {mg : Str → Option Value} {base : Heap}
theorem sc_RowRun_give_back : FnScope ["self", "word"] ["self", "word"] (defScope s_RowRun_give_back) := ⟨rfl, rfl, rfl, by decide +kernel, rfl, by decide +kernel, by decide +kernel⟩
theorem g_RowRun_give_back (T : Txt K mg w) (G_RowFrame_last_row : Gm P w K mg base CX0 1 (He.ga K "RowFrame") "last_row" ["self"] (sp_RowFrame_last_row K)) : Gm P w K mg base CX0 2 (He.ga K "RowRun") "give_back" ["self", "word"] (sp_RowRun_give_back K) := by
  have sc := sc_RowRun_give_back
  refine T.d_RowRun_give_back.ok sc len2 (fun _ _ _ _ _ _ us hl => match us, hl with | [_, _], _ => rfl) (fun f cdv A outer s H vs Q E hr h => ?_)
  obtain ⟨x0, x1, rfl, h⟩ := h
  obtain ⟨G, m, m', C, Ws, rfl, r, hg, h⟩ := h
  have hlw := r.ws.len
  refine ⟨_, (pss_one (ps_if (pt_truth (pe_fld (pv 0) rfl) (by intro _; rfl)) (pss_cons (ps_fld (pv 0) (pe_bm0 PySem.F.plainAttrs_list PySem.F.slot_list_pop PySem.F.type_list_pop mt_pop (pe_fld (pv 0) rfl)) rfl)
      (pss_one (ps_dput (hu_of hr) (pe_fld (pe_fld (pv 0) rfl) rfl) (pe_ix ix_tup (pe_gm0 (pe_fld (pv 0) rfl) T.cl_LowFrame.c (Mh.Gm.heir G_RowFrame_last_row T.hi_LowFrame_last_row) (hr.mono (by omega)) pass0) pe_int (fun _ _ => rfl)) (pv 1) rfl))) (pss_one (ps_fld (pv 0) (pe_tup (pa_cons pe_str (pa_cons (pv 1) pa_nil))) rfl)))), ?_⟩
  refine ⟨_, rfl, G.a, _, G.dx, _, _, rfl, r.ga, T.cl_LowRun.c, naG T g_wa, rfl, _, .inl ⟨_, SqL.of r.lw, rfl⟩, ?_⟩
  unfold giveBack at hg
  cases hl : m.wt.getLast? with
  | none =>
    rw [hl] at hg
    dsimp only at hg
    have e : m.wt = [] := List.getLast?_eq_none_iff.mp hl
    rw [e] at hlw
    have e2 : Ws = [] := List.length_eq_zero_iff.mp hlw
    subst e2
    refine if_false_of rfl ?_
    split at hg
    · rename_i n
      injection hg with hg
      subst hg
      refine ⟨_, rfl, (by show 2 ≤ sizeLine; decide), fun t ht => ?_⟩
      refine ⟨_, rfl, G.a, _, G.dx, _, rfl, same_new ht _ _ r.ga, T.cl_LowRun.c, naG T g_en, (by rw [gf_len]; decide), ?_⟩
      have q := r.end_ (vs := [.str "answer", .int n]) (ds := [.str "answer", .int n]) (.cons (.str _) (.cons (.int _) .nil)) ht
      exact h _ _ _ _ q.1 rfl q.2
    · cases hg
  | some fr =>
    rw [hl] at hg
    dsimp only at hg
    split at hg
    · cases hg
    rename_i hsz
    split at hg
    · rename_i x fn args pa pb hrow
      injection hg with hg
      have hw := getLast_snoc hl
      generalize hd : m.wt.dropLast = wt' at *
      have rws := r.ws
      rw [hw] at rws
      obtain ⟨Ws', A, rfl, ws1, ws2⟩ := FTs.unsnoc rws
      have rcs := r.cs
      rw [hw, wcells_snoc ws1] at rcs
      have hlwt : H G.lw = some (.lst (wrefs Ws' ++ [.ref A.f])) := by rw [← wrefs_snoc]; exact r.lw
      refine if_true_of (by rw [List.map_append]; simp) ?_
      refine ⟨_, rfl, G.a, _, G.dx, _, _, rfl, r.ga, T.cl_LowRun.c, naG T g_wa, rfl, .inl ⟨rfl, _, SqL.of r.lw⟩, ?_⟩
      refine ⟨G.lw, _, .ref A.f, rfl, rfl, hlwt, last_at _ _, ?_⟩
      rw [List.dropLast_concat]
      have k1 : TK H (upd H G.lw (.lst (wrefs Ws'))) := tk_upd r.lw (by simp)
      have c1 : Cells (upd H G.lw (.lst (wrefs Ws'))) (hcells K G m (.ref C.f) Ws' ++ (fcells K C m.cur ++ (wcells K Ws' wt' ++ fcells K A fr))) :=
        Cells.set1 (l1 := [(G.a, .ins (CLR K) G.dx (gfs G m (.ref C.f))), (G.lo, .lst m.out)]) (p := G.lw) (o := .lst (wrefs (Ws' ++ [A]))) rcs
      generalize upd H G.lw (.lst (wrefs Ws')) = H1 at *
      have ga1 : H1 G.a = some (.ins (CLR K) G.dx (gfs G m (.ref C.f))) := c1.2 (G.a, .ins (CLR K) G.dx (gfs G m (.ref C.f))) (by simp [hcells])
      refine ⟨_, rfl, G.a, _, G.dx, _, rfl, ga1, T.cl_LowRun.c, naG T g_fr, (by rw [gf_len]; decide), ?_⟩
      have k2 : TK H1 (upd H1 G.a (.ins (CLR K) G.dx (putF "frame" (.ref A.f) (gfs G m (.ref C.f))))) := tk_upd ga1 (by simp)
      have c2 : Cells (upd H1 G.a (.ins (CLR K) G.dx (putF "frame" (.ref A.f) (gfs G m (.ref C.f))))) (hcells K G m (.ref A.f) Ws' ++ (fcells K C m.cur ++ (wcells K Ws' wt' ++ fcells K A fr))) :=
        Cells.set1 (l1 := []) (p := G.a) (o := .ins (CLR K) G.dx (gfs G m (.ref C.f))) c1
      generalize upd H1 G.a (.ins (CLR K) G.dx (putF "frame" (.ref A.f) (gfs G m (.ref C.f)))) = H2 at *
      have kk := k1.tr k2
      have r2 : R K H2 G { m with cur := fr, wt := wt' } A Ws' :=
        ⟨(c2.sub (List.Sublist.append (List.Sublist.refl _) (List.sublist_append_right _ _))).perm (List.Perm.append_left _ List.perm_append_comm), ws2.keep kk, ws1.keep kk, r.fn.keep kk, r.en.keep kk⟩
      refine ⟨_, rfl, _, rfl, G.a, _, G.dx, _, _, rfl, r2.ga, T.cl_LowRun.c, naG T g_fr, rfl, A.f, _, A.fx, _, _, rfl, r2.f, T.cl_LowFrame.c, naF T f_wo, rfl, ?_⟩
      refine ⟨_, rfl, G.a, _, G.dx, _, _, rfl, r2.ga, T.cl_LowRun.c, naG T g_fr, rfl, ?_⟩
      refine ⟨A.f, A.fx, _, rfl, r2.f, rfl, ?_⟩
      have hat : 1 ≤ fr.at_ := by omega
      refine ⟨_, rfl, A.f, A.fx, A.dw, A.bv, A.rv, A.ev, fr.at_, _, fr.rows, _, rfl, r2.f, .inr ⟨_, _, rfl⟩, r2.cf.rv, hat, hrow, fun v hv => ?_⟩
      obtain ⟨q, ys, rfl, hq, hys⟩ := hv.tupI
      obtain ⟨v1, r1, rfl, d1, hr1⟩ := hys.one
      obtain ⟨v2, rr2, rfl, d2, hr2⟩ := hr1.one
      obtain rfl := d2.intI
      refine ⟨q, _, ((1 : Nat) : Int), _, rfl, rfl, SqT.of hq, atI_nat (by rfl), A.dw, _, rfl, DPut.k (k := inl x) r2.dw (sz' _ (by show fr.w.length ≤ 10000; omega)), ?_⟩
      subst hg
      exact h _ _ _ _ (r2.setW _) rfl (kk.tr (tk_upd r2.dw (by simp)))
    · cases hg
end
end K55

namespace K55
open PySem PyProof.Rows L2 My Ru M55
open Builtin (bitAnd bitOr)
theorem pe_mkG {X : Cx} {CX : CXT} {k : Nat} {C : Addr} {x : Str} {ps : List Str} {sp : Sp} {E : XK} {p pos : Pos} {e : Expr} {es : List Expr} {t : TA} (h : Gm X.prog X.w X.K X.mg X.base CX k C "__init__" ps sp) (M : PySem.W.makesIn X.K C = true ∧ PySem.W.keepIn X.K (.ref C) = true) (hm : X.mg x = some (.ref C)) (hr : Room (k + 1) X.A) (hx : Passes CX X E) (ha : PA X (e :: es) t) (hg : Gl X x := by rfl)
    (hdb : (x == ("__debug__" : Str)) = false := by decide) (he : starEach (e :: es) X.env = (false, eval e X.env) :: starEach es X.env := by rfl) (hpl : (backTo pos (starEach es X.env)).any (·.1) = false := by rfl) : PE X (.Call (.Name x p) (e :: es) [] pos) (tMake C sp [] E t) := by
  obtain ⟨f, fd, m, F, b⟩ := h.ex
  exact pe_make ⟨M.1, m.at_, m.fn, M.2⟩ F hr hg hm b .nil hx ha hdb he hpl
theorem begB_sl {bs : List Bl} {r : List Rw} {e : Rw} {n first : Nat} {w : List (Key × V)} {sl : List V} {g : Nat} {as : List V} {fr : Fm} (h : begB ⟨bs, r, e, n, w, first, sl⟩ g as = some fr) :
    ∃ fr0, begB ⟨bs, r, e, n, w, first, []⟩ g as = some fr0 ∧ fr0.sl = [] ∧ fr = { fr0 with sl := sl } := by
  unfold begB at h ⊢
  dsimp only at h ⊢
  cases c : bs[g]? with
  | none => rw [c] at h; cases h
  | some b =>
    rw [c] at h
    dsimp only at h ⊢
    split at h
    · cases h
    · rename_i z
      injection h with h
      rw [if_neg z]
      exact ⟨_, rfl, rfl, h.symm⟩
/-- a frame is laid beside the run -/
theorem RB.frame {K : PySem.W.Frag} {H H' : Hp} {G : GA} {m : Mm} {fv : V} {Ws : List FA} (r : RB K H G m fv Ws) {A : FA} {fr : Fm} (b : ButL [A.f] H H') (hf : H A.f = none) (hd : H A.dw = none) (hs : H A.fs = none) (nd : A.dw ≠ A.fs) (nf : A.f ≠ A.dw) (ns : A.f ≠ A.fs)
    (e1 : H' A.f = some (.ins (CLF K) A.fx (ffs A fr))) (e2 : H' A.dw = some (.dK fr.w)) (e3 : H' A.fs = some (.lst fr.sl)) (ft : FT H' A fr) : RX K H' G { m with cur := fr } fv A Ws ∧ TK H H' := by
  have k : TK H H' := fun p xs e => b _ _ e (by simpa using ne_of_none e hf)
  have c0 : Cells H' (hcells K G m fv Ws ++ wcells K Ws m.wt) := ⟨r.cs.1, fun c hc => b _ _ (r.cs.2 c hc) (by simpa using ne_of_none (r.cs.2 c hc) hf)⟩
  have c1 := Cells.add c0 (fun c hc => (ne_of_none (r.cs.2 c hc) hs).symm) e3
  have c2 := Cells.add c1 (fun c hc => by
    rcases List.mem_cons.mp hc with rfl | hc
    · exact nd
    · exact (ne_of_none (r.cs.2 c hc) hd).symm) e2
  have c3 := Cells.add c2 (fun c hc => by
    rcases List.mem_cons.mp hc with rfl | hc
    · exact nf
    · rcases List.mem_cons.mp hc with rfl | hc
      · exact ns
      · exact (ne_of_none (r.cs.2 c hc) hf).symm) e1
  refine ⟨⟨c3.perm ?_, ft, r.ws.keep k, r.fn.keep k, r.en.keep k⟩, k⟩
  show (hcells K G m fv Ws ++ (fcells K A fr ++ wcells K Ws m.wt)).Perm (fcells K A fr ++ (hcells K G m fv Ws ++ wcells K Ws m.wt))
  rw [← List.append_assoc, ← List.append_assoc]
  exact List.Perm.append_right _ List.perm_append_comm
theorem szL (n : Nat) (h : n ≤ 100000) : n ≤ sizeLine := by rw [sizeLine_eq]; omega
section
variable {P : Program} {w : World} {K : PySem.W.Frag} {mg : Str → Option Value} {base : Heap}
theorem sc_LowRun_begin : FnScope ["self", "name", "args", "function", "frame", "words"] ["self", "name", "args"] (defScope s_LowRun_begin) := ⟨rfl, rfl, rfl, by decide +kernel, rfl, by decide +kernel, by decide +kernel⟩
theorem g_LowRun_begin (T : Txt K mg w) (G_LowFrame___init__ : Gm P w K mg base CX0 3 (He.ga K "LowFrame") "__init__" ["self", "function", "args", "first"] (sp_LowFrame___init__ K)) : Gm P w K mg base CX0 5 (He.ga K "LowRun") "begin" ["self", "name", "args"] (sp_LowRun_begin K) := by
  have sc := sc_LowRun_begin
  refine T.d_LowRun_begin.ok sc len3 (fun _ _ _ _ _ _ us hl => match us, hl with | [_, _, _], _ => rfl) (fun f cdv A outer s H vs Q E hr h => ?_)
  obtain ⟨x0, x1, x2, rfl, h⟩ := h
  obtain ⟨G, m, m', fv, Ws, fname, hd, as, rfl, rfl, rfl, r, ha, hb, h⟩ := h
  unfold begF at hb
  cases hf : findF m.fns fname with
  | none => rw [hf] at hb; cases hb
  | some fn =>
  rw [hf] at hb
  dsimp only at hb
  split at hb
  · cases hb
  rename_i hok
  split at hb
  · cases hb
  rename_i fr hfr
  injection hb with hb
  have hok' : okSl fn = true ∧ m.sl.length ≤ 1000 := by
    simp only [Bool.not_eq_false, Bool.and_eq_true, decide_eq_true_eq] at hok
    exact hok
  obtain ⟨hs1, hs2⟩ : fn.sl.length ≤ 100 ∧ ∀ n ∈ fn.sl, 0 ≤ n ∧ n ≤ 100 := by
    have := hok'.1
    unfold okSl at this
    simp only [Bool.and_eq_true, decide_eq_true_eq, List.all_eq_true] at this
    exact ⟨this.1, fun n hn => this.2 n hn⟩
  obtain ⟨fv', hv1, hv2⟩ := fkv_some r.fn hf
  refine ⟨_, (pss_cons (ps_set (i := 3) sc.nd rfl (Or.inl rfl) (pe_dget (hu_of hr) (pe_fld (pv 0) rfl) (pv 1) (fun _ _ => rfl)))
      (pss_cons (ps_set (i := 4) sc.nd rfl (Or.inl rfl) (pe_mkG G_LowFrame___init__ T.mk_LowFrame T.cl_LowFrame.g (hr.mono (by omega)) pass0 (pa_cons (pv 3) (pa_cons (pv 2) (pa_cons (pe_callB call_len_seq (by rfl) T.n_len PySem.boot_len (pa_cons (pe_fld (pv 0) rfl) pa_nil)) pa_nil)))))
      (pss_cons (ps_for PassesOwn.never rfl (pi_tup (pe_ix ix_tup (pv 3) pe_int (fun _ _ => rfl))) (pg_name (i := 5) sc.nd rfl (Or.inl rfl)) (pss_cons (ps_expr (pe_bm PySem.F.plainAttrs_list PySem.F.slot_list_append PySem.F.type_list_append mt_append (pe_fld (pv 4) rfl) (pa_cons (pe_op op_add (pe_gint T.c_SLOTS_START) (pe_op op_mul (pe_gint T.c_BYTES) (pe_callB call_len_seq (by rfl) T.n_len PySem.boot_len (pa_cons (pe_fld (pv 0) rfl) pa_nil)))) pa_nil)))
      (pss_one (ps_expr (pe_bm PySem.F.plainAttrs_list PySem.F.slot_list_extend PySem.F.type_list_extend mt_extend (pe_fld (pv 0) rfl) (pa_cons (pe_op op_cat (pe_op op_rep (pe_lst (pa_cons pe_int pa_nil)) (pv 5)) (pe_lst (pa_cons pe_non pa_nil))) pa_nil))))))
      (pss_one (ps_fld (pv 0) (pv 4) rfl))))), ?_⟩
  refine ⟨_, rfl, G.a, _, G.dx, _, _, rfl, r.ga, T.cl_LowRun.c, naG T g_fu, rfl, _, rfl, G.df, fv', rfl, (hv1 ▸ DGet.k (k := Sum.inr fname) r.df), ?_⟩
  refine ⟨_, rfl, _, rfl, _, rfl, G.a, _, G.dx, _, _, rfl, r.ga, T.cl_LowRun.c, naG T g_sl, rfl, G.ls, _, rfl, Or.inl (SqL.of r.ls), fun f fx hf1 hx1 nd => ?_⟩
  have sA : Same H (upd (upd H fx (.own f)) f (.ins (CLF K) fx [])) := Same.tr (same_new hx1) (same_new (by rw [upd_ne nd.symm]; exact hf1))
  have ha1 : Sq2 K (upd (upd H fx (.own f)) f (.ins (CLF K) fx [])) hd as := by
    rcases ha with e | e
    · exact .inl (SqL.of (sA _ _ e))
    · exact .inr (SqT.of (sA _ _ e))
  have nhd : hd ≠ f := by
    rcases ha with e | e
    · exact ne_of_none e hf1
    · exact ne_of_none e hf1
  obtain ⟨fr0, hfr0, hsl0, rfl⟩ := begB_sl hfr
  refine ⟨_, _, _, _, rfl, f, fx, hd, fn, as, m.sl.length, rfl, hv2.keep (TK.same sA), rfl, rfl, upd_same, ha1, nhd, fr0, hfr0, fun H1 A eA1 eA2 b1 g1 gd gs ft n1 n2 n3 => ⟨rfl, ?_⟩⟩
  subst eA1 eA2
  have hA : ∀ {l : Addr}, (upd (upd H A.fx (.own A.f)) A.f (.ins (CLF K) A.fx [])) l = none → H l = none := fun {l} e => by
    cases c : H l with
    | none => rfl
    | some o => have := sA _ _ c; rw [e] at this; cases this
  have b2 : ButL [A.f] H H1 := ButL.trans (ButL.same sA) b1
  have nfd : A.f ≠ A.dw := fun z => by rw [← z, upd_same] at n1; cases n1
  have nfs : A.f ≠ A.fs := fun z => by rw [← z, upd_same] at n2; cases n2
  obtain ⟨rx, kx⟩ := r.frame (fr := fr0) b2 hf1 (hA n1) (hA n2) n3 nfd nfs g1 gd (by rw [hsl0]; exact gs) ft
  obtain ⟨p, ys, rfl, hp, hys⟩ := (hv2.keep kx).tupI
  obtain ⟨v1, r1, rfl, d1, hr1⟩ := hys.one
  obtain ⟨v2, r2, rfl, d2, hr2⟩ := hr1.one
  obtain ⟨q, qs, rfl, hq, hqs⟩ := d2.tupI
  obtain rfl := hqs.ints
  refine ⟨_, rfl, p, _, ((1 : Nat) : Int), _, rfl, rfl, SqT.of hp, atI_nat (by rfl), q, rfl, ⟨_, SqT.of hq⟩, ?_⟩
  refine for_tup (xs := fn.sl.map V.int) (fun i σ H2 => ∃ o5 : Option V, σ = [some (.ref G.a), some (.str fname), some (.ref hd), some (.ref p), some (.ref A.f), o5] ∧ TK H1 H2 ∧ RX K H2 G { m with cur := { fr0 with sl := (slotsFrom (fn.sl.take i) m.sl).1 }, sl := (slotsFrom (fn.sl.take i) m.sl).2 } fv A Ws)
    ⟨_, rfl, TK.rf, by
      have e : ({ fr0 with sl := [] } : Fm) = fr0 := by rw [← hsl0]
      show RX K H1 G { m with cur := { fr0 with sl := [] } } fv A Ws
      rw [e]
      exact rx⟩ (fun i σ H2 _ p => ?_) (fun i x σ H2 hx p => ?_) (fun σ H2 p => ?_)
  · obtain ⟨o5, rfl, k2, r2⟩ := p
    exact SqT.of (k2 _ _ hq)
  · obtain ⟨o5, rfl, k2, r2⟩ := p
    rw [List.getElem?_map] at hx
    cases hn : fn.sl[i]? with
    | none => rw [hn] at hx; cases hx
    | some n =>
    rw [hn] at hx
    injection hx with hx
    subst hx
    obtain ⟨hn0, hn1⟩ := hs2 n (List.mem_of_getElem? hn)
    have hi : i < fn.sl.length := (List.getElem?_eq_some_iff.mp hn).1
    obtain ⟨z1, z2⟩ := slots_len (fn.sl.take i) m.sl (fun n hn => hs2 n (List.mem_of_mem_take hn))
    rw [List.length_take] at z1 z2
    rw [take_snoc hn, slotsFrom_snoc]
    generalize slotsFrom (fn.sl.take i) m.sl = S at *
    refine ⟨_, rfl, A.f, _, A.fx, _, _, rfl, r2.f, T.cl_LowFrame.c, naF T f_sl, rfl, .inl ⟨rfl, _, SqL.of r2.fs⟩, ?_⟩
    refine ⟨_, rfl, G.a, _, G.dx, _, _, rfl, r2.ga, T.cl_LowRun.c, naG T g_sl, rfl, G.ls, _, rfl, Or.inl (SqL.of r2.ls), _, _, rfl, rfl, Or.inl ⟨by decide, by decide⟩, _, _, rfl, rfl, ?_⟩
    refine ⟨A.fs, _, _, rfl, rfl, r2.fs, sz' _ (by show S.1.length ≤ 10000; omega), ?_⟩
    have r3 := r2.setFs (S.1 ++ [V.int (1073741824 + 4 * (S.2.length : Int))])
    have k3 : TK H2 (upd H2 A.fs (.lst (S.1 ++ [V.int (1073741824 + 4 * (S.2.length : Int))]))) := tk_upd r2.fs (by simp)
    show (_ : Prop)
    generalize hG3 : upd H2 A.fs (.lst (S.1 ++ [V.int (1073741824 + 4 * (S.2.length : Int))])) = H3 at *
    refine ⟨_, rfl, G.a, _, G.dx, _, _, rfl, r3.ga, T.cl_LowRun.c, naG T g_sl, rfl, .inl ⟨rfl, _, SqL.of r3.ls⟩, ?_⟩
    refine ⟨(by show 1 ≤ sizeLine; decide), fun l1 f1 => ?_⟩
    refine ⟨_, rfl, l1, n, [V.int 0], rfl, rfl, upd_same, by omega, by omega, sz _ (by show 1 * _ ≤ 10000; omega), fun l2 f2 => ?_⟩
    have s2 := Same.tr (same_new (o := .lst [V.int 0]) f1) (same_new (o := .lst (List.replicate n.toNat [V.int 0]).flatten) f2)
    refine ⟨(by show 1 ≤ sizeLine; decide), fun l3 f3 => ?_⟩
    have s3 := Same.tr s2 (same_new (o := .lst [V.non]) f3)
    refine ⟨l2, l3, _, [V.non], rfl, rfl, same_new f3 _ _ upd_same, upd_same, sz _ (by rw [flat_one, List.length_replicate]; show _ + 1 ≤ _; omega), fun l4 f4 => ?_⟩
    have s4 := Same.tr s3 (same_new (o := .lst ((List.replicate n.toNat [V.int 0]).flatten ++ [V.non])) f4)
    have r4 := r3.same s4
    refine ⟨G.ls, l4, _, _, rfl, rfl, r4.ls, upd_same, szL _ (by show S.2.length + _ ≤ 100000; rw [List.length_append, flat_one, List.length_replicate]; show _ + (_ + 1) ≤ _; omega), ?_⟩
    rw [flat_one] at r4 ⊢
    exact ⟨_, rfl, (k2.tr k3).tr ((TK.same (by rw [flat_one] at s4; exact s4)).tr (tk_upd r4.ls (by simp))), r4.setSl _⟩
  · obtain ⟨o5, rfl, k2, r2⟩ := p
    rw [List.length_map, List.take_length] at r2
    refine ⟨_, rfl, _, rfl, G.a, _, G.dx, _, rfl, r2.ga, T.cl_LowRun.c, naG T g_fr, (by rw [gf_len]; decide), ?_⟩
    subst hb
    exact h _ A r2.setFv ((kx.tr k2).tr (tk_upd r2.ga (by simp)))
end
end K55

namespace K55
open PySem PyProof.Rows L2 My Ru M55
open Builtin (bitAnd bitOr)
/-- a row is done -/
def spDeed (K : PySem.W.Frag) (ok : Rk → Prop) : Sp := sp3 fun x y z H Q _ => ∃ (G : GA) (m m' : Mm) (C : FA) (Ws : List FA) (k : Rk) (pa pb : Int), x = .ref G.a ∧ y = .ref C.f ∧ DT H z (rwD ⟨k, pa, pb⟩) ∧ ok k ∧ R K H G m C Ws ∧ small m = true ∧ deed' m ⟨k, pa, pb⟩ = some m' ∧
  ∀ (H' : Hp) (G' : GA) (C' : FA) (Ws' : List FA), R K H' G' m' C' Ws' → G'.a = G.a → TK H H' → Q .non H'
def sp__set (K : PySem.W.Frag) : Sp := spDeed K fun k => ∃ x n, k = .set x n
def sp__name (K : PySem.W.Frag) : Sp := spDeed K fun k => ∃ x, k = .name x
def sp__slot (K : PySem.W.Frag) : Sp := spDeed K fun k => ∃ x n, k = .slot x n
def sp__three (K : PySem.W.Frag) : Sp := spDeed K fun k => ∃ o x a b, k = .three o x a b
def sp__imm (K : PySem.W.Frag) : Sp := spDeed K fun k => ∃ o x a n, k = .imm o x a n
def sp__load (K : PySem.W.Frag) : Sp := spDeed K fun k => ∃ x l b, k = .load x l b
def sp__store (K : PySem.W.Frag) : Sp := spDeed K fun k => ∃ x l b, k = .store x l b
def sp__must (K : PySem.W.Frag) : Sp := spDeed K fun k => ∃ o a b s, k = .must o a b s
def sp__deep (K : PySem.W.Frag) : Sp := spDeed K fun k => ∃ x a n, k = .deep x a n
def sp__call (K : PySem.W.Frag) : Sp := spDeed K fun k => ∃ x f as, k = .call x f as
def sp_do_out (K : PySem.W.Frag) : Sp := spDeed K fun k => ∃ x, k = .out x
def sp_do_in (K : PySem.W.Frag) : Sp := spDeed K fun k => ∃ x, k = .inp x
def sp_do_more (K : PySem.W.Frag) : Sp := spDeed K fun k => ∃ x, k = .more x
def sp_do_go (K : PySem.W.Frag) : Sp := spDeed K fun k => ∃ g as, k = .go g as
def sp__branch (K : PySem.W.Frag) : Sp := spDeed K fun k => ∃ o a b g as g2 as2, k = .branch o a b g as g2 as2
def sp__return (K : PySem.W.Frag) : Sp := spDeed K fun k => ∃ x, k = .ret x
def sp__tail (K : PySem.W.Frag) : Sp := spDeed K fun k => ∃ f as, k = .tail f as
theorem small_all {m : Mm} (h : small m = true) : m.cur.w.length ≤ 1000 ∧ m.out.length ≤ 1000 ∧ m.wt.length ≤ 1000 ∧ m.tk ≤ m.inp.length ∧ m.cur.first ≤ m.sl.length := by
  unfold small at h
  simp only [Bool.and_eq_true, decide_eq_true_eq] at h
  exact ⟨h.1, h.2.1, h.2.2.1, h.2.2.2.1, h.2.2.2.2⟩
section
variable {K : PySem.W.Frag} {H : Hp} {G : GA} {m : Mm} {C : FA} {Ws : List FA}
theorem R.tw (r : R K H G m C Ws) (w : List (Key × V)) : TK H (upd H C.dw (.dK w)) := tk_upd r.dw (by simp)
end
section
variable {P : Program} {w : World} {K : PySem.W.Frag} {mg : Str → Option Value} {base : Heap}
theorem sc__set : FnScope ["going", "frame", "row"] ["going", "frame", "row"] (defScope s__set) := ⟨rfl, rfl, rfl, by decide +kernel, rfl, by decide +kernel, by decide +kernel⟩
theorem g__set (T : Txt K mg w)  : Gd P w K mg base CX0 1 "_set" ["going", "frame", "row"] (sp__set K) := by
  have sc := sc__set
  refine T.d__set.ok sc len3 (fun _ _ _ _ _ _ us hl => match us, hl with | [_, _, _], _ => rfl) (fun f cdv A outer s H vs Q E hr h => ?_)
  obtain ⟨x0, x1, x2, rfl, h⟩ := h
  obtain ⟨G, m, m', C, Ws, k, pa, pb, rfl, rfl, hz, ⟨x, n, rfl⟩, r, hs, hd, h⟩ := h
  obtain ⟨q1, q2, q3, q4, q5⟩ := small_all hs
  obtain ⟨p, ys, rfl, hp, hys⟩ := hz.tupI
  obtain ⟨v0, r0, rfl, d0, hr0⟩ := hys.one
  obtain rfl := d0.strI
  obtain ⟨v1, r1, rfl, d1, hr1⟩ := hr0.one
  obtain rfl := d1.intI
  obtain ⟨v2, r2, rfl, d2, hr2⟩ := hr1.one
  obtain rfl := d2.intI
  injection hd with hd
  refine ⟨_, (pss_one (ps_dput (hu_of hr) (pe_fld (pv 1) rfl) (pe_ix ix_tup (pv 2) pe_int (fun _ _ => rfl)) (pe_ix ix_tup (pv 2) pe_int (fun _ _ => rfl)) rfl)), ?_⟩
  refine ⟨_, rfl, p, _, ((2 : Nat) : Int), _, rfl, rfl, SqT.of hp, atI_nat (by rfl), _, rfl, C.f, _, C.fx, _, _, rfl, r.f, T.cl_LowFrame.c, naF T f_wo, rfl, _, rfl, p, _, ((1 : Nat) : Int), _, rfl, rfl, SqT.of hp, atI_nat (by rfl), C.dw, _, rfl, DPut.k (k := inl x) r.dw (sz' _ (by omega)), ?_⟩
  subst hd
  exact h _ G C Ws (r.setW _) rfl (r.tw _)
theorem sc__name : FnScope ["going", "frame", "row"] ["going", "frame", "row"] (defScope s__name) := ⟨rfl, rfl, rfl, by decide +kernel, rfl, by decide +kernel, by decide +kernel⟩
theorem g__name (T : Txt K mg w)  : Gd P w K mg base CX0 1 "_name" ["going", "frame", "row"] (sp__name K) := by
  have sc := sc__name
  refine T.d__name.ok sc len3 (fun _ _ _ _ _ _ us hl => match us, hl with | [_, _, _], _ => rfl) (fun f cdv A outer s H vs Q E hr h => ?_)
  obtain ⟨x0, x1, x2, rfl, h⟩ := h
  obtain ⟨G, m, m', C, Ws, k, pa, pb, rfl, rfl, hz, ⟨x, rfl⟩, r, hs, hd, h⟩ := h
  obtain ⟨q1, q2, q3, q4, q5⟩ := small_all hs
  obtain ⟨p, ys, rfl, hp, hys⟩ := hz.tupI
  obtain ⟨v0, r0, rfl, d0, hr0⟩ := hys.one
  obtain rfl := d0.strI
  obtain ⟨v1, r1, rfl, d1, hr1⟩ := hr0.one
  obtain rfl := d1.intI
  obtain ⟨v2, r2, rfl, d2, hr2⟩ := hr1.one
  obtain rfl := d2.strI
  injection hd with hd
  refine ⟨_, (pss_one (ps_dput (hu_of hr) (pe_fld (pv 1) rfl) (pe_ix ix_tup (pv 2) pe_int (fun _ _ => rfl)) (pe_dget (hu_of hr) (pe_fld (pv 0) rfl) (pe_ix ix_tup (pv 2) pe_int (fun _ _ => rfl)) (fun _ _ => rfl)) rfl)), ?_⟩
  refine ⟨_, rfl, G.a, _, G.dx, _, _, rfl, r.ga, T.cl_LowRun.c, naG T g_ad, rfl, _, rfl, p, _, ((2 : Nat) : Int), _, rfl, rfl, SqT.of hp, atI_nat (by rfl), G.da, .int 4096, rfl, DGet.k (k := Sum.inr "g") r.da, _, rfl, C.f, _, C.fx, _, _, rfl, r.f, T.cl_LowFrame.c, naF T f_wo, rfl, _, rfl, p, _, ((1 : Nat) : Int), _, rfl, rfl, SqT.of hp, atI_nat (by rfl), C.dw, _, rfl, DPut.k (k := inl x) r.dw (sz' _ (by omega)), ?_⟩
  subst hd
  exact h _ G C Ws (r.setW _) rfl (r.tw _)
theorem sc__slot : FnScope ["going", "frame", "row"] ["going", "frame", "row"] (defScope s__slot) := ⟨rfl, rfl, rfl, by decide +kernel, rfl, by decide +kernel, by decide +kernel⟩
theorem g__slot (T : Txt K mg w)  : Gd P w K mg base CX0 1 "_slot" ["going", "frame", "row"] (sp__slot K) := by
  have sc := sc__slot
  refine T.d__slot.ok sc len3 (fun _ _ _ _ _ _ us hl => match us, hl with | [_, _, _], _ => rfl) (fun f cdv A outer s H vs Q E hr h => ?_)
  obtain ⟨x0, x1, x2, rfl, h⟩ := h
  obtain ⟨G, m, m', C, Ws, k, pa, pb, rfl, rfl, hz, ⟨x, n, rfl⟩, r, hs, hd, h⟩ := h
  obtain ⟨q1, q2, q3, q4, q5⟩ := small_all hs
  obtain ⟨p, ys, rfl, hp, hys⟩ := hz.tupI
  obtain ⟨v0, r0, rfl, d0, hr0⟩ := hys.one
  obtain rfl := d0.strI
  obtain ⟨v1, r1, rfl, d1, hr1⟩ := hr0.one
  obtain rfl := d1.intI
  obtain ⟨v2, r2, rfl, d2, hr2⟩ := hr1.one
  obtain rfl := d2.intI
  unfold deed' at hd
  dsimp only at hd
  split at hd
  rotate_left
  · cases hd
  rename_i v hv
  injection hd with hd
  refine ⟨_, (pss_one (ps_dput (hu_of hr) (pe_fld (pv 1) rfl) (pe_ix ix_tup (pv 2) pe_int (fun _ _ => rfl)) (pe_ix ix_list (pe_fld (pv 1) rfl) (pe_ix ix_tup (pv 2) pe_int (fun _ _ => rfl)) (fun _ _ => rfl)) rfl)), ?_⟩
  refine ⟨_, rfl, C.f, _, C.fx, _, _, rfl, r.f, T.cl_LowFrame.c, naF T f_sl, rfl, _, rfl, p, _, ((2 : Nat) : Int), _, rfl, rfl, SqT.of hp, atI_nat (by rfl), C.fs, _, (n : Int), v, rfl, rfl, SqL.of r.fs, atI_nat hv, _, rfl, C.f, _, C.fx, _, _, rfl, r.f, T.cl_LowFrame.c, naF T f_wo, rfl, _, rfl, p, _, ((1 : Nat) : Int), _, rfl, rfl, SqT.of hp, atI_nat (by rfl), C.dw, _, rfl, DPut.k (k := inl x) r.dw (sz' _ (by omega)), ?_⟩
  subst hd
  exact h _ G C Ws (r.setW _) rfl (r.tw _)
theorem sc__three : FnScope ["going", "frame", "row"] ["going", "frame", "row"] (defScope s__three) := ⟨rfl, rfl, rfl, by decide +kernel, rfl, by decide +kernel, by decide +kernel⟩
theorem g__three (T : Txt K mg w) (G_made_of : Gd P w K mg base CX0 4 "made_of" ["name", "one", "other"] (sp_made_of K)) : Gd P w K mg base CX0 5 "_three" ["going", "frame", "row"] (sp__three K) := by
  have sc := sc__three
  refine T.d__three.ok sc len3 (fun _ _ _ _ _ _ us hl => match us, hl with | [_, _, _], _ => rfl) (fun f cdv A outer s H vs Q E hr h => ?_)
  obtain ⟨x0, x1, x2, rfl, h⟩ := h
  obtain ⟨G, m, m', C, Ws, k, pa, pb, rfl, rfl, hz, ⟨o, x, a, b, rfl⟩, r, hs, hd, h⟩ := h
  obtain ⟨q1, q2, q3, q4, q5⟩ := small_all hs
  obtain ⟨p, ys, rfl, hp, hys⟩ := hz.tupI
  obtain ⟨v0, r0, rfl, d0, hr0⟩ := hys.one
  obtain rfl := d0.strI
  obtain ⟨v1, r1, rfl, d1, hr1⟩ := hr0.one
  obtain rfl := d1.strI
  obtain ⟨v2, r2, rfl, d2, hr2⟩ := hr1.one
  obtain rfl := d2.intI
  obtain ⟨v3, r3, rfl, d3, hr3⟩ := hr2.one
  obtain rfl := d3.intI
  obtain ⟨v4, r4, rfl, d4, hr4⟩ := hr3.one
  obtain rfl := d4.intI
  unfold deed' at hd
  dsimp only at hd
  split at hd
  rotate_left
  · cases hd
  rename_i u v hu hv
  injection hd with hd
  refine ⟨_, (pss_one (ps_dput (hu_of hr) (pe_fld (pv 1) rfl) (pe_ix ix_tup (pv 2) pe_int (fun _ _ => rfl)) (pe_g G_made_of (hr.mono (by omega)) pass0 (pa_cons (pe_ix ix_tup (pv 2) pe_int (fun _ _ => rfl)) (pa_cons (pe_dget (hu_of hr) (pe_fld (pv 1) rfl) (pe_ix ix_tup (pv 2) pe_int (fun _ _ => rfl)) (fun _ _ => rfl)) (pa_cons (pe_dget (hu_of hr) (pe_fld (pv 1) rfl) (pe_ix ix_tup (pv 2) pe_int (fun _ _ => rfl)) (fun _ _ => rfl)) pa_nil)))) rfl)), ?_⟩
  refine ⟨_, rfl, p, _, ((1 : Nat) : Int), _, rfl, rfl, SqT.of hp, atI_nat (by rfl), _, rfl, C.f, _, C.fx, _, _, rfl, r.f, T.cl_LowFrame.c, naF T f_wo, rfl, _, rfl, p, _, ((3 : Nat) : Int), _, rfl, rfl, SqT.of hp, atI_nat (by rfl), C.dw, _, rfl, (wI_at hu ▸ DGet.k (k := inl _) r.dw), _, rfl, C.f, _, C.fx, _, _, rfl, r.f, T.cl_LowFrame.c, naF T f_wo, rfl, _, rfl, p, _, ((4 : Nat) : Int), _, rfl, rfl, SqT.of hp, atI_nat (by rfl), C.dw, _, rfl, (wI_at hv ▸ DGet.k (k := inl _) r.dw), ?_⟩
  refine ⟨_, _, _, rfl, o, u, v, rfl, rfl, rfl, _, rfl, C.f, _, C.fx, _, _, rfl, r.f, T.cl_LowFrame.c, naF T f_wo, rfl, _, rfl, p, _, ((2 : Nat) : Int), _, rfl, rfl, SqT.of hp, atI_nat (by rfl), C.dw, _, rfl, DPut.k (k := inl x) r.dw (sz' _ (by omega)), ?_⟩
  subst hd
  exact h _ G C Ws (r.setW _) rfl (r.tw _)
theorem sc__imm : FnScope ["going", "frame", "row"] ["going", "frame", "row"] (defScope s__imm) := ⟨rfl, rfl, rfl, by decide +kernel, rfl, by decide +kernel, by decide +kernel⟩
theorem g__imm (T : Txt K mg w) (G_made_of : Gd P w K mg base CX0 4 "made_of" ["name", "one", "other"] (sp_made_of K)) (G_word_of : Gd P w K mg base CX0 1 "word_of" ["number"] (sp_word_of K)) : Gd P w K mg base CX0 5 "_imm" ["going", "frame", "row"] (sp__imm K) := by
  have sc := sc__imm
  refine T.d__imm.ok sc len3 (fun _ _ _ _ _ _ us hl => match us, hl with | [_, _, _], _ => rfl) (fun f cdv A outer s H vs Q E hr h => ?_)
  obtain ⟨x0, x1, x2, rfl, h⟩ := h
  obtain ⟨G, m, m', C, Ws, k, pa, pb, rfl, rfl, hz, ⟨o, x, a, n, rfl⟩, r, hs, hd, h⟩ := h
  obtain ⟨q1, q2, q3, q4, q5⟩ := small_all hs
  obtain ⟨p, ys, rfl, hp, hys⟩ := hz.tupI
  obtain ⟨v0, r0, rfl, d0, hr0⟩ := hys.one
  obtain rfl := d0.strI
  obtain ⟨v1, r1, rfl, d1, hr1⟩ := hr0.one
  obtain rfl := d1.strI
  obtain ⟨v2, r2, rfl, d2, hr2⟩ := hr1.one
  obtain rfl := d2.intI
  obtain ⟨v3, r3, rfl, d3, hr3⟩ := hr2.one
  obtain rfl := d3.intI
  obtain ⟨v4, r4, rfl, d4, hr4⟩ := hr3.one
  obtain rfl := d4.intI
  unfold deed' at hd
  dsimp only at hd
  split at hd
  rotate_left
  · cases hd
  rename_i u hu
  injection hd with hd
  refine ⟨_, (pss_one (ps_dput (hu_of hr) (pe_fld (pv 1) rfl) (pe_ix ix_tup (pv 2) pe_int (fun _ _ => rfl)) (pe_g G_made_of (hr.mono (by omega)) pass0 (pa_cons (pe_ix ix_tup (pv 2) pe_int (fun _ _ => rfl)) (pa_cons (pe_dget (hu_of hr) (pe_fld (pv 1) rfl) (pe_ix ix_tup (pv 2) pe_int (fun _ _ => rfl)) (fun _ _ => rfl)) (pa_cons (pe_g G_word_of (hr.mono (by omega)) pass0 (pa_cons (pe_ix ix_tup (pv 2) pe_int (fun _ _ => rfl)) pa_nil)) pa_nil)))) rfl)), ?_⟩
  refine ⟨_, rfl, p, _, ((1 : Nat) : Int), _, rfl, rfl, SqT.of hp, atI_nat (by rfl), _, rfl, C.f, _, C.fx, _, _, rfl, r.f, T.cl_LowFrame.c, naF T f_wo, rfl, _, rfl, p, _, ((3 : Nat) : Int), _, rfl, rfl, SqT.of hp, atI_nat (by rfl), C.dw, _, rfl, (wI_at hu ▸ DGet.k (k := inl _) r.dw), _, rfl, p, _, ((4 : Nat) : Int), _, rfl, rfl, SqT.of hp, atI_nat (by rfl), _, rfl, n, rfl, ?_⟩
  refine ⟨_, _, _, rfl, o, u, _, rfl, rfl, rfl, _, rfl, C.f, _, C.fx, _, _, rfl, r.f, T.cl_LowFrame.c, naF T f_wo, rfl, _, rfl, p, _, ((2 : Nat) : Int), _, rfl, rfl, SqT.of hp, atI_nat (by rfl), C.dw, _, rfl, DPut.k (k := inl x) r.dw (sz' _ (by omega)), ?_⟩
  subst hd
  exact h _ G C Ws (r.setW _) rfl (r.tw _)
theorem sc_do_out : FnScope ["going", "frame", "row"] ["going", "frame", "row"] (defScope s_do_out) := ⟨rfl, rfl, rfl, by decide +kernel, rfl, by decide +kernel, by decide +kernel⟩
theorem g_do_out (T : Txt K mg w)  : Gd P w K mg base CX0 1 "do_out" ["going", "frame", "row"] (sp_do_out K) := by
  have sc := sc_do_out
  refine T.d_do_out.ok sc len3 (fun _ _ _ _ _ _ us hl => match us, hl with | [_, _, _], _ => rfl) (fun f cdv A outer s H vs Q E hr h => ?_)
  obtain ⟨x0, x1, x2, rfl, h⟩ := h
  obtain ⟨G, m, m', C, Ws, k, pa, pb, rfl, rfl, hz, ⟨x, rfl⟩, r, hs, hd, h⟩ := h
  obtain ⟨q1, q2, q3, q4, q5⟩ := small_all hs
  obtain ⟨p, ys, rfl, hp, hys⟩ := hz.tupI
  obtain ⟨v0, r0, rfl, d0, hr0⟩ := hys.one
  obtain rfl := d0.strI
  obtain ⟨v1, r1, rfl, d1, hr1⟩ := hr0.one
  obtain rfl := d1.intI
  unfold deed' at hd
  dsimp only at hd
  split at hd
  rotate_left
  · cases hd
  rename_i u hu
  injection hd with hd
  refine ⟨_, (pss_one (ps_expr (pe_bm PySem.F.plainAttrs_list PySem.F.slot_list_append PySem.F.type_list_append mt_append (pe_fld (pv 0) rfl) (pa_cons (pe_dget (hu_of hr) (pe_fld (pv 1) rfl) (pe_ix ix_tup (pv 2) pe_int (fun _ _ => rfl)) (fun _ _ => rfl)) pa_nil)))), ?_⟩
  refine ⟨_, rfl, G.a, _, G.dx, _, _, rfl, r.ga, T.cl_LowRun.c, naG T g_ou, rfl, .inl ⟨rfl, _, SqL.of r.lo⟩, _, rfl, C.f, _, C.fx, _, _, rfl, r.f, T.cl_LowFrame.c, naF T f_wo, rfl, _, rfl, p, _, ((1 : Nat) : Int), _, rfl, rfl, SqT.of hp, atI_nat (by rfl), C.dw, _, rfl, (wI_at hu ▸ DGet.k (k := inl _) r.dw), ?_⟩
  refine ⟨G.lo, _, _, rfl, rfl, r.lo, sz' _ (by omega), ?_⟩
  subst hd
  exact h _ G C Ws (r.setOut _) rfl (tk_upd r.lo (by simp))
theorem sc_do_more : FnScope ["going", "frame", "row"] ["going", "frame", "row"] (defScope s_do_more) := ⟨rfl, rfl, rfl, by decide +kernel, rfl, by decide +kernel, by decide +kernel⟩
theorem g_do_more (T : Txt K mg w) (G_Going_more : Gm P w K mg base CX0 1 (He.ga K "Going") "more" ["self"] (sp_Going_more K)) : Gd P w K mg base CX0 2 "do_more" ["going", "frame", "row"] (sp_do_more K) := by
  have sc := sc_do_more
  refine T.d_do_more.ok sc len3 (fun _ _ _ _ _ _ us hl => match us, hl with | [_, _, _], _ => rfl) (fun f cdv A outer s H vs Q E hr h => ?_)
  obtain ⟨x0, x1, x2, rfl, h⟩ := h
  obtain ⟨G, m, m', C, Ws, k, pa, pb, rfl, rfl, hz, ⟨x, rfl⟩, r, hs, hd, h⟩ := h
  obtain ⟨q1, q2, q3, q4, q5⟩ := small_all hs
  obtain ⟨p, ys, rfl, hp, hys⟩ := hz.tupI
  obtain ⟨v0, r0, rfl, d0, hr0⟩ := hys.one
  obtain rfl := d0.strI
  obtain ⟨v1, r1, rfl, d1, hr1⟩ := hr0.one
  obtain rfl := d1.intI
  injection hd with hd
  refine ⟨_, (pss_one (ps_dput (hu_of hr) (pe_fld (pv 1) rfl) (pe_ix ix_tup (pv 2) pe_int (fun _ _ => rfl)) (pe_gm0 (pv 0) T.cl_LowRun.c (Mh.Gm.heir G_Going_more T.hi_LowRun_more) (hr.mono (by omega)) pass0) rfl)), ?_⟩
  refine ⟨_, rfl, G.a, G.dx, _, rfl, r.ga, rfl, ?_⟩
  refine ⟨_, rfl, G, m, C, Ws, rfl, r, ?_⟩
  refine ⟨_, rfl, C.f, _, C.fx, _, _, rfl, r.f, T.cl_LowFrame.c, naF T f_wo, rfl, _, rfl, p, _, ((1 : Nat) : Int), _, rfl, rfl, SqT.of hp, atI_nat (by rfl), C.dw, _, rfl, DPut.k (k := inl x) r.dw (sz' _ (by omega)), ?_⟩
  subst hd
  exact h _ G C Ws (r.setW _) rfl (r.tw _)
end
end K55

namespace K55
open PySem PyProof.Rows L2 My Ru M55
open Builtin (bitAnd bitOr)
def lcE : Lc → PyData
  | .at_ x => .int x | .nm => .str "g" | .sl k => .int (k : Int)
theorem lcD_eq (l : Lc) : lcD l = [.str (lcY l), lcE l] := by cases l <;> rfl
theorem lcE_v {H : Hp} {v : V} {l : Lc} (h : DT H v (lcE l)) : v = lcZ l := by
  cases l with
  | at_ x => exact h.intI
  | nm => exact h.strI
  | sl k => exact h.intI
theorem R.setWd {K : PySem.W.Frag} {H : Hp} {G : GA} {m : Mm} {C : FA} {Ws : List FA} (r : R K H G m C Ws) (ad : Int) (v : V) (h : there (cellsOf m ad).1 (cellsOf m ad).2 = true) :
    R K (upd H (wsA G ad) (.lst ((cellsOf m ad).1.set ((cellsOf m ad).2 / 4).toNat v))) G (putWord m ad v) C Ws ∧ TK H (upd H (wsA G ad) (.lst ((cellsOf m ad).1.set ((cellsOf m ad).2 / 4).toNat v))) ∧ H (wsA G ad) = some (.lst (cellsOf m ad).1) := by
  unfold wsA cellsOf putWord
  by_cases c : (1073741824 : Int) ≤ ad
  · simp only [if_pos c]
    exact ⟨r.setSl _, tk_upd r.ls (by simp), r.ls⟩
  · simp only [if_neg c]
    exact ⟨r.setTh _, tk_upd r.lt (by simp), r.lt⟩
/-- the two ways of an end -/
def sp_low_hands (K : PySem.W.Frag) : Sp := sp1 fun x H Q _ => ∃ (o : Nat) (a b : Int) (g : Nat) (as : List Int) (g2 : Nat) (as2 : List Int) (pa pb : Int), DT H x (rwD ⟨.branch o a b g as g2 as2, pa, pb⟩) ∧
  ∀ (H' : Hp) (l t1 t2 p1 p2 : Addr), Same H H' → H' l = some (.lst [.ref t1, .ref t2]) → H' t1 = some (.tup [.int (g : Int), .ref p1]) → H' t2 = some (.tup [.int (g2 : Int), .ref p2]) → H' p1 = some (.tup (as.map V.int)) → H' p2 = some (.tup (as2.map V.int)) → Q (.ref l) H'
/-- a frame goes to a block -/
theorem R.went {K : PySem.W.Frag} {H H' : Hp} {G : GA} {m : Mm} {C : FA} {Ws : List FA} (r : R K H G m C Ws) {g : Nat} {b : Bl} {as : List V} {rv ev : V} {fr : Fm} (hb : begB m.cur g as = some fr) (hg : m.cur.bs[g]? = some b) (bt : ButL [C.f, C.dw] H H')
    (e1 : H' C.f = some (.ins (CLF K) C.fx (ffx C.bv C.dw rv ev (.int 0) [("first", .int (m.cur.first : Int)), ("slots", .ref C.fs)]))) (e2 : H' C.dw = some (.dK (mergeK m.cur.w (mergeK [] ((b.ps.map inl).zip as))))) (e3 : DT H' rv (.tuple (b.rows.map rwD))) (e4 : DT H' ev (rwD b.en)) :
    R K H' G { m with cur := fr } { C with rv := rv, ev := ev } Ws ∧ TK H H' := by
  unfold begB at hb
  rw [hg] at hb
  dsimp only at hb
  split at hb
  · cases hb
  injection hb with hb
  subst hb
  have ndup := r.cs.1
  have hsl : H' C.fs = some (.lst m.cur.sl) := by
    refine bt _ _ r.fs ?_
    simp only [List.mem_cons, List.not_mem_nil, or_false, not_or]
    exact ⟨ne_of r.fs r.f (by simp), ne_of r.fs r.dw (by simp)⟩
  have k : TK H H' := TK.but bt fun a ha xs z => by
    have : a = C.f ∨ a = C.dw := by simpa using ha
    rcases this with e | e
    · rw [e, r.f] at z; cases z
    · rw [e, r.dw] at z; cases z
  exact r.setF (C' := { C with rv := rv, ev := ev }) bt (fun p hp => by
    have : p = C.f ∨ p = C.dw := by simpa using hp
    exact this.elim .inl (fun z => .inr (.inl z))) rfl e1 e2 hsl ⟨r.cf.bv.keep k, e3, e4⟩
theorem begB_some {f fr : Fm} {g : Nat} {as : List V} (h : begB f g as = some fr) : ∃ b, f.bs[g]? = some b ∧ f.w.length + as.length ≤ 1000 := by
  unfold begB at h
  split at h
  · rename_i b hb
    split at h
    · cases h
    · exact ⟨b, hb, by omega⟩
  · cases h
section
variable {P : Program} {w : World} {K : PySem.W.Frag} {mg : Str → Option Value} {base : Heap}
theorem sc__load : FnScope ["going", "frame", "row", "words", "at"] ["going", "frame", "row"] (defScope s__load) := ⟨rfl, rfl, rfl, by decide +kernel, rfl, by decide +kernel, by decide +kernel⟩
theorem g__load (T : Txt K mg w) (G_LowRun_spot : Gm P w K mg base CX0 2 (He.ga K "LowRun") "spot" ["self", "kind", "what", "behind", "place"] (sp_LowRun_spot K)) : Gd P w K mg base CX0 3 "_load" ["going", "frame", "row"] (sp__load K) := by
  have sc := sc__load
  refine T.d__load.ok sc len3 (fun _ _ _ _ _ _ us hl => match us, hl with | [_, _, _], _ => rfl) (fun f cdv A outer s H vs Q E hr h => ?_)
  obtain ⟨x0, x1, x2, rfl, h⟩ := h
  obtain ⟨G, m, m', C, Ws, k, pa, pb, rfl, rfl, hz, ⟨x, l, b, rfl⟩, r, hs, hd, h⟩ := h
  obtain ⟨q1, q2, q3, q4, q5⟩ := small_all hs
  have hz' : DT H x2 (.tuple [.str "load", .int x, .str (lcY l), lcE l, .int b, plD ⟨.load x l b, pa, pb⟩]) := by
    have e : rwD ⟨.load x l b, pa, pb⟩ = .tuple [.str "load", .int x, .str (lcY l), lcE l, .int b, plD ⟨.load x l b, pa, pb⟩] := by
      unfold rwD
      show PyData.tuple (.str "load" :: (.int x :: (lcD l ++ [.int b]) ++ [plD _])) = _
      rw [lcD_eq]; rfl
    rw [← e]; exact hz
  obtain ⟨p, ys, rfl, hp, hys⟩ := hz'.tupI
  obtain ⟨v0, r0, rfl, d0, hr0⟩ := hys.one
  obtain ⟨v1, r1, rfl, d1, hr1⟩ := hr0.one
  obtain ⟨v2, r2, rfl, d2, hr2⟩ := hr1.one
  obtain ⟨v3, r3, rfl, d3, hr3⟩ := hr2.one
  obtain ⟨v4, r4, rfl, d4, hr4⟩ := hr3.one
  obtain ⟨v5, r5, rfl, d5, hr5⟩ := hr4.one
  obtain rfl := d1.intI
  obtain rfl := d2.strI
  obtain rfl := lcE_v d3
  obtain rfl := d4.intI
  unfold deed' at hd
  dsimp only at hd
  split at hd
  · cases hd
  rename_i ad had
  refine ⟨_, (pss_cons (ps_asg (pe_gm (pv 0) T.cl_LowRun.c G_LowRun_spot (hr.mono (by omega)) pass0 (pa_cons (pe_ix ix_tup (pv 2) pe_int (fun _ _ => rfl)) (pa_cons (pe_ix ix_tup (pv 2) pe_int (fun _ _ => rfl)) (pa_cons (pe_ix ix_tup (pv 2) pe_int (fun _ _ => rfl)) (pa_cons (pe_ix ix_tup (pv 2) pe_int (fun _ _ => rfl)) pa_nil))))) (pg_tup rfl (pgs_cons (pg_name (i := 3) sc.nd rfl (Or.inl rfl)) (pgs_cons (pg_name (i := 4) sc.nd rfl (Or.inl rfl)) pgs_nil))))
      (pss_one (ps_if (pt_cmpR op_notN (pv 3) pe_non (nomark _)) (pss_one (ps_dput (hu_of hr) (pe_fld (pv 1) rfl) (pe_ix ix_tup (pv 2) pe_int (fun _ _ => rfl)) (pe_ix ix_list (pv 3) (pv 4) (fun _ _ => rfl)) rfl)) pss_nil))), ?_⟩
  refine ⟨_, rfl, G.a, G.dx, _, rfl, r.ga, rfl, ?_⟩
  refine ⟨_, rfl, p, _, ((2 : Nat) : Int), _, rfl, rfl, SqT.of hp, atI_nat (by rfl), _, rfl, p, _, ((3 : Nat) : Int), _, rfl, rfl, SqT.of hp, atI_nat (by rfl), _, rfl, p, _, ((4 : Nat) : Int), _, rfl, rfl, SqT.of hp, atI_nat (by rfl), _, rfl, p, _, ((5 : Nat) : Int), _, rfl, rfl, SqT.of hp, atI_nat (by rfl), ?_⟩
  refine ⟨_, _, _, _, _, rfl, G, m, C, Ws, l, b, ad, _, rfl, rfl, rfl, rfl, d5, r, had, fun ht H1 t s1 e1 => ?_, fun ht H1 G1 t r1 ea k1 e1 => ?_⟩
  · rw [if_pos ht] at hd
    injection hd with hd
    have r1 := r.same s1
    obtain ⟨t1, t2, t3, t4⟩ := there_t ht
    have hW := (r.setWd ad .non ht).2.2
    refine ⟨t, _, rfl, SqT.of e1, rfl, _, _, rfl, _, _, rfl, rfl, ?_⟩
    refine ⟨_, rfl, rfl, _, rfl, if_true_of rfl ?_⟩
    have hp1 := s1 _ _ hp
    have hlt : ((cellsOf m ad).2 / 4).toNat < (cellsOf m ad).1.length := by omega
    refine ⟨_, rfl, _, rfl, wsA G ad, _, _, (cellsOf m ad).1[((cellsOf m ad).2 / 4).toNat], rfl, rfl, SqL.of (s1 _ _ hW), at_of (j := ((cellsOf m ad).2 / 4).toNat) (by omega) (List.getElem?_eq_getElem hlt), ?_⟩
    refine ⟨_, rfl, C.f, _, C.fx, _, _, rfl, r1.f, T.cl_LowFrame.c, naF T f_wo, rfl, _, rfl, p, _, ((1 : Nat) : Int), _, rfl, rfl, SqT.of hp1, atI_nat (by rfl), C.dw, _, rfl, DPut.k (k := inl x) r1.dw (sz' _ (by omega)), ?_⟩
    have eg : (cellsOf m ad).1.getD ((cellsOf m ad).2 / 4).toNat V.non = (cellsOf m ad).1[((cellsOf m ad).2 / 4).toNat] := by rw [List.getD_eq_getElem?_getD, List.getElem?_eq_getElem hlt]; rfl
    rw [eg] at hd
    subst hd
    exact h _ G C Ws (r1.setW _) rfl ((TK.same s1).tr (r1.tw _))
  · rw [if_neg (by rw [ht]; exact Bool.false_ne_true)] at hd
    injection hd with hd
    subst hd
    refine ⟨t, _, rfl, SqT.of e1, rfl, _, _, rfl, _, _, rfl, rfl, ?_⟩
    refine ⟨_, rfl, rfl, _, rfl, if_false_of rfl ?_⟩
    exact h _ G1 C Ws r1 ea k1
theorem sc__store : FnScope ["going", "frame", "row", "words", "at"] ["going", "frame", "row"] (defScope s__store) := ⟨rfl, rfl, rfl, by decide +kernel, rfl, by decide +kernel, by decide +kernel⟩
theorem g__store (T : Txt K mg w) (G_LowRun_spot : Gm P w K mg base CX0 2 (He.ga K "LowRun") "spot" ["self", "kind", "what", "behind", "place"] (sp_LowRun_spot K)) : Gd P w K mg base CX0 3 "_store" ["going", "frame", "row"] (sp__store K) := by
  have sc := sc__store
  refine T.d__store.ok sc len3 (fun _ _ _ _ _ _ us hl => match us, hl with | [_, _, _], _ => rfl) (fun f cdv A outer s H vs Q E hr h => ?_)
  obtain ⟨x0, x1, x2, rfl, h⟩ := h
  obtain ⟨G, m, m', C, Ws, k, pa, pb, rfl, rfl, hz, ⟨x, l, b, rfl⟩, r, hs, hd, h⟩ := h
  obtain ⟨q1, q2, q3, q4, q5⟩ := small_all hs
  have hz' : DT H x2 (.tuple [.str "store", .int x, .str (lcY l), lcE l, .int b, plD ⟨.store x l b, pa, pb⟩]) := by
    have e : rwD ⟨.store x l b, pa, pb⟩ = .tuple [.str "store", .int x, .str (lcY l), lcE l, .int b, plD ⟨.store x l b, pa, pb⟩] := by
      unfold rwD
      show PyData.tuple (.str "store" :: (.int x :: (lcD l ++ [.int b]) ++ [plD _])) = _
      rw [lcD_eq]; rfl
    rw [← e]; exact hz
  obtain ⟨p, ys, rfl, hp, hys⟩ := hz'.tupI
  obtain ⟨v0, r0, rfl, d0, hr0⟩ := hys.one
  obtain ⟨v1, r1, rfl, d1, hr1⟩ := hr0.one
  obtain ⟨v2, r2, rfl, d2, hr2⟩ := hr1.one
  obtain ⟨v3, r3, rfl, d3, hr3⟩ := hr2.one
  obtain ⟨v4, r4, rfl, d4, hr4⟩ := hr3.one
  obtain ⟨v5, r5, rfl, d5, hr5⟩ := hr4.one
  obtain rfl := d1.intI
  obtain rfl := d2.strI
  obtain rfl := lcE_v d3
  obtain rfl := d4.intI
  unfold deed' at hd
  dsimp only at hd
  split at hd
  rotate_left
  · cases hd
  rename_i ad v had hv
  refine ⟨_, (pss_cons (ps_asg (pe_gm (pv 0) T.cl_LowRun.c G_LowRun_spot (hr.mono (by omega)) pass0 (pa_cons (pe_ix ix_tup (pv 2) pe_int (fun _ _ => rfl)) (pa_cons (pe_ix ix_tup (pv 2) pe_int (fun _ _ => rfl)) (pa_cons (pe_ix ix_tup (pv 2) pe_int (fun _ _ => rfl)) (pa_cons (pe_ix ix_tup (pv 2) pe_int (fun _ _ => rfl)) pa_nil))))) (pg_tup rfl (pgs_cons (pg_name (i := 3) sc.nd rfl (Or.inl rfl)) (pgs_cons (pg_name (i := 4) sc.nd rfl (Or.inl rfl)) pgs_nil))))
      (pss_one (ps_if (pt_cmpR op_notN (pv 3) pe_non (nomark _)) (pss_one (ps_asg (pe_dget (hu_of hr) (pe_fld (pv 1) rfl) (pe_ix ix_tup (pv 2) pe_int (fun _ _ => rfl)) (fun _ _ => rfl)) (pg_sub (pv 3) (pv 4) set_list))) pss_nil))), ?_⟩
  refine ⟨_, rfl, G.a, G.dx, _, rfl, r.ga, rfl, ?_⟩
  refine ⟨_, rfl, p, _, ((2 : Nat) : Int), _, rfl, rfl, SqT.of hp, atI_nat (by rfl), _, rfl, p, _, ((3 : Nat) : Int), _, rfl, rfl, SqT.of hp, atI_nat (by rfl), _, rfl, p, _, ((4 : Nat) : Int), _, rfl, rfl, SqT.of hp, atI_nat (by rfl), _, rfl, p, _, ((5 : Nat) : Int), _, rfl, rfl, SqT.of hp, atI_nat (by rfl), ?_⟩
  refine ⟨_, _, _, _, _, rfl, G, m, C, Ws, l, b, ad, _, rfl, rfl, rfl, rfl, d5, r, had, fun ht H1 t s1 e1 => ?_, fun ht H1 G1 t r1 ea k1 e1 => ?_⟩
  · rw [if_pos ht] at hd
    injection hd with hd
    have r1 := r.same s1
    obtain ⟨t1, t2, t3, t4⟩ := there_t ht
    obtain ⟨w1, w2, hW⟩ := r1.setWd ad v ht
    refine ⟨t, _, rfl, SqT.of e1, rfl, _, _, rfl, _, _, rfl, rfl, ?_⟩
    refine ⟨_, rfl, rfl, _, rfl, if_true_of rfl ?_⟩
    have hp1 := s1 _ _ hp
    refine ⟨_, rfl, C.f, _, C.fx, _, _, rfl, r1.f, T.cl_LowFrame.c, naF T f_wo, rfl, _, rfl, p, _, ((1 : Nat) : Int), _, rfl, rfl, SqT.of hp1, atI_nat (by rfl), C.dw, v, rfl, (show valV m.cur.w (inl x) = some v from hv) ▸ DGet.k (k := inl x) r1.dw, ?_⟩
    refine ⟨_, rfl, _, rfl, wsA G ad, _, _, ((cellsOf m ad).2 / 4).toNat, rfl, rfl, hW, ixN_int (by omega) (by omega), ?_⟩
    subst hd
    exact h _ G C Ws w1 rfl ((TK.same s1).tr w2)
  · rw [if_neg (by rw [ht]; exact Bool.false_ne_true)] at hd
    injection hd with hd
    subst hd
    refine ⟨t, _, rfl, SqT.of e1, rfl, _, _, rfl, _, _, rfl, rfl, ?_⟩
    refine ⟨_, rfl, rfl, _, rfl, if_false_of rfl ?_⟩
    exact h _ G1 C Ws r1 ea k1
end
end K55

namespace K55
open PySem PyProof.Rows L2 My Ru M55
open Builtin (bitAnd bitOr)
section
variable {P : Program} {w : World} {K : PySem.W.Frag} {mg : Str → Option Value} {base : Heap}
theorem sc__must : FnScope ["going", "frame", "row"] ["going", "frame", "row"] (defScope s__must) := ⟨rfl, rfl, rfl, by decide +kernel, rfl, by decide +kernel, by decide +kernel⟩
theorem g__must (T : Txt K mg w) (G_is_branch_taken : Gd P w K mg base CX0 2 "is_branch_taken" ["name", "one", "other"] (sp_is_branch_taken K)) (G_Going_trap : Gm P w K mg base CX0 1 (He.ga K "Going") "trap" ["self", "kind", "place"] (sp_Going_trap K)) : Gd P w K mg base CX0 3 "_must" ["going", "frame", "row"] (sp__must K) := by
  have sc := sc__must
  refine T.d__must.ok sc len3 (fun _ _ _ _ _ _ us hl => match us, hl with | [_, _, _], _ => rfl) (fun f cdv A outer s H vs Q E hr h => ?_)
  obtain ⟨x0, x1, x2, rfl, h⟩ := h
  obtain ⟨G, m, m', C, Ws, k, pa, pb, rfl, rfl, hz, ⟨o, a, b, kd, rfl⟩, r, hs, hd, h⟩ := h
  obtain ⟨q1, q2, q3, q4, q5⟩ := small_all hs
  obtain ⟨p, ys, rfl, hp, hys⟩ := hz.tupI
  obtain ⟨v0, r0, rfl, d0, hr0⟩ := hys.one
  obtain ⟨v1, r1, rfl, d1, hr1⟩ := hr0.one
  obtain ⟨v2, r2, rfl, d2, hr2⟩ := hr1.one
  obtain ⟨v3, r3, rfl, d3, hr3⟩ := hr2.one
  obtain ⟨v4, r4, rfl, d4, hr4⟩ := hr3.one
  obtain ⟨v5, r5, rfl, d5, hr5⟩ := hr4.one
  obtain rfl := d1.strI
  obtain rfl := d2.intI
  obtain rfl := d3.intI
  obtain rfl := d4.strI
  unfold deed' at hd
  dsimp only at hd
  split at hd
  rotate_left
  · cases hd
  rename_i u v hu hv
  refine ⟨_, (pss_one (ps_if (pt_not (pt_val (pe_g G_is_branch_taken (hr.mono (by omega)) pass0 (pa_cons (pe_ix ix_tup (pv 2) pe_int (fun _ _ => rfl)) (pa_cons (pe_dget (hu_of hr) (pe_fld (pv 1) rfl) (pe_ix ix_tup (pv 2) pe_int (fun _ _ => rfl)) (fun _ _ => rfl)) (pa_cons (pe_dget (hu_of hr) (pe_fld (pv 1) rfl) (pe_ix ix_tup (pv 2) pe_int (fun _ _ => rfl)) (fun _ _ => rfl)) pa_nil)))))) (pss_one (ps_expr (pe_gm (pv 0) T.cl_LowRun.c (Mh.Gm.heir G_Going_trap T.hi_LowRun_trap) (hr.mono (by omega)) pass0 (pa_cons (pe_ix ix_tup (pv 2) pe_int (fun _ _ => rfl)) (pa_cons (pe_ix ix_tup (pv 2) pe_int (fun _ _ => rfl)) pa_nil))))) pss_nil)), ?_⟩
  refine ⟨_, rfl, p, _, ((1 : Nat) : Int), _, rfl, rfl, SqT.of hp, atI_nat (by rfl), _, rfl, C.f, _, C.fx, _, _, rfl, r.f, T.cl_LowFrame.c, naF T f_wo, rfl, _, rfl, p, _, ((2 : Nat) : Int), _, rfl, rfl, SqT.of hp, atI_nat (by rfl), C.dw, _, rfl, (wI_at hu ▸ DGet.k (k := inl a) r.dw), _, rfl, C.f, _, C.fx, _, _, rfl, r.f, T.cl_LowFrame.c, naF T f_wo, rfl, _, rfl, p, _, ((3 : Nat) : Int), _, rfl, rfl, SqT.of hp, atI_nat (by rfl), C.dw, _, rfl, (wI_at hv ▸ DGet.k (k := inl b) r.dw), ?_⟩
  refine ⟨_, _, _, rfl, o, u, v, rfl, rfl, rfl, fun H1 s1 => ?_⟩
  refine ⟨_, rfl, ?_⟩
  have r1 := r.same s1
  have hp1 := s1 _ _ hp
  by_cases c : takn o u v = true
  · rw [if_pos c] at hd
    injection hd with hd
    subst hd
    rw [c]
    refine if_false_of rfl ?_
    exact h _ G C Ws r1 rfl (TK.same s1)
  · rw [if_neg c] at hd
    injection hd with hd
    subst hd
    have c' : takn o u v = false := by simpa using c
    rw [c']
    refine if_true_of rfl ?_
    refine ⟨_, rfl, G.a, G.dx, _, rfl, r1.ga, rfl, ?_⟩
    refine ⟨_, rfl, p, _, ((4 : Nat) : Int), _, rfl, rfl, SqT.of hp1, atI_nat (by rfl), _, rfl, p, _, ((5 : Nat) : Int), _, rfl, rfl, SqT.of hp1, atI_nat (by rfl), ?_⟩
    refine ⟨_, _, _, rfl, G, m, C, Ws, kd, _, rfl, rfl, d5.keep (TK.same s1), r1, fun H2 G2 r2 e2 k2 => ?_⟩
    exact h _ G2 C Ws r2 e2 ((TK.same s1).tr k2)
theorem sc__deep : FnScope ["going", "frame", "row", "depth"] ["going", "frame", "row"] (defScope s__deep) := ⟨rfl, rfl, rfl, by decide +kernel, rfl, by decide +kernel, by decide +kernel⟩
theorem g__deep (T : Txt K mg w) (G_word_of : Gd P w K mg base CX0 1 "word_of" ["number"] (sp_word_of K)) (G_Going_trap : Gm P w K mg base CX0 1 (He.ga K "Going") "trap" ["self", "kind", "place"] (sp_Going_trap K)) : Gd P w K mg base CX0 2 "_deep" ["going", "frame", "row"] (sp__deep K) := by
  have sc := sc__deep
  refine T.d__deep.ok sc len3 (fun _ _ _ _ _ _ us hl => match us, hl with | [_, _, _], _ => rfl) (fun f cdv A outer s H vs Q E hr h => ?_)
  obtain ⟨x0, x1, x2, rfl, h⟩ := h
  obtain ⟨G, m, m', C, Ws, k, pa, pb, rfl, rfl, hz, ⟨x, a, n, rfl⟩, r, hs, hd, h⟩ := h
  obtain ⟨q1, q2, q3, q4, q5⟩ := small_all hs
  obtain ⟨p, ys, rfl, hp, hys⟩ := hz.tupI
  obtain ⟨v0, r0, rfl, d0, hr0⟩ := hys.one
  obtain ⟨v1, r1, rfl, d1, hr1⟩ := hr0.one
  obtain ⟨v2, r2, rfl, d2, hr2⟩ := hr1.one
  obtain ⟨v3, r3, rfl, d3, hr3⟩ := hr2.one
  obtain ⟨v4, r4, rfl, d4, hr4⟩ := hr3.one
  obtain rfl := d1.intI
  obtain rfl := d2.intI
  obtain rfl := d3.intI
  unfold deed' at hd
  dsimp only at hd
  split at hd
  rotate_left
  · cases hd
  rename_i u hu
  refine ⟨_, (pss_cons (ps_set (i := 3) sc.nd rfl (Or.inl rfl) (pe_g G_word_of (hr.mono (by omega)) pass0 (pa_cons (pe_op op_add (pe_dget (hu_of hr) (pe_fld (pv 1) rfl) (pe_ix ix_tup (pv 2) pe_int (fun _ _ => rfl)) (fun _ _ => rfl)) (pe_ix ix_tup (pv 2) pe_int (fun _ _ => rfl))) pa_nil)))
      (pss_cons (ps_dput (hu_of hr) (pe_fld (pv 1) rfl) (pe_ix ix_tup (pv 2) pe_int (fun _ _ => rfl)) (pv 3) rfl)
      (pss_one (ps_if (pt_cmpR op_gt (pv 3) (pe_fld (pv 0) rfl) (nomark _)) (pss_one (ps_expr (pe_gm (pv 0) T.cl_LowRun.c (Mh.Gm.heir G_Going_trap T.hi_LowRun_trap) (hr.mono (by omega)) pass0 (pa_cons pe_str (pa_cons (pe_ix ix_tup (pv 2) pe_int (fun _ _ => rfl)) pa_nil))))) pss_nil)))), ?_⟩
  refine ⟨_, rfl, C.f, _, C.fx, _, _, rfl, r.f, T.cl_LowFrame.c, naF T f_wo, rfl, _, rfl, p, _, ((2 : Nat) : Int), _, rfl, rfl, SqT.of hp, atI_nat (by rfl), C.dw, _, rfl, (wI_at hu ▸ DGet.k (k := inl a) r.dw), _, rfl, p, _, ((3 : Nat) : Int), _, rfl, rfl, SqT.of hp, atI_nat (by rfl), _, _, rfl, rfl, ?_⟩
  refine ⟨_, rfl, _, rfl, ?_⟩
  generalize hdd : (u + n) % 4294967296 = dd at *
  refine ⟨_, rfl, _, rfl, C.f, _, C.fx, _, _, rfl, r.f, T.cl_LowFrame.c, naF T f_wo, rfl, _, rfl, p, _, ((1 : Nat) : Int), _, rfl, rfl, SqT.of hp, atI_nat (by rfl), C.dw, _, rfl, DPut.k (k := inl x) r.dw (sz' _ (by omega)), ?_⟩
  have r1 := r.setW (putK m.cur.w (inl x) (.int dd))
  have k1 := r.tw (putK m.cur.w (inl x) (.int dd))
  generalize upd H C.dw (.dK (putK m.cur.w (inl x) (.int dd))) = H1 at *
  have hp1 := k1 _ _ hp
  refine ⟨_, rfl, _, rfl, G.a, _, G.dx, _, _, rfl, r1.ga, T.cl_LowRun.c, naG T g_li, rfl, _, _, rfl, rfl, _, rfl, ?_⟩
  by_cases c : m.lim < dd
  · rw [if_pos c] at hd
    injection hd with hd
    subst hd
    refine if_true_of (decide_eq_true c) ?_
    refine ⟨_, rfl, G.a, G.dx, _, rfl, r1.ga, rfl, _, rfl, p, _, ((4 : Nat) : Int), _, rfl, rfl, SqT.of hp1, atI_nat (by rfl), ?_⟩
    refine ⟨_, _, _, rfl, G, _, C, Ws, "stack", _, rfl, rfl, d4.keep k1, r1, fun H2 G2 r2 e2 k2 => ?_⟩
    exact h _ G2 C Ws r2 e2 (k1.tr k2)
  · rw [if_neg c] at hd
    injection hd with hd
    subst hd
    refine if_false_of (decide_eq_false c) ?_
    exact h _ G C Ws r1 rfl k1
theorem sc_do_in : FnScope ["going", "frame", "row"] ["going", "frame", "row"] (defScope s_do_in) := ⟨rfl, rfl, rfl, by decide +kernel, rfl, by decide +kernel, by decide +kernel⟩
theorem g_do_in (T : Txt K mg w) (G_Going_take : Gm P w K mg base CX0 2 (He.ga K "Going") "take" ["self", "place"] (sp_Going_take K)) : Gd P w K mg base CX0 3 "do_in" ["going", "frame", "row"] (sp_do_in K) := by
  have sc := sc_do_in
  refine T.d_do_in.ok sc len3 (fun _ _ _ _ _ _ us hl => match us, hl with | [_, _, _], _ => rfl) (fun f cdv A outer s H vs Q E hr h => ?_)
  obtain ⟨x0, x1, x2, rfl, h⟩ := h
  obtain ⟨G, m, m', C, Ws, k, pa, pb, rfl, rfl, hz, ⟨x, rfl⟩, r, hs, hd, h⟩ := h
  obtain ⟨q1, q2, q3, q4, q5⟩ := small_all hs
  obtain ⟨p, ys, rfl, hp, hys⟩ := hz.tupI
  obtain ⟨v0, r0, rfl, d0, hr0⟩ := hys.one
  obtain ⟨v1, r1, rfl, d1, hr1⟩ := hr0.one
  obtain ⟨v2, r2, rfl, d2, hr2⟩ := hr1.one
  obtain rfl := d1.intI
  unfold deed' at hd
  dsimp only at hd
  refine ⟨_, (pss_one (ps_dput (hu_of hr) (pe_fld (pv 1) rfl) (pe_ix ix_tup (pv 2) pe_int (fun _ _ => rfl)) (pe_gm (pv 0) T.cl_LowRun.c (Mh.Gm.heir G_Going_take T.hi_LowRun_take) (hr.mono (by omega)) pass0 (pa_cons (pe_ix ix_tup (pv 2) pe_int (fun _ _ => rfl)) pa_nil)) rfl)), ?_⟩
  refine ⟨_, rfl, G.a, G.dx, _, rfl, r.ga, rfl, _, rfl, p, _, ((2 : Nat) : Int), _, rfl, rfl, SqT.of hp, atI_nat (by rfl), ?_⟩
  refine ⟨_, _, rfl, G, m, C, Ws, _, rfl, d2, r, q4, fun v hv H1 r1 k1 => ?_, fun hv H1 G1 r1 e1 k1 => ?_⟩
  · rw [hv] at hd
    injection hd with hd
    subst hd
    have hp1 := k1 _ _ hp
    refine ⟨_, rfl, C.f, _, C.fx, _, _, rfl, r1.f, T.cl_LowFrame.c, naF T f_wo, rfl, _, rfl, p, _, ((1 : Nat) : Int), _, rfl, rfl, SqT.of hp1, atI_nat (by rfl), C.dw, _, rfl, DPut.k (k := inl x) r1.dw (sz' _ (by show m.cur.w.length ≤ 10000; omega)), ?_⟩
    exact h _ G C Ws (r1.setW _) rfl (k1.tr (r1.tw _))
  · rw [hv] at hd
    injection hd with hd
    subst hd
    have hp1 := k1 _ _ hp
    refine ⟨_, rfl, C.f, _, C.fx, _, _, rfl, r1.f, T.cl_LowFrame.c, naF T f_wo, rfl, _, rfl, p, _, ((1 : Nat) : Int), _, rfl, rfl, SqT.of hp1, atI_nat (by rfl), C.dw, _, rfl, DPut.k (k := inl x) r1.dw (sz' _ (by show m.cur.w.length ≤ 10000; omega)), ?_⟩
    exact h _ G1 C Ws (r1.setW _) e1 (k1.tr (r1.tw _))
theorem sc_do_go : FnScope ["going", "frame", "end"] ["going", "frame", "end"] (defScope s_do_go) := ⟨rfl, rfl, rfl, by decide +kernel, rfl, by decide +kernel, by decide +kernel⟩
theorem g_do_go (T : Txt K mg w) (G_RowFrame_go : Gm P w K mg base CX0 2 (He.ga K "RowFrame") "go" ["self", "goal", "args"] (sp_RowFrame_go K)) : Gd P w K mg base CX0 3 "do_go" ["going", "frame", "end"] (sp_do_go K) := by
  have sc := sc_do_go
  refine T.d_do_go.ok sc len3 (fun _ _ _ _ _ _ us hl => match us, hl with | [_, _, _], _ => rfl) (fun f cdv A outer s H vs Q E hr h => ?_)
  obtain ⟨x0, x1, x2, rfl, h⟩ := h
  obtain ⟨G, m, m', C, Ws, k, pa, pb, rfl, rfl, hz, ⟨g, as, rfl⟩, r, hs, hd, h⟩ := h
  obtain ⟨q1, q2, q3, q4, q5⟩ := small_all hs
  obtain ⟨p, ys, rfl, hp, hys⟩ := hz.tupI
  obtain ⟨v0, r0, rfl, d0, hr0⟩ := hys.one
  obtain ⟨v1, r1, rfl, d1, hr1⟩ := hr0.one
  obtain ⟨v2, r2, rfl, d2, hr2⟩ := hr1.one
  obtain rfl := d1.intI
  obtain ⟨pa2, as', rfl, hpa, has⟩ := d2.tupI
  obtain rfl := has.ints
  unfold deed' at hd
  dsimp only at hd
  split at hd
  rotate_left
  · cases hd
  rename_i vs hvs
  cases hb : begB m.cur g vs with
  | none => rw [hb] at hd; cases hd
  | some fr =>
  rw [hb] at hd
  injection hd with hd
  obtain ⟨b, hg, hz2⟩ := begB_some hb
  have hlv := vals_len hvs
  refine ⟨_, (pss_one (ps_expr (pe_gm (pv 1) T.cl_LowFrame.c (Mh.Gm.heir G_RowFrame_go T.hi_LowFrame_go) (hr.mono (by omega)) pass0 (pa_cons (pe_ix ix_tup (pv 2) pe_int (fun _ _ => rfl)) (pa_cons (pe_ix ix_tup (pv 2) pe_int (fun _ _ => rfl)) pa_nil))))), ?_⟩
  refine ⟨_, rfl, C.f, C.fx, _, rfl, r.f, rfl, _, rfl, p, _, ((1 : Nat) : Int), _, rfl, rfl, SqT.of hp, atI_nat (by rfl), _, rfl, p, _, ((2 : Nat) : Int), _, rfl, rfl, SqT.of hp, atI_nat (by rfl), ?_⟩
  refine ⟨_, _, _, rfl, C.f, C.fx, C.dw, pa2, C.bv, C.rv, C.ev, _, _, m.cur.w, m.cur.bs, g, b, as, vs, rfl, rfl, rfl, r.f, .inr ⟨_, _, rfl⟩, r.cf.bv, hg, r.dw, hpa, hvs, by omega, hz2, fun H1 rv ev b1 e1 e2 e3 e4 => ?_⟩
  obtain ⟨r1, k1⟩ := r.went hb hg b1 e1 e2 e3 e4
  subst hd
  exact h _ G _ Ws r1 rfl k1
theorem sc_low_hands : FnScope ["end"] ["end"] (defScope s_low_hands) := ⟨rfl, rfl, rfl, by decide +kernel, rfl, by decide +kernel, by decide +kernel⟩
theorem g_low_hands (T : Txt K mg w)  : Gd P w K mg base CX0 1 "low_hands" ["end"] (sp_low_hands K) := by
  have sc := sc_low_hands
  refine T.d_low_hands.ok sc len1 (fun _ _ _ _ _ _ us hl => match us, hl with | [_], _ => rfl) (fun f cdv A outer s H vs Q E hr h => ?_)
  obtain ⟨x0, rfl, h⟩ := h
  obtain ⟨o, a, b, g, as, g2, as2, pa, pb, hz, h⟩ := h
  obtain ⟨p, ys, rfl, hp, hys⟩ := hz.tupI
  obtain ⟨v0, r0, rfl, d0, hr0⟩ := hys.one
  obtain ⟨v1, r1, rfl, d1, hr1⟩ := hr0.one
  obtain ⟨v2, r2, rfl, d2, hr2⟩ := hr1.one
  obtain ⟨v3, r3, rfl, d3, hr3⟩ := hr2.one
  obtain ⟨v4, r4, rfl, d4, hr4⟩ := hr3.one
  obtain ⟨v5, r5, rfl, d5, hr5⟩ := hr4.one
  obtain ⟨v6, r6, rfl, d6, hr6⟩ := hr5.one
  obtain ⟨v7, r7, rfl, d7, hr7⟩ := hr6.one
  obtain rfl := d0.strI
  obtain rfl := d4.intI
  obtain rfl := d6.intI
  obtain ⟨p1, as', rfl, hp1, has⟩ := d5.tupI
  obtain rfl := has.ints
  obtain ⟨p2, as', rfl, hp2, has2⟩ := d7.tupI
  obtain rfl := has2.ints
  refine ⟨_, (pss_cons (ps_if (pt_cmpR op_eq (pe_ix ix_tup (pv 0) pe_int (fun _ _ => rfl)) pe_str (nomark _)) (pss_one (ps_ret (pe_lst (pa_cons (pe_tup (pa_cons (pe_ix ix_tup (pv 0) pe_int (fun _ _ => rfl)) (pa_cons (pe_ix ix_tup (pv 0) pe_int (fun _ _ => rfl)) pa_nil))) pa_nil)))) pss_nil)
      (pss_cons (ps_if (pt_cmpR op_eq (pe_ix ix_tup (pv 0) pe_int (fun _ _ => rfl)) pe_str (nomark _)) (pss_one (ps_ret (pe_lst (pa_cons (pe_tup (pa_cons (pe_ix ix_tup (pv 0) pe_int (fun _ _ => rfl)) (pa_cons (pe_ix ix_tup (pv 0) pe_int (fun _ _ => rfl)) pa_nil))) (pa_cons (pe_tup (pa_cons (pe_ix ix_tup (pv 0) pe_int (fun _ _ => rfl)) (pa_cons (pe_ix ix_tup (pv 0) pe_int (fun _ _ => rfl)) pa_nil))) pa_nil))))) pss_nil)
      (pss_one (ps_ret (pe_lst pa_nil))))), ?_⟩
  refine ⟨_, rfl, p, _, ((0 : Nat) : Int), _, rfl, rfl, SqT.of hp, atI_nat (by rfl), rfl, _, rfl, if_false_of rfl ?_⟩
  refine ⟨_, rfl, p, _, ((0 : Nat) : Int), _, rfl, rfl, SqT.of hp, atI_nat (by rfl), rfl, _, rfl, if_true_of rfl ?_⟩
  refine ⟨_, rfl, p, _, ((4 : Nat) : Int), _, rfl, rfl, SqT.of hp, atI_nat (by rfl), _, rfl, p, _, ((5 : Nat) : Int), _, rfl, rfl, SqT.of hp, atI_nat (by rfl), (by show 2 ≤ sizeLine; decide), fun t1 f1 => ?_⟩
  have s1 := same_new (o := .tup [.int (g : Int), .ref p1]) f1
  refine ⟨_, rfl, p, _, ((6 : Nat) : Int), _, rfl, rfl, SqT.of (s1 _ _ hp), atI_nat (by rfl), _, rfl, p, _, ((7 : Nat) : Int), _, rfl, rfl, SqT.of (s1 _ _ hp), atI_nat (by rfl), (by show 2 ≤ sizeLine; decide), fun t2 f2 => ?_⟩
  have s2 := Same.tr s1 (same_new (o := .tup [.int (g2 : Int), .ref p2]) f2)
  refine ⟨(by show 2 ≤ sizeLine; decide), fun l f3 => ?_⟩
  have s3 := Same.tr s2 (same_new (o := .lst [.ref t1, .ref t2]) f3)
  exact h _ l t1 t2 p1 p2 s3 upd_same (same_new f3 _ _ (same_new f2 _ _ upd_same)) (same_new f3 _ _ upd_same) (s3 _ _ hp1) (s3 _ _ hp2)
end
end K55

namespace K55
open PySem PyProof.Rows L2 My Ru M55
open Builtin (bitAnd bitOr)
/-- what is handed out of a frame, to begin another function -/
theorem R.waits {K : PySem.W.Frag} {H : Hp} {G : GA} {m : Mm} {C : FA} {Ws : List FA} (r : R K H G m C Ws) : RB K (upd H G.lw (.lst (wrefs (Ws ++ [C])))) G { m with wt := m.wt ++ [m.cur] } (.ref C.f) (Ws ++ [C]) ∧ TK H (upd H G.lw (.lst (wrefs (Ws ++ [C])))) := by
  have k : TK H (upd H G.lw (.lst (wrefs (Ws ++ [C])))) := tk_upd r.lw (by simp)
  have c1 : Cells (upd H G.lw (.lst (wrefs (Ws ++ [C])))) (hcells K G m (.ref C.f) (Ws ++ [C]) ++ (fcells K C m.cur ++ wcells K Ws m.wt)) :=
    Cells.set1 (l1 := [(G.a, .ins (CLR K) G.dx (gfs G m (.ref C.f))), (G.lo, .lst m.out)]) (p := G.lw) (o := .lst (wrefs Ws)) r.cs
  refine ⟨⟨?_, (r.ws.keep k).snoc (r.cf.keep k), r.fn.keep k, r.en.keep k⟩, k⟩
  have e := wcells_snoc (K := K) (A := C) (f := m.cur) r.ws
  show Cells _ (hcells K G m (.ref C.f) (Ws ++ [C]) ++ wcells K (Ws ++ [C]) (m.wt ++ [m.cur]))
  rw [e]
  exact c1.perm (List.Perm.append_left _ List.perm_append_comm)
def sp_LowRun_step (K : PySem.W.Frag) : Sp := sp1 fun x H Q _ => ∃ (G : GA) (m m' : Mm) (C : FA) (Ws : List FA), x = .ref G.a ∧ R K H G m C Ws ∧ stepM m = some m' ∧
  ∀ (H' : Hp) (G' : GA) (C' : FA) (Ws' : List FA), R K H' G' m' C' Ws' → G'.a = G.a → TK H H' → Q .non H'
/-- a run's end, as it is handed back -/
def ranTo (H' : Hp) (m : Mm) (r : Addr) : Prop := ∃ (o : Addr) (e : V) (d : PyData), H' r = some (.tup [.ref o, e, .int m.st]) ∧ H' o = some (.tup m.out) ∧ m.en = some d ∧ DT H' e d
def sp_run_to_end (K : PySem.W.Frag) : Sp := sp2 fun x y H Q _ => ∃ (G : GA) (m m' : Mm) (C : FA) (Ws : List FA) (most n : Nat), x = .ref G.a ∧ y = .int (most : Int) ∧ R K H G m C Ws ∧ runM most n m = some m' ∧
  ∀ (H' : Hp) (r : Addr), ranTo H' m' r → TK H H' → Q (.ref r) H'
def sp_run_low (K : PySem.W.Frag) : Sp := sp4 fun x y z u H Q _ => ∃ (lu li : Addr) (lim : Int) (most : Nat) (uvs inp : List V) (us : List Un) (m' : Mm), x = .ref lu ∧ y = .ref li ∧ z = .int lim ∧ u = .int (most : Int) ∧ H lu = some (.lst uvs) ∧ H li = some (.lst inp) ∧ li ≠ lu ∧
  DTs H uvs (us.map unD) ∧ ((us.flatMap Un.fns).map Fn.nm).Nodup ∧ (us.flatMap Un.fns).length ≤ 1000 ∧ foldTh (us.flatMap Un.ths) = (([V.int 1, V.int 11, V.int 0, V.non] : List V), ([(Sum.inr "g", V.int 4096)] : List (Key × V))) ∧ (∀ t ∈ us.flatMap Un.ths, t.words ≤ 1000 ∧ -1000 ≤ t.words ∧ t.firsts.length ≤ 1000) ∧
  runL (us.flatMap Un.fns) inp lim most = some m' ∧ ∀ (H' : Hp) (r : Addr), ranTo H' m' r → TK H H' → Q (.ref r) H'
theorem run_en {most : Nat} : ∀ {n : Nat} {m m' : Mm}, runM most n m = some m' → m'.en ≠ none
  | 0, m, m', h => by cases h
  | n + 1, m, m', h => by
    unfold runM at h
    split at h
    · rename_i d e
      injection h with h
      subst h
      rw [e]; simp
    · split at h
      · injection h with h
        subst h
        simp
      · split at h
        · exact run_en h
        · cases h
theorem begF_args {m m' : Mm} {f : Str} {vs : List V} (h : begF m f vs = some m') : vs.length ≤ 1000 := by
  unfold begF at h
  split at h
  · cases h
  · split at h
    · cases h
    · split at h
      · cases h
      · rename_i fr hfr
        obtain ⟨b, _, z⟩ := begB_some hfr
        dsimp only at z
        omega
section
variable {P : Program} {w : World} {K : PySem.W.Frag} {mg : Str → Option Value} {base : Heap}
theorem sc__branch : FnScope ["going", "frame", "end", "is_taken", "goal", "args"] ["going", "frame", "end"] (defScope s__branch) := ⟨rfl, rfl, rfl, by decide +kernel, rfl, by decide +kernel, by decide +kernel⟩
theorem g__branch (T : Txt K mg w) (G_is_branch_taken : Gd P w K mg base CX0 2 "is_branch_taken" ["name", "one", "other"] (sp_is_branch_taken K)) (G_low_hands : Gd P w K mg base CX0 1 "low_hands" ["end"] (sp_low_hands K)) (G_RowFrame_go : Gm P w K mg base CX0 2 (He.ga K "RowFrame") "go" ["self", "goal", "args"] (sp_RowFrame_go K)) : Gd P w K mg base CX0 3 "_branch" ["going", "frame", "end"] (sp__branch K) := by
  have sc := sc__branch
  refine T.d__branch.ok sc len3 (fun _ _ _ _ _ _ us hl => match us, hl with | [_, _, _], _ => rfl) (fun f cdv A outer s H vs Q E hr h => ?_)
  obtain ⟨x0, x1, x2, rfl, h⟩ := h
  obtain ⟨G, m, m', C, Ws, k, pa, pb, rfl, rfl, hz, ⟨o, a, b, g, as, g2, as2, rfl⟩, r, hs, hd, h⟩ := h
  obtain ⟨q1, q2, q3, q4, q5⟩ := small_all hs
  obtain ⟨p, ys, rfl, hp, hys⟩ := id hz.tupI
  obtain ⟨v0, r0, rfl, d0, hr0⟩ := hys.one
  obtain ⟨v1, r1, rfl, d1, hr1⟩ := hr0.one
  obtain ⟨v2, r2, rfl, d2, hr2⟩ := hr1.one
  obtain ⟨v3, r3, rfl, d3, hr3⟩ := hr2.one
  obtain rfl := d1.strI
  obtain rfl := d2.intI
  obtain rfl := d3.intI
  unfold deed' at hd
  dsimp only at hd
  split at hd
  rotate_left
  · cases hd
  rename_i u v hu hv
  split at hd
  rotate_left
  · cases hd
  rename_i vs hvs
  cases hb : begB m.cur (if takn o u v = true then g else g2) vs with
  | none => rw [hb] at hd; cases hd
  | some fr =>
  rw [hb] at hd
  injection hd with hd
  obtain ⟨bl, hg, hz2⟩ := begB_some hb
  have hlv := vals_len hvs
  refine ⟨_, (pss_cons (ps_set (i := 3) sc.nd rfl (Or.inl rfl) (pe_g G_is_branch_taken (hr.mono (by omega)) pass0 (pa_cons (pe_ix ix_tup (pv 2) pe_int (fun _ _ => rfl)) (pa_cons (pe_dget (hu_of hr) (pe_fld (pv 1) rfl) (pe_ix ix_tup (pv 2) pe_int (fun _ _ => rfl)) (fun _ _ => rfl)) (pa_cons (pe_dget (hu_of hr) (pe_fld (pv 1) rfl) (pe_ix ix_tup (pv 2) pe_int (fun _ _ => rfl)) (fun _ _ => rfl)) pa_nil)))))
      (pss_cons (ps_asg (pe_ix ix_list (pe_g G_low_hands (hr.mono (by omega)) pass0 (pa_cons (pv 2) pa_nil)) (pe_ifExp (pt_val (pv 3)) pe_int pe_int) (fun _ _ => rfl)) (pg_tup rfl (pgs_cons (pg_name (i := 4) sc.nd rfl (Or.inl rfl)) (pgs_cons (pg_name (i := 5) sc.nd rfl (Or.inl rfl)) pgs_nil))))
      (pss_one (ps_expr (pe_gm (pv 1) T.cl_LowFrame.c (Mh.Gm.heir G_RowFrame_go T.hi_LowFrame_go) (hr.mono (by omega)) pass0 (pa_cons (pv 4) (pa_cons (pv 5) pa_nil))))))), ?_⟩
  refine ⟨_, rfl, p, _, ((1 : Nat) : Int), _, rfl, rfl, SqT.of hp, atI_nat (by rfl), _, rfl, C.f, _, C.fx, _, _, rfl, r.f, T.cl_LowFrame.c, naF T f_wo, rfl, _, rfl, p, _, ((2 : Nat) : Int), _, rfl, rfl, SqT.of hp, atI_nat (by rfl), C.dw, _, rfl, (wI_at hu ▸ DGet.k (k := inl a) r.dw), _, rfl, C.f, _, C.fx, _, _, rfl, r.f, T.cl_LowFrame.c, naF T f_wo, rfl, _, rfl, p, _, ((3 : Nat) : Int), _, rfl, rfl, SqT.of hp, atI_nat (by rfl), C.dw, _, rfl, (wI_at hv ▸ DGet.k (k := inl b) r.dw), ?_⟩
  refine ⟨_, _, _, rfl, o, u, v, rfl, rfl, rfl, fun H1 s1 => ?_⟩
  have r1 := r.same s1
  refine ⟨_, rfl, _, rfl, o, a, b, g, as, g2, as2, pa, pb, hz.keep (TK.same s1), fun H2 l t1 t2 p1 p2 s2 e1 e2 e3 e4 e5 => ?_⟩
  have r2 := r1.same s2
  have kk := (TK.same s1).tr (TK.same s2)
  generalize htk : takn o u v = tk at *
  cases tk with
  | true =>
    have hvs' : vals m.cur.w as = some vs := hvs
    have hb' : begB m.cur g vs = some fr := hb
    have hg' : m.cur.bs[g]? = some bl := hg
    refine ⟨_, rfl, true, rfl, if_true_of rfl ?_⟩
    refine ⟨l, _, ((0 : Nat) : Int), .ref t1, rfl, rfl, SqL.of e1, atI_nat (by rfl), ?_⟩
    refine ⟨t1, _, rfl, SqT.of e2, rfl, _, _, rfl, _, _, rfl, rfl, ?_⟩
    refine ⟨_, rfl, C.f, C.fx, _, rfl, r2.f, rfl, _, rfl, _, rfl, ?_⟩
    refine ⟨_, _, _, rfl, C.f, C.fx, C.dw, p1, C.bv, C.rv, C.ev, _, _, m.cur.w, m.cur.bs, g, bl, as, vs, rfl, rfl, rfl, r2.f, .inr ⟨_, _, rfl⟩, r2.cf.bv, hg', r2.dw, e4, hvs', ?_, hz2, fun H3 rv ev b1 f1 f2 f3 f4 => ?_⟩
    · have : vs.length = (as).length := vals_len hvs'
      omega
    obtain ⟨r3, k3⟩ := r2.went hb' hg' b1 f1 f2 f3 f4
    subst hd
    exact h _ G _ Ws r3 rfl (kk.tr k3)
  | false =>
    have hvs' : vals m.cur.w as2 = some vs := hvs
    have hb' : begB m.cur g2 vs = some fr := hb
    have hg' : m.cur.bs[g2]? = some bl := hg
    refine ⟨_, rfl, false, rfl, if_false_of rfl ?_⟩
    refine ⟨l, _, ((1 : Nat) : Int), .ref t2, rfl, rfl, SqL.of e1, atI_nat (by rfl), ?_⟩
    refine ⟨t2, _, rfl, SqT.of e3, rfl, _, _, rfl, _, _, rfl, rfl, ?_⟩
    refine ⟨_, rfl, C.f, C.fx, _, rfl, r2.f, rfl, _, rfl, _, rfl, ?_⟩
    refine ⟨_, _, _, rfl, C.f, C.fx, C.dw, p2, C.bv, C.rv, C.ev, _, _, m.cur.w, m.cur.bs, g2, bl, as2, vs, rfl, rfl, rfl, r2.f, .inr ⟨_, _, rfl⟩, r2.cf.bv, hg', r2.dw, e5, hvs', ?_, hz2, fun H3 rv ev b1 f1 f2 f3 f4 => ?_⟩
    · have : vs.length = (as2).length := vals_len hvs'
      omega
    obtain ⟨r3, k3⟩ := r2.went hb' hg' b1 f1 f2 f3 f4
    subst hd
    exact h _ G _ Ws r3 rfl (kk.tr k3)
theorem sc__return : FnScope ["going", "frame", "end"] ["going", "frame", "end"] (defScope s__return) := ⟨rfl, rfl, rfl, by decide +kernel, rfl, by decide +kernel, by decide +kernel⟩
theorem g__return (T : Txt K mg w) (G_LowRun_end_frame : Gm P w K mg base CX0 1 (He.ga K "LowRun") "end_frame" ["self"] (sp_LowRun_end_frame K)) (G_RowRun_give_back : Gm P w K mg base CX0 2 (He.ga K "RowRun") "give_back" ["self", "word"] (sp_RowRun_give_back K)) : Gd P w K mg base CX0 3 "_return" ["going", "frame", "end"] (sp__return K) := by
  have sc := sc__return
  refine T.d__return.ok sc len3 (fun _ _ _ _ _ _ us hl => match us, hl with | [_, _, _], _ => rfl) (fun f cdv A outer s H vs Q E hr h => ?_)
  obtain ⟨x0, x1, x2, rfl, h⟩ := h
  obtain ⟨G, m, m', C, Ws, k, pa, pb, rfl, rfl, hz, ⟨x, rfl⟩, r, hs, hd, h⟩ := h
  obtain ⟨q1, q2, q3, q4, q5⟩ := small_all hs
  obtain ⟨p, ys, rfl, hp, hys⟩ := hz.tupI
  obtain ⟨v0, r0, rfl, d0, hr0⟩ := hys.one
  obtain ⟨v1, r1, rfl, d1, hr1⟩ := hr0.one
  obtain rfl := d1.intI
  unfold deed' at hd
  dsimp only at hd
  split at hd
  rotate_left
  · cases hd
  rename_i v hv
  refine ⟨_, (pss_cons (ps_expr (pe_gm0 (pv 0) T.cl_LowRun.c G_LowRun_end_frame (hr.mono (by omega)) pass0))
      (pss_one (ps_expr (pe_gm (pv 0) T.cl_LowRun.c (Mh.Gm.heir G_RowRun_give_back T.hi_LowRun_give_back) (hr.mono (by omega)) pass0 (pa_cons (pe_dget (hu_of hr) (pe_fld (pv 1) rfl) (pe_ix ix_tup (pv 2) pe_int (fun _ _ => rfl)) (fun _ _ => rfl)) pa_nil))))), ?_⟩
  refine ⟨_, rfl, G.a, G.dx, _, rfl, r.ga, rfl, ?_⟩
  refine ⟨_, rfl, G, m, C, Ws, rfl, r, q5, fun H1 r1 k1 _ => ?_⟩
  have hp1 := k1 _ _ hp
  refine ⟨_, rfl, G.a, G.dx, _, rfl, r1.ga, rfl, _, rfl, C.f, _, C.fx, _, _, rfl, r1.f, T.cl_LowFrame.c, naF T f_wo, rfl, _, rfl, p, _, ((1 : Nat) : Int), _, rfl, rfl, SqT.of hp1, atI_nat (by rfl), C.dw, v, rfl, (show valV m.cur.w (inl x) = some v from hv) ▸ DGet.k (k := inl x) r1.dw, ?_⟩
  refine ⟨_, _, rfl, G, _, m', C, Ws, rfl, r1, hd, fun H2 G2 C2 Ws2 r2 e2 k2 => ?_⟩
  exact h _ G2 C2 Ws2 r2 e2 (k1.tr k2)
theorem sc__tail : FnScope ["going", "frame", "end", "args"] ["going", "frame", "end"] (defScope s__tail) := ⟨rfl, rfl, rfl, by decide +kernel, rfl, by decide +kernel, by decide +kernel⟩
theorem g__tail (T : Txt K mg w) (G_RowFrame_all_worths : Gm P w K mg base CX0 1 (He.ga K "RowFrame") "all_worths" ["self", "values"] (sp_RowFrame_all_worths K)) (G_LowRun_end_frame : Gm P w K mg base CX0 1 (He.ga K "LowRun") "end_frame" ["self"] (sp_LowRun_end_frame K)) (G_LowRun_begin : Gm P w K mg base CX0 5 (He.ga K "LowRun") "begin" ["self", "name", "args"] (sp_LowRun_begin K)) : Gd P w K mg base CX0 6 "_tail" ["going", "frame", "end"] (sp__tail K) := by
  have sc := sc__tail
  refine T.d__tail.ok sc len3 (fun _ _ _ _ _ _ us hl => match us, hl with | [_, _, _], _ => rfl) (fun f cdv A outer s H vs Q E hr h => ?_)
  obtain ⟨x0, x1, x2, rfl, h⟩ := h
  obtain ⟨G, m, m', C, Ws, k, pa, pb, rfl, rfl, hz, ⟨fn, as, rfl⟩, r, hs, hd, h⟩ := h
  obtain ⟨q1, q2, q3, q4, q5⟩ := small_all hs
  obtain ⟨p, ys, rfl, hp, hys⟩ := hz.tupI
  obtain ⟨v0, r0, rfl, d0, hr0⟩ := hys.one
  obtain ⟨v1, r1, rfl, d1, hr1⟩ := hr0.one
  obtain ⟨v2, r2, rfl, d2, hr2⟩ := hr1.one
  obtain rfl := d1.strI
  obtain ⟨pa2, as', rfl, hpa, has⟩ := d2.tupI
  obtain rfl := has.ints
  unfold deed' at hd
  dsimp only at hd
  split at hd
  rotate_left
  · cases hd
  rename_i vs hvs
  have hle : as.length ≤ 1000 := by
    have := begF_args hd
    rw [vals_len hvs] at this
    exact this
  refine ⟨_, (pss_cons (ps_set (i := 3) sc.nd rfl (Or.inl rfl) (pe_gm (pv 1) T.cl_LowFrame.c (Mh.Gm.heir G_RowFrame_all_worths T.hi_LowFrame_all_worths) (hr.mono (by omega)) pass0 (pa_cons (pe_ix ix_tup (pv 2) pe_int (fun _ _ => rfl)) pa_nil)))
      (pss_cons (ps_expr (pe_gm0 (pv 0) T.cl_LowRun.c G_LowRun_end_frame (hr.mono (by omega)) pass0))
      (pss_one (ps_expr (pe_gm (pv 0) T.cl_LowRun.c G_LowRun_begin (hr.mono (by omega)) pass0 (pa_cons (pe_ix ix_tup (pv 2) pe_int (fun _ _ => rfl)) (pa_cons (pv 3) pa_nil))))))), ?_⟩
  refine ⟨_, rfl, C.f, C.fx, _, rfl, r.f, rfl, _, rfl, p, _, ((2 : Nat) : Int), _, rfl, rfl, SqT.of hp, atI_nat (by rfl), ?_⟩
  refine ⟨_, _, rfl, C.f, C.fx, C.dw, pa2, C.bv, C.rv, C.ev, _, _, m.cur.w, as, vs, rfl, rfl, r.f, r.dw, hpa, hvs, hle, fun H1 l s1 hl hl0 => ?_⟩
  have r1 := r.same s1
  refine ⟨_, rfl, G.a, G.dx, _, rfl, r1.ga, rfl, ?_⟩
  refine ⟨_, rfl, G, m, C, Ws, rfl, r1, q5, fun H2 r2 k2 b2 => ?_⟩
  have kk := (TK.same s1).tr k2
  have hp2 := kk _ _ hp
  have hl2 : H2 l = some (.lst vs) := b2 _ _ hl (by simpa using (ne_of_none r.ls hl0).symm)
  refine ⟨_, rfl, G.a, G.dx, _, rfl, r2.ga, rfl, _, rfl, p, _, ((1 : Nat) : Int), _, rfl, rfl, SqT.of hp2, atI_nat (by rfl), _, rfl, ?_⟩
  refine ⟨_, _, _, rfl, G, _, m', .ref C.f, Ws, fn, l, vs, rfl, rfl, rfl, r2.base, .inl hl2, hd, fun H3 C3 r3 k3 => ?_⟩
  exact h _ G C3 Ws r3 rfl (kk.tr k3)
theorem sc__call : FnScope ["going", "frame", "row"] ["going", "frame", "row"] (defScope s__call) := ⟨rfl, rfl, rfl, by decide +kernel, rfl, by decide +kernel, by decide +kernel⟩
theorem g__call (T : Txt K mg w) (G_LowRun_begin : Gm P w K mg base CX0 5 (He.ga K "LowRun") "begin" ["self", "name", "args"] (sp_LowRun_begin K)) (G_RowFrame_all_worths : Gm P w K mg base CX0 1 (He.ga K "RowFrame") "all_worths" ["self", "values"] (sp_RowFrame_all_worths K)) : Gd P w K mg base CX0 6 "_call" ["going", "frame", "row"] (sp__call K) := by
  have sc := sc__call
  refine T.d__call.ok sc len3 (fun _ _ _ _ _ _ us hl => match us, hl with | [_, _, _], _ => rfl) (fun f cdv A outer s H vs Q E hr h => ?_)
  obtain ⟨x0, x1, x2, rfl, h⟩ := h
  obtain ⟨G, m, m', C, Ws, k, pa, pb, rfl, rfl, hz, ⟨x, fn, as, rfl⟩, r, hs, hd, h⟩ := h
  obtain ⟨q1, q2, q3, q4, q5⟩ := small_all hs
  obtain ⟨p, ys, rfl, hp, hys⟩ := hz.tupI
  obtain ⟨v0, r0, rfl, d0, hr0⟩ := hys.one
  obtain ⟨v1, r1, rfl, d1, hr1⟩ := hr0.one
  obtain ⟨v2, r2, rfl, d2, hr2⟩ := hr1.one
  obtain ⟨v3, r3, rfl, d3, hr3⟩ := hr2.one
  obtain rfl := d1.intI
  obtain rfl := d2.strI
  obtain ⟨pa2, as', rfl, hpa, has⟩ := d3.tupI
  obtain rfl := has.ints
  unfold deed' at hd
  dsimp only at hd
  split at hd
  rotate_left
  · cases hd
  rename_i vs hvs
  have hle : as.length ≤ 1000 := by
    have := begF_args hd
    rw [vals_len hvs] at this
    exact this
  have hlw := r.ws.len
  refine ⟨_, (pss_cons (ps_expr (pe_bm PySem.F.plainAttrs_list PySem.F.slot_list_append PySem.F.type_list_append mt_append (pe_fld (pv 0) rfl) (pa_cons (pv 1) pa_nil)))
      (pss_one (ps_expr (pe_gm (pv 0) T.cl_LowRun.c G_LowRun_begin (hr.mono (by omega)) pass0 (pa_cons (pe_ix ix_tup (pv 2) pe_int (fun _ _ => rfl)) (pa_cons (pe_gm (pv 1) T.cl_LowFrame.c (Mh.Gm.heir G_RowFrame_all_worths T.hi_LowFrame_all_worths) (hr.mono (by omega)) pass0 (pa_cons (pe_ix ix_tup (pv 2) pe_int (fun _ _ => rfl)) pa_nil)) pa_nil)))))), ?_⟩
  refine ⟨_, rfl, G.a, _, G.dx, _, _, rfl, r.ga, T.cl_LowRun.c, naG T g_wa, rfl, .inl ⟨rfl, _, SqL.of r.lw⟩, _, rfl, ?_⟩
  refine ⟨G.lw, wrefs Ws, _, rfl, rfl, r.lw, sz' _ (by unfold wrefs; rw [List.length_map]; omega), ?_⟩
  rw [← wrefs_snoc]
  obtain ⟨r1, k1⟩ := r.waits
  have f1 : upd H G.lw (.lst (wrefs (Ws ++ [C]))) C.f = some (.ins (CLF K) C.fx (ffs C m.cur)) := by rw [upd_ne (ne_of r.f r.lw (by simp))]; exact r.f
  have w1 : upd H G.lw (.lst (wrefs (Ws ++ [C]))) C.dw = some (.dK m.cur.w) := by rw [upd_ne (ne_of r.dw r.lw (by simp))]; exact r.dw
  generalize upd H G.lw (.lst (wrefs (Ws ++ [C]))) = H1 at *
  have hp1 := k1 _ _ hp
  refine ⟨_, rfl, G.a, G.dx, _, rfl, r1.ga, rfl, _, rfl, p, _, ((2 : Nat) : Int), _, rfl, rfl, SqT.of hp1, atI_nat (by rfl), ?_⟩
  refine ⟨_, rfl, C.f, C.fx, _, rfl, f1, rfl, _, rfl, p, _, ((3 : Nat) : Int), _, rfl, rfl, SqT.of hp1, atI_nat (by rfl), ?_⟩
  refine ⟨_, _, rfl, C.f, C.fx, C.dw, pa2, C.bv, C.rv, C.ev, _, _, m.cur.w, as, vs, rfl, rfl, f1, w1, k1 _ _ hpa, hvs, hle, fun H2 l s2 hl hl0 => ?_⟩
  refine ⟨_, _, _, rfl, G, _, m', .ref C.f, Ws ++ [C], fn, l, vs, rfl, rfl, rfl, r1.same s2, .inl hl, hd, fun H3 C3 r3 k3 => ?_⟩
  exact h _ G C3 (Ws ++ [C]) r3 rfl ((k1.tr (TK.same s2)).tr k3)
end
end K55

namespace K55
open PySem PyProof.Rows L2 My Ru M55
open Builtin (bitAnd bitOr)
def spK (K : PySem.W.Frag) : Rk → Sp
  | .set _ _ => sp__set K | .inp _ => sp_do_in K | .out _ => sp_do_out K | .more _ => sp_do_more K | .three _ _ _ _ => sp__three K | .imm _ _ _ _ => sp__imm K | .name _ => sp__name K | .slot _ _ => sp__slot K | .load _ _ _ => sp__load K | .store _ _ _ => sp__store K
  | .must _ _ _ _ => sp__must K | .deep _ _ _ => sp__deep K | .call _ _ _ => sp__call K | .branch _ _ _ _ _ _ _ => sp__branch K | .ret _ => sp__return K | .go _ _ => sp_do_go K | .tail _ _ => sp__tail K
def okK (k : Rk) : Rk → Prop := match k with
  | .set _ _ => fun k => ∃ x n, k = .set x n | .inp _ => fun k => ∃ x, k = .inp x | .out _ => fun k => ∃ x, k = .out x | .more _ => fun k => ∃ x, k = .more x | .three _ _ _ _ => fun k => ∃ o x a b, k = .three o x a b | .imm _ _ _ _ => fun k => ∃ o x a n, k = .imm o x a n
  | .name _ => fun k => ∃ x, k = .name x | .slot _ _ => fun k => ∃ x n, k = .slot x n | .load _ _ _ => fun k => ∃ x l b, k = .load x l b | .store _ _ _ => fun k => ∃ x l b, k = .store x l b
  | .must _ _ _ _ => fun k => ∃ o a b s, k = .must o a b s | .deep _ _ _ => fun k => ∃ x a n, k = .deep x a n | .call _ _ _ => fun k => ∃ x f as, k = .call x f as | .branch _ _ _ _ _ _ _ => fun k => ∃ o a b g as g2 as2, k = .branch o a b g as g2 as2
  | .ret _ => fun k => ∃ x, k = .ret x | .go _ _ => fun k => ∃ g as, k = .go g as | .tail _ _ => fun k => ∃ f as, k = .tail f as
theorem spK_eq (K : PySem.W.Frag) (k : Rk) : spK K k = spDeed K (okK k) := by cases k <;> rfl
theorem okK_self (k : Rk) : okK k k := by cases k <;> exact ⟨_, by first | rfl | exact ⟨_, by first | rfl | exact ⟨_, by first | rfl | exact ⟨_, by first | rfl | exact ⟨_, _, _, rfl⟩⟩⟩⟩⟩
def Dd (K : PySem.W.Frag) (f : Addr) (sp : Sp) : Prop := ∃ k : Rk, f = He.ga K (ddN k) ∧ sp = spK K k
section
variable {P : Program} {w : World} {K : PySem.W.Frag} {mg : Str → Option Value} {base : Heap}
theorem sc_LowRun_step : FnScope ["self", "row", "deed"] ["self"] (defScope s_LowRun_step) := ⟨rfl, rfl, rfl, by decide +kernel, rfl, by decide +kernel, by decide +kernel⟩
theorem g_LowRun_step (T : Txt K mg w) (G__set : Gd P w K mg base CX0 1 "_set" ["going", "frame", "row"] (sp__set K)) (G__name : Gd P w K mg base CX0 1 "_name" ["going", "frame", "row"] (sp__name K)) (G__slot : Gd P w K mg base CX0 1 "_slot" ["going", "frame", "row"] (sp__slot K)) (G__three : Gd P w K mg base CX0 5 "_three" ["going", "frame", "row"] (sp__three K)) (G__imm : Gd P w K mg base CX0 5 "_imm" ["going", "frame", "row"] (sp__imm K)) (G__load : Gd P w K mg base CX0 3 "_load" ["going", "frame", "row"] (sp__load K)) (G__store : Gd P w K mg base CX0 3 "_store" ["going", "frame", "row"] (sp__store K)) (G__must : Gd P w K mg base CX0 3 "_must" ["going", "frame", "row"] (sp__must K)) (G__deep : Gd P w K mg base CX0 2 "_deep" ["going", "frame", "row"] (sp__deep K)) (G__call : Gd P w K mg base CX0 6 "_call" ["going", "frame", "row"] (sp__call K)) (G_do_out : Gd P w K mg base CX0 1 "do_out" ["going", "frame", "row"] (sp_do_out K)) (G_do_in : Gd P w K mg base CX0 3 "do_in" ["going", "frame", "row"] (sp_do_in K)) (G_do_more : Gd P w K mg base CX0 2 "do_more" ["going", "frame", "row"] (sp_do_more K)) (G_do_go : Gd P w K mg base CX0 3 "do_go" ["going", "frame", "end"] (sp_do_go K)) (G__branch : Gd P w K mg base CX0 3 "_branch" ["going", "frame", "end"] (sp__branch K)) (G__return : Gd P w K mg base CX0 3 "_return" ["going", "frame", "end"] (sp__return K)) (G__tail : Gd P w K mg base CX0 6 "_tail" ["going", "frame", "end"] (sp__tail K)) (G_RowFrame_next_row : Gm P w K mg base CX0 1 (He.ga K "RowFrame") "next_row" ["self"] (sp_RowFrame_next_row K)) : Gm P w K mg base CX0 7 (He.ga K "LowRun") "step" ["self"] (sp_LowRun_step K) := by
  have sc := sc_LowRun_step
  refine T.d_LowRun_step.ok sc len1 (fun _ _ _ _ _ _ us hl => match us, hl with | [_], _ => rfl) (fun f cdv A outer s H vs Q E hr h => ?_)
  obtain ⟨x0, rfl, h⟩ := h
  obtain ⟨G, m, m', C, Ws, rfl, r, hst, h⟩ := h
  have HB_deed : ∀ f sp, Dd K f sp → Held P w K mg base CX0 6 f sp := by
    rintro f sp ⟨k, rfl, rfl⟩
    cases k with
    | set _ _ => exact held_of G__set (by omega) T.ga__set
    | inp _ => exact held_of G_do_in (by omega) T.ga_do_in
    | out _ => exact held_of G_do_out (by omega) T.ga_do_out
    | more _ => exact held_of G_do_more (by omega) T.ga_do_more
    | three _ _ _ _ => exact held_of G__three (by omega) T.ga__three
    | imm _ _ _ _ => exact held_of G__imm (by omega) T.ga__imm
    | name _ => exact held_of G__name (by omega) T.ga__name
    | slot _ _ => exact held_of G__slot (by omega) T.ga__slot
    | load _ _ _ => exact held_of G__load (by omega) T.ga__load
    | store _ _ _ => exact held_of G__store (by omega) T.ga__store
    | must _ _ _ _ => exact held_of G__must (by omega) T.ga__must
    | deep _ _ _ => exact held_of G__deep (by omega) T.ga__deep
    | call _ _ _ => exact held_of G__call (by omega) T.ga__call
    | branch _ _ _ _ _ _ _ => exact held_of G__branch (by omega) T.ga__branch
    | ret _ => exact held_of G__return (by omega) T.ga__return
    | go _ _ => exact held_of G_do_go (by omega) T.ga_do_go
    | tail _ _ => exact held_of G__tail (by omega) T.ga__tail
  unfold stepM deed at hst
  split at hst
  rotate_left
  · cases hst
  rename_i hsm
  refine ⟨_, (pss_cons (ps_fldaug (pv 0) pe_int in_add)
      (pss_cons (ps_set (i := 1) sc.nd rfl (Or.inl rfl) (pe_gm0 (pe_fld (pv 0) rfl) T.cl_LowFrame.c (Mh.Gm.heir G_RowFrame_next_row T.hi_LowFrame_next_row) (hr.mono (by omega)) pass0))
      (pss_cons (ps_set (i := 2) sc.nd rfl (Or.inl rfl) (pe_ix ix_kdict (pe_gref T.c_DEEDS) (pe_ix ix_tup (pv 1) pe_int (fun _ _ => rfl)) (fun _ _ => rfl)))
      (pss_one (ps_expr (Ru.pe_callV (i := 2) HB_deed (hr.mono (by omega)) rfl (Or.inl rfl) pass0 (pa_cons (pv 0) (pa_cons (pe_fld (pv 0) rfl) (pa_cons (pv 1) pa_nil))))))))), ?_⟩
  refine ⟨_, rfl, G.a, _, G.dx, _, _, rfl, r.ga, T.cl_LowRun.c, naG T g_st, rfl, _, _, rfl, rfl, G.dx, _, r.ga, (by rw [gf_len]; decide), ?_⟩
  have r1 := r.setG (m' := { m with st := m.st + 1 }) (fs := putF "steps" (.int ((m.st : Int) + 1)) (gfs G m (.ref C.f))) (ev := G.ev) rfl rfl r.en
  have k1 : TK H (upd H G.a (.ins (CLR K) G.dx (putF "steps" (.int ((m.st : Int) + 1)) (gfs G m (.ref C.f))))) := tk_upd r.ga (by simp)
  generalize upd H G.a (.ins (CLR K) G.dx (putF "steps" (.int ((m.st : Int) + 1)) (gfs G m (.ref C.f)))) = H1 at *
  refine ⟨_, rfl, G.a, _, G.dx, _, _, rfl, r1.ga, T.cl_LowRun.c, naG T g_fr, rfl, ?_⟩
  refine ⟨C.f, C.fx, _, rfl, r1.f, rfl, ?_⟩
  refine ⟨_, rfl, C.f, C.fx, C.dw, C.bv, C.rv, C.ev, m.cur.at_, _, m.cur.rows, m.cur.er, rfl, r1.f, .inr ⟨_, _, rfl⟩, r1.cf.rv, r1.cf.ev, fun v hv => ?_⟩
  have hv' : DT (upd H1 C.f (.ins (CLF K) C.fx (ffx C.bv C.dw C.rv C.ev (.int ((m.cur.at_ + 1 : Nat) : Int)) [("first", .int (m.cur.first : Int)), ("slots", .ref C.fs)]))) v (rwD (nextR m.cur)) := hv
  have kf : TK H1 (upd H1 C.f (.ins (CLF K) C.fx (ffx C.bv C.dw C.rv C.ev (.int ((m.cur.at_ + 1 : Nat) : Int)) [("first", .int (m.cur.first : Int)), ("slots", .ref C.fs)]))) := tk_upd r1.f (by simp)
  obtain ⟨r2, k2⟩ := r1.setF (H' := upd H1 C.f (.ins (CLF K) C.fx (ffx C.bv C.dw C.rv C.ev (.int ((m.cur.at_ + 1 : Nat) : Int)) [("first", .int (m.cur.first : Int)), ("slots", .ref C.fs)]))) (as := [C.f]) (C' := C) (f' := { m.cur with at_ := m.cur.at_ + 1 })
    (ButL.put (by simp)) (fun p hp => .inl (by simpa using hp)) rfl upd_same (by rw [upd_ne (ne_of r1.dw r1.f (by simp))]; exact r1.dw) (by rw [upd_ne (ne_of r1.fs r1.f (by simp))]; exact r1.fs) ⟨r1.cf.bv.keep kf, r1.cf.rv.keep kf, r1.cf.ev.keep kf⟩
  clear hv kf
  generalize upd H1 C.f (.ins (CLF K) C.fx (ffx C.bv C.dw C.rv C.ev (.int ((m.cur.at_ + 1 : Nat) : Int)) [("first", .int (m.cur.first : Int)), ("slots", .ref C.fs)])) = H2 at *
  generalize nextR m.cur = rr at *
  obtain ⟨kk, pa, pb⟩ := rr
  obtain ⟨p, ys, rfl, hp, hys⟩ := id hv'.tupI
  obtain ⟨v0, r0, rfl, d0, hr0⟩ := hys.one
  obtain rfl := d0.strI
  refine ⟨_, rfl, p, _, ((0 : Nat) : Int), _, rfl, rfl, SqT.of hp, atI_nat (by rfl), _, _, _, rfl, rfl, T.dd kk, ?_⟩
  refine ⟨_, _, rfl, ⟨kk, rfl, rfl⟩, _, rfl, _, rfl, G.a, _, G.dx, _, _, rfl, r2.ga, T.cl_LowRun.c, naG T g_fr, rfl, _, rfl, ?_⟩
  rw [spK_eq]
  refine ⟨_, _, _, rfl, G, _, m', C, Ws, kk, pa, pb, rfl, rfl, hv', okK_self kk, r2, hsm, hst, fun H3 G3 C3 Ws3 r3 e3 k3 => ?_⟩
  exact h H3 G3 C3 Ws3 r3 e3 ((k1.tr k2).tr k3)
end
end K55

namespace K55
open PySem PyProof.Rows L2 My Ru M55
open Builtin (bitAnd bitOr)
theorem EnOk.isN {H : Hp} {v : V} {e : Option PyData} (h : EnOk H v e) : decide (v = V.non) = e.isNone := by
  rcases h with ⟨rfl, rfl⟩ | ⟨d, rfl, d'⟩
  · rfl
  · exact decide_eq_false (fun z => by subst z; cases d')
section
variable {P : Program} {w : World} {K : PySem.W.Frag} {mg : Str → Option Value} {base : Heap}
theorem sc_run_to_end : FnScope ["going", "most"] ["going", "most"] (defScope s_run_to_end) := ⟨rfl, rfl, rfl, by decide +kernel, rfl, by decide +kernel, by decide +kernel⟩
theorem g_run_to_end (T : Txt K mg w) (G_LowRun_step : Gm P w K mg base CX0 7 (He.ga K "LowRun") "step" ["self"] (sp_LowRun_step K)) : Gd P w K mg base CX0 8 "run_to_end" ["going", "most"] (sp_run_to_end K) := by
  have sc := sc_run_to_end
  refine T.d_run_to_end.ok sc len2 (fun _ _ _ _ _ _ us hl => match us, hl with | [_, _], _ => rfl) (fun f cdv A outer s H vs Q E hr h => ?_)
  obtain ⟨x0, x1, rfl, h⟩ := h
  obtain ⟨G, m, m', C, Ws, most, n, rfl, rfl, r, hrun, h⟩ := h
  refine ⟨_, (pss_cons (ps_while PassesOwn.never (pt_cmpR op_isN (pe_fld (pv 0) rfl) pe_non (nomark _)) (pss_one (ps_if (pt_cmpR op_ge (pe_fld (pv 0) rfl) (pv 1) (nomark _)) (pss_one (ps_fld (pv 0) (pe_tup (pa_cons pe_str pa_nil)) rfl)) (pss_one (ps_expr (pe_gm0 (pv 0) T.cl_LowRun.c G_LowRun_step (hr.mono (by omega)) pass0))))))
      (pss_one (ps_ret (pe_tup (pa_cons (pe_callTy call_tuple_of (by rfl) T.n_tuple (by decide +kernel) (pa_cons (pe_fld (pv 0) rfl) pa_nil)) (pa_cons (pe_fld (pv 0) rfl) (pa_cons (pe_fld (pv 0) rfl) pa_nil))))))), ?_⟩
  refine ⟨fun k σ H' => σ = [some (.ref G.a), some (.int (most : Int))] ∧ ∃ (G1 : GA) (m1 : Mm) (C1 : FA) (Ws1 : List FA), G1.a = G.a ∧ R K H' G1 m1 C1 Ws1 ∧ TK H H' ∧ ((m1.en ≠ none ∧ m1 = m') ∨ runM most k m1 = some m'), ⟨n, rfl, G, m, C, Ws, rfl, r, TK.rf, .inr hrun⟩, ?_⟩
  rintro k σ H1 ⟨rfl, G1, m1, C1, Ws1, eA, r1, k1, hm⟩
  rw [← eA] at *
  refine ⟨_, rfl, G1.a, _, G1.dx, _, _, rfl, r1.ga, T.cl_LowRun.c, naG T g_en, rfl, rfl, decide (G1.ev = V.non), rfl, ?_⟩
  rw [r1.en.isN]
  have fin : m1.en ≠ none → m1 = m' → _ := fun e1 e2 => (⟨e1, e2⟩ : m1.en ≠ none ∧ m1 = m')
  cases hen : m1.en with
  | some d =>
    have em : m1 = m' := by
      rcases hm with ⟨_, e⟩ | e
      · exact e
      · cases k with
        | zero => cases e
        | succ k =>
          unfold runM at e
          rw [hen] at e
          injection e
    subst em
    refine if_false_of rfl ?_
    refine ⟨_, rfl, G1.a, _, G1.dx, _, _, rfl, r1.ga, T.cl_LowRun.c, naG T g_ou, rfl, G1.lo, _, rfl, Or.inl ⟨SqL.of r1.lo, fun l1 f1 => ?_⟩⟩
    have s1 := same_new (o := .tup m1.out) f1
    refine ⟨_, rfl, G1.a, _, G1.dx, _, _, rfl, s1 _ _ r1.ga, T.cl_LowRun.c, naG T g_en, rfl, ?_⟩
    refine ⟨_, rfl, G1.a, _, G1.dx, _, _, rfl, s1 _ _ r1.ga, T.cl_LowRun.c, naG T g_st, rfl, (by show 3 ≤ sizeLine; decide), fun t ht => ?_⟩
    have s2 := Same.tr s1 (same_new (o := .tup [.ref l1, G1.ev, .int (m1.st : Int)]) ht)
    obtain ⟨d', ed, dd⟩ : ∃ d', m1.en = some d' ∧ DT H1 G1.ev d' := by
      rcases r1.en with ⟨e, _⟩ | e
      · rw [hen] at e; cases e
      · exact e
    exact h _ t ⟨l1, G1.ev, d', upd_same, same_new ht _ _ upd_same, ed, dd.keep (TK.same s2)⟩ (k1.tr (TK.same s2))
  | none =>
    rcases hm with ⟨e, _⟩ | e
    · exact absurd hen e
    cases k with
    | zero => cases e
    | succ k =>
    unfold runM at e
    rw [hen] at e
    dsimp only at e
    refine if_true_of rfl ⟨fun σ H' => σ = [some (.ref G1.a), some (.int (most : Int))] ∧ ∃ (G2 : GA) (m2 : Mm) (C2 : FA) (Ws2 : List FA), G2.a = G1.a ∧ R K H' G2 m2 C2 Ws2 ∧ TK H H' ∧ ((m2.en ≠ none ∧ m2 = m') ∨ runM most k m2 = some m'), fun σ' H' p => ⟨k, Nat.lt_succ_self k, p⟩, ?_⟩
    refine ⟨_, rfl, G1.a, _, G1.dx, _, _, rfl, r1.ga, T.cl_LowRun.c, naG T g_st, rfl, _, rfl, _, _, rfl, rfl, _, rfl, ?_⟩
    by_cases c : most ≤ m1.st
    · rw [if_pos c] at e
      injection e with e
      refine if_true_of (decide_eq_true (by omega)) ?_
      refine ⟨(by show 1 ≤ sizeLine; decide), fun t ht => ?_⟩
      refine ⟨_, rfl, G1.a, _, G1.dx, _, rfl, same_new ht _ _ r1.ga, T.cl_LowRun.c, naG T g_en, (by rw [gf_len]; decide), ?_⟩
      have q := r1.end_ (vs := [.str "on"]) (ds := [.str "on"]) (.cons (.str _) .nil) ht
      exact ⟨rfl, { G1 with ev := .ref t }, _, C1, Ws1, rfl, q.1, k1.tr q.2, .inl ⟨by simp, e⟩⟩
    · rw [if_neg c] at e
      refine if_false_of (decide_eq_false (by omega)) ?_
      split at e
      rotate_left
      · cases e
      rename_i m2 hst
      refine ⟨_, rfl, G1.a, G1.dx, _, rfl, r1.ga, rfl, ?_⟩
      refine ⟨_, rfl, G1, m1, m2, C1, Ws1, rfl, r1, hst, fun H2 G2 C2 Ws2 r2 e2 k2 => ?_⟩
      exact ⟨rfl, G2, m2, C2, Ws2, e2, r2, k1.tr k2, .inr e⟩
theorem sc_run_low : FnScope ["units", "inputs", "limit", "most", "going"] ["units", "inputs", "limit", "most"] (defScope s_run_low) := ⟨rfl, rfl, rfl, by decide +kernel, rfl, by decide +kernel, by decide +kernel⟩
theorem g_run_low (T : Txt K mg w) (G_LowRun___init__ : Gm P w K mg base CX0 3 (He.ga K "LowRun") "__init__" ["self", "units", "inputs", "limit"] (sp_LowRun___init__ K)) (G_LowRun_begin : Gm P w K mg base CX0 5 (He.ga K "LowRun") "begin" ["self", "name", "args"] (sp_LowRun_begin K)) (G_run_to_end : Gd P w K mg base CX0 8 "run_to_end" ["going", "most"] (sp_run_to_end K)) : Gd P w K mg base CX0 9 "run_low" ["units", "inputs", "limit", "most"] (sp_run_low K) := by
  have sc := sc_run_low
  refine T.d_run_low.ok sc len4 (fun _ _ _ _ _ _ us hl => match us, hl with | [_, _, _, _], _ => rfl) (fun f cdv A outer s H vs Q E hr h => ?_)
  obtain ⟨x0, x1, x2, x3, rfl, h⟩ := h
  obtain ⟨lu, li, lim, most, uvs, inp, us, m', rfl, rfl, rfl, rfl, hlu, hli, hne, hus, hnd, hfl, hth, htb, hrun, h⟩ := h
  unfold runL at hrun
  split at hrun
  rotate_left
  · cases hrun
  rename_i m1 hb
  refine ⟨_, (pss_cons (ps_set (i := 4) sc.nd rfl (Or.inl rfl) (pe_mkG G_LowRun___init__ T.mk_LowRun T.cl_LowRun.g (hr.mono (by omega)) pass0 (pa_cons (pv 0) (pa_cons (pv 1) (pa_cons (pv 2) pa_nil)))))
      (pss_cons (ps_expr (pe_gm (pv 4) T.cl_LowRun.c G_LowRun_begin (hr.mono (by omega)) pass0 (pa_cons pe_str (pa_cons (pe_tup (pa_cons pe_int pa_nil)) pa_nil))))
      (pss_one (ps_ret (pe_g G_run_to_end (hr.mono (by omega)) pass0 (pa_cons (pv 4) (pa_cons (pv 3) pa_nil))))))), ?_⟩
  refine ⟨_, rfl, _, rfl, _, rfl, fun a dx ha hx nd => ?_⟩
  have sA : Same H (upd (upd H dx (.own a)) a (.ins (CLR K) dx [])) := Same.tr (same_new hx) (same_new (by rw [upd_ne nd.symm]; exact ha))
  refine ⟨_, _, _, _, rfl, a, dx, lu, li, lim, uvs, inp, us, rfl, rfl, rfl, rfl, upd_same, sA _ _ hlu, sA _ _ hli, hne, hus.keep (TK.same sA), hnd, hfl, hth, htb, fun H1 G eA rb k1 => ⟨rfl, ?_⟩⟩
  subst eA
  refine ⟨_, rfl, G.a, G.dx, _, rfl, rb.ga, rfl, (by show 1 ≤ sizeLine; decide), fun t ht => ?_⟩
  have s2 := same_new (o := .tup [V.int 1]) ht
  refine ⟨_, _, _, rfl, G, _, m1, .non, [], "main", t, [V.int 1], rfl, rfl, rfl, rb.same s2, .inr upd_same, hb, fun H3 C3 r3 k3 => ?_⟩
  refine ⟨_, rfl, _, rfl, ?_⟩
  refine ⟨_, _, rfl, G, m1, m', C3, [], most, 60, rfl, rfl, r3, hrun, fun H4 r hr k4 => ?_⟩
  exact h H4 r hr ((((TK.same sA).tr k1).tr (TK.same s2)).tr (k3.tr k4))
end
end K55

namespace K55
open PySem PyProof.Rows L2 My Ru M55
open Builtin (bitAnd bitOr)
def sp__law_cell_at (K : PySem.W.Frag) : Sp := sp2 fun a b H Q _ => ∃ (l : Addr) (ns : List Int) (k : Int), a = .ref l ∧ b = .int k ∧ SqL K H l (ns.map V.int) ∧ 0 ≤ k ∧ k < 2 ^ 62 ∧ ∀ v : Int, Q (.int v) H
def sp__law_draw (K : PySem.W.Frag) : Sp := sp3 fun x y z H Q _ => ∃ c k b : Int, x = .int c ∧ y = .int k ∧ z = .int b ∧ (-(2 ^ 63) < c ∧ c < 2 ^ 63) ∧ 0 ≤ k ∧ k < 2 ^ 62 ∧ 0 < b ∧ ∀ (r : Int) (H' : Hp), 0 ≤ r → r < b → Same H H' → Q (.int r) H'
def sp__law_number (K : PySem.W.Frag) : Sp := sp3 fun x y z H Q _ => ∃ c k b : Int, x = .int c ∧ y = .int k ∧ z = .int b ∧ 0 ≤ k ∧ k ≤ 1000 ∧ 0 < b ∧ ∀ (r : Int) (H' : Hp), 0 ≤ r → r < b → Same H H' → Q (.int r) H'
def sp__law_next (K : PySem.W.Frag) : Sp := sp2 fun x y H Q _ => ∃ (d s : Addr) (ns : List Int) (n b : Int), x = .ref d ∧ y = .int b ∧ H d = some (.lst [.ref s, .int 0, .int n]) ∧ H s = some (.lst (ns.map V.int)) ∧ 0 ≤ n ∧ n ≤ 1000000 ∧ 0 < b ∧
  ∀ (r : Int) (H' : Hp), 0 ≤ r → r < b → ButL [d] H H' → H' d = some (.lst [.ref s, .int 0, .int (n + 1)]) → Q (.int r) H'
def sp__law_pick (K : PySem.W.Frag) : Sp := sp2 fun x y H Q _ => ∃ (d s : Addr) (ns : List Int) (n : Int) (t : Addr) (xs : List V), x = .ref d ∧ y = .ref t ∧ H d = some (.lst [.ref s, .int 0, .int n]) ∧ H s = some (.lst (ns.map V.int)) ∧ 0 ≤ n ∧ n ≤ 1000000 ∧ H t = some (.tup xs) ∧ xs ≠ [] ∧
  ∀ (v : V) (H' : Hp), v ∈ xs → ButL [d] H H' → H' d = some (.lst [.ref s, .int 0, .int (n + 1)]) → Q v H'
theorem ite2 {c : Prop} [Decidable c] {A B : Prop} (h1 : c → A) (h2 : ¬ c → B) : if decide c = true then A else B := by
  by_cases h : c
  · rw [decide_eq_true h, if_pos rfl]; exact h1 h
  · rw [decide_eq_false h, if_neg Bool.false_ne_true]; exact h2 h
/-- the size of a line at a place, by a list of long ones -/
theorem cut_ints (ns : List Int) (a b : Option Int) : ∃ ms : List Int, cutV (ns.map V.int) a b = ms.map V.int := by
  unfold cutV
  rw [← List.map_drop, ← List.map_take]
  exact ⟨_, rfl⟩
/-! what rows give and use -/
def gvI : Rk → Option (Nat × Int)
  | .set x _ => some (1, x) | .inp x => some (1, x) | .more x => some (1, x) | .three _ x _ _ => some (2, x) | .imm _ x _ _ => some (2, x) | .name x => some (1, x) | .slot x _ => some (1, x) | .load x _ _ => some (1, x) | .deep x _ _ => some (1, x) | .call x _ _ => some (1, x)
  | _ => none
def okG : Rk → Bool
  | .must _ _ _ _ => false | .branch _ _ _ _ _ _ _ => false | .ret _ => false | .go _ _ => false | .tail _ _ => false | _ => true
def gvV (k : Rk) : V := match gvI k with | some (_, x) => .int x | none => .non
theorem Txt.gv {K : PySem.W.Frag} {mg : Str → Option Value} {w : World} (T : Txt K mg w) (k : Rk) (h : okG k = true) : (∃ i x, gvI k = some (i, x) ∧ KDct K w (He.ga K "GIVEN") (rkN k) (.int (i : Int))) ∨ (gvI k = none ∧ PySem.W.nsIn K (He.ga K "GIVEN") (rkN k) = some none) := by
  cases k with
  | set _ _ => exact .inl ⟨_, _, rfl, T.gv_set⟩
  | inp _ => exact .inl ⟨_, _, rfl, T.gv_in⟩
  | more _ => exact .inl ⟨_, _, rfl, T.gv_more⟩
  | three _ _ _ _ => exact .inl ⟨_, _, rfl, T.gv_three⟩
  | imm _ _ _ _ => exact .inl ⟨_, _, rfl, T.gv_imm⟩
  | name _ => exact .inl ⟨_, _, rfl, T.gv_name⟩
  | slot _ _ => exact .inl ⟨_, _, rfl, T.gv_slot⟩
  | load _ _ _ => exact .inl ⟨_, _, rfl, T.gv_load⟩
  | deep _ _ _ => exact .inl ⟨_, _, rfl, T.gv_deep⟩
  | call _ _ _ => exact .inl ⟨_, _, rfl, T.gv_call⟩
  | store _ _ _ => exact .inr ⟨rfl, T.gn_store⟩
  | out _ => exact .inr ⟨rfl, T.gn_out⟩
  | must _ _ _ _ => cases h
  | branch _ _ _ _ _ _ _ => cases h
  | ret _ => cases h
  | go _ _ => cases h
  | tail _ _ => cases h
def rwL (r : Rw) : List PyData := .str (rkN r.k) :: (rkD r.k ++ if bare r.k = true then [] else [plD r])
theorem gv_at {r : Rw} {i : Nat} {x : Int} (h : gvI r.k = some (i, x)) : (rwL r)[i]? = some (.int x) := by
  obtain ⟨k, pa, pb⟩ := r
  cases k <;> first | (injection h with h; injection h with h1 h2; subst h1 h2; rfl) | cases h
def sp_low_gives (K : PySem.W.Frag) : Sp := sp1 fun x H Q _ => ∃ (k : Rk) (pa pb : Int), DT H x (rwD ⟨k, pa, pb⟩) ∧ okG k = true ∧ Q (gvV k) H
def realI (ns : List Int) : List Int := ns.filter fun n => decide (n ≠ -1)
def sp__real (K : PySem.W.Frag) : Sp := sp1 fun x H Q _ => ∃ (p : Addr) (ns : List Int), x = .ref p ∧ (H p = some (.lst (ns.map V.int)) ∨ H p = some (.tup (ns.map V.int))) ∧ ns.length ≤ 1000 ∧ ∀ (H' : Hp) (t : Addr), Same H H' → H' t = some (.tup ((realI ns).map V.int)) → Q (.ref t) H'
def usK : Rk → Option (List Int)
  | .call _ _ as => some as | .store x (.at_ y) _ => some [x, y] | .store x _ _ => some [x] | .load _ (.at_ y) _ => some [y] | .load _ _ _ => some [] | _ => none
def sp_low_uses (K : PySem.W.Frag) : Sp := sp1 fun x H Q _ => ∃ (k : Rk) (pa pb : Int) (us : List Int), DT H x (rwD ⟨k, pa, pb⟩) ∧ usK k = some us ∧ us.length ≤ 1000 ∧ ∀ (H' : Hp) (t : Addr), Same H H' → H' t = some (.tup ((realI us).map V.int)) → Q (.ref t) H'
def sp_low_end_uses (K : PySem.W.Frag) : Sp := sp1 fun x H Q _ => ∃ (o : Nat) (a b : Int) (g : Nat) (as : List Int) (g2 : Nat) (as2 : List Int) (pa pb : Int), DT H x (rwD ⟨.branch o a b g as g2 as2, pa, pb⟩) ∧ as.length + as2.length ≤ 900 ∧
  ∀ (H' : Hp) (t : Addr), Same H H' → H' t = some (.tup ((realI (a :: b :: (as ++ as2))).map V.int)) → Q (.ref t) H'
theorem real_take {ns : List Int} {i : Nat} {n : Int} (h : ns[i]? = some n) : realI (ns.take (i + 1)) = realI (ns.take i) ++ (if n = -1 then [] else [n]) := by
  unfold realI
  rw [take_snoc h, List.filter_append]
  by_cases c : n = -1
  · rw [if_pos c]; simp [c]
  · rw [if_neg c]; simp [c]
section
variable {P : Program} {w : World} {K : PySem.W.Frag} {mg : Str → Option Value} {base : Heap}
theorem sc__law_cell_at : FnScope ["script", "k"] ["script", "k"] (defScope s__law_cell_at) := ⟨rfl, rfl, rfl, by decide +kernel, rfl, by decide +kernel, by decide +kernel⟩
theorem g__law_cell_at (T : Txt K mg w)  : Gd P w K mg base CX0 1 "_law_cell_at" ["script", "k"] (sp__law_cell_at K) := by
  have sc := sc__law_cell_at
  refine T.d__law_cell_at.ok sc len2 (fun _ _ _ _ _ _ us hl => match us, hl with | [_, _], _ => rfl) (fun f cdv A outer s H vs Q E hr h => ?_)
  obtain ⟨x0, x1, rfl, h⟩ := h
  obtain ⟨a, ns, k, rfl, rfl, hS, hk0, hk1, h⟩ := h
  refine ⟨_, (pss_cons (ps_if (pt_cmpR op_lt (pv 1) (pe_callB call_len_seq (by rfl) T.n_len PySem.boot_len (pa_cons (pv 0) pa_nil)) (nomark _)) (pss_one (ps_ret (pe_ix ix_list (pv 0) (pv 1) (fun _ _ => rfl)))) pss_nil)
      (pss_one (ps_ret pe_int))), ?_⟩
  refine ⟨_, rfl, _, rfl, a, ns.map V.int, rfl, Or.inl hS, _, _, rfl, rfl, _, rfl, ?_⟩
  by_cases c : k < ((ns.map V.int).length : Int)
  · refine if_true_of (decide_eq_true c) ?_
    have hl : k.toNat < ns.length := by rw [List.length_map] at c; omega
    refine ⟨_, rfl, _, rfl, a, ns.map V.int, k, V.int ns[k.toNat], rfl, rfl, hS, at_of (j := k.toNat) (by omega) (by rw [List.getElem?_map, List.getElem?_eq_getElem hl] <;> rfl), h _⟩
  · refine if_false_of (decide_eq_false c) ?_
    exact h 0
theorem sc__law_draw : FnScope ["cell", "k", "bound", "primes"] ["cell", "k", "bound"] (defScope s__law_draw) := ⟨rfl, rfl, rfl, by decide +kernel, rfl, by decide +kernel, by decide +kernel⟩
theorem g__law_draw (T : Txt K mg w)  : Gd P w K mg base CX0 1 "_law_draw" ["cell", "k", "bound"] (sp__law_draw K) := by
  have sc := sc__law_draw
  refine T.d__law_draw.ok sc len3 (fun _ _ _ _ _ _ us hl => match us, hl with | [_, _, _], _ => rfl) (fun f cdv A outer s H vs Q E hr h => ?_)
  obtain ⟨x0, x1, x2, rfl, h⟩ := h
  obtain ⟨c, k, b, rfl, rfl, rfl, hc, hk0, hk1, hb, h⟩ := h
  refine ⟨_, (pss_cons (ps_set (i := 3) sc.nd rfl (Or.inl rfl) (pe_tup (pa_cons pe_int (pa_cons pe_int (pa_cons pe_int (pa_cons pe_int (pa_cons pe_int (pa_cons pe_int (pa_cons pe_int (pa_cons pe_int (pa_cons pe_int (pa_cons pe_int (pa_cons pe_int (pa_cons pe_int (pa_cons pe_int (pa_cons pe_int (pa_cons pe_int (pa_cons pe_int pa_nil))))))))))))))))))
      (pss_one (ps_ret (pe_op op_mod (pe_op op_mod (pe_callTy call_int1 (by rfl) T.n_int (by decide +kernel) (pa_cons (pe_op op_add (pe_op op_mul (pv 0) pe_int) (pe_op op_mul (pv 1) pe_int)) pa_nil)) (pe_ix ix_tup (pv 3) (pe_op op_mod (pe_callTy call_int1 (by rfl) T.n_int (by decide +kernel) (pa_cons (pv 1) pa_nil)) pe_int) (fun _ _ => rfl))) (pv 2))))), ?_⟩
  refine ⟨(by show 16 ≤ sizeLine; decide), fun p hp => ?_⟩
  refine ⟨_, rfl, _, _, rfl, rfl, Or.inr ⟨by decide, by decide⟩, _, rfl, _, _, rfl, rfl, Or.inr ⟨by decide, by decide⟩, _, _, rfl, rfl, Or.inl ⟨_, rfl, ?_⟩⟩
  refine ⟨_, rfl, _, rfl, Or.inl ⟨_, rfl, ?_⟩⟩
  refine ⟨_, _, rfl, rfl, (by show (0 : Int) < 16; decide), ?_⟩
  obtain ⟨j, hj, ej⟩ : ∃ j : Nat, j < 16 ∧ k % 16 = (j : Int) := ⟨(k % 16).toNat, by omega, by omega⟩
  obtain ⟨q, hq, hq0⟩ : ∃ q : Int, ([.int 1000003, .int 1000033, .int 1000037, .int 1000039, .int 1000081, .int 1000099, .int 1000117, .int 1000121, .int 1000133, .int 1000151, .int 1000159, .int 1000171, .int 1000183, .int 1000187, .int 1000193, .int 1000199] : List V)[j]? = some (.int q) ∧ 0 < q := by
    have : ∀ j : Nat, j < 16 → ∃ q : Int, ([.int 1000003, .int 1000033, .int 1000037, .int 1000039, .int 1000081, .int 1000099, .int 1000117, .int 1000121, .int 1000133, .int 1000151, .int 1000159, .int 1000171, .int 1000183, .int 1000187, .int 1000193, .int 1000199] : List V)[j]? = some (.int q) ∧ 0 < q := by
      intro j hj
      match j, hj with
      | 0, _ | 1, _ | 2, _ | 3, _ | 4, _ | 5, _ | 6, _ | 7, _ | 8, _ | 9, _ | 10, _ | 11, _ | 12, _ | 13, _ | 14, _ | 15, _ => exact ⟨_, rfl, by decide⟩
      | n + 16, h => omega
    exact this j hj
  refine ⟨p, _, _, _, rfl, rfl, SqT.of upd_same, at_of ej hq, ?_⟩
  refine ⟨_, _, rfl, rfl, hq0, _, rfl, _, _, rfl, rfl, hb, ?_⟩
  exact h _ _ (Int.emod_nonneg _ (by omega)) (Int.emod_lt_of_pos _ hb) (fun x o e => by rw [upd_ne (ne_of_none e hp)]; exact e)
theorem sc__law_number : FnScope ["cell", "k", "bound", "power", "lap", "remains", "small"] ["cell", "k", "bound"] (defScope s__law_number) := ⟨rfl, rfl, rfl, by decide +kernel, rfl, by decide +kernel, by decide +kernel⟩
theorem g__law_number (T : Txt K mg w) (G__law_draw : Gd P w K mg base CX0 1 "_law_draw" ["cell", "k", "bound"] (sp__law_draw K)) : Gd P w K mg base CX0 2 "_law_number" ["cell", "k", "bound"] (sp__law_number K) := by
  have sc := sc__law_number
  refine T.d__law_number.ok sc len3 (fun _ _ _ _ _ _ us hl => match us, hl with | [_, _, _], _ => rfl) (fun f cdv A outer s H vs Q E hr h => ?_)
  obtain ⟨x0, x1, x2, rfl, h⟩ := h
  obtain ⟨c, k, b, rfl, rfl, rfl, hk0, hk1, hb, h⟩ := h
  refine ⟨_, (pss_cons (ps_set (i := 3) sc.nd rfl (Or.inl rfl) pe_int)
      (pss_cons (ps_for PassesOwn.never rfl (pi_range1 rfl T.n_range (pa_cons (pe_op op_mod (pe_callTy call_int1 (by rfl) T.n_int (by decide +kernel) (pa_cons (pv 1) pa_nil)) pe_int) pa_nil)) (pg_name (i := 4) sc.nd rfl (Or.inl rfl)) (pss_one (ps_set (i := 3) sc.nd rfl (Or.inl rfl) (pe_op op_mul (pv 3) pe_int))))
      (pss_cons (ps_set (i := 5) sc.nd rfl (Or.inl rfl) (pe_op op_fdivW (pe_op op_sub (pv 0) (pe_op op_pow pe_int pe_int)) (pv 3)))
      (pss_cons (ps_if (pt_cmpR op_gt (pv 5) pe_int (nomark _)) (pss_one (ps_ret (pe_op op_mod (pe_op op_mod (pe_callTy call_int1 (by rfl) T.n_int (by decide +kernel) (pa_cons (pv 5) pa_nil)) pe_int) (pv 2)))) pss_nil)
      (pss_cons (ps_set (i := 6) sc.nd rfl (Or.inl rfl) (pe_op op_mod (pe_callTy call_int1 (by rfl) T.n_int (by decide +kernel) (pa_cons (pv 0) pa_nil)) pe_int))
      (pss_one (ps_ret (pe_op op_mod (pe_g G__law_draw (hr.mono (by omega)) pass0 (pa_cons (pe_op op_mul (pe_op op_add (pv 6) (pe_op op_mul pe_int (pv 1))) (pe_op op_add (pe_op op_add (pv 6) (pe_op op_mul pe_int (pv 1))) pe_int)) (pa_cons (pe_op op_add (pe_op op_mod (pe_callTy call_int1 (by rfl) T.n_int (by decide +kernel) (pa_cons (pv 1) pa_nil)) pe_int) pe_int) (pa_cons pe_int pa_nil)))) (pv 2))))))))), ?_⟩
  refine ⟨_, rfl, Or.inl ⟨_, rfl, ?_⟩⟩
  refine ⟨_, _, rfl, rfl, (by show (0 : Int) < 24; decide), k % 24, rfl, by omega, by omega, ?_⟩
  refine for_range (n := (k % 24).toNat) (fun i σ H' => H' = H ∧ ∃ v : Option V, σ = [some (.int c), some (.int k), some (.int b), some (.int (1009 ^ i)), v, none, none]) ⟨rfl, _, rfl⟩ ?_ ?_
  · rintro i σ H' hi ⟨rfl, v, rfl⟩
    refine ⟨_, rfl, _, _, rfl, rfl, Or.inr ⟨by decide, by decide⟩, rfl, some (.int (0 + (i : Int))), ?_⟩
    show _ = ([some (.int c), some (.int k), some (.int b), some (.int (1009 ^ (i + 1))), some (.int (0 + (i : Int))), none, none] : List (Option V))
    rw [Int.pow_succ]
    all_goals rfl
  · rintro σ H' ⟨rfl, v, rfl⟩
    have hj : (k % 24).toNat < 24 := by omega
    have hp : (0 : Int) < 1009 ^ (k % 24).toNat := Int.pow_pos (by decide)
    have hpb : ((1009 : Int) ^ (k % 24).toNat).natAbs < 2 ^ 240 := by
      rw [Int.natAbs_pow]
      exact Nat.lt_of_le_of_lt (Nat.pow_le_pow_right (by decide) (show (k % 24).toNat ≤ 23 by omega)) (by decide : (1009 : Int).natAbs ^ 23 < 2 ^ 240)
    refine ⟨_, rfl, _, _, rfl, rfl, ⟨by decide, by decide, by decide⟩, _, _, rfl, rfl, _, rfl, _, _, rfl, rfl, wide_div hp hpb (by decide) (by decide), ?_⟩
    refine ⟨_, rfl, _, _, rfl, rfl, _, rfl, ?_⟩
    refine ite2 (fun _ => ?_) (fun _ => ?_)
    · refine ⟨_, rfl, Or.inl ⟨_, rfl, ?_⟩⟩
      refine ⟨_, _, rfl, rfl, (by show (0 : Int) < 1009; decide), _, rfl, _, _, rfl, rfl, hb, ?_⟩
      exact h _ _ (Int.emod_nonneg _ (by omega)) (Int.emod_lt_of_pos _ hb) (fun _ _ e => e)
    · refine ⟨_, rfl, Or.inl ⟨_, rfl, ?_⟩⟩
      refine ⟨_, _, rfl, rfl, (by show (0 : Int) < 1000003; decide), ?_⟩
      have h1 : 0 ≤ c % 1000003 := Int.emod_nonneg _ (by decide)
      have h2 : c % 1000003 < 1000003 := Int.emod_lt_of_pos _ (by decide)
      refine ⟨_, rfl, _, rfl, _, _, rfl, rfl, Or.inr ⟨by omega, by omega⟩, _, _, rfl, rfl, ?_⟩
      refine ⟨_, rfl, _, rfl, _, _, rfl, rfl, Or.inr ⟨by omega, by omega⟩, _, _, rfl, rfl, _, _, rfl, rfl, _, _, rfl, rfl, Or.inl ⟨by omega, by omega⟩, ?_⟩
      refine ⟨_, rfl, Or.inl ⟨_, rfl, ?_⟩⟩
      refine ⟨_, _, rfl, rfl, (by show (0 : Int) < 9; decide), _, _, rfl, rfl, ?_⟩
      refine ⟨_, _, _, rfl, _, _, _, rfl, rfl, rfl, ?_, by omega, by omega, by decide, fun r H1 hr0 hr1 e1 => ?_⟩
      · constructor
        · have := Int.mul_nonneg (show 0 ≤ c % 1000003 + 977 * k by omega) (show 0 ≤ c % 1000003 + 31 * k + 5 by omega); omega
        · have := Int.mul_le_mul (show c % 1000003 + 977 * k ≤ 3000003 by omega) (show c % 1000003 + 31 * k + 5 ≤ 3000003 by omega) (by omega) (by omega); omega
      refine ⟨_, rfl, _, _, rfl, rfl, hb, ?_⟩
      exact h _ _ (Int.emod_nonneg _ (by omega)) (Int.emod_lt_of_pos _ hb) e1
theorem sc__law_next : FnScope ["draw", "bound", "at", "cell"] ["draw", "bound"] (defScope s__law_next) := ⟨rfl, rfl, rfl, by decide +kernel, rfl, by decide +kernel, by decide +kernel⟩
theorem g__law_next (T : Txt K mg w) (G__law_cell_at : Gd P w K mg base CX0 1 "_law_cell_at" ["script", "k"] (sp__law_cell_at K)) (G__law_number : Gd P w K mg base CX0 2 "_law_number" ["cell", "k", "bound"] (sp__law_number K)) : Gd P w K mg base CX0 3 "_law_next" ["draw", "bound"] (sp__law_next K) := by
  have sc := sc__law_next
  refine T.d__law_next.ok sc len2 (fun _ _ _ _ _ _ us hl => match us, hl with | [_, _], _ => rfl) (fun f cdv A outer s H vs Q E hr h => ?_)
  obtain ⟨x0, x1, rfl, h⟩ := h
  obtain ⟨d, s, ns, n, b, rfl, rfl, hd, hs, hn0, hn1, hb, h⟩ := h
  refine ⟨_, (pss_cons (ps_asg (pe_op op_add (pe_ix ix_list (pv 0) pe_int (fun _ _ => rfl)) pe_int) (pg_sub (pv 0) pe_int set_list))
      (pss_cons (ps_set (i := 2) sc.nd rfl (Or.inl rfl) (pe_op op_fdiv (pe_ix ix_list (pv 0) pe_int (fun _ _ => rfl)) pe_int))
      (pss_cons (ps_set (i := 3) sc.nd rfl (Or.inl rfl) (pe_op op_add (pe_g G__law_cell_at (hr.mono (by omega)) pass0 (pa_cons (pe_ix ix_list (pv 0) pe_int (fun _ _ => rfl)) (pa_cons (pe_op op_add (pe_ix ix_list (pv 0) pe_int (fun _ _ => rfl)) (pv 2)) pa_nil))) (pe_op op_mul pe_int (pv 2))))
      (pss_one (ps_ret (pe_g G__law_number (hr.mono (by omega)) pass0 (pa_cons (pv 3) (pa_cons (pe_op op_add (pe_op op_mod (pe_callTy call_int1 (by rfl) T.n_int (by decide +kernel) (pa_cons (pe_ix ix_list (pv 0) pe_int (fun _ _ => rfl)) pa_nil)) pe_int) pe_int) (pa_cons (pv 1) pa_nil))))))))), ?_⟩
  have hds : d ≠ s := ne_of hd hs (by intro z; cases ns <;> cases z)
  refine ⟨_, rfl, d, _, _, _, rfl, rfl, SqL.of hd, at_of (j := 2) rfl rfl, _, _, rfl, rfl, _, rfl, d, _, _, 2, rfl, rfl, hd, rfl, ?_⟩
  show ∃ v, _ ∧ _
  refine ⟨_, rfl, d, _, _, _, rfl, rfl, SqL.of upd_same, at_of (j := 2) rfl rfl, _, _, rfl, rfl, ⟨by decide, by decide⟩, ?_⟩
  refine ⟨_, rfl, d, _, _, _, rfl, rfl, SqL.of upd_same, at_of (j := 0) rfl rfl, _, rfl, d, _, _, _, rfl, rfl, SqL.of upd_same, at_of (j := 1) rfl rfl, _, rfl, _, _, rfl, rfl, ?_⟩
  refine ⟨_, _, rfl, _, ns, _, rfl, rfl, SqL.of (by rw [upd_ne hds.symm]; exact hs), by omega, by omega, fun v => ?_⟩
  refine ⟨_, rfl, _, _, rfl, rfl, Or.inr ⟨by omega, by omega⟩, _, _, rfl, rfl, ?_⟩
  refine ⟨_, rfl, _, rfl, d, _, _, _, rfl, rfl, SqL.of upd_same, at_of (j := 2) rfl rfl, Or.inl ⟨_, rfl, ?_⟩⟩
  refine ⟨_, _, rfl, rfl, (by show (0 : Int) < 12; decide), _, _, rfl, rfl, _, rfl, ?_⟩
  refine ⟨_, _, _, rfl, _, _, _, rfl, rfl, rfl, by omega, by omega, hb, fun r H1 h0 h1 e1 => ?_⟩
  refine h r H1 h0 h1 (fun x o e hx => e1 _ _ (by rw [upd_ne (fun z => hx (by simp [z]))]; exact e)) ?_
  exact e1 _ _ upd_same
theorem sc__law_pick : FnScope ["draw", "things"] ["draw", "things"] (defScope s__law_pick) := ⟨rfl, rfl, rfl, by decide +kernel, rfl, by decide +kernel, by decide +kernel⟩
theorem g__law_pick (T : Txt K mg w) (G__law_next : Gd P w K mg base CX0 3 "_law_next" ["draw", "bound"] (sp__law_next K)) : Gd P w K mg base CX0 4 "_law_pick" ["draw", "things"] (sp__law_pick K) := by
  have sc := sc__law_pick
  refine T.d__law_pick.ok sc len2 (fun _ _ _ _ _ _ us hl => match us, hl with | [_, _], _ => rfl) (fun f cdv A outer s H vs Q E hr h => ?_)
  obtain ⟨x0, x1, rfl, h⟩ := h
  obtain ⟨d, s, ns, n, t, xs, rfl, rfl, hd, hs, hn0, hn1, ht, hx, h⟩ := h
  refine ⟨_, (pss_one (ps_ret (pe_ix ix_tup (pv 1) (pe_g G__law_next (hr.mono (by omega)) pass0 (pa_cons (pv 0) (pa_cons (pe_callB call_len_seq (by rfl) T.n_len PySem.boot_len (pa_cons (pv 1) pa_nil)) pa_nil))) (fun _ _ => rfl)))), ?_⟩
  have hl : 0 < xs.length := List.length_pos_iff.mpr hx
  have hdt : t ≠ d := ne_of ht hd (by intro z; cases z)
  refine ⟨_, rfl, _, rfl, _, rfl, t, xs, rfl, Or.inr (SqT.of ht), ?_⟩
  refine ⟨_, _, rfl, d, s, ns, n, _, rfl, rfl, hd, hs, hn0, hn1, by omega, fun r H1 h0 h1 e1 e2 => ?_⟩
  have hj : r.toNat < xs.length := by omega
  refine ⟨t, xs, r, xs[r.toNat], rfl, rfl, SqT.of (e1 _ _ ht (by simpa using hdt)), at_of (j := r.toNat) (by omega) (List.getElem?_eq_getElem hj), ?_⟩
  exact h _ H1 (List.getElem_mem hj) e1 e2
theorem sc_low_gives : FnScope ["row"] ["row"] (defScope s_low_gives) := ⟨rfl, rfl, rfl, by decide +kernel, rfl, by decide +kernel, by decide +kernel⟩
theorem g_low_gives (T : Txt K mg w)  : Gd P w K mg base CX0 1 "low_gives" ["row"] (sp_low_gives K) := by
  have sc := sc_low_gives
  refine T.d_low_gives.ok sc len1 (fun _ _ _ _ _ _ us hl => match us, hl with | [_], _ => rfl) (fun f cdv A outer s H vs Q E hr h => ?_)
  obtain ⟨x0, rfl, h⟩ := h
  obtain ⟨k, pa, pb, hz, hk, h⟩ := h
  obtain ⟨esG, nG, kd_GIVEN⟩ := T.k_GIVEN
  have hz' : DT H x0 (.tuple (rwL ⟨k, pa, pb⟩)) := hz
  obtain ⟨p, ys, rfl, hp, hys⟩ := hz'.tupI
  refine ⟨_, (pss_one (ps_ret (pe_ifExp (pt_cmpR (op_in_kd kd_GIVEN) (pe_ix ix_tup (pv 0) pe_int (fun _ _ => rfl)) (pe_gref T.c_GIVEN) rfl) (pe_ix ix_tup (pv 0) (pe_ix ix_kdict (pe_gref T.c_GIVEN) (pe_ix ix_tup (pv 0) pe_int (fun _ _ => rfl)) (fun _ _ => rfl)) (fun _ _ => rfl)) pe_non))), ?_⟩
  obtain ⟨v0, r0, rfl, d0, hr0⟩ := id hys.one
  obtain rfl := d0.strI
  rcases T.gv k hk with ⟨i, x, e1, e2⟩ | ⟨e1, e2⟩
  · obtain ⟨r, hn⟩ := kdct_ns e2
    obtain ⟨v, f1, f2⟩ := hys.get (gv_at (r := ⟨k, pa, pb⟩) e1)
    obtain rfl := f2.intI
    refine ⟨_, rfl, p, _, ((0 : Nat) : Int), _, rfl, rfl, SqT.of hp, atI_nat (by rfl), _, some r, rfl, rfl, hn, _, rfl, if_true_of rfl ?_⟩
    refine ⟨_, rfl, _, rfl, p, _, ((0 : Nat) : Int), _, rfl, rfl, SqT.of hp, atI_nat (by rfl), _, _, _, rfl, rfl, e2, p, _, _, _, rfl, rfl, SqT.of hp, atI_nat f1, ?_⟩
    unfold gvV at h
    rw [e1] at h
    exact h
  · refine ⟨_, rfl, p, _, ((0 : Nat) : Int), _, rfl, rfl, SqT.of hp, atI_nat (by rfl), _, none, rfl, rfl, e2, _, rfl, if_false_of rfl ?_⟩
    unfold gvV at h
    rw [e1] at h
    exact h
theorem sc__real : FnScope ["values", "value"] ["values"] (defScope s__real) := ⟨rfl, rfl, rfl, by decide +kernel, rfl, by decide +kernel, by decide +kernel⟩
theorem g__real (T : Txt K mg w)  : Gd P w K mg base CX0 1 "_real" ["values"] (sp__real K) := by
  have sc := sc__real
  refine T.d__real.ok sc len1 (fun _ _ _ _ _ _ us hl => match us, hl with | [_], _ => rfl) (fun f cdv A outer s H vs Q E hr h => ?_)
  obtain ⟨x0, rfl, h⟩ := h
  obtain ⟨p, ns, rfl, hp, hl, h⟩ := h
  refine ⟨_, (pss_one (ps_ret (pe_callTy call_tuple_of (by rfl) T.n_tuple (by decide +kernel) (pa_cons (pe_lc (own := [("value", 1)]) (g := gName 1) (by rfl) sc.nd (Q5.pi_or (pi_list (pv 0)) (pi_tup (pv 0))) (blkOk_by (own := [("value", 1)]) (N := ["values", "value"]) (sc := defScope s__real) (by decide +kernel)) (fun _ _ _ _ _ => (pg_name (i := 1) sc.nd rfl (Or.inl rfl))) (fun _ _ _ _ _ => (pts_one (pt_cmpR op_ne (pv 1) (pe_gint T.c_NOUGHT) (nomark _)))) (fun _ _ _ _ _ => (pv 1))) pa_nil)))), ?_⟩
  have body : ∀ (D : Addr), H D = none → ∀ (i : Nat) (x : V) (H' : Hp), (ns.map V.int)[i]? = some x → (Same H H' ∧ H' D = some (.lst ((realI (ns.take i)).map V.int))) → ∃ n : Int, x = .int n ∧ ns[i]? = some n ∧ ((realI (ns.take i)).map V.int).length ≤ 1000 := by
    intro D hD i x H' hx p
    rw [List.getElem?_map] at hx
    cases en : ns[i]? with
    | none => rw [en] at hx; cases hx
    | some n =>
      rw [en] at hx
      injection hx with hx
      refine ⟨n, hx.symm, rfl, ?_⟩
      rw [List.length_map]
      unfold realI
      have := List.length_filter_le (fun n => decide (n ≠ -1)) (ns.take i)
      rw [List.length_take] at this
      omega
  rcases hp with hp | hp
  · refine .inl ⟨_, rfl, p, rfl, ⟨_, SqL.of hp⟩, fun D hD => ?_⟩
    refine lc_list (a := p) (xs := ns.map V.int) (fun i H' => Same H H' ∧ H' D = some (.lst ((realI (ns.take i)).map V.int))) ⟨same_new hD, upd_same⟩ (fun i H' _ p => SqL.of (p.1 _ _ hp)) (fun i x H' hx p => ?_) (fun H' p => ?_)
    · obtain ⟨n, rfl, en, hsz⟩ := body D hD i x H' hx p
      refine ⟨rfl, _, rfl, rfl, _, rfl, ?_⟩
      have e := real_take en
      by_cases c : n = -1
      · refine if_false_of (by show (!decide (V.int n = V.int (-1))) = false; rw [dec_i, decide_eq_true c]; rfl) ?_
        rw [if_pos c, List.append_nil] at e
        exact ⟨p.1, by rw [e]; exact p.2⟩
      · refine if_true_of (by show (!decide (V.int n = V.int (-1))) = true; rw [dec_i, decide_eq_false c]; rfl) ?_
        rw [if_neg c] at e
        refine ⟨_, rfl, _, p.2, sz' _ (by omega), ?_, ?_⟩
        · intro b o z
          rw [upd_ne (ne_of_none z hD)]
          exact p.1 _ _ z
        · rw [upd_same, e, List.map_append]; rfl
    · have z := p.2
      rw [List.length_map, List.take_length] at z
      refine ⟨D, _, rfl, .inl ⟨SqL.of z, fun l hl => ?_⟩⟩
      exact h _ l (Same.tr p.1 (same_new hl)) upd_same
  · refine .inr ⟨_, rfl, p, rfl, ⟨_, SqT.of hp⟩, fun D hD => ?_⟩
    refine lc_tup (a := p) (xs := ns.map V.int) (fun i H' => Same H H' ∧ H' D = some (.lst ((realI (ns.take i)).map V.int))) ⟨same_new hD, upd_same⟩ (fun i H' _ p => SqT.of (p.1 _ _ hp)) (fun i x H' hx p => ?_) (fun H' p => ?_)
    · obtain ⟨n, rfl, en, hsz⟩ := body D hD i x H' hx p
      refine ⟨rfl, _, rfl, rfl, _, rfl, ?_⟩
      have e := real_take en
      by_cases c : n = -1
      · refine if_false_of (by show (!decide (V.int n = V.int (-1))) = false; rw [dec_i, decide_eq_true c]; rfl) ?_
        rw [if_pos c, List.append_nil] at e
        exact ⟨p.1, by rw [e]; exact p.2⟩
      · refine if_true_of (by show (!decide (V.int n = V.int (-1))) = true; rw [dec_i, decide_eq_false c]; rfl) ?_
        rw [if_neg c] at e
        refine ⟨_, rfl, _, p.2, sz' _ (by omega), ?_, ?_⟩
        · intro b o z
          rw [upd_ne (ne_of_none z hD)]
          exact p.1 _ _ z
        · rw [upd_same, e, List.map_append]; rfl
    · have z := p.2
      rw [List.length_map, List.take_length] at z
      refine ⟨D, _, rfl, .inl ⟨SqL.of z, fun l hl => ?_⟩⟩
      exact h _ l (Same.tr p.1 (same_new hl)) upd_same
theorem sc_low_uses : FnScope ["row", "used", "at"] ["row"] (defScope s_low_uses) := ⟨rfl, rfl, rfl, by decide +kernel, rfl, by decide +kernel, by decide +kernel⟩
theorem g_low_uses (T : Txt K mg w) (G__real : Gd P w K mg base CX0 1 "_real" ["values"] (sp__real K)) : Gd P w K mg base CX0 2 "low_uses" ["row"] (sp_low_uses K) := by
  have sc := sc_low_uses
  refine T.d_low_uses.ok sc len1 (fun _ _ _ _ _ _ us hl => match us, hl with | [_], _ => rfl) (fun f cdv A outer s H vs Q E hr h => ?_)
  obtain ⟨x0, rfl, h⟩ := h
  obtain ⟨k, pa, pb, us, hz, hu, hl, h⟩ := h
  obtain ⟨esU, nU, kd_USED⟩ := T.k_USED
  refine ⟨_, (pss_cons (ps_if (pt_cmpR op_eq (pe_ix ix_tup (pv 0) pe_int (fun _ _ => rfl)) pe_str (nomark _)) (pss_one (ps_ret (pe_g G__real (hr.mono (by omega)) pass0 (pa_cons (pe_ix ix_tup (pv 0) pe_int (fun _ _ => rfl)) pa_nil)))) pss_nil)
      (pss_cons (ps_setLc (i := 1) (own := [("at", 2)]) (g := gName 2) (by rfl) sc.nd rfl rfl (sw_true rfl rfl rfl (by decide +kernel)) (pi_tup (pe_ix ix_kdict (pe_gref T.c_USED) (pe_ix ix_tup (pv 0) pe_int (fun _ _ => rfl)) (fun _ _ => rfl))) (blkOk_by (own := [("at", 2)]) (N := ["row", "used", "at"]) (sc := defScope s_low_uses) (by decide +kernel)) (fun _ _ _ _ _ => (pg_name (i := 2) sc.nd rfl (Or.inl rfl))) (fun _ _ _ _ _ => pts_nil) (fun _ _ _ _ _ => (pe_ix (ix_tup : IxR _ (rIxT K)) (pv 0) (pv 2) (fun _ _ => rfl))))
      (pss_cons (ps_if (PW.pt (pw_and (pt_cmpR op_in_seq (pe_ix ix_tup (pv 0) pe_int (fun _ _ => rfl)) (pe_tup (pa_cons pe_str (pa_cons pe_str pa_nil))) rfl) (pw_and1 (pt_cmpR op_eq (pe_ix ix_tup (pv 0) pe_int (fun _ _ => rfl)) pe_str (nomark _))))) (pss_one (ps_expr (pe_bm PySem.F.plainAttrs_list PySem.F.slot_list_append PySem.F.type_list_append mt_append (pv 1) (pa_cons (pe_ix ix_tup (pv 0) pe_int (fun _ _ => rfl)) pa_nil)))) pss_nil)
      (pss_one (ps_ret (pe_g G__real (hr.mono (by omega)) pass0 (pa_cons (pv 1) pa_nil))))))), ?_⟩
  cases k with
  | call x fn as =>
    injection hu with hu
    subst hu
    obtain ⟨p, ys, rfl, hp, hys⟩ := hz.tupI
    obtain ⟨v0, r0, rfl, d0, hr0⟩ := hys.one
    obtain ⟨v1, r1, rfl, d1, hr1⟩ := hr0.one
    obtain ⟨v2, r2, rfl, d2, hr2⟩ := hr1.one
    obtain ⟨v3, r3, rfl, d3, hr3⟩ := hr2.one
    obtain rfl := d0.strI
    obtain ⟨p1, as', rfl, hp1, has⟩ := d3.tupI
    obtain rfl := has.ints
    refine ⟨_, rfl, p, _, ((0 : Nat) : Int), _, rfl, rfl, SqT.of hp, atI_nat (by rfl), rfl, _, rfl, if_true_of rfl ?_⟩
    refine ⟨_, rfl, p, _, ((3 : Nat) : Int), _, rfl, rfl, SqT.of hp, atI_nat (by rfl), _, rfl, p1, _, rfl, .inr hp1, hl, fun H' t s ht => h H' t s ht⟩
  | store x l b =>
    have hz' : DT H x0 (.tuple [.str "store", .int x, .str (lcY l), lcE l, .int b, plD ⟨.store x l b, pa, pb⟩]) := by
      have e : rwD ⟨.store x l b, pa, pb⟩ = .tuple [.str "store", .int x, .str (lcY l), lcE l, .int b, plD ⟨.store x l b, pa, pb⟩] := by
        unfold rwD
        show PyData.tuple (.str "store" :: (.int x :: (lcD l ++ [.int b]) ++ [plD _])) = _
        rw [lcD_eq]; rfl
      rw [← e]; exact hz
    obtain ⟨p, ys, rfl, hp, hys⟩ := hz'.tupI
    obtain ⟨v0, r0, rfl, d0, hr0⟩ := hys.one
    obtain ⟨v1, r1, rfl, d1, hr1⟩ := hr0.one
    obtain ⟨v2, r2, rfl, d2, hr2⟩ := hr1.one
    obtain ⟨v3, r3, rfl, d3, hr3⟩ := hr2.one
    obtain rfl := d0.strI
    obtain rfl := d1.intI
    obtain rfl := d2.strI
    obtain rfl := lcE_v d3
    obtain ⟨ua, hua, hut⟩ := T.us_store
    refine ⟨_, rfl, p, _, ((0 : Nat) : Int), _, rfl, rfl, SqT.of hp, atI_nat (by rfl), rfl, _, rfl, if_false_of rfl ?_⟩
    refine ⟨_, rfl, p, _, ((0 : Nat) : Int), _, rfl, rfl, SqT.of hp, atI_nat (by rfl), _, _, _, rfl, rfl, hua, ua, rfl, ⟨_, hut _⟩, fun D hD => ?_⟩
    refine lc_tup (a := ua) (xs := [V.int 1]) (fun i H' => Same H H' ∧ H' D = some (.lst (([V.int x] : List V).take i))) ⟨same_new hD, upd_same⟩ (fun i H' _ _ => hut H') (fun i y H' hy p1 => ?_) (fun H' p1 => ?_)
    · match i, hy with
      | 0, hy =>
        injection hy with hy
        subst hy
        refine ⟨rfl, ?_⟩
        dsimp only [tYes]
        rw [if_pos rfl]
        refine ⟨_, rfl, _, rfl, p, _, ((1 : Nat) : Int), _, rfl, rfl, SqT.of (p1.1 _ _ hp), atI_nat (by rfl), _, p1.2, sz' _ (by show 0 ≤ 10000; decide), ?_, ?_⟩
        · intro b' o z
          rw [upd_ne (ne_of_none z hD)]
          exact p1.1 _ _ z
        · rw [upd_same]; rfl
      | j + 1, hy => simp at hy
    · have g1 : H' D = some (.lst [V.int x]) := p1.2
      have hp1 := p1.1 _ _ hp
      refine ⟨_, rfl, p, _, ((0 : Nat) : Int), _, rfl, rfl, SqT.of hp1, atI_nat (by rfl), (by show 2 ≤ sizeLine; decide), fun t1 ht1 => ⟨t1, _, rfl, Or.inr (SqT.of upd_same), rfl, rfl, _, rfl, if_true_of rfl ?_⟩⟩
      have s1 := same_new (o := .tup [.str "load", .str "store"]) ht1
      refine ⟨_, rfl, p, _, ((2 : Nat) : Int), _, rfl, rfl, SqT.of (s1 _ _ hp1), atI_nat (by rfl), rfl, _, rfl, ?_⟩
      cases l with
      | at_ y =>
        injection hu with hu
        subst hu
        refine if_true_of rfl ?_
        refine ⟨_, rfl, .inl ⟨rfl, _, SqL.of (s1 _ _ g1)⟩, _, rfl, p, _, ((3 : Nat) : Int), _, rfl, rfl, SqT.of (s1 _ _ hp1), atI_nat (by rfl), D, _, _, rfl, rfl, s1 _ _ g1, sz' _ (by show 1 ≤ 10000; decide), ?_⟩
        refine ⟨_, rfl, _, rfl, D, [x, y], rfl, .inl upd_same, hl, fun H2 t s ht => h H2 t ?_ ht⟩
        intro b' o z
        refine s _ _ ?_
        rw [upd_ne (ne_of_none z hD)]
        exact s1 _ _ (p1.1 _ _ z)
      | nm =>
        injection hu with hu
        subst hu
        refine if_false_of rfl ?_
        exact ⟨_, rfl, _, rfl, D, [x], rfl, .inl (s1 _ _ g1), hl, fun H2 t s ht => h H2 t (Same.tr p1.1 (Same.tr s1 s)) ht⟩
      | sl q =>
        injection hu with hu
        subst hu
        refine if_false_of rfl ?_
        exact ⟨_, rfl, _, rfl, D, [x], rfl, .inl (s1 _ _ g1), hl, fun H2 t s ht => h H2 t (Same.tr p1.1 (Same.tr s1 s)) ht⟩
  | load x l b =>
    have hz' : DT H x0 (.tuple [.str "load", .int x, .str (lcY l), lcE l, .int b, plD ⟨.load x l b, pa, pb⟩]) := by
      have e : rwD ⟨.load x l b, pa, pb⟩ = .tuple [.str "load", .int x, .str (lcY l), lcE l, .int b, plD ⟨.load x l b, pa, pb⟩] := by
        unfold rwD
        show PyData.tuple (.str "load" :: (.int x :: (lcD l ++ [.int b]) ++ [plD _])) = _
        rw [lcD_eq]; rfl
      rw [← e]; exact hz
    obtain ⟨p, ys, rfl, hp, hys⟩ := hz'.tupI
    obtain ⟨v0, r0, rfl, d0, hr0⟩ := hys.one
    obtain ⟨v1, r1, rfl, d1, hr1⟩ := hr0.one
    obtain ⟨v2, r2, rfl, d2, hr2⟩ := hr1.one
    obtain ⟨v3, r3, rfl, d3, hr3⟩ := hr2.one
    obtain rfl := d0.strI
    obtain rfl := d1.intI
    obtain rfl := d2.strI
    obtain rfl := lcE_v d3
    obtain ⟨ua, hua, hut⟩ := T.us_load
    refine ⟨_, rfl, p, _, ((0 : Nat) : Int), _, rfl, rfl, SqT.of hp, atI_nat (by rfl), rfl, _, rfl, if_false_of rfl ?_⟩
    refine ⟨_, rfl, p, _, ((0 : Nat) : Int), _, rfl, rfl, SqT.of hp, atI_nat (by rfl), _, _, _, rfl, rfl, hua, ua, rfl, ⟨_, hut _⟩, fun D hD => ?_⟩
    refine lc_tup (a := ua) (xs := []) (fun i H' => Same H H' ∧ H' D = some (.lst [])) ⟨same_new hD, upd_same⟩ (fun i H' _ _ => hut H') (fun i y H' hy p1 => by simp at hy) (fun H' p1 => ?_)
    have g1 : H' D = some (.lst []) := p1.2
    have hp1 := p1.1 _ _ hp
    refine ⟨_, rfl, p, _, ((0 : Nat) : Int), _, rfl, rfl, SqT.of hp1, atI_nat (by rfl), (by show 2 ≤ sizeLine; decide), fun t1 ht1 => ⟨t1, _, rfl, Or.inr (SqT.of upd_same), rfl, rfl, _, rfl, if_true_of rfl ?_⟩⟩
    have s1 := same_new (o := .tup [.str "load", .str "store"]) ht1
    refine ⟨_, rfl, p, _, ((2 : Nat) : Int), _, rfl, rfl, SqT.of (s1 _ _ hp1), atI_nat (by rfl), rfl, _, rfl, ?_⟩
    cases l with
    | at_ y =>
      injection hu with hu
      subst hu
      refine if_true_of rfl ?_
      refine ⟨_, rfl, .inl ⟨rfl, _, SqL.of (s1 _ _ g1)⟩, _, rfl, p, _, ((3 : Nat) : Int), _, rfl, rfl, SqT.of (s1 _ _ hp1), atI_nat (by rfl), D, _, _, rfl, rfl, s1 _ _ g1, sz' _ (by show 0 ≤ 10000; decide), ?_⟩
      refine ⟨_, rfl, _, rfl, D, [y], rfl, .inl upd_same, hl, fun H2 t s ht => h H2 t ?_ ht⟩
      intro b' o z
      refine s _ _ ?_
      rw [upd_ne (ne_of_none z hD)]
      exact s1 _ _ (p1.1 _ _ z)
    | nm =>
      injection hu with hu
      subst hu
      refine if_false_of rfl ?_
      exact ⟨_, rfl, _, rfl, D, [], rfl, .inl (s1 _ _ g1), hl, fun H2 t s ht => h H2 t (Same.tr p1.1 (Same.tr s1 s)) ht⟩
    | sl q =>
      injection hu with hu
      subst hu
      refine if_false_of rfl ?_
      exact ⟨_, rfl, _, rfl, D, [], rfl, .inl (s1 _ _ g1), hl, fun H2 t s ht => h H2 t (Same.tr p1.1 (Same.tr s1 s)) ht⟩
  | set _ _ => cases hu
  | inp _ => cases hu
  | out _ => cases hu
  | more _ => cases hu
  | three _ _ _ _ => cases hu
  | imm _ _ _ _ => cases hu
  | name _ => cases hu
  | slot _ _ => cases hu
  | must _ _ _ _ => cases hu
  | deep _ _ _ => cases hu
  | branch _ _ _ _ _ _ _ => cases hu
  | ret _ => cases hu
  | go _ _ => cases hu
  | tail _ _ => cases hu
theorem sc_low_end_uses : FnScope ["end"] ["end"] (defScope s_low_end_uses) := ⟨rfl, rfl, rfl, by decide +kernel, rfl, by decide +kernel, by decide +kernel⟩
theorem g_low_end_uses (T : Txt K mg w) (G__real : Gd P w K mg base CX0 1 "_real" ["values"] (sp__real K)) : Gd P w K mg base CX0 2 "low_end_uses" ["end"] (sp_low_end_uses K) := by
  have sc := sc_low_end_uses
  refine T.d_low_end_uses.ok sc len1 (fun _ _ _ _ _ _ us hl => match us, hl with | [_], _ => rfl) (fun f cdv A outer s H vs Q E hr h => ?_)
  obtain ⟨x0, rfl, h⟩ := h
  obtain ⟨o, a, b, g, as, g2, as2, pa, pb, hz, hl, h⟩ := h
  obtain ⟨p, ys, rfl, hp, hys⟩ := hz.tupI
  obtain ⟨v0, r0, rfl, d0, hr0⟩ := hys.one
  obtain ⟨v1, r1, rfl, d1, hr1⟩ := hr0.one
  obtain ⟨v2, r2, rfl, d2, hr2⟩ := hr1.one
  obtain ⟨v3, r3, rfl, d3, hr3⟩ := hr2.one
  obtain ⟨v4, r4, rfl, d4, hr4⟩ := hr3.one
  obtain ⟨v5, r5, rfl, d5, hr5⟩ := hr4.one
  obtain ⟨v6, r6, rfl, d6, hr6⟩ := hr5.one
  obtain ⟨v7, r7, rfl, d7, hr7⟩ := hr6.one
  obtain rfl := d0.strI
  obtain rfl := d2.intI
  obtain rfl := d3.intI
  obtain ⟨p1, as', rfl, hp1, has⟩ := d5.tupI
  obtain rfl := has.ints
  obtain ⟨p2, as', rfl, hp2, has2⟩ := d7.tupI
  obtain rfl := has2.ints
  refine ⟨_, (pss_cons (ps_if (pt_cmpR op_eq (pe_ix ix_tup (pv 0) pe_int (fun _ _ => rfl)) pe_str (nomark _)) (pss_one (ps_ret (pe_g G__real (hr.mono (by omega)) pass0 (pa_cons (pe_ix ix_tup (pv 0) pe_int (fun _ _ => rfl)) pa_nil)))) pss_nil)
      (pss_cons (ps_if (pt_cmpR op_eq (pe_ix ix_tup (pv 0) pe_int (fun _ _ => rfl)) pe_str (nomark _)) (pss_one (ps_ret (pe_g G__real (hr.mono (by omega)) pass0 (pa_cons (pe_op op_cat (pe_op op_cat (pe_lst (pa_cons (pe_ix ix_tup (pv 0) pe_int (fun _ _ => rfl)) (pa_cons (pe_ix ix_tup (pv 0) pe_int (fun _ _ => rfl)) pa_nil))) (pe_callTy call_list_of (by rfl) T.n_list (by decide +kernel) (pa_cons (pe_ix ix_tup (pv 0) pe_int (fun _ _ => rfl)) pa_nil))) (pe_callTy call_list_of (by rfl) T.n_list (by decide +kernel) (pa_cons (pe_ix ix_tup (pv 0) pe_int (fun _ _ => rfl)) pa_nil))) pa_nil)))) pss_nil)
      (pss_cons (ps_if (pt_cmpR op_eq (pe_ix ix_tup (pv 0) pe_int (fun _ _ => rfl)) pe_str (nomark _)) (pss_one (ps_ret (pe_g G__real (hr.mono (by omega)) pass0 (pa_cons (pe_lst (pa_cons (pe_ix ix_tup (pv 0) pe_int (fun _ _ => rfl)) pa_nil)) pa_nil)))) pss_nil)
      (pss_one (ps_ret (pe_ifExp (pt_cmpR op_eq (pe_ix ix_tup (pv 0) pe_int (fun _ _ => rfl)) pe_str (nomark _)) (pe_g G__real (hr.mono (by omega)) pass0 (pa_cons (pe_ix ix_tup (pv 0) pe_int (fun _ _ => rfl)) pa_nil)) (pe_tup pa_nil))))))), ?_⟩
  refine ⟨_, rfl, p, _, ((0 : Nat) : Int), _, rfl, rfl, SqT.of hp, atI_nat (by rfl), rfl, _, rfl, if_false_of rfl ?_⟩
  refine ⟨_, rfl, p, _, ((0 : Nat) : Int), _, rfl, rfl, SqT.of hp, atI_nat (by rfl), rfl, _, rfl, if_true_of rfl ?_⟩
  refine ⟨_, rfl, p, _, ((2 : Nat) : Int), _, rfl, rfl, SqT.of hp, atI_nat (by rfl), _, rfl, p, _, ((3 : Nat) : Int), _, rfl, rfl, SqT.of hp, atI_nat (by rfl), (by show 2 ≤ sizeLine; decide), fun l1 f1 => ?_⟩
  have s1 := same_new (o := .lst [.int a, .int b]) f1
  refine ⟨_, rfl, p, _, ((5 : Nat) : Int), _, rfl, rfl, SqT.of (s1 _ _ hp), atI_nat (by rfl), p1, _, rfl, Or.inr (SqT.of (s1 _ _ hp1)), fun l2 f2 => ?_⟩
  have s2 := Same.tr s1 (same_new (o := .lst (as.map V.int)) f2)
  refine ⟨l1, l2, _, _, rfl, rfl, same_new f2 _ _ upd_same, upd_same, sz _ (by rw [List.length_map]; show 2 + _ ≤ _; omega), fun l3 f3 => ?_⟩
  have s3 := Same.tr s2 (same_new (o := .lst ([.int a, .int b] ++ as.map V.int)) f3)
  refine ⟨_, rfl, p, _, ((7 : Nat) : Int), _, rfl, rfl, SqT.of (s3 _ _ hp), atI_nat (by rfl), p2, _, rfl, Or.inr (SqT.of (s3 _ _ hp2)), fun l4 f4 => ?_⟩
  have s4 := Same.tr s3 (same_new (o := .lst (as2.map V.int)) f4)
  refine ⟨l3, l4, _, _, rfl, rfl, same_new f4 _ _ upd_same, upd_same, sz _ (by rw [List.length_append, List.length_map, List.length_map]; show 2 + _ + _ ≤ _; omega), fun l5 f5 => ?_⟩
  have s5 := Same.tr s4 (same_new (o := .lst ([.int a, .int b] ++ as.map V.int ++ as2.map V.int)) f5)
  have e : ([V.int a, V.int b] ++ as.map V.int ++ as2.map V.int) = (a :: b :: (as ++ as2)).map V.int := by
    rw [List.map_cons, List.map_cons, List.map_append]; rfl
  refine ⟨_, rfl, l5, _, rfl, .inl (by rw [upd_same, e]), (by rw [List.length_cons, List.length_cons, List.length_append]; omega), fun H' t s6 ht => ?_⟩
  exact h H' t (Same.tr s5 s6) ht
end
end K55

namespace K55
open PySem PyProof.Rows L2 My Ru M55
open Builtin (bitAnd bitOr)
/-! a display, read at once as a text -/
abbrev CC := (Nat → PyData) → L2.St → Hp → Prop
def tDE (C : CC) (f : (Nat → PyData) → PyData) : TE := fun σ H Q => ∃ ν, C ν σ H ∧ ∀ v H', Same H H' → DT H' v (f ν) → Q v H'
def aDE (C : CC) (f : (Nat → PyData) → List PyData) : TA := fun σ H Q => ∃ ν, C ν σ H ∧ ∀ vs H', Same H H' → DTs H' vs (f ν) → Q vs H'
structure PD (X : Cx) (e : Expr) (C : CC) (f : (Nat → PyData) → PyData) : Prop where
  pe : PE X e (tDE C f)
  st : ∀ ν σ H H', Same H H' → C ν σ H → C ν σ H'
structure PDs (X : Cx) (es : List Expr) (n : Nat) (C : CC) (f : (Nat → PyData) → List PyData) : Prop where
  pa : PA X es (aDE C f)
  st : ∀ ν σ H H', Same H H' → C ν σ H → C ν σ H'
  ln : ∀ ν, (f ν).length = n
theorem PE.le {X : Cx} {e : Expr} {t u : TE} (h : PE X e t) (w : ∀ σ H Q, u σ H Q → t σ H Q) : PE X e u := ⟨fun pins s σ H Q I k => h.run pins s σ H Q I (w σ H Q k)⟩
theorem PA.le {X : Cx} {es : List Expr} {t u : TA} (h : PA X es t) (w : ∀ σ H Q, u σ H Q → t σ H Q) : PA X es u := ⟨fun pos pins s σ H Q I k => h.run pos pins s σ H Q I (w σ H Q k)⟩
section
variable {X : Cx} {e : Expr} {es : List Expr} {C D : CC} {pos : Pos} {n : Nat}
theorem dInt {i : Int} {j} : PD X (.Constant (.int i) j pos) (fun _ _ _ => True) (fun _ => .int i) :=
  ⟨PE.le pe_int fun σ H Q ⟨_, _, q⟩ => q _ _ Same.rf (.int i), fun _ _ _ _ _ _ => trivial⟩
theorem dStr {x : Str} {j} : PD X (.Constant (.str x) j pos) (fun _ _ _ => True) (fun _ => .str x) :=
  ⟨PE.le pe_str fun σ H Q ⟨_, _, q⟩ => q _ _ Same.rf (.str x), fun _ _ _ _ _ _ => trivial⟩
theorem dNeg {i : Int} {j} {pos2 : Pos} : PD X (.UnaryOp .USub (.Constant (.int i) j pos) pos2) (fun _ _ _ => True) (fun _ => .int (-i)) :=
  ⟨PE.le (pe_un un_neg pe_int) fun σ H Q ⟨_, _, q⟩ => ⟨i, rfl, q _ _ Same.rf (.int (-i))⟩, fun _ _ _ _ _ _ => trivial⟩
theorem dV (i : Nat) (h : PE X e (tVar i)) : PD X e (fun ν σ H => ∃ v, σ[i]? = some (some v) ∧ DT H v (ν i)) (fun ν => ν i) :=
  ⟨PE.le h fun σ H Q ⟨_, ⟨v, e, d⟩, q⟩ => ⟨v, e, q _ _ Same.rf d⟩, fun _ _ _ _ s ⟨v, e, d⟩ => ⟨v, e, d.keep (TK.same s)⟩⟩
theorem dNil : PDs X [] 0 (fun _ _ _ => True) (fun _ => []) :=
  ⟨PA.le pa_nil fun σ H Q ⟨_, _, q⟩ => q _ _ Same.rf .nil, fun _ _ _ _ _ _ => trivial, fun _ => rfl⟩
theorem dCons {f : (Nat → PyData) → PyData} {g : (Nat → PyData) → List PyData} (h : PD X e C f) (k : PDs X es n D g) (hs : starEach (e :: es) X.env = (false, eval e X.env) :: starEach es X.env := by rfl) :
    PDs X (e :: es) (n + 1) (fun ν σ H => C ν σ H ∧ D ν σ H) (fun ν => f ν :: g ν) := by
  refine ⟨PA.le (pa_cons h.pe k.pa hs) ?_, fun ν σ H H' s c => ⟨h.st _ _ _ _ s c.1, k.st _ _ _ _ s c.2⟩, fun ν => by rw [List.length_cons, k.ln]⟩
  rintro σ H Q ⟨ν, ⟨c, d⟩, q⟩
  refine ⟨ν, c, fun v H1 s1 t1 => ⟨ν, k.st _ _ _ _ s1 d, fun vs H2 s2 t2 => ?_⟩⟩
  exact q _ _ (Same.tr s1 s2) (.cons (t1.keep (TK.same s2)) t2)
theorem dTup {x1} {f : (Nat → PyData) → List PyData} (h : PDs X es n C f) (hz : n ≤ 1000 := by decide) : PD X (.Tuple es x1 pos) C (fun ν => .tuple (f ν)) := by
  refine ⟨PE.le (pe_tup h.pa) ?_, h.st⟩
  rintro σ H Q ⟨ν, c, q⟩
  refine ⟨ν, c, fun vs H1 s1 t1 => ⟨?_, fun p hp => ?_⟩⟩
  · have z1 := t1.len
    have z2 := h.ln ν
    rw [sizeLine_eq]
    omega
  · exact q _ _ (Same.tr s1 (same_new hp)) (.tup upd_same (t1.keep (TK.same (same_new hp))))
theorem dNo {x1} {f : (Nat → PyData) → List PyData} {j} {pos2 pos3 : Pos} (h : PDs X es (n + 1) C f) (hz : n + 1 ≤ 1000 := by decide) : PD X (.BinOp (.Tuple es x1 pos) .Mult (.Constant (.int 0) j pos2) pos3) C (fun _ => .tuple []) := by
  refine ⟨PE.le (pe_op Q6.op_repT0 (dTup h hz).pe pe_int) ?_, h.st⟩
  rintro σ H Q ⟨ν, c, q⟩
  refine ⟨ν, c, fun v H1 s1 t1 => ?_⟩
  obtain ⟨a, xs, rfl, ha, hx⟩ := t1.tupI
  refine ⟨a, xs, rfl, rfl, SqT.of ha, ?_, fun p hp => ?_⟩
  · intro z
    have z1 := hx.len
    have z2 := h.ln ν
    rw [z] at z1
    rw [z2] at z1
    cases z1
  · exact q _ _ (Same.tr s1 (same_new hp)) (.tup upd_same .nil)
end
def nu (l : List (Nat × PyData)) : Nat → PyData := fun i => (l.lookup i).getD (.int 0)
/-- the row's place, in the program of the law -/
def pM : PyData := .tuple [.str "m", .int 3, .int 1]
theorem rows_are (a : Int) : ((rows0 a).map rwD) = ([.tuple [.str "set", .int 1, .int a, pM], .tuple [.str "in", .int 2, pM], .tuple [.str "three", .str "sub", .int 3, .int 1, .int 2, pM], .tuple [.str "imm", .str "slti", .int 4, .int 3, .int 5, pM], .tuple [.str "out", .int 3, pM], .tuple [.str "out", .int 4, pM]] ++
    [.tuple [.str "name", .int 5, .str "g", pM], .tuple [.str "slot", .int 6, .int 1, pM], .tuple [.str "store", .int 3, .str "at", .int 5, .int 8, pM], .tuple [.str "load", .int 7, .str "name", .str "g", .int 8, pM], .tuple [.str "store", .int 7, .str "slot", .int 1, .int 4, pM]] ++
    [.tuple [.str "imm", .str "addi", .int 8, .int 6, .int 4, pM], .tuple [.str "load", .int 9, .str "at", .int 8, .int 0, pM], .tuple [.str "out", .int 9, pM], .tuple [.str "load", .int 10, .str "name", .str "g", .int 4, pM], .tuple [.str "out", .int 10, pM], .tuple [.str "more", .int 11, pM]] ++
    [.tuple [.str "deep", .int 12, .int 0, .int 3, .tuple [.str "m", .int 7, .int 7]], .tuple [.str "call", .int 13, .str "f", .tuple [.int 12, .int 3, .int (-1)], pM], .tuple [.str "out", .int 13, pM], .tuple [.str "out", .int 11, pM]] : List PyData) := rfl
theorem rows2_are : (rows2.map rwD) = ([.tuple [.str "must", .str "bltu", .int 14, .int 2, .str "told", .tuple [.str "m", .int 8, .int 8]], .tuple [.str "load", .int 15, .str "at", .int 16, .int 1, .tuple [.str "m", .int 9, .int 9]]] : List PyData) := rfl
theorem bls_are (a : Int) : ((bls a).map blD) = ([.tuple [.tuple [.int 0], .tuple ((rows0 a).map rwD), .tuple [.str "branch", .str "bge", .int 3, .int (-1), .int 2, .tuple [.int 3, .int 6], .int 1, .tuple [.int 2]]], .tuple [.tuple [.int 17], .tuple [.tuple [.str "out", .int 17, pM]], .tuple [.str "return", .int 17]],
    .tuple [.tuple [.int 14, .int 16], .tuple (rows2.map rwD), .tuple [.str "return", .int 15]]] : List PyData) := rfl
theorem DT.of_ints {H : Hp} {p : Addr} {ns : List Int} (h : H p = some (.tup (ns.map V.int))) : DT H (.ref p) (.tuple (ns.map .int)) := .tup h (DTs.of_ints ns)
def sp__law_main (K : PySem.W.Frag) : Sp := sp4 fun x y z u H Q _ => ∃ a b lim : Int, y = .int a ∧ z = .int b ∧ u = .int lim ∧
  ∀ (va vd : V) (H' : Hp) (t : Addr), Same H H' → H' t = some (.tup [va, vd]) → DT H' va (.tuple ((bls a).map blD)) → DT H' vd (.tuple [.tuple ((due a b lim).1.map .int), (due a b lim).2]) → Q (.ref t) H'
theorem ifSub {c : Prop} [Decidable c] {σ : L2.St} {H : Hp} {F : VK} {x k : Int} {i : Nat} (e : σ[i]? = some (some (.int x))) (h : F (.int (if c then x - k else x)) H) :
    if decide c = true then tOp (rI0 fun i j => V.int (i - j)) (tVar i) (tC (.int k)) σ H F else tVar i σ H F := by
  by_cases z : c
  · rw [if_pos z] at h
    exact if_true_of (decide_eq_true z) ⟨_, e, _, _, rfl, rfl, h⟩
  · rw [if_neg z] at h
    exact if_false_of (decide_eq_false z) ⟨_, e, h⟩
theorem ifC {c : Prop} [Decidable c] {σ : L2.St} {H : Hp} {F : VK} {x y : Int} (h : F (.int (if c then x else y)) H) : if decide c = true then tC (.int x) σ H F else tC (.int y) σ H F := by
  by_cases z : c
  · rw [if_pos z] at h
    exact if_true_of (decide_eq_true z) h
  · rw [if_neg z] at h
    exact if_false_of (decide_eq_false z) h
section
variable {P : Program} {w : World} {K : PySem.W.Frag} {mg : Str → Option Value} {base : Heap}
theorem sc__law_main : FnScope ["draw", "a", "b", "limit", "p", "rows", "late", "blocks", "low", "signed_v", "outputs"] ["draw", "a", "b", "limit"] (defScope s__law_main) := ⟨rfl, rfl, rfl, by decide +kernel, rfl, by decide +kernel, by decide +kernel⟩
theorem g__law_main (T : Txt K mg w)  : Gd P w K mg base CX0 1 "_law_main" ["draw", "a", "b", "limit"] (sp__law_main K) := by
  have sc := sc__law_main
  refine T.d__law_main.ok sc len4 (fun _ _ _ _ _ _ us hl => match us, hl with | [_, _, _, _], _ => rfl) (fun f cdv A outer s H vs Q E hr h => ?_)
  obtain ⟨x0, x1, x2, x3, rfl, h⟩ := h
  obtain ⟨a, b, lim, rfl, rfl, rfl, h⟩ := h
  refine ⟨_, (pss_cons (ps_set (i := 4) sc.nd rfl (Or.inl rfl) (PD.pe (dTup (dCons dStr (dCons dInt (dCons dInt dNil))))))
      (pss_cons (ps_set (i := 5) sc.nd rfl (Or.inl rfl) (PD.pe (dTup (dCons (dTup (dCons dStr (dCons dInt (dCons (dV 1 (pv 1)) (dCons (dV 4 (pv 4)) dNil))))) (dCons (dTup (dCons dStr (dCons dInt (dCons (dV 4 (pv 4)) dNil)))) (dCons (dTup (dCons dStr (dCons dStr (dCons dInt (dCons dInt (dCons dInt (dCons (dV 4 (pv 4)) dNil))))))) (dCons (dTup (dCons dStr (dCons dStr (dCons dInt (dCons dInt (dCons dInt (dCons (dV 4 (pv 4)) dNil))))))) (dCons (dTup (dCons dStr (dCons dInt (dCons (dV 4 (pv 4)) dNil)))) (dCons (dTup (dCons dStr (dCons dInt (dCons (dV 4 (pv 4)) dNil)))) dNil)))))))))
      (pss_cons (ps_set (i := 5) sc.nd rfl (Or.inl rfl) (pe_op op_catT (pv 5) (PD.pe (dTup (dCons (dTup (dCons dStr (dCons dInt (dCons dStr (dCons (dV 4 (pv 4)) dNil))))) (dCons (dTup (dCons dStr (dCons dInt (dCons dInt (dCons (dV 4 (pv 4)) dNil))))) (dCons (dTup (dCons dStr (dCons dInt (dCons dStr (dCons dInt (dCons dInt (dCons (dV 4 (pv 4)) dNil))))))) (dCons (dTup (dCons dStr (dCons dInt (dCons dStr (dCons dStr (dCons dInt (dCons (dV 4 (pv 4)) dNil))))))) (dCons (dTup (dCons dStr (dCons dInt (dCons dStr (dCons dInt (dCons dInt (dCons (dV 4 (pv 4)) dNil))))))) dNil)))))))))
      (pss_cons (ps_set (i := 5) sc.nd rfl (Or.inl rfl) (pe_op op_catT (pv 5) (PD.pe (dTup (dCons (dTup (dCons dStr (dCons dStr (dCons dInt (dCons dInt (dCons dInt (dCons (dV 4 (pv 4)) dNil))))))) (dCons (dTup (dCons dStr (dCons dInt (dCons dStr (dCons dInt (dCons dInt (dCons (dV 4 (pv 4)) dNil))))))) (dCons (dTup (dCons dStr (dCons dInt (dCons (dV 4 (pv 4)) dNil)))) (dCons (dTup (dCons dStr (dCons dInt (dCons dStr (dCons dStr (dCons dInt (dCons (dV 4 (pv 4)) dNil))))))) (dCons (dTup (dCons dStr (dCons dInt (dCons (dV 4 (pv 4)) dNil)))) (dCons (dTup (dCons dStr (dCons dInt (dCons (dV 4 (pv 4)) dNil)))) dNil))))))))))
      (pss_cons (ps_set (i := 5) sc.nd rfl (Or.inl rfl) (pe_op op_catT (pv 5) (PD.pe (dTup (dCons (dTup (dCons dStr (dCons dInt (dCons dInt (dCons dInt (dCons (dTup (dCons dStr (dCons dInt (dCons dInt dNil)))) dNil)))))) (dCons (dTup (dCons dStr (dCons dInt (dCons dStr (dCons (dTup (dCons dInt (dCons dInt (dCons dNeg dNil)))) (dCons (dV 4 (pv 4)) dNil)))))) (dCons (dTup (dCons dStr (dCons dInt (dCons (dV 4 (pv 4)) dNil)))) (dCons (dTup (dCons dStr (dCons dInt (dCons (dV 4 (pv 4)) dNil)))) dNil))))))))
      (pss_cons (ps_set (i := 6) sc.nd rfl (Or.inl rfl) (PD.pe (dTup (dCons (dTup (dCons dStr (dCons dStr (dCons dInt (dCons dInt (dCons dStr (dCons (dTup (dCons dStr (dCons dInt (dCons dInt dNil)))) dNil))))))) (dCons (dTup (dCons dStr (dCons dInt (dCons dStr (dCons dInt (dCons dInt (dCons (dTup (dCons dStr (dCons dInt (dCons dInt dNil)))) dNil))))))) dNil)))))
      (pss_cons (ps_set (i := 7) sc.nd rfl (Or.inl rfl) (PD.pe (dTup (dCons (dTup (dCons (dTup (dCons dInt dNil)) (dCons (dV 5 (pv 5)) (dCons (dTup (dCons dStr (dCons dStr (dCons dInt (dCons dNeg (dCons dInt (dCons (dTup (dCons dInt (dCons dInt dNil))) (dCons dInt (dCons (dTup (dCons dInt dNil)) dNil))))))))) dNil)))) (dCons (dTup (dCons (dTup (dCons dInt dNil)) (dCons (dTup (dCons (dTup (dCons dStr (dCons dInt (dCons (dV 4 (pv 4)) dNil)))) dNil)) (dCons (dTup (dCons dStr (dCons dInt dNil))) dNil)))) (dCons (dTup (dCons (dTup (dCons dInt (dCons dInt dNil))) (dCons (dV 6 (pv 6)) (dCons (dTup (dCons dStr (dCons dInt dNil))) dNil)))) dNil))))))
      (pss_cons (ps_set (i := 8) sc.nd rfl (Or.inl rfl) (pe_op op_mod (pe_op op_sub (pv 1) (pv 2)) pe_int))
      (pss_cons (ps_set (i := 9) sc.nd rfl (Or.inl rfl) (pe_ifExp (pt_cmpR op_ge (pv 8) pe_int (nomark _)) (pe_op op_sub (pv 8) pe_int) (pv 8)))
      (pss_cons (ps_set (i := 10) sc.nd rfl (Or.inl rfl) (pe_lst (pa_cons (pv 8) (pa_cons (pe_ifExp (pt_cmpR op_lt (pv 9) pe_int (nomark _)) pe_int pe_int) (pa_cons (pv 8) (pa_cons pe_int pa_nil))))))
      (pss_cons (ps_if (pt_cmpR op_gt pe_int (pv 3) (nomark _)) (pss_one (ps_ret (pe_tup (pa_cons (pv 7) (pa_cons (pe_tup (pa_cons (pe_callTy call_tuple_of (by rfl) T.n_tuple (by decide +kernel) (pa_cons (pv 10) pa_nil)) (pa_cons (PD.pe (dTup (dCons dStr (dCons dStr (dCons (dTup (dCons dStr (dCons dInt (dCons dInt dNil)))) dNil))))) pa_nil))) pa_nil))))) pss_nil)
      (pss_cons (ps_set (i := 10) sc.nd rfl (Or.inl rfl) (pe_op op_cat (pv 10) (pe_lst (pa_cons (pe_op op_mod (pe_op op_add (pe_op op_mul pe_int (pv 8)) pe_int) pe_int) (pa_cons pe_int pa_nil)))))
      (pss_cons (ps_if (pt_cmpR op_lt (pv 9) pe_int (nomark _)) (pss_one (ps_ret (pe_tup (pa_cons (pv 7) (pa_cons (pe_tup (pa_cons (pe_callTy call_tuple_of (by rfl) T.n_tuple (by decide +kernel) (pa_cons (pe_op op_cat (pv 10) (pe_lst (pa_cons (pv 2) pa_nil))) pa_nil)) (pa_cons (PD.pe (dTup (dCons dStr (dCons (dV 2 (pv 2)) dNil)))) pa_nil))) pa_nil))))) pss_nil)
      (pss_one (ps_ret (pe_tup (pa_cons (pv 7) (pa_cons (pe_tup (pa_cons (pe_callTy call_tuple_of (by rfl) T.n_tuple (by decide +kernel) (pa_cons (pv 10) pa_nil)) (pa_cons (pe_ifExp (pt_cmpR op_lt (pv 8) (pv 2) (nomark _)) (PD.pe (dTup (dCons dStr (dCons (dTup (dCons dStr (dCons dInt (dCons dInt dNil)))) dNil)))) (PD.pe (dTup (dCons dStr (dCons dStr (dCons (dTup (dCons dStr (dCons dInt (dCons dInt dNil)))) dNil)))))) pa_nil))) pa_nil)))))))))))))))))), ?_⟩
  refine ⟨nu [], (by repeat' first | exact trivial | exact ⟨_, rfl, (DT.int a)⟩ | refine And.intro ?_ ?_), fun vp H1 s1 dp => ?_⟩
  replace dp : DT H1 vp pM := dp
  refine ⟨nu [(1, .int a), (4, pM)], (by repeat' first | exact trivial | exact ⟨_, rfl, dp⟩ | exact ⟨_, rfl, (DT.int a)⟩ | refine And.intro ?_ ?_), fun v5 H2 s2 d5 => ?_⟩
  replace dp := dp.keep (TK.same s2)
  obtain ⟨p5, x5, rfl, h5, t5⟩ := d5.tupI
  refine ⟨_, rfl, nu [(4, pM)], (by repeat' first | exact trivial | exact ⟨_, rfl, dp⟩ | refine And.intro ?_ ?_), fun w H3 s3 e => ?_⟩
  replace dp := dp.keep (TK.same s3)
  obtain ⟨p, x, rfl, hp, t⟩ := e.tupI
  refine ⟨p5, p, x5, x, rfl, rfl, SqT.of (s3 _ _ h5), SqT.of hp, ?_, ?_, ?_, fun _ p6 h6 => ?_⟩
  · intro z; have := t5.len; rw [z] at this; cases this
  · rw [t5.len, t.len, sizeLine_eq]; show 6 + 5 ≤ 16777216; decide
  · intro z; have := t.len; rw [z] at this; cases this
  replace t := DTs.app (t5.keep (TK.same s3)) t
  generalize x5 ++ x = x7 at t
  have s4 := same_new (o := .tup x7) h6
  replace t := t.keep (TK.same s4)
  replace dp := dp.keep (TK.same s4)
  have h7 : upd H3 p6 (.tup x7) p6 = some (.tup x7) := upd_same
  generalize upd H3 p6 (.tup x7) = H4 at *
  refine ⟨_, rfl, nu [(4, pM)], (by repeat' first | exact trivial | exact ⟨_, rfl, dp⟩ | refine And.intro ?_ ?_), fun w H5 s5 e => ?_⟩
  replace dp := dp.keep (TK.same s5)
  obtain ⟨p, x, rfl, hp, t2⟩ := e.tupI
  refine ⟨p6, p, x7, x, rfl, rfl, SqT.of (s5 _ _ h7), SqT.of hp, ?_, ?_, ?_, fun _ p8 h8 => ?_⟩
  · intro z; have := t.len; rw [z] at this; cases this
  · rw [t.len, t2.len, sizeLine_eq]; show 11 + 6 ≤ 16777216; decide
  · intro z; have := t2.len; rw [z] at this; cases this
  replace t := DTs.app (t.keep (TK.same s5)) t2
  generalize x7 ++ x = x9 at t
  have s6 := same_new (o := .tup x9) h8
  replace t := t.keep (TK.same s6)
  replace dp := dp.keep (TK.same s6)
  have h9 : upd H5 p8 (.tup x9) p8 = some (.tup x9) := upd_same
  generalize upd H5 p8 (.tup x9) = H6 at *
  refine ⟨_, rfl, nu [(4, pM)], (by repeat' first | exact trivial | exact ⟨_, rfl, dp⟩ | refine And.intro ?_ ?_), fun w H7 s7 e => ?_⟩
  replace dp := dp.keep (TK.same s7)
  obtain ⟨p, x, rfl, hp, t2⟩ := e.tupI
  refine ⟨p8, p, x9, x, rfl, rfl, SqT.of (s7 _ _ h9), SqT.of hp, ?_, ?_, ?_, fun _ p10 h10 => ?_⟩
  · intro z; have := t.len; rw [z] at this; cases this
  · rw [t.len, t2.len, sizeLine_eq]; show 17 + 4 ≤ 16777216; decide
  · intro z; have := t2.len; rw [z] at this; cases this
  replace t := DTs.app (t.keep (TK.same s7)) t2
  generalize x9 ++ x = x11 at t
  have s8 := same_new (o := .tup x11) h10
  replace t := t.keep (TK.same s8)
  replace dp := dp.keep (TK.same s8)
  have h11 : upd H7 p10 (.tup x11) p10 = some (.tup x11) := upd_same
  generalize upd H7 p10 (.tup x11) = H8 at *
  have d5 : DT H8 (.ref p10) (.tuple ((rows0 a).map rwD)) := .tup h11 (by rw [rows_are]; exact t)
  refine ⟨nu [], (by repeat' first | exact trivial | exact ⟨_, rfl, dp⟩ | refine And.intro ?_ ?_), fun v6 H9 s9 d6 => ?_⟩
  replace dp := dp.keep (TK.same s9)
  replace d5 := d5.keep (TK.same s9)
  replace d6 : DT H9 v6 (.tuple (rows2.map rwD)) := by rw [rows2_are]; exact d6
  refine ⟨nu [(4, pM), (5, .tuple ((rows0 a).map rwD)), (6, .tuple (rows2.map rwD))], (by repeat' first | exact trivial | exact ⟨_, rfl, dp⟩ | exact ⟨_, rfl, d5⟩ | exact ⟨_, rfl, d6⟩ | refine And.intro ?_ ?_), fun v7 H10 s10 d7 => ?_⟩
  replace d7 : DT H10 v7 (.tuple ((bls a).map blD)) := by rw [bls_are]; exact d7
  have sA := Same.tr s1 (Same.tr s2 (Same.tr s3 (Same.tr s4 (Same.tr s5 (Same.tr s6 (Same.tr s7 (Same.tr s8 (Same.tr s9 s10))))))))
  clear s1 s2 s3 s4 s5 s6 s7 s8 s9 s10 dp d5 d6 t h5 t5 hp h6 h7 h8 h9 h10 h11 e t2
  refine ⟨_, rfl, _, rfl, _, _, rfl, rfl, _, _, rfl, rfl, (by show (0 : Int) < 4294967296; decide), ?_⟩
  refine ⟨_, rfl, _, _, rfl, rfl, _, rfl, ?_⟩
  refine ifSub rfl ?_
  refine ⟨_, rfl, _, rfl, _, _, rfl, rfl, _, rfl, ?_⟩
  refine ifC ?_
  refine ⟨_, rfl, (by show 4 ≤ sizeLine; decide), fun l1 f1 => ?_⟩
  have g1 : upd H10 l1 (.lst ((outs0 a b).map V.int)) l1 = some (.lst ((outs0 a b).map V.int)) := upd_same
  have s11 := same_new (o := .lst ((outs0 a b).map V.int)) f1
  have fin : ∀ (os : List Int) (e : PyData) (Ha Hb : Hp) (q : Addr) (ve : V), due a b lim = (os, e) → Same H10 Ha → Ha q = none → Same (upd Ha q (.tup (os.map V.int))) Hb → DT Hb ve e →
      2 ≤ sizeLine ∧ ∀ t2, Hb t2 = none → (2 ≤ sizeLine ∧ ∀ t3, upd Hb t2 (.tup [.ref q, ve]) t3 = none → Q (.ref t3) (upd (upd Hb t2 (.tup [.ref q, ve])) t3 (.tup [v7, .ref t2]))) := by
    intro os e Ha Hb q ve ed sa fq sb de
    have z2 : 2 ≤ sizeLine := by rw [sizeLine_eq]; decide
    refine ⟨z2, fun t2 k2 => ⟨z2, fun t3 k3 => ?_⟩⟩
    have s2 := same_new (o := .tup [.ref q, ve]) k2
    have s3 := same_new (o := .tup [v7, .ref t2]) k3
    have sq := Same.tr (same_new (o := .tup (os.map V.int)) fq) sb
    refine h v7 (.ref t2) _ t3 (Same.tr sA (Same.tr sa (Same.tr sq (Same.tr s2 s3)))) upd_same (d7.keep (TK.same (Same.tr sa (Same.tr sq (Same.tr s2 s3))))) ?_
    rw [ed]
    exact .tup (s3 _ _ upd_same) (.cons (DT.of_ints (s3 _ _ (s2 _ _ (sb _ _ upd_same)))) (.cons (de.keep (TK.same (Same.tr s2 s3))) .nil))
  refine ⟨_, rfl, _, _, rfl, rfl, _, rfl, ?_⟩
  refine ite2 (fun c => ?_) (fun c => ?_)
  · refine ⟨_, rfl, _, rfl, l1, _, rfl, Or.inl ⟨SqL.of g1, fun q fq => ?_⟩⟩
    refine ⟨nu [], (by repeat' first | exact trivial | exact ⟨_, rfl, (DT.int a)⟩ | refine And.intro ?_ ?_), fun ve H12 s12 de => ?_⟩
    exact fin (outs0 a b) _ _ _ q ve (if_pos c) s11 fq s12 de
  have hdue : due a b lim = _ := if_neg c
  refine ⟨_, rfl, _, rfl, _, _, rfl, rfl, Or.inl ⟨by decide, by decide⟩, _, _, rfl, rfl, _, _, rfl, rfl, (by show (0 : Int) < 4294967296; decide), (by show 2 ≤ sizeLine; decide), fun l2 f2 => ?_⟩
  have s12 := same_new (o := .lst ([(2 * lowA a b + 4) % 4294967296, 0].map V.int)) f2
  refine ⟨l1, l2, _, _, rfl, rfl, s12 _ _ g1, upd_same, sz _ (by show 4 + 2 ≤ _; decide), fun l3 f3 => ?_⟩
  have s13 := same_new (o := .lst ((outs1 a b).map V.int)) f3
  have sB := Same.tr s11 (Same.tr s12 s13)
  have g3 : upd (upd (upd H10 l1 (.lst ((outs0 a b).map V.int))) l2 (.lst ([(2 * lowA a b + 4) % 4294967296, 0].map V.int))) l3 (.lst ((outs1 a b).map V.int)) l3 = some (.lst ((outs1 a b).map V.int)) := upd_same
  refine ⟨_, rfl, _, _, rfl, rfl, _, rfl, ?_⟩
  refine ite2 (fun c2 => ?_) (fun c2 => ?_)
  · refine ⟨_, rfl, _, rfl, _, rfl, (by show 1 ≤ sizeLine; decide), fun l4 f4 => ?_⟩
    have s14 := same_new (o := .lst ([b].map V.int)) f4
    refine ⟨l3, l4, _, _, rfl, rfl, s14 _ _ g3, upd_same, sz _ (by show 6 + 1 ≤ _; decide), fun l5 f5 => ?_⟩
    have s15 := same_new (o := .lst ((outs1 a b ++ [b]).map V.int)) f5
    have sC := Same.tr sB (Same.tr s14 s15)
    refine ⟨l5, (outs1 a b ++ [b]).map V.int, rfl, Or.inl ⟨SqL.of upd_same, fun q fq => ?_⟩⟩
    refine ⟨nu [(2, .int b)], (by repeat' first | exact trivial | exact ⟨_, rfl, (DT.int b)⟩ | refine And.intro ?_ ?_), fun ve H12 s12' de => ?_⟩
    exact fin (outs1 a b ++ [b]) _ _ _ q ve (hdue.trans (if_pos c2)) sC fq s12' de
  · refine ⟨_, rfl, _, rfl, l3, _, rfl, Or.inl ⟨SqL.of g3, fun q fq => ?_⟩⟩
    refine ⟨_, rfl, _, rfl, _, _, rfl, rfl, _, rfl, ?_⟩
    have hdue2 : due a b lim = _ := hdue.trans (if_neg c2)
    refine ite2 (fun c3 => ?_) (fun c3 => ?_)
    · refine ⟨nu [], (by repeat' first | exact trivial | exact ⟨_, rfl, (DT.int b)⟩ | refine And.intro ?_ ?_), fun ve H12 s12' de => ?_⟩
      exact fin (outs1 a b) _ _ _ q ve (hdue2.trans (congrArg (Prod.mk _) (if_pos c3))) sB fq s12' de
    · refine ⟨nu [], (by repeat' first | exact trivial | exact ⟨_, rfl, (DT.int b)⟩ | refine And.intro ?_ ?_), fun ve H12 s12' de => ?_⟩
      exact fin (outs1 a b) _ _ _ q ve (hdue2.trans (congrArg (Prod.mk _) (if_neg c3))) sB fq s12' de
end
end K55

namespace K55
open PySem PyProof.Rows L2 My Ru M55
open Builtin (bitAnd bitOr)
def sp_law (K : PySem.W.Frag) : Sp := sp1 fun x H Q _ => ∃ (l : Addr) (ns : List Int), x = .ref l ∧ SqL K H l (ns.map V.int) ∧ ∀ H' : Hp, Q (.bl true) H'
def pN : PyData := .tuple [.str "m", .int 4, .int 4]
def thG : Th := ⟨"g", "int[3]", 3, [1, 11]⟩
def uAll (a : Int) : Un := ⟨"m", [thG], fns a⟩
def uM (a : Int) : Un := ⟨"m", [], [fMain a]⟩
def uN : Un := ⟨"n", [thG], [fF]⟩
def uK : Un := ⟨"k", [], [fH]⟩
theorem nodup_fns (a : Int) : (((fns a).map Fn.nm)).Nodup := by
  show (["main", "f", "h"] : List Str).Nodup
  decide
theorem fold_one : foldTh [thG] = (([V.int 1, V.int 11, V.int 0, V.non] : List V), ([(Sum.inr "g", V.int 4096)] : List (Key × V))) := rfl
theorem th_small : ∀ t ∈ [thG], t.words ≤ 1000 ∧ -1000 ≤ t.words ∧ t.firsts.length ≤ 1000 := by
  intro t ht
  obtain rfl : t = thG := by simpa using ht
  exact ⟨by decide, by decide, by decide⟩
theorem ran_dt {H' : Hp} {m : Mm} {r : Addr} {os : List Int} {d : PyData} (rt : ranTo H' m r) (h1 : m.out = os.map V.int) (h2 : m.en = some d) :
    ∃ (o : Addr) (ev : V), H' r = some (.tup [.ref o, ev, .int m.st]) ∧ H' o = some (.tup (os.map V.int)) ∧ DT H' ev d := by
  obtain ⟨o, e, dx, a1, a2, a3, a4⟩ := rt
  rw [h1] at a2
  rw [h2] at a3
  injection a3 with a3
  subst a3
  exact ⟨o, e, a1, a2, a4⟩
theorem neqv {d e : PyData} (h : PyData.eqv d e = true) : (!PyData.eqv d e) = false := by rw [h]; rfl
theorem cut1 {K : PySem.W.Frag} {H : Hp} {Q : VK} {o : Addr} {x : V} {os : List V} (ho : H o = some (.tup (x :: os))) (h : ∀ p H', Same H H' → H' p = some (.tup [x]) → Q (.ref p) H') : rSlA K (.ref o) none (some 1) H Q := by
  refine ⟨o, x :: os, rfl, SqT.of ho, fun hw => h _ _ Same.rf ?_, fun _ p hp => h _ _ (same_new hp) ?_⟩
  · have z : HT.sIx (x :: os).length (x :: os).length (some ((1 : Nat) : Int)) = (x :: os).length := hw.2
    rw [HT.sIx_nat, List.length_cons] at z
    have : os = [] := List.eq_nil_of_length_eq_zero (by omega)
    rw [ho, this]
  · rw [upd_same]
    unfold cutV
    have z : HT.sIx (x :: os).length (x :: os).length (some ((1 : Nat) : Int)) = 1 := by
      rw [HT.sIx_nat, List.length_cons]; omega
    show some (HO.tup (List.take (HT.sIx (x :: os).length (x :: os).length (some ((1 : Nat) : Int)) - 0) (x :: os))) = _
    rw [z]; rfl
def gvl : List V := [.int 1, .int 2, .int 3, .int 4, .non, .non, .int 5, .int 6, .non, .int 7, .non, .int 8, .int 9, .non, .int 10, .non, .int 11, .int 12, .int 13, .non, .non]
def gvd : List PyData := [.int 1, .int 2, .int 3, .int 4, .none, .none, .int 5, .int 6, .none, .int 7, .none, .int 8, .int 9, .none, .int 10, .none, .int 11, .int 12, .int 13, .none, .none]
theorem gv_dp {K : PySem.W.Frag} {H : Hp} : DpAll K H gvl gvd := (.cons (.int 1) (.cons (.int 2) (.cons (.int 3) (.cons (.int 4) (.cons .non (.cons .non (.cons (.int 5) (.cons (.int 6) (.cons .non (.cons (.int 7) (.cons .non (.cons (.int 8) (.cons (.int 9) (.cons .non (.cons (.int 10) (.cons .non (.cons (.int 11) (.cons (.int 12) (.cons (.int 13) (.cons .non (.cons .non .nil)))))))))))))))))))))
theorem gvl_eq (a : Int) : (rows0 a).map (fun r => gvV r.k) = gvl := rfl
theorem gv_shaped : SeqAt.shaped (.list gvd) = true := by decide
theorem gv_same : PyData.eqv (.list gvd) (.list gvd) = true := by decide
theorem rows_ok (a : Int) : ∀ r ∈ rows0 a, okG r.k = true := List.all_eq_true.mp (show (rows0 a).all (fun r => okG r.k) = true from rfl)
theorem rows_len (a : Int) : (rows0 a).length = 21 := rfl
theorem DTs.row {H : Hp} {vs : List V} {rs : List Rw} (h : DTs H vs (rs.map rwD)) {i : Nat} {x : V} (e : vs[i]? = some x) : ∃ r, rs[i]? = some r ∧ DT H x (rwD r) := by
  have hl := h.len
  rw [List.length_map] at hl
  have hi : i < vs.length := (List.getElem?_eq_some_iff.mp e).1
  have er : rs[i]? = some (rs[i]'(by omega)) := List.getElem?_eq_getElem (by omega)
  have em : (rs.map rwD)[i]? = some (rwD (rs[i]'(by omega))) := by rw [List.getElem?_map, er]; rfl
  obtain ⟨v, e1, d1⟩ := h.get em
  rw [e] at e1
  injection e1 with e1
  subst e1
  exact ⟨_, er, d1⟩
theorem reSt {t : Ends → L2.St → Hp → Prop} {D : Ends} {σ σ' : L2.St} {H : Hp} (e : σ = σ') (h : t D σ' H) : t D σ H := e ▸ h
section
variable {P : Program} {w : World} {K : PySem.W.Frag} {mg : Str → Option Value} {base : Heap}
theorem sc_law : FnScope ["script", "draw", "words", "p", "late", "first", "unit", "split", "rows", "a", "b", "limit", "blocks", "due", "row"] ["script"] (defScope s_law) := ⟨rfl, rfl, rfl, by decide +kernel, rfl, by decide +kernel, by decide +kernel⟩
theorem g_law (T : Txt K mg w) (G__law_pick : Gd P w K mg base CX0 4 "_law_pick" ["draw", "things"] (sp__law_pick K)) (G__law_next : Gd P w K mg base CX0 3 "_law_next" ["draw", "bound"] (sp__law_next K)) (G__law_main : Gd P w K mg base CX0 1 "_law_main" ["draw", "a", "b", "limit"] (sp__law_main K)) (G_run_low : Gd P w K mg base CX0 9 "run_low" ["units", "inputs", "limit", "most"] (sp_run_low K)) (G_low_gives : Gd P w K mg base CX0 1 "low_gives" ["row"] (sp_low_gives K)) (G_low_uses : Gd P w K mg base CX0 2 "low_uses" ["row"] (sp_low_uses K)) (G_low_hands : Gd P w K mg base CX0 1 "low_hands" ["end"] (sp_low_hands K)) (G_low_end_uses : Gd P w K mg base CX0 2 "low_end_uses" ["end"] (sp_low_end_uses K)) : Gd P w K mg base CX0 10 "law" ["script"] (sp_law K) := by
  have sc := sc_law
  refine T.d_law.ok sc len1 (fun _ _ _ _ _ _ us hl => match us, hl with | [_], _ => rfl) (fun f cdv A outer s H vs Q E hr h => ?_)
  obtain ⟨x0, rfl, h⟩ := h
  obtain ⟨sl, ns0, rfl, hS, h⟩ := h
  refine ⟨_, (pss_cons (ps_set (i := 1) sc.nd rfl (Or.inl rfl) (pe_lst (pa_cons (pe_slice sl_list (pv 0) po_none (po_some pe_int)) (pa_cons pe_int (pa_cons pe_int pa_nil)))))
      (pss_cons (ps_set (i := 2) sc.nd rfl (Or.inl rfl) (PD.pe (dTup (dCons dInt (dCons dInt (dCons dInt (dCons dInt (dCons dInt (dCons dInt (dCons dInt (dCons dInt dNil)))))))))))
      (pss_cons (ps_par3 (i := 9) (j := 10) (l := 11) (by rfl) sc.nd rfl rfl rfl (by decide) (by decide) (by decide) rfl rfl rfl (pa_cons (pe_g G__law_pick (hr.mono (by omega)) pass0 (pa_cons (pv 1) (pa_cons (pv 2) pa_nil))) (pa_cons (pe_g G__law_pick (hr.mono (by omega)) pass0 (pa_cons (pv 1) (pa_cons (pv 2) pa_nil))) (pa_cons (pe_op op_add pe_int (pe_g G__law_next (hr.mono (by omega)) pass0 (pa_cons (pv 1) (pa_cons pe_int pa_nil)))) pa_nil))) (by rfl))
      (pss_cons (ps_asg (pe_g G__law_main (hr.mono (by omega)) pass0 (pa_cons (pv 1) (pa_cons (pv 9) (pa_cons (pv 10) (pa_cons (pv 11) pa_nil))))) (pg_tup rfl (pgs_cons (pg_name (i := 12) sc.nd rfl (Or.inl rfl)) (pgs_cons (pg_name (i := 13) sc.nd rfl (Or.inl rfl)) pgs_nil))))
      (pss_cons (ps_set (i := 3) sc.nd rfl (Or.inl rfl) (PD.pe (dTup (dCons dStr (dCons dInt (dCons dInt dNil))))))
      (pss_cons (ps_set (i := 4) sc.nd rfl (Or.inl rfl) (PD.pe (dTup (dCons dStr (dCons (dTup dNil) (dCons (dTup (dCons (dTup (dCons (dTup (dCons dInt (dCons dInt (dCons dInt dNil)))) (dCons (dTup (dCons (dTup (dCons dStr (dCons dStr (dCons dInt (dCons dInt (dCons dInt (dCons (dV 3 (pv 3)) dNil))))))) (dCons (dTup (dCons dStr (dCons dStr (dCons dInt (dCons dInt (dCons dInt (dCons (dV 3 (pv 3)) dNil))))))) dNil))) (dCons (dTup (dCons dStr (dCons dInt dNil))) dNil)))) dNil)) dNil))))))
      (pss_cons (ps_set (i := 5) sc.nd rfl (Or.inl rfl) (PD.pe (dTup (dCons dStr (dCons (dTup dNil) (dCons (dTup (dCons (dTup (dCons (dTup (dCons dInt (dCons dInt (dCons dInt dNil)))) (dCons (dNo (dCons (dTup (dCons dStr (dCons dInt (dCons (dV 3 (pv 3)) dNil)))) dNil)) (dCons (dTup (dCons dStr (dCons dInt (dCons (dTup (dCons dInt (dCons dInt dNil))) dNil)))) dNil)))) (dCons (dTup (dCons (dTup (dCons dInt (dCons dInt dNil))) (dCons (dTup (dCons (dTup (dCons dStr (dCons dStr (dCons dInt (dCons dInt (dCons dInt (dCons (dV 3 (pv 3)) dNil))))))) dNil)) (dCons (dTup (dCons dStr (dCons dStr (dCons (dTup (dCons dInt (dCons dInt (dCons dInt dNil)))) (dCons (dV 3 (pv 3)) dNil))))) dNil)))) dNil))) dNil))))))
      (pss_cons (ps_set (i := 6) sc.nd rfl (Or.inl rfl) (PD.pe (dTup (dCons dStr (dCons (dTup (dCons (dTup (dCons dStr (dCons dStr (dCons dInt (dCons (dTup (dCons dInt (dCons dInt dNil))) dNil))))) dNil)) (dCons (dTup (dCons (dTup (dCons dStr (dCons (dTup (dCons dInt (dCons dInt dNil))) (dCons (dV 12 (pv 12)) dNil)))) (dCons (dV 5 (pv 5)) (dCons (dV 4 (pv 4)) dNil)))) dNil))))))
      (pss_cons (ps_if (PW.pt (pw_or (pt_cmpR (op_neD hr.units) (pe_slice sl_tup (pe_g G_run_low (hr.mono (by omega)) pass0 (pa_cons (pe_lst (pa_cons (pv 6) pa_nil)) (pa_cons (pe_lst (pa_cons (pv 10) pa_nil)) (pa_cons (pv 11) (pa_cons pe_int pa_nil))))) po_none (po_some pe_int)) (pv 13) (nomark _)) (pw_or1 (pt_cmpR (op_neD hr.units) (pe_slice sl_tup (pe_g G_run_low (hr.mono (by omega)) pass0 (pa_cons (pe_lst (pa_cons (pv 6) pa_nil)) (pa_cons (pe_lst pa_nil) (pa_cons (pv 11) (pa_cons pe_int pa_nil))))) po_none (po_some pe_int)) (PD.pe (dTup (dCons (dTup dNil) (dCons (dTup (dCons dStr (dCons dStr (dCons (dTup (dCons dStr (dCons dInt (dCons dInt dNil)))) dNil)))) dNil)))) (nomark _))))) (pss_one (ps_ret pe_bl)) pss_nil)
      (pss_cons (ps_set (i := 7) sc.nd rfl (Or.inl rfl) (pe_lst (pa_cons (PD.pe (dTup (dCons dStr (dCons (dTup dNil) (dCons (dTup (dCons (dTup (dCons dStr (dCons (dTup (dCons dInt (dCons dInt dNil))) (dCons (dV 12 (pv 12)) dNil)))) dNil)) dNil))))) (pa_cons (PD.pe (dTup (dCons dStr (dCons (dTup (dCons (dTup (dCons dStr (dCons dStr (dCons dInt (dCons (dTup (dCons dInt (dCons dInt dNil))) dNil))))) dNil)) (dCons (dTup (dCons (dV 5 (pv 5)) dNil)) dNil))))) (pa_cons (PD.pe (dTup (dCons dStr (dCons (dTup dNil) (dCons (dTup (dCons (dV 4 (pv 4)) dNil)) dNil))))) pa_nil)))))
      (pss_cons (ps_if (PW.pt (pw_or (pt_cmpR (op_neD hr.units) (pe_slice sl_tupA (pe_ix ix_tup (pe_g G_run_low (hr.mono (by omega)) pass0 (pa_cons (pv 7) (pa_cons (pe_lst (pa_cons (pv 10) (pa_cons pe_int (pa_cons pe_int pa_nil)))) (pa_cons (pv 11) (pa_cons pe_int pa_nil))))) pe_int (fun _ _ => rfl)) po_none (po_some pe_int)) (pe_slice sl_tupA (pe_ix ix_tup (pv 13) pe_int (fun _ _ => rfl)) po_none (po_some pe_int)) (nomark _)) (pw_or1 (pt_cmpR (op_neD hr.units) (pe_g G_run_low (hr.mono (by omega)) pass0 (pa_cons (pe_lst (pa_cons (pv 6) pa_nil)) (pa_cons (pe_lst (pa_cons (pv 10) pa_nil)) (pa_cons (pv 11) (pa_cons pe_int pa_nil))))) (PD.pe (dTup (dCons (dTup dNil) (dCons (dTup (dCons dStr dNil)) (dCons dInt dNil))))) (nomark _))))) (pss_one (ps_ret pe_bl)) pss_nil)
      (pss_cons (ps_set (i := 8) sc.nd rfl (Or.inl rfl) (pe_ix ix_tup (pe_ix ix_tup (pv 12) pe_int (fun _ _ => rfl)) pe_int (fun _ _ => rfl)))
      (pss_cons (ps_if (pt_cmpR (op_neD hr.units) (pe_lc (own := [("row", 14)]) (g := gName 14) (by rfl) sc.nd (pi_tup (pv 8)) (blkOk_by (own := [("row", 14)]) (N := ["script", "draw", "words", "p", "late", "first", "unit", "split", "rows", "a", "b", "limit", "blocks", "due", "row"]) (sc := defScope s_law) (by decide +kernel)) (fun _ _ _ _ _ => (pg_name (i := 14) sc.nd rfl (Or.inl rfl))) (fun _ _ _ _ _ => pts_nil) (fun _ _ _ _ _ => (pe_g G_low_gives (hr.mono (by omega)) pass0 (pa_cons (pv 14) pa_nil)))) (pe_lst (pa_cons pe_int (pa_cons pe_int (pa_cons pe_int (pa_cons pe_int (pa_cons pe_non (pa_cons pe_non (pa_cons pe_int (pa_cons pe_int (pa_cons pe_non (pa_cons pe_int (pa_cons pe_non (pa_cons pe_int (pa_cons pe_int (pa_cons pe_non (pa_cons pe_int (pa_cons pe_non (pa_cons pe_int (pa_cons pe_int (pa_cons pe_int (pa_cons pe_non (pa_cons pe_non pa_nil)))))))))))))))))))))) (nomark _)) (pss_one (ps_ret pe_bl)) pss_nil)
      (pss_cons (ps_if (PW.pt (pw_or (pt_cmpR (op_neD hr.units) (pe_g G_low_uses (hr.mono (by omega)) pass0 (pa_cons (pe_ix ix_tup (pv 8) pe_int (fun _ _ => rfl)) pa_nil)) (PD.pe (dTup (dCons dInt (dCons dInt dNil)))) (nomark _)) (pw_or (pt_cmpR (op_neD hr.units) (pe_g G_low_uses (hr.mono (by omega)) pass0 (pa_cons (pe_ix ix_tup (pv 8) pe_int (fun _ _ => rfl)) pa_nil)) (PD.pe (dTup (dCons dInt (dCons dInt dNil)))) (nomark _)) (pw_or (pt_cmpR (op_neD hr.units) (pe_g G_low_uses (hr.mono (by omega)) pass0 (pa_cons (pe_ix ix_tup (pv 8) pe_int (fun _ _ => rfl)) pa_nil)) (PD.pe (dTup dNil)) (nomark _)) (pw_or1 (pt_cmpR (op_neD hr.units) (pe_g G_low_uses (hr.mono (by omega)) pass0 (pa_cons (pe_ix ix_tup (pv 8) pe_int (fun _ _ => rfl)) pa_nil)) (PD.pe (dTup (dCons dInt dNil))) (nomark _))))))) (pss_one (ps_ret pe_bl)) pss_nil)
      (pss_one (ps_ret (pe_and (pe_cmpR (op_eqD hr.units) (pe_g G_low_hands (hr.mono (by omega)) pass0 (pa_cons (pe_ix ix_tup (pe_ix ix_tup (pv 12) pe_int (fun _ _ => rfl)) pe_int (fun _ _ => rfl)) pa_nil)) (pe_lst (pa_cons (PD.pe (dTup (dCons dInt (dCons (dTup (dCons dInt (dCons dInt dNil))) dNil)))) (pa_cons (PD.pe (dTup (dCons dInt (dCons (dTup (dCons dInt dNil)) dNil)))) pa_nil))) (nomark _)) (pe_one (pe_cmpR (op_eqD hr.units) (pe_g G_low_end_uses (hr.mono (by omega)) pass0 (pa_cons (pe_ix ix_tup (pe_ix ix_tup (pv 12) pe_int (fun _ _ => rfl)) pe_int (fun _ _ => rfl)) pa_nil)) (PD.pe (dTup (dCons dInt (dCons dInt (dCons dInt (dCons dInt dNil)))))) (nomark _)))))))))))))))))))), ?_⟩
  obtain ⟨ms, hms⟩ := cut_ints ns0 none (some 63)
  refine ⟨_, rfl, 63, rfl, sl, _, rfl, hS, fun s0 hs0 => ?_⟩
  rw [hms]
  refine ⟨(by show 3 ≤ sizeLine; decide), fun d hd => ?_⟩
  have sd : s0 ≠ d := ne_of_none upd_same hd
  generalize hH1 : upd (upd H s0 (.lst (ms.map V.int))) d (.lst [.ref s0, .int 0, .int 0]) = H1 at *
  have hd1 : H1 d = some (.lst [.ref s0, .int 0, .int 0]) := by rw [← hH1]; exact upd_same
  have hs1 : H1 s0 = some (.lst (ms.map V.int)) := by rw [← hH1, upd_ne sd]; exact upd_same
  clear hH1 hd hs0 hS hms
  refine ⟨nu [], (by repeat' first | exact trivial | exact ⟨_, rfl, (DT.int 0)⟩ | refine And.intro ?_ ?_), fun vw H2 s2 dw => ?_⟩
  obtain ⟨tw, wx, rfl, hw, tw'⟩ := dw.tupI
  obtain rfl : wx = words.map V.int := DTs.ints (ns := words) tw'
  clear dw tw'
  have hd2 := s2 _ _ hd1
  have hs2 := s2 _ _ hs1
  have wd : tw ≠ d := ne_of hw hd2 (by intro z; cases z)
  have wn : words.map V.int ≠ [] := by intro z; cases z
  refine ⟨_, rfl, _, rfl, _, _, rfl, d, s0, ms, 0, tw, words.map V.int, rfl, rfl, hd2, hs2, by decide, by decide, hw, wn, fun va H3 ha b3 e3 => ?_⟩
  obtain ⟨a, ha', rfl⟩ := List.mem_map.mp ha
  have hs3 := b3 _ _ hs2 (by simpa using sd)
  have hw3 := b3 _ _ hw (by simpa using wd)
  refine ⟨_, rfl, _, rfl, _, _, rfl, d, s0, ms, 0 + 1, tw, words.map V.int, rfl, rfl, e3, hs3, by decide, by decide, hw3, wn, fun va H4 hb b4 e4 => ?_⟩
  obtain ⟨b, hb', rfl⟩ := List.mem_map.mp hb
  have hs4 := b4 _ _ hs3 (by simpa using sd)
  refine ⟨_, rfl, _, _, rfl, d, s0, ms, 0 + 1 + 1, 5, rfl, rfl, e4, hs4, by decide, by decide, by decide, fun r H5 r0 r1 b5 e5 => ?_⟩
  refine ⟨_, _, rfl, rfl, ?_⟩
  have hl : 2 + r ∈ ([2, 3, 4, 5, 6] : List Int) := by
    have : r = 0 ∨ r = 1 ∨ r = 2 ∨ r = 3 ∨ r = 4 := by omega
    rcases this with rfl | rfl | rfl | rfl | rfl <;> decide
  obtain ⟨n1, n2, n3, n4, n5⟩ := ran_all ha' hb' hl
  clear ha hb ha' hb' hl b3 b4 b5 e3 e4 hs2 hs3 hs4 hw hw3 hd1 hd2 hs1 s2 r0 r1 wn wd sd e5
  refine ⟨_, _, _, rfl, ?_⟩
  refine ⟨_, rfl, _, rfl, _, rfl, _, rfl, _, _, _, _, rfl, a, b, 2 + r, rfl, rfl, rfl, fun va vd H6 t _ ht dv dd => ?_⟩
  refine ⟨t, _, rfl, SqT.of ht, rfl, ?_⟩
  refine ⟨va, [vd], rfl, vd, [], rfl, rfl, ?_⟩
  refine reSt (σ' := [some (.ref sl), some (.ref d), some (.ref tw), none, none, none, none, none, none, some (.int a), some (.int b), some (.int (2 + r)), some va, some vd, none]) rfl ?_
  refine ⟨nu [], (by repeat' first | exact trivial | exact ⟨_, rfl, dv⟩ | refine And.intro ?_ ?_), fun v3 H7 s7 d3 => ?_⟩
  replace d3 : DT H7 v3 pN := d3
  replace dv := dv.keep (TK.same s7)
  replace dd := dd.keep (TK.same s7)
  refine ⟨nu [(3, pN)], (by repeat' first | exact trivial | exact ⟨_, rfl, d3⟩ | refine And.intro ?_ ?_), fun v4 H8 s8 d4 => ?_⟩
  replace d4 : DT H8 v4 (fnD fH) := d4
  replace d3 := d3.keep (TK.same s8)
  replace dv := dv.keep (TK.same s8)
  replace dd := dd.keep (TK.same s8)
  refine ⟨nu [(3, pN)], (by repeat' first | exact trivial | exact ⟨_, rfl, d3⟩ | refine And.intro ?_ ?_), fun v5 H9 s9 d5 => ?_⟩
  replace d5 : DT H9 v5 (fnD fF) := d5
  replace d4 := d4.keep (TK.same s9)
  replace dv := dv.keep (TK.same s9)
  replace dd := dd.keep (TK.same s9)
  refine ⟨nu [(4, fnD fH), (5, fnD fF), (12, .tuple ((bls a).map blD))], (by repeat' first | exact trivial | exact ⟨_, rfl, d4⟩ | exact ⟨_, rfl, d5⟩ | exact ⟨_, rfl, dv⟩ | refine And.intro ?_ ?_), fun v6 H10 s10 d6 => ?_⟩
  replace d6 : DT H10 v6 (unD (uAll a)) := d6
  replace d5 := d5.keep (TK.same s10)
  replace d4 := d4.keep (TK.same s10)
  replace dv := dv.keep (TK.same s10)
  replace dd := dd.keep (TK.same s10)
  clear s7 s8 s9 s10 d3 ht
  refine reSt (t := Ends.nx) (σ' := [some (.ref sl), some (.ref d), some (.ref tw), some v3, some v4, some v5, some v6, none, none, some (.int a), some (.int b), some (.int (2 + r)), some va, some vd, none]) rfl ?_
  refine ⟨_, rfl, (by show 1 ≤ sizeLine; decide), fun l1 f1 => ?_⟩
  refine ⟨_, rfl, (by show 1 ≤ sizeLine; decide), fun l2 f2 => ?_⟩
  have s1 := same_new (o := .lst [v6]) f1
  have s2 := same_new (o := .lst [.int b]) f2
  have k2 := TK.same (Same.tr s1 s2)
  have g1 := s2 _ _ (show upd H10 l1 (.lst [v6]) l1 = _ from upd_same)
  have ne1 : l2 ≠ l1 := (ne_of_none (show upd H10 l1 (.lst [v6]) l1 = _ from upd_same) f2).symm
  obtain ⟨m1, x1, e1, q1, en1, c1, w1, w2⟩ := n1
  refine ⟨_, rfl, _, _, _, _, rfl, l1, l2, 2 + r, 1000, [v6], [.int b], [uAll a], m1, rfl, rfl, rfl, rfl, g1, upd_same, ne1, .cons (d6.keep k2) .nil, nodup_fns a, (by show 3 ≤ 1000; decide), fold_one, th_small, e1, fun H11 r1 rt k3 => ?_⟩
  obtain ⟨o1, ev1, a1, a2, a3⟩ := ran_dt rt q1 en1
  have kk := k2.tr k3
  replace dv := dv.keep kk
  replace dd := dd.keep kk
  replace d4 := d4.keep kk
  replace d5 := d5.keep kk
  replace d6 := d6.keep kk
  clear f1 f2 s1 s2 g1 ne1 k2 k3 kk rt
  refine ⟨2, rfl, r1, _, rfl, SqT.of a1, (by show ¬ (HT.sIx 3 0 none = 0 ∧ HT.sIx 3 3 (some 2) = 3); decide), fun p fp => ?_⟩
  have sp := same_new (o := .tup [.ref o1, ev1]) fp
  have kp := TK.same sp
  have D1 : DT (upd H11 p (.tup [.ref o1, ev1])) (.ref p) (.tuple [.tuple ((due a b (2 + r)).1.map .int), x1]) := .tup upd_same (.cons (DT.of_ints (sp _ _ a2)) (.cons (a3.keep kp) .nil))
  replace dv := dv.keep kp
  replace dd := dd.keep kp
  replace d4 := d4.keep kp
  replace d5 := d5.keep kp
  replace d6 := d6.keep kp
  refine ⟨_, rfl, _, _, D1.dp, dd.dp, shaped_two _ w1, shaped_two _ w2, _, rfl, ?_⟩
  refine if_false_of (neqv (eqv_outs _ c1)) ?_
  clear D1 fp sp kp a1 a2 a3 c1 w1 w2 q1 en1 e1
  refine ⟨_, rfl, (by show 1 ≤ sizeLine; decide), fun l1 f1 => ?_⟩
  refine ⟨(by show 0 ≤ sizeLine; decide), fun l2 f2 => ?_⟩
  have s1 := same_new (o := .lst [v6]) f1
  have s2 := same_new (o := .lst []) f2
  have k2 := TK.same (Same.tr s1 s2)
  have g0 : upd (upd H11 p (.tup [.ref o1, ev1])) l1 (.lst [v6]) l1 = some (.lst [v6]) := upd_same
  have g1 := s2 _ _ g0
  have ne1 : l2 ≠ l1 := (ne_of_none g0 f2).symm
  obtain ⟨m1, x1, e1, q1, en1, c1, w1, w2⟩ := n2
  refine ⟨_, rfl, _, _, _, _, rfl, l1, l2, 2 + r, 1000, [v6], [], [uAll a], m1, rfl, rfl, rfl, rfl, g1, upd_same, ne1, .cons (d6.keep k2) .nil, nodup_fns a, (by show 3 ≤ 1000; decide), fold_one, th_small, e1, fun H13 r1 rt k3 => ?_⟩
  obtain ⟨o2, ev2, a1, a2, a3⟩ := ran_dt rt q1 en1
  have kk := k2.tr k3
  replace dv := dv.keep kk
  replace dd := dd.keep kk
  replace d4 := d4.keep kk
  replace d5 := d5.keep kk
  replace d6 := d6.keep kk
  clear f1 f2 s1 s2 g1 ne1 k2 k3 kk rt g0
  refine ⟨2, rfl, r1, _, rfl, SqT.of a1, (by show ¬ (HT.sIx 3 0 none = 0 ∧ HT.sIx 3 3 (some 2) = 3); decide), fun p fp => ?_⟩
  have sp := same_new (o := .tup [.ref o2, ev2]) fp
  have kp := TK.same sp
  have D1 : DT (upd H13 p (.tup [.ref o2, ev2])) (.ref p) (.tuple [.tuple (([] : List Int).map .int), x1]) := .tup upd_same (.cons (DT.of_ints (sp _ _ a2)) (.cons (a3.keep kp) .nil))
  replace dv := dv.keep kp
  replace dd := dd.keep kp
  replace d4 := d4.keep kp
  replace d5 := d5.keep kp
  replace d6 := d6.keep kp
  refine ⟨nu [], (by repeat' first | exact trivial | exact ⟨_, rfl, dv⟩ | refine And.intro ?_ ?_), fun vt H14 s14 dt => ?_⟩
  have kq := TK.same s14
  replace dv := dv.keep kq
  replace dd := dd.keep kq
  replace d4 := d4.keep kq
  replace d5 := d5.keep kq
  replace d6 := d6.keep kq
  refine ⟨_, _, (D1.keep kq).dp, dt.dp, shaped_two _ w1, shaped_two [] w2, _, rfl, ?_⟩
  refine if_false_of (neqv (eqv_outs [] c1)) ?_
  clear D1 fp sp kp a1 a2 a3 c1 w1 w2 q1 en1 e1 s14 dt kq vt
  refine ⟨nu [(12, .tuple ((bls a).map blD))], (by repeat' first | exact trivial | exact ⟨_, rfl, dv⟩ | refine And.intro ?_ ?_), fun w1 Ha sa da => ?_⟩
  replace da : DT Ha w1 (unD (uM a)) := da
  replace dv := dv.keep (TK.same sa)
  replace dd := dd.keep (TK.same sa)
  replace d4 := d4.keep (TK.same sa)
  replace d5 := d5.keep (TK.same sa)
  replace d6 := d6.keep (TK.same sa)
  refine ⟨nu [(5, fnD fF)], (by repeat' first | exact trivial | exact ⟨_, rfl, d5⟩ | refine And.intro ?_ ?_), fun w2 Hb sb db => ?_⟩
  replace db : DT Hb w2 (unD uN) := db
  replace da := da.keep (TK.same sb)
  replace dv := dv.keep (TK.same sb)
  replace dd := dd.keep (TK.same sb)
  replace d4 := d4.keep (TK.same sb)
  replace d5 := d5.keep (TK.same sb)
  replace d6 := d6.keep (TK.same sb)
  refine ⟨nu [(4, fnD fH)], (by repeat' first | exact trivial | exact ⟨_, rfl, d4⟩ | refine And.intro ?_ ?_), fun w3 Hc sc' dc => ?_⟩
  replace dc : DT Hc w3 (unD uK) := dc
  replace da := da.keep (TK.same sc')
  replace db := db.keep (TK.same sc')
  replace dv := dv.keep (TK.same sc')
  replace dd := dd.keep (TK.same sc')
  replace d4 := d4.keep (TK.same sc')
  replace d5 := d5.keep (TK.same sc')
  replace d6 := d6.keep (TK.same sc')
  clear sa sb sc' d4 d5
  refine ⟨(by show 3 ≤ sizeLine; decide), fun lsp f1 => ?_⟩
  refine reSt (t := Ends.nx) (σ' := [some (.ref sl), some (.ref d), some (.ref tw), some v3, some v4, some v5, some v6, some (.ref lsp), none, some (.int a), some (.int b), some (.int (2 + r)), some va, some vd, none]) rfl ?_
  refine ⟨_, rfl, _, rfl, (by show 3 ≤ sizeLine; decide), fun l2 f2 => ?_⟩
  have s1 := same_new (o := .lst [w1, w2, w3]) f1
  have s2 := same_new (o := .lst [.int b, .int 5, .int 6]) f2
  have k2 := TK.same (Same.tr s1 s2)
  have g0 : upd Hc lsp (.lst [w1, w2, w3]) lsp = some (.lst [w1, w2, w3]) := upd_same
  have g1 := s2 _ _ g0
  have ne1 : l2 ≠ lsp := (ne_of_none g0 f2).symm
  obtain ⟨m1, os, x1, e1, q1, en1⟩ := n3
  refine ⟨_, rfl, _, _, _, _, rfl, lsp, l2, 2 + r, 1000, [w1, w2, w3], [.int b, .int 5, .int 6], [uM a, uN, uK], m1, rfl, rfl, rfl, rfl, g1, upd_same, ne1, .cons (da.keep k2) (.cons (db.keep k2) (.cons (dc.keep k2) .nil)), nodup_fns a, (by show 3 ≤ 1000; decide), fold_one, th_small, e1, fun H13 r1 rt k3 => ?_⟩
  obtain ⟨o2, ev2, x2, a1, a2, _, _⟩ := rt
  rw [q1] at a2
  have kk := k2.tr k3
  replace dv := dv.keep kk
  replace dd := dd.keep kk
  replace d6 := d6.keep kk
  clear f1 f2 s1 s2 g1 ne1 k2 k3 kk g0 da db dc
  refine ⟨r1, _, ((0 : Nat) : Int), _, rfl, rfl, SqT.of a1, atI_nat (by rfl), 1, rfl, cut1 a2 fun p1 H14 s14 u1 => ?_⟩
  replace dv := dv.keep (TK.same s14)
  replace dd := dd.keep (TK.same s14)
  replace d6 := d6.keep (TK.same s14)
  obtain ⟨os', eos⟩ := head_due a b (2 + r)
  obtain ⟨td, xd, rfl, htd, ttd⟩ := dd.tupI
  obtain ⟨v1, r2, rfl, dv1, hr1⟩ := ttd.one
  obtain ⟨to, xo, rfl, hto, tto⟩ := dv1.tupI
  obtain rfl := tto.ints
  rw [eos] at hto
  refine ⟨_, rfl, td, _, ((0 : Nat) : Int), _, rfl, rfl, SqT.of htd, atI_nat (by rfl), 1, rfl, cut1 hto fun p2 H15 s15 u2 => ?_⟩
  replace dv := dv.keep (TK.same s15)
  replace d6 := d6.keep (TK.same s15)
  have D1 : DT H15 (.ref p1) (.tuple ([lowA a b].map .int)) := DT.of_ints (s15 _ _ u1)
  have D2 : DT H15 (.ref p2) (.tuple ([lowA a b].map .int)) := DT.of_ints u2
  refine ⟨_, _, D1.dp, D2.dp, shaped_ints [lowA a b], shaped_ints [lowA a b], _, rfl, ?_⟩
  refine if_false_of (neqv (eqv_ints _)) ?_
  clear D1 D2 u1 u2 s14 s15 ttd dv1 hr1 hto tto htd eos a1 a2 q1 en1 e1 dd
  refine ⟨_, rfl, (by show 1 ≤ sizeLine; decide), fun l1 f1 => ?_⟩
  refine ⟨_, rfl, (by show 1 ≤ sizeLine; decide), fun l2 f2 => ?_⟩
  have s1 := same_new (o := .lst [v6]) f1
  have s2 := same_new (o := .lst [.int b]) f2
  have k2 := TK.same (Same.tr s1 s2)
  have g0 : upd H15 l1 (.lst [v6]) l1 = some (.lst [v6]) := upd_same
  have g1 := s2 _ _ g0
  have ne1 : l2 ≠ l1 := (ne_of_none g0 f2).symm
  obtain ⟨m1, x1, e1, q1, en1, c1, w1, w2⟩ := n4
  have st3 := n5 _ e1
  refine ⟨_, rfl, _, _, _, _, rfl, l1, l2, 2 + r, 3, [v6], [.int b], [uAll a], m1, rfl, rfl, rfl, rfl, g1, upd_same, ne1, .cons (d6.keep k2) .nil, nodup_fns a, (by show 3 ≤ 1000; decide), fold_one, th_small, e1, fun H16 r1 rt k3 => ?_⟩
  obtain ⟨o2, ev2, a1, a2, a3⟩ := ran_dt rt q1 en1
  rw [st3] at a1
  have kk := k2.tr k3
  replace dv := dv.keep kk
  clear f1 f2 s1 s2 g1 ne1 k2 k3 kk rt g0 d6
  refine ⟨nu [], (by repeat' first | exact trivial | exact ⟨_, rfl, dv⟩ | refine And.intro ?_ ?_), fun vt H17 s17 dt => ?_⟩
  replace dv := dv.keep (TK.same s17)
  have D1 : DT H17 (.ref r1) (.tuple [.tuple (([] : List Int).map .int), x1, .int 3]) := .tup (s17 _ _ a1) (.cons (DT.of_ints (s17 _ _ a2)) (.cons (a3.keep (TK.same s17)) (.cons (.int 3) .nil)))
  refine ⟨_, _, D1.dp, dt.dp, shaped_three w1, shaped_three w2, _, rfl, ?_⟩
  refine if_false_of (neqv (eqv_three c1)) ?_
  clear D1 dt a1 a2 a3 c1 w1 w2 q1 en1 e1 s17 vt st3 n5
  obtain ⟨tb, xb, rfl, htb, ttb⟩ := dv.tupI
  replace ttb : DTs H17 xb (blD ⟨[0], rows0 a, p3 (.branch 0 3 (-1) 2 [3, 6] 1 [2])⟩ :: [blD ⟨[17], [p3 (.out 17)], p3 (.ret 17)⟩, blD ⟨[14, 16], rows2, p3 (.ret 15)⟩]) := ttb
  obtain ⟨v0, rb, rfl, dv0, _⟩ := ttb.one
  obtain ⟨t0, x0', rfl, ht0, tt0⟩ := dv0.tupI
  obtain ⟨vq0, rq, rfl, _, hrq⟩ := tt0.one
  obtain ⟨vq1, rq1, rfl, drows, hrq1⟩ := hrq.one
  obtain ⟨vq2, rq2, rfl, den, hrq2⟩ := hrq1.one
  obtain rfl := hrq2.no
  obtain ⟨tr, xr, rfl, htr, ttr⟩ := drows.tupI
  replace ttr : DTs H17 xr ((rows0 a).map rwD) := ttr
  replace den : DT H17 vq2 (rwD (p3 (.branch 0 3 (-1) 2 [3, 6] 1 [2]))) := den
  clear dv ttb dv0 tt0 hrq hrq1 hrq2 drows
  refine ⟨_, rfl, tb, _, ((0 : Nat) : Int), _, rfl, rfl, SqT.of htb, atI_nat (by rfl), t0, _, ((1 : Nat) : Int), _, rfl, rfl, SqT.of ht0, atI_nat (by rfl), ?_⟩
  refine reSt (t := Ends.nx) (σ' := [some (.ref sl), some (.ref d), some (.ref tw), some v3, some v4, some v5, some v6, some (.ref lsp), some (.ref tr), some (.int a), some (.int b), some (.int (2 + r)), some (.ref tb), some (.ref td), none]) rfl ?_
  refine ⟨_, rfl, tr, rfl, ⟨_, SqT.of htr⟩, fun D hD => ?_⟩
  have hlen : xr.length = 21 := by
    have := ttr.len
    rw [List.length_map, rows_len] at this
    exact this
  refine lc_tup (a := tr) (xs := xr) (fun i H' => Same H17 H' ∧ H' D = some (.lst (((rows0 a).map (fun r => gvV r.k)).take i))) ⟨same_new hD, upd_same⟩ (fun i H' _ p => SqT.of (p.1 _ _ htr)) (fun i x H' hx p => ?_) (fun H' p => ?_)
  · obtain ⟨rr, er, dr⟩ := ttr.row hx
    refine ⟨rfl, ?_⟩
    dsimp only [tYes]
    rw [if_pos rfl]
    refine ⟨_, rfl, _, rfl, rr.k, rr.pa, rr.pb, dr.keep (TK.same p.1), rows_ok a rr (List.mem_of_getElem? er), _, p.2, sz' _ ?_, ?_, ?_⟩
    · rw [List.length_take, List.length_map, rows_len]; omega
    · intro b' o z
      rw [upd_ne (ne_of_none z hD)]
      exact p.1 _ _ z
    · rw [upd_same]
      have em : ((rows0 a).map (fun r => gvV r.k))[i]? = some (gvV rr.k) := by rw [List.getElem?_map, er]; rfl
      rw [take_snoc em]
  have g1 : H' D = some (.lst gvl) := by
    rw [p.2, hlen, gvl_eq]; rfl
  have k1 := TK.same p.1
  replace ttr := ttr.keep k1
  replace htr := k1 _ _ htr
  replace htb := k1 _ _ htb
  replace ht0 := k1 _ _ ht0
  replace den := den.keep k1
  clear k1 p hlen
  refine ⟨(by show 21 ≤ sizeLine; decide), fun q fq => ?_⟩
  have s1 := same_new (o := .lst gvl) fq
  have k1 := TK.same s1
  replace ttr := ttr.keep k1
  replace htr := k1 _ _ htr
  replace htb := k1 _ _ htb
  replace ht0 := k1 _ _ ht0
  replace den := den.keep k1
  refine ⟨.list gvd, .list gvd, .lst (SqL.of (s1 _ _ g1)) gv_dp, .lst (SqL.of upd_same) gv_dp, gv_shaped, gv_shaped, _, rfl, ?_⟩
  refine if_false_of (neqv gv_same) ?_
  clear g1 s1 k1 fq
  obtain ⟨y8, f8, d8⟩ := ttr.get (i := 8) (d := rwD (p3 (.store 3 (.at_ 5) 8))) (by rfl)
  refine ⟨_, rfl, tr, _, ((8 : Nat) : Int), _, rfl, rfl, SqT.of htr, atI_nat f8, _, rfl, .store 3 (.at_ 5) 8, 3, 1, [3, 5], d8, rfl, (by decide), fun G8 t8 z8 u8 => ?_⟩
  refine ⟨nu [], (by repeat' first | exact trivial | exact ⟨_, rfl, (DT.int 0)⟩ | refine And.intro ?_ ?_), fun w8 E8 x8 e8 => ?_⟩
  have D1 : DT E8 (.ref t8) (.tuple (([3, 5] : List Int).map .int)) := DT.of_ints (x8 _ _ u8)
  have kz := TK.same (Same.tr z8 x8)
  replace ttr := ttr.keep kz
  replace htr := kz _ _ htr
  replace htb := kz _ _ htb
  replace ht0 := kz _ _ ht0
  replace den := den.keep kz
  refine ⟨_, _, D1.dp, e8.dp, shaped_ints _, shaped_ints [3, 5], _, rfl, ?_⟩
  refine if_false_of (neqv (eqv_ints _)) ?_
  clear D1 kz e8 x8 z8 u8 d8 f8
  obtain ⟨y18, f18, d18⟩ := ttr.get (i := 18) (d := rwD (p3 (.call 13 "f" [12, 3, -1]))) (by rfl)
  refine ⟨_, rfl, tr, _, ((18 : Nat) : Int), _, rfl, rfl, SqT.of htr, atI_nat f18, _, rfl, .call 13 "f" [12, 3, -1], 3, 1, [12, 3, -1], d18, rfl, (by decide), fun G18 t18 z18 u18 => ?_⟩
  refine ⟨nu [], (by repeat' first | exact trivial | exact ⟨_, rfl, (DT.int 0)⟩ | refine And.intro ?_ ?_), fun w18 E18 x18 e18 => ?_⟩
  have D1 : DT E18 (.ref t18) (.tuple (([12, 3] : List Int).map .int)) := DT.of_ints (x18 _ _ u18)
  have kz := TK.same (Same.tr z18 x18)
  replace ttr := ttr.keep kz
  replace htr := kz _ _ htr
  replace htb := kz _ _ htb
  replace ht0 := kz _ _ ht0
  replace den := den.keep kz
  refine ⟨_, _, D1.dp, e18.dp, shaped_ints _, shaped_ints [12, 3], _, rfl, ?_⟩
  refine if_false_of (neqv (eqv_ints _)) ?_
  clear D1 kz e18 x18 z18 u18 d18 f18
  obtain ⟨y9, f9, d9⟩ := ttr.get (i := 9) (d := rwD (p3 (.load 7 .nm 8))) (by rfl)
  refine ⟨_, rfl, tr, _, ((9 : Nat) : Int), _, rfl, rfl, SqT.of htr, atI_nat f9, _, rfl, .load 7 .nm 8, 3, 1, [], d9, rfl, (by decide), fun G9 t9 z9 u9 => ?_⟩
  refine ⟨nu [], (by repeat' first | exact trivial | exact ⟨_, rfl, (DT.int 0)⟩ | refine And.intro ?_ ?_), fun w9 E9 x9 e9 => ?_⟩
  have D1 : DT E9 (.ref t9) (.tuple (([] : List Int).map .int)) := DT.of_ints (x9 _ _ u9)
  have kz := TK.same (Same.tr z9 x9)
  replace ttr := ttr.keep kz
  replace htr := kz _ _ htr
  replace htb := kz _ _ htb
  replace ht0 := kz _ _ ht0
  replace den := den.keep kz
  refine ⟨_, _, D1.dp, e9.dp, shaped_ints _, shaped_ints [], _, rfl, ?_⟩
  refine if_false_of (neqv (eqv_ints _)) ?_
  clear D1 kz e9 x9 z9 u9 d9 f9
  obtain ⟨y10, f10, d10⟩ := ttr.get (i := 10) (d := rwD (p3 (.store 7 (.sl 1) 4))) (by rfl)
  refine ⟨_, rfl, tr, _, ((10 : Nat) : Int), _, rfl, rfl, SqT.of htr, atI_nat f10, _, rfl, .store 7 (.sl 1) 4, 3, 1, [7], d10, rfl, (by decide), fun G10 t10 z10 u10 => ?_⟩
  refine ⟨nu [], (by repeat' first | exact trivial | exact ⟨_, rfl, (DT.int 0)⟩ | refine And.intro ?_ ?_), fun w10 E10 x10 e10 => ?_⟩
  have D1 : DT E10 (.ref t10) (.tuple (([7] : List Int).map .int)) := DT.of_ints (x10 _ _ u10)
  have kz := TK.same (Same.tr z10 x10)
  replace ttr := ttr.keep kz
  replace htr := kz _ _ htr
  replace htb := kz _ _ htb
  replace ht0 := kz _ _ ht0
  replace den := den.keep kz
  refine ⟨_, _, D1.dp, e10.dp, shaped_ints _, shaped_ints [7], _, rfl, ?_⟩
  refine if_false_of (neqv (eqv_ints _)) ?_
  clear D1 kz e10 x10 z10 u10 d10 f10
  refine ⟨_, rfl, tb, _, ((0 : Nat) : Int), _, rfl, rfl, SqT.of htb, atI_nat (by rfl), t0, _, ((2 : Nat) : Int), _, rfl, rfl, SqT.of ht0, atI_nat (by rfl), _, rfl, 0, 3, -1, 2, [3, 6], 1, [2], 3, 1, den, fun G l t1 t2 p1 p2 sG hl h1 h2 h3 h4 => ?_⟩
  refine ⟨nu [], (by repeat' first | exact trivial | exact ⟨_, rfl, (DT.int 0)⟩ | refine And.intro ?_ ?_), fun y1 E1 x1 e1 => ?_⟩
  refine ⟨nu [], (by repeat' first | exact trivial | exact ⟨_, rfl, (DT.int 0)⟩ | refine And.intro ?_ ?_), fun y2 E2 x2 e2 => ?_⟩
  refine ⟨(by show 2 ≤ sizeLine; decide), fun lq fq => ?_⟩
  have sq := same_new (o := .lst [y1, y2]) fq
  have k1 := Same.tr x1 (Same.tr x2 sq)
  have kg := Same.tr sG k1
  replace den := den.keep (TK.same kg)
  replace htb := kg _ _ htb
  replace ht0 := kg _ _ ht0
  have D1 : DT (upd E2 lq (.lst [y1, y2])) (.ref t1) (.tuple [.int 2, .tuple [.int 3, .int 6]]) := .tup (k1 _ _ h1) (.cons (.int 2) (.cons (DT.of_ints (ns := [3, 6]) (k1 _ _ h3)) .nil))
  have D2 : DT (upd E2 lq (.lst [y1, y2])) (.ref t2) (.tuple [.int 1, .tuple [.int 2]]) := .tup (k1 _ _ h2) (.cons (.int 1) (.cons (DT.of_ints (ns := [2]) (k1 _ _ h4)) .nil))
  have g1 : upd E2 lq (.lst [y1, y2]) l = some (.lst [.ref t1, .ref t2]) := k1 _ _ hl
  have g2 : upd E2 lq (.lst [y1, y2]) lq = some (.lst [y1, y2]) := upd_same
  replace e1 := e1.keep (TK.same (Same.tr x2 sq))
  replace e2 := e2.keep (TK.same sq)
  refine ⟨.list [.tuple [.int 2, .tuple [.int 3, .int 6]], .tuple [.int 1, .tuple [.int 2]]], .list [.tuple [.int 2, .tuple [.int 3, .int 6]], .tuple [.int 1, .tuple [.int 2]]], .lst (SqL.of g1) (.cons D1.dp (.cons D2.dp .nil)), .lst (SqL.of g2) (.cons e1.dp (.cons e2.dp .nil)), (by decide), (by decide), ?_⟩
  clear D1 D2 g1 g2 e1 e2 sq k1 kg fq x1 x2 h1 h2 h3 h4 hl sG
  refine ⟨true, congrArg V.bl (by decide), ?_⟩
  rw [if_pos rfl]
  refine ⟨_, rfl, tb, _, ((0 : Nat) : Int), _, rfl, rfl, SqT.of htb, atI_nat (by rfl), t0, _, ((2 : Nat) : Int), _, rfl, rfl, SqT.of ht0, atI_nat (by rfl), _, rfl, 0, 3, -1, 2, [3, 6], 1, [2], 3, 1, den, (by decide), fun G' t' sG ht' => ?_⟩
  refine ⟨nu [], (by repeat' first | exact trivial | exact ⟨_, rfl, (DT.int 0)⟩ | refine And.intro ?_ ?_), fun y3 E3 x3 e3 => ?_⟩
  have D1 : DT E3 (.ref t') (.tuple ([3, 3, 6, 2].map .int)) := DT.of_ints (x3 _ _ ht')
  refine ⟨_, _, D1.dp, e3.dp, shaped_ints _, shaped_ints [3, 3, 6, 2], ?_⟩
  have z : PyData.eqv (.tuple ([3, 3, 6, 2].map .int)) (.tuple ([3, 3, 6, 2].map .int)) = true := eqv_ints _
  show Q (.bl (PyData.eqv (.tuple ([3, 3, 6, 2].map .int)) (.tuple ([3, 3, 6, 2].map .int)))) _
  rw [z]
  exact h _
end
end K55


namespace K55
open PySem PySem.Spec PyProof.Rows L2 My Ru M55
theorem law_binds {K : PySem.W.Frag} {f : Addr} {fd : FuncData} (F : FunD K "law" "law" (defArgs s_law) (defBody s_law) (defScope s_law) [] [] f fd) (s : Shared) (v : Value) : BindsTo s fd ⟨[v], []⟩ [("script", v)] :=
  L2.FunD.bindsA (ps := ["script"]) F (fun _ _ _ _ _ _ us hl => match us, hl with | [_], _ => rfl) s [v] rfl
theorem law_core {P : Program} {w : World} {K : PySem.W.Frag} {mg : Str → Option Value} {h : Heap} {fa : Addr} {L : Nat} (T : Txt K mg w) (KX : K.In h) (hmg : mg ("law" : PySem.Str) = some (.ref fa))
    (ok : ∀ base : Heap, Gd P w K mg base CX0 L "law" ["script"] (sp_law K)) :
    ∃ (K : PySem.W.Frag) (fd : FuncData) (sp : Sp), K.In h ∧ (∀ (s : Shared) (u : Value), BindsTo s fd ⟨[u], []⟩ [(("script" : PySem.Str), u)]) ∧
        (∀ (H : Hp) (a : Addr) (ns : List Int), ns.length ≤ 63 → Only H → SqL K H a (ns.map V.int) → sp [.ref a] H (fun v _ => v = .bl true) fun _ _ _ => False) ∧
        ∀ base : Heap, K.In base → base.Ns mainGlobals mg → FnOk P w K mg base CX0 L fa fd ["script"] sp := by
  obtain ⟨f, fd, hm, F⟩ := T.d_law.ex
  have ef : f = fa := by
    rw [hmg] at hm
    injection hm with hm
    injection hm with hm
    exact hm.symm
  subst ef
  refine ⟨K, fd, sp_law K, KX, law_binds F, fun H a ns hl _ hS => ⟨_, rfl, a, ns, rfl, hS, fun _ => rfl⟩, fun base _ _ => ?_⟩
  obtain ⟨f', fd', hm', ok, _, _, oc', od', osl', lk'⟩ := (ok base).ex
  have ef : f' = f := by
    rw [hmg] at hm'
    injection hm' with hm'
    injection hm' with hm'
    exact hm'.symm
  subst ef
  obtain ⟨oc, od, dV, kV, doc, pm, an, cdv, ct, osl, _, lk, _⟩ := F.ex
  rw [lk'] at lk
  have ed : fd' = fd := by
    injection lk with lk
    injection lk with _ _ lk _
    injection lk with lk
  rw [← ed]
  exact ok
end K55

namespace K55E
open PySem PySem.Spec PyProof.Rows L2 My Ru M55 K55
section
variable {P : Program} {w : World} {K : PySem.W.Frag} {h : Heap} {mg : Str → Option Value}
theorem df_mk (X : K.In h) (G : h.Ns mainGlobals mg) {x : Str} {st : Stmt} (c1 : (He.Fa.glo x).ok K = true) (c2 : ∃ fd, FunD K x x (defArgs st) (defBody st) (defScope st) [] [] (He.fAd K (x, none)) fd) : Df K mg x st := by
  obtain ⟨fd, F⟩ := c2
  exact ⟨He.ga K x, fd, He.glo_ok X G c1, F⟩
theorem dm_mk {C m qual : Str} {st : Stmt} (c1 : (He.Fa.meth C m).ok K = true) (c2 : ∃ fd, FunD K m qual (defArgs st) (defBody st) (defScope st) [] [] (He.fAd K (C, some m)) fd) : Dm K (He.ga K C) m qual st := by
  obtain ⟨fd, F⟩ := c2
  exact ⟨He.ma K (He.ga K C) m, fd, He.meth_ok c1, F⟩
theorem txt_mk (X : K.In h) (G : h.Ns mainGlobals mg) (c : He.SaysX hfa hfn hts [] hex w h K) : Txt K mg w := by
  have cd := c.t.d
  have cx : hex K = true := c.more
  obtain ⟨v0, cx⟩ := He.ba cx
  obtain ⟨v1, cx⟩ := He.ba cx
  obtain ⟨v2, cx⟩ := He.ba cx
  obtain ⟨v3, cx⟩ := He.ba cx
  obtain ⟨v4, cx⟩ := He.ba cx
  obtain ⟨v5, cx⟩ := He.ba cx
  obtain ⟨v6, cx⟩ := He.ba cx
  obtain ⟨v7, cx⟩ := He.ba cx
  obtain ⟨v8, cx⟩ := He.ba cx
  obtain ⟨v9, cx⟩ := He.ba cx
  obtain ⟨v10, cx⟩ := He.ba cx
  obtain ⟨v11, cx⟩ := He.ba cx
  obtain ⟨v12, cx⟩ := He.ba cx
  obtain ⟨v13, cx⟩ := He.ba cx
  obtain ⟨v14, cx⟩ := He.ba cx
  have kKI : ∀ q ∈ ([("sub", He.Dv.str "sub"), ("slti", He.Dv.str "lts"), ("addi", He.Dv.str "add"), ("add", He.Dv.str "add")] : List (Str × He.Dv)), KDct K w (He.ga K "KINDS") q.1 (q.2.v K) := by
    intro q hq
    obtain ⟨es, nn, kd⟩ := c.t.tab 1 (t := (fun K => He.ga K "KINDS", ((["add", "sub", "sll", "slt", "sltu", "xor", "srl", "sra", "or", "and", "mul", "div", "divu", "rem", "remu", "addi", "slti", "sltiu", "xori", "ori"] : List Str) ++ (["andi", "slli", "srli", "srai"] : List Str)))) rfl
    obtain ⟨u, e1, e2⟩ := He.valsB_ok v0 hq
    exact ⟨es, nn, u, kd.at_, kd.lit, e1, e2⟩
  have kKW : ∀ q ∈ ([("sub", He.Dv.glo "_sub"), ("lts", He.Dv.glo "_lts"), ("add", He.Dv.glo "_add")] : List (Str × He.Dv)), KDct K w (He.ga K "KINDS_OF_WORK") q.1 (q.2.v K) := by
    intro q hq
    obtain ⟨es, nn, kd⟩ := c.t.tab 0 (t := (fun K => He.ga K "KINDS_OF_WORK", ["add", "sub", "mul", "and", "or", "xor", "shl", "shr", "sar", "lts", "ltu", "eq", "divs", "rems", "divu", "remu"])) rfl
    obtain ⟨u, e1, e2⟩ := He.valsB_ok v1 hq
    exact ⟨es, nn, u, kd.at_, kd.lit, e1, e2⟩
  have kGI : ∀ q ∈ ([("set", He.Dv.int 1), ("name", He.Dv.int 1), ("slot", He.Dv.int 1), ("three", He.Dv.int 2), ("imm", He.Dv.int 2), ("load", He.Dv.int 1), ("deep", He.Dv.int 1), ("call", He.Dv.int 1), ("in", He.Dv.int 1), ("more", He.Dv.int 1)] : List (Str × He.Dv)), KDct K w (He.ga K "GIVEN") q.1 (q.2.v K) := by
    intro q hq
    obtain ⟨es, nn, kd⟩ := c.t.tab 2 (t := (fun K => He.ga K "GIVEN", ["set", "name", "slot", "three", "imm", "load", "deep", "call", "in", "more"])) rfl
    obtain ⟨u, e1, e2⟩ := He.valsB_ok v3 hq
    exact ⟨es, nn, u, kd.at_, kd.lit, e1, e2⟩
  have kDD : ∀ k : Rk, KDct K w (He.ga K "DEEDS") (rkN k) (.ref (He.ga K (ddN k))) := by
    intro k
    obtain ⟨es, nn, kd⟩ := c.t.tab 4 (t := (fun K => He.ga K "DEEDS", ["set", "name", "slot", "three", "imm", "load", "store", "must", "deep", "call", "out", "in", "more", "go", "branch", "return", "tail", "trap"])) rfl
    have hm : (rkN k, He.Dv.glo (ddN k)) ∈ sample.map fun k => (rkN k, He.Dv.glo (ddN k)) := by cases k <;> simp [sample, rkN, ddN]
    obtain ⟨u, e1, e2⟩ := He.valsB_ok v2 hm
    exact ⟨es, nn, u, kd.at_, kd.lit, e1, e2⟩
  have kUS : ∃ a, KDct K w (He.ga K "USED") "store" (.ref a) ∧ ∀ H : Hp, SqT K H a [.int 1] := by
    obtain ⟨es, nn, kd⟩ := c.t.tab 3 (t := (fun K => He.ga K "USED", ["set", "name", "slot", "three", "imm", "load", "store", "must", "deep", "out", "in", "more"])) rfl
    obtain ⟨a, e1, e2⟩ := Kg.entA_ok v5
    exact ⟨a, ⟨es, nn, .ref a, kd.at_, kd.lit, e1, rfl⟩, e2⟩
  have kUL : ∃ a, KDct K w (He.ga K "USED") "load" (.ref a) ∧ ∀ H : Hp, SqT K H a [] := by
    obtain ⟨es, nn, kd⟩ := c.t.tab 3 (t := (fun K => He.ga K "USED", ["set", "name", "slot", "three", "imm", "load", "store", "must", "deep", "out", "in", "more"])) rfl
    obtain ⟨a, e1, e2⟩ := Kg.entA_ok v6
    exact ⟨a, ⟨es, nn, .ref a, kd.at_, kd.lit, e1, rfl⟩, e2⟩
  have kHI : ∀ C m D : Str, (C, m, D) ∈ ([("LowRun", "trap", "Going"), ("LowRun", "take", "Going"), ("LowRun", "more", "Going"), ("LowRun", "give_back", "RowRun"), ("LowFrame", "begin_block", "RowFrame"), ("LowFrame", "all_worths", "RowFrame"), ("LowFrame", "go", "RowFrame"), ("LowFrame", "next_row", "RowFrame"), ("LowFrame", "last_row", "RowFrame")] : List (Str × Str × Str)) → PySem.W.findIn K (.ref (He.ga K C)) m = PySem.W.findIn K (.ref (He.ga K D)) m := by
    intro C m D hq
    obtain ⟨e1, e2⟩ := He.ba (List.all_eq_true.mp v11 (C, m, D) hq)
    exact (He.eqO_ok e1).trans (He.eqO_ok e2).symm
  exact {
    d_word_of := df_mk X G (cd.fact 0 (f := .glo "word_of") rfl) (cd.def_ 0 (d := dd_word_of) rfl),
    d_signed := df_mk X G (cd.fact 1 (f := .glo "signed") rfl) (cd.def_ 1 (d := dd_signed) rfl),
    d__add := df_mk X G (cd.fact 2 (f := .glo "_add") rfl) (cd.def_ 2 (d := dd__add) rfl),
    d__sub := df_mk X G (cd.fact 3 (f := .glo "_sub") rfl) (cd.def_ 3 (d := dd__sub) rfl),
    d__lts := df_mk X G (cd.fact 4 (f := .glo "_lts") rfl) (cd.def_ 4 (d := dd__lts) rfl),
    d_apply := df_mk X G (cd.fact 5 (f := .glo "apply") rfl) (cd.def_ 5 (d := dd_apply) rfl),
    d_made_of := df_mk X G (cd.fact 6 (f := .glo "made_of") rfl) (cd.def_ 6 (d := dd_made_of) rfl),
    d_is_branch_taken := df_mk X G (cd.fact 7 (f := .glo "is_branch_taken") rfl) (cd.def_ 7 (d := dd_is_branch_taken) rfl),
    d_low_gives := df_mk X G (cd.fact 8 (f := .glo "low_gives") rfl) (cd.def_ 8 (d := dd_low_gives) rfl),
    d__real := df_mk X G (cd.fact 9 (f := .glo "_real") rfl) (cd.def_ 9 (d := dd__real) rfl),
    d_low_uses := df_mk X G (cd.fact 10 (f := .glo "low_uses") rfl) (cd.def_ 10 (d := dd_low_uses) rfl),
    d_low_hands := df_mk X G (cd.fact 11 (f := .glo "low_hands") rfl) (cd.def_ 11 (d := dd_low_hands) rfl),
    d_low_end_uses := df_mk X G (cd.fact 12 (f := .glo "low_end_uses") rfl) (cd.def_ 12 (d := dd_low_end_uses) rfl),
    d_run_to_end := df_mk X G (cd.fact 13 (f := .glo "run_to_end") rfl) (cd.def_ 13 (d := dd_run_to_end) rfl),
    d_do_out := df_mk X G (cd.fact 14 (f := .glo "do_out") rfl) (cd.def_ 14 (d := dd_do_out) rfl),
    d_do_in := df_mk X G (cd.fact 15 (f := .glo "do_in") rfl) (cd.def_ 15 (d := dd_do_in) rfl),
    d_do_more := df_mk X G (cd.fact 16 (f := .glo "do_more") rfl) (cd.def_ 16 (d := dd_do_more) rfl),
    d_do_go := df_mk X G (cd.fact 17 (f := .glo "do_go") rfl) (cd.def_ 17 (d := dd_do_go) rfl),
    d_run_low := df_mk X G (cd.fact 18 (f := .glo "run_low") rfl) (cd.def_ 18 (d := dd_run_low) rfl),
    d__set := df_mk X G (cd.fact 19 (f := .glo "_set") rfl) (cd.def_ 19 (d := dd__set) rfl),
    d__name := df_mk X G (cd.fact 20 (f := .glo "_name") rfl) (cd.def_ 20 (d := dd__name) rfl),
    d__slot := df_mk X G (cd.fact 21 (f := .glo "_slot") rfl) (cd.def_ 21 (d := dd__slot) rfl),
    d__three := df_mk X G (cd.fact 22 (f := .glo "_three") rfl) (cd.def_ 22 (d := dd__three) rfl),
    d__imm := df_mk X G (cd.fact 23 (f := .glo "_imm") rfl) (cd.def_ 23 (d := dd__imm) rfl),
    d__load := df_mk X G (cd.fact 24 (f := .glo "_load") rfl) (cd.def_ 24 (d := dd__load) rfl),
    d__store := df_mk X G (cd.fact 25 (f := .glo "_store") rfl) (cd.def_ 25 (d := dd__store) rfl),
    d__must := df_mk X G (cd.fact 26 (f := .glo "_must") rfl) (cd.def_ 26 (d := dd__must) rfl),
    d__deep := df_mk X G (cd.fact 27 (f := .glo "_deep") rfl) (cd.def_ 27 (d := dd__deep) rfl),
    d__call := df_mk X G (cd.fact 28 (f := .glo "_call") rfl) (cd.def_ 28 (d := dd__call) rfl),
    d__branch := df_mk X G (cd.fact 29 (f := .glo "_branch") rfl) (cd.def_ 29 (d := dd__branch) rfl),
    d__return := df_mk X G (cd.fact 30 (f := .glo "_return") rfl) (cd.def_ 30 (d := dd__return) rfl),
    d__tail := df_mk X G (cd.fact 31 (f := .glo "_tail") rfl) (cd.def_ 31 (d := dd__tail) rfl),
    d__law_cell_at := df_mk X G (cd.fact 32 (f := .glo "_law_cell_at") rfl) (cd.def_ 32 (d := dd__law_cell_at) rfl),
    d__law_draw := df_mk X G (cd.fact 33 (f := .glo "_law_draw") rfl) (cd.def_ 33 (d := dd__law_draw) rfl),
    d__law_number := df_mk X G (cd.fact 34 (f := .glo "_law_number") rfl) (cd.def_ 34 (d := dd__law_number) rfl),
    d__law_next := df_mk X G (cd.fact 35 (f := .glo "_law_next") rfl) (cd.def_ 35 (d := dd__law_next) rfl),
    d__law_pick := df_mk X G (cd.fact 36 (f := .glo "_law_pick") rfl) (cd.def_ 36 (d := dd__law_pick) rfl),
    d__law_main := df_mk X G (cd.fact 37 (f := .glo "_law_main") rfl) (cd.def_ 37 (d := dd__law_main) rfl),
    d_law := df_mk X G (cd.fact 38 (f := .glo "law") rfl) (cd.def_ 38 (d := dd_law) rfl),
    c_GREATEST := He.int_ok X G (cd.fact 56 (f := .int "GREATEST" (4294967295)) rfl),
    c_HALF := He.int_ok X G (cd.fact 57 (f := .int "HALF" (2147483648)) rfl),
    c_NOUGHT := He.int_ok X G (cd.fact 58 (f := .int "NOUGHT" (-1)) rfl),
    c_BYTES := He.int_ok X G (cd.fact 59 (f := .int "BYTES" (4)) rfl),
    c_GLOBALS_START := He.int_ok X G (cd.fact 60 (f := .int "GLOBALS_START" (4096)) rfl),
    c_SLOTS_START := He.int_ok X G (cd.fact 61 (f := .int "SLOTS_START" (1073741824)) rfl),
    c_KINDS_OF_WORK := He.glo_ok X G (cd.fact 39 (f := .glo "KINDS_OF_WORK") rfl),
    k_KINDS_OF_WORK := c.t.tab 0 (t := (fun K => He.ga K "KINDS_OF_WORK", ["add", "sub", "mul", "and", "or", "xor", "shl", "shr", "sar", "lts", "ltu", "eq", "divs", "rems", "divu", "remu"])) rfl,
    c_KINDS := He.glo_ok X G (cd.fact 40 (f := .glo "KINDS") rfl),
    k_KINDS := c.t.tab 1 (t := (fun K => He.ga K "KINDS", ((["add", "sub", "sll", "slt", "sltu", "xor", "srl", "sra", "or", "and", "mul", "div", "divu", "rem", "remu", "addi", "slti", "sltiu", "xori", "ori"] : List Str) ++ (["andi", "slli", "srli", "srai"] : List Str)))) rfl,
    c_GIVEN := He.glo_ok X G (cd.fact 41 (f := .glo "GIVEN") rfl),
    k_GIVEN := c.t.tab 2 (t := (fun K => He.ga K "GIVEN", ["set", "name", "slot", "three", "imm", "load", "deep", "call", "in", "more"])) rfl,
    c_USED := He.glo_ok X G (cd.fact 42 (f := .glo "USED") rfl),
    k_USED := c.t.tab 3 (t := (fun K => He.ga K "USED", ["set", "name", "slot", "three", "imm", "load", "store", "must", "deep", "out", "in", "more"])) rfl,
    c_DEEDS := He.glo_ok X G (cd.fact 43 (f := .glo "DEEDS") rfl),
    k_DEEDS := c.t.tab 4 (t := (fun K => He.ga K "DEEDS", ["set", "name", "slot", "three", "imm", "load", "store", "must", "deep", "call", "out", "in", "more", "go", "branch", "return", "tail", "trap"])) rfl,
    n_len := He.free_ok X G (cd.fact 49 (f := .free "len") rfl),
    n_tuple := He.free_ok X G (cd.fact 50 (f := .free "tuple") rfl),
    n_int := He.free_ok X G (cd.fact 51 (f := .free "int") rfl),
    n_range := He.free_ok X G (cd.fact 52 (f := .free "range") rfl),
    n_zip := He.free_ok X G (cd.fact 53 (f := .free "zip") rfl),
    n_list := He.free_ok X G (cd.fact 54 (f := .free "list") rfl),
    n_dict := He.free_ok X G (cd.fact 55 (f := .free "dict") rfl),
    ga__sub := He.glo_ok X G (cd.fact 3 (f := .glo "_sub") rfl),
    ga__lts := He.glo_ok X G (cd.fact 4 (f := .glo "_lts") rfl),
    ga__add := He.glo_ok X G (cd.fact 2 (f := .glo "_add") rfl),
    ga__set := He.glo_ok X G (cd.fact 19 (f := .glo "_set") rfl),
    ga__name := He.glo_ok X G (cd.fact 20 (f := .glo "_name") rfl),
    ga__slot := He.glo_ok X G (cd.fact 21 (f := .glo "_slot") rfl),
    ga__three := He.glo_ok X G (cd.fact 22 (f := .glo "_three") rfl),
    ga__imm := He.glo_ok X G (cd.fact 23 (f := .glo "_imm") rfl),
    ga__load := He.glo_ok X G (cd.fact 24 (f := .glo "_load") rfl),
    ga__store := He.glo_ok X G (cd.fact 25 (f := .glo "_store") rfl),
    ga__must := He.glo_ok X G (cd.fact 26 (f := .glo "_must") rfl),
    ga__deep := He.glo_ok X G (cd.fact 27 (f := .glo "_deep") rfl),
    ga__call := He.glo_ok X G (cd.fact 28 (f := .glo "_call") rfl),
    ga_do_out := He.glo_ok X G (cd.fact 14 (f := .glo "do_out") rfl),
    ga_do_in := He.glo_ok X G (cd.fact 15 (f := .glo "do_in") rfl),
    ga_do_more := He.glo_ok X G (cd.fact 16 (f := .glo "do_more") rfl),
    ga_do_go := He.glo_ok X G (cd.fact 17 (f := .glo "do_go") rfl),
    ga__branch := He.glo_ok X G (cd.fact 29 (f := .glo "_branch") rfl),
    ga__return := He.glo_ok X G (cd.fact 30 (f := .glo "_return") rfl),
    ga__tail := He.glo_ok X G (cd.fact 31 (f := .glo "_tail") rfl),
    d_Going___init__ := dm_mk (cd.fact 67 (f := .meth "Going" "__init__") rfl) (cd.def_ 39 (d := dd_Going___init__) rfl),
    d_Going_trap := dm_mk (cd.fact 68 (f := .meth "Going" "trap") rfl) (cd.def_ 40 (d := dd_Going_trap) rfl),
    d_Going_take := dm_mk (cd.fact 69 (f := .meth "Going" "take") rfl) (cd.def_ 41 (d := dd_Going_take) rfl),
    d_Going_more := dm_mk (cd.fact 70 (f := .meth "Going" "more") rfl) (cd.def_ 42 (d := dd_Going_more) rfl),
    d_RowFrame___init__ := dm_mk (cd.fact 71 (f := .meth "RowFrame" "__init__") rfl) (cd.def_ 43 (d := dd_RowFrame___init__) rfl),
    d_RowFrame_begin_block := dm_mk (cd.fact 72 (f := .meth "RowFrame" "begin_block") rfl) (cd.def_ 44 (d := dd_RowFrame_begin_block) rfl),
    d_RowFrame_all_worths := dm_mk (cd.fact 73 (f := .meth "RowFrame" "all_worths") rfl) (cd.def_ 45 (d := dd_RowFrame_all_worths) rfl),
    d_RowFrame_go := dm_mk (cd.fact 74 (f := .meth "RowFrame" "go") rfl) (cd.def_ 46 (d := dd_RowFrame_go) rfl),
    d_RowFrame_next_row := dm_mk (cd.fact 75 (f := .meth "RowFrame" "next_row") rfl) (cd.def_ 47 (d := dd_RowFrame_next_row) rfl),
    d_RowFrame_last_row := dm_mk (cd.fact 76 (f := .meth "RowFrame" "last_row") rfl) (cd.def_ 48 (d := dd_RowFrame_last_row) rfl),
    d_RowRun___init__ := dm_mk (cd.fact 77 (f := .meth "RowRun" "__init__") rfl) (cd.def_ 49 (d := dd_RowRun___init__) rfl),
    d_RowRun_give_back := dm_mk (cd.fact 78 (f := .meth "RowRun" "give_back") rfl) (cd.def_ 50 (d := dd_RowRun_give_back) rfl),
    d_LowFrame___init__ := dm_mk (cd.fact 79 (f := .meth "LowFrame" "__init__") rfl) (cd.def_ 51 (d := dd_LowFrame___init__) rfl),
    d_LowRun___init__ := dm_mk (cd.fact 80 (f := .meth "LowRun" "__init__") rfl) (cd.def_ 52 (d := dd_LowRun___init__) rfl),
    d_LowRun_begin := dm_mk (cd.fact 81 (f := .meth "LowRun" "begin") rfl) (cd.def_ 53 (d := dd_LowRun_begin) rfl),
    d_LowRun_end_frame := dm_mk (cd.fact 82 (f := .meth "LowRun" "end_frame") rfl) (cd.def_ 54 (d := dd_LowRun_end_frame) rfl),
    d_LowRun_step := dm_mk (cd.fact 83 (f := .meth "LowRun" "step") rfl) (cd.def_ 55 (d := dd_LowRun_step) rfl),
    d_LowRun_spot := dm_mk (cd.fact 84 (f := .meth "LowRun" "spot") rfl) (cd.def_ 56 (d := dd_LowRun_spot) rfl),
    cl_Going := ⟨He.glo_ok X G (cd.fact 44 (f := .glo "Going") rfl), He.cls_ok (cd.fact 62 (f := .cls "Going") rfl)⟩,
    cl_RowFrame := ⟨He.glo_ok X G (cd.fact 45 (f := .glo "RowFrame") rfl), He.cls_ok (cd.fact 63 (f := .cls "RowFrame") rfl)⟩,
    cl_RowRun := ⟨He.glo_ok X G (cd.fact 46 (f := .glo "RowRun") rfl), He.cls_ok (cd.fact 64 (f := .cls "RowRun") rfl)⟩,
    cl_LowFrame := ⟨He.glo_ok X G (cd.fact 47 (f := .glo "LowFrame") rfl), He.cls_ok (cd.fact 65 (f := .cls "LowFrame") rfl)⟩,
    cl_LowRun := ⟨He.glo_ok X G (cd.fact 48 (f := .glo "LowRun") rfl), He.cls_ok (cd.fact 66 (f := .cls "LowRun") rfl)⟩,
    mk_LowFrame := He.ba v7,
    na_LowFrame := fun f hf => He.eqO_ok (List.all_eq_true.mp v9 f hf),
    mk_LowRun := He.ba v8,
    na_LowRun := fun f hf => He.eqO_ok (List.all_eq_true.mp v10 f hf),
    hi_LowRun_trap := kHI "LowRun" "trap" "Going" (by simp),
    hi_LowRun_take := kHI "LowRun" "take" "Going" (by simp),
    hi_LowRun_more := kHI "LowRun" "more" "Going" (by simp),
    hi_LowRun_give_back := kHI "LowRun" "give_back" "RowRun" (by simp),
    hi_LowFrame_begin_block := kHI "LowFrame" "begin_block" "RowFrame" (by simp),
    hi_LowFrame_all_worths := kHI "LowFrame" "all_worths" "RowFrame" (by simp),
    hi_LowFrame_go := kHI "LowFrame" "go" "RowFrame" (by simp),
    hi_LowFrame_next_row := kHI "LowFrame" "next_row" "RowFrame" (by simp),
    hi_LowFrame_last_row := kHI "LowFrame" "last_row" "RowFrame" (by simp),
    cf_Going := cfB_ok v12,
    cf_RowRun := cfB_ok v13,
    cf_RowFrame := cfB_ok v14,
    ki_sub := kKI ("sub", He.Dv.str "sub") (by simp),
    ki_slti := kKI ("slti", He.Dv.str "lts") (by simp),
    ki_addi := kKI ("addi", He.Dv.str "add") (by simp),
    ki_add := kKI ("add", He.Dv.str "add") (by simp),
    kw_sub := kKW ("sub", He.Dv.glo "_sub") (by simp),
    kw_lts := kKW ("lts", He.Dv.glo "_lts") (by simp),
    kw_add := kKW ("add", He.Dv.glo "_add") (by simp),
    dd := kDD,
    gv_set := kGI ("set", He.Dv.int 1) (by simp),
    gv_name := kGI ("name", He.Dv.int 1) (by simp),
    gv_slot := kGI ("slot", He.Dv.int 1) (by simp),
    gv_three := kGI ("three", He.Dv.int 2) (by simp),
    gv_imm := kGI ("imm", He.Dv.int 2) (by simp),
    gv_load := kGI ("load", He.Dv.int 1) (by simp),
    gv_deep := kGI ("deep", He.Dv.int 1) (by simp),
    gv_call := kGI ("call", He.Dv.int 1) (by simp),
    gv_in := kGI ("in", He.Dv.int 1) (by simp),
    gv_more := kGI ("more", He.Dv.int 1) (by simp),
    gn_store := He.eqO_ok (List.all_eq_true.mp v4 "store" (by simp)),
    gn_out := He.eqO_ok (List.all_eq_true.mp v4 "out" (by simp)),
    us_store := kUS,
    us_load := kUL }
theorem all_ok (X : K.In h) (G : h.Ns mainGlobals mg) (c : He.SaysX hfa hfn hts [] hex w h K) (base : Heap) : Gd P w K mg base CX0 10 "law" ["script"] (sp_law K) := by
  have T := txt_mk X G c
  have G_word_of := g_word_of (P := P) (base := base) T 
  have G_signed := g_signed (P := P) (base := base) T 
  have G__add := g__add (P := P) (base := base) T G_word_of
  have G__sub := g__sub (P := P) (base := base) T G_word_of
  have G__lts := g__lts (P := P) (base := base) T G_signed
  have G_apply := g_apply (P := P) (base := base) T G__sub G__lts G__add
  have G_made_of := g_made_of (P := P) (base := base) T G_apply
  have G_is_branch_taken := g_is_branch_taken (P := P) (base := base) T G_signed
  have G_RowFrame_begin_block := g_RowFrame_begin_block (P := P) (base := base) T 
  have G_RowFrame_all_worths := g_RowFrame_all_worths (P := P) (base := base) T 
  have G_RowFrame_go := g_RowFrame_go (P := P) (base := base) T G_RowFrame_begin_block G_RowFrame_all_worths
  have G_RowFrame_next_row := g_RowFrame_next_row (P := P) (base := base) T 
  have G_RowFrame_last_row := g_RowFrame_last_row (P := P) (base := base) T 
  have G_RowFrame___init__ := g_RowFrame___init__ (P := P) (base := base) T G_RowFrame_begin_block
  have G_LowFrame___init__ := g_LowFrame___init__ (P := P) (base := base) T G_RowFrame___init__
  have G_Going___init__ := g_Going___init__ (P := P) (base := base) T 
  have G_RowRun___init__ := g_RowRun___init__ (P := P) (base := base) T G_Going___init__
  have G_LowRun___init__ := g_LowRun___init__ (P := P) (base := base) T G_RowRun___init__
  have G_Going_trap := g_Going_trap (P := P) (base := base) T 
  have G_Going_take := g_Going_take (P := P) (base := base) T G_Going_trap
  have G_Going_more := g_Going_more (P := P) (base := base) T 
  have G_LowRun_end_frame := g_LowRun_end_frame (P := P) (base := base) T 
  have G_LowRun_spot := g_LowRun_spot (P := P) (base := base) T G_word_of
  have G_RowRun_give_back := g_RowRun_give_back (P := P) (base := base) T G_RowFrame_last_row
  have G_LowRun_begin := g_LowRun_begin (P := P) (base := base) T G_LowFrame___init__
  have G__set := g__set (P := P) (base := base) T 
  have G__name := g__name (P := P) (base := base) T 
  have G__slot := g__slot (P := P) (base := base) T 
  have G__three := g__three (P := P) (base := base) T G_made_of
  have G__imm := g__imm (P := P) (base := base) T G_made_of G_word_of
  have G_do_out := g_do_out (P := P) (base := base) T 
  have G_do_more := g_do_more (P := P) (base := base) T G_Going_more
  have G__load := g__load (P := P) (base := base) T G_LowRun_spot
  have G__store := g__store (P := P) (base := base) T G_LowRun_spot
  have G__must := g__must (P := P) (base := base) T G_is_branch_taken G_Going_trap
  have G__deep := g__deep (P := P) (base := base) T G_word_of G_Going_trap
  have G_do_in := g_do_in (P := P) (base := base) T G_Going_take
  have G_do_go := g_do_go (P := P) (base := base) T G_RowFrame_go
  have G_low_hands := g_low_hands (P := P) (base := base) T 
  have G__branch := g__branch (P := P) (base := base) T G_is_branch_taken G_low_hands G_RowFrame_go
  have G__return := g__return (P := P) (base := base) T G_LowRun_end_frame G_RowRun_give_back
  have G__tail := g__tail (P := P) (base := base) T G_RowFrame_all_worths G_LowRun_end_frame G_LowRun_begin
  have G__call := g__call (P := P) (base := base) T G_LowRun_begin G_RowFrame_all_worths
  have G_LowRun_step := g_LowRun_step (P := P) (base := base) T G__set G__name G__slot G__three G__imm G__load G__store G__must G__deep G__call G_do_out G_do_in G_do_more G_do_go G__branch G__return G__tail G_RowFrame_next_row
  have G_run_to_end := g_run_to_end (P := P) (base := base) T G_LowRun_step
  have G_run_low := g_run_low (P := P) (base := base) T G_LowRun___init__ G_LowRun_begin G_run_to_end
  have G__law_cell_at := g__law_cell_at (P := P) (base := base) T 
  have G__law_draw := g__law_draw (P := P) (base := base) T 
  have G__law_number := g__law_number (P := P) (base := base) T G__law_draw
  have G__law_next := g__law_next (P := P) (base := base) T G__law_cell_at G__law_number
  have G__law_pick := g__law_pick (P := P) (base := base) T G__law_next
  have G_low_gives := g_low_gives (P := P) (base := base) T 
  have G__real := g__real (P := P) (base := base) T 
  have G_low_uses := g_low_uses (P := P) (base := base) T G__real
  have G_low_end_uses := g_low_end_uses (P := P) (base := base) T G__real
  have G__law_main := g__law_main (P := P) (base := base) T 
  have G_law := g_law (P := P) (base := base) T G__law_pick G__law_next G__law_main G_run_low G_low_gives G_low_uses G_low_hands G_low_end_uses
  exact G_law
end
end K55E


namespace K55E
open PySem PySem.Spec PyProof.Rows L2 My Ru M55 K55
theorem name_law : (HandSHeadRun.topDef (PySem.W.OpenLaw.row PySem.Challenge.rw_trueimage_k55_known_low_runs).prog 79).name = ("law" : PySem.Str) := by kernel_rfl
theorem end_core {P : Program} {w : World} {K : PySem.W.Frag} {h : Heap} {mg : Str → Option Value} {fa : Addr} (KX : K.In h) (G : h.Ns mainGlobals mg) (c : He.SaysX hfa hfn hts [] hex w h K) (hmg : mg ("law" : PySem.Str) = some (.ref fa)) :
    ∃ (K : PySem.W.Frag) (fd : FuncData) (sp : Sp), K.In h ∧ (∀ (s : Shared) (u : Value), BindsTo s fd ⟨[u], []⟩ [(("script" : PySem.Str), u)]) ∧
        (∀ (H : Hp) (a : Addr) (ns : List Int), ns.length ≤ 63 → Only H → SqL K H a (ns.map V.int) → sp [.ref a] H (fun v _ => v = .bl true) fun _ _ _ => False) ∧
        ∀ base : Heap, K.In base → base.Ns mainGlobals mg → FnOk P w K mg base CX0 10 fa fd ["script"] sp :=
  K55.law_core (txt_mk KX G c) KX hmg (fun base => all_ok KX G c base)
end K55E
open PySem PySem.W PySem.Calls PyProof.Rows
set_option maxRecDepth 100000 in
set_option maxHeartbeats 8000000 in
theorem PySem.Challenge.cw_trueimage_k55_known_low_runs_holds : PySem.Challenge.rw_trueimage_k55_known_low_runs.Holds := by
  w_on; o_law
  refine HandSHeadRun.head_any (r := OpenLaw.row PySem.Challenge.rw_trueimage_k55_known_low_runs) (q := view (OpenLaw.row PySem.Challenge.rw_trueimage_k55_known_low_runs).prog [79]) (H := K55E.hk) (ob := K55E.hob) (M := 9000) (loose := K55E.hloose) (d := HandSHeadRun.topDef (OpenLaw.row PySem.Challenge.rw_trueimage_k55_known_low_runs).prog 79) (kwd := []) K55E.hob_eq
    (by kernel_rfl) (fun s => by kernel_rfl) K55E.hrun (by kernel_rfl) (by kernel_rfl) (by kernel_rfl) (by rfl) (by first | assumption | decide +kernel) (by decide +kernel) ⟨rfl, rfl, rfl, rfl, rfl, by decide +kernel⟩ ?hw ?hc
  case hw => w_witness2
  case hc =>
    refine L2.walk_ofE (l := PySem.Challenge.rw_trueimage_k55_known_low_runs) (n := 63) (k := 10) (x := "script") (CX := L2.CX0) rfl (by decide) (by kernel_rfl) ⟨rfl, by decide, by decide⟩ ?F (fun _ _ _ _ z => z)
    intro w mg fa h Y G hmg0
    obtain ⟨K, KX, c⟩ := Y
    exact K55E.end_core KX G c (K55E.name_law ▸ hmg0)

