import PyProof.Rows.All
import Wide.All
import OpenK.AllK
import Wide.FinOn
import HandS.ForMost
import HandS.HeadHook4
import HandS.Wide
import HandS.CallLocal
import HandS.Style
import HandS.Flow
import HandS.Head0
import HandS.Head1
import HandS.Head2
import HandS.HeadEnd
import HandS.EndBits
import KE.KBits
import PyProof.Rows.BitMore
import KE.BitLaws
import PySem.Challenge.RW_trueimage_k01_whole_words
set_option Elab.async false
set_option linter.all false
set_option maxRecDepth 100000
set_option maxHeartbeats 2000000
namespace My
open PySem PySem.Spec PyProof.Rows L2
/-! ### promises by the number of arguments -/
def sp1 (p : V → Hp → VK → XK → Prop) : Sp := fun vs H Q E => ∃ a, vs = [a] ∧ p a H Q E
def sp2 (p : V → V → Hp → VK → XK → Prop) : Sp := fun vs H Q E => ∃ a b, vs = [a, b] ∧ p a b H Q E
def sp3 (p : V → V → V → Hp → VK → XK → Prop) : Sp := fun vs H Q E => ∃ a b c, vs = [a, b, c] ∧ p a b c H Q E
def sp4 (p : V → V → V → V → Hp → VK → XK → Prop) : Sp := fun vs H Q E => ∃ a b c d, vs = [a, b, c, d] ∧ p a b c d H Q E
theorem len1 {p} (vs : List V) (H : Hp) (Q : VK) (E : XK) (h : sp1 p vs H Q E) : vs.length = 1 := by obtain ⟨a, rfl, _⟩ := h; rfl
theorem len2 {p} (vs : List V) (H : Hp) (Q : VK) (E : XK) (h : sp2 p vs H Q E) : vs.length = 2 := by obtain ⟨a, b, rfl, _⟩ := h; rfl
theorem len3 {p} (vs : List V) (H : Hp) (Q : VK) (E : XK) (h : sp3 p vs H Q E) : vs.length = 3 := by obtain ⟨a, b, c, rfl, _⟩ := h; rfl
theorem len4 {p} (vs : List V) (H : Hp) (Q : VK) (E : XK) (h : sp4 p vs H Q E) : vs.length = 4 := by obtain ⟨a, b, c, d, rfl, _⟩ := h; rfl
/-! ### a def of the text behind its name, a def that keeps its promise -/
structure Df (K : PySem.W.Frag) (mg : Str → Option Value) (x : Str) (st : Stmt) : Prop where
  ex : ∃ (f : Addr) (fd : FuncData), mg x = some (.ref f) ∧ FunD K x x (defArgs st) (defBody st) (defScope st) [] [] f fd
structure Gd (P : Program) (w : World) (K : PySem.W.Frag) (mg : Str → Option Value) (base : Heap) (CX : CXT) (k : Nat) (x : Str) (ps : List Str) (sp : Sp) : Prop where
  ex : ∃ (f : Addr) (fd : FuncData), mg x = some (.ref f) ∧ FnOk P w K mg base CX k f fd ps sp ∧ Binds K fd ps [] ∧ PySem.W.keepIn K (.ref f) = true ∧ ∃ oc od osl, K.lookup f = some ⟨oc, od, .func fd, osl⟩
section
variable {P : Program} {w : World} {K : PySem.W.Frag} {mg : Str → Option Value} {base : Heap}
theorem Gd.mono {CX : CXT} {j k : Nat} {x : Str} {ps : List Str} {sp : Sp} (h : Gd P w K mg base CX j x ps sp) (hk : j ≤ k) : Gd P w K mg base CX k x ps sp := by
  obtain ⟨f, fd, a, b, c, d, e⟩ := h.ex
  exact ⟨f, fd, a, b.mono hk, c, d, e⟩
/-- a def out of which no exception comes -/
theorem Df.ok {x : Str} {st : Stmt} {N ps : List Str} {k : Nat} {sp : Sp} (D : Df K mg x st) (S : FnScope N ps (defScope st)) (len : ∀ vs H Q E, sp vs H Q E → vs.length = ps.length)
    (hb : ∀ (kV doc pm : Value) (an : Option Addr) (cdv ct : Value) (us : List Value), us.length = ps.length → bindArgs (PySem.W.fnOf x x (defArgs st) (defBody st) (defScope st) .none kV doc pm an cdv ct) ⟨us, []⟩ = pure (ps.zip us))
    (hbody : ∀ (f : Addr) (cdv : Value) (A : Around) (outer : List Env) (s : Shared) (H : Hp) (vs : List V) (Q : VK) (E : XK), Room k (A.deeper (envOfC x (defScope st) s.heap.objs.size f cdv)) → sp vs H Q E →
      ∃ t, PSs (cxOf CX0 P w K mg base N x (defScope st) f cdv A outer s H E).nox (defBody st) t ∧ t { nx := fun _ H' => Q .non H', rt := Q } (start N vs) H) : Gd P w K mg base CX0 (k + 1) x ps sp := by
  obtain ⟨f, fd, hm, F⟩ := D.ex
  have lk : ∃ oc od osl, K.lookup f = some ⟨oc, od, .func fd, osl⟩ := by
    obtain ⟨oc, od, dV, kV, doc, pm, an, cdv, ct, osl, e, l, _⟩ := F.ex
    exact ⟨oc, od, osl, l⟩
  refine ⟨f, fd, hm, F.ok S len fun cdv A outer s H vs Q E hr h => ?_, F.bindsN hb, F.kp, lk⟩
  obtain ⟨t, h1, h2⟩ := hbody f cdv A outer s H vs Q E hr h
  exact ⟨t, h1.nox, h2⟩
end
section
variable {X : Cx} {CX : CXT} {k : Nat} {x : Str} {ps : List Str} {sp : Sp} {E : XK} {e : Expr} {es : List Expr} {t : TA} {p pos : Pos}
def tCallG (sp : Sp) (E : XK) (t : TA) : TE := fun σ H Q => t σ H fun vs H1 => sp vs H1 Q E
theorem pe_g (h : Gd X.prog X.w X.K X.mg X.base CX k x ps sp) (hr : Room k X.A) (hx : Passes CX X E) (ha : PA X (e :: es) t) (hg : Gl X x := by rfl) (hdb : (x == ("__debug__" : Str)) = false := by decide)
    (he : starEach (e :: es) X.env = (false, eval e X.env) :: starEach es X.env := by rfl) (hpl : (backTo pos (starEach es X.env)).any (·.1) = false := by rfl) : PE X (.Call (.Name x p) (e :: es) [] pos) (tCallG sp E t) := by
  obtain ⟨f, fd, hm, F, hb, hk, _⟩ := h.ex
  have z := pe_call (p := p) F hr hg hm hk hb .nil hx ha hdb he hpl
  refine ⟨fun pins s σ H Q I hw => z.run pins s σ H Q I ?_⟩
  have e0 : (fun (vs : List V) (H1 : Hp) => sp (vs ++ []) H1 Q E) = fun vs H1 => sp vs H1 Q E := by
    funext vs H1
    rw [List.append_nil]
  show t σ H (fun vs H1 => sp (vs ++ []) H1 Q E)
  rw [e0]
  exact hw
/-- the module's ints, texts -/
theorem pe_gint {i : Int} (h : ∃ t, X.mg x = some (.int i t)) (hg : Gl X x := by rfl) (hd : (x == ("__debug__" : Str)) = false := by decide) : PE X (.Name x pos) (tC (.int i)) := by
  obtain ⟨t, h⟩ := h
  exact pe_glob hg h ⟨_, rfl⟩ hd
theorem pe_gstr {z : Str} (h : ∃ t, X.mg x = some (.str z t)) (hg : Gl X x := by rfl) (hd : (x == ("__debug__" : Str)) = false := by decide) : PE X (.Name x pos) (tC (.str z)) := by
  obtain ⟨t, h⟩ := h
  exact pe_glob hg h ⟨_, rfl⟩ hd
theorem pe_gref {a : Addr} (h : X.mg x = some (.ref a)) (hg : Gl X x := by rfl) (hd : (x == ("__debug__" : Str)) = false := by decide) : PE X (.Name x pos) (tC (.ref a)) := pe_glob hg h rfl hd
end
end My

namespace K01
open PySem PyProof.Rows
abbrev W : Int := 4294967296
abbrev Hf : Int := 2147483648
def Wd (a : Int) : Prop := 0 ≤ a ∧ a < 4294967296
def sg (a : Int) : Int := if a < 2147483648 then a else a - 4294967296
def p2 (n : Nat) : Int := 2 ^ n
theorem p2_pos (n : Nat) : 0 < p2 n := by
  unfold p2; exact Int.pow_pos (by decide)
theorem p2_succ (n : Nat) : p2 (n + 1) = 2 * p2 n := by
  unfold p2; rw [Int.pow_succ]; omega
/-- the sum of the bits that both have, the first n places -/
def sA (a b : Int) : Nat → Int
  | 0 => 0
  | n + 1 => sA a b n + (a / p2 n % 2) * (b / p2 n % 2) * p2 n
def sO (a b : Int) : Nat → Int
  | 0 => 0
  | n + 1 => sO a b n + (if b / p2 n % 2 > a / p2 n % 2 then b / p2 n % 2 else a / p2 n % 2) * p2 n
def sX (a b : Int) : Nat → Int
  | 0 => 0
  | n + 1 => sX a b n + ((a / p2 n % 2 + b / p2 n % 2) % 2) * p2 n
theorem mod01 (x : Int) : x % 2 = 0 ∨ x % 2 = 1 := by omega
theorem div_p2 (a : Int) (n : Nat) : a / p2 (n + 1) = a / 2 / p2 n := by
  rw [p2_succ, Int.ediv_ediv_of_nonneg (by decide)]
theorem sA_cons (a b : Int) (n : Nat) : sA a b (n + 1) = (a % 2) * (b % 2) + 2 * sA (a / 2) (b / 2) n := by
  induction n with
  | zero =>
    show 0 + (a / p2 0 % 2) * (b / p2 0 % 2) * p2 0 = _
    have e : p2 0 = 1 := rfl
    rw [e, Int.ediv_one, Int.ediv_one, Int.mul_one]
    show _ = _ + 2 * 0
    omega
  | succ n ih =>
    show sA a b (n + 1) + (a / p2 (n + 1) % 2) * (b / p2 (n + 1) % 2) * p2 (n + 1) = _
    rw [ih, div_p2, div_p2, p2_succ]
    show _ = _ + 2 * (sA (a / 2) (b / 2) n + (a / 2 / p2 n % 2) * (b / 2 / p2 n % 2) * p2 n)
    rw [Int.mul_add, Int.add_assoc, Int.mul_left_comm]
theorem sA_eq : ∀ (n : Nat) (a b : Int), 0 ≤ a → 0 ≤ b → a < p2 n → b < p2 n → sA a b n = Builtin.bitAnd a b
  | 0, a, b, h1, h2, h3, h4 => by
    have e : p2 0 = 1 := rfl
    rw [e] at h3 h4
    have e1 : a = 0 := by omega
    have e2 : b = 0 := by omega
    subst e1 e2
    decide
  | n + 1, a, b, h1, h2, h3, h4 => by
    rw [p2_succ] at h3 h4
    rw [sA_cons, PySem.W.kbt_halves a b, sA_eq n (a / 2) (b / 2) (by omega) (by omega) (by omega) (by omega)]
    rcases mod01 a with ha | ha <;> rcases mod01 b with hb | hb <;> rw [ha, hb] <;> simp <;> omega
theorem sM (a : Int) (h : 0 ≤ a) : ∀ n : Nat, a % p2 (n + 1) = a % p2 n + (a / p2 n % 2) * p2 n := by
  intro n
  have e : p2 (n + 1) = p2 n * 2 := by rw [p2_succ, Int.mul_comm]
  have hp := p2_pos n
  have h1 : a % p2 n + p2 n * (a / p2 n) = a := Int.emod_add_mul_ediv a (p2 n)
  have h2 : a % p2 (n + 1) + p2 (n + 1) * (a / p2 (n + 1)) = a := Int.emod_add_mul_ediv a (p2 (n + 1))
  have h3 : a / p2 (n + 1) = a / p2 n / 2 := by rw [e, Int.ediv_ediv_of_nonneg (Int.le_of_lt hp)]
  have h4 : a / p2 n = 2 * (a / p2 n / 2) + a / p2 n % 2 := by omega
  have h5 : p2 n * (a / p2 n) = p2 n * (2 * (a / p2 n / 2)) + p2 n * (a / p2 n % 2) := by
    conv => lhs; rw [h4]
    rw [Int.mul_add]
  rw [h3, e, Int.mul_assoc] at h2
  rw [e, Int.mul_comm (a / p2 n % 2)]
  omega
theorem sO_eq (a b : Int) (ha : 0 ≤ a) (hb : 0 ≤ b) : ∀ n : Nat, sO a b n = a % p2 n + b % p2 n - sA a b n
  | 0 => by
    show (0 : Int) = a % p2 0 + b % p2 0 - 0
    have e : p2 0 = 1 := rfl
    rw [e]; omega
  | n + 1 => by
    show sO a b n + (if b / p2 n % 2 > a / p2 n % 2 then b / p2 n % 2 else a / p2 n % 2) * p2 n = a % p2 (n + 1) + b % p2 (n + 1) - (sA a b n + (a / p2 n % 2) * (b / p2 n % 2) * p2 n)
    rw [sO_eq a b ha hb n, sM a ha n, sM b hb n]
    rcases mod01 (a / p2 n) with h | h <;> rcases mod01 (b / p2 n) with h' | h' <;> rw [h, h'] <;> simp <;> omega
theorem sX_eq (a b : Int) (ha : 0 ≤ a) (hb : 0 ≤ b) : ∀ n : Nat, sX a b n = a % p2 n + b % p2 n - 2 * sA a b n
  | 0 => by
    show (0 : Int) = a % p2 0 + b % p2 0 - 2 * 0
    have e : p2 0 = 1 := rfl
    rw [e]; omega
  | n + 1 => by
    show sX a b n + ((a / p2 n % 2 + b / p2 n % 2) % 2) * p2 n = a % p2 (n + 1) + b % p2 (n + 1) - 2 * (sA a b n + (a / p2 n % 2) * (b / p2 n % 2) * p2 n)
    rw [sX_eq a b ha hb n, sM a ha n, sM b hb n]
    rcases mod01 (a / p2 n) with h | h <;> rcases mod01 (b / p2 n) with h' | h' <;> rw [h, h'] <;> simp <;> omega
theorem p2_32 : p2 32 = 4294967296 := by decide
theorem bits_and {a b : Int} (ha : Wd a) (hb : Wd b) : sA a b 32 = Builtin.bitAnd a b := sA_eq 32 a b ha.1 hb.1 (by rw [p2_32]; exact ha.2) (by rw [p2_32]; exact hb.2)
theorem bits_or {a b : Int} (ha : Wd a) (hb : Wd b) : sO a b 32 = Builtin.bitOr a b := by
  rw [sO_eq a b ha.1 hb.1, bits_and ha hb, bitOr_and, p2_32, Int.emod_eq_of_lt ha.1 ha.2, Int.emod_eq_of_lt hb.1 hb.2]
theorem bits_xor {a b : Int} (ha : Wd a) (hb : Wd b) : sX a b 32 = Builtin.bitXor a b := by
  rw [sX_eq a b ha.1 hb.1, bits_and ha hb, bitXor_and, p2_32, Int.emod_eq_of_lt ha.1 ha.2, Int.emod_eq_of_lt hb.1 hb.2]
theorem p2_lt : ∀ i : Nat, i < 32 → p2 i < 4294967296 := by decide +kernel
def ab (a : Int) : Int := if a < 0 then -a else a
/-- a quotient rounded towards 0 -/
def tq (a b : Int) : Int := if (decide (a < 0) == decide (b < 0)) = true then ab a / ab b else -(ab a / ab b)
def bv (z : Str) (o p : Int) : Int := if z = "and" then o * p else if z = "or" then (if p > o then p else o) else (o + p) % 2
def sB (z : Str) (a b : Int) : Nat → Int
  | 0 => 0
  | n + 1 => sB z a b n + bv z (a / p2 n % 2) (b / p2 n % 2) * p2 n
theorem nOA : ¬ (("or" : Str) = "and") := by decide +kernel
theorem nXA : ¬ (("xor" : Str) = "and") := by decide +kernel
theorem nXO : ¬ (("xor" : Str) = "or") := by decide +kernel
theorem sB_and (a b : Int) : ∀ n, sB "and" a b n = sA a b n
  | 0 => rfl
  | n + 1 => by
    show sB "and" a b n + bv "and" _ _ * p2 n = sA a b n + _
    rw [sB_and a b n]; unfold bv; rw [if_pos rfl]
theorem sB_or (a b : Int) : ∀ n, sB "or" a b n = sO a b n
  | 0 => rfl
  | n + 1 => by
    show sB "or" a b n + bv "or" _ _ * p2 n = sO a b n + _
    rw [sB_or a b n]; unfold bv; rw [if_neg nOA, if_pos rfl]
theorem sB_xor (a b : Int) : ∀ n, sB "xor" a b n = sX a b n
  | 0 => rfl
  | n + 1 => by
    show sB "xor" a b n + bv "xor" _ _ * p2 n = sX a b n + _
    rw [sB_xor a b n]; unfold bv; rw [if_neg nXA, if_neg nXO]
def sh (b : Int) : Nat := (b % 32).toNat
def vAdd (a b : Int) : Int := (sg a + sg b) % 4294967296
def vSub (a b : Int) : Int := (sg a - sg b) % 4294967296
def vMul (a b : Int) : Int := (sg a * sg b) % 4294967296
def vAnd (a b : Int) : Int := sB "and" a b 32
def vOr (a b : Int) : Int := sB "or" a b 32
def vXor (a b : Int) : Int := sB "xor" a b 32
def vShl (a b : Int) : Int := (a * p2 (sh b)) % 4294967296
def vShr (a b : Int) : Int := (a / p2 (sh b)) % 4294967296
def vSar (a b : Int) : Int := (sg a / p2 (sh b)) % 4294967296
def vLts (a b : Int) : Int := (if sg a < sg b then 1 else 0) % 4294967296
def vLtu (a b : Int) : Int := (if a < b then 1 else 0) % 4294967296
def vEq (a b : Int) : Int := (if a = b then 1 else 0) % 4294967296
def vDivs (a b : Int) : Int := if b = 0 then 4294967295 else (tq (sg a) (sg b)) % 4294967296
def vRems (a b : Int) : Int := if b = 0 then a else (sg a - tq (sg a) (sg b) * sg b) % 4294967296
def vDivu (a b : Int) : Int := if b = 0 then 4294967295 else (tq a b) % 4294967296
def vRemu (a b : Int) : Int := if b = 0 then a else (a - tq a b * b) % 4294967296
section
variable {a b : Int}
theorem sg_mod (a : Int) : sg a % 4294967296 = a % 4294967296 := by unfold sg; split <;> omega
theorem pAdd (ha : Wd a) (hb : Wd b) : (a + b) % 4294967296 = vAdd a b := by unfold vAdd sg; split <;> split <;> omega
theorem pSub (ha : Wd a) (hb : Wd b) : (a - b) % 4294967296 = vSub a b := by unfold vSub sg; split <;> split <;> omega
theorem pMul (ha : Wd a) (hb : Wd b) : (a * b) % 4294967296 = vMul a b := by
  unfold vMul
  rw [Int.mul_emod a b, ← sg_mod a, ← sg_mod b, ← Int.mul_emod]
theorem pAnd (ha : Wd a) (hb : Wd b) : Builtin.bitAnd a b = vAnd a b := by unfold vAnd; rw [sB_and, bits_and ha hb]
theorem pOr (ha : Wd a) (hb : Wd b) : Builtin.bitOr a b = vOr a b := by unfold vOr; rw [sB_or, bits_or ha hb]
theorem pXor (ha : Wd a) (hb : Wd b) : Builtin.bitXor a b = vXor a b := by unfold vXor; rw [sB_xor, bits_xor ha hb]
theorem b31 {b : Int} : 0 ≤ Builtin.bitAnd b 31 := by rw [bitAnd_m5]; omega
theorem wd64 (ha : Wd a) : -(2 ^ 64) < a ∧ a < 2 ^ 64 := by obtain ⟨h1, h2⟩ := ha; constructor <;> omega
theorem pw31 (ha : Wd a) : 0 ≤ Builtin.bitAnd b 31 ∧ Builtin.bitAnd b 31 ≤ 1000000 ∧ a.natAbs < 2 ^ 64 := by
  obtain ⟨h1, h2⟩ := ha
  rw [bitAnd_m5]; refine ⟨by omega, by omega, by omega⟩
theorem pShl (ha : Wd a) (hb : Wd b) : (a * 2 ^ (Builtin.bitAnd b 31).toNat) % 4294967296 = vShl a b := by unfold vShl sh p2; rw [bitAnd_m5]
theorem pShr (ha : Wd a) (hb : Wd b) : a / 2 ^ (Builtin.bitAnd b 31).toNat = vShr a b := by
  unfold vShr sh p2; rw [bitAnd_m5]
  have hp : (0 : Int) < 2 ^ (b % 32).toNat := Int.pow_pos (by decide)
  have h1 := Int.ediv_nonneg ha.1 (Int.le_of_lt hp)
  have h2 := Int.ediv_le_self (2 ^ (b % 32).toNat) ha.1
  exact (Int.emod_eq_of_lt h1 (Int.lt_of_le_of_lt h2 ha.2)).symm
theorem pSar (ha : Wd a) (hb : Wd b) : (sg a / 2 ^ (Builtin.bitAnd b 31).toNat) % 4294967296 = vSar a b := by unfold vSar sh p2; rw [bitAnd_m5]
theorem sg_pos (hb : Wd b) (h : b ≠ 0) : 0 < ab (sg b) := by
  obtain ⟨h1, h2⟩ := hb
  unfold ab sg; split <;> split <;> omega
theorem ab_le (hb : Wd b) : ab (sg b) ≤ 2147483648 := by
  obtain ⟨h1, h2⟩ := hb
  unfold ab sg; split <;> split <;> omega
theorem sg_neg (ha : Wd a) : decide (sg a < 0) = decide (2147483648 ≤ a) := by
  obtain ⟨h1, h2⟩ := ha
  unfold sg; split
  · rw [decide_eq_false (by omega), decide_eq_false (by omega)]
  · rw [decide_eq_true (by omega), decide_eq_true (by omega)]
theorem pDivs (ha : Wd a) (hb : Wd b) (h : b ≠ 0) : (if (!(decide (2147483648 ≤ a) == decide (2147483648 ≤ b))) = true then (-(ab (sg a) / ab (sg b))) % 4294967296 else (ab (sg a) / ab (sg b)) % 4294967296) = vDivs a b := by
  unfold vDivs tq
  rw [if_neg h, sg_neg ha, sg_neg hb]
  cases decide (2147483648 ≤ a) <;> cases decide (2147483648 ≤ b) <;> rfl
theorem ab_mod {x y : Int} (hy : y ≠ 0) : (if x < 0 then -(ab x % ab y) else ab x % ab y) = x - tq x y * y := by
  have h1 : ab x % ab y + ab y * (ab x / ab y) = ab x := Int.emod_add_mul_ediv (ab x) (ab y)
  have h2 : tq x y * y = (if x < 0 then -(ab y * (ab x / ab y)) else ab y * (ab x / ab y)) := by
    unfold tq
    by_cases hx : x < 0 <;> by_cases hy' : y < 0
    · rw [decide_eq_true hx, decide_eq_true hy', if_pos hx, if_pos (by rfl)]
      have : y = - ab y := by unfold ab; rw [if_pos hy']; omega
      conv => lhs; rw [this, Int.mul_neg, Int.mul_comm]
      congr 2; unfold ab; simp [hy', hx]
    · rw [decide_eq_true hx, decide_eq_false hy', if_pos hx, if_neg (by decide)]
      have : y = ab y := by unfold ab; rw [if_neg hy']
      conv => lhs; rw [this, Int.neg_mul, Int.mul_comm]
      congr 2; unfold ab; simp [hy', hx]
    · rw [decide_eq_false hx, decide_eq_true hy', if_neg hx, if_neg (by decide)]
      have : y = - ab y := by unfold ab; rw [if_pos hy']; omega
      conv => lhs; rw [this, Int.neg_mul, Int.mul_neg, Int.neg_neg, Int.mul_comm]
      congr 1; unfold ab; simp [hy', hx]
    · rw [decide_eq_false hx, decide_eq_false hy', if_neg hx, if_pos (by rfl)]
      have : y = ab y := by unfold ab; rw [if_neg hy']
      conv => lhs; rw [this, Int.mul_comm]
      congr 1; unfold ab; simp [hy', hx]
  rw [h2]
  have h3 : ab x = if x < 0 then -x else x := rfl
  by_cases hx : x < 0
  · rw [if_pos hx] at h3
    rw [if_pos hx, if_pos hx]
    omega
  · rw [if_neg hx] at h3
    rw [if_neg hx, if_neg hx]
    omega
theorem pRems (ha : Wd a) (hb : Wd b) (h : b ≠ 0) : (if 2147483648 ≤ a then (-(ab (sg a) % ab (sg b))) % 4294967296 else (ab (sg a) % ab (sg b)) % 4294967296) = vRems a b := by
  have e0 : sg b ≠ 0 := by obtain ⟨h1, h2⟩ := hb; unfold sg; split <;> omega
  have e := ab_mod (x := sg a) e0
  unfold vRems
  rw [if_neg h, ← e]
  have e1 : (sg a < 0) ↔ (2147483648 ≤ a) := by obtain ⟨h1, h2⟩ := ha; unfold sg; split <;> omega
  by_cases q : 2147483648 ≤ a
  · rw [if_pos q, if_pos (e1.mpr q)]
  · rw [if_neg q, if_neg (fun z => q (e1.mp z))]
theorem tq_nn (ha : Wd a) (hb : Wd b) : tq a b = a / b := by
  obtain ⟨h1, h2⟩ := ha
  obtain ⟨h3, h4⟩ := hb
  unfold tq ab
  rw [if_neg (show ¬ a < 0 by omega), if_neg (show ¬ b < 0 by omega), decide_eq_false (show ¬ a < 0 by omega), decide_eq_false (show ¬ b < 0 by omega), if_pos (by rfl)]
theorem pDivu (ha : Wd a) (hb : Wd b) (h : b ≠ 0) : a / b = vDivu a b := by
  unfold vDivu
  rw [if_neg h, tq_nn ha hb]
  have h1 := Int.ediv_nonneg ha.1 hb.1
  have h2 := Int.ediv_le_self b ha.1
  exact (Int.emod_eq_of_lt h1 (Int.lt_of_le_of_lt h2 ha.2)).symm
theorem pRemu (ha : Wd a) (hb : Wd b) (h : b ≠ 0) : a % b = vRemu a b := by
  unfold vRemu
  rw [if_neg h, tq_nn ha hb]
  have h1 : a % b + b * (a / b) = a := Int.emod_add_mul_ediv a b
  have h2 := Int.emod_nonneg a h
  have h3 : a % b < b := Int.emod_lt_of_pos a (by have := hb.1; omega)
  have h4 := hb.2
  have e : a - a / b * b = a % b := by rw [Int.mul_comm]; omega
  rw [e]
  exact (Int.emod_eq_of_lt h2 (by omega)).symm
end
def KL : List Str := ["add", "sub", "mul", "and", "or", "xor", "shl", "shr", "sar", "lts", "ltu", "eq", "divs", "rems", "divu", "remu"]
def tab (a b : Int) : List (Str × Int) := [("add", vAdd a b), ("sub", vSub a b), ("mul", vMul a b), ("and", vAnd a b), ("or", vOr a b), ("xor", vXor a b), ("shl", vShl a b), ("shr", vShr a b), ("sar", vSar a b), ("lts", vLts a b), ("ltu", vLtu a b), ("eq", vEq a b), ("divs", vDivs a b), ("rems", vRems a b), ("divu", vDivu a b), ("remu", vRemu a b)]
/-- what the kind z makes of two words -/
def val (z : Str) (a b : Int) : Int := ((tab a b).lookup z).getD 0
theorem kl_class {z : Str} (h : z ∈ KL) : (z = "and" ∨ z = "or" ∨ z = "xor") ∨ (z = "divs" ∨ z = "divu" ∨ z = "rems" ∨ z = "remu") ∨ (z = "add" ∨ z = "sub" ∨ z = "mul" ∨ z = "shl" ∨ z = "shr" ∨ z = "sar" ∨ z = "lts" ∨ z = "ltu" ∨ z = "eq") := by
  unfold KL at h
  simp only [List.mem_cons, List.mem_nil_iff, or_false] at h
  rcases h with h | h | h | h | h | h | h | h | h | h | h | h | h | h | h | h <;> simp [h]
end K01
namespace K01
open PySem PySem.Spec PyProof.Rows L2 My
def top (i : Nat) : Stmt := PySem.Challenge.pw_trueimage_k01_whole_words.main.body.getD i (.Pass ⟨0, 0, 0, 0⟩)
theorem if_true_of {c : Bool} {A B : Prop} (hc : c = true) (h : A) : if c = true then A else B := by
  rw [if_pos hc]
  exact h
theorem if_false_of {c : Bool} {A B : Prop} (hc : c = false) (h : B) : if c = true then A else B := by
  rw [hc, if_neg Bool.false_ne_true]
  exact h
/-- the list that the draws go on: the script's numbers at s, the count n -/
def Dr (H : Hp) (d s : Addr) (ns : List Int) (n : Int) : Prop := H d = some (.lst [.ref s, .int 0, .int n]) ∧ H s = some (.lst (ns.map V.int))
/-- all but d stays -/
def But (d : Addr) (H H' : Hp) : Prop := ∀ b o, H b = some o → b ≠ d → H' b = some o
def sp__law_cell_at (K : PySem.W.Frag) : Sp := sp2 fun a b H Q _ => ∃ (l : Addr) (ns : List Int) (k : Int), a = .ref l ∧ b = .int k ∧ SqL K H l (ns.map V.int) ∧ 0 ≤ k ∧ k < 2 ^ 62 ∧ ∀ v : Int, Q (.int v) H
def sp__law_draw : Sp := sp3 fun x y z H Q _ => ∃ c k b : Int, x = .int c ∧ y = .int k ∧ z = .int b ∧ (-(2 ^ 63) < c ∧ c < 2 ^ 63) ∧ 0 ≤ k ∧ k < 2 ^ 62 ∧ 0 < b ∧ ∀ (r : Int) (H' : Hp), 0 ≤ r → r < b → Same H H' → Q (.int r) H'
def sp__law_number : Sp := sp3 fun x y z H Q _ => ∃ c k b : Int, x = .int c ∧ y = .int k ∧ z = .int b ∧ 0 ≤ k ∧ k ≤ 1000 ∧ 0 < b ∧ ∀ (r : Int) (H' : Hp), 0 ≤ r → r < b → Same H H' → Q (.int r) H'
def sp__law_next (K : PySem.W.Frag) : Sp := sp2 fun x y H Q _ => ∃ (d s : Addr) (ns : List Int) (n b : Int), x = .ref d ∧ y = .int b ∧ H d = some (.lst [.ref s, .int 0, .int n]) ∧ H s = some (.lst (ns.map V.int)) ∧ 0 ≤ n ∧ n ≤ 1000000 ∧ 0 < b ∧
  ∀ (r : Int) (H' : Hp), 0 ≤ r → r < b → But d H H' → H' d = some (.lst [.ref s, .int 0, .int (n + 1)]) → Q (.int r) H'
def sp__law_pick (K : PySem.W.Frag) : Sp := sp2 fun x y H Q _ => ∃ (d s : Addr) (ns : List Int) (n : Int) (t : Addr) (xs : List V), x = .ref d ∧ y = .ref t ∧ H d = some (.lst [.ref s, .int 0, .int n]) ∧ H s = some (.lst (ns.map V.int)) ∧ 0 ≤ n ∧ n ≤ 1000000 ∧ H t = some (.lst xs) ∧ t ≠ d ∧ xs ≠ [] ∧
  ∀ (v : V) (H' : Hp), v ∈ xs → But d H H' → H' d = some (.lst [.ref s, .int 0, .int (n + 1)]) → Q v H'
def sp__law_word (K : PySem.W.Frag) : Sp := sp1 fun x H Q _ => ∃ (d s : Addr) (ns : List Int) (n : Int), x = .ref d ∧ H d = some (.lst [.ref s, .int 0, .int n]) ∧ H s = some (.lst (ns.map V.int)) ∧ 0 ≤ n ∧ n ≤ 900000 ∧
  ∀ (v m : Int) (H' : Hp), Wd v → n ≤ m → m ≤ n + 4 → But d H H' → H' d = some (.lst [.ref s, .int 0, .int m]) → Q (.int v) H'
def sp__law_signed : Sp := sp1 fun x H Q _ => ∃ a : Int, x = .int a ∧ Q (.int (sg a)) H
def sp__law_power : Sp := sp1 fun x H Q _ => ∃ k : Int, x = .int k ∧ 0 ≤ k ∧ k ≤ 1000 ∧ Q (.int (p2 k.toNat)) H
def sp_word_of : Sp := sp1 fun x H Q _ => ∃ a : Int, x = .int a ∧ Q (.int (a % 4294967296)) H
def sp_signed : Sp := sp1 fun x H Q _ => ∃ a : Int, x = .int a ∧ Q (.int (sg a)) H
def sp__law_quotient : Sp := sp2 fun x y H Q _ => ∃ a b : Int, x = .int a ∧ y = .int b ∧ -8589934592 ≤ a ∧ a ≤ 8589934592 ∧ -8589934592 ≤ b ∧ b ≤ 8589934592 ∧ b ≠ 0 ∧ ∀ H' : Hp, Same H H' → Q (.int (tq a b)) H'
def sp__law_bits : Sp := sp3 fun x y u H Q _ => ∃ (z : Str) (a b : Int), x = .str z ∧ y = .int a ∧ u = .int b ∧ (z = "and" ∨ z = "or" ∨ z = "xor") ∧ Wd a ∧ Wd b ∧ ∀ H' : Hp, Same H H' → Q (.int (sB z a b 32)) H'
def spK (v : Int → Int → Int) : Sp := sp2 fun x y H Q _ => ∃ a b : Int, x = .int a ∧ y = .int b ∧ Wd a ∧ Wd b ∧ Q (.int (v a b)) H
def sp__add : Sp := spK vAdd
def sp__sub : Sp := spK vSub
def sp__mul : Sp := spK vMul
def sp__and : Sp := spK vAnd
def sp__or : Sp := spK vOr
def sp__xor : Sp := spK vXor
def sp__shl : Sp := spK vShl
def sp__shr : Sp := spK vShr
def sp__sar : Sp := spK vSar
def sp__lts : Sp := spK vLts
def sp__ltu : Sp := spK vLtu
def sp__eq : Sp := spK vEq
def sp__divs : Sp := spK vDivs
def sp__rems : Sp := spK vRems
def sp__divu : Sp := spK vDivu
def sp__remu : Sp := spK vRemu
def sp__law_due : Sp := sp3 fun x y u H Q _ => ∃ (z : Str) (a b : Int), x = .str z ∧ y = .int a ∧ u = .int b ∧ z ∈ KL ∧ Wd a ∧ Wd b ∧ ∀ H' : Hp, Same H H' → Q (.int (val z a b)) H'
def sp_apply : Sp := sp3 fun x y u H Q _ => ∃ (z : Str) (a b : Int), x = .str z ∧ y = .int a ∧ u = .int b ∧ z ∈ KL ∧ Wd a ∧ Wd b ∧ Q (.int (val z a b)) H
theorem if_tc {c : Bool} {σ : L2.St} {F : VK} {H : Hp} (h : F (.int (if c = true then 1 else 0)) H) : if c = true then tC (.int 1) σ H F else tC (.int 0) σ H F := by
  cases c <;> exact h
def kvsP (a b : Int) : List (Key × V) := [(.inr "add", .int (sg a + sg b)), (.inr "sub", .int (sg a - sg b)), (.inr "mul", .int (sg a * sg b)), (.inr "shl", .int (a * p2 (b % 32).toNat)), (.inr "shr", .int (a / p2 (b % 32).toNat)), (.inr "sar", .int (sg a / p2 (b % 32).toNat)),
  (.inr "lts", .int (if decide (sg a < sg b) = true then 1 else 0)), (.inr "ltu", .int (if decide (a < b) = true then 1 else 0)), (.inr "eq", .int (if decide (V.int a = V.int b) = true then 1 else 0))]
theorem v_add (a b : Int) : val "add" a b = vAdd a b := by kernel_rfl
theorem v_sub (a b : Int) : val "sub" a b = vSub a b := by kernel_rfl
theorem v_mul (a b : Int) : val "mul" a b = vMul a b := by kernel_rfl
theorem v_and (a b : Int) : val "and" a b = vAnd a b := by kernel_rfl
theorem v_or (a b : Int) : val "or" a b = vOr a b := by kernel_rfl
theorem v_xor (a b : Int) : val "xor" a b = vXor a b := by kernel_rfl
theorem v_shl (a b : Int) : val "shl" a b = vShl a b := by kernel_rfl
theorem v_shr (a b : Int) : val "shr" a b = vShr a b := by kernel_rfl
theorem v_sar (a b : Int) : val "sar" a b = vSar a b := by kernel_rfl
theorem v_lts (a b : Int) : val "lts" a b = vLts a b := by kernel_rfl
theorem v_ltu (a b : Int) : val "ltu" a b = vLtu a b := by kernel_rfl
theorem v_eq (a b : Int) : val "eq" a b = vEq a b := by kernel_rfl
theorem v_divs (a b : Int) : val "divs" a b = vDivs a b := by kernel_rfl
theorem v_rems (a b : Int) : val "rems" a b = vRems a b := by kernel_rfl
theorem v_divu (a b : Int) : val "divu" a b = vDivu a b := by kernel_rfl
theorem v_remu (a b : Int) : val "remu" a b = vRemu a b := by kernel_rfl
theorem kvsP_val {z : Str} {a b : Int} (hz : z = "add" ∨ z = "sub" ∨ z = "mul" ∨ z = "shl" ∨ z = "shr" ∨ z = "sar" ∨ z = "lts" ∨ z = "ltu" ∨ z = "eq") : ∃ v : Int, valV (mergeK [] (kvsP a b)) (Sum.inr z) = some (.int v) ∧ v % 4294967296 = val z a b := by
  rcases hz with rfl | rfl | rfl | rfl | rfl | rfl | rfl | rfl | rfl
  · exact ⟨sg a + sg b, by kernel_rfl, by rw [v_add]; unfold vAdd; rfl⟩
  · exact ⟨sg a - sg b, by kernel_rfl, by rw [v_sub]; unfold vSub; rfl⟩
  · exact ⟨sg a * sg b, by kernel_rfl, by rw [v_mul]; unfold vMul; rfl⟩
  · exact ⟨a * p2 (b % 32).toNat, by kernel_rfl, by rw [v_shl]; unfold vShl sh; rfl⟩
  · exact ⟨a / p2 (b % 32).toNat, by kernel_rfl, by rw [v_shr]; unfold vShr sh; rfl⟩
  · exact ⟨sg a / p2 (b % 32).toNat, by kernel_rfl, by rw [v_sar]; unfold vSar sh; rfl⟩
  · exact ⟨if decide (sg a < sg b) = true then 1 else 0, by kernel_rfl, by rw [v_lts]; unfold vLts; by_cases c : sg a < sg b <;> simp [c]⟩
  · exact ⟨if decide (a < b) = true then 1 else 0, by kernel_rfl, by rw [v_ltu]; unfold vLtu; by_cases c : a < b <;> simp [c]⟩
  · exact ⟨if decide (V.int a = V.int b) = true then 1 else 0, by kernel_rfl, by rw [v_eq]; unfold vEq; by_cases c : a = b <;> simp [c]⟩
def sp_law (K : PySem.W.Frag) : Sp := sp1 fun x H Q _ => ∃ (l : Addr) (ns : List Int), x = .ref l ∧ SqL K H l (ns.map V.int) ∧ ∀ H' : Hp, Q (.bl true) H'
def KL2 : List Str := ["add", "sub", "mul", "and", "or", "xor", "shl", "shr", "sar", "lts", "ltu", "eq", "divs", "divu", "rems", "remu"]
theorem kl2 : ∀ z ∈ KL2, z ∈ KL := by decide +kernel
theorem cut_ints (ns : List Int) (lo hi : Option Int) : ∃ ns' : List Int, cutV (ns.map V.int) lo hi = ns'.map V.int := by
  unfold cutV
  exact ⟨_, by rw [← List.map_drop, ← List.map_take]⟩
abbrev s__law_cell_at : Stmt := top 24
abbrev s__law_draw : Stmt := top 25
abbrev s__law_number : Stmt := top 26
abbrev s__law_next : Stmt := top 27
abbrev s__law_pick : Stmt := top 28
abbrev s__law_word : Stmt := top 29
abbrev s__law_signed : Stmt := top 30
abbrev s__law_power : Stmt := top 32
abbrev s_word_of : Stmt := top 3
abbrev s_signed : Stmt := top 4
abbrev s__add : Stmt := top 5
abbrev s__sub : Stmt := top 6
abbrev s__mul : Stmt := top 7
abbrev s__and : Stmt := top 8
abbrev s__or : Stmt := top 9
abbrev s__xor : Stmt := top 10
abbrev s__shl : Stmt := top 11
abbrev s__shr : Stmt := top 12
abbrev s__sar : Stmt := top 13
abbrev s__lts : Stmt := top 14
abbrev s__ltu : Stmt := top 15
abbrev s__eq : Stmt := top 16
abbrev s__divs : Stmt := top 17
abbrev s__rems : Stmt := top 18
abbrev s__divu : Stmt := top 19
abbrev s__remu : Stmt := top 20
abbrev s__law_quotient : Stmt := top 31
abbrev s__law_bits : Stmt := top 33
abbrev s__law_due : Stmt := top 34
abbrev s_law : Stmt := top 35
abbrev s_apply : Stmt := top 22
structure KK (K : PySem.W.Frag) (mg : Str → Option Value) (w : World) (p : Addr) : Prop where
  k_add : ∀ g, mg "_add" = some (.ref g) → KDct K w p "add" (.ref g)
  k_sub : ∀ g, mg "_sub" = some (.ref g) → KDct K w p "sub" (.ref g)
  k_mul : ∀ g, mg "_mul" = some (.ref g) → KDct K w p "mul" (.ref g)
  k_and : ∀ g, mg "_and" = some (.ref g) → KDct K w p "and" (.ref g)
  k_or : ∀ g, mg "_or" = some (.ref g) → KDct K w p "or" (.ref g)
  k_xor : ∀ g, mg "_xor" = some (.ref g) → KDct K w p "xor" (.ref g)
  k_shl : ∀ g, mg "_shl" = some (.ref g) → KDct K w p "shl" (.ref g)
  k_shr : ∀ g, mg "_shr" = some (.ref g) → KDct K w p "shr" (.ref g)
  k_sar : ∀ g, mg "_sar" = some (.ref g) → KDct K w p "sar" (.ref g)
  k_lts : ∀ g, mg "_lts" = some (.ref g) → KDct K w p "lts" (.ref g)
  k_ltu : ∀ g, mg "_ltu" = some (.ref g) → KDct K w p "ltu" (.ref g)
  k_eq : ∀ g, mg "_eq" = some (.ref g) → KDct K w p "eq" (.ref g)
  k_divs : ∀ g, mg "_divs" = some (.ref g) → KDct K w p "divs" (.ref g)
  k_rems : ∀ g, mg "_rems" = some (.ref g) → KDct K w p "rems" (.ref g)
  k_divu : ∀ g, mg "_divu" = some (.ref g) → KDct K w p "divu" (.ref g)
  k_remu : ∀ g, mg "_remu" = some (.ref g) → KDct K w p "remu" (.ref g)
structure Txt (K : PySem.W.Frag) (mg : Str → Option Value) (w : World) : Prop where
  d__law_cell_at : Df K mg "_law_cell_at" s__law_cell_at
  d__law_draw : Df K mg "_law_draw" s__law_draw
  d__law_number : Df K mg "_law_number" s__law_number
  d__law_next : Df K mg "_law_next" s__law_next
  d__law_pick : Df K mg "_law_pick" s__law_pick
  d__law_word : Df K mg "_law_word" s__law_word
  d__law_signed : Df K mg "_law_signed" s__law_signed
  d__law_power : Df K mg "_law_power" s__law_power
  d_word_of : Df K mg "word_of" s_word_of
  d_signed : Df K mg "signed" s_signed
  d__add : Df K mg "_add" s__add
  d__sub : Df K mg "_sub" s__sub
  d__mul : Df K mg "_mul" s__mul
  d__and : Df K mg "_and" s__and
  d__or : Df K mg "_or" s__or
  d__xor : Df K mg "_xor" s__xor
  d__shl : Df K mg "_shl" s__shl
  d__shr : Df K mg "_shr" s__shr
  d__sar : Df K mg "_sar" s__sar
  d__lts : Df K mg "_lts" s__lts
  d__ltu : Df K mg "_ltu" s__ltu
  d__eq : Df K mg "_eq" s__eq
  d__divs : Df K mg "_divs" s__divs
  d__rems : Df K mg "_rems" s__rems
  d__divu : Df K mg "_divu" s__divu
  d__remu : Df K mg "_remu" s__remu
  d__law_quotient : Df K mg "_law_quotient" s__law_quotient
  d__law_bits : Df K mg "_law_bits" s__law_bits
  d__law_due : Df K mg "_law_due" s__law_due
  d_law : Df K mg "law" s_law
  d_apply : Df K mg "apply" s_apply
  n_len : mg "len" = none
  n_int : mg "int" = none
  n_range : mg "range" = none
  n_abs : mg "abs" = none
  n_max : mg "max" = none
  k_KINDS : ∃ p, mg "KINDS_OF_WORK" = some (.ref p) ∧ KK K mg w p
  c_GREATEST : ∃ t, mg "GREATEST" = some (.int 4294967295 t)
  c_HALF : ∃ t, mg "HALF" = some (.int 2147483648 t)
section
variable {P : Program} {w : World} {K : PySem.W.Frag} {mg : Str → Option Value} {base : Heap}
theorem sc__law_cell_at : FnScope ["script", "k"] ["script", "k"] (defScope s__law_cell_at) := ⟨rfl, rfl, rfl, by decide +kernel, rfl, by decide +kernel, by decide +kernel⟩
theorem g__law_cell_at (T : Txt K mg w)  : Gd P w K mg base CX0 1 "_law_cell_at" ["script", "k"] (sp__law_cell_at K) := by
  have sc := sc__law_cell_at
  refine T.d__law_cell_at.ok sc len2 (fun _ _ _ _ _ _ us hl => match us, hl with | [_, _], _ => rfl) (fun f cdv A outer s H vs Q E hr h => ?_)
  obtain ⟨x0, x1, rfl, h⟩ := h
  obtain ⟨a, ns, k, rfl, rfl, hS, hk0, hk1, h⟩ := h
  refine ⟨_, (pss_cons (ps_if (pt_cmpR op_lt (pv 1) (pe_callB call_len_seq (by rfl) T.n_len PySem.boot_len (pa_cons (pv 0) pa_nil)) (nomark _)) (pss_one (ps_ret (pe_ix ix_list (pv 0) (pv 1) (fun _ _ => rfl)))) pss_nil)
      (pss_one (ps_ret pe_int))), ?_⟩
  refine ⟨_, rfl, _, rfl, a, ns.map V.int, rfl, Or.inl hS, _, _, rfl, rfl, _, rfl, ?_⟩
  by_cases c : k < ((ns.map V.int).length : Int)
  · refine if_true_of (decide_eq_true c) ?_
    have hl : k.toNat < ns.length := by rw [List.length_map] at c; omega
    refine ⟨_, rfl, _, rfl, a, ns.map V.int, k, V.int ns[k.toNat], rfl, rfl, hS, at_of (j := k.toNat) (by omega) (by rw [List.getElem?_map, List.getElem?_eq_getElem hl] <;> rfl), h _⟩
  · refine if_false_of (decide_eq_false c) ?_
    exact h 0
theorem sc__law_draw : FnScope ["cell", "k", "bound", "primes"] ["cell", "k", "bound"] (defScope s__law_draw) := ⟨rfl, rfl, rfl, by decide +kernel, rfl, by decide +kernel, by decide +kernel⟩
theorem g__law_draw (T : Txt K mg w)  : Gd P w K mg base CX0 1 "_law_draw" ["cell", "k", "bound"] (sp__law_draw) := by
  have sc := sc__law_draw
  refine T.d__law_draw.ok sc len3 (fun _ _ _ _ _ _ us hl => match us, hl with | [_, _, _], _ => rfl) (fun f cdv A outer s H vs Q E hr h => ?_)
  obtain ⟨x0, x1, x2, rfl, h⟩ := h
  obtain ⟨c, k, b, rfl, rfl, rfl, hc, hk0, hk1, hb, h⟩ := h
  refine ⟨_, (pss_cons (ps_set (i := 3) sc.nd rfl (Or.inl rfl) (pe_tup (pa_cons pe_int (pa_cons pe_int (pa_cons pe_int (pa_cons pe_int (pa_cons pe_int (pa_cons pe_int (pa_cons pe_int (pa_cons pe_int (pa_cons pe_int (pa_cons pe_int (pa_cons pe_int (pa_cons pe_int (pa_cons pe_int (pa_cons pe_int (pa_cons pe_int (pa_cons pe_int pa_nil))))))))))))))))))
      (pss_one (ps_ret (pe_op op_mod (pe_op op_mod (pe_callTy call_int1 (by rfl) T.n_int (by decide +kernel) (pa_cons (pe_op op_add (pe_op op_mul (pv 0) pe_int) (pe_op op_mul (pv 1) pe_int)) pa_nil)) (pe_ix ix_tup (pv 3) (pe_op op_mod (pe_callTy call_int1 (by rfl) T.n_int (by decide +kernel) (pa_cons (pv 1) pa_nil)) pe_int) (fun _ _ => rfl))) (pv 2))))), ?_⟩
  refine ⟨(by show 16 ≤ sizeLine; decide), fun p hp => ?_⟩
  refine ⟨_, rfl, _, _, rfl, rfl, Or.inr ⟨by decide, by decide⟩, _, rfl, _, _, rfl, rfl, Or.inr ⟨by decide, by decide⟩, _, _, rfl, rfl, Or.inl ⟨_, rfl, ?_⟩⟩
  refine ⟨_, rfl, _, rfl, Or.inl ⟨_, rfl, ?_⟩⟩
  refine ⟨_, _, rfl, rfl, (by show (0 : Int) < 16; decide), ?_⟩
  obtain ⟨j, hj, ej⟩ : ∃ j : Nat, j < 16 ∧ k % 16 = (j : Int) := ⟨(k % 16).toNat, by omega, by omega⟩
  obtain ⟨q, hq, hq0⟩ : ∃ q : Int, ([.int 1000003, .int 1000033, .int 1000037, .int 1000039, .int 1000081, .int 1000099, .int 1000117, .int 1000121, .int 1000133, .int 1000151, .int 1000159, .int 1000171, .int 1000183, .int 1000187, .int 1000193, .int 1000199] : List V)[j]? = some (.int q) ∧ 0 < q := by
    have : ∀ j : Nat, j < 16 → ∃ q : Int, ([.int 1000003, .int 1000033, .int 1000037, .int 1000039, .int 1000081, .int 1000099, .int 1000117, .int 1000121, .int 1000133, .int 1000151, .int 1000159, .int 1000171, .int 1000183, .int 1000187, .int 1000193, .int 1000199] : List V)[j]? = some (.int q) ∧ 0 < q := by
      intro j hj
      match j, hj with
      | 0, _ | 1, _ | 2, _ | 3, _ | 4, _ | 5, _ | 6, _ | 7, _ | 8, _ | 9, _ | 10, _ | 11, _ | 12, _ | 13, _ | 14, _ | 15, _ => exact ⟨_, rfl, by decide⟩
      | n + 16, h => omega
    exact this j hj
  refine ⟨p, _, _, _, rfl, rfl, SqT.of upd_same, at_of ej hq, ?_⟩
  refine ⟨_, _, rfl, rfl, hq0, _, rfl, _, _, rfl, rfl, hb, ?_⟩
  exact h _ _ (Int.emod_nonneg _ (by omega)) (Int.emod_lt_of_pos _ hb) (fun x o e => by rw [upd_ne (ne_of_none e hp)]; exact e)
theorem sc__law_number : FnScope ["cell", "k", "bound", "power", "lap", "remains", "small"] ["cell", "k", "bound"] (defScope s__law_number) := ⟨rfl, rfl, rfl, by decide +kernel, rfl, by decide +kernel, by decide +kernel⟩
theorem g__law_number (T : Txt K mg w) (G__law_draw : Gd P w K mg base CX0 1 "_law_draw" ["cell", "k", "bound"] (sp__law_draw)) : Gd P w K mg base CX0 2 "_law_number" ["cell", "k", "bound"] (sp__law_number) := by
  have sc := sc__law_number
  refine T.d__law_number.ok sc len3 (fun _ _ _ _ _ _ us hl => match us, hl with | [_, _, _], _ => rfl) (fun f cdv A outer s H vs Q E hr h => ?_)
  obtain ⟨x0, x1, x2, rfl, h⟩ := h
  obtain ⟨c, k, b, rfl, rfl, rfl, hk0, hk1, hb, h⟩ := h
  refine ⟨_, (pss_cons (ps_set (i := 3) sc.nd rfl (Or.inl rfl) pe_int)
      (pss_cons (ps_for PassesOwn.never rfl (pi_range1 rfl T.n_range (pa_cons (pe_op op_mod (pe_callTy call_int1 (by rfl) T.n_int (by decide +kernel) (pa_cons (pv 1) pa_nil)) pe_int) pa_nil)) (pg_name (i := 4) sc.nd rfl (Or.inl rfl)) (pss_one (ps_set (i := 3) sc.nd rfl (Or.inl rfl) (pe_op op_mul (pv 3) pe_int))))
      (pss_cons (ps_set (i := 5) sc.nd rfl (Or.inl rfl) (pe_op op_fdivW (pe_op op_sub (pv 0) (pe_op op_pow pe_int pe_int)) (pv 3)))
      (pss_cons (ps_if (pt_cmpR op_gt (pv 5) pe_int (nomark _)) (pss_one (ps_ret (pe_op op_mod (pe_op op_mod (pe_callTy call_int1 (by rfl) T.n_int (by decide +kernel) (pa_cons (pv 5) pa_nil)) pe_int) (pv 2)))) pss_nil)
      (pss_cons (ps_set (i := 6) sc.nd rfl (Or.inl rfl) (pe_op op_mod (pe_callTy call_int1 (by rfl) T.n_int (by decide +kernel) (pa_cons (pv 0) pa_nil)) pe_int))
      (pss_one (ps_ret (pe_op op_mod (pe_g G__law_draw (hr.mono (by decide)) pass0 (pa_cons (pe_op op_mul (pe_op op_add (pv 6) (pe_op op_mul pe_int (pv 1))) (pe_op op_add (pe_op op_add (pv 6) (pe_op op_mul pe_int (pv 1))) pe_int)) (pa_cons (pe_op op_add (pe_op op_mod (pe_callTy call_int1 (by rfl) T.n_int (by decide +kernel) (pa_cons (pv 1) pa_nil)) pe_int) pe_int) (pa_cons pe_int pa_nil)))) (pv 2))))))))), ?_⟩
  refine ⟨_, rfl, Or.inl ⟨_, rfl, ?_⟩⟩
  refine ⟨_, _, rfl, rfl, (by show (0 : Int) < 24; decide), k % 24, rfl, by omega, by omega, ?_⟩
  refine for_range (n := (k % 24).toNat) (fun i σ H' => H' = H ∧ ∃ v : Option V, σ = [some (.int c), some (.int k), some (.int b), some (.int (1009 ^ i)), v, none, none]) ⟨rfl, _, rfl⟩ ?_ ?_
  · rintro i σ H' hi ⟨rfl, v, rfl⟩
    refine ⟨_, rfl, _, _, rfl, rfl, Or.inr ⟨by decide, by decide⟩, rfl, some (.int (0 + (i : Int))), ?_⟩
    show _ = ([some (.int c), some (.int k), some (.int b), some (.int (1009 ^ (i + 1))), some (.int (0 + (i : Int))), none, none] : List (Option V))
    rw [Int.pow_succ]
    all_goals rfl
  · rintro σ H' ⟨rfl, v, rfl⟩
    have hj : (k % 24).toNat < 24 := by omega
    have hp : (0 : Int) < 1009 ^ (k % 24).toNat := Int.pow_pos (by decide)
    have hpb : ((1009 : Int) ^ (k % 24).toNat).natAbs < 2 ^ 240 := by
      rw [Int.natAbs_pow]
      exact Nat.lt_of_le_of_lt (Nat.pow_le_pow_right (by decide) (show (k % 24).toNat ≤ 23 by omega)) (by decide : (1009 : Int).natAbs ^ 23 < 2 ^ 240)
    refine ⟨_, rfl, _, _, rfl, rfl, ⟨by decide, by decide, by decide⟩, _, _, rfl, rfl, _, rfl, _, _, rfl, rfl, wide_div hp hpb (by decide) (by decide), ?_⟩
    refine ⟨_, rfl, _, _, rfl, rfl, _, rfl, ?_⟩
    refine ite2 (fun _ => ?_) (fun _ => ?_)
    · refine ⟨_, rfl, Or.inl ⟨_, rfl, ?_⟩⟩
      refine ⟨_, _, rfl, rfl, (by show (0 : Int) < 1009; decide), _, rfl, _, _, rfl, rfl, hb, ?_⟩
      exact h _ _ (Int.emod_nonneg _ (by omega)) (Int.emod_lt_of_pos _ hb) (fun _ _ e => e)
    · refine ⟨_, rfl, Or.inl ⟨_, rfl, ?_⟩⟩
      refine ⟨_, _, rfl, rfl, (by show (0 : Int) < 1000003; decide), ?_⟩
      have h1 : 0 ≤ c % 1000003 := Int.emod_nonneg _ (by decide)
      have h2 : c % 1000003 < 1000003 := Int.emod_lt_of_pos _ (by decide)
      refine ⟨_, rfl, _, rfl, _, _, rfl, rfl, Or.inr ⟨by omega, by omega⟩, _, _, rfl, rfl, ?_⟩
      refine ⟨_, rfl, _, rfl, _, _, rfl, rfl, Or.inr ⟨by omega, by omega⟩, _, _, rfl, rfl, _, _, rfl, rfl, _, _, rfl, rfl, Or.inl ⟨by omega, by omega⟩, ?_⟩
      refine ⟨_, rfl, Or.inl ⟨_, rfl, ?_⟩⟩
      refine ⟨_, _, rfl, rfl, (by show (0 : Int) < 9; decide), _, _, rfl, rfl, ?_⟩
      refine ⟨_, _, _, rfl, _, _, _, rfl, rfl, rfl, ?_, by omega, by omega, by decide, fun r H1 hr0 hr1 e1 => ?_⟩
      · constructor
        · have := Int.mul_nonneg (show 0 ≤ c % 1000003 + 977 * k by omega) (show 0 ≤ c % 1000003 + 31 * k + 5 by omega); omega
        · have := Int.mul_le_mul (show c % 1000003 + 977 * k ≤ 3000003 by omega) (show c % 1000003 + 31 * k + 5 ≤ 3000003 by omega) (by omega) (by omega); omega
      refine ⟨_, rfl, _, _, rfl, rfl, hb, ?_⟩
      exact h _ _ (Int.emod_nonneg _ (by omega)) (Int.emod_lt_of_pos _ hb) e1
theorem sc__law_next : FnScope ["draw", "bound", "at", "cell"] ["draw", "bound"] (defScope s__law_next) := ⟨rfl, rfl, rfl, by decide +kernel, rfl, by decide +kernel, by decide +kernel⟩
theorem g__law_next (T : Txt K mg w) (G__law_cell_at : Gd P w K mg base CX0 1 "_law_cell_at" ["script", "k"] (sp__law_cell_at K)) (G__law_number : Gd P w K mg base CX0 2 "_law_number" ["cell", "k", "bound"] (sp__law_number)) : Gd P w K mg base CX0 3 "_law_next" ["draw", "bound"] (sp__law_next K) := by
  have sc := sc__law_next
  refine T.d__law_next.ok sc len2 (fun _ _ _ _ _ _ us hl => match us, hl with | [_, _], _ => rfl) (fun f cdv A outer s H vs Q E hr h => ?_)
  obtain ⟨x0, x1, rfl, h⟩ := h
  obtain ⟨d, s, ns, n, b, rfl, rfl, hd, hs, hn0, hn1, hb, h⟩ := h
  refine ⟨_, (pss_cons (ps_asg (pe_op op_add (pe_ix ix_list (pv 0) pe_int (fun _ _ => rfl)) pe_int) (pg_sub (pv 0) pe_int set_list))
      (pss_cons (ps_set (i := 2) sc.nd rfl (Or.inl rfl) (pe_op op_fdiv (pe_ix ix_list (pv 0) pe_int (fun _ _ => rfl)) pe_int))
      (pss_cons (ps_set (i := 3) sc.nd rfl (Or.inl rfl) (pe_op op_add (pe_g G__law_cell_at (hr.mono (by decide)) pass0 (pa_cons (pe_ix ix_list (pv 0) pe_int (fun _ _ => rfl)) (pa_cons (pe_op op_add (pe_ix ix_list (pv 0) pe_int (fun _ _ => rfl)) (pv 2)) pa_nil))) (pe_op op_mul pe_int (pv 2))))
      (pss_one (ps_ret (pe_g G__law_number (hr.mono (by decide)) pass0 (pa_cons (pv 3) (pa_cons (pe_op op_add (pe_op op_mod (pe_callTy call_int1 (by rfl) T.n_int (by decide +kernel) (pa_cons (pe_ix ix_list (pv 0) pe_int (fun _ _ => rfl)) pa_nil)) pe_int) pe_int) (pa_cons (pv 1) pa_nil))))))))), ?_⟩
  have hds : d ≠ s := ne_of hd hs (by intro z; cases ns <;> cases z)
  refine ⟨_, rfl, d, _, _, _, rfl, rfl, SqL.of hd, at_of (j := 2) rfl rfl, _, _, rfl, rfl, _, rfl, d, _, _, 2, rfl, rfl, hd, rfl, ?_⟩
  show ∃ v, _ ∧ _
  refine ⟨_, rfl, d, _, _, _, rfl, rfl, SqL.of upd_same, at_of (j := 2) rfl rfl, _, _, rfl, rfl, ⟨by decide, by decide⟩, ?_⟩
  refine ⟨_, rfl, d, _, _, _, rfl, rfl, SqL.of upd_same, at_of (j := 0) rfl rfl, _, rfl, d, _, _, _, rfl, rfl, SqL.of upd_same, at_of (j := 1) rfl rfl, _, rfl, _, _, rfl, rfl, ?_⟩
  refine ⟨_, _, rfl, _, ns, _, rfl, rfl, SqL.of (by rw [upd_ne hds.symm]; exact hs), by omega, by omega, fun v => ?_⟩
  refine ⟨_, rfl, _, _, rfl, rfl, Or.inr ⟨by omega, by omega⟩, _, _, rfl, rfl, ?_⟩
  refine ⟨_, rfl, _, rfl, d, _, _, _, rfl, rfl, SqL.of upd_same, at_of (j := 2) rfl rfl, Or.inl ⟨_, rfl, ?_⟩⟩
  refine ⟨_, _, rfl, rfl, (by show (0 : Int) < 12; decide), _, _, rfl, rfl, _, rfl, ?_⟩
  refine ⟨_, _, _, rfl, _, _, _, rfl, rfl, rfl, by omega, by omega, hb, fun r H1 h0 h1 e1 => ?_⟩
  refine h r H1 h0 h1 (fun x o e hx => e1 _ _ (by rw [upd_ne hx]; exact e)) ?_
  exact e1 _ _ upd_same
theorem sc__law_pick : FnScope ["draw", "things"] ["draw", "things"] (defScope s__law_pick) := ⟨rfl, rfl, rfl, by decide +kernel, rfl, by decide +kernel, by decide +kernel⟩
theorem g__law_pick (T : Txt K mg w) (G__law_next : Gd P w K mg base CX0 3 "_law_next" ["draw", "bound"] (sp__law_next K)) : Gd P w K mg base CX0 4 "_law_pick" ["draw", "things"] (sp__law_pick K) := by
  have sc := sc__law_pick
  refine T.d__law_pick.ok sc len2 (fun _ _ _ _ _ _ us hl => match us, hl with | [_, _], _ => rfl) (fun f cdv A outer s H vs Q E hr h => ?_)
  obtain ⟨x0, x1, rfl, h⟩ := h
  obtain ⟨d, s, ns, n, t, xs, rfl, rfl, hd, hs, hn0, hn1, ht, hdt, hx, h⟩ := h
  refine ⟨_, (pss_one (ps_ret (pe_ix ix_list (pv 1) (pe_g G__law_next (hr.mono (by decide)) pass0 (pa_cons (pv 0) (pa_cons (pe_callB call_len_seq (by rfl) T.n_len PySem.boot_len (pa_cons (pv 1) pa_nil)) pa_nil))) (fun _ _ => rfl)))), ?_⟩
  have hl : 0 < xs.length := List.length_pos_iff.mpr hx
  refine ⟨_, rfl, _, rfl, _, rfl, t, xs, rfl, Or.inl (SqL.of ht), ?_⟩
  refine ⟨_, _, rfl, d, s, ns, n, _, rfl, rfl, hd, hs, hn0, hn1, by omega, fun r H1 h0 h1 e1 e2 => ?_⟩
  have hj : r.toNat < xs.length := by omega
  refine ⟨t, xs, r, xs[r.toNat], rfl, rfl, SqL.of (e1 _ _ ht hdt), at_of (j := r.toNat) (by omega) (List.getElem?_eq_getElem hj), ?_⟩
  exact h _ H1 (List.getElem_mem hj) e1 e2
theorem sc__law_word : FnScope ["draw", "near"] ["draw"] (defScope s__law_word) := ⟨rfl, rfl, rfl, by decide +kernel, rfl, by decide +kernel, by decide +kernel⟩
theorem g__law_word (T : Txt K mg w) (G__law_pick : Gd P w K mg base CX0 4 "_law_pick" ["draw", "things"] (sp__law_pick K)) (G__law_next : Gd P w K mg base CX0 3 "_law_next" ["draw", "bound"] (sp__law_next K)) : Gd P w K mg base CX0 5 "_law_word" ["draw"] (sp__law_word K) := by
  have sc := sc__law_word
  refine T.d__law_word.ok sc len1 (fun _ _ _ _ _ _ us hl => match us, hl with | [_], _ => rfl) (fun f cdv A outer s H vs Q E hr h => ?_)
  obtain ⟨x0, rfl, h⟩ := h
  obtain ⟨d, s, ns, n, rfl, hd, hs, hn0, hn1, h⟩ := h
  refine ⟨_, (pss_cons (ps_set (i := 1) sc.nd rfl (Or.inl rfl) (pe_g G__law_pick (hr.mono (by decide)) pass0 (pa_cons (pv 0) (pa_cons (pe_lst (pa_cons pe_int (pa_cons pe_int (pa_cons (pe_op op_pow pe_int pe_int) (pa_cons (pe_op op_sub (pe_op op_pow pe_int pe_int) pe_int) (pa_cons (pe_op op_sub (pe_op op_pow pe_int pe_int) pe_int) (pa_cons (pe_op op_pow pe_int pe_int) (pa_cons (pe_op op_pow pe_int pe_int) (pa_cons (pe_op op_sub (pe_op op_pow pe_int pe_int) (pe_op op_pow pe_int pe_int)) pa_nil))))))))) pa_nil))))
      (pss_cons (ps_if (pt_cmpR op_eq (pe_g G__law_next (hr.mono (by decide)) pass0 (pa_cons (pv 0) (pa_cons pe_int pa_nil))) pe_int (nomark _)) (pss_one (ps_ret (pe_op op_mod (pe_op op_add (pe_op op_add (pe_op op_mul (pe_g G__law_next (hr.mono (by decide)) pass0 (pa_cons (pv 0) (pa_cons pe_int pa_nil))) pe_int) (pe_op op_mul (pe_g G__law_next (hr.mono (by decide)) pass0 (pa_cons (pv 0) (pa_cons pe_int pa_nil))) pe_int)) (pv 1)) (pe_op op_pow pe_int pe_int)))) pss_nil)
      (pss_one (ps_ret (pe_op op_mod (pe_op op_sub (pe_op op_add (pv 1) (pe_g G__law_next (hr.mono (by decide)) pass0 (pa_cons (pv 0) (pa_cons pe_int pa_nil)))) pe_int) (pe_op op_pow pe_int pe_int)))))), ?_⟩
  have hds : d ≠ s := ne_of hd hs (by intro z; cases ns <;> cases z)
  refine ⟨_, rfl, _, _, rfl, rfl, ⟨by decide, by decide, by decide⟩, _, _, rfl, rfl, ⟨by decide, by decide, by decide⟩, _, _, rfl, rfl, _, _, rfl, rfl, ⟨by decide, by decide, by decide⟩, _, _, rfl, rfl, ?_⟩
  refine ⟨_, _, rfl, rfl, ⟨by decide, by decide, by decide⟩, _, _, rfl, rfl, ⟨by decide, by decide, by decide⟩, ?_⟩
  refine ⟨_, _, rfl, rfl, ⟨by decide, by decide, by decide⟩, _, _, rfl, rfl, ⟨by decide, by decide, by decide⟩, _, _, rfl, rfl, (by show 8 ≤ sizeLine; decide), fun t ht => ?_⟩
  have hdt : d ≠ t := ne_of_none hd ht
  have hst : s ≠ t := ne_of_none hs ht
  refine ⟨_, _, rfl, d, s, ns, n, t, _, rfl, rfl, (by rw [upd_ne hdt]; exact hd), (by rw [upd_ne hst]; exact hs), hn0, by omega, upd_same, hdt.symm, by simp, fun v H1 hv e1 f1 => ?_⟩
  obtain ⟨z, rfl, hz0, hz1⟩ : ∃ z : Int, v = .int z ∧ 0 ≤ z ∧ z < 4294967296 := by
    rcases List.mem_cons.mp hv with rfl | hv
    · exact ⟨_, rfl, by decide, by decide⟩
    rcases List.mem_cons.mp hv with rfl | hv
    · exact ⟨_, rfl, by decide, by decide⟩
    rcases List.mem_cons.mp hv with rfl | hv
    · exact ⟨_, rfl, by decide, by decide⟩
    rcases List.mem_cons.mp hv with rfl | hv
    · exact ⟨_, rfl, by decide, by decide⟩
    rcases List.mem_cons.mp hv with rfl | hv
    · exact ⟨_, rfl, by decide, by decide⟩
    rcases List.mem_cons.mp hv with rfl | hv
    · exact ⟨_, rfl, by decide, by decide⟩
    rcases List.mem_cons.mp hv with rfl | hv
    · exact ⟨_, rfl, by decide, by decide⟩
    rcases List.mem_cons.mp hv with rfl | hv
    · exact ⟨_, rfl, by decide, by decide⟩
    · cases hv
  have s1 : H1 s = some (.lst (ns.map V.int)) := e1 _ _ (by rw [upd_ne hst]; exact hs) hds.symm
  have b1 : But d H H1 := fun b o e hb => e1 b o (by rw [upd_ne (ne_of_none e ht)]; exact e) hb
  refine ⟨_, rfl, _, _, rfl, d, s, ns, n + 1, 3, rfl, rfl, f1, s1, by omega, by omega, by decide, fun r H2 r0 r1 e2 f2 => ?_⟩
  have s2 := e2 _ _ s1 hds.symm
  have b2 : But d H H2 := fun b o e hb => e2 b o (b1 b o e hb) hb
  refine ⟨rfl, _, rfl, ?_⟩
  refine ite2 (fun _ => ?_) (fun _ => ?_)
  · refine ⟨_, rfl, _, _, rfl, d, s, ns, n + 1 + 1, 1009, rfl, rfl, f2, s2, by omega, by omega, by decide, fun q H3 q0 q1 e3 f3 => ?_⟩
    have s3 := e3 _ _ s2 hds.symm
    have b3 : But d H H3 := fun b o e hb => e3 b o (b2 b o e hb) hb
    refine ⟨_, _, rfl, rfl, Or.inr ⟨by decide, by decide⟩, ?_⟩
    refine ⟨_, rfl, _, _, rfl, d, s, ns, n + 1 + 1 + 1, 1009, rfl, rfl, f3, s3, by omega, by omega, by decide, fun q' H4 q0' q1' e4 f4 => ?_⟩
    have b4 : But d H H4 := fun b o e hb => e4 b o (b3 b o e hb) hb
    refine ⟨_, _, rfl, rfl, Or.inr ⟨by decide, by decide⟩, _, _, rfl, rfl, _, rfl, _, _, rfl, rfl, _, _, rfl, rfl, ⟨by decide, by decide, by decide⟩, _, _, rfl, rfl, (by show (0 : Int) < 4294967296; decide), ?_⟩
    exact h _ _ _ ⟨Int.emod_nonneg _ (by decide), Int.emod_lt_of_pos _ (by decide)⟩ (by omega) (by omega) b4 f4
  · refine ⟨_, rfl, _, rfl, _, _, rfl, d, s, ns, n + 1 + 1, 7, rfl, rfl, f2, s2, by omega, by omega, by decide, fun q H3 q0 q1 e3 f3 => ?_⟩
    have b3 : But d H H3 := fun b o e hb => e3 b o (b2 b o e hb) hb
    refine ⟨_, _, rfl, rfl, _, _, rfl, rfl, _, _, rfl, rfl, ⟨by decide, by decide, by decide⟩, _, _, rfl, rfl, (by show (0 : Int) < 4294967296; decide), ?_⟩
    exact h _ _ _ ⟨Int.emod_nonneg _ (by decide), Int.emod_lt_of_pos _ (by decide)⟩ (by omega) (by omega) b3 f3
theorem sc__law_signed : FnScope ["word"] ["word"] (defScope s__law_signed) := ⟨rfl, rfl, rfl, by decide +kernel, rfl, by decide +kernel, by decide +kernel⟩
theorem g__law_signed (T : Txt K mg w)  : Gd P w K mg base CX0 1 "_law_signed" ["word"] (sp__law_signed) := by
  have sc := sc__law_signed
  refine T.d__law_signed.ok sc len1 (fun _ _ _ _ _ _ us hl => match us, hl with | [_], _ => rfl) (fun f cdv A outer s H vs Q E hr h => ?_)
  obtain ⟨x0, rfl, h⟩ := h
  obtain ⟨a, rfl, h⟩ := h
  refine ⟨_, (pss_one (ps_ret (pe_ifExp (pt_cmpR op_lt (pv 0) (pe_op op_pow pe_int pe_int) (nomark _)) (pv 0) (pe_op op_sub (pv 0) (pe_op op_pow pe_int pe_int))))), ?_⟩
  refine ⟨_, rfl, _, _, rfl, rfl, ⟨by decide, by decide, by decide⟩, _, _, rfl, rfl, _, rfl, ?_⟩
  refine ite2 (fun c => ?_) (fun c => ?_)
  · refine ⟨_, rfl, ?_⟩
    have e : sg a = a := if_pos (of_decide_eq_true c)
    rw [e] at h; exact h
  · refine ⟨_, rfl, _, _, rfl, rfl, ⟨by decide, by decide, by decide⟩, _, _, rfl, rfl, ?_⟩
    have e : sg a = a - 4294967296 := if_neg (fun z => c (decide_eq_true z))
    rw [e] at h; exact h
theorem sc__law_power : FnScope ["many", "found", "turn"] ["many"] (defScope s__law_power) := ⟨rfl, rfl, rfl, by decide +kernel, rfl, by decide +kernel, by decide +kernel⟩
theorem g__law_power (T : Txt K mg w)  : Gd P w K mg base CX0 1 "_law_power" ["many"] (sp__law_power) := by
  have sc := sc__law_power
  refine T.d__law_power.ok sc len1 (fun _ _ _ _ _ _ us hl => match us, hl with | [_], _ => rfl) (fun f cdv A outer s H vs Q E hr h => ?_)
  obtain ⟨x0, rfl, h⟩ := h
  obtain ⟨k, rfl, hk0, hk1, h⟩ := h
  refine ⟨_, (pss_cons (ps_set (i := 1) sc.nd rfl (Or.inl rfl) pe_int)
      (pss_cons (ps_for PassesOwn.never rfl (pi_range1 rfl T.n_range (pa_cons (pv 0) pa_nil)) (pg_name (i := 2) sc.nd rfl (Or.inl rfl)) (pss_one (ps_set (i := 1) sc.nd rfl (Or.inl rfl) (pe_op op_mul (pv 1) pe_int))))
      (pss_one (ps_ret (pv 1))))), ?_⟩
  refine ⟨_, rfl, k, rfl, by omega, by omega, ?_⟩
  refine for_range (n := k.toNat) (fun i σ H' => H' = H ∧ ∃ v : Option V, σ = [some (.int k), some (.int (p2 i)), v]) ⟨rfl, _, rfl⟩ ?_ ?_
  · rintro i σ H' hi ⟨rfl, v, rfl⟩
    refine ⟨_, rfl, _, _, rfl, rfl, Or.inr ⟨by decide, by decide⟩, rfl, some (.int (0 + (i : Int))), ?_⟩
    show _ = ([some (.int k), some (.int (p2 (i + 1))), some (.int (0 + (i : Int)))] : List (Option V))
    rw [p2_succ, Int.mul_comm]
    all_goals rfl
  · rintro σ H' ⟨rfl, v, rfl⟩
    exact ⟨_, rfl, h⟩
theorem sc_word_of : FnScope ["number"] ["number"] (defScope s_word_of) := ⟨rfl, rfl, rfl, by decide +kernel, rfl, by decide +kernel, by decide +kernel⟩
theorem g_word_of (T : Txt K mg w)  : Gd P w K mg base CX0 1 "word_of" ["number"] (sp_word_of) := by
  have sc := sc_word_of
  refine T.d_word_of.ok sc len1 (fun _ _ _ _ _ _ us hl => match us, hl with | [_], _ => rfl) (fun f cdv A outer s H vs Q E hr h => ?_)
  obtain ⟨x0, rfl, h⟩ := h
  obtain ⟨n, rfl, h⟩ := h
  refine ⟨_, (pss_one (ps_ret (pe_op op_and (pv 0) (pe_gint T.c_GREATEST)))), ?_⟩
  refine ⟨_, rfl, _, _, rfl, rfl, ?_⟩
  show Q (V.int (Builtin.bitAnd n 4294967295)) H
  rw [bitAnd_m32]; exact h
theorem sc_signed : FnScope ["word"] ["word"] (defScope s_signed) := ⟨rfl, rfl, rfl, by decide +kernel, rfl, by decide +kernel, by decide +kernel⟩
theorem g_signed (T : Txt K mg w)  : Gd P w K mg base CX0 1 "signed" ["word"] (sp_signed) := by
  have sc := sc_signed
  refine T.d_signed.ok sc len1 (fun _ _ _ _ _ _ us hl => match us, hl with | [_], _ => rfl) (fun f cdv A outer s H vs Q E hr h => ?_)
  obtain ⟨x0, rfl, h⟩ := h
  obtain ⟨a, rfl, h⟩ := h
  refine ⟨_, (pss_cons (ps_if (pt_cmpR op_ge (pv 0) (pe_gint T.c_HALF) (nomark _)) (pss_one (ps_ret (pe_op op_sub (pe_op op_sub (pv 0) (pe_gint T.c_GREATEST)) pe_int))) pss_nil)
      (pss_one (ps_ret (pv 0)))), ?_⟩
  refine ⟨_, rfl, _, _, rfl, rfl, _, rfl, ?_⟩
  refine ite2 (fun c => ?_) (fun c => ?_)
  · refine ⟨_, rfl, _, _, rfl, rfl, _, _, rfl, rfl, ?_⟩
    have c' : (2147483648 : Int) ≤ a := of_decide_eq_true c
    have e : sg a = a - 4294967295 - 1 := by unfold sg; rw [if_neg (by omega)]; omega
    rw [e] at h; exact h
  · have c' : ¬ (2147483648 : Int) ≤ a := fun z => c (decide_eq_true z)
    have e : sg a = a := if_pos (by omega)
    rw [e] at h
    exact ⟨_, rfl, h⟩
theorem sc__add : FnScope ["a", "b"] ["a", "b"] (defScope s__add) := ⟨rfl, rfl, rfl, by decide +kernel, rfl, by decide +kernel, by decide +kernel⟩
theorem g__add (T : Txt K mg w) (G_word_of : Gd P w K mg base CX0 1 "word_of" ["number"] (sp_word_of)) : Gd P w K mg base CX0 2 "_add" ["a", "b"] (sp__add) := by
  have sc := sc__add
  refine T.d__add.ok sc len2 (fun _ _ _ _ _ _ us hl => match us, hl with | [_, _], _ => rfl) (fun f cdv A outer s H vs Q E hr h => ?_)
  obtain ⟨x0, x1, rfl, h⟩ := h
  obtain ⟨a, b, rfl, rfl, ha, hb, h⟩ := h
  refine ⟨_, (pss_one (ps_ret (pe_g G_word_of (hr.mono (by decide)) pass0 (pa_cons (pe_op op_add (pv 0) (pv 1)) pa_nil)))), ?_⟩
  refine ⟨_, rfl, _, rfl, _, _, rfl, rfl, _, rfl, _, rfl, ?_⟩
  have e := pAdd ha hb
  have hh : Q (V.int (vAdd a b)) H := h
  rw [← e] at hh; exact hh
theorem sc__sub : FnScope ["a", "b"] ["a", "b"] (defScope s__sub) := ⟨rfl, rfl, rfl, by decide +kernel, rfl, by decide +kernel, by decide +kernel⟩
theorem g__sub (T : Txt K mg w) (G_word_of : Gd P w K mg base CX0 1 "word_of" ["number"] (sp_word_of)) : Gd P w K mg base CX0 2 "_sub" ["a", "b"] (sp__sub) := by
  have sc := sc__sub
  refine T.d__sub.ok sc len2 (fun _ _ _ _ _ _ us hl => match us, hl with | [_, _], _ => rfl) (fun f cdv A outer s H vs Q E hr h => ?_)
  obtain ⟨x0, x1, rfl, h⟩ := h
  obtain ⟨a, b, rfl, rfl, ha, hb, h⟩ := h
  refine ⟨_, (pss_one (ps_ret (pe_g G_word_of (hr.mono (by decide)) pass0 (pa_cons (pe_op op_sub (pv 0) (pv 1)) pa_nil)))), ?_⟩
  refine ⟨_, rfl, _, rfl, _, _, rfl, rfl, _, rfl, _, rfl, ?_⟩
  have e := pSub ha hb
  have hh : Q (V.int (vSub a b)) H := h
  rw [← e] at hh; exact hh
theorem sc__mul : FnScope ["a", "b"] ["a", "b"] (defScope s__mul) := ⟨rfl, rfl, rfl, by decide +kernel, rfl, by decide +kernel, by decide +kernel⟩
theorem g__mul (T : Txt K mg w) (G_word_of : Gd P w K mg base CX0 1 "word_of" ["number"] (sp_word_of)) : Gd P w K mg base CX0 2 "_mul" ["a", "b"] (sp__mul) := by
  have sc := sc__mul
  refine T.d__mul.ok sc len2 (fun _ _ _ _ _ _ us hl => match us, hl with | [_, _], _ => rfl) (fun f cdv A outer s H vs Q E hr h => ?_)
  obtain ⟨x0, x1, rfl, h⟩ := h
  obtain ⟨a, b, rfl, rfl, ha, hb, h⟩ := h
  refine ⟨_, (pss_one (ps_ret (pe_g G_word_of (hr.mono (by decide)) pass0 (pa_cons (pe_op op_mul (pv 0) (pv 1)) pa_nil)))), ?_⟩
  refine ⟨_, rfl, _, rfl, _, _, rfl, rfl, Or.inl (wd64 ha), _, rfl, _, rfl, ?_⟩
  have e := pMul ha hb
  have hh : Q (V.int (vMul a b)) H := h
  rw [← e] at hh; exact hh
theorem sc__and : FnScope ["a", "b"] ["a", "b"] (defScope s__and) := ⟨rfl, rfl, rfl, by decide +kernel, rfl, by decide +kernel, by decide +kernel⟩
theorem g__and (T : Txt K mg w)  : Gd P w K mg base CX0 1 "_and" ["a", "b"] (sp__and) := by
  have sc := sc__and
  refine T.d__and.ok sc len2 (fun _ _ _ _ _ _ us hl => match us, hl with | [_, _], _ => rfl) (fun f cdv A outer s H vs Q E hr h => ?_)
  obtain ⟨x0, x1, rfl, h⟩ := h
  obtain ⟨a, b, rfl, rfl, ha, hb, h⟩ := h
  refine ⟨_, (pss_one (ps_ret (pe_op op_and (pv 0) (pv 1)))), ?_⟩
  refine ⟨_, rfl, _, rfl, _, _, rfl, rfl, ?_⟩
  have e := pAnd ha hb
  have hh : Q (V.int (vAnd a b)) H := h
  rw [← e] at hh; exact hh
theorem sc__or : FnScope ["a", "b"] ["a", "b"] (defScope s__or) := ⟨rfl, rfl, rfl, by decide +kernel, rfl, by decide +kernel, by decide +kernel⟩
theorem g__or (T : Txt K mg w)  : Gd P w K mg base CX0 1 "_or" ["a", "b"] (sp__or) := by
  have sc := sc__or
  refine T.d__or.ok sc len2 (fun _ _ _ _ _ _ us hl => match us, hl with | [_, _], _ => rfl) (fun f cdv A outer s H vs Q E hr h => ?_)
  obtain ⟨x0, x1, rfl, h⟩ := h
  obtain ⟨a, b, rfl, rfl, ha, hb, h⟩ := h
  refine ⟨_, (pss_one (ps_ret (pe_op op_or (pv 0) (pv 1)))), ?_⟩
  refine ⟨_, rfl, _, rfl, _, _, rfl, rfl, ?_⟩
  have e := pOr ha hb
  have hh : Q (V.int (vOr a b)) H := h
  rw [← e] at hh; exact hh
theorem sc__xor : FnScope ["a", "b"] ["a", "b"] (defScope s__xor) := ⟨rfl, rfl, rfl, by decide +kernel, rfl, by decide +kernel, by decide +kernel⟩
theorem g__xor (T : Txt K mg w)  : Gd P w K mg base CX0 1 "_xor" ["a", "b"] (sp__xor) := by
  have sc := sc__xor
  refine T.d__xor.ok sc len2 (fun _ _ _ _ _ _ us hl => match us, hl with | [_, _], _ => rfl) (fun f cdv A outer s H vs Q E hr h => ?_)
  obtain ⟨x0, x1, rfl, h⟩ := h
  obtain ⟨a, b, rfl, rfl, ha, hb, h⟩ := h
  refine ⟨_, (pss_one (ps_ret (pe_op op_xor (pv 0) (pv 1)))), ?_⟩
  refine ⟨_, rfl, _, rfl, _, _, rfl, rfl, ?_⟩
  have e := pXor ha hb
  have hh : Q (V.int (vXor a b)) H := h
  rw [← e] at hh; exact hh
theorem sc__shl : FnScope ["a", "b"] ["a", "b"] (defScope s__shl) := ⟨rfl, rfl, rfl, by decide +kernel, rfl, by decide +kernel, by decide +kernel⟩
theorem g__shl (T : Txt K mg w) (G_word_of : Gd P w K mg base CX0 1 "word_of" ["number"] (sp_word_of)) : Gd P w K mg base CX0 2 "_shl" ["a", "b"] (sp__shl) := by
  have sc := sc__shl
  refine T.d__shl.ok sc len2 (fun _ _ _ _ _ _ us hl => match us, hl with | [_, _], _ => rfl) (fun f cdv A outer s H vs Q E hr h => ?_)
  obtain ⟨x0, x1, rfl, h⟩ := h
  obtain ⟨a, b, rfl, rfl, ha, hb, h⟩ := h
  refine ⟨_, (pss_one (ps_ret (pe_g G_word_of (hr.mono (by decide)) pass0 (pa_cons (pe_op op_shl (pv 0) (pe_op op_and (pv 1) pe_int)) pa_nil)))), ?_⟩
  refine ⟨_, rfl, _, rfl, _, _, rfl, rfl, _, _, rfl, rfl, pw31 ha, _, rfl, _, rfl, ?_⟩
  have e := pShl ha hb
  have hh : Q (V.int (vShl a b)) H := h
  rw [← e] at hh; exact hh
theorem sc__shr : FnScope ["a", "b"] ["a", "b"] (defScope s__shr) := ⟨rfl, rfl, rfl, by decide +kernel, rfl, by decide +kernel, by decide +kernel⟩
theorem g__shr (T : Txt K mg w)  : Gd P w K mg base CX0 1 "_shr" ["a", "b"] (sp__shr) := by
  have sc := sc__shr
  refine T.d__shr.ok sc len2 (fun _ _ _ _ _ _ us hl => match us, hl with | [_, _], _ => rfl) (fun f cdv A outer s H vs Q E hr h => ?_)
  obtain ⟨x0, x1, rfl, h⟩ := h
  obtain ⟨a, b, rfl, rfl, ha, hb, h⟩ := h
  refine ⟨_, (pss_one (ps_ret (pe_op op_shr (pv 0) (pe_op op_and (pv 1) pe_int)))), ?_⟩
  refine ⟨_, rfl, _, rfl, _, _, rfl, rfl, _, _, rfl, rfl, b31, ?_⟩
  have e := pShr ha hb
  have hh : Q (V.int (vShr a b)) H := h
  rw [← e] at hh; exact hh
theorem sc__sar : FnScope ["a", "b"] ["a", "b"] (defScope s__sar) := ⟨rfl, rfl, rfl, by decide +kernel, rfl, by decide +kernel, by decide +kernel⟩
theorem g__sar (T : Txt K mg w) (G_word_of : Gd P w K mg base CX0 1 "word_of" ["number"] (sp_word_of)) (G_signed : Gd P w K mg base CX0 1 "signed" ["word"] (sp_signed)) : Gd P w K mg base CX0 2 "_sar" ["a", "b"] (sp__sar) := by
  have sc := sc__sar
  refine T.d__sar.ok sc len2 (fun _ _ _ _ _ _ us hl => match us, hl with | [_, _], _ => rfl) (fun f cdv A outer s H vs Q E hr h => ?_)
  obtain ⟨x0, x1, rfl, h⟩ := h
  obtain ⟨a, b, rfl, rfl, ha, hb, h⟩ := h
  refine ⟨_, (pss_one (ps_ret (pe_g G_word_of (hr.mono (by decide)) pass0 (pa_cons (pe_op op_shr (pe_g G_signed (hr.mono (by decide)) pass0 (pa_cons (pv 0) pa_nil)) (pe_op op_and (pv 1) pe_int)) pa_nil)))), ?_⟩
  refine ⟨_, rfl, _, rfl, _, rfl, _, rfl, _, _, rfl, rfl, _, _, rfl, rfl, b31, _, rfl, _, rfl, ?_⟩
  have e := pSar ha hb
  have hh : Q (V.int (vSar a b)) H := h
  rw [← e] at hh; exact hh
theorem sc__lts : FnScope ["a", "b"] ["a", "b"] (defScope s__lts) := ⟨rfl, rfl, rfl, by decide +kernel, rfl, by decide +kernel, by decide +kernel⟩
theorem g__lts (T : Txt K mg w) (G_signed : Gd P w K mg base CX0 1 "signed" ["word"] (sp_signed)) : Gd P w K mg base CX0 2 "_lts" ["a", "b"] (sp__lts) := by
  have sc := sc__lts
  refine T.d__lts.ok sc len2 (fun _ _ _ _ _ _ us hl => match us, hl with | [_, _], _ => rfl) (fun f cdv A outer s H vs Q E hr h => ?_)
  obtain ⟨x0, x1, rfl, h⟩ := h
  obtain ⟨a, b, rfl, rfl, ha, hb, h⟩ := h
  refine ⟨_, (pss_one (ps_ret (pe_ifExp (pt_cmpR op_lt (pe_g G_signed (hr.mono (by decide)) pass0 (pa_cons (pv 0) pa_nil)) (pe_g G_signed (hr.mono (by decide)) pass0 (pa_cons (pv 1) pa_nil)) (nomark _)) pe_int pe_int))), ?_⟩
  refine ⟨_, rfl, _, rfl, _, rfl, _, rfl, _, rfl, _, rfl, _, _, rfl, rfl, _, rfl, ?_⟩
  have hh : Q (V.int (vLts a b)) H := h
  refine ite2 (fun c => ?_) (fun c => ?_)
  · have e : vLts a b = 1 := by unfold vLts; rw [if_pos (of_decide_eq_true c)]; decide
    rw [e] at hh; exact hh
  · have e : vLts a b = 0 := by unfold vLts; rw [if_neg (fun z => c (decide_eq_true z))]; decide
    rw [e] at hh; exact hh
theorem sc__ltu : FnScope ["a", "b"] ["a", "b"] (defScope s__ltu) := ⟨rfl, rfl, rfl, by decide +kernel, rfl, by decide +kernel, by decide +kernel⟩
theorem g__ltu (T : Txt K mg w)  : Gd P w K mg base CX0 1 "_ltu" ["a", "b"] (sp__ltu) := by
  have sc := sc__ltu
  refine T.d__ltu.ok sc len2 (fun _ _ _ _ _ _ us hl => match us, hl with | [_, _], _ => rfl) (fun f cdv A outer s H vs Q E hr h => ?_)
  obtain ⟨x0, x1, rfl, h⟩ := h
  obtain ⟨a, b, rfl, rfl, ha, hb, h⟩ := h
  refine ⟨_, (pss_one (ps_ret (pe_ifExp (pt_cmpR op_lt (pv 0) (pv 1) (nomark _)) pe_int pe_int))), ?_⟩
  refine ⟨_, rfl, _, rfl, _, _, rfl, rfl, _, rfl, ?_⟩
  have hh : Q (V.int (vLtu a b)) H := h
  refine ite2 (fun c => ?_) (fun c => ?_)
  · have e : vLtu a b = 1 := by unfold vLtu; rw [if_pos (of_decide_eq_true c)]; decide
    rw [e] at hh; exact hh
  · have e : vLtu a b = 0 := by unfold vLtu; rw [if_neg (fun z => c (decide_eq_true z))]; decide
    rw [e] at hh; exact hh
theorem sc__eq : FnScope ["a", "b"] ["a", "b"] (defScope s__eq) := ⟨rfl, rfl, rfl, by decide +kernel, rfl, by decide +kernel, by decide +kernel⟩
theorem g__eq (T : Txt K mg w)  : Gd P w K mg base CX0 1 "_eq" ["a", "b"] (sp__eq) := by
  have sc := sc__eq
  refine T.d__eq.ok sc len2 (fun _ _ _ _ _ _ us hl => match us, hl with | [_, _], _ => rfl) (fun f cdv A outer s H vs Q E hr h => ?_)
  obtain ⟨x0, x1, rfl, h⟩ := h
  obtain ⟨a, b, rfl, rfl, ha, hb, h⟩ := h
  refine ⟨_, (pss_one (ps_ret (pe_ifExp (pt_cmpR op_eq (pv 0) (pv 1) (nomark _)) pe_int pe_int))), ?_⟩
  refine ⟨_, rfl, _, rfl, rfl, _, rfl, ?_⟩
  have hh : Q (V.int (vEq a b)) H := h
  refine ite2 (fun c => ?_) (fun c => ?_)
  · have e : vEq a b = 1 := by unfold vEq; rw [if_pos (V.int.inj (of_decide_eq_true c))]; decide
    rw [e] at hh; exact hh
  · have e : vEq a b = 0 := by unfold vEq; rw [if_neg (fun z => c (decide_eq_true (congrArg V.int z)))]; decide
    rw [e] at hh; exact hh
theorem sc__divs : FnScope ["a", "b", "quotient"] ["a", "b"] (defScope s__divs) := ⟨rfl, rfl, rfl, by decide +kernel, rfl, by decide +kernel, by decide +kernel⟩
theorem g__divs (T : Txt K mg w) (G_signed : Gd P w K mg base CX0 1 "signed" ["word"] (sp_signed)) (G_word_of : Gd P w K mg base CX0 1 "word_of" ["number"] (sp_word_of)) : Gd P w K mg base CX0 2 "_divs" ["a", "b"] (sp__divs) := by
  have sc := sc__divs
  refine T.d__divs.ok sc len2 (fun _ _ _ _ _ _ us hl => match us, hl with | [_, _], _ => rfl) (fun f cdv A outer s H vs Q E hr h => ?_)
  obtain ⟨x0, x1, rfl, h⟩ := h
  obtain ⟨a, b, rfl, rfl, ha, hb, h⟩ := h
  refine ⟨_, (pss_cons (ps_if (pt_cmpR op_eq (pv 1) pe_int (nomark _)) (pss_one (ps_ret (pe_gint T.c_GREATEST))) pss_nil)
      (pss_cons (ps_set (i := 2) sc.nd rfl (Or.inl rfl) (pe_op op_fdivW (pe_callB call_abs (by rfl) T.n_abs (by decide +kernel) (pa_cons (pe_g G_signed (hr.mono (by decide)) pass0 (pa_cons (pv 0) pa_nil)) pa_nil)) (pe_callB call_abs (by rfl) T.n_abs (by decide +kernel) (pa_cons (pe_g G_signed (hr.mono (by decide)) pass0 (pa_cons (pv 1) pa_nil)) pa_nil))))
      (pss_cons (ps_if (pt_cmpR op_ne (pe_cmpR op_ge (pv 0) (pe_gint T.c_HALF) (nomark _)) (pe_cmpR op_ge (pv 1) (pe_gint T.c_HALF) (nomark _)) (nomark _)) (pss_one (ps_set (i := 2) sc.nd rfl (Or.inl rfl) (pe_un un_neg (pv 2)))) pss_nil)
      (pss_one (ps_ret (pe_g G_word_of (hr.mono (by decide)) pass0 (pa_cons (pv 2) pa_nil))))))), ?_⟩
  have hh : Q (V.int (vDivs a b)) H := h
  refine ⟨_, rfl, rfl, _, rfl, ?_⟩
  refine ite2 (fun c => ?_) (fun c => ?_)
  · have e0 : b = 0 := V.int.inj (of_decide_eq_true c)
    have e : vDivs a b = 4294967295 := if_pos e0
    rw [e] at hh; exact hh
  · have e0 : b ≠ 0 := fun z => c (decide_eq_true (congrArg V.int z))
    have pb : 0 < ab (sg b) := sg_pos hb e0
    have ub := ab_le hb
    have ua := ab_le ha
    refine ⟨_, rfl, _, rfl, _, rfl, _, rfl, _, rfl, _, rfl, _, rfl, _, rfl, _, _, rfl, rfl, wide_div pb (show (ab (sg b)).natAbs < 2 ^ 40 by omega) (by decide) (by decide), ?_⟩
    refine ⟨_, rfl, _, _, rfl, rfl, _, rfl, _, _, rfl, rfl, rfl, _, rfl, ?_⟩
    have ed : decide (V.bl (decide (2147483648 ≤ a)) = V.bl (decide (2147483648 ≤ b))) = (decide (2147483648 ≤ a) == decide (2147483648 ≤ b)) := dec_bl
    rw [ed]
    have e := pDivs ha hb e0
    refine ite2 (fun q => ?_) (fun q => ?_)
    · refine ⟨_, rfl, _, rfl, _, rfl, _, rfl, _, rfl, ?_⟩
      rw [if_pos q] at e
      rw [← e] at hh; exact hh
    · refine ⟨_, rfl, _, rfl, _, rfl, ?_⟩
      rw [if_neg q] at e
      rw [← e] at hh; exact hh
theorem sc__rems : FnScope ["a", "b", "rest"] ["a", "b"] (defScope s__rems) := ⟨rfl, rfl, rfl, by decide +kernel, rfl, by decide +kernel, by decide +kernel⟩
theorem g__rems (T : Txt K mg w) (G_signed : Gd P w K mg base CX0 1 "signed" ["word"] (sp_signed)) (G_word_of : Gd P w K mg base CX0 1 "word_of" ["number"] (sp_word_of)) : Gd P w K mg base CX0 2 "_rems" ["a", "b"] (sp__rems) := by
  have sc := sc__rems
  refine T.d__rems.ok sc len2 (fun _ _ _ _ _ _ us hl => match us, hl with | [_, _], _ => rfl) (fun f cdv A outer s H vs Q E hr h => ?_)
  obtain ⟨x0, x1, rfl, h⟩ := h
  obtain ⟨a, b, rfl, rfl, ha, hb, h⟩ := h
  refine ⟨_, (pss_cons (ps_if (pt_cmpR op_eq (pv 1) pe_int (nomark _)) (pss_one (ps_ret (pv 0))) pss_nil)
      (pss_cons (ps_set (i := 2) sc.nd rfl (Or.inl rfl) (pe_op op_mod (pe_callB call_abs (by rfl) T.n_abs (by decide +kernel) (pa_cons (pe_g G_signed (hr.mono (by decide)) pass0 (pa_cons (pv 0) pa_nil)) pa_nil)) (pe_callB call_abs (by rfl) T.n_abs (by decide +kernel) (pa_cons (pe_g G_signed (hr.mono (by decide)) pass0 (pa_cons (pv 1) pa_nil)) pa_nil))))
      (pss_cons (ps_if (pt_cmpR op_ge (pv 0) (pe_gint T.c_HALF) (nomark _)) (pss_one (ps_set (i := 2) sc.nd rfl (Or.inl rfl) (pe_un un_neg (pv 2)))) pss_nil)
      (pss_one (ps_ret (pe_g G_word_of (hr.mono (by decide)) pass0 (pa_cons (pv 2) pa_nil))))))), ?_⟩
  have hh : Q (V.int (vRems a b)) H := h
  refine ⟨_, rfl, rfl, _, rfl, ?_⟩
  refine ite2 (fun c => ?_) (fun c => ?_)
  · have e0 : b = 0 := V.int.inj (of_decide_eq_true c)
    have e : vRems a b = a := if_pos e0
    rw [e] at hh; exact ⟨_, rfl, hh⟩
  · have e0 : b ≠ 0 := fun z => c (decide_eq_true (congrArg V.int z))
    have pb : 0 < ab (sg b) := sg_pos hb e0
    refine ⟨_, rfl, _, rfl, _, rfl, _, rfl, _, rfl, _, rfl, _, rfl, _, rfl, _, _, rfl, rfl, pb, ?_⟩
    refine ⟨_, rfl, _, _, rfl, rfl, _, rfl, ?_⟩
    have e := pRems ha hb e0
    refine ite2 (fun q => ?_) (fun q => ?_)
    · refine ⟨_, rfl, _, rfl, _, rfl, _, rfl, _, rfl, ?_⟩
      rw [if_pos (of_decide_eq_true q)] at e
      rw [← e] at hh; exact hh
    · refine ⟨_, rfl, _, rfl, _, rfl, ?_⟩
      rw [if_neg (fun z => q (decide_eq_true z))] at e
      rw [← e] at hh; exact hh
theorem sc__divu : FnScope ["a", "b"] ["a", "b"] (defScope s__divu) := ⟨rfl, rfl, rfl, by decide +kernel, rfl, by decide +kernel, by decide +kernel⟩
theorem g__divu (T : Txt K mg w)  : Gd P w K mg base CX0 1 "_divu" ["a", "b"] (sp__divu) := by
  have sc := sc__divu
  refine T.d__divu.ok sc len2 (fun _ _ _ _ _ _ us hl => match us, hl with | [_, _], _ => rfl) (fun f cdv A outer s H vs Q E hr h => ?_)
  obtain ⟨x0, x1, rfl, h⟩ := h
  obtain ⟨a, b, rfl, rfl, ha, hb, h⟩ := h
  refine ⟨_, (pss_one (ps_ret (pe_ifExp (pt_cmpR op_eq (pv 1) pe_int (nomark _)) (pe_gint T.c_GREATEST) (pe_op op_fdivW (pv 0) (pv 1))))), ?_⟩
  have hh : Q (V.int (vDivu a b)) H := h
  refine ⟨_, rfl, rfl, _, rfl, ?_⟩
  refine ite2 (fun c => ?_) (fun c => ?_)
  · have e0 : b = 0 := V.int.inj (of_decide_eq_true c)
    have e : vDivu a b = 4294967295 := if_pos e0
    rw [e] at hh; exact hh
  · have e0 : b ≠ 0 := fun z => c (decide_eq_true (congrArg V.int z))
    have pb : 0 < b := by have := hb.1; omega
    refine ⟨_, rfl, _, rfl, _, _, rfl, rfl, wide_div pb (show b.natAbs < 2 ^ 40 by have := hb.2; omega) (by decide) (by decide), ?_⟩
    have e := pDivu ha hb e0
    rw [← e] at hh; exact hh
theorem sc__remu : FnScope ["a", "b"] ["a", "b"] (defScope s__remu) := ⟨rfl, rfl, rfl, by decide +kernel, rfl, by decide +kernel, by decide +kernel⟩
theorem g__remu (T : Txt K mg w)  : Gd P w K mg base CX0 1 "_remu" ["a", "b"] (sp__remu) := by
  have sc := sc__remu
  refine T.d__remu.ok sc len2 (fun _ _ _ _ _ _ us hl => match us, hl with | [_, _], _ => rfl) (fun f cdv A outer s H vs Q E hr h => ?_)
  obtain ⟨x0, x1, rfl, h⟩ := h
  obtain ⟨a, b, rfl, rfl, ha, hb, h⟩ := h
  refine ⟨_, (pss_one (ps_ret (pe_ifExp (pt_cmpR op_eq (pv 1) pe_int (nomark _)) (pv 0) (pe_op op_mod (pv 0) (pv 1))))), ?_⟩
  have hh : Q (V.int (vRemu a b)) H := h
  refine ⟨_, rfl, rfl, _, rfl, ?_⟩
  refine ite2 (fun c => ?_) (fun c => ?_)
  · have e0 : b = 0 := V.int.inj (of_decide_eq_true c)
    have e : vRemu a b = a := if_pos e0
    rw [e] at hh; exact ⟨_, rfl, hh⟩
  · have e0 : b ≠ 0 := fun z => c (decide_eq_true (congrArg V.int z))
    have pb : 0 < b := by have := hb.1; omega
    refine ⟨_, rfl, _, rfl, _, _, rfl, rfl, pb, ?_⟩
    have e := pRemu ha hb e0
    rw [← e] at hh; exact hh
theorem sc__law_quotient : FnScope ["a", "b", "found", "low", "high"] ["a", "b"] (defScope s__law_quotient) := ⟨rfl, rfl, rfl, by decide +kernel, rfl, by decide +kernel, by decide +kernel⟩
theorem g__law_quotient (T : Txt K mg w)  : Gd P w K mg base CX0 1 "_law_quotient" ["a", "b"] (sp__law_quotient) := by
  have sc := sc__law_quotient
  refine T.d__law_quotient.ok sc len2 (fun _ _ _ _ _ _ us hl => match us, hl with | [_, _], _ => rfl) (fun f cdv A outer s H vs Q E hr h => ?_)
  obtain ⟨x0, x1, rfl, h⟩ := h
  obtain ⟨a, b, rfl, rfl, ha0, ha1, hb0, hb1, hb, h⟩ := h
  refine ⟨_, (pss_cons (ps_set (i := 2) sc.nd rfl (Or.inl rfl) pe_int)
      (pss_cons (ps_par (i := 3) (j := 4) (by rfl) sc.nd rfl rfl (by decide) rfl rfl (pa_cons pe_int (pa_cons (pe_op op_add (pe_callB call_abs (by rfl) T.n_abs (by decide +kernel) (pa_cons (pv 0) pa_nil)) pe_int) pa_nil)) (by rfl))
      (pss_cons (ps_while PassesOwn.never (pt_cmpR op_gt (pe_op op_sub (pv 4) (pv 3)) pe_int (nomark _)) (pss_cons (ps_set (i := 2) sc.nd rfl (Or.inl rfl) (pe_op op_fdiv (pe_op op_add (pv 3) (pv 4)) pe_int))
      (pss_one (ps_asg (pe_ifExp (pt_cmpR op_le (pe_op op_mul (pv 2) (pe_callB call_abs (by rfl) T.n_abs (by decide +kernel) (pa_cons (pv 1) pa_nil))) (pe_callB call_abs (by rfl) T.n_abs (by decide +kernel) (pa_cons (pv 0) pa_nil)) (nomark _)) (pe_tup (pa_cons (pv 2) (pa_cons (pv 4) pa_nil))) (pe_tup (pa_cons (pv 3) (pa_cons (pv 2) pa_nil)))) (pg_tup rfl (pgs_cons (pg_name (i := 3) sc.nd rfl (Or.inl rfl)) (pgs_cons (pg_name (i := 4) sc.nd rfl (Or.inl rfl)) pgs_nil)))))))
      (pss_one (ps_ret (pe_ifExp (pt_cmpR op_eq (pe_cmpR op_lt (pv 0) pe_int (nomark _)) (pe_cmpR op_lt (pv 1) pe_int (nomark _)) (nomark _)) (pv 3) (pe_un un_neg (pv 3)))))))), ?_⟩
  refine ⟨_, rfl, ?_⟩
  refine ⟨_, rfl, _, _, rfl, rfl, _, _, rfl, ?_⟩
  have hab : (if b < 0 then -b else b) = ab b := rfl
  have haa : (if a < 0 then -a else a) = ab a := rfl
  have pb : 0 < ab b := by unfold ab; split <;> omega
  have ub : ab b ≤ 8589934592 := by unfold ab; split <;> omega
  have pa : 0 ≤ ab a := by unfold ab; split <;> omega
  have ua : ab a ≤ 8589934592 := by unfold ab; split <;> omega
  refine ⟨fun m σ H' => Same H H' ∧ ∃ (v : Option V) (lo hi : Int), σ = [some (.int a), some (.int b), v, some (.int lo), some (.int hi)] ∧ 0 ≤ lo ∧ lo < hi ∧ hi ≤ ab a + 1 ∧ lo * ab b ≤ ab a ∧ ab a < hi * ab b ∧ m = (hi - lo).toNat, ?_, ?_⟩
  · refine ⟨_, Same.refl _, _, 0, ab a + 1, rfl, by omega, by omega, by omega, by omega, ?_, rfl⟩
    have := Int.mul_le_mul_of_nonneg_left (show (1 : Int) ≤ ab b by omega) (show 0 ≤ ab a + 1 by omega)
    omega
  · rintro m σ H' ⟨e1, v, lo, hi, rfl, h0, h1, h2, h3, h4, rfl⟩
    refine ⟨_, rfl, _, rfl, _, _, rfl, rfl, _, _, rfl, rfl, _, rfl, ?_⟩
    refine ite2 (fun c => ?_) (fun c => ?_)
    · have c' : 1 < hi - lo := of_decide_eq_true c
      refine ⟨fun σ' H'' => Same H H'' ∧ ∃ (v : Option V) (lo' hi' : Int), σ' = [some (.int a), some (.int b), v, some (.int lo'), some (.int hi')] ∧ 0 ≤ lo' ∧ lo' < hi' ∧ hi' ≤ ab a + 1 ∧ lo' * ab b ≤ ab a ∧ ab a < hi' * ab b ∧ hi' - lo' < hi - lo, ?_, ?_⟩
      · rintro σ' H'' ⟨e, v, lo', hi', rfl, g0, g1, g2, g3, g4, g5⟩
        exact ⟨(hi' - lo').toNat, by omega, e, v, lo', hi', rfl, g0, g1, g2, g3, g4, rfl⟩
      · refine ⟨_, rfl, _, rfl, _, _, rfl, rfl, _, _, rfl, rfl, ⟨by decide, by decide⟩, ?_⟩
        refine ⟨_, rfl, _, rfl, _, rfl, _, _, rfl, rfl, ?_, ?_⟩
        · refine Or.inl ⟨?_, ?_⟩ <;> omega
        refine ⟨_, rfl, _, rfl, _, _, rfl, rfl, _, rfl, ?_⟩
        have hm : (lo + hi) / 2 * (if b < 0 then -b else b) = (lo + hi) / 2 * ab b := rfl
        refine ite2 (fun q => ?_) (fun q => ?_)
        · have q' : (lo + hi) / 2 * ab b ≤ ab a := of_decide_eq_true q
          refine ⟨_, rfl, _, rfl, (by show 2 ≤ sizeLine; decide), fun p hp => ?_⟩
          refine ⟨p, _, rfl, SqT.of upd_same, rfl, _, _, rfl, _, _, rfl, rfl, ?_⟩
          exact ⟨fun x o e => by rw [upd_ne (ne_of_none (e1 _ _ e) hp)]; exact e1 _ _ e, _, _, _, rfl, by omega, by omega, h2, q', h4, by omega⟩
        · have q' : ¬ (lo + hi) / 2 * ab b ≤ ab a := fun z => q (decide_eq_true z)
          refine ⟨_, rfl, _, rfl, (by show 2 ≤ sizeLine; decide), fun p hp => ?_⟩
          refine ⟨p, _, rfl, SqT.of upd_same, rfl, _, _, rfl, _, _, rfl, rfl, ?_⟩
          exact ⟨fun x o e => by rw [upd_ne (ne_of_none (e1 _ _ e) hp)]; exact e1 _ _ e, _, _, _, rfl, h0, by omega, by omega, h3, by omega, by omega⟩
    · have c' : ¬ 1 < hi - lo := fun z => c (decide_eq_true z)
      have eh : hi = lo + 1 := by omega
      subst eh
      have eq : ab a / ab b = lo := by
        rw [Int.add_mul] at h4
        exact Int.le_antisymm (by have := Int.ediv_lt_of_lt_mul pb (show ab a < (lo + 1) * ab b by rw [Int.add_mul]; exact h4); omega) ((Int.le_ediv_iff_mul_le pb).mpr h3)
      refine ⟨_, rfl, _, _, rfl, rfl, _, rfl, _, _, rfl, rfl, rfl, _, rfl, ?_⟩
      have ed : decide (V.bl (decide (a < 0)) = V.bl (decide (b < 0))) = (decide (a < 0) == decide (b < 0)) := dec_bl
      rw [ed]
      refine ite2 (fun q => ?_) (fun q => ?_)
      · refine ⟨_, rfl, ?_⟩
        have e : tq a b = lo := by unfold tq; rw [if_pos q, eq]
        have hh := h _ e1
        rw [e] at hh; exact hh
      · refine ⟨_, rfl, _, rfl, ?_⟩
        have e : tq a b = -lo := by unfold tq; rw [if_neg q, eq]
        have hh := h _ e1
        rw [e] at hh; exact hh
theorem sc__law_bits : FnScope ["kind", "a", "b", "found", "at", "bit", "one", "other"] ["kind", "a", "b"] (defScope s__law_bits) := ⟨rfl, rfl, rfl, by decide +kernel, rfl, by decide +kernel, by decide +kernel⟩
theorem g__law_bits (T : Txt K mg w) (G__law_power : Gd P w K mg base CX0 1 "_law_power" ["many"] (sp__law_power)) : Gd P w K mg base CX0 2 "_law_bits" ["kind", "a", "b"] (sp__law_bits) := by
  have sc := sc__law_bits
  refine T.d__law_bits.ok sc len3 (fun _ _ _ _ _ _ us hl => match us, hl with | [_, _, _], _ => rfl) (fun f cdv A outer s H vs Q E hr h => ?_)
  obtain ⟨x0, x1, x2, rfl, h⟩ := h
  obtain ⟨z, a, b, rfl, rfl, rfl, hz, ha, hb, h⟩ := h
  refine ⟨_, (pss_cons (ps_set (i := 3) sc.nd rfl (Or.inl rfl) pe_int)
      (pss_cons (ps_for PassesOwn.never rfl (pi_range1 rfl T.n_range (pa_cons pe_int pa_nil)) (pg_name (i := 4) sc.nd rfl (Or.inl rfl)) (pss_cons (ps_par (i := 6) (j := 7) (by rfl) sc.nd rfl rfl (by decide) rfl rfl (pa_cons (pe_op op_mod (pe_op op_fdivW (pv 1) (pe_g G__law_power (hr.mono (by decide)) pass0 (pa_cons (pv 4) pa_nil))) pe_int) (pa_cons (pe_op op_mod (pe_op op_fdivW (pv 2) (pe_g G__law_power (hr.mono (by decide)) pass0 (pa_cons (pv 4) pa_nil))) pe_int) pa_nil)) (by rfl))
      (pss_cons (ps_set (i := 5) sc.nd rfl (Or.inl rfl) (pe_dget (hu_of hr) (pe_disp (pps_cons pe_str (pe_op op_mul (pv 6) (pv 7)) (pps_cons pe_str (pe_callB (cr_max rfl) (by rfl) T.n_max (by decide +kernel) (pa_cons (pe_lst (pa_cons (pv 6) (pa_cons (pv 7) pa_nil))) pa_nil)) (pps_cons pe_str (pe_op op_mod (pe_op op_add (pv 6) (pv 7)) pe_int) pps_nil))) rfl rfl (by simp) (by decide)) (pv 0) (fun _ _ => rfl)))
      (pss_one (ps_set (i := 3) sc.nd rfl (Or.inl rfl) (pe_op op_add (pv 3) (pe_op op_mul (pv 5) (pe_g G__law_power (hr.mono (by decide)) pass0 (pa_cons (pv 4) pa_nil)))))))))
      (pss_one (ps_ret (pv 3))))), ?_⟩
  refine ⟨32, rfl, by decide, by decide, ?_⟩
  refine for_range (n := 32) (fun i σ H' => Same H H' ∧ ∃ v1 v2 v3 v4 : Option V, σ = [some (.str z), some (.int a), some (.int b), some (.int (sB z a b i)), v1, v2, v3, v4]) ⟨Same.refl _, _, _, _, _, rfl⟩ ?_ ?_
  · rintro i σ H' hi ⟨e1, v1, v2, v3, v4, rfl⟩
    have ei : (0 + (i : Int)).toNat = i := by omega
    have hp := p2_pos i
    have hq : p2 i < 4294967296 := p2_lt i hi
    have hpb : (p2 i).natAbs < 2 ^ 32 := by omega
    refine ⟨_, rfl, _, rfl, _, rfl, _, rfl, by omega, by omega, ?_⟩
    rw [ei]
    refine ⟨_, _, rfl, rfl, wide_div hp hpb (by decide) (by decide), _, _, rfl, rfl, (by show (0 : Int) < 2; decide), ?_⟩
    refine ⟨_, rfl, _, rfl, _, rfl, _, rfl, by omega, by omega, ?_⟩
    rw [ei]
    refine ⟨_, _, rfl, rfl, wide_div hp hpb (by decide) (by decide), _, _, rfl, rfl, (by show (0 : Int) < 2; decide), ?_⟩
    refine ⟨_, _, rfl, fun p hp' => ?_⟩
    have m1 := mod01 (a / p2 i)
    have m2 := mod01 (b / p2 i)
    refine ⟨_, rfl, _, rfl, _, _, rfl, rfl, Or.inl ⟨by omega, by omega⟩, ?_⟩
    refine ⟨_, rfl, _, rfl, (by show 2 ≤ sizeLine; decide), fun q hq' => ?_⟩
    refine ⟨q, [a / p2 i % 2, b / p2 i % 2], rfl, SqL.of upd_same, (by show 0 < 2; decide), fun m hm hle => ?_⟩
    have em : m = if b / p2 i % 2 > a / p2 i % 2 then b / p2 i % 2 else a / p2 i % 2 := by
      have g1 := hle (a / p2 i % 2) (by simp)
      have g2 := hle (b / p2 i % 2) (by simp)
      have g3 : m = a / p2 i % 2 ∨ m = b / p2 i % 2 := by simpa using hm
      split <;> omega
    refine ⟨_, rfl, _, rfl, _, _, rfl, rfl, _, _, rfl, rfl, (by show (0 : Int) < 2; decide), ?_⟩
    have npq : p ≠ q := ne_of_none upd_same hq'
    refine ⟨by rw [upd_ne npq]; exact upd_same, [(.inr "and", .int (a / p2 i % 2 * (b / p2 i % 2))), (.inr "or", .int m), (.inr "xor", .int ((a / p2 i % 2 + b / p2 i % 2) % 2))], rfl, (by show 3 ≤ 15; decide), ?_⟩
    have hv : valV (mergeK [] [(.inr "and", V.int (a / p2 i % 2 * (b / p2 i % 2))), (.inr "or", .int m), (.inr "xor", .int ((a / p2 i % 2 + b / p2 i % 2) % 2))]) (Sum.inr z) = some (.int (bv z (a / p2 i % 2) (b / p2 i % 2))) := by
      rw [em]
      unfold bv
      rcases hz with rfl | rfl | rfl
      · rw [if_pos rfl]; rfl
      · rw [if_neg nOA, if_pos rfl]; rfl
      · rw [if_neg nXA, if_neg nXO]; rfl
    refine ⟨_, rfl, p, _, rfl, by rw [← hv]; exact DGet.k (k := Sum.inr z) upd_same, ?_⟩
    refine ⟨_, rfl, _, rfl, _, rfl, _, rfl, _, rfl, by omega, by omega, ?_⟩
    rw [ei]
    refine ⟨_, _, rfl, rfl, Or.inr ⟨by omega, by omega⟩, _, _, rfl, rfl, ?_⟩
    refine ⟨fun x o e => ?_, _, _, _, _, rfl⟩
    have e' := e1 _ _ e
    have g1 : x ≠ p := ne_of_none e' hp'
    rw [upd_ne g1]
    have g2 : x ≠ q := fun z => by
      subst z
      rw [upd_ne g1] at hq'
      rw [e'] at hq'
      cases hq'
    rw [upd_ne g2, upd_ne g1]
    exact e'
  · rintro σ H' ⟨e1, v1, v2, v3, v4, rfl⟩
    exact ⟨_, rfl, h _ e1⟩
theorem sc__law_due : FnScope ["kind", "a", "b", "plain", "x", "y", "by", "found", "one", "other"] ["kind", "a", "b"] (defScope s__law_due) := ⟨rfl, rfl, rfl, by decide +kernel, rfl, by decide +kernel, by decide +kernel⟩
theorem g__law_due (T : Txt K mg w) (G__law_signed : Gd P w K mg base CX0 1 "_law_signed" ["word"] (sp__law_signed)) (G__law_power : Gd P w K mg base CX0 1 "_law_power" ["many"] (sp__law_power)) (G__law_bits : Gd P w K mg base CX0 2 "_law_bits" ["kind", "a", "b"] (sp__law_bits)) (G__law_quotient : Gd P w K mg base CX0 1 "_law_quotient" ["a", "b"] (sp__law_quotient)) : Gd P w K mg base CX0 3 "_law_due" ["kind", "a", "b"] (sp__law_due) := by
  have sc := sc__law_due
  refine T.d__law_due.ok sc len3 (fun _ _ _ _ _ _ us hl => match us, hl with | [_, _, _], _ => rfl) (fun f cdv A outer s H vs Q E hr h => ?_)
  obtain ⟨x0, x1, x2, rfl, h⟩ := h
  obtain ⟨z, a, b, rfl, rfl, rfl, hz, ha, hb, h⟩ := h
  refine ⟨_, (pss_cons (ps_par3 (i := 4) (j := 5) (l := 6) (by rfl) sc.nd rfl rfl rfl (by decide) (by decide) (by decide) rfl rfl rfl (pa_cons (pe_g G__law_signed (hr.mono (by decide)) pass0 (pa_cons (pv 1) pa_nil)) (pa_cons (pe_g G__law_signed (hr.mono (by decide)) pass0 (pa_cons (pv 2) pa_nil)) (pa_cons (pe_g G__law_power (hr.mono (by decide)) pass0 (pa_cons (pe_op op_mod (pv 2) pe_int) pa_nil)) pa_nil))) (by rfl))
      (pss_cons (ps_if (pt_cmpR op_in_seq (pv 0) (pe_tup (pa_cons pe_str (pa_cons pe_str (pa_cons pe_str pa_nil)))) rfl) (pss_one (ps_ret (pe_g G__law_bits (hr.mono (by decide)) pass0 (pa_cons (pv 0) (pa_cons (pv 1) (pa_cons (pv 2) pa_nil)))))) pss_nil)
      (pss_cons (ps_if (pt_cmpR op_in_seq (pv 0) (pe_tup (pa_cons pe_str (pa_cons pe_str (pa_cons pe_str (pa_cons pe_str pa_nil))))) rfl) (pss_cons (ps_asg (pe_ifExp (pt_cmpR op_eq (pe_ix ix_str (pv 0) pe_int (fun _ _ => rfl)) pe_str (nomark _)) (pe_tup (pa_cons (pv 4) (pa_cons (pv 5) pa_nil))) (pe_tup (pa_cons (pv 1) (pa_cons (pv 2) pa_nil)))) (pg_tup rfl (pgs_cons (pg_name (i := 8) sc.nd rfl (Or.inl rfl)) (pgs_cons (pg_name (i := 9) sc.nd rfl (Or.inl rfl)) pgs_nil))))
      (pss_cons (ps_if (pt_cmpR op_eq (pv 2) pe_int (nomark _)) (pss_one (ps_ret (pe_ifExp (pt_cmpR op_eq (pe_slice sl_str (pv 0) po_none (po_some pe_int)) pe_str (nomark _)) (pe_op op_sub (pe_op op_pow pe_int pe_int) pe_int) (pv 1)))) pss_nil)
      (pss_cons (ps_set (i := 7) sc.nd rfl (Or.inl rfl) (pe_g G__law_quotient (hr.mono (by decide)) pass0 (pa_cons (pv 8) (pa_cons (pv 9) pa_nil))))
      (pss_one (ps_ret (pe_op op_mod (pe_ifExp (pt_cmpR op_eq (pe_slice sl_str (pv 0) po_none (po_some pe_int)) pe_str (nomark _)) (pv 7) (pe_op op_sub (pv 8) (pe_op op_mul (pv 7) (pv 9)))) (pe_op op_pow pe_int pe_int))))))) pss_nil)
      (pss_cons (ps_set (i := 3) sc.nd rfl (Or.inl rfl) (pe_disp (pps_cons pe_str (pe_op op_add (pv 4) (pv 5)) (pps_cons pe_str (pe_op op_sub (pv 4) (pv 5)) (pps_cons pe_str (pe_op op_mul (pv 4) (pv 5)) (pps_cons pe_str (pe_op op_mul (pv 1) (pv 6)) (pps_cons pe_str (pe_op op_fdivW (pv 1) (pv 6)) (pps_cons pe_str (pe_op op_fdivW (pv 4) (pv 6)) (pps_cons pe_str (pe_ifExp (pt_cmpR op_lt (pv 4) (pv 5) (nomark _)) pe_int pe_int) (pps_cons pe_str (pe_ifExp (pt_cmpR op_lt (pv 1) (pv 2) (nomark _)) pe_int pe_int) (pps_cons pe_str (pe_ifExp (pt_cmpR op_eq (pv 1) (pv 2) (nomark _)) pe_int pe_int) pps_nil))))))))) rfl rfl (by simp) (by decide)))
      (pss_one (ps_ret (pe_op op_mod (pe_dget (hu_of hr) (pv 3) (pv 0) (fun _ _ => rfl)) (pe_op op_pow pe_int pe_int)))))))), ?_⟩
  have a1 := ha.1
  have a2 := ha.2
  have b1 := hb.1
  have b2 := hb.2
  have sa1 : -2147483648 ≤ sg a := by unfold sg; split <;> omega
  have sa2 : sg a < 2147483648 := by unfold sg; split <;> omega
  have sb1 : -2147483648 ≤ sg b := by unfold sg; split <;> omega
  have sb2 : sg b < 2147483648 := by unfold sg; split <;> omega
  refine ⟨_, rfl, _, rfl, _, rfl, _, rfl, _, rfl, _, rfl, _, rfl, _, _, rfl, rfl, (by show (0 : Int) < 32; decide), _, rfl, _, rfl, by omega, by omega, _, _, _, rfl, ?_⟩
  refine ⟨_, rfl, (by show 3 ≤ sizeLine; decide), fun p hp => ?_⟩
  have e1 : Same H (upd H p (.tup [.str "and", .str "or", .str "xor"])) := fun x o e => by rw [upd_ne (ne_of_none e hp)]; exact e
  refine ⟨p, _, rfl, Or.inr (SqT.of upd_same), rfl, rfl, _, rfl, ?_⟩
  rcases kl_class hz with hz | hz | hz
  · refine if_true_of (by rcases hz with rfl | rfl | rfl <;> rfl) ?_
    refine ⟨_, rfl, _, rfl, _, rfl, _, _, _, rfl, z, a, b, rfl, rfl, rfl, hz, ha, hb, fun H' e => ?_⟩
    have hh := h H' (e1.trans e)
    have ev : val z a b = sB z a b 32 := by
      rcases hz with rfl | rfl | rfl
      · rw [v_and]; rfl
      · rw [v_or]; rfl
      · rw [v_xor]; rfl
    rw [ev] at hh; exact hh
  · refine if_false_of (by rcases hz with rfl | rfl | rfl | rfl <;> rfl) ?_
    refine ⟨_, rfl, (by show 4 ≤ sizeLine; decide), fun q hq => ?_⟩
    have e2 := e1.trans (show Same (upd H p (.tup [.str "and", .str "or", .str "xor"])) (upd (upd H p (.tup [.str "and", .str "or", .str "xor"])) q (.tup [.str "divs", .str "divu", .str "rems", .str "remu"])) from fun x o e => by rw [upd_ne (ne_of_none e hq)]; exact e)
    refine ⟨q, _, rfl, Or.inr (SqT.of upd_same), rfl, rfl, _, rfl, ?_⟩
    refine if_true_of (by rcases hz with rfl | rfl | rfl | rfl <;> rfl) ?_
    have hzl : z.length ≤ sizeLine := by rcases hz with rfl | rfl | rfl | rfl <;> decide
    have hcut : decide (V.str (cutS z none (some 3)) = V.str "div") = decide (z = "divs" ∨ z = "divu") := by rcases hz with rfl | rfl | rfl | rfl <;> decide +kernel
    have pairs : ∀ (N : L2.St → Hp → Prop) (u v : Int) (H1 : Hp), Same H H1 → (b ≠ 0 → v ≠ 0) → -2147483648 ≤ u → u ≤ 4294967296 → -2147483648 ≤ v → v ≤ 4294967296 → val z a b = (if b = 0 then (if z = "divs" ∨ z = "divu" then 4294967295 else a) else (if z = "divs" ∨ z = "divu" then tq u v % 4294967296 else (u - tq u v * v) % 4294967296)) →
        (tSeq (tIfS (tTest (tOp rEq (tVar 2) (tC (.int 0)))) (tRet (tIf (tTest (tOp rEq (tSl rSlS (tVar 0) tNoPart (tPart (tC (.int 3)))) (tC (.str "div")))) (tOp (rI0 fun i j => .int (i - j)) (tOp (rI CPow fun i j => .int (i ^ j.toNat)) (tC (.int 2)) (tC (.int 32))) (tC (.int 1))) (tVar 1))) tNext)
          (tSeq (tAsg (tCallG sp__law_quotient E0 (tCons (tVar 8) (tCons (tVar 9) tNil))) (gName 7))
            (tRet (tOp (rI (fun _ j => 0 < j) fun i j => .int (i % j)) (tIf (tTest (tOp rEq (tSl rSlS (tVar 0) tNoPart (tPart (tC (.int 3)))) (tC (.str "div")))) (tVar 7) (tOp (rI0 fun i j => .int (i - j)) (tVar 8) (tOp (rI CMul fun i j => .int (i * j)) (tVar 7) (tVar 9)))) (tOp (rI CPow fun i j => .int (i ^ j.toNat)) (tC (.int 2)) (tC (.int 32)))))))
          { nx := N, rt := Q } [some (.str z), some (.int a), some (.int b), none, some (.int (sg a)), some (.int (sg b)), some (.int (p2 (b % 32).toNat)), none, some (.int u), some (.int v)] H1 := by
      intro N u v H1 e hv u1 u2 v1 v2 ev
      have hh := h
      rw [ev] at hh
      refine ⟨_, rfl, rfl, _, rfl, ?_⟩
      refine ite2 (fun c => ?_) (fun c => ?_)
      · have e0 : b = 0 := V.int.inj (of_decide_eq_true c)
        rw [if_pos e0] at hh
        refine ⟨_, rfl, _, rfl, _, rfl, hzl, rfl, _, rfl, ?_⟩
        rw [hcut]
        refine ite2 (fun q => ?_) (fun q => ?_)
        · rw [if_pos (of_decide_eq_true q)] at hh
          exact ⟨_, _, rfl, rfl, ⟨by decide, by decide, by decide⟩, _, _, rfl, rfl, hh _ e⟩
        · rw [if_neg (fun z => q (decide_eq_true z))] at hh
          exact ⟨_, rfl, hh _ e⟩
      · have e0 : b ≠ 0 := fun z => c (decide_eq_true (congrArg V.int z))
        rw [if_neg e0] at hh
        refine ⟨_, rfl, _, rfl, _, _, rfl, u, v, rfl, rfl, by omega, by omega, by omega, by omega, hv e0, fun H2 e3 => ?_⟩
        refine ⟨_, rfl, _, rfl, _, rfl, hzl, rfl, _, rfl, ?_⟩
        rw [hcut]
        refine ite2 (fun q => ?_) (fun q => ?_)
        · rw [if_pos (of_decide_eq_true q)] at hh
          exact ⟨_, rfl, _, _, rfl, rfl, ⟨by decide, by decide, by decide⟩, _, _, rfl, rfl, (by show (0 : Int) < 4294967296; decide), hh _ (e.trans e3)⟩
        · rw [if_neg (fun z => q (decide_eq_true z))] at hh
          exact ⟨_, rfl, _, rfl, _, rfl, _, _, rfl, rfl, Or.inr ⟨by omega, by omega⟩, _, _, rfl, rfl, _, _, rfl, rfl, ⟨by decide, by decide, by decide⟩, _, _, rfl, rfl, (by show (0 : Int) < 4294967296; decide), hh _ (e.trans e3)⟩
    have hsb : b ≠ 0 → sg b ≠ 0 := fun g => by unfold sg; split <;> omega
    have e4 : ∀ (xs : List V) (t : Addr), (upd (upd H p (.tup [.str "and", .str "or", .str "xor"])) q (.tup [.str "divs", .str "divu", .str "rems", .str "remu"])) t = none → Same H (upd (upd (upd H p (.tup [.str "and", .str "or", .str "xor"])) q (.tup [.str "divs", .str "divu", .str "rems", .str "remu"])) t (.tup xs)) := fun xs t ht x o e => by
      have g := e2 x o e
      rw [upd_ne (ne_of_none g ht)]; exact g
    rcases hz with rfl | rfl | rfl | rfl
    · refine ⟨_, rfl, _, _, _, rfl, rfl, hzl, rfl, rfl, _, rfl, ?_⟩
      refine if_true_of (by decide +kernel) ?_
      refine ⟨_, rfl, _, rfl, (by show 2 ≤ sizeLine; decide), fun t ht => ?_⟩
      refine ⟨t, _, rfl, SqT.of upd_same, rfl, _, _, rfl, _, _, rfl, rfl, ?_⟩
      refine pairs _ (sg a) (sg b) _ (e4 _ _ ht) hsb (by omega) (by omega) (by omega) (by omega) ?_
      rw [v_divs]
      unfold vDivs
      rw [if_pos (Or.inl rfl), if_pos (Or.inl rfl)]
    · refine ⟨_, rfl, _, _, _, rfl, rfl, hzl, rfl, rfl, _, rfl, ?_⟩
      refine if_false_of (by decide +kernel) ?_
      refine ⟨_, rfl, _, rfl, (by show 2 ≤ sizeLine; decide), fun t ht => ?_⟩
      refine ⟨t, _, rfl, SqT.of upd_same, rfl, _, _, rfl, _, _, rfl, rfl, ?_⟩
      refine pairs _ a b _ (e4 _ _ ht) id (by omega) (by omega) (by omega) (by omega) ?_
      rw [v_divu]
      unfold vDivu
      rw [if_pos (Or.inr rfl), if_pos (Or.inr rfl)]
    · refine ⟨_, rfl, _, _, _, rfl, rfl, hzl, rfl, rfl, _, rfl, ?_⟩
      refine if_true_of (by decide +kernel) ?_
      refine ⟨_, rfl, _, rfl, (by show 2 ≤ sizeLine; decide), fun t ht => ?_⟩
      refine ⟨t, _, rfl, SqT.of upd_same, rfl, _, _, rfl, _, _, rfl, rfl, ?_⟩
      refine pairs _ (sg a) (sg b) _ (e4 _ _ ht) hsb (by omega) (by omega) (by omega) (by omega) ?_
      rw [v_rems]
      unfold vRems
      rw [if_neg (by decide +kernel : ¬ (("rems" : Str) = "divs" ∨ ("rems" : Str) = "divu")), if_neg (by decide +kernel : ¬ (("rems" : Str) = "divs" ∨ ("rems" : Str) = "divu"))]
    · refine ⟨_, rfl, _, _, _, rfl, rfl, hzl, rfl, rfl, _, rfl, ?_⟩
      refine if_false_of (by decide +kernel) ?_
      refine ⟨_, rfl, _, rfl, (by show 2 ≤ sizeLine; decide), fun t ht => ?_⟩
      refine ⟨t, _, rfl, SqT.of upd_same, rfl, _, _, rfl, _, _, rfl, rfl, ?_⟩
      refine pairs _ a b _ (e4 _ _ ht) id (by omega) (by omega) (by omega) (by omega) ?_
      rw [v_remu]
      unfold vRemu
      rw [if_neg (by decide +kernel : ¬ (("remu" : Str) = "divs" ∨ ("remu" : Str) = "divu")), if_neg (by decide +kernel : ¬ (("remu" : Str) = "divs" ∨ ("remu" : Str) = "divu"))]
  · refine if_false_of (by rcases hz with rfl | rfl | rfl | rfl | rfl | rfl | rfl | rfl | rfl <;> rfl) ?_
    refine ⟨_, rfl, (by show 4 ≤ sizeLine; decide), fun q hq => ?_⟩
    have e2 := e1.trans (show Same (upd H p (.tup [.str "and", .str "or", .str "xor"])) (upd (upd H p (.tup [.str "and", .str "or", .str "xor"])) q (.tup [.str "divs", .str "divu", .str "rems", .str "remu"])) from fun x o e => by rw [upd_ne (ne_of_none e hq)]; exact e)
    refine ⟨q, _, rfl, Or.inr (SqT.of upd_same), rfl, rfl, _, rfl, ?_⟩
    refine if_false_of (by rcases hz with rfl | rfl | rfl | rfl | rfl | rfl | rfl | rfl | rfl <;> rfl) ?_
    intro d hd
    have hp2 := p2_pos (b % 32).toNat
    have hp3 : p2 (b % 32).toNat < 4294967296 := p2_lt _ (by omega)
    refine ⟨_, rfl, _, rfl, _, _, rfl, rfl, _, rfl, _, rfl, _, _, rfl, rfl, _, rfl, _, rfl, _, _, rfl, rfl, Or.inl ⟨by omega, by omega⟩, _, rfl, _, rfl, _, _, rfl, rfl, Or.inl ⟨by omega, by omega⟩, ?_⟩
    refine ⟨_, rfl, _, rfl, _, _, rfl, rfl, wide_div hp2 (show (p2 (b % 32).toNat).natAbs < 2 ^ 40 by omega) (by decide) (by decide), _, rfl, _, rfl, _, _, rfl, rfl, wide_div hp2 (show (p2 (b % 32).toNat).natAbs < 2 ^ 40 by omega) (by decide) (by decide), ?_⟩
    refine ⟨_, rfl, _, rfl, _, _, rfl, rfl, _, rfl, ?_⟩
    refine if_tc ?_
    refine ⟨_, rfl, _, rfl, _, _, rfl, rfl, _, rfl, ?_⟩
    refine if_tc ?_
    refine ⟨_, rfl, _, rfl, rfl, _, rfl, ?_⟩
    refine if_tc ?_
    refine ⟨upd_same, kvsP a b, rfl, (by show 9 ≤ 15; decide), ?_⟩
    obtain ⟨v, hv1, hv2⟩ := kvsP_val (a := a) (b := b) hz
    refine ⟨_, rfl, _, rfl, d, _, rfl, by rw [← hv1]; exact DGet.k (k := Sum.inr z) upd_same, _, _, rfl, rfl, ⟨by decide, by decide, by decide⟩, _, _, rfl, rfl, (by show (0 : Int) < 4294967296; decide), ?_⟩
    have hh := h (upd (upd (upd (upd H p (.tup [.str "and", .str "or", .str "xor"])) q (.tup [.str "divs", .str "divu", .str "rems", .str "remu"])) d (.dK [])) d (.dK (mergeK [] (kvsP a b)))) (fun x o e => by
      have g := e2 x o e
      rw [upd_ne (ne_of_none g hd), upd_ne (ne_of_none g hd)]; exact g)
    rw [← hv2] at hh; exact hh
theorem sc_apply : FnScope ["kind", "a", "b", "work"] ["kind", "a", "b"] (defScope s_apply) := ⟨rfl, rfl, rfl, by decide +kernel, rfl, by decide +kernel, by decide +kernel⟩
theorem g_apply (T : Txt K mg w) (G__add : Gd P w K mg base CX0 2 "_add" ["a", "b"] sp__add) (G__sub : Gd P w K mg base CX0 2 "_sub" ["a", "b"] sp__sub) (G__mul : Gd P w K mg base CX0 2 "_mul" ["a", "b"] sp__mul) (G__and : Gd P w K mg base CX0 1 "_and" ["a", "b"] sp__and) (G__or : Gd P w K mg base CX0 1 "_or" ["a", "b"] sp__or) (G__xor : Gd P w K mg base CX0 1 "_xor" ["a", "b"] sp__xor) (G__shl : Gd P w K mg base CX0 2 "_shl" ["a", "b"] sp__shl) (G__shr : Gd P w K mg base CX0 1 "_shr" ["a", "b"] sp__shr) (G__sar : Gd P w K mg base CX0 2 "_sar" ["a", "b"] sp__sar) (G__lts : Gd P w K mg base CX0 2 "_lts" ["a", "b"] sp__lts) (G__ltu : Gd P w K mg base CX0 1 "_ltu" ["a", "b"] sp__ltu) (G__eq : Gd P w K mg base CX0 1 "_eq" ["a", "b"] sp__eq) (G__divs : Gd P w K mg base CX0 2 "_divs" ["a", "b"] sp__divs) (G__rems : Gd P w K mg base CX0 2 "_rems" ["a", "b"] sp__rems) (G__divu : Gd P w K mg base CX0 1 "_divu" ["a", "b"] sp__divu) (G__remu : Gd P w K mg base CX0 1 "_remu" ["a", "b"] sp__remu) : Gd P w K mg base CX0 3 "apply" ["kind", "a", "b"] sp_apply := by
  have sc := sc_apply
  obtain ⟨p, hp, kk⟩ := T.k_KINDS
  refine T.d_apply.ok sc len3 (fun _ _ _ _ _ _ us hl => match us, hl with | [_, _, _], _ => rfl) (fun f cdv A outer s H vs Q E hr h => ?_)
  obtain ⟨x0, x1, x2, rfl, h⟩ := h
  obtain ⟨z, a, b, rfl, rfl, rfl, hz, ha, hb, h⟩ := h
  have go : ∀ (x : Str) (v : Int → Int → Int), Gd P w K mg base CX0 2 x ["a", "b"] (spK v) → (∀ g, mg x = some (.ref g) → KDct K w p z (.ref g)) → val z a b = v a b →
      ∃ t, PSs (cxOf CX0 P w K mg base ["kind", "a", "b", "work"] "apply" (defScope s_apply) f cdv A outer s H E).nox (defBody s_apply) t ∧ t { nx := fun _ H' => Q .non H', rt := Q } (start ["kind", "a", "b", "work"] [.str z, .int a, .int b]) H := by
    intro x v G hk ev
    obtain ⟨g, fd, hm, F, hb', hkp, _⟩ := G.ex
    rw [ev] at h
    refine ⟨_, pss_cons (ps_set (i := 3) sc.nd rfl (Or.inl rfl) (pe_ix ix_kdict (pe_gref hp) (pv 0) (fun _ _ => rfl))) (pss_one (ps_ret (pe_callL (i := 3) (f := g) F hr rfl (Or.inl rfl) hkp hb' .nil pass0 (pa_cons (pv 1) (pa_cons (pv 2) pa_nil))))), ?_⟩
    exact ⟨_, rfl, p, z, _, rfl, rfl, hk g hm, rfl, _, rfl, _, rfl, _, _, rfl, a, b, rfl, rfl, ha, hb, h⟩
  unfold KL at hz
  simp only [List.mem_cons, List.mem_nil_iff, or_false] at hz
  rcases hz with rfl | rfl | rfl | rfl | rfl | rfl | rfl | rfl | rfl | rfl | rfl | rfl | rfl | rfl | rfl | rfl
  · exact go _ _ G__add kk.k_add (v_add a b)
  · exact go _ _ G__sub kk.k_sub (v_sub a b)
  · exact go _ _ G__mul kk.k_mul (v_mul a b)
  · exact go _ _ (G__and.mono (by decide)) kk.k_and (v_and a b)
  · exact go _ _ (G__or.mono (by decide)) kk.k_or (v_or a b)
  · exact go _ _ (G__xor.mono (by decide)) kk.k_xor (v_xor a b)
  · exact go _ _ G__shl kk.k_shl (v_shl a b)
  · exact go _ _ (G__shr.mono (by decide)) kk.k_shr (v_shr a b)
  · exact go _ _ G__sar kk.k_sar (v_sar a b)
  · exact go _ _ G__lts kk.k_lts (v_lts a b)
  · exact go _ _ (G__ltu.mono (by decide)) kk.k_ltu (v_ltu a b)
  · exact go _ _ (G__eq.mono (by decide)) kk.k_eq (v_eq a b)
  · exact go _ _ G__divs kk.k_divs (v_divs a b)
  · exact go _ _ G__rems kk.k_rems (v_rems a b)
  · exact go _ _ (G__divu.mono (by decide)) kk.k_divu (v_divu a b)
  · exact go _ _ (G__remu.mono (by decide)) kk.k_remu (v_remu a b)
theorem sc_law : FnScope ["script", "draw", "kinds", "turn", "kind", "a", "b"] ["script"] (defScope s_law) := ⟨rfl, rfl, rfl, by decide +kernel, rfl, by decide +kernel, by decide +kernel⟩
theorem g_law (T : Txt K mg w) (G__law_word : Gd P w K mg base CX0 5 "_law_word" ["draw"] (sp__law_word K)) (G_apply : Gd P w K mg base CX0 3 "apply" ["kind", "a", "b"] (sp_apply)) (G__law_due : Gd P w K mg base CX0 3 "_law_due" ["kind", "a", "b"] (sp__law_due)) (G_signed : Gd P w K mg base CX0 1 "signed" ["word"] (sp_signed)) (G__law_signed : Gd P w K mg base CX0 1 "_law_signed" ["word"] (sp__law_signed)) (G_word_of : Gd P w K mg base CX0 1 "word_of" ["number"] (sp_word_of)) : Gd P w K mg base CX0 6 "law" ["script"] (sp_law K) := by
  have sc := sc_law
  refine T.d_law.ok sc len1 (fun _ _ _ _ _ _ us hl => match us, hl with | [_], _ => rfl) (fun f cdv A outer s H vs Q E hr h => ?_)
  obtain ⟨x0, rfl, h⟩ := h
  obtain ⟨l, ns, rfl, hS, h⟩ := h
  refine ⟨_, (pss_cons (ps_set (i := 1) sc.nd rfl (Or.inl rfl) (pe_lst (pa_cons (pe_slice sl_list (pv 0) po_none (po_some pe_int)) (pa_cons pe_int (pa_cons pe_int pa_nil)))))
      (pss_cons (ps_set (i := 2) sc.nd rfl (Or.inl rfl) (pe_tup (pa_cons pe_str (pa_cons pe_str (pa_cons pe_str (pa_cons pe_str (pa_cons pe_str (pa_cons pe_str (pa_cons pe_str (pa_cons pe_str (pa_cons pe_str (pa_cons pe_str (pa_cons pe_str (pa_cons pe_str (pa_cons pe_str (pa_cons pe_str (pa_cons pe_str (pa_cons pe_str pa_nil))))))))))))))))))
      (pss_cons (ps_for PassesOwn.never rfl (pi_range1 rfl T.n_range (pa_cons pe_int pa_nil)) (pg_name (i := 3) sc.nd rfl (Or.inl rfl)) (pss_cons (ps_par (i := 5) (j := 6) (by rfl) sc.nd rfl rfl (by decide) rfl rfl (pa_cons (pe_g G__law_word (hr.mono (by decide)) pass0 (pa_cons (pv 1) pa_nil)) (pa_cons (pe_g G__law_word (hr.mono (by decide)) pass0 (pa_cons (pv 1) pa_nil)) pa_nil)) (by rfl))
      (pss_cons (ps_for PassesOwn.never rfl (pi_tup (pv 2)) (pg_name (i := 4) sc.nd rfl (Or.inl rfl)) (pss_one (ps_if (pt_cmpR op_ne (pe_g G_apply (hr.mono (by decide)) pass0 (pa_cons (pv 4) (pa_cons (pv 5) (pa_cons (pv 6) pa_nil)))) (pe_g G__law_due (hr.mono (by decide)) pass0 (pa_cons (pv 4) (pa_cons (pv 5) (pa_cons (pv 6) pa_nil)))) (nomark _)) (pss_one (ps_ret pe_bl)) pss_nil)))
      (pss_one (ps_if (PW.pt (pw_or (pt_cmpR op_ne (pe_g G_signed (hr.mono (by decide)) pass0 (pa_cons (pv 5) pa_nil)) (pe_g G__law_signed (hr.mono (by decide)) pass0 (pa_cons (pv 5) pa_nil)) (nomark _)) (pw_or (pt_cmpR op_ne (pe_g G_word_of (hr.mono (by decide)) pass0 (pa_cons (pe_g G_signed (hr.mono (by decide)) pass0 (pa_cons (pv 5) pa_nil)) pa_nil)) (pv 5) (nomark _)) (pw_or1 (pt_cmpR op_ne (pe_g G_word_of (hr.mono (by decide)) pass0 (pa_cons (pe_op op_sub (pv 5) (pe_op op_mul pe_int (pe_op op_pow pe_int pe_int))) pa_nil)) (pv 5) (nomark _)))))) (pss_one (ps_ret pe_bl)) pss_nil)))))
      (pss_one (ps_ret pe_bl))))), ?_⟩
  obtain ⟨ns', en⟩ := cut_ints ns none (some 63)
  refine ⟨_, rfl, _, rfl, l, _, rfl, hS, fun s hs => ?_⟩
  rw [en]
  refine ⟨(by show 3 ≤ sizeLine; decide), fun d hd => ?_⟩
  refine ⟨(by show 16 ≤ sizeLine; decide), fun t ht => ?_⟩
  have hsd : s ≠ d := ne_of_none upd_same hd
  have hst : s ≠ t := ne_of_none (show (upd (upd H s (.lst (ns'.map V.int))) d (.lst [.ref s, .int 0, .int 0])) s = some _ by rw [upd_ne hsd]; exact upd_same) ht
  have hdt : d ≠ t := ne_of_none upd_same ht
  refine ⟨8, rfl, by decide, by decide, ?_⟩
  refine for_range (n := 8) (fun i σ H' => ∃ (m : Int) (v1 v2 v3 v4 : Option V), H' s = some (.lst (ns'.map V.int)) ∧ H' d = some (.lst [.ref s, .int 0, .int m]) ∧ H' t = some (.tup (KL2.map V.str)) ∧ 0 ≤ m ∧ m ≤ 8 * i ∧ σ = [some (.ref l), some (.ref d), some (.ref t), v1, v2, v3, v4]) ?_ ?_ ?_
  · exact ⟨0, _, _, _, _, by rw [upd_ne hst, upd_ne hsd]; exact upd_same, by rw [upd_ne hdt]; exact upd_same, upd_same, by omega, by omega, rfl⟩
  · rintro i σ H' hi ⟨m, v1, v2, v3, v4, hs', hd', ht', hm0, hm1, rfl⟩
    have ntd : t ≠ d := hdt.symm
    refine ⟨_, rfl, _, rfl, d, s, ns', m, rfl, hd', hs', hm0, by omega, fun a m2 H2 wa g1 g2 b2 d2 => ?_⟩
    have hs2 := b2 _ _ hs' hsd
    have ht2 := b2 _ _ ht' ntd
    refine ⟨_, rfl, _, rfl, d, s, ns', m2, rfl, d2, hs2, by omega, by omega, fun b m3 H3 wb g3 g4 b3 d3 => ?_⟩
    have hs3 := b3 _ _ hs2 hsd
    have ht3 := b3 _ _ ht2 ntd
    refine ⟨_, _, rfl, ?_⟩
    refine ⟨_, rfl, t, rfl, ⟨_, SqT.of ht3⟩, ?_⟩
    refine for_tup (K := K) (a := t) (xs := KL2.map V.str) (fun j σ H' => ∃ v : Option V, Same H3 H' ∧ σ = [some (.ref l), some (.ref d), some (.ref t), some (.int (0 + (i : Int))), v, some (.int a), some (.int b)]) ⟨_, Same.refl _, rfl⟩ (fun j σ H' _ ⟨v, e, _⟩ => SqT.of (e _ _ ht3)) ?_ ?_
    · rintro j y σ H4 hj ⟨v, e4, rfl⟩
      obtain ⟨z, hz, rfl⟩ : ∃ z, z ∈ KL2 ∧ y = V.str z := by
        obtain ⟨z, hz, e⟩ := List.mem_map.mp (List.mem_of_getElem? hj)
        exact ⟨z, hz, e.symm⟩
      have hzK : z ∈ KL := kl2 z hz
      refine ⟨_, rfl, _, rfl, _, rfl, _, _, _, rfl, z, a, b, rfl, rfl, rfl, hzK, wa, wb, ?_⟩
      refine ⟨_, rfl, _, rfl, _, rfl, _, _, _, rfl, z, a, b, rfl, rfl, rfl, hzK, wa, wb, fun H5 e5 => ?_⟩
      refine ⟨rfl, _, rfl, ?_⟩
      refine if_false_of (by simp) ?_
      exact ⟨_, e4.trans e5, rfl⟩
    · rintro σ H4 ⟨v, e4, rfl⟩
      have em : sg a % 4294967296 = a := by rw [sg_mod]; exact Int.emod_eq_of_lt wa.1 wa.2
      have em2 : (a - 3 * 4294967296) % 4294967296 = a := by have := wa.1; have := wa.2; omega
      refine ⟨_, rfl, _, rfl, _, rfl, _, rfl, _, rfl, _, rfl, rfl, _, rfl, ?_⟩
      refine if_false_of (by simp) ?_
      refine ⟨_, rfl, _, rfl, _, rfl, _, rfl, _, rfl, _, rfl, rfl, _, rfl, ?_⟩
      refine if_false_of (by simp [em]) ?_
      refine ⟨_, rfl, _, _, rfl, rfl, ⟨by decide, by decide, by decide⟩, _, _, rfl, rfl, Or.inl ⟨by decide, by decide⟩, _, _, rfl, rfl, _, rfl, _, rfl, _, rfl, rfl, _, rfl, ?_⟩
      refine if_false_of (show (!decide (V.int ((a - 3 * 4294967296) % 4294967296) = V.int a)) = false by rw [em2]; simp) ?_
      exact ⟨m3, _, _, _, _, e4 _ _ hs3, e4 _ _ d3, e4 _ _ ht3, by omega, by omega, rfl⟩
  · rintro σ H' ⟨m, v1, v2, v3, v4, hs', hd', ht', hm0, hm1, rfl⟩
    exact h _

end
end K01
namespace K01
open PySem PySem.Spec PyProof.Rows L2 My
def dd_word_of : He.DefD := ⟨("word_of", none), "word_of", "word_of", defArgs s_word_of, defBody s_word_of, defScope s_word_of, [], []⟩
def dd_signed : He.DefD := ⟨("signed", none), "signed", "signed", defArgs s_signed, defBody s_signed, defScope s_signed, [], []⟩
def dd__add : He.DefD := ⟨("_add", none), "_add", "_add", defArgs s__add, defBody s__add, defScope s__add, [], []⟩
def dd__sub : He.DefD := ⟨("_sub", none), "_sub", "_sub", defArgs s__sub, defBody s__sub, defScope s__sub, [], []⟩
def dd__mul : He.DefD := ⟨("_mul", none), "_mul", "_mul", defArgs s__mul, defBody s__mul, defScope s__mul, [], []⟩
def dd__and : He.DefD := ⟨("_and", none), "_and", "_and", defArgs s__and, defBody s__and, defScope s__and, [], []⟩
def dd__or : He.DefD := ⟨("_or", none), "_or", "_or", defArgs s__or, defBody s__or, defScope s__or, [], []⟩
def dd__xor : He.DefD := ⟨("_xor", none), "_xor", "_xor", defArgs s__xor, defBody s__xor, defScope s__xor, [], []⟩
def dd__shl : He.DefD := ⟨("_shl", none), "_shl", "_shl", defArgs s__shl, defBody s__shl, defScope s__shl, [], []⟩
def dd__shr : He.DefD := ⟨("_shr", none), "_shr", "_shr", defArgs s__shr, defBody s__shr, defScope s__shr, [], []⟩
def dd__sar : He.DefD := ⟨("_sar", none), "_sar", "_sar", defArgs s__sar, defBody s__sar, defScope s__sar, [], []⟩
def dd__lts : He.DefD := ⟨("_lts", none), "_lts", "_lts", defArgs s__lts, defBody s__lts, defScope s__lts, [], []⟩
def dd__ltu : He.DefD := ⟨("_ltu", none), "_ltu", "_ltu", defArgs s__ltu, defBody s__ltu, defScope s__ltu, [], []⟩
def dd__eq : He.DefD := ⟨("_eq", none), "_eq", "_eq", defArgs s__eq, defBody s__eq, defScope s__eq, [], []⟩
def dd__divs : He.DefD := ⟨("_divs", none), "_divs", "_divs", defArgs s__divs, defBody s__divs, defScope s__divs, [], []⟩
def dd__rems : He.DefD := ⟨("_rems", none), "_rems", "_rems", defArgs s__rems, defBody s__rems, defScope s__rems, [], []⟩
def dd__divu : He.DefD := ⟨("_divu", none), "_divu", "_divu", defArgs s__divu, defBody s__divu, defScope s__divu, [], []⟩
def dd__remu : He.DefD := ⟨("_remu", none), "_remu", "_remu", defArgs s__remu, defBody s__remu, defScope s__remu, [], []⟩
def dd_apply : He.DefD := ⟨("apply", none), "apply", "apply", defArgs s_apply, defBody s_apply, defScope s_apply, [], []⟩
def dd__law_cell_at : He.DefD := ⟨("_law_cell_at", none), "_law_cell_at", "_law_cell_at", defArgs s__law_cell_at, defBody s__law_cell_at, defScope s__law_cell_at, [], []⟩
def dd__law_draw : He.DefD := ⟨("_law_draw", none), "_law_draw", "_law_draw", defArgs s__law_draw, defBody s__law_draw, defScope s__law_draw, [], []⟩
def dd__law_number : He.DefD := ⟨("_law_number", none), "_law_number", "_law_number", defArgs s__law_number, defBody s__law_number, defScope s__law_number, [], []⟩
def dd__law_next : He.DefD := ⟨("_law_next", none), "_law_next", "_law_next", defArgs s__law_next, defBody s__law_next, defScope s__law_next, [], []⟩
def dd__law_pick : He.DefD := ⟨("_law_pick", none), "_law_pick", "_law_pick", defArgs s__law_pick, defBody s__law_pick, defScope s__law_pick, [], []⟩
def dd__law_word : He.DefD := ⟨("_law_word", none), "_law_word", "_law_word", defArgs s__law_word, defBody s__law_word, defScope s__law_word, [], []⟩
def dd__law_signed : He.DefD := ⟨("_law_signed", none), "_law_signed", "_law_signed", defArgs s__law_signed, defBody s__law_signed, defScope s__law_signed, [], []⟩
def dd__law_quotient : He.DefD := ⟨("_law_quotient", none), "_law_quotient", "_law_quotient", defArgs s__law_quotient, defBody s__law_quotient, defScope s__law_quotient, [], []⟩
def dd__law_power : He.DefD := ⟨("_law_power", none), "_law_power", "_law_power", defArgs s__law_power, defBody s__law_power, defScope s__law_power, [], []⟩
def dd__law_bits : He.DefD := ⟨("_law_bits", none), "_law_bits", "_law_bits", defArgs s__law_bits, defBody s__law_bits, defScope s__law_bits, [], []⟩
def dd__law_due : He.DefD := ⟨("_law_due", none), "_law_due", "_law_due", defArgs s__law_due, defBody s__law_due, defScope s__law_due, [], []⟩
def dd_law : He.DefD := ⟨("law", none), "law", "law", defArgs s_law, defBody s_law, defScope s_law, [], []⟩
def hfn : List He.DefD := [dd_word_of, dd_signed, dd__add, dd__sub, dd__mul, dd__and, dd__or, dd__xor, dd__shl, dd__shr, dd__sar, dd__lts, dd__ltu, dd__eq, dd__divs, dd__rems, dd__divu, dd__remu, dd_apply, dd__law_cell_at, dd__law_draw, dd__law_number, dd__law_next, dd__law_pick, dd__law_word, dd__law_signed, dd__law_quotient, dd__law_power, dd__law_bits, dd__law_due, dd_law]
def hfa : List He.Fa := [.glo "word_of", .glo "signed", .glo "_add", .glo "_sub", .glo "_mul", .glo "_and", .glo "_or", .glo "_xor", .glo "_shl", .glo "_shr", .glo "_sar", .glo "_lts", .glo "_ltu", .glo "_eq", .glo "_divs", .glo "_rems", .glo "_divu", .glo "_remu", .glo "apply", .glo "_law_cell_at", .glo "_law_draw", .glo "_law_number", .glo "_law_next", .glo "_law_pick", .glo "_law_word", .glo "_law_signed", .glo "_law_quotient", .glo "_law_power", .glo "_law_bits", .glo "_law_due", .glo "law", .glo "KINDS_OF_WORK", .free "len", .free "int", .free "range", .free "abs", .free "max", .int "GREATEST" 4294967295, .int "HALF" 2147483648]
def hts : List He.Tab := [(fun K => He.ga K "KINDS_OF_WORK", ["add", "sub", "mul", "and", "or", "xor", "shl", "shr", "sar", "lts", "ltu", "eq", "divs", "rems", "divu", "remu"])]
def hex (K : PySem.W.Frag) : Bool := (He.valsB K (He.ga K "KINDS_OF_WORK") [("add", .glo "_add"), ("sub", .glo "_sub"), ("mul", .glo "_mul"), ("and", .glo "_and"), ("or", .glo "_or"), ("xor", .glo "_xor"), ("shl", .glo "_shl"), ("shr", .glo "_shr"), ("sar", .glo "_sar"), ("lts", .glo "_lts"), ("ltu", .glo "_ltu"), ("eq", .glo "_eq"), ("divs", .glo "_divs"), ("rems", .glo "_rems"), ("divu", .glo "_divu"), ("remu", .glo "_remu")] && true)
abbrev hk : PySem.W.Hook := He.hookX 5 hfa hfn hts [] hex
def hob (s : PySem.W.SharedT) : He.AlX := He.obsX 5 hfa hfn hts [] hex (HandSHeadRun.getT s)
theorem hob_eq (s : PySem.W.SharedT) : hob s = hk.obs s.abs := He.obsX_eq (HandSHeadRun.getT_eq s)
def hloose : List Str := (["GREATEST", "HALF", "word_of", "signed", "_add", "_sub", "_mul", "_and", "_or", "_xor", "_shl", "_shr", "_sar", "_lts", "_ltu", "_eq", "_divs", "_rems", "_divu", "_remu"] : List Str) ++ (["KINDS_OF_WORK", "apply", "_law_cell_at", "_law_draw", "_law_number", "_law_next", "_law_pick", "_law_word", "_law_signed", "_law_quotient", "_law_power", "_law_bits", "_law_due"] : List Str)
theorem hrun (w : World) : HandSHeadRun.RunEq (PySem.W.OpenLaw.row PySem.Challenge.rw_trueimage_k01_whole_words) (PySem.W.view (PySem.W.OpenLaw.row PySem.Challenge.rw_trueimage_k01_whole_words).prog [35]) hk hob 3000 hloose w :=
  PySem.W.byRow2 "special-get-raises" (P := fun w => HandSHeadRun.RunEq (PySem.W.OpenLaw.row PySem.Challenge.rw_trueimage_k01_whole_words) (PySem.W.view (PySem.W.OpenLaw.row PySem.Challenge.rw_trueimage_k01_whole_words).prog [35]) hk hob 3000 hloose w) (fun w => by intro os; kernel_rfl) (fun w => by intro os; kernel_rfl) w
section
variable {P : Program} {w : World} {K : PySem.W.Frag} {h : Heap} {mg : Str → Option Value}
theorem df_mk (X : K.In h) (G : h.Ns mainGlobals mg) {x : Str} {st : Stmt} (c1 : (He.Fa.glo x).ok K = true) (c2 : ∃ fd, FunD K x x (defArgs st) (defBody st) (defScope st) [] [] (He.fAd K (x, none)) fd) : Df K mg x st := by
  obtain ⟨fd, F⟩ := c2
  exact ⟨He.ga K x, fd, He.glo_ok X G c1, F⟩
theorem txt_mk (X : K.In h) (G : h.Ns mainGlobals mg) (c : He.SaysX hfa hfn hts [] hex w h K) : Txt K mg w := by
  have cd := c.t.d
  have cx : hex K = true := c.more
  obtain ⟨es, nn, kd⟩ := c.t.tab 0 (t := (fun K => He.ga K "KINDS_OF_WORK", ["add", "sub", "mul", "and", "or", "xor", "shl", "shr", "sar", "lts", "ltu", "eq", "divs", "rems", "divu", "remu"])) rfl
  obtain ⟨v0, _⟩ := He.ba cx
  have kv : ∀ (q : Str × He.Dv) (x : Str), q ∈ ([("add", .glo "_add"), ("sub", .glo "_sub"), ("mul", .glo "_mul"), ("and", .glo "_and"), ("or", .glo "_or"), ("xor", .glo "_xor"), ("shl", .glo "_shl"), ("shr", .glo "_shr"), ("sar", .glo "_sar"), ("lts", .glo "_lts"), ("ltu", .glo "_ltu"), ("eq", .glo "_eq"), ("divs", .glo "_divs"), ("rems", .glo "_rems"), ("divu", .glo "_divu"), ("remu", .glo "_remu")] : List (Str × He.Dv)) → q.2 = .glo x → (He.Fa.glo x).ok K = true → ∀ g, mg x = some (.ref g) → KDct K w (He.ga K "KINDS_OF_WORK") q.1 (.ref g) := by
    intro q x hq hx c1 g hg
    obtain ⟨u, e1, e2⟩ := He.valsB_ok v0 hq
    have e3 := He.glo_ok X G c1
    rw [hg] at e3
    have e4 : g = He.ga K x := by injection e3 with e3; injection e3
    rw [hx] at e2
    refine ⟨es, nn, u, kd.at_, kd.lit, e1, ?_⟩
    rw [e4]; exact e2
  exact {
    d_word_of := df_mk X G (cd.fact 0 (f := .glo "word_of") rfl) (cd.def_ 0 (d := dd_word_of) rfl),
    d_signed := df_mk X G (cd.fact 1 (f := .glo "signed") rfl) (cd.def_ 1 (d := dd_signed) rfl),
    d__add := df_mk X G (cd.fact 2 (f := .glo "_add") rfl) (cd.def_ 2 (d := dd__add) rfl),
    d__sub := df_mk X G (cd.fact 3 (f := .glo "_sub") rfl) (cd.def_ 3 (d := dd__sub) rfl),
    d__mul := df_mk X G (cd.fact 4 (f := .glo "_mul") rfl) (cd.def_ 4 (d := dd__mul) rfl),
    d__and := df_mk X G (cd.fact 5 (f := .glo "_and") rfl) (cd.def_ 5 (d := dd__and) rfl),
    d__or := df_mk X G (cd.fact 6 (f := .glo "_or") rfl) (cd.def_ 6 (d := dd__or) rfl),
    d__xor := df_mk X G (cd.fact 7 (f := .glo "_xor") rfl) (cd.def_ 7 (d := dd__xor) rfl),
    d__shl := df_mk X G (cd.fact 8 (f := .glo "_shl") rfl) (cd.def_ 8 (d := dd__shl) rfl),
    d__shr := df_mk X G (cd.fact 9 (f := .glo "_shr") rfl) (cd.def_ 9 (d := dd__shr) rfl),
    d__sar := df_mk X G (cd.fact 10 (f := .glo "_sar") rfl) (cd.def_ 10 (d := dd__sar) rfl),
    d__lts := df_mk X G (cd.fact 11 (f := .glo "_lts") rfl) (cd.def_ 11 (d := dd__lts) rfl),
    d__ltu := df_mk X G (cd.fact 12 (f := .glo "_ltu") rfl) (cd.def_ 12 (d := dd__ltu) rfl),
    d__eq := df_mk X G (cd.fact 13 (f := .glo "_eq") rfl) (cd.def_ 13 (d := dd__eq) rfl),
    d__divs := df_mk X G (cd.fact 14 (f := .glo "_divs") rfl) (cd.def_ 14 (d := dd__divs) rfl),
    d__rems := df_mk X G (cd.fact 15 (f := .glo "_rems") rfl) (cd.def_ 15 (d := dd__rems) rfl),
    d__divu := df_mk X G (cd.fact 16 (f := .glo "_divu") rfl) (cd.def_ 16 (d := dd__divu) rfl),
    d__remu := df_mk X G (cd.fact 17 (f := .glo "_remu") rfl) (cd.def_ 17 (d := dd__remu) rfl),
    d_apply := df_mk X G (cd.fact 18 (f := .glo "apply") rfl) (cd.def_ 18 (d := dd_apply) rfl),
    d__law_cell_at := df_mk X G (cd.fact 19 (f := .glo "_law_cell_at") rfl) (cd.def_ 19 (d := dd__law_cell_at) rfl),
    d__law_draw := df_mk X G (cd.fact 20 (f := .glo "_law_draw") rfl) (cd.def_ 20 (d := dd__law_draw) rfl),
    d__law_number := df_mk X G (cd.fact 21 (f := .glo "_law_number") rfl) (cd.def_ 21 (d := dd__law_number) rfl),
    d__law_next := df_mk X G (cd.fact 22 (f := .glo "_law_next") rfl) (cd.def_ 22 (d := dd__law_next) rfl),
    d__law_pick := df_mk X G (cd.fact 23 (f := .glo "_law_pick") rfl) (cd.def_ 23 (d := dd__law_pick) rfl),
    d__law_word := df_mk X G (cd.fact 24 (f := .glo "_law_word") rfl) (cd.def_ 24 (d := dd__law_word) rfl),
    d__law_signed := df_mk X G (cd.fact 25 (f := .glo "_law_signed") rfl) (cd.def_ 25 (d := dd__law_signed) rfl),
    d__law_quotient := df_mk X G (cd.fact 26 (f := .glo "_law_quotient") rfl) (cd.def_ 26 (d := dd__law_quotient) rfl),
    d__law_power := df_mk X G (cd.fact 27 (f := .glo "_law_power") rfl) (cd.def_ 27 (d := dd__law_power) rfl),
    d__law_bits := df_mk X G (cd.fact 28 (f := .glo "_law_bits") rfl) (cd.def_ 28 (d := dd__law_bits) rfl),
    d__law_due := df_mk X G (cd.fact 29 (f := .glo "_law_due") rfl) (cd.def_ 29 (d := dd__law_due) rfl),
    d_law := df_mk X G (cd.fact 30 (f := .glo "law") rfl) (cd.def_ 30 (d := dd_law) rfl),
    n_len := He.free_ok X G (cd.fact 32 (f := .free "len") rfl),
    n_int := He.free_ok X G (cd.fact 33 (f := .free "int") rfl),
    n_range := He.free_ok X G (cd.fact 34 (f := .free "range") rfl),
    n_abs := He.free_ok X G (cd.fact 35 (f := .free "abs") rfl),
    n_max := He.free_ok X G (cd.fact 36 (f := .free "max") rfl),
    c_GREATEST := He.int_ok X G (cd.fact 37 (f := .int "GREATEST" 4294967295) rfl),
    c_HALF := He.int_ok X G (cd.fact 38 (f := .int "HALF" 2147483648) rfl),
    k_KINDS := ⟨_, He.glo_ok X G (cd.fact 31 (f := .glo "KINDS_OF_WORK") rfl), { k_add := kv ("add", .glo "_add") "_add" (List.mem_of_getElem? (i := 0) rfl) rfl (cd.fact 2 (f := .glo "_add") rfl), k_sub := kv ("sub", .glo "_sub") "_sub" (List.mem_of_getElem? (i := 1) rfl) rfl (cd.fact 3 (f := .glo "_sub") rfl), k_mul := kv ("mul", .glo "_mul") "_mul" (List.mem_of_getElem? (i := 2) rfl) rfl (cd.fact 4 (f := .glo "_mul") rfl), k_and := kv ("and", .glo "_and") "_and" (List.mem_of_getElem? (i := 3) rfl) rfl (cd.fact 5 (f := .glo "_and") rfl), k_or := kv ("or", .glo "_or") "_or" (List.mem_of_getElem? (i := 4) rfl) rfl (cd.fact 6 (f := .glo "_or") rfl), k_xor := kv ("xor", .glo "_xor") "_xor" (List.mem_of_getElem? (i := 5) rfl) rfl (cd.fact 7 (f := .glo "_xor") rfl), k_shl := kv ("shl", .glo "_shl") "_shl" (List.mem_of_getElem? (i := 6) rfl) rfl (cd.fact 8 (f := .glo "_shl") rfl), k_shr := kv ("shr", .glo "_shr") "_shr" (List.mem_of_getElem? (i := 7) rfl) rfl (cd.fact 9 (f := .glo "_shr") rfl), k_sar := kv ("sar", .glo "_sar") "_sar" (List.mem_of_getElem? (i := 8) rfl) rfl (cd.fact 10 (f := .glo "_sar") rfl), k_lts := kv ("lts", .glo "_lts") "_lts" (List.mem_of_getElem? (i := 9) rfl) rfl (cd.fact 11 (f := .glo "_lts") rfl), k_ltu := kv ("ltu", .glo "_ltu") "_ltu" (List.mem_of_getElem? (i := 10) rfl) rfl (cd.fact 12 (f := .glo "_ltu") rfl), k_eq := kv ("eq", .glo "_eq") "_eq" (List.mem_of_getElem? (i := 11) rfl) rfl (cd.fact 13 (f := .glo "_eq") rfl), k_divs := kv ("divs", .glo "_divs") "_divs" (List.mem_of_getElem? (i := 12) rfl) rfl (cd.fact 14 (f := .glo "_divs") rfl), k_rems := kv ("rems", .glo "_rems") "_rems" (List.mem_of_getElem? (i := 13) rfl) rfl (cd.fact 15 (f := .glo "_rems") rfl), k_divu := kv ("divu", .glo "_divu") "_divu" (List.mem_of_getElem? (i := 14) rfl) rfl (cd.fact 16 (f := .glo "_divu") rfl), k_remu := kv ("remu", .glo "_remu") "_remu" (List.mem_of_getElem? (i := 15) rfl) rfl (cd.fact 17 (f := .glo "_remu") rfl) }⟩ }
theorem all_ok (X : K.In h) (G : h.Ns mainGlobals mg) (c : He.SaysX hfa hfn hts [] hex w h K) (base : Heap) : Gd P w K mg base CX0 6 "law" ["script"] (sp_law K) := by
  have T := txt_mk X G c
  have G__law_cell_at := g__law_cell_at (P := P) (base := base) T 
  have G__law_draw := g__law_draw (P := P) (base := base) T 
  have G__law_number := g__law_number (P := P) (base := base) T G__law_draw
  have G__law_next := g__law_next (P := P) (base := base) T G__law_cell_at G__law_number
  have G__law_pick := g__law_pick (P := P) (base := base) T G__law_next
  have G__law_word := g__law_word (P := P) (base := base) T G__law_pick G__law_next
  have G__law_signed := g__law_signed (P := P) (base := base) T 
  have G__law_power := g__law_power (P := P) (base := base) T 
  have G_word_of := g_word_of (P := P) (base := base) T 
  have G_signed := g_signed (P := P) (base := base) T 
  have G__add := g__add (P := P) (base := base) T G_word_of
  have G__sub := g__sub (P := P) (base := base) T G_word_of
  have G__mul := g__mul (P := P) (base := base) T G_word_of
  have G__and := g__and (P := P) (base := base) T 
  have G__or := g__or (P := P) (base := base) T 
  have G__xor := g__xor (P := P) (base := base) T 
  have G__shl := g__shl (P := P) (base := base) T G_word_of
  have G__shr := g__shr (P := P) (base := base) T 
  have G__sar := g__sar (P := P) (base := base) T G_word_of G_signed
  have G__lts := g__lts (P := P) (base := base) T G_signed
  have G__ltu := g__ltu (P := P) (base := base) T 
  have G__eq := g__eq (P := P) (base := base) T 
  have G__divs := g__divs (P := P) (base := base) T G_signed G_word_of
  have G__rems := g__rems (P := P) (base := base) T G_signed G_word_of
  have G__divu := g__divu (P := P) (base := base) T 
  have G__remu := g__remu (P := P) (base := base) T 
  have G__law_quotient := g__law_quotient (P := P) (base := base) T 
  have G__law_bits := g__law_bits (P := P) (base := base) T G__law_power
  have G__law_due := g__law_due (P := P) (base := base) T G__law_signed G__law_power G__law_bits G__law_quotient
  have G_apply := g_apply (P := P) (base := base) T G__add G__sub G__mul G__and G__or G__xor G__shl G__shr G__sar G__lts G__ltu G__eq G__divs G__rems G__divu G__remu
  have G_law := g_law (P := P) (base := base) T G__law_word G_apply G__law_due G_signed G__law_signed G_word_of
  exact G_law
end
end K01
open PySem PySem.W PySem.Calls PyProof.Rows
set_option maxRecDepth 100000 in
set_option maxHeartbeats 8000000 in
theorem PySem.Challenge.cw_trueimage_k01_whole_words_holds : PySem.Challenge.rw_trueimage_k01_whole_words.Holds := by
  w_on; o_law
  refine HandSHeadRun.head_any (r := OpenLaw.row PySem.Challenge.rw_trueimage_k01_whole_words) (q := view (OpenLaw.row PySem.Challenge.rw_trueimage_k01_whole_words).prog [35]) (H := K01.hk) (ob := K01.hob) (M := 3000) (loose := K01.hloose) (d := HandSHeadRun.topDef (OpenLaw.row PySem.Challenge.rw_trueimage_k01_whole_words).prog 35) (kwd := []) K01.hob_eq
    (by kernel_rfl) (fun s => by kernel_rfl) K01.hrun (by kernel_rfl) (by kernel_rfl) (by kernel_rfl) (by rfl) (by first | assumption | decide +kernel) (by decide +kernel) ⟨rfl, rfl, rfl, rfl, rfl, by decide +kernel⟩ ?hw ?hc
  case hw => w_witness2
  case hc =>
    refine L2.walk_ofE (l := PySem.Challenge.rw_trueimage_k01_whole_words) (n := 63) (k := 6) (x := "script") (CX := L2.CX0) rfl (by decide) (by kernel_rfl) ⟨rfl, by decide, by decide⟩ ?F (fun _ _ _ _ z => z)
    intro w mg fa h Y G hmg0
    obtain ⟨K, KX, c⟩ := Y
    have hmg : mg ("law" : PySem.Str) = some (.ref fa) := by
      have e : (HandSHeadRun.topDef (OpenLaw.row PySem.Challenge.rw_trueimage_k01_whole_words).prog 35).name = ("law" : PySem.Str) := by kernel_rfl
      rw [← e]
      exact hmg0
    have T := K01.txt_mk KX G c
    obtain ⟨f, fd, hm, F⟩ := T.d_law.ex
    have ef : f = fa := by
      rw [hmg] at hm
      injection hm with hm
      injection hm with hm
      exact hm.symm
    subst ef
    refine ⟨K, fd, K01.sp_law K, KX, fun s v => L2.FunD.bindsA (ps := ["script"]) F (fun _ _ _ _ _ _ us hl => match us, hl with | [_], _ => rfl) s [v] rfl, fun H a ns hl _ hS => ⟨_, rfl, a, ns, rfl, hS, fun _ => rfl⟩, fun base _ _ => ?_⟩
    obtain ⟨f', fd', hm', ok, _, _, oc', od', osl', lk'⟩ := (K01.all_ok (P := (PySem.Challenge.rw_trueimage_k01_whole_words).prog) KX G c base).ex
    have ef : f' = f := by
      rw [hmg] at hm'
      injection hm' with hm'
      injection hm' with hm'
      exact hm'.symm
    subst ef
    obtain ⟨oc, od, dV, kV, doc, pm, an, cdv, ct, osl, _, lk, _⟩ := F.ex
    rw [lk'] at lk
    have ed : fd' = fd := by
      injection lk with lk
      injection lk with _ _ lk _
      injection lk with lk
    rw [← ed]
    exact ok


