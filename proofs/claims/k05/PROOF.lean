import PyProof.Rows.All
import Wide.All
import OpenK.AllK
import Wide.FinOn
import Lean
import HandS.ForMost
import HandS.ForExc
import HandS.Evl
import HandS.IsInst
import HandS.ExcIs
import HandS.NoneIn
import HandS.Defaults
import HandS.Head0
import HandS.Head1
import HandS.Head2
import HandS.HeadEnd
import HandS.HeadHook1
import HandS.HeadHook2
import HandS.HeadHook3
import HandS.HeadHook4
import HandS.Walk
import HandS.Rev
import HandS.Zip
import HandS.Conv
import HandS.RevRange
import HandS.FStr
import HandS.RaiseMore
import HandS.Style
import PySem.Challenge.RW_cairn_k05_products_of_matrices

set_option Elab.async false
namespace Gf
/-- the powers and the exponents as one number each -/
def pn : Nat := 70160881166704368827218703435136616750530459438269794890424969378298545675077208731798828898087927652446353395360628748027273188182808436399538186061104243134188885576122562338679313492324190829158544377810568631194580132524405266702234305646236648896994794467054525044798919765581988418950285252905306116225263236585714808161311289784028762024137133735135393922581566890382566480334369299400480864790538739986285574563168380416343369614948461817839620668187777978661530364712890858126432457562886306102556561631759900551331094983229723298224611133722330829711659991602983068895685602467964643306841827719562658305
def ln : Nat := 22135253156888987530748098150270024343632497605293634117281264061560962248099620766229961468867162294233796152347975563017024165690400661622462404646302566225833645086064538892198543335321514950294300187779610338557442029018619797274438901674641748676613670242915365385819254959901651105240253464034662486586186382979728982817772067067513442677601938078891989292316012868233806586592927239821351197800766822366321181463280924672822998103315976779850880337712374790938628529953751181886374687897611504386983350015558142994211516619836411558782076806704747441947939324473761869443721989389604670425385080942269787340800
def pw (k : Nat) : Nat := (pn >>> (8 * k)) % 256
def lg (a : Nat) : Nat := (ln >>> (8 * a)) % 256
def gm (a b : Nat) : Nat := if a = 0 then 0 else if b = 0 then 0 else pw ((lg a + lg b) % 255)
def xt (a : Nat) : Nat := if a * 2 > 255 then (a * 2) ^^^ 285 else a * 2
/-- one turn of the product by shifts: product, a, b -/
def ps (s : Nat × Nat × Nat) : Nat × Nat × Nat := (if s.2.2 % 2 = 0 then s.1 else s.1 ^^^ s.2.1, xt s.2.1, s.2.2 / 2)
def pn8 : Nat → Nat × Nat × Nat → Nat × Nat × Nat
  | 0, s => s
  | n + 1, s => ps (pn8 n s)
def pm (a b : Nat) : Nat := (pn8 8 (0, a, b)).1
def alln (f : Nat → Bool) : Nat → Bool
  | 0 => true
  | n + 1 => f n && alln f n
theorem alln_at {f : Nat → Bool} : ∀ {n : Nat}, alln f n = true → ∀ i, i < n → f i = true
  | 0, _, i, h => absurd h (Nat.not_lt_zero _)
  | n + 1, e, i, h => by
    unfold alln at e
    have e2 := Bool.and_eq_true_iff.mp e
    by_cases q : i = n
    · rw [q]; exact e2.1
    · exact alln_at e2.2 i (by omega)
theorem tab1 : alln (fun a => Nat.beq (pw (lg a)) a || Nat.beq a 0) 256 = true := by decide +kernel
theorem tab2 : alln (fun k => Nat.beq (lg (pw k)) k && Nat.ble 1 (pw k) && Nat.ble (pw k) 255) 255 = true := by decide +kernel
theorem tab3 : alln (fun a => Nat.ble (lg a) 254) 256 = true := by decide +kernel
theorem tab5 : alln (fun a => Nat.blt (xt a) 256) 256 = true := by decide +kernel
theorem pw_lg {a : Nat} (h : a < 256) (h0 : ¬ a = 0) : pw (lg a) = a := by
  have e := alln_at tab1 a h
  rcases Bool.or_eq_true_iff.mp e with e | e
  · exact Nat.eq_of_beq_eq_true e
  · exact absurd (Nat.eq_of_beq_eq_true e) h0
theorem tab2_at {k : Nat} (h : k < 255) : lg (pw k) = k ∧ 1 ≤ pw k ∧ pw k ≤ 255 := by
  have e := alln_at tab2 k h
  obtain ⟨e1, e2⟩ := Bool.and_eq_true_iff.mp e
  obtain ⟨e3, e4⟩ := Bool.and_eq_true_iff.mp e1
  exact ⟨Nat.eq_of_beq_eq_true e3, Nat.le_of_ble_eq_true e4, Nat.le_of_ble_eq_true e2⟩
theorem lg_lt {a : Nat} (h : a < 256) : lg a < 255 := by
  have e := Nat.le_of_ble_eq_true (alln_at tab3 a h)
  omega
theorem xt_lt {a : Nat} (h : a < 256) : xt a < 256 := Nat.le_of_ble_eq_true (alln_at tab5 a h)
theorem pn8_lt {a b : Nat} (h : a < 256) : ∀ n, (pn8 n (0, a, b)).2.1 < 256
  | 0 => h
  | n + 1 => xt_lt (pn8_lt h n)
theorem gm_zero {a b : Nat} (h : a = 0 ∨ b = 0) : gm a b = 0 := by
  unfold gm
  rcases h with h | h
  · rw [if_pos h]
  · by_cases q : a = 0
    · rw [if_pos q]
    · rw [if_neg q, if_pos h]
theorem gm_pos {a b : Nat} (h : ¬ a = 0) (h2 : ¬ b = 0) : gm a b = pw ((lg a + lg b) % 255) := by
  unfold gm
  rw [if_neg h, if_neg h2]
theorem pw_lt (k : Nat) : pw k < 256 := Nat.mod_lt _ (by decide)
theorem gm_lt (a b : Nat) : gm a b < 256 := by
  unfold gm
  split
  · decide
  · split
    · decide
    · exact pw_lt _
def gi (a : Nat) : Nat := pw ((255 - lg a) % 255)
theorem gi_lt (a : Nat) : gi a < 256 := pw_lt _
theorem gi_ne (a : Nat) : ¬ gi a = 0 := by
  have := (tab2_at (Nat.mod_lt (255 - lg a) (by decide : 0 < 255))).2.1
  unfold gi
  omega
theorem lg_gi (a : Nat) : lg (gi a) = (255 - lg a) % 255 := (tab2_at (Nat.mod_lt (255 - lg a) (by decide : 0 < 255))).1
theorem pw_zero : pw 0 = 1 := by decide +kernel
theorem gm_gi {a : Nat} (h : a < 256) (h0 : ¬ a = 0) : gm a (gi a) = 1 := by
  rw [gm_pos h0 (gi_ne a), lg_gi]
  have := lg_lt h
  have e : (lg a + (255 - lg a) % 255) % 255 = 0 := by omega
  rw [e, pw_zero]
theorem gm_comm (a b : Nat) : gm a b = gm b a := by
  by_cases h : a = 0
  · rw [gm_zero (.inl h), gm_zero (.inr h)]
  · by_cases h2 : b = 0
    · rw [gm_zero (.inr h2), gm_zero (.inl h2)]
    · rw [gm_pos h h2, gm_pos h2 h, Nat.add_comm]
theorem gm_ne {a b : Nat} (h : ¬ a = 0) (h2 : ¬ b = 0) : ¬ gm a b = 0 := by
  rw [gm_pos h h2]
  have := (tab2_at (Nat.mod_lt (lg a + lg b) (by decide : 0 < 255))).2.1
  omega
theorem lg_gm {a b : Nat} (h : ¬ a = 0) (h2 : ¬ b = 0) : lg (gm a b) = (lg a + lg b) % 255 := by
  rw [gm_pos h h2]
  exact (tab2_at (Nat.mod_lt (lg a + lg b) (by decide : 0 < 255))).1
theorem gm_assoc (a b c : Nat) : gm (gm a b) c = gm a (gm b c) := by
  by_cases h : a = 0
  · rw [gm_zero (.inl h), gm_zero (.inl rfl), gm_zero (.inl h)]
  · by_cases h2 : b = 0
    · rw [gm_zero (.inr h2), gm_zero (.inl rfl), gm_zero (a := b) (.inl h2), gm_zero (.inr rfl)]
    · by_cases h3 : c = 0
      · rw [gm_zero (.inr h3), gm_zero (a := b) (.inr h3), gm_zero (.inr rfl)]
      · rw [gm_pos (gm_ne h h2) h3, gm_pos h (gm_ne h2 h3), lg_gm h h2, lg_gm h2 h3]
        have e : ((lg a + lg b) % 255 + lg c) % 255 = (lg a + (lg b + lg c) % 255) % 255 := by omega
        rw [e]
theorem lg_one : lg 1 = 0 := by decide +kernel
theorem gm_one {a : Nat} (h : a < 256) : gm a 1 = a := by
  by_cases h0 : a = 0
  · rw [gm_zero (.inl h0), h0]
  · rw [gm_pos h0 (by decide), lg_one, Nat.add_zero, Nat.mod_eq_of_lt (lg_lt h), pw_lg h h0]
theorem tab6 : alln (fun k => Nat.beq (pw ((k + 1) % 255)) (xt (pw k))) 255 = true := by decide +kernel
theorem tab7 : alln (fun n => alln (fun b => Nat.beq (b % 2 ^ (n + 1)) (if (b / 2 ^ n) % 2 = 0 then b % 2 ^ n else (b % 2 ^ n) ^^^ 2 ^ n)) 256) 8 = true := by decide +kernel
theorem tab8 : alln (fun n => Nat.beq (pw n) (2 ^ n)) 8 = true := by decide +kernel
theorem xor_lt {x y : Nat} (hx : x < 256) (hy : y < 256) : x ^^^ y < 256 := Nat.xor_lt_two_pow (n := 8) hx hy
theorem xt_xor {x y : Nat} (hx : x < 256) (hy : y < 256) : xt (x ^^^ y) = xt x ^^^ xt y := by
  have e : ∀ {z : Nat}, z < 256 → xt z = (z * 2) ^^^ (if z / 128 = 0 then 0 else 285) := fun {z} hz => by
    unfold xt
    by_cases h : z * 2 > 255
    · rw [if_pos h, if_neg (by omega)]
    · rw [if_neg h, if_pos (by omega), Nat.xor_zero]
  have d : (x ^^^ y) / 128 = x / 128 ^^^ y / 128 := by
    have q := Nat.shiftRight_xor_distrib (a := x) (b := y) (i := 7)
    rw [Nat.shiftRight_eq_div_pow, Nat.shiftRight_eq_div_pow, Nat.shiftRight_eq_div_pow] at q
    exact q
  have m : (x ^^^ y) * 2 = x * 2 ^^^ y * 2 := by
    have q := Nat.shiftLeft_xor_distrib (a := x) (b := y) (i := 1)
    rw [Nat.shiftLeft_eq, Nat.shiftLeft_eq, Nat.shiftLeft_eq] at q
    exact q
  rw [e (xor_lt hx hy), e hx, e hy, d, m]
  have h1 : x / 128 = 0 ∨ x / 128 = 1 := by omega
  have h2 : y / 128 = 0 ∨ y / 128 = 1 := by omega
  have ac : ∀ p q r s : Nat, (p ^^^ r) ^^^ (q ^^^ s) = (p ^^^ q) ^^^ (r ^^^ s) := fun p q r s => by
    rw [Nat.xor_assoc, Nat.xor_assoc, ← Nat.xor_assoc r, Nat.xor_comm r q, Nat.xor_assoc q]
  rw [ac]
  rcases h1 with h1 | h1 <;> rcases h2 with h2 | h2 <;> rw [h1, h2] <;> rfl
def xtn : Nat → Nat → Nat
  | 0, a => a
  | n + 1, a => xt (xtn n a)
theorem xtn_lt {a : Nat} (h : a < 256) : ∀ n, xtn n a < 256
  | 0 => h
  | n + 1 => xt_lt (xtn_lt h n)
theorem xtn_xor {x y : Nat} (hx : x < 256) (hy : y < 256) : ∀ n, xtn n (x ^^^ y) = xtn n x ^^^ xtn n y
  | 0 => rfl
  | n + 1 => by
    show xt (xtn n (x ^^^ y)) = xt (xtn n x) ^^^ xt (xtn n y)
    rw [xtn_xor hx hy n, xt_xor (xtn_lt hx n) (xtn_lt hy n)]
theorem xtn_zero : ∀ n, xtn n 0 = 0
  | 0 => rfl
  | n + 1 => by
    show xt (xtn n 0) = 0
    rw [xtn_zero n]
    rfl
theorem xtn_pw {j : Nat} (h : j < 255) : ∀ n, xtn n (pw j) = pw ((j + n) % 255)
  | 0 => by
    show pw j = _
    rw [Nat.add_zero, Nat.mod_eq_of_lt h]
  | n + 1 => by
    show xt (xtn n (pw j)) = _
    rw [xtn_pw h n]
    have e := Nat.eq_of_beq_eq_true (alln_at tab6 ((j + n) % 255) (Nat.mod_lt _ (by decide)))
    rw [← e]
    congr 1
    omega
theorem gm_xtn {a b : Nat} (h : ¬ a = 0) (hb : b < 256) : gm a b = xtn (lg a) b := by
  by_cases h0 : b = 0
  · rw [gm_zero (.inr h0), h0, xtn_zero]
  · have e : xtn (lg a) b = xtn (lg a) (pw (lg b)) := by rw [pw_lg hb h0]
    rw [e, xtn_pw (lg_lt hb), gm_pos h h0, Nat.add_comm]
/-- the product distributes over the sum -/
theorem gm_xor {a b c : Nat} (hb : b < 256) (hc : c < 256) : gm a (b ^^^ c) = gm a b ^^^ gm a c := by
  by_cases h : a = 0
  · rw [gm_zero (.inl h), gm_zero (.inl h), gm_zero (.inl h)]
    rfl
  · rw [gm_xtn h (xor_lt hb hc), gm_xtn h hb, gm_xtn h hc, xtn_xor hb hc]
theorem xor_gm {a b c : Nat} (hb : b < 256) (hc : c < 256) : gm (b ^^^ c) a = gm b a ^^^ gm c a := by
  rw [gm_comm, gm_xor hb hc, gm_comm a b, gm_comm a c]
theorem gm_pow {a n : Nat} (ha : a < 256) (hn : n < 8) : gm a (2 ^ n) = xtn n a := by
  have e := Nat.eq_of_beq_eq_true (alln_at tab8 n hn)
  have l := (tab2_at (show n < 255 by omega)).1
  rw [gm_comm, ← e, gm_xtn (by have := (tab2_at (show n < 255 by omega)).2.1; omega) ha, l]
theorem pn8_eq {a b : Nat} (ha : a < 256) (hb : b < 256) : ∀ n, n ≤ 8 → pn8 n (0, a, b) = (gm a (b % 2 ^ n), xtn n a, b / 2 ^ n)
  | 0, _ => by
    show (0, a, b) = _
    rw [Nat.pow_zero, Nat.mod_one, Nat.div_one, gm_zero (.inr rfl)]
    rfl
  | n + 1, h => by
    show ps (pn8 n (0, a, b)) = _
    rw [pn8_eq ha hb n (by omega)]
    have e := Nat.eq_of_beq_eq_true (alln_at (alln_at tab7 n (by omega)) b hb)
    have d : b / 2 ^ n / 2 = b / 2 ^ (n + 1) := by rw [Nat.div_div_eq_div_mul, Nat.pow_succ]
    have l1 : b % 2 ^ n < 256 := Nat.lt_of_le_of_lt (Nat.mod_le _ _) hb
    have l2 : 2 ^ n < 256 := Nat.pow_lt_pow_right (by decide) (show n < 8 by omega)
    show (if b / 2 ^ n % 2 = 0 then gm a (b % 2 ^ n) else gm a (b % 2 ^ n) ^^^ xtn n a, xt (xtn n a), b / 2 ^ n / 2) = _
    rw [d, e]
    by_cases q : b / 2 ^ n % 2 = 0
    · rw [if_pos q, if_pos q]
      rfl
    · rw [if_neg q, if_neg q, gm_xor l1 l2, gm_pow ha (by omega)]
      rfl
theorem pm_eq {a b : Nat} (ha : a < 256) (hb : b < 256) : (pn8 8 (0, a, b)).1 = gm a b := by
  rw [pn8_eq ha hb 8 (Nat.le_refl _)]
  show gm a (b % 256) = gm a b
  rw [Nat.mod_eq_of_lt hb]
def gp (a n : Nat) : Nat := if n = 0 then 1 else if a = 0 then 0 else pw (lg a * n % 255)
theorem gp_none (a : Nat) : gp a 0 = 1 := if_pos rfl
theorem gp_zero {n : Nat} (h : ¬ n = 0) : gp 0 n = 0 := by
  unfold gp
  rw [if_neg h, if_pos rfl]
theorem gp_pos {a n : Nat} (h : ¬ a = 0) (h2 : ¬ n = 0) : gp a n = pw (lg a * n % 255) := by
  unfold gp
  rw [if_neg h2, if_neg h]
theorem gp_lt (a n : Nat) : gp a n < 256 := by
  unfold gp
  split
  · decide
  · split
    · decide
    · exact pw_lt _
theorem gp_succ {a : Nat} (ha : a < 256) (n : Nat) : gp a (n + 1) = gm (gp a n) a := by
  by_cases h : a = 0
  · subst h
    rw [gp_zero (by omega), gm_zero (.inr rfl)]
  · by_cases hn : n = 0
    · subst hn
      rw [gp_pos h (by omega), gp_none, gm_comm, gm_one ha, Nat.zero_add, Nat.mul_one, Nat.mod_eq_of_lt (lg_lt ha), pw_lg ha h]
    · have e := tab2_at (Nat.mod_lt (lg a * n) (by decide : 0 < 255))
      rw [gp_pos h (by omega), gp_pos h hn, gm_pos (by omega) h, e.1, Nat.mul_add, Nat.mul_one]
      congr 1
      omega
def mixed (c k : Int) : Int := ((c * 48271 + k * 69621 + 11) % 2147483647 * 16807 + (k + 3) * 40692 + 5) % 2147483563 / 5
def mixd (c : Int) (m j : Nat) : Nat := (mixed c (j : Int) % (m : Int)).toNat
theorem mixd_eq {m : Nat} (h : 0 < m) (c : Int) (j : Nat) : ((mixd c m j : Nat) : Int) = mixed c (j : Int) % (m : Int) := by
  unfold mixd
  exact Int.toNat_of_nonneg (Int.emod_nonneg _ (by omega))
def divn (m : Nat) : Nat → Int → Int
  | 0, c => c
  | n + 1, c => divn m n c / (m : Int)
def digd (c : Int) (m j : Nat) : Nat := (divn m j c % (m : Int)).toNat
theorem digd_eq {m : Nat} (h : 0 < m) (c : Int) (j : Nat) : ((digd c m j : Nat) : Int) = divn m j c % (m : Int) := by
  unfold digd
  exact Int.toNat_of_nonneg (Int.emod_nonneg _ (by omega))
def digits (c : Int) (n m : Nat) : List Nat := if c < 10 ^ 18 then (List.range n).map fun j => mixd c m j else (List.range n).map fun j => digd c m j
theorem digits_low {c : Int} {n m : Nat} (h : c < 10 ^ 18) : digits c n m = (List.range n).map fun j => mixd c m j := if_pos h
theorem digits_high {c : Int} {n m : Nat} (h : ¬ c < 10 ^ 18) : digits c n m = (List.range n).map fun j => digd c m j := if_neg h
theorem digits_length (c : Int) (n m : Nat) : (digits c n m).length = n := by
  unfold digits
  split <;> simp
theorem digits_lt {c : Int} {n m : Nat} (h : 0 < m) : ∀ d ∈ digits c n m, d < m := by
  intro d hd
  have key : ∀ z : Int, (z % (m : Int)).toNat < m := fun z => by
    have h1 := Int.emod_nonneg z (show (m : Int) ≠ 0 by omega)
    have h2 := Int.emod_lt_of_pos z (show (0 : Int) < (m : Int) by omega)
    omega
  unfold digits at hd
  split at hd
  · obtain ⟨j, _, rfl⟩ := List.mem_map.mp hd
    exact key _
  · obtain ⟨j, _, rfl⟩ := List.mem_map.mp hd
    exact key _
def powL : List Nat := (List.range 255).map pw
def logL : List Nat := (List.range 256).map lg
theorem range_at {f : Nat → Nat} {n k : Nat} (h : k < n) : ((List.range n).map f)[k]? = some (f k) := by
  rw [List.getElem?_map, List.getElem?_range h]
  rfl
end Gf

set_option Elab.async false
set_option linter.all false
set_option maxRecDepth 100000
set_option maxHeartbeats 4000000
namespace Mx
open PySem PySem.Spec PyProof.Rows L2 Evl
/-! ### more of what evaluates to what -/
section
variable {K : PySem.W.Frag} {σ : L2.St} {H H' : Hp} {ta tb te tx : TE} {t u : TT} {x y z v : V} {r : R2}
theorem rv_xor {a b : Nat} : RV (rI0 fun i j => .int (Builtin.bitXor i j)) (.int (a : Int)) (.int (b : Int)) H (.int ((a ^^^ b : Nat) : Int)) := fun H1 _ Q q => ⟨_, _, rfl, rfl, by
  show Q (.int (Builtin.bitXor (a : Int) (b : Int))) H1
  rw [Bits.bitXor_pp (Int.natCast_nonneg a) (Int.natCast_nonneg b), Int.toNat_natCast, Int.toNat_natCast]
  exact q H1 (Ex.refl H1)⟩
theorem rv_addN {a b : Nat} : RV (rI0 fun i j => .int (i + j)) (.int (a : Int)) (.int (b : Int)) H (.int ((a + b : Nat) : Int)) := fun H1 _ Q q => ⟨_, _, rfl, rfl, by
  show Q (.int ((a : Int) + (b : Int))) H1
  rw [← Int.natCast_add]
  exact q H1 (Ex.refl H1)⟩
theorem rv_mod {i j : Int} (h : 0 < j) : RV (rI (fun _ j => 0 < j) fun i j => .int (i % j)) (.int i) (.int j) H (.int (i % j)) := rv_I h
theorem rv_fdiv {i j : Int} (h : 0 < j ∧ j < 1073741824) : RV (rI CDiv fun i j => .int (i / j)) (.int i) (.int j) H (.int (i / j)) := rv_I h
theorem ev_int {i : Int} (h : Ev ta σ H (.int i)) : Ev (tCB (fun xs H Q => (∃ i, xs = [.int i] ∧ Q (.int i) H) ∨ ∃ k, xs = [.bl k] ∧ Q (.int (if k then 1 else 0)) H) (tCons ta tNil)) σ H (.int i) := fun H1 e Q q =>
  h H1 e _ fun H2 e2 => Or.inl ⟨i, rfl, q H2 e2⟩
theorem ev_intB {k : Bool} (h : Ev ta σ H (.bl k)) : Ev (tCB (fun xs H Q => (∃ i, xs = [.int i] ∧ Q (.int i) H) ∨ ∃ k, xs = [.bl k] ∧ Q (.int (if k then 1 else 0)) H) (tCons ta tNil)) σ H (.int (if k then 1 else 0)) := fun H1 e Q q =>
  h H1 e _ fun H2 e2 => Or.inr ⟨k, rfl, q H2 e2⟩
theorem ev_lenL {p : Addr} {xs : List V} (ha : Ev ta σ H (.ref p)) (h : SqL K H p xs) : Ev (tCB (fun xs H Q => ∃ p ys, xs = [.ref p] ∧ (SqL K H p ys ∨ SqT K H p ys) ∧ Q (.int ys.length) H) (tCons ta tNil)) σ H (.int (xs.length : Int)) := ev_len ha h
theorem ev_lenT {p : Addr} {xs : List V} (ha : Ev ta σ H (.ref p)) (h : SqT K H p xs) : Ev (tCB (fun xs H Q => ∃ p ys, xs = [.ref p] ∧ (SqL K H p ys ∨ SqT K H p ys) ∧ Q (.int ys.length) H) (tCons ta tNil)) σ H (.int (xs.length : Int)) := fun H1 e Q q =>
  ha H1 e _ fun H2 e2 => ⟨p, xs, rfl, Or.inr (ex_t (e.trans e2) h), q H2 e2⟩
theorem ev_isi {x c : V} {t u : Value} {b : Bool} (ha : Ev ta σ H x) (hb : Ev tb σ H c) (hc : ClsV c u) (ht : ∀ H1, Ex H H1 → TyX K H1 x t) (h : PySem.W.kitOne K t u = some b) :
    Ev (tCB (rIsi K) (tCons ta (tCons tb tNil))) σ H (.bl b) := fun H1 e Q q =>
  ha H1 e _ fun H2 e2 => hb H2 (e.trans e2) _ fun H3 e3 => ⟨x, c, t, u, b, rfl, hc, ht H3 ((e.trans e2).trans e3), h, q H3 (e2.trans e3)⟩
theorem ev_isiI {n : String} {i : Int} {b : Bool} (ha : Ev ta σ H (.int i)) (hb : Ev tb σ H (.ty n)) (h : kitB "int" n = some b) : Ev (tCB (rIsi K) (tCons ta (tCons tb tNil))) σ H (.bl b) :=
  ev_isi ha hb (ClsV.ty n) (fun _ _ => .base (.int i)) (kit_ty h)
theorem et_truI {i : Int} (h : Ev te σ H (.int i)) : EvT (fun σ H Q => te σ H fun x H1 => ∃ k, TruV K x H1 k ∧ Q k H1) σ H (i != 0) := fun H1 e Q q =>
  h H1 e _ fun H2 e2 => ⟨_, rfl, q H2 e2⟩
theorem given_yes {p : Prop} {X : Cx} {st : List Stmt} {t : TS} (h : p → PSs X st t) : PSs X st (fun D σ H => p ∧ t D σ H) := ⟨fun pins s σ H D I h' => (h h'.1).run pins s σ H D I h'.2⟩
end
/-- a number from nought as a value -/
abbrev nV (n : Nat) : V := .int (n : Int)
/-- a list from outside, changed by nobody meanwhile -/
theorem pow_at {k : Nat} (h : k < 255) : (Gf.powL.map nV)[k]? = some (.int ((Gf.pw k : Nat) : Int)) := by
  unfold Gf.powL
  rw [List.getElem?_map, Gf.range_at h]
  rfl
theorem log_at {k : Nat} (h : k < 256) : (Gf.logL.map nV)[k]? = some (.int ((Gf.lg k : Nat) : Int)) := by
  unfold Gf.logL
  rw [List.getElem?_map, Gf.range_at h]
  rfl
section
variable {K : PySem.W.Frag} {σ : L2.St} {H H' : Hp} {ta tb te tx : TE} {t u : TT} {x y z v : V} {r : R2}
theorem rv_ixTN {p : Addr} {xs : List V} {k : Nat} (h : SqT K H p xs) (ha : xs[k]? = some v) : RV (rIxT K) (.ref p) (.int (k : Int)) H v := rv_ixT h (atI_nat ha)
theorem rv_ixLN {p : Addr} {xs : List V} {k : Nat} (h : SqL K H p xs) (ha : xs[k]? = some v) : RV (rIxL K) (.ref p) (.int (k : Int)) H v := rv_ixL h (atI_nat ha)
theorem rv_modN {a b : Nat} (h : 0 < b) : RV (rI (fun _ j => 0 < j) fun i j => .int (i % j)) (.int (a : Int)) (.int (b : Int)) H (.int ((a % b : Nat) : Int)) := by
  have e : (.int ((a % b : Nat) : Int) : V) = .int ((a : Int) % (b : Int)) := by rw [Int.natCast_emod]
  rw [e]
  exact rv_I (by omega)
theorem rv_subN {a b : Nat} (h : b ≤ a) : RV (rI0 fun i j => .int (i - j)) (.int (a : Int)) (.int (b : Int)) H (.int ((a - b : Nat) : Int)) := by
  have e : (.int ((a - b : Nat) : Int) : V) = .int ((a : Int) - (b : Int)) := by rw [Int.natCast_sub h]
  rw [e]
  exact rv_I0
theorem rv_mulN {a b : Nat} (h : a < 18446744073709551616) : RV (rI CMul fun i j => .int (i * j)) (.int (a : Int)) (.int (b : Int)) H (.int ((a * b : Nat) : Int)) := by
  have e : (.int ((a * b : Nat) : Int) : V) = .int ((a : Int) * (b : Int)) := by rw [Int.natCast_mul]
  rw [e]
  exact rv_I (Or.inl ⟨by omega, by omega⟩)
theorem rv_mulL {i j : Int} (h : -(2 ^ 64) < j ∧ j < 2 ^ 64) : RV (rI CMul fun i j => .int (i * j)) (.int i) (.int j) H (.int (i * j)) := rv_I (Or.inr h)
theorem rv_and1 {b : Nat} : RV (rI0 fun i j => .int (Builtin.bitAnd i j)) (.int (b : Int)) (.int 1) H (.int ((b % 2 : Nat) : Int)) := by
  have e : (.int ((b % 2 : Nat) : Int) : V) = .int (Builtin.bitAnd (b : Int) 1) := by rw [bitAnd_m1, Int.natCast_emod] <;> rfl
  rw [e]
  exact rv_I0
theorem rv_shr1 {b : Nat} : RV (rI (fun _ j => 0 ≤ j) fun i j => .int (i / 2 ^ j.toNat)) (.int (b : Int)) (.int 1) H (.int ((b / 2 : Nat) : Int)) := by
  have e : (.int ((b / 2 : Nat) : Int) : V) = .int ((b : Int) / 2 ^ (1 : Int).toNat) := by rw [Int.natCast_ediv] <;> rfl
  rw [e]
  exact rv_I (C := fun _ j => 0 ≤ j) (by decide)
theorem rv_shl1 {a : Nat} (h : a < 18446744073709551616) : RV (rI CPow fun i j => .int (i * 2 ^ j.toNat)) (.int (a : Int)) (.int 1) H (.int ((a * 2 : Nat) : Int)) := by
  have e : (.int ((a * 2 : Nat) : Int) : V) = .int ((a : Int) * 2 ^ (1 : Int).toNat) := by rw [Int.natCast_mul] <;> rfl
  rw [e]
  exact rv_I (C := CPow) ⟨by decide, by decide, by omega⟩
end
section
variable {K : PySem.W.Frag} {σ : L2.St} {H H' : Hp} {ta tb te tx : TE} {t u : TT} {x y z v : V} {r : R2} {D : Ends} {tu tw tz : TS} {g : TG}
theorem ev_isE {Z a : Addr} {c : V} {cv : Value} {b : Bool} (ha : Ev ta σ H (.ref a)) (hb : Ev tb σ H c) (hc : ∀ w, RelV c w → w = cv) (h : PySem.W.kitOne K (.ref Z) cv = some b) :
    Ev (tCB (rIsE K Z a) (tCons ta (tCons tb tNil))) σ H (.bl b) := fun H1 e Q q =>
  ha H1 e _ fun H2 e2 => hb H2 (e.trans e2) _ fun H3 e3 => ⟨c, cv, b, rfl, hc, h, q H3 (e2.trans e3)⟩
theorem ev_isEr {Z a C : Addr} {b : Bool} (ha : Ev ta σ H (.ref a)) (hb : Ev tb σ H (.ref C)) (h : PySem.W.kitOne K (.ref Z) (.ref C) = some b) :
    Ev (tCB (rIsE K Z a) (tCons ta (tCons tb tNil))) σ H (.bl b) := ev_isE ha hb (fun _ e => e) h
theorem ev_isEt {Z a : Addr} {n : String} {b : Bool} (ha : Ev ta σ H (.ref a)) (hb : Ev tb σ H (.ty n)) (h : PySem.W.kitOne K (.ref Z) (.type n) = some b) :
    Ev (tCB (rIsE K Z a) (tCons ta (tCons tb tNil))) σ H (.bl b) := ev_isE ha hb (fun _ e => e) h
theorem s_unlL {n : Nat} {tg : TGs} {xs : List V} (h : EvL te σ H xs) (hl : xs.length = n) (k : ∀ p H1, H p = none → Ex H H1 → H1 p = some (.lst xs) → tg xs σ H1 D.nx) : tAsg te (gUnl K n tg) D σ H :=
  h H (Ex.refl H) _ fun p H1 np e hp => ⟨p, xs, rfl, sq_of hp, hl, k p H1 np e hp⟩
theorem q_unlL {n : Nat} {tg : TGs} {xs : List V} (h : EvL te σ H xs) (hl : xs.length = n) (k : ∀ p H1, H p = none → Ex H H1 → H1 p = some (.lst xs) → tg xs σ H1 (tz D)) : tSeq (tAsg te (gUnl K n tg)) tz D σ H := s_unlL (D := { D with nx := tz D }) h hl k
end
/-! ### lists of tuples that are written, and a loop over them -/
section
variable {K : PySem.W.Frag} {σ : L2.St} {H H' : Hp} {ta tb te tx : TE} {t u : TT} {x y z v : V} {r : R2} {D : Ends} {tu tw tz : TS} {g : TG}
def TupsAt (H : Hp) (rs : List Addr) (vss : List (List V)) : Prop := Paired (fun r vs => H r = some (.tup vs)) rs vss
theorem TupsAt.mono {H H' : Hp} (e : Ex H H') : ∀ {rs : List Addr} {vss : List (List V)}, TupsAt H rs vss → TupsAt H' rs vss
  | _, _, .nil => .nil
  | _, _, .cons h t => .cons (e _ _ h) (TupsAt.mono e t)
theorem TupsAt.get {H : Hp} : ∀ {rs : List Addr} {vss : List (List V)} {i : Nat} {x : V}, TupsAt H rs vss → (rs.map V.ref)[i]? = some x → ∃ r vs, x = .ref r ∧ vss[i]? = some vs ∧ H r = some (.tup vs)
  | _, _, _, _, .nil, e => by simp at e
  | _, _, 0, x, .cons h t, e => by
    simp at e
    exact ⟨_, _, e.symm, rfl, h⟩
  | _, _, i + 1, x, .cons h t, e => by
    have e2 := TupsAt.get (i := i) (x := x) t (by simpa using e)
    obtain ⟨r, vs, h1, h2, h3⟩ := e2
    exact ⟨r, vs, h1, by simpa using h2, h3⟩
theorem TupsAt.len {H : Hp} {rs : List Addr} {vss : List (List V)} (h : TupsAt H rs vss) : rs.length = vss.length := Paired.length h
def EvAT (ta : TA) (σ : L2.St) (H : Hp) (vss : List (List V)) : Prop := ∀ H1, Ex H H1 → ∀ Q : List V → Hp → Prop, (∀ rs H2, Ex H1 H2 → TupsAt H2 rs vss → Q (rs.map V.ref) H2) → ta σ H1 Q
theorem eat_nil : EvAT tNil σ H [] := fun H1 _ _ q => q [] H1 (Ex.refl H1) .nil
theorem eat_cons {tr : TA} {vs : List V} {vss : List (List V)} (h : EvU te σ H vs) (hr : EvAT tr σ H vss) : EvAT (tCons te tr) σ H (vs :: vss) := fun H1 e _ q =>
  h H1 e _ fun p H2 _ e2 hp => hr H2 (e.trans e2) _ fun rs H3 e3 ht => q (p :: rs) H3 (e2.trans e3) (.cons (e3 _ _ hp) ht)
/-- for a, b in [(..), (..)] where the turns leave what stood as it was -/
theorem s_forLT {ta : TA} {n : Nat} {tg : TGs} {vss : List (List V)} (h : EvAT ta σ H vss) (hz : vss.length ≤ 1000) (hn : ∀ vs ∈ vss, vs.length = n) (Pv : Nat → L2.St → Prop) (h0 : Pv 0 σ)
    (hs : ∀ i vs σ' H' (N : L2.St → Hp → Prop), vss[i]? = some vs → Pv i σ' → Ex H H' → (∀ σ3 H3, Pv (i + 1) σ3 → Ex H' H3 → N σ3 H3) → tg vs σ' H' fun σ2 H2 => tu { D with nx := N, ct := N, bk := D.nx } σ2 H2)
    (hd : ∀ σ' H', Pv vss.length σ' → Ex H H' → D.nx σ' H') : tFor (iList K (tLst ta)) (gTup K n tg) tu D σ H :=
  h H (Ex.refl H) _ fun rs H1 e1 ht => ⟨sz_of (by rw [List.length_map, ht.len]; omega), fun p np =>
    have e2 : Ex H1 (upd H1 p (.lst (rs.map V.ref))) := Ex.new np
    ⟨p, rfl, ⟨_, sq_of upd_same⟩, for_list (K := K) (a := p) (xs := rs.map V.ref) (fun i σ' H' => Pv i σ' ∧ Ex (upd H1 p (.lst (rs.map V.ref))) H') ⟨h0, Ex.refl _⟩ (fun i σ' H' _ q => sq_of (q.2 _ _ upd_same))
      (fun i x σ' H' hi q => by
        obtain ⟨a, vs, rfl, hv, ha⟩ := (ht.mono (e2.trans q.2)).get hi
        refine ⟨a, vs, rfl, st_of ha, hn vs (List.mem_of_getElem? hv), ?_⟩
        exact hs i vs σ' H' _ hv q.1 ((e1.trans e2).trans q.2) fun σ3 H3 p3 e3 => ⟨p3, q.2.trans e3⟩)
      (fun σ' H' q => hd σ' H' (by rw [List.length_map, ht.len] at q; exact q.1) ((e1.trans e2).trans q.2))⟩⟩
theorem q_forLT {ta : TA} {n : Nat} {tg : TGs} {vss : List (List V)} (h : EvAT ta σ H vss) (hz : vss.length ≤ 1000) (hn : ∀ vs ∈ vss, vs.length = n) (Pv : Nat → L2.St → Prop) (h0 : Pv 0 σ)
    (hs : ∀ i vs σ' H' (N : L2.St → Hp → Prop), vss[i]? = some vs → Pv i σ' → Ex H H' → (∀ σ3 H3, Pv (i + 1) σ3 → Ex H' H3 → N σ3 H3) → tg vs σ' H' fun σ2 H2 => tu { D with nx := N, ct := N, bk := tz D } σ2 H2)
    (hd : ∀ σ' H', Pv vss.length σ' → Ex H H' → tz D σ' H') : tSeq (tFor (iList K (tLst ta)) (gTup K n tg) tu) tz D σ H := s_forLT (D := { D with nx := tz D }) h hz hn Pv h0 hs hd
theorem rv_fdivN {a b : Nat} (h : 0 < b ∧ b < 1073741824) : RV (rI CDiv fun i j => .int (i / j)) (.int (a : Int)) (.int (b : Int)) H (.int ((a / b : Nat) : Int)) := by
  have e : (.int ((a / b : Nat) : Int) : V) = .int ((a : Int) / (b : Int)) := by rw [Int.natCast_ediv]
  rw [e]
  exact rv_I (C := CDiv) ⟨by omega, by omega⟩
theorem dec_ne {a b : Int} (h : a = b) : (!decide (V.int a = V.int b)) = false := by rw [h]; simp
end
/-! ### facts of the top -/
def cst (mg : Str → Option Value) (x : Str) : Value := (mg x).getD .none
theorem cst_int {mg : Str → Option Value} {x : Str} {i : Int} (h : ∃ t, mg x = some (.int i t)) : mg x = some (cst mg x) ∧ RelV (.int i) (cst mg x) := by
  obtain ⟨t, e⟩ := h
  have e2 : cst mg x = .int i t := by
    unfold cst
    rw [e] <;> rfl
  rw [e2]
  exact ⟨e, t, rfl⟩
theorem tup_ok {K : PySem.W.Frag} {x : Str} {l : List Nat} (h : He.tupB K x (l.map fun (n : Nat) => He.Dv.int (n : Int)) = true) (H : Hp) : SqT K H (He.ga K x) (l.map nV) := by
  have z := He.tupB_ok h H
  rw [List.map_map] at z
  exact z
def exc_b (K : PySem.W.Frag) (D : Addr) : Bool := He.eqO (PySem.W.findIn K (.ref D) "__getattribute__") (some (some (.builtin "BaseException.__getattribute__"))) && (He.eqO (PySem.W.findIn K (.ref D) "__getattr__") (some none) &&
  (decide (PySem.W.subIn K (.ref D) (.type "BaseException") = some true) && (PySem.W.hasDictIn K D && (He.eqO (PySem.W.findIn K (.ref D) "__class__") (some (some (.builtin "object.__class__"))) &&
  (He.eqO (PySem.W.specialIn K (.builtin "object.__class__") "__get__") (some (some (.builtin "getset_descriptor.__get__"))) && (decide (PySem.W.takesIn K (.builtin "object.__class__") = some true) && decide (PySem.W.mroIn K D (.type "object") = some true)))))))
theorem exc_bk {K : PySem.W.Frag} {D : Addr} (h : exc_b K D = true) : ExcC K D := by
  obtain ⟨h1, h⟩ := He.ba h
  obtain ⟨h2, h⟩ := He.ba h
  obtain ⟨h3, h⟩ := He.ba h
  obtain ⟨h4, h⟩ := He.ba h
  obtain ⟨h5, h⟩ := He.ba h
  obtain ⟨h6, h⟩ := He.ba h
  obtain ⟨h7, h8⟩ := He.ba h
  exact ⟨He.eqO_ok h1, He.eqO_ok h2, of_decide_eq_true h3, h4, He.eqO_ok h5, He.eqO_ok h6, of_decide_eq_true h7, of_decide_eq_true h8⟩
theorem all_at {l : List Bool} (h : l.all id = true) (i : Nat) {b : Bool} (e : l[i]? = some b) : b = true := List.all_eq_true.mp h b (List.mem_of_getElem? e)
/-- the def of that name stands there -/
abbrev FnA (K : PySem.W.Frag) (x : Str) (st : Stmt) (fd : FuncData) : Prop := FunD K x x (defArgs st) (defBody st) (defScope st) [] [] (He.ga K x) fd
def FnAt (K : PySem.W.Frag) (x : Str) (st : Stmt) : Prop := ∃ fd, FnA K x st fd
theorem fnat_eq {K : PySem.W.Frag} {x : Str} {st : Stmt} {fd fd2 : FuncData} (F : FnA K x st fd) (F2 : FnA K x st fd2) : fd = fd2 := by
  obtain ⟨oc, od, dV, kV, doc, pm, an, cdv, ct, osl, _, lk, _⟩ := F.ex
  obtain ⟨oc2, od2, dV2, kV2, doc2, pm2, an2, cdv2, ct2, osl2, _, lk2, _⟩ := F2.ex
  rw [lk] at lk2
  have e := Option.some.inj lk2
  injection e with e1 e2 e3 e4
  injection e3
/-- a def at a global's name keeps its promise and takes its arguments by place -/
def Okf (P : Program) (w : World) (K : PySem.W.Frag) (mg : Str → Option Value) (base : Heap) (CX : CXT) (k : Nat) (x : Str) (st : Stmt) (ps : List Str) (sp : Sp) : Prop :=
  ∃ fd, FnOk P w K mg base CX k (He.ga K x) fd ps sp ∧ Binds K fd ps [] ∧ FnA K x st fd
end Mx

set_option Elab.async false
set_option linter.all false
namespace Py
open Gf
/-- the item at a place, 0 beyond -/
abbrev at0 (p : List Nat) (k : Nat) : Nat := p.getD k 0
def Oc (p : List Nat) : Prop := ∀ k, at0 p k < 256
theorem at0_get {p : List Nat} {k : Nat} (h : k < p.length) : p[k]? = some (at0 p k) := by
  unfold at0
  rw [List.getD_eq_getElem?_getD, List.getElem?_eq_getElem h] <;> rfl
theorem at0_none {p : List Nat} {k : Nat} (h : p.length ≤ k) : at0 p k = 0 := by
  unfold at0
  rw [List.getD_eq_getElem?_getD, List.getElem?_eq_none h] <;> rfl
theorem at0_of {p : List Nat} {k v : Nat} (h : p[k]? = some v) : at0 p k = v := by
  unfold at0
  rw [List.getD_eq_getElem?_getD, h] <;> rfl
theorem oc_of {p : List Nat} (h : ∀ c ∈ p, c < 256) : Oc p := fun k => by
  by_cases q : k < p.length
  · exact h _ (List.mem_of_getElem? (at0_get q))
  · rw [at0_none (by omega)]
    decide
theorem Oc.mem {p : List Nat} (h : Oc p) : ∀ c ∈ p, c < 256 := fun c hc => by
  obtain ⟨k, hk, e⟩ := List.mem_iff_getElem.mp hc
  have := h k
  rw [at0_of (List.getElem?_eq_getElem hk), e] at this
  exact this
theorem oc_nil : Oc [] := fun k => by
  rw [at0_none (Nat.zero_le _)]
  decide
theorem Oc.append {p q : List Nat} (h : Oc p) (h2 : Oc q) : Oc (p ++ q) := oc_of fun c hc => by
  rcases List.mem_append.mp hc with z | z
  · exact h.mem c z
  · exact h2.mem c z
theorem Oc.take {p : List Nat} (h : Oc p) (n : Nat) : Oc (p.take n) := oc_of fun c hc => h.mem c (List.mem_of_mem_take hc)
theorem oc_zeros (n : Nat) : Oc (List.replicate n 0) := oc_of fun c hc => by
  rw [List.eq_of_mem_replicate hc]
  decide
theorem oc_map {f : Nat → Nat} (h : ∀ k, f k < 256) (n : Nat) : Oc ((List.range n).map f) := oc_of fun c hc => by
  obtain ⟨j, _, e⟩ := List.mem_map.mp hc
  rw [← e]
  exact h j
theorem at0_map {f : Nat → Nat} {n k : Nat} : at0 ((List.range n).map f) k = if k < n then f k else 0 := by
  by_cases h : k < n
  · rw [if_pos h, at0_of (Gf.range_at h)]
  · rw [if_neg h, at0_none (by simpa using h)]
/-- two lists of one length that agree at every place -/
theorem ext0 {p q : List Nat} (hl : p.length = q.length) (h : ∀ k, k < p.length → at0 p k = at0 q k) : p = q := by
  refine List.ext_getElem? fun k => ?_
  by_cases hk : k < p.length
  · rw [at0_get hk, at0_get (hl ▸ hk), h k hk]
  · rw [List.getElem?_eq_none (by omega), List.getElem?_eq_none (by omega)]
theorem self_map (p : List Nat) : p = (List.range p.length).map (at0 p) := ext0 (by simp) fun k hk => by rw [at0_map, if_pos hk]
/-! ### the length without the zeros at the end -/
def tlen : List Nat → Nat
  | [] => 0
  | c :: p => if tlen p = 0 then (if c = 0 then 0 else 1) else tlen p + 1
def trim (p : List Nat) : List Nat := p.take (tlen p)
theorem tlen_le : ∀ p, tlen p ≤ p.length
  | [] => Nat.le_refl _
  | c :: p => by
    have := tlen_le p
    unfold tlen
    split
    · split
      · exact Nat.zero_le _
      · simp
    · simp
      omega
theorem tlen_zero : ∀ (p : List Nat) (k : Nat), tlen p ≤ k → at0 p k = 0
  | [], k, _ => at0_none (Nat.zero_le _)
  | c :: p, k, h => by
    unfold tlen at h
    by_cases q : tlen p = 0
    · rw [if_pos q] at h
      cases k with
      | zero =>
        by_cases z : c = 0
        · exact z
        · rw [if_neg z] at h
          omega
      | succ k => exact tlen_zero p k (by omega)
    · rw [if_neg q] at h
      cases k with
      | zero => omega
      | succ k => exact tlen_zero p k (by omega)
theorem tlen_last : ∀ p : List Nat, tlen p = 0 ∨ ¬ at0 p (tlen p - 1) = 0
  | [] => .inl rfl
  | c :: p => by
    by_cases q : tlen p = 0
    · by_cases z : c = 0
      · exact .inl (by unfold tlen; rw [if_pos q, if_pos z])
      · refine .inr ?_
        have e : tlen (c :: p) = 1 := by
          unfold tlen
          rw [if_pos q, if_neg z]
        rw [e]
        exact z
    · refine .inr ?_
      have e : tlen (c :: p) = tlen p + 1 := by
        show (if tlen p = 0 then _ else _) = _
        rw [if_neg q]
      rw [e]
      have h := (tlen_last p).resolve_left q
      have e2 : tlen p + 1 - 1 = (tlen p - 1) + 1 := by omega
      rw [e2]
      exact h
theorem tlen_eq {p : List Nat} {m : Nat} (h : ∀ k, m ≤ k → at0 p k = 0) (h2 : m = 0 ∨ ¬ at0 p (m - 1) = 0) : tlen p = m := by
  have a : tlen p ≤ m := by
    rcases tlen_last p with q | q
    · omega
    · by_cases z : tlen p ≤ m
      · exact z
      · exact absurd (h _ (by omega)) q
  have b : m ≤ tlen p := by
    rcases h2 with q | q
    · omega
    · by_cases z : m ≤ tlen p
      · exact z
      · exact absurd (tlen_zero p _ (by omega)) q
  omega
theorem trim_length (p : List Nat) : (trim p).length = tlen p := by
  unfold trim
  rw [List.length_take]
  have := tlen_le p
  omega
/-! ### the value at a place -/
def horner (x : Nat) : List Nat → Nat
  | [] => 0
  | c :: p => gm (horner x p) x ^^^ c
theorem horner_lt {x : Nat} : ∀ {p : List Nat}, Oc p → horner x p < 256
  | [], _ => show (0 : Nat) < 256 by decide
  | c :: p, h => xor_lt (gm_lt _ _) (h 0)
theorem Oc.tail {c : Nat} {p : List Nat} (h : Oc (c :: p)) : Oc p := fun k => h (k + 1)
theorem Oc.drop {p : List Nat} (h : Oc p) (n : Nat) : Oc (p.drop n) := oc_of fun c hc => h.mem c (List.mem_of_mem_drop hc)
def vstep (x : Nat) (s : Nat × Nat) (c : Nat) : Nat × Nat := (s.1 ^^^ gm c s.2, gm s.2 x)
theorem vfold {x : Nat} (hx : x < 256) : ∀ (p : List Nat) (s : Nat × Nat), Oc p → s.2 < 256 → (p.foldl (vstep x) s).1 = s.1 ^^^ gm s.2 (horner x p)
  | [], s, _, _ => by
    show s.1 = s.1 ^^^ gm s.2 0
    rw [gm_zero (.inr rfl), Nat.xor_zero]
  | c :: p, s, h, hs => by
    show (p.foldl (vstep x) (vstep x s c)).1 = _
    rw [vfold hx p _ h.tail (gm_lt _ _)]
    show (s.1 ^^^ gm c s.2) ^^^ gm (gm s.2 x) (horner x p) = s.1 ^^^ gm s.2 (gm (horner x p) x ^^^ c)
    rw [gm_xor (b := gm (horner x p) x) (c := c) (gm_lt _ _) (h 0), gm_assoc, gm_comm x, gm_comm c, Nat.xor_assoc, Nat.xor_comm (gm s.2 c)]
theorem vfold_eq {x : Nat} (hx : x < 256) {p : List Nat} (h : Oc p) : (p.foldl (vstep x) (0, 1)).1 = horner x p := by
  rw [vfold hx p _ h (by decide)]
  show 0 ^^^ gm 1 (horner x p) = _
  rw [Nat.zero_xor, gm_comm, gm_one (horner_lt h)]
theorem vfold_lt {x : Nat} : ∀ (p : List Nat) (s : Nat × Nat), s.1 < 256 → s.2 < 256 → (p.foldl (vstep x) s).1 < 256 ∧ (p.foldl (vstep x) s).2 < 256
  | [], s, h1, h2 => ⟨h1, h2⟩
  | c :: p, s, h1, h2 => vfold_lt p _ (xor_lt h1 (gm_lt _ _)) (gm_lt _ _)
/-! ### sums and products -/
def mx (a b : Nat) : Nat := if b > a then b else a
def sumL (p q : List Nat) : List Nat := (List.range (mx p.length q.length)).map fun k => at0 p k ^^^ at0 q k
def acc (p q : List Nat) : Nat → Nat → Nat
  | 0, _ => 0
  | j + 1, k => acc p q j k ^^^ (if j ≤ k then gm (at0 p j) (at0 q (k - j)) else 0)
theorem acc_lt (p q : List Nat) : ∀ j k, acc p q j k < 256
  | 0, _ => show (0 : Nat) < 256 by decide
  | j + 1, k => by
    unfold acc
    refine xor_lt (acc_lt p q j k) ?_
    split
    · exact gm_lt _ _
    · decide
def prodL (p q : List Nat) : List Nat := (List.range (p.length + q.length)).map (acc p q p.length)
theorem set_map {f : Nat → Nat} {n k v : Nat} : ((List.range n).map f).set k v = (List.range n).map fun t => if t = k then v else f t := by
  refine List.ext_getElem? fun t => ?_
  rw [List.getElem?_set, List.length_map, List.length_range, List.getElem?_map, List.getElem?_map]
  by_cases h : t < n
  · rw [List.getElem?_range h]
    by_cases q : k = t
    · subst q
      rw [if_pos rfl, if_pos h]
      simp
    · rw [if_neg q]
      simp [show ¬ t = k from fun z => q z.symm]
  · rw [List.getElem?_eq_none (l := List.range n) (by simpa using h)]
    by_cases q : k = t
    · subst q
      rw [if_pos rfl, if_neg h]
      rfl
    · rw [if_neg q]
      rfl
theorem slice_map {f : Nat → Nat} {n a w : Nat} {ys : List Nat} (hy : ys.length = w) (h : a + w ≤ n) :
    ((List.range n).map f).take a ++ ys ++ ((List.range n).map f).drop (a + w) = (List.range n).map fun t => if a ≤ t ∧ t < a + w then at0 ys (t - a) else f t := by
  refine ext0 (by simp; omega) fun t ht => ?_
  have hn : t < n := by
    simp at ht
    omega
  rw [at0_map, if_pos hn]
  by_cases h1 : t < a
  · rw [if_neg (by omega)]
    refine at0_of ?_
    rw [List.append_assoc, List.getElem?_append_left (by simp; omega), List.getElem?_take_of_lt h1]
    exact Gf.range_at hn
  · by_cases h2 : t < a + w
    · rw [if_pos (by omega)]
      refine at0_of ?_
      rw [List.getElem?_append_left (by simp; omega), List.getElem?_append_right (by simp; omega)]
      have e : t - ((List.range n).map f |>.take a).length = t - a := by simp; omega
      rw [e]
      exact at0_get (by omega)
    · rw [if_neg (by omega)]
      refine at0_of ?_
      rw [List.getElem?_append_right (by simp; omega), List.getElem?_drop]
      have e : a + w + (t - (((List.range n).map f |>.take a) ++ ys).length) = t := by simp; omega
      rw [e]
      exact Gf.range_at hn
/-! ### the product's sum, turned round -/
def xs (f : Nat → Nat) : Nat → Nat
  | 0 => 0
  | n + 1 => xs f n ^^^ f n
theorem acc_xs (p q : List Nat) (k : Nat) : ∀ n, acc p q n k = xs (fun j => if j ≤ k then gm (at0 p j) (at0 q (k - j)) else 0) n
  | 0 => rfl
  | n + 1 => by
    show acc p q n k ^^^ _ = xs _ n ^^^ _
    rw [acc_xs p q k n]
theorem xs_more {f : Nat → Nat} {n : Nat} (h : ∀ j, n ≤ j → f j = 0) : ∀ d, xs f (n + d) = xs f n
  | 0 => rfl
  | d + 1 => by
    show xs f (n + d) ^^^ f (n + d) = _
    rw [xs_more h d, h _ (by omega), Nat.xor_zero]
theorem xs_congr {f g : Nat → Nat} : ∀ {n : Nat}, (∀ j, j < n → f j = g j) → xs f n = xs g n
  | 0, _ => rfl
  | n + 1, h => by
    show xs f n ^^^ f n = xs g n ^^^ g n
    rw [xs_congr fun j hj => h j (by omega), h n (by omega)]
theorem xs_front (f : Nat → Nat) : ∀ n, xs f (n + 1) = f 0 ^^^ xs (fun j => f (j + 1)) n
  | 0 => by
    show 0 ^^^ f 0 = f 0 ^^^ 0
    rw [Nat.zero_xor, Nat.xor_zero]
  | n + 1 => by
    show xs f (n + 1) ^^^ f (n + 1) = f 0 ^^^ (xs (fun j => f (j + 1)) n ^^^ f (n + 1))
    rw [xs_front f n, Nat.xor_assoc]
theorem xs_rev : ∀ (n : Nat) (f : Nat → Nat), xs (fun j => f (n - j)) (n + 1) = xs f (n + 1)
  | 0, _ => rfl
  | n + 1, f => by
    show xs (fun j => f (n + 1 - j)) (n + 1) ^^^ f (n + 1 - (n + 1)) = _
    rw [Nat.sub_self, xs_front f (n + 1), ← xs_rev n fun j => f (j + 1), Nat.xor_comm]
    congr 1
    exact xs_congr fun j hj => by
      have e : n + 1 - j = n - j + 1 := by omega
      rw [e]
theorem acc_full (p q : List Nat) (k : Nat) : acc p q p.length k = xs (fun j => gm (at0 p j) (at0 q (k - j))) (k + 1) := by
  rw [acc_xs]
  have e : xs (fun j => gm (at0 p j) (at0 q (k - j))) (k + 1) = xs (fun j => if j ≤ k then gm (at0 p j) (at0 q (k - j)) else 0) (k + 1) := xs_congr fun j hj => by rw [if_pos (by omega)]
  rw [e]
  by_cases h : p.length ≤ k + 1
  · have z : k + 1 = p.length + (k + 1 - p.length) := by omega
    rw [z]
    refine (xs_more (fun j hj => ?_) _).symm
    rw [at0_none hj, gm_zero (.inl rfl)]
    split <;> rfl
  · have z : p.length = k + 1 + (p.length - (k + 1)) := by omega
    rw [z]
    refine xs_more (fun j hj => ?_) _
    rw [if_neg (by omega)]
theorem acc_comm (p q : List Nat) (k : Nat) : acc p q p.length k = acc q p q.length k := by
  rw [acc_full, acc_full, ← xs_rev]
  exact xs_congr fun j hj => by
    have e : k - (k - j) = j := by omega
    rw [e, gm_comm]
theorem prod_comm (p q : List Nat) : prodL p q = prodL q p := by
  unfold prodL
  rw [Nat.add_comm p.length]
  exact List.map_congr_left fun k _ => acc_comm p q k
theorem oc_trim {p : List Nat} (h : Oc p) : Oc (trim p) := h.take _
theorem oc_sum {p q : List Nat} (h : Oc p) (h2 : Oc q) : Oc (sumL p q) := oc_map (fun k => xor_lt (h k) (h2 k)) _
theorem oc_prod (p q : List Nat) : Oc (prodL p q) := oc_map (fun k => acc_lt p q _ k) _
end Py

set_option Elab.async false
set_option linter.all false
set_option maxRecDepth 100000
set_option maxHeartbeats 4000000
namespace Mx
open PySem PySem.Spec PyProof.Rows L2 Evl
section
variable {X : Cx}
theorem op_mul_bb : OpR X (binaryOp .Mult) (fun x y H Q => ∃ a b : Bool, x = .bl a ∧ y = .bl b ∧ Q (.int (b2i a * b2i b)) H) := by
  intro pins s σ H x y v u Q I rx ry h
  obtain ⟨a, b, rfl, rfl, q⟩ := h
  cases rx
  cases ry
  exact mul_bool ⟨.int (b2i a * b2i b), H, I.tok _, ⟨_, rfl⟩, q⟩
theorem op_mul_bi : OpR X (binaryOp .Mult) (fun x y H Q => ∃ (a : Bool) (b : Int), x = .bl a ∧ y = .int b ∧ Q (.int (b2i a * b)) H) := by
  intro pins s σ H x y v u Q I rx ry h
  obtain ⟨a, b, rfl, rfl, q⟩ := h
  cases rx
  obtain ⟨t, rfl⟩ := ry
  exact PySem.IntBool.mul_bool_int ⟨.int (b2i a * b), H, I.tok _, ⟨_, rfl⟩, q⟩
section
variable {K : PySem.W.Frag}
/-! the rules that name the written part, with its name given: within a comprehension's block the context is another one, the part is not -/
theorem pt_truthK {a : Expr} {ta : TE} (h : X.K = K) (ha : PE X a ta) (he : ∀ whole, isTrue a X.env whole = (do let v ← whole; standAt a.pos; holding [v] (truthy v))) :
    PT X a (fun σ H Q => ta σ H fun x H' => ∃ k, TruV K x H' k ∧ Q k H') := h ▸ pt_truth ha he
theorem pg_tupK {es : List Expr} {k : Nat} {t : TGs} {n : Nat} {pos : Pos} (hK : X.K = K) (hc : X.calm = true) (h : PGs X es t)
    (hn : (assignEach es X.env).length = n := by rfl) (hst : (assignEach es X.env).findIdx? (·.1) = none := by rfl) : PG X (.Tuple es k pos) (gTup K n t) := hK ▸ pg_tup hc h hn hst
theorem ix_tupK (h : X.K = K) : IxR X (rIxT K) := h ▸ ix_tup
theorem ix_listK (h : X.K = K) : IxR X (rIxL K) := h ▸ ix_list
theorem sl_listK (h : X.K = K) : SlR X (rSlL K) := h ▸ sl_list
theorem sl_tupK (h : X.K = K) : SlR X (rSlT K) := h ▸ sl_tup
theorem call_isiK' (h : X.K = K) : CallR X (.builtin "isinstance") (rIsi K) := h ▸ call_isi
theorem call_lenK (h : X.K = K) : CallR X (.builtin "len") (fun xs H Q => ∃ p ys, xs = [.ref p] ∧ (SqL K H p ys ∨ SqT K H p ys) ∧ Q (.int ys.length) H) := h ▸ call_len_seq
theorem call_list_ofK (h : X.K = K) : CallR X (.type "list") (fun xs H Q => ∃ p ys, xs = [.ref p] ∧ (SqL K H p ys ∨ SqT K H p ys) ∧ ∀ l, H l = none → Q (.ref l) (upd H l (.lst ys))) := h ▸ call_list_of
theorem op_eqDK (h : X.K = K) (hu : X.A.units + 64 < cLine) : OpR X (compareOp .Eq) (rEqD K) := h ▸ op_eqD hu
theorem op_neDK (h : X.K = K) (hu : X.A.units + 64 < cLine) : OpR X (compareOp .NotEq) (rNeD K) := h ▸ op_neD hu
end
/-- o[lo:hi] = another list, within the bounds -/
def gSetSl (to : TE) (tl th : TO) : TG := fun v σ H Q => to σ H fun o H1 => tl σ H1 fun l H2 => th σ H2 fun u H3 => ∃ (p b : Addr) (xs ys : List V) (a c : Int), o = .ref p ∧ v = .ref b ∧ l = some a ∧ u = some c ∧
  H3 p = some (.lst xs) ∧ H3 b = some (.lst ys) ∧ p ≠ b ∧ 0 ≤ a ∧ a ≤ c ∧ c ≤ xs.length ∧ xs.length + ys.length ≤ sizeLine ∧ Q σ (upd H3 p (.lst (xs.take a.toNat ++ ys ++ xs.drop c.toNat)))
theorem pg_setSl {o : Expr} {lo hi : Option Expr} {to : TE} {tl th : TO} {p2 pos : Pos} (ho : PE X o to) (hl : PO X lo tl) (hu : PO X hi th)
    (ha : ∀ v, assign (.Subscript o (.Slice lo hi none p2) pos) X.env v = (do
      let ov ← holding [v] (eval o X.env)
      let iv ← holding [v, ov] (eval (.Slice lo hi none p2) X.env)
      standAt pos
      holding [v, ov, iv] (setItem ov iv v)
      release [iv, v, ov] []) := by intro _; rfl) : PG X (.Subscript o (.Slice lo hi none p2) pos) (gSetSl to tl th) := by
  refine ⟨fun pins s σ H v u Q I r h => ?_⟩
  rw [ha]
  refine wpAny_bind (wpAny_holding (thn (ho.run pins s σ H _ I h) fun ov s1 ⟨x, H1, I1, r1, q1⟩ => ?_))
  refine wpAny_bind (wpAny_holding ?_)
  refine wpAny_Slice (thn (hl.run pins s1 σ H1 _ I1 q1) fun vl s2 ⟨l, H2, I2, pl, q2⟩ => thn (hu.run pins s2 σ H2 _ I2 q2) fun vu s3 ⟨w, H3, I3, pu, q3⟩ => ?_)
  rw [evalPart_none]
  refine wpAny_pure ?_
  have I4 : Inv X pins σ H3 { s3 with heap := s3.heap.push { cls := .type "slice", data := .fields #[vl, vu, .none] } } := I3.kept (t' := s3.toks) fun b ob q => Heap.get?_push_of_some _ q
  obtain ⟨p, b, xs, ys, a, c, rfl, rfl, rfl, rfl, hp, hb, hne, h0, hac, hc, hz, q4⟩ := q3
  cases r1
  cases r
  cases pl with
  | int i t =>
    cases pu with
    | int j t2 =>
      refine wpAny_bind (wpAny_standAt (wpAny_bind (wpAny_holding (set_slice I4 hp hb hne (Heap.IsSliceOf.new ..) ⟨t, rfl⟩ ⟨t2, rfl⟩ h0 hac hc hz fun s' I' => ?_))))
      exact wpAny_release ⟨σ, _, I', q4⟩
end
/-! ### more of what evaluates to what: lists -/
section
variable {K : PySem.W.Frag} {σ : L2.St} {H H' : Hp} {ta tb te tx : TE} {t u : TT} {x y z v : V} {r : R2} {xs ys zs : List V} {p q : Addr}
theorem rv_bb {a b : Bool} : RV (fun x y H Q => ∃ a b : Bool, x = .bl a ∧ y = .bl b ∧ Q (.int (b2i a * b2i b)) H) (.bl a) (.bl b) H (.int (b2i a * b2i b)) := fun H1 _ _ q => ⟨a, b, rfl, rfl, q H1 (Ex.refl H1)⟩
theorem rv_bi {a : Bool} {b : Int} : RV (fun x y H Q => ∃ (a : Bool) (b : Int), x = .bl a ∧ y = .int b ∧ Q (.int (b2i a * b)) H) (.bl a) (.int b) H (.int (b2i a * b)) := fun H1 _ _ q => ⟨a, b, rfl, rfl, q H1 (Ex.refl H1)⟩
/-- list(a list) -/
theorem el_listL (ha : Ev ta σ H (.ref p)) (h : SqL K H p xs) : EvL (tCB (fun xs H Q => ∃ p ys, xs = [.ref p] ∧ (SqL K H p ys ∨ SqT K H p ys) ∧ ∀ l, H l = none → Q (.ref l) (upd H l (.lst ys))) (tCons ta tNil)) σ H xs := el_list ha h
theorem el_listT (ha : Ev ta σ H (.ref p)) (h : SqT K H p xs) : EvL (tCB (fun xs H Q => ∃ p ys, xs = [.ref p] ∧ (SqL K H p ys ∨ SqT K H p ys) ∧ ∀ l, H l = none → Q (.ref l) (upd H l (.lst ys))) (tCons ta tNil)) σ H xs := fun H1 e Q q =>
  ha H1 e _ fun H2 e2 => ⟨p, xs, rfl, Or.inr (ex_t (e.trans e2) h), fun l hl => q l _ (fresh_back e2 hl) (e2.trans (Ex.new hl)) upd_same⟩
theorem el_listN (ha : EvL ta σ H xs) : EvL (tCB (fun xs H Q => ∃ p ys, xs = [.ref p] ∧ (SqL K H p ys ∨ SqT K H p ys) ∧ ∀ l, H l = none → Q (.ref l) (upd H l (.lst ys))) (tCons ta tNil)) σ H xs := fun H1 e Q q =>
  ha H1 e _ fun p H2 np e2 hp => ⟨p, xs, rfl, Or.inl (sq_of hp), fun l hl => q l _ (fresh_back e2 hl) (e2.trans (Ex.new hl)) upd_same⟩
theorem ev_lenN2 (ha : EvL ta σ H xs) : Ev (tCB (fun xs H Q => ∃ p ys, xs = [.ref p] ∧ (SqL K H p ys ∨ SqT K H p ys) ∧ Q (.int ys.length) H) (tCons ta tNil)) σ H (.int (xs.length : Int)) := ev_lenN ha
/-- a new list + a new list, a list that stands + a new one -/
theorem el_catLL (ha : EvL ta σ H xs) (hb : EvL tb σ H ys) (hz : xs.length + ys.length ≤ 100000) : EvL (tOp rCat ta tb) σ H (xs ++ ys) := fun H1 e Q k =>
  ha H1 e _ fun p H2 np e2 hp => hb H2 (e.trans e2) _ fun q H3 nq e3 hq => ⟨p, q, xs, ys, rfl, rfl, e3 p _ hp, hq, sz_of hz, fun l hl => k l _ (fresh_back (e2.trans e3) hl) ((e2.trans e3).trans (Ex.new hl)) upd_same⟩
theorem el_catVL (ha : Ev ta σ H (.ref p)) (h : H p = some (.lst xs)) (hb : EvL tb σ H ys) (hz : xs.length + ys.length ≤ 100000) : EvL (tOp rCat ta tb) σ H (xs ++ ys) := fun H1 e Q k =>
  ha H1 e _ fun H2 e2 => hb H2 (e.trans e2) _ fun q H3 nq e3 hq => ⟨p, q, xs, ys, rfl, rfl, e3 p _ (e2 p _ (e p _ h)), hq, sz_of hz, fun l hl => k l _ (fresh_back (e2.trans e3) hl) ((e2.trans e3).trans (Ex.new hl)) upd_same⟩
theorem el_catLV (ha : EvL ta σ H xs) (hb : Ev tb σ H (.ref q)) (h : H q = some (.lst ys)) (hz : xs.length + ys.length ≤ 100000) : EvL (tOp rCat ta tb) σ H (xs ++ ys) := fun H1 e Q k =>
  ha H1 e _ fun p H2 np e2 hp => hb H2 (e.trans e2) _ fun H3 e3 => ⟨p, q, xs, ys, rfl, rfl, e3 p _ hp, e3 q _ (e2 q _ (e q _ h)), sz_of hz, fun l hl => k l _ (fresh_back (e2.trans e3) hl) ((e2.trans e3).trans (Ex.new hl)) upd_same⟩
theorem el_catVV (ha : Ev ta σ H (.ref p)) (h : H p = some (.lst xs)) (hb : Ev tb σ H (.ref q)) (h2 : H q = some (.lst ys)) (hz : xs.length + ys.length ≤ 100000) : EvL (tOp rCat ta tb) σ H (xs ++ ys) := fun H1 e Q k =>
  ha H1 e _ fun H2 e2 => hb H2 (e.trans e2) _ fun H3 e3 => ⟨p, q, xs, ys, rfl, rfl, e3 p _ (e2 p _ (e p _ h)), e3 q _ (e2 q _ (e q _ h2)), sz_of hz, fun l hl => k l _ (fresh_back (e2.trans e3) hl) ((e2.trans e3).trans (Ex.new hl)) upd_same⟩
theorem el_is (h : EvL te σ H xs) (e : xs = ys) : EvL te σ H ys := e ▸ h
theorem flat_one (n : Nat) : (List.replicate n [v]).flatten = List.replicate n v := by
  induction n with
  | zero => rfl
  | succ n ih => rw [List.replicate_succ, List.flatten_cons, ih, List.replicate_succ] <;> rfl
/-- [c] * n -/
theorem el_rep {n : Nat} (ha : EvL ta σ H [v]) (hb : Ev tb σ H (.int (n : Int))) (hz : n ≤ 100000) : EvL (tOp rRep ta tb) σ H (List.replicate n v) := fun H1 e Q k =>
  ha H1 e _ fun p H2 np e2 hp => hb H2 (e.trans e2) _ fun H3 e3 => ⟨p, (n : Int), [v], rfl, rfl, e3 p _ hp, by omega, by omega, by rw [Int.toNat_natCast]; show 1 * n ≤ sizeLine; rw [Nat.one_mul]; exact sz_of hz, fun l hl => by
    rw [Int.toNat_natCast, flat_one]
    exact k l _ (fresh_back (e2.trans e3) hl) ((e2.trans e3).trans (Ex.new hl)) upd_same⟩
theorem map_rep {n : Nat} : List.replicate n (V.int 0) = (List.replicate n 0).map nV := by rw [List.map_replicate] <;> rfl
/-- xs[:n] -/
theorem cut_take {n : Nat} (h : n ≤ xs.length) : cutV xs none (some (n : Int)) = xs.take n := by
  unfold cutV
  rw [HT.sIx_none, HT.sIx_nat, Nat.sub_zero, List.drop_zero, Nat.min_eq_left h]
/-- xs[a:b] -/
theorem cut_mid {a b : Nat} (h : a ≤ b) (h2 : b ≤ xs.length) : cutV xs (some (a : Int)) (some (b : Int)) = (xs.drop a).take (b - a) := by
  unfold cutV
  rw [HT.sIx_nat, HT.sIx_nat, Nat.min_eq_left h2, Nat.min_eq_left (by omega)]
theorem ev_isiL {n : String} {b : Bool} (ha : Ev ta σ H (.ref p)) (hp : H p = some (.lst xs)) (hb : Ev tb σ H (.ty n)) (h : kitB "list" n = some b) : Ev (tCB (rIsi K) (tCons ta (tCons tb tNil))) σ H (.bl b) :=
  ev_isi ha hb (ClsV.ty n) (fun H1 e => .base (.lst (e _ _ hp))) (kit_ty h)
theorem ev_isiT {n : String} {b : Bool} (ha : Ev ta σ H (.ref p)) (hp : H p = some (.tup xs)) (hb : Ev tb σ H (.ty n)) (h : kitB "tuple" n = some b) : Ev (tCB (rIsi K) (tCons ta (tCons tb tNil))) σ H (.bl b) :=
  ev_isi ha hb (ClsV.ty n) (fun H1 e => .base (.tup (e _ _ hp))) (kit_ty h)
/-! ### two data that are one -/
mutual
theorem dp_mono (e : Ex H H') : ∀ (d : PyData) (v : V), Dp K H v d → Dp K H' v d
  | _, _, .non => .non
  | _, _, .bl b => .bl b
  | _, _, .int i => .int i
  | _, _, .str x => .str x
  | .list ds, _, .lst h a => .lst (ex_l e h) (dp_monoAll e ds _ a)
  | .tuple ds, _, .tup h a => .tup (ex_t e h) (dp_monoAll e ds _ a)
theorem dp_monoAll (e : Ex H H') : ∀ (ds : List PyData) (vs : List V), DpAll K H vs ds → DpAll K H' vs ds
  | _, _, .nil => .nil
  | d :: ds, v :: vs, .cons h a => .cons (dp_mono e d v h) (dp_monoAll e ds vs a)
end
theorem shaped_can {d : PyData} (h : SeqAt.shaped d = true) : PyData.eqv d d = true := SeqAt.eqv_refl d (SeqAt.canLay_of_shaped h)
theorem rv_eqD {d : PyData} (h : Dp K H x d) (h2 : Dp K H y d) (hs : SeqAt.shaped d = true) : RV (rEqD K) x y H (.bl true) := fun H1 e Q q =>
  ⟨d, d, dp_mono e _ _ h, dp_mono e _ _ h2, hs, hs, by rw [shaped_can hs]; exact q H1 (Ex.refl H1)⟩
theorem rv_neD {d : PyData} (h : Dp K H x d) (h2 : Dp K H y d) (hs : SeqAt.shaped d = true) : RV (rNeD K) x y H (.bl false) := fun H1 e Q q =>
  ⟨d, d, dp_mono e _ _ h, dp_mono e _ _ h2, hs, hs, by rw [shaped_can hs]; exact q H1 (Ex.refl H1)⟩
def dN (n : Nat) : PyData := .int (n : Int)
theorem dp_nats : ∀ l : List Nat, DpAll K H (l.map nV) (l.map dN)
  | [] => .nil
  | n :: l => .cons (.int (n : Int)) (dp_nats l)
theorem dp_list {l : List Nat} (h : SqL K H p (l.map nV)) : Dp K H (.ref p) (.list (l.map dN)) := .lst h (dp_nats l)
theorem lay_nats : ∀ l : List Nat, PyData.canLayAll0 (l.map dN) = true ∧ PyData.depthAll (l.map dN) = 0
  | [] => ⟨rfl, rfl⟩
  | n :: l => by
    have ih := lay_nats l
    refine ⟨?_, ?_⟩
    · show (PyData.canLay0 (dN n) && PyData.canLayAll0 (l.map dN)) = true
      rw [ih.1] <;> rfl
    · show max (PyData.depth (dN n)) (PyData.depthAll (l.map dN)) = 0
      rw [ih.2] <;> rfl
theorem shaped_nats (l : List Nat) : SeqAt.shaped (.list (l.map dN)) = true := by
  unfold SeqAt.shaped
  have h1 : PyData.canLay0 (.list (l.map dN)) = true := (lay_nats l).1
  have h2 : PyData.depth (.list (l.map dN)) = 1 := by
    show PyData.depthAll (l.map dN) + 1 = 1
    rw [(lay_nats l).2]
  rw [h1, h2] <;> rfl
theorem rv_eqN {l : List Nat} (h : SqL K H p (l.map nV)) (h2 : SqL K H q (l.map nV)) : RV (rEqD K) (.ref p) (.ref q) H (.bl true) := rv_eqD (dp_list h) (dp_list h2) (shaped_nats l)
theorem rv_neN {l : List Nat} (h : SqL K H p (l.map nV)) (h2 : SqL K H q (l.map nV)) : RV (rNeD K) (.ref p) (.ref q) H (.bl false) := rv_neD (dp_list h) (dp_list h2) (shaped_nats l)
/-! ### comprehensions without a test: the list that comes is told by its items -/
def Cz (H : Hp) (zs : List V) (Dl : Addr) (i : Nat) (H' : Hp) : Prop := H Dl = none ∧ Ex H H' ∧ H' Dl = some (.lst (zs.take i))
theorem cz_turn {σ2 : L2.St} {Dl : Addr} {i : Nat} (hp : Cz H zs Dl i H') (hi : zs[i]? = some z) (hz : zs.length ≤ 40000) (he : Ev te σ2 H z) :
    tYes σ2 H' fun b H3 => if b = true then te σ2 H3 fun y H4 => ∃ acc, H4 Dl = some (.lst acc) ∧ acc.length < sizeLine ∧ Cz H zs Dl (i + 1) (upd H4 Dl (.lst (acc ++ [y]))) else Cz H zs Dl (i + 1) H3 := by
  obtain ⟨p1, p2, p3⟩ := hp
  show te σ2 H' fun y H4 => ∃ acc, H4 Dl = some (.lst acc) ∧ acc.length < sizeLine ∧ Cz H zs Dl (i + 1) (upd H4 Dl (.lst (acc ++ [y])))
  refine he H' p2 _ fun H4 e4 => ⟨zs.take i, e4 Dl _ p3, sz_lt (by rw [List.length_take]; omega), p1, Ex.mut (p2.trans e4) p1, ?_⟩
  rw [upd_same, List.take_add_one, hi] <;> rfl
theorem el_zR {ta : TA} {j : Nat} {vs : List Nat} {n : Nat} (h : EvA ta σ H [.int (n : Int)]) (hz : zs.length = n) (hn : n ≤ 40000) (hw : ∀ x, wipe ((wipe σ vs).set j (some x)) vs = wipe σ vs)
    (he : ∀ (i : Nat) (z : V) H1, Ex H H1 → zs[i]? = some z → Ev te ((wipe σ vs).set j (some (.int (i : Int)))) H1 z) : EvL (tLc (iRng1 ta) (gName j) tYes te vs) σ H zs := fun H0 e Q q => h H0 e _ fun H1 e1 => ⟨(n : Int), rfl, by omega, by omega, fun Dl hD =>
  lc_range (lo := 0) (n := (n : Int).toNat) (Cz H1 zs Dl) ⟨hD, Ex.new hD, by rw [upd_same, List.take_zero]⟩ (fun i H' hi p => by
    have e0 : (0 : Int) + (i : Int) = (i : Int) := Int.zero_add _
    have hl : i < zs.length := by omega
    show wipe ((wipe σ vs).set j (some (.int ((0 : Int) + (i : Int))))) vs = wipe σ vs ∧ tYes ((wipe σ vs).set j (some (.int ((0 : Int) + (i : Int))))) H' fun b H3 => if b = true then te ((wipe σ vs).set j (some (.int ((0 : Int) + (i : Int))))) H3 fun y H4 => ∃ acc, H4 Dl = some (.lst acc) ∧ acc.length < sizeLine ∧ Cz H1 zs Dl (i + 1) (upd H4 Dl (.lst (acc ++ [y]))) else Cz H1 zs Dl (i + 1) H3
    rw [e0]
    exact ⟨hw _, cz_turn p (List.getElem?_eq_getElem hl) (by omega) (he i _ H1 (e.trans e1) (List.getElem?_eq_getElem hl))⟩) (fun H' p => q Dl H' (fresh_back e1 p.1) (e1.trans p.2.1) (by rw [p.2.2, List.take_of_length_le (by omega)]))⟩
theorem el_zL {a : Addr} {tl : TE} {j : Nat} {vs : List Nat} (h : Ev tl σ H (.ref a)) (hx : SqL K H a xs) (hz : zs.length = xs.length) (hn : xs.length ≤ 40000) (hw : ∀ x, wipe ((wipe σ vs).set j (some x)) vs = wipe σ vs)
    (he : ∀ (i : Nat) (x z : V) H1, Ex H H1 → xs[i]? = some x → zs[i]? = some z → Ev te ((wipe σ vs).set j (some x)) H1 z) : EvL (tLc (iList K tl) (gName j) tYes te vs) σ H zs := fun H0 e Q q => h H0 e _ fun H1 e1 => ⟨a, rfl, ⟨xs, ex_l (e.trans e1) hx⟩, fun Dl hD =>
  lc_list (xs := xs) (Cz H1 zs Dl) ⟨hD, Ex.new hD, by rw [upd_same, List.take_zero]⟩ (fun i H' _ p => ex_l ((e.trans e1).trans p.2.1) hx) (fun i x H' hi p => by
    have hl : i < zs.length := by rw [hz]; exact (List.getElem?_eq_some_iff.mp hi).1
    exact ⟨hw x, cz_turn p (List.getElem?_eq_getElem hl) (by omega) (he i x _ H1 (e.trans e1) hi (List.getElem?_eq_getElem hl))⟩) (fun H' p => q Dl H' (fresh_back e1 p.1) (e1.trans p.2.1) (by rw [p.2.2, List.take_of_length_le (by omega)]))⟩
theorem el_zNL {tl : TE} {j : Nat} {vs : List Nat} (h : EvL tl σ H xs) (hz : zs.length = xs.length) (hn : xs.length ≤ 40000) (hw : ∀ x, wipe ((wipe σ vs).set j (some x)) vs = wipe σ vs)
    (he : ∀ (i : Nat) (x z : V) H1, Ex H H1 → xs[i]? = some x → zs[i]? = some z → Ev te ((wipe σ vs).set j (some x)) H1 z) : EvL (tLc (iList K tl) (gName j) tYes te vs) σ H zs := fun H0 e Q q => h H0 e _ fun a H1 na e1 hx => ⟨a, rfl, ⟨xs, sq_of hx⟩, fun Dl hD =>
  lc_list (xs := xs) (Cz H1 zs Dl) ⟨hD, Ex.new hD, by rw [upd_same, List.take_zero]⟩ (fun i H' _ p => ex_l p.2.1 (sq_of hx)) (fun i x H' hi p => by
    have hl : i < zs.length := by rw [hz]; exact (List.getElem?_eq_some_iff.mp hi).1
    exact ⟨hw x, cz_turn p (List.getElem?_eq_getElem hl) (by omega) (he i x _ H1 (e.trans e1) hi (List.getElem?_eq_getElem hl))⟩) (fun H' p => q Dl H' (fresh_back e1 p.1) (e1.trans p.2.1) (by rw [p.2.2, List.take_of_length_le (by omega)]))⟩
/-- two lists as a call's arguments -/
def Ev2 (K : PySem.W.Frag) (ta : TA) (σ : L2.St) (H : Hp) (xs ys : List V) : Prop := ∀ H1, Ex H H1 → ∀ Q : List V → Hp → Prop, (∀ a b H2, Ex H1 H2 → SqL K H2 a xs → SqL K H2 b ys → Q [.ref a, .ref b] H2) → ta σ H1 Q
theorem ev2_VV (ha : Ev ta σ H (.ref p)) (h : SqL K H p xs) (hb : Ev tb σ H (.ref q)) (h2 : SqL K H q ys) : Ev2 K (tCons ta (tCons tb tNil)) σ H xs ys := fun H1 e _ k =>
  ha H1 e _ fun H2 e2 => hb H2 (e.trans e2) _ fun H3 e3 => k _ _ H3 (e2.trans e3) (ex_l ((e.trans e2).trans e3) h) (ex_l ((e.trans e2).trans e3) h2)
theorem ev2_VL (ha : Ev ta σ H (.ref p)) (h : SqL K H p xs) (hb : EvL tb σ H ys) : Ev2 K (tCons ta (tCons tb tNil)) σ H xs ys := fun H1 e _ k =>
  ha H1 e _ fun H2 e2 => hb H2 (e.trans e2) _ fun q H3 _ e3 hq => k _ _ H3 (e2.trans e3) (ex_l ((e.trans e2).trans e3) h) (sq_of hq)
theorem el_zZ {ta : TA} {j1 j2 : Nat} {vs : List Nat} (h : Ev2 K ta σ H xs ys) (hz : zs.length = min xs.length ys.length) (hn : zs.length ≤ 40000) (hw : ∀ x y, wipe (((wipe σ vs).set j1 (some x)).set j2 (some y)) vs = wipe σ vs)
    (he : ∀ (i : Nat) (x y z : V) H1, Ex H H1 → xs[i]? = some x → ys[i]? = some y → zs[i]? = some z → Ev te (((wipe σ vs).set j1 (some x)).set j2 (some y)) H1 z) :
    EvL (tLc (iZip K ta) (gTup K 2 (gCons (gName j1) (gCons (gName j2) gNil))) tYes te vs) σ H zs := fun H0 e Q q => h H0 e _ fun a b H1 e1 ha hb => ⟨a, b, xs, ys, rfl, ha, hb, fun Dl hD =>
  lc_it (walk_zip (xs := xs) (ys := ys) hz) (Cz H1 zs Dl) ⟨hD, Ex.new hD, by rw [upd_same, List.take_zero]⟩ (fun i H' _ p => ⟨ex_l p.2.1 ha, ex_l p.2.1 hb⟩) (fun i v H' H2 hi p yy => by
    obtain ⟨T, x, y, rfl, hT, rfl, hx, hy⟩ := yy
    refine ⟨T, [x, y], rfl, st_of upd_same, rfl, x, [y], rfl, y, [], rfl, rfl, ?_⟩
    have p2 : Cz H1 zs Dl i (upd H' T (.tup [x, y])) := ⟨p.1, p.2.1.trans (Ex.new hT), by rw [upd_ne (ne_of_none p.2.2 hT)]; exact p.2.2⟩
    exact ⟨hw x y, cz_turn p2 (List.getElem?_eq_getElem hi) hn (he i x y _ H1 (e.trans e1) hx hy (List.getElem?_eq_getElem hi))⟩) (fun H' p => q Dl H' (fresh_back e1 p.1) (e1.trans p.2.1) (by rw [p.2.2, List.take_of_length_le (by omega)]))⟩
/-! ### loops over enumerate, reversed -/
variable {D : Ends} {tu tw tz : TS} {g : TG}
theorem s_forEn {ta : TA} {a : Addr} {j1 j2 : Nat} (h : EvA ta σ H [.ref a]) (hx : SqL K H a xs) (Pv : Nat → L2.St → Hp → Prop) (h0 : ∀ H1, Ex H H1 → Pv 0 σ H1) (hl : ∀ i σ' H', i ≤ xs.length → Pv i σ' H' → SqL K H' a xs)
    (hs : ∀ (i : Nat) x σ' H' H2, xs[i]? = some x → Pv i σ' H' → Ex H' H2 → tu { D with nx := Pv (i + 1), ct := Pv (i + 1), bk := D.nx } ((σ'.set j1 (some (.int (i : Int)))).set j2 (some x)) H2) (hd : ∀ σ' H', Pv xs.length σ' H' → D.nx σ' H') :
    tFor (iEnum K ta) (gTup K 2 (gCons (gName j1) (gCons (gName j2) gNil))) tu D σ H :=
  h H (Ex.refl H) _ fun H1 e => ⟨a, xs, rfl, ex_l e hx, for_it (walk_enum (xs := xs)) Pv (h0 H1 e) hl (fun i v σ' H' H2 hi p yy => by
    obtain ⟨T, x, y, rfl, hT, rfl, hx2, hy⟩ := yy
    obtain rfl : (.int (i : Int) : V) = x := Option.some.inj hx2
    exact ⟨T, [_, y], rfl, st_of upd_same, rfl, _, [y], rfl, y, [], rfl, rfl, hs i y σ' H' _ hy p (Ex.new hT)⟩) hd⟩
theorem s_forRev {ta : TA} {a : Addr} {j : Nat} (h : EvA ta σ H [.ref a]) (hx : SqL K H a xs) (Pv : Nat → L2.St → Hp → Prop) (h0 : ∀ H1, Ex H H1 → Pv 0 σ H1) (hl : ∀ i σ' H', Pv i σ' H' → SqL K H' a xs)
    (hs : ∀ (i : Nat) x σ' H', i < xs.length → xs[xs.length - 1 - i]? = some x → Pv i σ' H' → tu { D with nx := Pv (i + 1), ct := Pv (i + 1), bk := D.nx } (σ'.set j (some x)) H') (hd : ∀ σ' H', Pv xs.length σ' H' → D.nx σ' H') :
    tFor (iRev K ta) (gName j) tu D σ H :=
  h H (Ex.refl H) _ fun H1 e => ⟨a, xs, rfl, ex_l e hx, RT.for_Itv Pv (h0 H1 e) hl (fun i x σ' H' hi hx2 p => hs i x σ' H' hi hx2 p) hd⟩
theorem q_forEn {ta : TA} {a : Addr} {j1 j2 : Nat} (h : EvA ta σ H [.ref a]) (hx : SqL K H a xs) (Pv : Nat → L2.St → Hp → Prop) (h0 : ∀ H1, Ex H H1 → Pv 0 σ H1) (hl : ∀ i σ' H', i ≤ xs.length → Pv i σ' H' → SqL K H' a xs)
    (hs : ∀ (i : Nat) x σ' H' H2, xs[i]? = some x → Pv i σ' H' → Ex H' H2 → tu { D with nx := Pv (i + 1), ct := Pv (i + 1), bk := tz D } ((σ'.set j1 (some (.int (i : Int)))).set j2 (some x)) H2) (hd : ∀ σ' H', Pv xs.length σ' H' → tz D σ' H') :
    tSeq (tFor (iEnum K ta) (gTup K 2 (gCons (gName j1) (gCons (gName j2) gNil))) tu) tz D σ H := s_forEn (D := { D with nx := tz D }) h hx Pv h0 hl hs hd
theorem q_forRev {ta : TA} {a : Addr} {j : Nat} (h : EvA ta σ H [.ref a]) (hx : SqL K H a xs) (Pv : Nat → L2.St → Hp → Prop) (h0 : ∀ H1, Ex H H1 → Pv 0 σ H1) (hl : ∀ i σ' H', Pv i σ' H' → SqL K H' a xs)
    (hs : ∀ (i : Nat) x σ' H', i < xs.length → xs[xs.length - 1 - i]? = some x → Pv i σ' H' → tu { D with nx := Pv (i + 1), ct := Pv (i + 1), bk := tz D } (σ'.set j (some x)) H') (hd : ∀ σ' H', Pv xs.length σ' H' → tz D σ' H') :
    tSeq (tFor (iRev K ta) (gName j) tu) tz D σ H := s_forRev (D := { D with nx := tz D }) h hx Pv h0 hl hs hd
/-- xs[lo:hi] = a new list -/
theorem s_setSl {l : Addr} {tl th : TO} {a c : Nat} (hl : H l = some (.lst xs)) (h : EvL te σ H ys) (ho : Ev ta σ H (.ref l)) (h1 : EvO tl σ H (some (a : Int))) (h2 : EvO th σ H (some (c : Int))) (hac : a ≤ c) (hc : c ≤ xs.length) (hz : xs.length + ys.length ≤ 100000)
    (k : ∀ p H1, H p = none → Ex H H1 → D.nx σ (upd H1 l (.lst (xs.take a ++ ys ++ xs.drop c)))) : tAsg te (gSetSl ta tl th) D σ H := h H (Ex.refl H) _ fun p H1 np e1 hp =>
  ho H1 e1 _ fun H2 e2 => h1 H2 (e1.trans e2) _ fun H3 e3 => h2 H3 ((e1.trans e2).trans e3) _ fun H4 e4 => ⟨l, p, xs, ys, (a : Int), (c : Int), rfl, rfl, rfl, rfl, (((e1.trans e2).trans e3).trans e4) l _ hl, (e4 p _ (e3 p _ (e2 p _ hp))),
    (ne_of_none hl np), by omega, by omega, by omega, sz_of hz, by
    rw [Int.toNat_natCast, Int.toNat_natCast]
    exact k p H4 np (((e1.trans e2).trans e3).trans e4)⟩
/-! ### calls whose arguments are new lists -/
theorem ev_call1L {sp : Sp} {E : XK} (h1 : EvL ta σ H xs) (hs : ∀ p H1, Ex H H1 → H1 p = some (.lst xs) → SpV sp ([.ref p] ++ []) H1 z) : Ev (tCall sp [] E (tCons ta tNil)) σ H z := fun H1 e Q k =>
  h1 H1 e _ fun p H2 _ e2 hp => hs p H2 (e.trans e2) hp H2 (Ex.refl _) Q (fun H3 e3 => k H3 (e2.trans e3)) E
theorem el_call1L {sp : Sp} {E : XK} (h1 : EvL ta σ H xs) (hs : ∀ p H1, Ex H H1 → H1 p = some (.lst xs) → SpL sp ([.ref p] ++ []) H1 zs) : EvL (tCall sp [] E (tCons ta tNil)) σ H zs := fun H1 e Q k =>
  h1 H1 e _ fun p H2 _ e2 hp => hs p H2 (e.trans e2) hp H2 (Ex.refl _) Q (fun p2 H3 n3 e3 h3 => k p2 H3 (fresh_back e2 n3) (e2.trans e3) h3) E
theorem ev_call2LL {sp : Sp} {E : XK} (h1 : EvL ta σ H xs) (h2 : EvL tb σ H ys) (hs : ∀ p q H1, Ex H H1 → H1 p = some (.lst xs) → H1 q = some (.lst ys) → SpV sp ([.ref p, .ref q] ++ []) H1 z) : Ev (tCall sp [] E (tCons ta (tCons tb tNil))) σ H z := fun H1 e Q k =>
  h1 H1 e _ fun p H2 _ e2 hp => h2 H2 (e.trans e2) _ fun q H3 _ e3 hq => hs p q H3 ((e.trans e2).trans e3) (e3 p _ hp) hq H3 (Ex.refl _) Q (fun H4 e4 => k H4 ((e2.trans e3).trans e4)) E
theorem ev_call2VL {sp : Sp} {E : XK} (h1 : Ev ta σ H x) (h2 : EvL tb σ H ys) (hs : ∀ q H1, Ex H H1 → H1 q = some (.lst ys) → SpV sp ([x, .ref q] ++ []) H1 z) : Ev (tCall sp [] E (tCons ta (tCons tb tNil))) σ H z := fun H1 e Q k =>
  h1 H1 e _ fun H2 e2 => h2 H2 (e.trans e2) _ fun q H3 _ e3 hq => hs q H3 ((e.trans e2).trans e3) hq H3 (Ex.refl _) Q (fun H4 e4 => k H4 ((e2.trans e3).trans e4)) E
theorem el_call3LVV {tc : TE} {sp : Sp} {E : XK} (h1 : EvL ta σ H xs) (h2 : Ev tb σ H x) (h3 : Ev tc σ H y) (hs : ∀ p H1, Ex H H1 → H1 p = some (.lst xs) → SpL sp ([.ref p, x, y] ++ []) H1 zs) : EvL (tCall sp [] E (tCons ta (tCons tb (tCons tc tNil)))) σ H zs := fun H1 e Q k =>
  h1 H1 e _ fun p H2 _ e2 hp => h2 H2 (e.trans e2) _ fun H3 e3 => h3 H3 ((e.trans e2).trans e3) _ fun H4 e4 => hs p H4 (((e.trans e2).trans e3).trans e4) (e4 p _ (e3 p _ hp)) H4 (Ex.refl _) Q (fun p2 H5 n5 e5 h5 => k p2 H5 (fresh_back ((e2.trans e3).trans e4) n5) (((e2.trans e3).trans e4).trans e5) h5) E
/-- a list of numbers that is tracked -/
abbrev LN (H : Hp) (p : Addr) (l : List Nat) : Prop := H p = some (.lst (l.map nV))
theorem LN.up {l : List Nat} (h : LN H p l) (e : Ex H H') : LN H' p l := e p _ h
theorem nat_get {l : List Nat} {k : Nat} (h : k < l.length) : (l.map nV)[k]? = some (.int ((Py.at0 l k : Nat) : Int)) := by rw [List.getElem?_map, Py.at0_get h] <;> rfl
theorem nat_of_get {l : List Nat} {k : Nat} {v : V} (h : (l.map nV)[k]? = some v) : k < l.length ∧ v = .int ((Py.at0 l k : Nat) : Int) := by
  have hk : k < l.length := by simpa using (List.getElem?_eq_some_iff.mp h).1
  rw [nat_get hk] at h
  exact ⟨hk, (Option.some.inj h).symm⟩
theorem len_map {l : List Nat} : (l.map nV).length = l.length := List.length_map _
theorem set_nat {l : List Nat} {k n : Nat} : (l.map nV).set k (.int (n : Int)) = (l.set k n).map nV := by rw [List.map_set]
theorem dec_self {x : V} : (!decide (x = x)) = false := by simp
theorem q_parLL {i j : Nat} (h1 : EvL ta σ H xs) (h2 : EvL tb σ H ys) (k : ∀ p q H1, H p = none → H q = none → Ex H H1 → H1 p = some (.lst xs) → H1 q = some (.lst ys) → tz D ((σ.set i (some (.ref p))).set j (some (.ref q))) H1) :
    tSeq (tPar i j (tCons ta (tCons tb tNil))) tz D σ H := h1 H (Ex.refl H) _ fun p H1 np e1 hp => h2 H1 e1 _ fun q H2 nq e2 hq => ⟨_, _, rfl, k p q H2 np (fresh_back e1 nq) (e1.trans e2) (e2 p _ hp) hq⟩
theorem splice_nat {l m : List Nat} {a c : Nat} : (l.map nV).take a ++ m.map nV ++ (l.map nV).drop c = (l.take a ++ m ++ l.drop c).map nV := by rw [List.map_append, List.map_append, List.map_take, List.map_drop]
theorem b2i_or (b : Bool) : b2i b = 0 ∨ b2i b = 1 := by cases b <;> simp [b2i]
end
end Mx

set_option Elab.async false
set_option linter.all false
namespace Py
open Gf
theorem at0_set {q : List Nat} {s f k : Nat} (h : s < q.length) : at0 (q.set s f) k = if k = s then f else at0 q k := by
  unfold at0
  rw [List.getD_eq_getElem?_getD, List.getD_eq_getElem?_getD, List.getElem?_set]
  by_cases e : s = k
  · subst e
    rw [if_pos rfl, if_pos h, if_pos rfl] <;> rfl
  · rw [if_neg e, if_neg (fun z => e z.symm)]
theorem at0_app {a b : List Nat} {k : Nat} : at0 (a ++ b) k = if k < a.length then at0 a k else at0 b (k - a.length) := by
  unfold at0
  rw [List.getD_eq_getElem?_getD]
  by_cases h : k < a.length
  · rw [if_pos h, List.getElem?_append_left h, List.getD_eq_getElem?_getD]
  · rw [if_neg h, List.getElem?_append_right (by omega), List.getD_eq_getElem?_getD]
theorem at0_take {a : List Nat} {n k : Nat} : at0 (a.take n) k = if k < n then at0 a k else 0 := by
  unfold at0
  rw [List.getD_eq_getElem?_getD, List.getD_eq_getElem?_getD]
  by_cases h : k < n
  · rw [if_pos h, List.getElem?_take_of_lt h]
  · rw [if_neg h, List.getElem?_eq_none (by rw [List.length_take]; omega)] <;> rfl
theorem at0_drop {a : List Nat} {n k : Nat} : at0 (a.drop n) k = at0 a (n + k) := by
  unfold at0
  rw [List.getD_eq_getElem?_getD, List.getD_eq_getElem?_getD, List.getElem?_drop]
theorem at0_trim (p : List Nat) (k : Nat) : at0 (trim p) k = at0 p k := by
  unfold trim
  rw [at0_take]
  by_cases h : k < tlen p
  · rw [if_pos h]
  · rw [if_neg h, tlen_zero p k (by omega)]
theorem at0_zip {a d : List Nat} {f k : Nat} (h : a.length = d.length) : at0 (List.zipWith (fun x y => x ^^^ gm f y) a d) k = at0 a k ^^^ gm f (at0 d k) := by
  by_cases hk : k < a.length
  · refine at0_of ?_
    rw [List.getElem?_zipWith, at0_get hk, at0_get (h ▸ hk)] <;> rfl
  · rw [at0_none (by rw [List.length_zipWith]; omega), at0_none (show a.length ≤ k by omega), at0_none (show d.length ≤ k by omega), gm_zero (.inr rfl)] <;> rfl
/-- what a step of the division leaves of the rest -/
theorem at0_splice {r d : List Nat} {s f k : Nat} (h : s + d.length ≤ r.length) :
    at0 (r.take s ++ List.zipWith (fun x y => x ^^^ gm f y) ((r.drop s).take d.length) d ++ r.drop (s + d.length)) k = at0 r k ^^^ (if s ≤ k then gm f (at0 d (k - s)) else 0) := by
  have l1 : (r.take s).length = s := by
    rw [List.length_take]
    omega
  have l2 : ((r.drop s).take d.length).length = d.length := by
    rw [List.length_take, List.length_drop]
    omega
  have l3 : (r.take s ++ List.zipWith (fun x y => x ^^^ gm f y) ((r.drop s).take d.length) d).length = s + d.length := by
    rw [List.length_append, l1, List.length_zipWith, l2, Nat.min_self]
  rw [at0_app, l3]
  by_cases c : k < s + d.length
  · rw [if_pos c, at0_app, l1]
    by_cases c2 : k < s
    · rw [if_pos c2, at0_take, if_pos c2, if_neg (by omega), Nat.xor_zero]
    · rw [if_neg c2, at0_zip l2, at0_take, if_pos (by omega), at0_drop, if_pos (by omega)]
      have e : s + (k - s) = k := by omega
      rw [e]
  · rw [if_neg c, at0_drop, if_pos (by omega), at0_none (show d.length ≤ k - s by omega), gm_zero (.inr rfl), Nat.xor_zero]
    have e : s + d.length + (k - (s + d.length)) = k := by omega
    rw [e]
theorem splice_len {r d : List Nat} {s f : Nat} (h : s + d.length ≤ r.length) :
    (r.take s ++ List.zipWith (fun x y => x ^^^ gm f y) ((r.drop s).take d.length) d ++ r.drop (s + d.length)).length = r.length := by
  simp
  omega
theorem acc_set {q d : List Nat} {s f : Nat} (h : s < q.length) (h0 : at0 q s = 0) (k : Nat) : ∀ n, acc (q.set s f) d n k = acc q d n k ^^^ (if s < n ∧ s ≤ k then gm f (at0 d (k - s)) else 0)
  | 0 => by
    rw [if_neg (by omega), Nat.xor_zero]
    rfl
  | n + 1 => by
    show acc (q.set s f) d n k ^^^ (if n ≤ k then gm (at0 (q.set s f) n) (at0 d (k - n)) else 0) = (acc q d n k ^^^ (if n ≤ k then gm (at0 q n) (at0 d (k - n)) else 0)) ^^^ _
    rw [acc_set h h0 k n, at0_set h]
    by_cases e : n = s
    · subst e
      rw [if_neg (show ¬ (n < n ∧ n ≤ k) by omega), if_pos rfl, h0, Nat.xor_zero]
      by_cases c : n ≤ k
      · rw [if_pos c, if_pos c, if_pos (show n < n + 1 ∧ n ≤ k from ⟨by omega, c⟩), gm_zero (a := 0) (.inl rfl), Nat.xor_zero]
      · rw [if_neg c, if_neg c, if_neg (show ¬ (n < n + 1 ∧ n ≤ k) from fun z => c z.2), Nat.xor_zero, Nat.xor_zero]
    · rw [if_neg e]
      by_cases c : s < n ∧ s ≤ k
      · rw [if_pos c, if_pos (show s < n + 1 ∧ s ≤ k from ⟨by omega, c.2⟩), Nat.xor_assoc, Nat.xor_comm (gm f _), Nat.xor_assoc]
      · rw [if_neg c, if_neg (show ¬ (s < n + 1 ∧ s ≤ k) by omega), Nat.xor_zero, Nat.xor_zero]
theorem acc_len {p q : List Nat} {n : Nat} (h : p.length ≤ n) (k : Nat) : acc p q n k = acc p q p.length k := by
  rw [acc_xs, acc_xs]
  have e : n = p.length + (n - p.length) := by omega
  rw [e]
  refine xs_more (fun j hj => ?_) _
  rw [at0_none hj, gm_zero (.inl rfl)]
  split <;> rfl
theorem acc_congr {p q p' q' : List Nat} (h : ∀ j, at0 p j = at0 p' j) (h2 : ∀ j, at0 q j = at0 q' j) (k : Nat) : ∀ n, acc p q n k = acc p' q' n k
  | 0 => rfl
  | n + 1 => by
    show acc p q n k ^^^ _ = acc p' q' n k ^^^ _
    rw [acc_congr h h2 k n, h, h2]
theorem acc_trim {p q : List Nat} (k : Nat) : acc (trim p) q (trim p).length k = acc p q p.length k := by
  rw [← acc_len (p := trim p) (n := p.length) (by rw [trim_length]; exact tlen_le p)]
  exact acc_congr (at0_trim p) (fun _ => rfl) k _
/-- the state of the division: n steps in all, i done -/
structure DivInv (l d : List Nat) (n i : Nat) (q r : List Nat) : Prop where
  ql : q.length = n
  rl : r.length = tlen l
  oq : Oc q
  or : Oc r
  eq : ∀ k, at0 l k = acc q d n k ^^^ at0 r k
  rz : ∀ k, n - i + d.length ≤ k + 1 → at0 r k = 0
  qz : ∀ j, j < n - i → at0 q j = 0
theorem div_start {l d : List Nat} {n : Nat} (ho : Oc l) (hd : 0 < d.length) (hn : (n : Int) = if (0 : Int) < (tlen l : Int) - d.length + 1 then (tlen l : Int) - d.length + 1 else 0) : DivInv l d n 0 (List.replicate n 0) (trim l) := by
  refine ⟨List.length_replicate, trim_length l, oc_zeros n, ho.take _, fun k => ?_, fun k hk => ?_, fun j _ => ?_⟩
  · have e : ∀ m, acc (List.replicate n 0) d m k = 0 := fun m => by
      induction m with
      | zero => rfl
      | succ m ih =>
        show acc _ d m k ^^^ _ = 0
        have z : at0 (List.replicate n 0) m = 0 := by
          unfold at0
          rw [List.getD_eq_getElem?_getD, List.getElem?_replicate]
          split <;> rfl
        rw [ih, z, gm_zero (.inl rfl)]
        split <;> rfl
    rw [e, Nat.zero_xor, at0_trim]
  · rw [at0_trim]
    refine tlen_zero l k ?_
    split at hn <;> omega
  · unfold at0
    rw [List.getD_eq_getElem?_getD, List.getElem?_replicate]
    split <;> rfl
theorem div_step {l d q r : List Nat} {n i : Nat} (h : DivInv l d n i q r) (hi : i < n) (od : Oc d) (hd : 0 < d.length) (hl : ¬ at0 d (d.length - 1) = 0) (hr : n - 1 - i + d.length ≤ r.length) :
    DivInv l d n (i + 1) (q.set (n - 1 - i) (gm (at0 r (n - 1 - i + d.length - 1)) (gi (at0 d (d.length - 1)))))
      (r.take (n - 1 - i) ++ List.zipWith (fun x y => x ^^^ gm (gm (at0 r (n - 1 - i + d.length - 1)) (gi (at0 d (d.length - 1)))) y) ((r.drop (n - 1 - i)).take d.length) d ++ r.drop (n - 1 - i + d.length)) := by
  have hs : n - 1 - i < q.length := by
    rw [h.ql]
    omega
  have hq0 : at0 q (n - 1 - i) = 0 := h.qz _ (by omega)
  refine ⟨by rw [List.length_set, h.ql], by rw [splice_len hr, h.rl], oc_of fun c hc => ?_, fun k => ?_, fun k => ?_, fun k hk => ?_, fun j hj => ?_⟩
  · rcases List.mem_or_eq_of_mem_set hc with z | z
    · exact h.oq.mem c z
    · rw [z]
      exact gm_lt _ _
  · rw [at0_splice hr]
    refine xor_lt (h.or k) ?_
    split
    · exact gm_lt _ _
    · decide
  · rw [at0_splice hr, acc_set hs hq0, h.eq k]
    have e : (n - 1 - i < n ∧ n - 1 - i ≤ k) = (n - 1 - i ≤ k) := by
      apply propext
      constructor
      · exact fun z => z.2
      · exact fun z => ⟨by omega, z⟩
    simp only [e]
    rw [Nat.xor_assoc, Nat.xor_comm (at0 r k), ← Nat.xor_assoc (ite _ _ _), Nat.xor_self, Nat.zero_xor]
  · rw [at0_splice hr]
    by_cases c : k = n - 1 - i + d.length - 1
    · have e : k - (n - 1 - i) = d.length - 1 := by omega
      rw [if_pos (by omega), e, ← c, gm_assoc, gm_comm (gi _), gm_gi (od _) hl, gm_one (h.or k), Nat.xor_self]
    · rw [h.rz k (by omega), if_pos (by omega), at0_none (show d.length ≤ k - (n - 1 - i) by omega), gm_zero (.inr rfl)]
      rfl
  · rw [at0_set hs, if_neg (by omega)]
    exact h.qz j (by omega)
/-- what the division gives -/
structure DivEnd (l m x y : List Nat) : Prop where
  ox : Oc x
  oy : Oc y
  tx : tlen x = x.length
  ty : tlen y = y.length
  lx : x.length ≤ l.length
  ly : y.length ≤ l.length
  lt : y.length + 1 ≤ tlen m
  eq : ∀ k, at0 l k = acc x m x.length k ^^^ at0 y k
theorem tlen_trim (p : List Nat) : tlen (trim p) = (trim p).length := by
  rw [trim_length]
  refine tlen_eq (fun k hk => ?_) ?_
  · rw [at0_trim]
    exact tlen_zero p k hk
  · rw [at0_trim]
    exact tlen_last p
theorem div_end {l m q r : List Nat} {n : Nat} (h : DivInv l (trim m) n n q r) (hm : ¬ tlen m = 0) (hn : n ≤ l.length) : DivEnd l m (trim q) (trim r) := by
  refine ⟨oc_trim h.oq, oc_trim h.or, tlen_trim _, tlen_trim _, ?_, ?_, ?_, fun k => ?_⟩
  · rw [trim_length]
    have := tlen_le q
    have := h.ql
    omega
  · rw [trim_length]
    have := tlen_le r
    have := h.rl
    have := tlen_le l
    omega
  · rw [trim_length]
    rcases tlen_last r with z | z
    · omega
    · by_cases c : tlen r + 1 ≤ tlen m
      · exact c
      · exact absurd (h.rz (tlen r - 1) (by rw [Nat.sub_self, trim_length]; omega)) z
  · rw [acc_trim, at0_trim, h.eq k, h.ql]
    congr 1
    exact acc_congr (fun _ => rfl) (at0_trim m) k n
end Py

set_option Elab.async false
set_option linter.all false
set_option maxRecDepth 100000
set_option maxHeartbeats 4000000
namespace Mx
open PySem PySem.Spec PyProof.Rows L2 Evl
section
variable {K : PySem.W.Frag} {σ : L2.St} {H H' : Hp} {ta tb te tx : TE} {t u : TT} {x y z v : V} {r : R2} {xs ys zs : List V} {p q : Addr} {D : Ends} {tu tw tz : TS} {g : TG}
theorem et_truL (h : Ev te σ H (.ref p)) (hs : SqL K H p xs) : EvT (fun σ H Q => te σ H fun x H1 => ∃ k, TruV K x H1 k ∧ Q k H1) σ H (!xs.isEmpty) := fun H1 e Q q =>
  h H1 e _ fun H2 e2 => ⟨_, .inl ⟨xs, ex_l (e.trans e2) hs, rfl⟩, q H2 e2⟩
/-- return (a new list, a new list) -/
theorem s_retTLL (h1 : EvL ta σ H xs) (h2 : EvL tb σ H ys) (k : ∀ t p q H1, H t = none → Ex H H1 → H1 t = some (.tup [.ref p, .ref q]) → H1 p = some (.lst xs) → H1 q = some (.lst ys) → D.rt (.ref t) H1) : tRet (tTup (tCons ta (tCons tb tNil))) D σ H :=
  h1 H (Ex.refl H) _ fun p H1 np e1 hp => h2 H1 e1 _ fun q H2 nq e2 hq => ⟨by show 2 ≤ sizeLine; decide, fun t ht => k t p q _ (fresh_back (e1.trans e2) ht) ((e1.trans e2).trans (Ex.new ht)) upd_same (Ex.new ht p _ (e2 p _ hp)) (Ex.new ht q _ hq)⟩
/-- for i in reversed(range(n)) -/
theorem s_forRevR {j n : Nat} (h : Ev te σ H (.int (n : Int))) (hn : n ≤ 100000) (Pv : Nat → L2.St → Hp → Prop) (h0 : ∀ H1, Ex H H1 → Pv 0 σ H1)
    (hs : ∀ (i : Nat) σ' H', i < n → Pv i σ' H' → tu { D with nx := Pv (i + 1), ct := Pv (i + 1), bk := D.nx } (σ'.set j (some (.int ((n - 1 - i : Nat) : Int)))) H') (hd : ∀ σ' H', Pv n σ' H' → D.nx σ' H') :
    tFor (iRevR (tRg1 te)) (gName j) tu D σ H :=
  h H (Ex.refl H) _ fun H1 e => ⟨(n : Int), rfl, by omega, by omega, by omega, by omega, by
    have e0 : ((n : Int) - 0).toNat = n := by omega
    rw [e0]
    exact for_it walk_rangeC Pv (h0 H1 e) (fun _ _ _ _ _ => trivial) (fun i x σ' H' H2 hi p yy => by
      obtain ⟨rfl, rfl⟩ := yy
      have e1 : (0 : Int) + ((n : Nat) : Int) - 1 + ((i : Nat) : Int) * (-1) = ((n - 1 - i : Nat) : Int) := by omega
      show tu _ (σ'.set j (some (.int ((0 : Int) + ((n : Nat) : Int) - 1 + ((i : Nat) : Int) * (-1))))) _
      rw [e1]
      exact hs i σ' _ hi p) hd⟩
theorem q_forRevR {j n : Nat} (h : Ev te σ H (.int (n : Int))) (hn : n ≤ 100000) (Pv : Nat → L2.St → Hp → Prop) (h0 : ∀ H1, Ex H H1 → Pv 0 σ H1)
    (hs : ∀ (i : Nat) σ' H', i < n → Pv i σ' H' → tu { D with nx := Pv (i + 1), ct := Pv (i + 1), bk := tz D } (σ'.set j (some (.int ((n - 1 - i : Nat) : Int)))) H') (hd : ∀ σ' H', Pv n σ' H' → tz D σ' H') :
    tSeq (tFor (iRevR (tRg1 te)) (gName j) tu) tz D σ H := s_forRevR (D := { D with nx := tz D }) h hn Pv h0 hs hd
theorem q_setL2 {l : Addr} {l2 : List Nat} {j n : Nat} (hl : H l = some (.lst (l2.map nV))) (h : Ev te σ H (.int (n : Int))) (ho : Ev ta σ H (.ref l)) (hi : Ev tb σ H (.int (j : Int))) (hj : j < l2.length) (k : ∀ H1, Ex H H1 → tz D σ (upd H1 l (.lst ((l2.set j n).map nV)))) :
    tSeq (tAsg te (gSub ta tb rSetL)) tz D σ H := q_setL hl h ho hi (by rw [len_map]; exact hj) (by rw [set_nat]; exact k)
theorem last_neg {l : List Nat} (h : 0 < l.length) : atI (l.map nV) (-1) = some (.int ((Py.at0 l (l.length - 1) : Nat) : Int)) := by
  have e : l = l.take (l.length - 1) ++ [Py.at0 l (l.length - 1)] := by
    refine Py.ext0 (by rw [List.length_append, List.length_take, List.length_singleton]; omega) fun k hk => ?_
    rw [Py.at0_app, List.length_take, Py.at0_take]
    by_cases c : k < l.length - 1
    · rw [if_pos (by omega), if_pos c]
    · have ek : k = l.length - 1 := by omega
      rw [if_neg (by omega), ek]
      have e0 : l.length - 1 - min (l.length - 1) l.length = 0 := by omega
      rw [e0]
      rfl
  rw [e, List.map_append]
  rw [← e]
  exact atI_last _ _
end
end Mx

set_option Elab.async false
set_option linter.all false
namespace Py
open Gf
/-! ### the value as a sum of powers -/
theorem gp_add {x : Nat} (hx : x < 256) (n : Nat) : gm (gp x n) x = gp x (n + 1) := (gp_succ hx n).symm
theorem xs_lt {f : Nat → Nat} (h : ∀ k, f k < 256) : ∀ n, xs f n < 256
  | 0 => show (0 : Nat) < 256 by decide
  | n + 1 => xor_lt (xs_lt h n) (h n)
theorem xs_gm {f : Nat → Nat} {c : Nat} (h : ∀ k, f k < 256) : ∀ n, xs (fun k => gm (f k) c) n = gm (xs f n) c
  | 0 => (gm_zero (.inl rfl)).symm
  | n + 1 => by
    show xs (fun k => gm (f k) c) n ^^^ gm (f n) c = gm (xs f n ^^^ f n) c
    rw [xs_gm h n, xor_gm (xs_lt h n) (h n)]
theorem xs_xor (f g : Nat → Nat) : ∀ n, xs (fun k => f k ^^^ g k) n = xs f n ^^^ xs g n
  | 0 => (Nat.zero_xor 0).symm
  | n + 1 => by
    show xs (fun k => f k ^^^ g k) n ^^^ (f n ^^^ g n) = (xs f n ^^^ f n) ^^^ (xs g n ^^^ g n)
    rw [xs_xor f g n, Nat.xor_assoc, Nat.xor_assoc, ← Nat.xor_assoc (xs g n), Nat.xor_comm (xs g n) (f n), Nat.xor_assoc (f n)]
def ev (x : Nat) (p : List Nat) (n : Nat) : Nat := xs (fun k => gm (at0 p k) (gp x k)) n
theorem ev_cons {x c : Nat} {p : List Nat} (hx : x < 256) (h : Oc (c :: p)) (n : Nat) : ev x (c :: p) (n + 1) = gm (ev x p n) x ^^^ c := by
  unfold ev
  rw [xs_front]
  show gm c (gp x 0) ^^^ xs (fun j => gm (at0 p j) (gp x (j + 1))) n = _
  rw [gp_none, gm_one (show c < 256 from h 0), Nat.xor_comm]
  congr 1
  rw [← xs_gm (fun k => gm_lt _ _)]
  exact xs_congr fun j _ => by rw [gm_assoc, gp_add hx]
theorem horner_ev {x : Nat} (hx : x < 256) : ∀ {p : List Nat}, Oc p → horner x p = ev x p p.length
  | [], _ => rfl
  | c :: p, h => by
    show gm (horner x p) x ^^^ c = ev x (c :: p) (p.length + 1)
    rw [ev_cons hx h, horner_ev hx h.tail]
theorem ev_more {x n : Nat} {p : List Nat} (h : ∀ j, n ≤ j → at0 p j = 0) (d : Nat) : ev x p (n + d) = ev x p n := by
  refine xs_more (fun j hj => ?_) d
  rw [h j hj, gm_zero (.inl rfl)]
theorem horner_any {x n : Nat} (hx : x < 256) {p : List Nat} (ho : Oc p) (h : ∀ j, n ≤ j → at0 p j = 0) : horner x p = ev x p n := by
  rw [horner_ev hx ho]
  by_cases c : n ≤ p.length
  · have e : p.length = n + (p.length - n) := by omega
    rw [e]
    exact ev_more h _
  · have e : n = p.length + (n - p.length) := by omega
    rw [e]
    exact (ev_more (fun j hj => at0_none hj) _).symm
theorem ev_congr {x n : Nat} {p q : List Nat} (h : ∀ j, at0 p j = at0 q j) : ev x p n = ev x q n := xs_congr fun j _ => by rw [h]
theorem horner_trim {x : Nat} (hx : x < 256) {p : List Nat} (ho : Oc p) : horner x (trim p) = horner x p := by
  rw [horner_any (n := tlen p) hx (oc_trim ho) (fun j hj => by rw [at0_trim]; exact tlen_zero p j hj), horner_any (n := tlen p) hx ho (fun j hj => tlen_zero p j hj)]
  exact ev_congr (at0_trim p)
theorem at0_sum (p q : List Nat) (k : Nat) : at0 (sumL p q) k = at0 p k ^^^ at0 q k := by
  unfold sumL
  rw [at0_map]
  by_cases c : k < mx p.length q.length
  · rw [if_pos c]
  · rw [if_neg c]
    have h : p.length ≤ k ∧ q.length ≤ k := by
      unfold mx at c
      split at c <;> omega
    rw [at0_none h.1, at0_none h.2]
    rfl
theorem horner_sum {x : Nat} (hx : x < 256) {p q : List Nat} (hp : Oc p) (hq : Oc q) : horner x (sumL p q) = horner x p ^^^ horner x q := by
  have h1 : ∀ j, p.length + q.length ≤ j → at0 p j = 0 := fun j hj => at0_none (by omega)
  have h2 : ∀ j, p.length + q.length ≤ j → at0 q j = 0 := fun j hj => at0_none (by omega)
  rw [horner_any hx hp h1, horner_any hx hq h2, horner_any hx (oc_sum hp hq) (n := p.length + q.length) (fun j hj => by rw [at0_sum, h1 j hj, h2 j hj]; rfl)]
  unfold ev
  rw [← xs_xor]
  exact xs_congr fun j _ => by rw [at0_sum, xor_gm (hp j) (hq j)]
theorem at0_scale {c k : Nat} (p : List Nat) : at0 (p.map (gm c)) k = gm c (at0 p k) := by
  by_cases h : k < p.length
  · refine at0_of ?_
    rw [List.getElem?_map, at0_get h] <;> rfl
  · rw [at0_none (by rw [List.length_map]; omega), at0_none (show p.length ≤ k by omega), gm_zero (.inr rfl)]
theorem oc_scale (c : Nat) (p : List Nat) : Oc (p.map (gm c)) := fun k => by
  rw [at0_scale]
  exact gm_lt _ _
theorem horner_scale {x c : Nat} (hx : x < 256) {p : List Nat} (hp : Oc p) : horner x (p.map (gm c)) = gm c (horner x p) := by
  rw [horner_any (n := p.length) hx (oc_scale c p) (fun j hj => by rw [at0_scale, at0_none hj, gm_zero (.inr rfl)]), horner_any (n := p.length) hx hp (fun j hj => at0_none hj), gm_comm c]
  unfold ev
  rw [← xs_gm (fun k => gm_lt _ _)]
  exact xs_congr fun j _ => by rw [at0_scale, gm_comm c, gm_assoc, gm_comm c, ← gm_assoc]
theorem at0_prod {p q : List Nat} {k : Nat} : at0 (prodL p q) k = acc p q p.length k := by
  unfold prodL
  rw [at0_map]
  by_cases c : k < p.length + q.length
  · rw [if_pos c]
  · rw [if_neg c, acc_xs]
    have e : ∀ n, n ≤ p.length → xs (fun j => if j ≤ k then gm (at0 p j) (at0 q (k - j)) else 0) n = 0 := fun n => by
      induction n with
      | zero => intro _; rfl
      | succ n ih =>
        intro hn
        show xs _ n ^^^ _ = 0
        rw [ih (by omega)]
        show 0 ^^^ (if n ≤ k then gm (at0 p n) (at0 q (k - n)) else 0) = 0
        rw [if_pos (by omega), at0_none (show q.length ≤ k - n by omega), gm_zero (.inr rfl)]
        rfl
    exact (e _ (Nat.le_refl _)).symm
/-- times (c + x) -/
theorem at0_lin {p : List Nat} {c k : Nat} (hp : Oc p) : at0 (prodL p [c, 1]) k = gm c (at0 p k) ^^^ (if 1 ≤ k then at0 p (k - 1) else 0) := by
  rw [prod_comm, at0_prod]
  show (0 ^^^ (if 0 ≤ k then gm c (at0 p (k - 0)) else 0)) ^^^ (if 1 ≤ k then gm 1 (at0 p (k - 1)) else 0) = _
  rw [if_pos (Nat.zero_le _), Nat.zero_xor, Nat.sub_zero]
  by_cases h : 1 ≤ k
  · rw [if_pos h, if_pos h, gm_comm 1, gm_one (hp _)]
  · rw [if_neg h, if_neg h]
theorem horner_lin {p : List Nat} {c x : Nat} (hx : x < 256) (hc : c < 256) (hp : Oc p) : horner x (prodL p [c, 1]) = gm (horner x p) (c ^^^ x) := by
  have z : ∀ j, p.length ≤ j → at0 p j = 0 := fun j hj => at0_none hj
  rw [horner_any (n := p.length + 1) hx (oc_prod p [c, 1]) (fun j hj => by rw [at0_lin hp, z j (by omega), if_pos (by omega), z (j - 1) (by omega), gm_zero (.inr rfl)]; rfl), gm_xor hc hx]
  have e1 : ev x (prodL p [c, 1]) (p.length + 1) = xs (fun k => gm (gm c (at0 p k)) (gp x k)) (p.length + 1) ^^^ xs (fun k => gm (if 1 ≤ k then at0 p (k - 1) else 0) (gp x k)) (p.length + 1) := by
    rw [← xs_xor]
    unfold ev
    refine xs_congr fun j _ => ?_
    rw [at0_lin hp, xor_gm (gm_lt _ _) ?_]
    split
    · exact hp _
    · decide
  rw [e1]
  congr 1
  · have e2 : xs (fun k => gm (gm c (at0 p k)) (gp x k)) (p.length + 1) = xs (fun k => gm (gm (at0 p k) (gp x k)) c) (p.length + 1) := xs_congr fun j _ => by rw [gm_assoc, gm_comm c]
    rw [e2, xs_gm (fun k => gm_lt _ _), horner_any (n := p.length + 1) hx hp (fun j hj => z j (by omega))]
    rfl
  · rw [xs_front]
    show gm 0 (gp x 0) ^^^ xs (fun j => gm (if 1 ≤ j + 1 then at0 p (j + 1 - 1) else 0) (gp x (j + 1))) p.length = _
    rw [gm_zero (.inl rfl), Nat.zero_xor, horner_any (n := p.length) hx hp z]
    unfold ev
    rw [← xs_gm (fun k => gm_lt _ _)]
    exact xs_congr fun j _ => by
      rw [if_pos (by omega), Nat.add_sub_cancel, gm_assoc, gp_add hx]
theorem tlen_le_of {p : List Nat} {n : Nat} (h : ∀ k, n ≤ k → at0 p k = 0) : tlen p ≤ n := by
  rcases tlen_last p with z | z
  · omega
  · by_cases c : tlen p ≤ n
    · exact c
    · exact absurd (h _ (by omega)) z
theorem xor_zero_iff {a b : Nat} : a ^^^ b = 0 ↔ a = b := by
  constructor
  · intro h
    have e : (a ^^^ b) ^^^ b = 0 ^^^ b := by rw [h]
    rw [Nat.xor_assoc, Nat.xor_self, Nat.xor_zero, Nat.zero_xor] at e
    exact e
  · intro h
    rw [h, Nat.xor_self]
/-- the state behind some points -/
structure Ip (ps : List (Nat × Nat)) (r v : List Nat) : Prop where
  orr : Oc r
  ov : Oc v
  tr : tlen r = r.length
  lr : r.length ≤ ps.length
  lv : v.length ≤ ps.length + 1
  val : ∀ q ∈ ps, horner q.1 r = q.2
  van : ∀ x, x < 256 → (horner x v = 0 ↔ ∃ q ∈ ps, q.1 = x)
theorem ip_start : Ip [] [] [1] := by
  refine ⟨oc_nil, oc_of fun c hc => ?_, rfl, Nat.le_refl _, Nat.le_refl _, fun q hq => (by cases hq), fun x hx => ?_⟩
  · simp at hc
    omega
  · constructor
    · intro h
      have e : horner x [1] = 1 := by
        show gm 0 x ^^^ 1 = 1
        rw [gm_zero (.inl rfl)]
        rfl
      omega
    · rintro ⟨q, hq, _⟩
      cases hq
theorem ip_step {ps : List (Nat × Nat)} {r v : List Nat} {x y : Nat} (h : Ip ps r v) (hp : ∀ q ∈ ps, q.1 < 256) (hx : x < 256) (hy : y < 256) (hn : ¬ horner x v = 0) :
    Ip (ps ++ [(x, y)]) (trim (sumL r (v.map (gm (gm (y ^^^ horner x r) (gi (horner x v))))))) (trim (prodL v [x, 1])) := by
  have hv := horner_lt (x := x) h.ov
  have hr := horner_lt (x := x) h.orr
  generalize hf : gm (y ^^^ horner x r) (gi (horner x v)) = f
  refine ⟨oc_trim (oc_sum h.orr (oc_scale f v)), oc_trim (oc_prod _ _), tlen_trim _, ?_, ?_, fun q hq => ?_, fun z hz => ?_⟩
  · rw [trim_length, List.length_append, List.length_singleton]
    refine tlen_le_of fun k hk => ?_
    have := h.lr
    have := h.lv
    rw [at0_sum, at0_scale, at0_none (show r.length ≤ k by omega), at0_none (show v.length ≤ k by omega), gm_zero (.inr rfl)]
    rfl
  · rw [trim_length, List.length_append, List.length_singleton]
    refine tlen_le_of fun k hk => ?_
    have := h.lv
    rw [at0_lin h.ov, at0_none (show v.length ≤ k by omega), if_pos (by omega), at0_none (show v.length ≤ k - 1 by omega), gm_zero (.inr rfl)]
    rfl
  · rcases List.mem_append.mp hq with m | m
    · have q1 := hp q m
      rw [horner_trim q1 (oc_sum h.orr (oc_scale f v)), horner_sum q1 h.orr (oc_scale f v), horner_scale q1 h.ov, (h.van q.1 q1).mpr ⟨q, m, rfl⟩, gm_zero (.inr rfl), Nat.xor_zero]
      exact h.val q m
    · have e : q = (x, y) := by simpa using m
      rw [e]
      show horner x _ = y
      rw [horner_trim hx (oc_sum h.orr (oc_scale f v)), horner_sum hx h.orr (oc_scale f v), horner_scale hx h.ov, ← hf, gm_assoc, gm_comm (gi _), gm_gi hv hn, gm_one (xor_lt hy hr), Nat.xor_comm y, ← Nat.xor_assoc, Nat.xor_self, Nat.zero_xor]
  · rw [horner_trim hz (oc_prod _ _), horner_lin hz hx h.ov]
    constructor
    · intro e
      by_cases c : horner z v = 0
      · obtain ⟨q, hq, e2⟩ := (h.van z hz).mp c
        exact ⟨q, List.mem_append_left _ hq, e2⟩
      · by_cases c2 : x ^^^ z = 0
        · exact ⟨(x, y), by simp, xor_zero_iff.mp c2⟩
        · exact absurd e (gm_ne c c2)
    · rintro ⟨q, hq, e⟩
      rcases List.mem_append.mp hq with m | m
      · rw [(h.van z hz).mpr ⟨q, m, e⟩, gm_zero (.inl rfl)]
      · have e2 : q = (x, y) := by simpa using m
        rw [e2] at e
        have e3 : x = z := e
        rw [e3, Nat.xor_self, gm_zero (.inr rfl)]
end Py

set_option Elab.async false
set_option linter.all false
set_option maxRecDepth 100000
set_option maxHeartbeats 4000000
namespace Mx
open PySem PySem.Spec PyProof.Rows L2 Evl
theorem erase_perm : ∀ (l : List Nat) (i : Nat) (h : i < l.length), (Py.at0 l i :: l.eraseIdx i).Perm l
  | [], i, h => absurd h (Nat.not_lt_zero _)
  | a :: l, 0, _ => List.Perm.refl _
  | a :: l, i + 1, h => by
    have ih := erase_perm l i (by simpa using h)
    show (Py.at0 l i :: a :: l.eraseIdx i).Perm (a :: l)
    exact (List.Perm.swap _ _ _).trans (ih.cons a)
section
variable {K : PySem.W.Frag} {σ : L2.St} {H H' : Hp} {ta tb te tx : TE} {t u : TT} {x y z v : V} {r : R2} {xs ys zs : List V} {p q : Addr} {D : Ends} {tu tw tz : TS} {g : TG} {vss : List (List V)}
theorem el_call2VL {sp : Sp} {E : XK} (h1 : Ev ta σ H x) (h2 : EvL tb σ H ys) (hs : ∀ q H1, Ex H H1 → H1 q = some (.lst ys) → SpL sp ([x, .ref q] ++ []) H1 zs) : EvL (tCall sp [] E (tCons ta (tCons tb tNil))) σ H zs := fun H1 e Q k =>
  h1 H1 e _ fun H2 e2 => h2 H2 (e.trans e2) _ fun q H3 _ e3 hq => hs q H3 ((e.trans e2).trans e3) hq H3 (Ex.refl _) Q (fun p2 H4 n4 e4 h4 => k p2 H4 (fresh_back (e2.trans e3) n4) ((e2.trans e3).trans e4) h4) E
/-- a list of tuples -/
def TL (H : Hp) (p : Addr) (vss : List (List V)) : Prop := ∃ rs : List Addr, H p = some (.lst (rs.map V.ref)) ∧ TupsAt H rs vss
theorem TL.up (h : TL H p vss) (e : Ex H H') : TL H' p vss := by
  obtain ⟨rs, h1, h2⟩ := h
  exact ⟨rs, e _ _ h1, h2.mono e⟩
def EvTL (te : TE) (σ : L2.St) (H : Hp) (vss : List (List V)) : Prop := ∀ H1, Ex H H1 → ∀ Q : VK, (∀ p H2, H1 p = none → Ex H1 H2 → TL H2 p vss → Q (.ref p) H2) → te σ H1 Q
theorem q_asgTL {i : Nat} (h : EvTL te σ H vss) (k : ∀ p H1, H p = none → Ex H H1 → TL H1 p vss → tz D (σ.set i (some (.ref p))) H1) : tSeq (tAsg te (gName i)) tz D σ H := h H (Ex.refl H) _ k
theorem TupsAt.snoc {rs : List Addr} {a : Addr} {vs : List V} : ∀ {rs : List Addr} {vss : List (List V)}, TupsAt H rs vss → H a = some (.tup vs) → TupsAt H (rs ++ [a]) (vss ++ [vs])
  | _, _, .nil, h => .cons h .nil
  | _, _, .cons h t, h2 => .cons h (TupsAt.snoc (rs := rs) t h2)
def Ct (H : Hp) (vss : List (List V)) (Dl : Addr) (i : Nat) (H' : Hp) : Prop := H Dl = none ∧ Ex H H' ∧ ∃ rs : List Addr, H' Dl = some (.lst (rs.map V.ref)) ∧ TupsAt H' rs (vss.take i)
theorem ct_turn {σ2 : L2.St} {Dl : Addr} {i : Nat} {vs : List V} (hp : Ct H vss Dl i H') (hi : vss[i]? = some vs) (hz : vss.length ≤ 40000) (he : EvU te σ2 H vs) :
    tYes σ2 H' fun b H3 => if b = true then te σ2 H3 fun y H4 => ∃ acc, H4 Dl = some (.lst acc) ∧ acc.length < sizeLine ∧ Ct H vss Dl (i + 1) (upd H4 Dl (.lst (acc ++ [y]))) else Ct H vss Dl (i + 1) H3 := by
  obtain ⟨p1, p2, rs, p3, p4⟩ := hp
  show te σ2 H' fun y H4 => ∃ acc, H4 Dl = some (.lst acc) ∧ acc.length < sizeLine ∧ Ct H vss Dl (i + 1) (upd H4 Dl (.lst (acc ++ [y])))
  refine he H' p2 _ fun a H4 na e4 ha => ⟨_, e4 Dl _ p3, sz_lt (by rw [List.length_map, p4.len, List.length_take]; omega), p1, Ex.mut (p2.trans e4) p1, rs ++ [a], ?_, ?_⟩
  · rw [upd_same, List.map_append] <;> rfl
  · have hne : a ≠ Dl := (ne_of_none p3 na).symm
    have k : ∀ b us, H4 b = some (.tup us) → (upd H4 Dl (.lst (rs.map V.ref ++ [.ref a]))) b = some (.tup us) := fun b us hb => by
      have hb2 : b ≠ Dl := fun z => by
        rw [z, e4 Dl _ p3] at hb
        cases hb
      rw [upd_ne hb2]
      exact hb
    have k3 : ∀ (l : List V) {rs2 : List Addr} {wss : List (List V)}, TupsAt H4 rs2 wss → TupsAt (upd H4 Dl (.lst l)) rs2 wss := fun l => by
      intro rs2 wss h
      induction h with
      | nil => exact .nil
      | cons h1 _ ih =>
        refine .cons ?_ ih
        have hb2 : ∀ b us, H4 b = some (.tup us) → b ≠ Dl := fun b us hb z => by
          rw [z, e4 Dl _ p3] at hb
          cases hb
        rw [upd_ne (hb2 _ _ h1)]
        exact h1
    rw [List.take_add_one, hi]
    exact k3 _ ((p4.mono e4).snoc (rs := rs) ha)
theorem et_zR {ta : TA} {j : Nat} {vs : List Nat} {n : Nat} (h : EvA ta σ H [.int (n : Int)]) (hz : vss.length = n) (hn : n ≤ 40000) (hw : ∀ x, wipe ((wipe σ vs).set j (some x)) vs = wipe σ vs)
    (he : ∀ (i : Nat) (us : List V) H1, Ex H H1 → vss[i]? = some us → EvU te ((wipe σ vs).set j (some (.int (i : Int)))) H1 us) : EvTL (tLc (iRng1 ta) (gName j) tYes te vs) σ H vss := fun H0 e Q q => h H0 e _ fun H1 e1 => ⟨(n : Int), rfl, by omega, by omega, fun Dl hD =>
  lc_range (lo := 0) (n := (n : Int).toNat) (Ct H1 vss Dl) ⟨hD, Ex.new hD, [], by rw [upd_same] <;> rfl, by rw [List.take_zero]; exact .nil⟩ (fun i H' hi p => by
    have e0 : (0 : Int) + (i : Int) = (i : Int) := Int.zero_add _
    have hl : i < vss.length := by omega
    show wipe ((wipe σ vs).set j (some (.int ((0 : Int) + (i : Int))))) vs = wipe σ vs ∧ tYes ((wipe σ vs).set j (some (.int ((0 : Int) + (i : Int))))) H' fun b H3 => if b = true then te ((wipe σ vs).set j (some (.int ((0 : Int) + (i : Int))))) H3 fun y H4 => ∃ acc, H4 Dl = some (.lst acc) ∧ acc.length < sizeLine ∧ Ct H1 vss Dl (i + 1) (upd H4 Dl (.lst (acc ++ [y]))) else Ct H1 vss Dl (i + 1) H3
    rw [e0]
    exact ⟨hw _, ct_turn p (List.getElem?_eq_getElem hl) (by omega) (he i _ H1 (e.trans e1) (List.getElem?_eq_getElem hl))⟩) (fun H' p => by
      obtain ⟨p1, p2, rs, p3, p4⟩ := p
      exact q Dl H' (fresh_back e1 p1) (e1.trans p2) ⟨rs, p3, by rw [List.take_of_length_le (by omega)] at p4; exact p4⟩)⟩
/-- list(a list of tuples) -/
theorem et_list (ha : Ev ta σ H (.ref p)) (h : TL H p vss) : EvTL (tCB (fun xs H Q => ∃ p ys, xs = [.ref p] ∧ (SqL K H p ys ∨ SqT K H p ys) ∧ ∀ l, H l = none → Q (.ref l) (upd H l (.lst ys))) (tCons ta tNil)) σ H vss := fun H1 e Q k => by
  obtain ⟨rs, h1, h2⟩ := h
  exact ha H1 e _ fun H2 e2 => ⟨p, _, rfl, Or.inl (sq_of (e2 _ _ (e _ _ h1))), fun l hl => k l _ (fresh_back e2 hl) (e2.trans (Ex.new hl)) ⟨rs, upd_same, h2.mono ((e.trans e2).trans (Ex.new hl))⟩⟩
/-- a loop over a list of tuples that the turns leave -/
theorem q_forTL {n : Nat} {tg : TGs} (h : Ev te σ H (.ref p)) (hT : TL H p vss) (hn : ∀ vs ∈ vss, vs.length = n) (Pv : Nat → L2.St → Hp → Prop) (h0 : ∀ H1, Ex H H1 → Pv 0 σ H1) (hE : ∀ i σ' H', Pv i σ' H' → Ex H H')
    (hs : ∀ i vs σ' H', vss[i]? = some vs → Pv i σ' H' → tg vs σ' H' fun σ2 H2 => tu { D with nx := Pv (i + 1), ct := Pv (i + 1), bk := tz D } σ2 H2) (hd : ∀ σ' H', Pv vss.length σ' H' → tz D σ' H') :
    tSeq (tFor (iList K te) (gTup K n tg) tu) tz D σ H := by
  obtain ⟨rs, h1, h2⟩ := hT
  refine q_forL h (sq_of h1) Pv h0 (fun i σ' H' _ pv => sq_of (hE i σ' H' pv _ _ h1)) (fun i x σ' H' hi pv => ?_) (fun σ' H' pv => hd σ' H' (by rw [List.length_map, h2.len] at pv; exact pv))
  obtain ⟨a, vs, rfl, hv, ha⟩ := (h2.mono (hE i σ' H' pv)).get hi
  exact ⟨a, vs, rfl, st_of ha, hn vs (List.mem_of_getElem? hv), hs i vs σ' H' hv pv⟩
/-- points as values -/
def tv (ps : List (Nat × Nat)) : List (List V) := ps.map fun q => [nV q.1, nV q.2]
def dT (q : Nat × Nat) : PyData := .tuple [.int (q.1 : Int), .int (q.2 : Int)]
theorem dp_tups : ∀ {rs : List Addr} {ps : List (Nat × Nat)}, TupsAt H rs (tv ps) → DpAll K H (rs.map V.ref) (ps.map dT)
  | [], [], _ => .nil
  | [], _ :: _, h => by cases h
  | _ :: _, [], h => by cases h
  | r :: rs, q :: ps, h => by
    cases h with
    | cons h1 h2 => exact .cons (.tup (st_of h1) (.cons (.int _) (.cons (.int _) .nil))) (dp_tups h2)
theorem lay_tups : ∀ ps : List (Nat × Nat), PyData.canLayAll0 (ps.map dT) = true ∧ PyData.depthAll (ps.map dT) ≤ 1
  | [] => ⟨rfl, Nat.zero_le _⟩
  | q :: ps => by
    have ih := lay_tups ps
    refine ⟨?_, ?_⟩
    · show (PyData.canLay0 (dT q) && PyData.canLayAll0 (ps.map dT)) = true
      rw [ih.1] <;> rfl
    · show max (PyData.depth (dT q)) (PyData.depthAll (ps.map dT)) ≤ 1
      have : PyData.depth (dT q) = 1 := rfl
      omega
theorem shaped_tups (ps : List (Nat × Nat)) : SeqAt.shaped (.list (ps.map dT)) = true := by
  unfold SeqAt.shaped
  have h1 : PyData.canLay0 (.list (ps.map dT)) = true := (lay_tups ps).1
  have h2 : PyData.depth (.list (ps.map dT)) ≤ 2 := by
    show PyData.depthAll (ps.map dT) + 1 ≤ 2
    have := (lay_tups ps).2
    omega
  rw [h1, decide_eq_true (show PyData.depth (.list (ps.map dT)) ≤ 64 by omega)] <;> rfl
theorem rv_eqTL {ps : List (Nat × Nat)} (h : TL H p (tv ps)) (h2 : TL H q (tv ps)) : RV (rEqD K) (.ref p) (.ref q) H (.bl true) := by
  obtain ⟨rs, a1, a2⟩ := h
  obtain ⟨ss, b1, b2⟩ := h2
  exact rv_eqD (d := .list (ps.map dT)) (.lst (sq_of a1) (dp_tups a2)) (.lst (sq_of b1) (dp_tups b2)) (shaped_tups ps)
/-- xs[j] = (a, b) -/
theorem q_setT {j : Nat} {vs : List V} (hT : TL H p vss) (h : EvU te σ H vs) (ho : Ev ta σ H (.ref p)) (hi : Ev tb σ H (.int (j : Int))) (hj : j < vss.length) (k : ∀ H1 H2, Ex H H1 → (∀ l, H2 = upd H1 p l → TL H2 p (vss.set j vs) → tz D σ H2)) :
    tSeq (tAsg te (gSub ta tb rSetL)) tz D σ H := h H (Ex.refl H) _ fun a H1 na e1 ha => ho H1 e1 _ fun H2 e2 => hi H2 (e1.trans e2) _ fun H3 e3 => by
  obtain ⟨rs, h1, h2⟩ := hT
  have e13 := (e1.trans e2).trans e3
  have hj2 : j < (rs.map V.ref).length := by rw [List.length_map, h2.len]; exact hj
  refine ⟨p, _, (j : Int), j, rfl, rfl, e13 _ _ h1, ixN_nat hj2, ?_⟩
  refine k H3 _ e13 _ rfl ⟨rs.set j a, by rw [upd_same, List.map_set], ?_⟩
  have h3 := h2.mono e13
  have ha3 : H3 a = some (.tup vs) := e3 _ _ (e2 _ _ ha)
  have k3 : ∀ (l : List V) {rs2 : List Addr} {wss : List (List V)}, TupsAt H3 rs2 wss → TupsAt (upd H3 p (.lst l)) rs2 wss := fun l => by
    intro rs2 wss h
    induction h with
    | nil => exact .nil
    | cons h1' _ ih =>
      refine .cons ?_ ih
      have hb2 : ∀ b us, H3 b = some (.tup us) → b ≠ p := fun b us hb z => by
        rw [z, e13 _ _ h1] at hb
        cases hb
      rw [upd_ne (hb2 _ _ h1')]
      exact h1'
  have st : ∀ {rs : List Addr} {wss : List (List V)} (j : Nat), TupsAt H3 rs wss → TupsAt H3 (rs.set j a) (wss.set j vs) := by
    intro rs wss j h
    induction h generalizing j with
    | nil => exact .nil
    | cons h1' t ih =>
      cases j with
      | zero => exact .cons ha3 t
      | succ j => exact .cons h1' (ih j)
  exact k3 _ (st j h3)
/-- name = a call, told by what the callee promises -/
theorem q_asg_raw {i : Nat} {sp : Sp} {vs : List V} {E : XK} {ta : TA} (h : EvA ta σ H vs) (k : ∀ H1, Ex H H1 → sp (vs ++ []) H1 (fun v H2 => tz D (σ.set i (some v)) H2) E) : tSeq (tAsg (tCall sp [] E ta) (gName i)) tz D σ H := h H (Ex.refl H) _ fun H1 e1 => k H1 e1
theorem q_drop1T {sp : Sp} {E : XK} (h : EvTL te σ H vss) (k : ∀ p H1, H p = none → Ex H H1 → TL H1 p vss → sp ([.ref p] ++ []) H1 (fun _ H2 => D.nx σ H2) E) : tDrop (tCall sp [] E (tCons te tNil)) D σ H := h H (Ex.refl H) _ k
end
end Mx

set_option Elab.async false
set_option linter.all false
namespace Py
open Gf
theorem range_get {α : Type} {f : Nat → α} {n k : Nat} (h : k < n) : ((List.range n).map f)[k]? = some (f k) := by
  rw [List.getElem?_map, List.getElem?_range h] <;> rfl
/-! ### matrices: lists of rows -/
abbrev at1 (M : List (List Nat)) (j : Nat) : List Nat := M.getD j []
theorem at1_get {M : List (List Nat)} {j : Nat} (h : j < M.length) : M[j]? = some (at1 M j) := by
  unfold at1
  rw [List.getD_eq_getElem?_getD, List.getElem?_eq_getElem h] <;> rfl
theorem at1_of {M : List (List Nat)} {j : Nat} {r : List Nat} (h : M[j]? = some r) : at1 M j = r := by
  unfold at1
  rw [List.getD_eq_getElem?_getD, h] <;> rfl
/-- a matrix with so many rows and columns -/
structure Mt (M : List (List Nat)) (r c : Nat) : Prop where
  rows : M.length = r
  cols : ∀ l ∈ M, l.length = c
  oct : ∀ l ∈ M, Oc l
theorem Mt.at {M : List (List Nat)} {r c j : Nat} (h : Mt M r c) (hj : j < r) : (at1 M j).length = c ∧ Oc (at1 M j) := by
  have hm : at1 M j ∈ M := List.mem_of_getElem? (at1_get (by rw [h.rows]; exact hj))
  exact ⟨h.cols _ hm, h.oct _ hm⟩
/-- the rows of a list of digits -/
def rowsOf (D : List Nat) (r c : Nat) : List (List Nat) := (List.range r).map fun j => (D.drop (j * c)).take c
theorem rowsOf_mt {D : List Nat} {r c : Nat} (hl : D.length = r * c) (ho : Oc D) : Mt (rowsOf D r c) r c := by
  unfold rowsOf
  refine ⟨by simp, fun l hl2 => ?_, fun l hl2 => ?_⟩
  · obtain ⟨j, hj, rfl⟩ := List.mem_map.mp hl2
    have hj := List.mem_range.mp hj
    rw [List.length_take, List.length_drop, hl]
    have : (j + 1) * c ≤ r * c := Nat.mul_le_mul_right c hj
    have e : (j + 1) * c = j * c + c := by rw [Nat.add_mul, Nat.one_mul]
    omega
  · obtain ⟨j, hj, rfl⟩ := List.mem_map.mp hl2
    exact (ho.drop _).take _
/-- a sum of multiples of rows -/
def combN (fs : List Nat) (M : List (List Nat)) (w n : Nat) : List Nat := (List.range w).map fun k => xs (fun j => gm (at0 fs j) (at0 (at1 M j) k)) n
def comb (fs : List Nat) (M : List (List Nat)) (w : Nat) : List Nat := combN fs M w fs.length
theorem combN_zero (fs : List Nat) (M : List (List Nat)) (w : Nat) : combN fs M w 0 = List.replicate w 0 := by
  refine ext0 (by unfold combN; simp) fun k hk => ?_
  unfold combN at *
  rw [List.length_map, List.length_range] at hk
  rw [at0_map, if_pos hk]
  refine (at0_of ?_).symm
  rw [List.getElem?_replicate, if_pos hk] <;> rfl
theorem combN_length (fs : List Nat) (M : List (List Nat)) (w n : Nat) : (combN fs M w n).length = w := by
  unfold combN
  simp
theorem combN_oct (fs : List Nat) (M : List (List Nat)) (w n : Nat) : Oc (combN fs M w n) := oc_map (fun k => xs_lt (fun j => gm_lt _ _) n) w
theorem combN_skip {fs : List Nat} {M : List (List Nat)} {w n : Nat} (h : at0 fs n = 0) : combN fs M w (n + 1) = combN fs M w n := by
  unfold combN
  refine List.map_congr_left fun k _ => ?_
  show xs _ n ^^^ gm (at0 fs n) _ = xs _ n
  rw [gm_zero (.inl h), Nat.xor_zero]
theorem combN_next {fs : List Nat} {M : List (List Nat)} {w n : Nat} (hl : (at1 M n).length = w) : combN fs M w (n + 1) = List.zipWith (fun a b => a ^^^ gm (at0 fs n) b) (combN fs M w n) (at1 M n) := by
  refine ext0 (by rw [combN_length, List.length_zipWith, combN_length, hl, Nat.min_self]) fun k hk => ?_
  rw [combN_length] at hk
  refine (at0_of (v := at0 (combN fs M w (n + 1)) k) ?_).symm
  rw [List.getElem?_zipWith, at0_get (by rw [combN_length]; exact hk), at0_get (by rw [hl]; exact hk)]
  show some _ = some _
  congr 1
  unfold combN
  rw [at0_map, at0_map, if_pos hk, if_pos hk]
  rfl
/-- the product of a row and a column -/
def dot (a b : List Nat) : Nat := xs (fun k => gm (at0 a k) (at0 b k)) a.length
theorem dot_lt (a b : List Nat) : dot a b < 256 := xs_lt (fun k => gm_lt _ _) _
def colsOf (M : List (List Nat)) (w : Nat) : List (List Nat) := (List.range w).map fun k => M.map fun r => at0 r k
theorem dot_col {a : List Nat} {M : List (List Nat)} {k : Nat} (h : a.length = M.length) : dot a (M.map fun r => at0 r k) = xs (fun j => gm (at0 a j) (at0 (at1 M j) k)) a.length := by
  unfold dot
  refine xs_congr fun j hj => ?_
  congr 1
  refine at0_of ?_
  rw [List.getElem?_map, at1_get (by omega)] <;> rfl
def times (A M : List (List Nat)) (w : Nat) : List (List Nat) := A.map fun r => (colsOf M w).map fun c => dot r c
theorem times_eq {A M : List (List Nat)} {h n w : Nat} (hA : Mt A h n) (hM : M.length = n) : times A M w = A.map fun r => comb r M w := by
  unfold times
  refine List.map_congr_left fun r hr => ?_
  unfold colsOf comb combN
  rw [List.map_map]
  refine List.map_congr_left fun k _ => ?_
  exact dot_col (by rw [hA.cols r hr, hM])
theorem prod_mt {A M : List (List Nat)} {h n w : Nat} (hA : Mt A h n) : Mt (A.map fun r => comb r M w) h w := by
  refine ⟨by rw [List.length_map, hA.rows], fun l hl => ?_, fun l hl => ?_⟩
  · obtain ⟨r, _, rfl⟩ := List.mem_map.mp hl
    exact combN_length _ _ _ _
  · obtain ⟨r, _, rfl⟩ := List.mem_map.mp hl
    exact combN_oct _ _ _ _
/-- a column as a matrix -/
def colM (v : List Nat) : List (List Nat) := v.map fun x => [x]
theorem comb_col {r v : List Nat} (h : r.length = v.length) : at0 (comb r (colM v) 1) 0 = dot r v := by
  unfold comb combN dot
  rw [at0_map, if_pos (by decide)]
  refine xs_congr fun j hj => ?_
  congr 1
  unfold colM
  rw [at1_of (r := [at0 v j]) (by rw [List.getElem?_map, at0_get (by omega)]; rfl)]
  rfl
def unit (n : Nat) : List (List Nat) := (List.range n).map fun i => (List.range n).map fun j => if i = j then 1 else 0
theorem unit_mt (n : Nat) : Mt (unit n) n n := by
  unfold unit
  refine ⟨by simp, fun l hl => ?_, fun l hl => ?_⟩
  · obtain ⟨i, _, rfl⟩ := List.mem_map.mp hl
    simp
  · obtain ⟨i, _, rfl⟩ := List.mem_map.mp hl
    refine oc_map (fun k => ?_) n
    split <;> decide
def vand (xs : List Nat) (w : Nat) : List (List Nat) := xs.map fun x => (List.range w).map fun k => gp x k
theorem vand_mt (xs : List Nat) (w : Nat) : Mt (vand xs w) xs.length w := by
  unfold vand
  refine ⟨by simp, fun l hl => ?_, fun l hl => ?_⟩
  · obtain ⟨x, _, rfl⟩ := List.mem_map.mp hl
    simp
  · obtain ⟨x, _, rfl⟩ := List.mem_map.mp hl
    exact oc_map (fun k => gp_lt _ _) w
end Py

set_option Elab.async false
set_option linter.all false
set_option maxRecDepth 100000
set_option maxHeartbeats 4000000
namespace Mx
open PySem PySem.Spec PyProof.Rows L2 Evl
section
variable {K : PySem.W.Frag} {σ : L2.St} {H H0 H' : Hp} {ta0 : TA} {ta tb tc te tx : TE} {t u : TT} {x y z v : V} {r : R2} {xs ys zs : List V} {p q : Addr} {D : Ends} {tu tw tz : TS} {g : TG} {M N : List (List Nat)} {rs : List Addr}
/-! ### lists of lists of numbers -/
def LR (H : Hp) (rs : List Addr) (M : List (List Nat)) : Prop := Paired (fun r l => LN H r l) rs M
theorem LR.mono (e : Ex H H') (h : LR H rs M) : LR H' rs M := Paired.mono (fun _ _ q => LN.up q e) h
theorem LR.len (h : LR H rs M) : rs.length = M.length := Paired.length h
theorem LR.at : ∀ {rs : List Addr} {M : List (List Nat)} {k : Nat}, LR H rs M → k < M.length → ∃ r, rs[k]? = some r ∧ LN H r (Py.at1 M k)
  | _, _, _, .nil, h => absurd h (Nat.not_lt_zero _)
  | _, _, 0, .cons h _, _ => ⟨_, rfl, h⟩
  | _, _, k + 1, .cons _ t, h => LR.at (k := k) t (by simpa using h)
theorem LR.of {k : Nat} {v : V} (h : LR H rs M) (hv : (rs.map V.ref)[k]? = some v) : ∃ r, v = .ref r ∧ k < M.length ∧ LN H r (Py.at1 M k) := by
  have hk : k < M.length := by
    rw [← h.len]
    simpa using (List.getElem?_eq_some_iff.mp hv).1
  obtain ⟨r, h1, h2⟩ := h.at hk
  rw [List.getElem?_map, h1] at hv
  exact ⟨r, (Option.some.inj hv).symm, hk, h2⟩
def MN (H : Hp) (p : Addr) (M : List (List Nat)) : Prop := ∃ rs : List Addr, H p = some (.lst (rs.map V.ref)) ∧ LR H rs M
theorem MN.up (h : MN H p M) (e : Ex H H') : MN H' p M := by
  obtain ⟨rs, h1, h2⟩ := h
  exact ⟨rs, e _ _ h1, h2.mono e⟩
/-- .. whose rows are new ones -/
def MF (H0 H : Hp) (p : Addr) (M : List (List Nat)) : Prop := ∃ rs : List Addr, H p = some (.lst (rs.map V.ref)) ∧ LR H rs M ∧ ∀ r ∈ rs, H0 r = none
theorem MF.mn (h : MF H0 H p M) : MN H p M := by
  obtain ⟨rs, h1, h2, _⟩ := h
  exact ⟨rs, h1, h2⟩
theorem MF.back (h : MF H0 H p M) (e : Ex H' H0) : MF H' H p M := by
  obtain ⟨rs, h1, h2, h3⟩ := h
  exact ⟨rs, h1, h2, fun r hr => fresh_back e (h3 r hr)⟩
theorem MF.up (h : MF H0 H p M) (e : Ex H H') : MF H0 H' p M := by
  obtain ⟨rs, h1, h2, h3⟩ := h
  exact ⟨rs, e _ _ h1, h2.mono e, h3⟩
def EvM (te : TE) (σ : L2.St) (H : Hp) (M : List (List Nat)) : Prop := ∀ H1, Ex H H1 → ∀ Q : VK, (∀ p H2, H1 p = none → Ex H1 H2 → MF H1 H2 p M → Q (.ref p) H2) → te σ H1 Q
def RetM (M : List (List Nat)) (H : Hp) (Q : VK) : Prop := ∀ p H', H p = none → Ex H H' → MF H H' p M → Q (.ref p) H'
def SpM (sp : Sp) (vs : List V) (H : Hp) (M : List (List Nat)) : Prop := ∀ H1, Ex H H1 → ∀ Q : VK, (∀ p H2, H1 p = none → Ex H1 H2 → MF H1 H2 p M → Q (.ref p) H2) → ∀ E : XK, sp vs H1 Q E
theorem em_call {sp : Sp} {dvs vs : List V} {E : XK} {ta : TA} (h : EvA ta σ H vs) (hs : SpM sp (vs ++ dvs) H M) : EvM (tCall sp dvs E ta) σ H M := fun H1 e Q q =>
  h H1 e _ fun H2 e2 => hs H2 (e.trans e2) Q (fun p H3 n3 e3 h3 => q p H3 (fresh_back e2 n3) (e2.trans e3) (h3.back e2)) E
theorem s_retM (h : EvM te σ H M) (k : ∀ p H1, H p = none → Ex H H1 → MF H H1 p M → D.rt (.ref p) H1) : tRet te D σ H := h H (Ex.refl H) _ k
theorem q_asgM {i : Nat} (h : EvM te σ H M) (k : ∀ p H1, H p = none → Ex H H1 → MF H H1 p M → tz D (σ.set i (some (.ref p))) H1) : tSeq (tAsg te (gName i)) tz D σ H := h H (Ex.refl H) _ k
theorem em_is (h : EvM te σ H M) (e : M = N) : EvM te σ H N := e ▸ h
/-! comprehensions of lists -/
def Cm (H : Hp) (M : List (List Nat)) (Dl : Addr) (i : Nat) (H' : Hp) : Prop := H Dl = none ∧ Ex H H' ∧ ∃ rs : List Addr, H' Dl = some (.lst (rs.map V.ref)) ∧ LR H' rs (M.take i) ∧ ∀ r ∈ rs, H r = none ∧ r ≠ Dl
theorem lr_upd {Dl : Addr} {o : HO} : ∀ {rs : List Addr} {M : List (List Nat)}, LR H rs M → (∀ r ∈ rs, r ≠ Dl) → LR (upd H Dl o) rs M
  | _, _, .nil, _ => .nil
  | _, _, .cons h t, n => .cons (by
      show upd H Dl o _ = _
      rw [upd_ne (n _ (List.mem_cons_self ..))]
      exact h) (lr_upd t fun r hr => n r (List.mem_cons_of_mem _ hr))
theorem cm_turn {σ2 : L2.St} {Dl : Addr} {i : Nat} {l : List Nat} (hp : Cm H M Dl i H') (hi : M[i]? = some l) (hz : M.length ≤ 40000) (he : EvL te σ2 H (l.map nV)) :
    tYes σ2 H' fun b H3 => if b = true then te σ2 H3 fun y H4 => ∃ acc, H4 Dl = some (.lst acc) ∧ acc.length < sizeLine ∧ Cm H M Dl (i + 1) (upd H4 Dl (.lst (acc ++ [y]))) else Cm H M Dl (i + 1) H3 := by
  obtain ⟨p1, p2, rs, p3, p4, p5⟩ := hp
  show te σ2 H' fun y H4 => ∃ acc, H4 Dl = some (.lst acc) ∧ acc.length < sizeLine ∧ Cm H M Dl (i + 1) (upd H4 Dl (.lst (acc ++ [y])))
  refine he H' p2 _ fun a H4 na e4 ha => ⟨_, e4 Dl _ p3, sz_lt (by rw [List.length_map, p4.len, List.length_take]; omega), p1, Ex.mut (p2.trans e4) p1, rs ++ [a], ?_, ?_, ?_⟩
  · rw [upd_same, List.map_append] <;> rfl
  · have hne : a ≠ Dl := (ne_of_none p3 na).symm
    rw [List.take_add_one, hi]
    refine Paired.snoc (lr_upd (p4.mono e4) fun r hr => (p5 r hr).2) ?_
    show upd H4 Dl _ a = _
    rw [upd_ne hne]
    exact ha
  · intro r hr
    rcases List.mem_append.mp hr with h | h
    · exact p5 r h
    · rw [List.mem_singleton.mp h]
      exact ⟨fresh_back p2 na, (ne_of_none p3 na).symm⟩
theorem cm_zero {Dl : Addr} (hD : H Dl = none) : Cm H M Dl 0 (upd H Dl (.lst [])) := ⟨hD, Ex.new hD, [], by rw [upd_same] <;> rfl, by rw [List.take_zero]; exact .nil, fun r hr => nomatch hr⟩
theorem cm_end {Dl : Addr} {H1 : Hp} (e1 : Ex H H1) (h : Cm H1 M Dl M.length H') : H Dl = none ∧ Ex H H' ∧ MF H H' Dl M := by
  obtain ⟨p1, p2, rs, p3, p4, p5⟩ := h
  rw [List.take_length] at p4
  exact ⟨fresh_back e1 p1, e1.trans p2, rs, p3, p4, fun r hr => fresh_back e1 (p5 r hr).1⟩
theorem em_zR {ta : TA} {j : Nat} {vs : List Nat} {n : Nat} (h : EvA ta σ H [.int (n : Int)]) (hz : M.length = n) (hn : n ≤ 40000) (hw : ∀ x, wipe ((wipe σ vs).set j (some x)) vs = wipe σ vs)
    (he : ∀ (i : Nat) (l : List Nat) H1, Ex H H1 → M[i]? = some l → EvL te ((wipe σ vs).set j (some (.int (i : Int)))) H1 (l.map nV)) : EvM (tLc (iRng1 ta) (gName j) tYes te vs) σ H M := fun H0 e Q q => h H0 e _ fun H1 e1 => ⟨(n : Int), rfl, by omega, by omega, fun Dl hD =>
  lc_range (lo := 0) (n := (n : Int).toNat) (Cm H1 M Dl) (cm_zero hD) (fun i H' hi p => by
    have e0 : (0 : Int) + (i : Int) = (i : Int) := Int.zero_add _
    have hl : i < M.length := by omega
    show wipe ((wipe σ vs).set j (some (.int ((0 : Int) + (i : Int))))) vs = wipe σ vs ∧ tYes ((wipe σ vs).set j (some (.int ((0 : Int) + (i : Int))))) H' fun b H3 => if b = true then te ((wipe σ vs).set j (some (.int ((0 : Int) + (i : Int))))) H3 fun y H4 => ∃ acc, H4 Dl = some (.lst acc) ∧ acc.length < sizeLine ∧ Cm H1 M Dl (i + 1) (upd H4 Dl (.lst (acc ++ [y]))) else Cm H1 M Dl (i + 1) H3
    rw [e0]
    exact ⟨hw _, cm_turn p (List.getElem?_eq_getElem hl) (by omega) (he i _ H1 (e.trans e1) (List.getElem?_eq_getElem hl))⟩) (fun H' p => by
      have e2 : (n : Int).toNat = M.length := by omega
      rw [e2] at p
      obtain ⟨a, b, c⟩ := cm_end e1 p
      exact q Dl H' a b c)⟩
theorem em_zL {a : Addr} {tl : TE} {j : Nat} {vs : List Nat} (h : Ev tl σ H (.ref a)) (hx : SqL K H a xs) (hz : M.length = xs.length) (hn : xs.length ≤ 40000) (hw : ∀ x, wipe ((wipe σ vs).set j (some x)) vs = wipe σ vs)
    (he : ∀ (i : Nat) (x : V) (l : List Nat) H1, Ex H H1 → xs[i]? = some x → M[i]? = some l → EvL te ((wipe σ vs).set j (some x)) H1 (l.map nV)) : EvM (tLc (iList K tl) (gName j) tYes te vs) σ H M := fun H0 e Q q => h H0 e _ fun H1 e1 => ⟨a, rfl, ⟨xs, ex_l (e.trans e1) hx⟩, fun Dl hD =>
  lc_list (xs := xs) (Cm H1 M Dl) (cm_zero hD) (fun i H' _ p => ex_l ((e.trans e1).trans p.2.1) hx) (fun i x H' hi p => by
    have hl : i < M.length := by rw [hz]; exact (List.getElem?_eq_some_iff.mp hi).1
    exact ⟨hw x, cm_turn p (List.getElem?_eq_getElem hl) (by omega) (he i x _ H1 (e.trans e1) hi (List.getElem?_eq_getElem hl))⟩) (fun H' p => by
      rw [← hz] at p
      obtain ⟨a, b, c⟩ := cm_end e1 p
      exact q Dl H' a b c)⟩
theorem em_zM {a : Addr} {tl : TE} {j : Nat} {vs : List Nat} (h : Ev tl σ H (.ref a)) (hN : MN H a N) (hz : M.length = N.length) (hn : N.length ≤ 40000) (hw : ∀ x, wipe ((wipe σ vs).set j (some x)) vs = wipe σ vs)
    (he : ∀ (i : Nat) (r : Addr) H1, Ex H H1 → i < N.length → LN H1 r (Py.at1 N i) → EvL te ((wipe σ vs).set j (some (.ref r))) H1 ((Py.at1 M i).map nV)) : EvM (tLc (iList K tl) (gName j) tYes te vs) σ H M := by
  obtain ⟨rs, h1, h2⟩ := hN
  refine em_zL h (sq_of h1) (by rw [List.length_map, h2.len, hz]) (by rw [List.length_map, h2.len]; exact hn) hw fun i x l H1 e hx hl => ?_
  obtain ⟨r, rfl, hi, hr⟩ := (h2.mono e).of hx
  rw [← Py.at1_of hl]
  exact he i r H1 e hi hr
/-- values over a matrix's rows -/
theorem el_zM {a : Addr} {tl : TE} {j : Nat} {vs : List Nat} {ns : List Nat} (h : Ev tl σ H (.ref a)) (hN : MN H a N) (hz : ns.length = N.length) (hn : N.length ≤ 40000) (hw : ∀ x, wipe ((wipe σ vs).set j (some x)) vs = wipe σ vs)
    (he : ∀ (i : Nat) (r : Addr) H1, Ex H H1 → i < N.length → LN H1 r (Py.at1 N i) → Ev te ((wipe σ vs).set j (some (.ref r))) H1 (nV (Py.at0 ns i))) : EvL (tLc (iList K tl) (gName j) tYes te vs) σ H (ns.map nV) := by
  obtain ⟨rs, h1, h2⟩ := hN
  refine el_zL h (sq_of h1) (by rw [List.length_map, List.length_map, h2.len, hz]) (by rw [List.length_map, h2.len]; exact hn) hw fun i x w H1 e hx hw => ?_
  obtain ⟨r, rfl, hi, hr⟩ := (h2.mono e).of hx
  rw [nat_get (by omega)] at hw
  rw [← Option.some.inj hw]
  exact he i r H1 e hi hr
/-- values over a range -/
theorem el_zRN {ta : TA} {j : Nat} {vs : List Nat} {n : Nat} {ns : List Nat} (h : EvA ta σ H [.int (n : Int)]) (hz : ns.length = n) (hn : n ≤ 40000) (hw : ∀ x, wipe ((wipe σ vs).set j (some x)) vs = wipe σ vs)
    (he : ∀ (i : Nat) H1, Ex H H1 → i < n → Ev te ((wipe σ vs).set j (some (.int (i : Int)))) H1 (nV (Py.at0 ns i))) : EvL (tLc (iRng1 ta) (gName j) tYes te vs) σ H (ns.map nV) := by
  refine el_zR h (by rw [List.length_map, hz]) hn hw fun i w H1 e hw => ?_
  have hi : i < n := by
    rw [← hz]
    simpa using (List.getElem?_eq_some_iff.mp hw).1
  rw [nat_get (by omega)] at hw
  rw [← Option.some.inj hw]
  exact he i H1 e hi
theorem el_zLN {a : Addr} {tl : TE} {j : Nat} {vs : List Nat} {ms ns : List Nat} (h : Ev tl σ H (.ref a)) (hN : LN H a ms) (hz : ns.length = ms.length) (hn : ms.length ≤ 40000) (hw : ∀ x, wipe ((wipe σ vs).set j (some x)) vs = wipe σ vs)
    (he : ∀ (i : Nat) H1, Ex H H1 → i < ms.length → Ev te ((wipe σ vs).set j (some (nV (Py.at0 ms i)))) H1 (nV (Py.at0 ns i))) : EvL (tLc (iList K tl) (gName j) tYes te vs) σ H (ns.map nV) := by
  refine el_zL h (sq_of hN) (by rw [len_map, len_map, hz]) (by rw [len_map]; exact hn) hw fun i x w H1 e hx hw => ?_
  obtain ⟨hi, rfl⟩ := nat_of_get hx
  rw [nat_get (by omega)] at hw
  rw [← Option.some.inj hw]
  exact he i H1 e hi
/-! loops over rows, over two lists at once -/
theorem s_forM {a : Addr} {tl : TE} {j : Nat} (h : Ev tl σ H (.ref a)) (hM : MN H a M) (Pv : Nat → L2.St → Hp → Prop) (h0 : ∀ H1, Ex H H1 → Pv 0 σ H1) (hE : ∀ i σ' H', Pv i σ' H' → Ex H H')
    (hs : ∀ i r σ' H', i < M.length → LN H' r (Py.at1 M i) → Pv i σ' H' → tu { D with nx := Pv (i + 1), ct := Pv (i + 1), bk := D.nx } (σ'.set j (some (.ref r))) H') (hd : ∀ σ' H', Pv M.length σ' H' → D.nx σ' H') : tFor (iList K tl) (gName j) tu D σ H := by
  obtain ⟨rs, h1, h2⟩ := hM
  refine s_forLn h (sq_of h1) Pv h0 (fun i σ' H' _ pv => sq_of (hE i σ' H' pv _ _ h1)) (fun i x σ' H' hx pv => ?_) (fun σ' H' pv => hd σ' H' (by rw [List.length_map, h2.len] at pv; exact pv))
  obtain ⟨r, rfl, hi, hr⟩ := (h2.mono (hE i σ' H' pv)).of hx
  exact hs i r σ' H' hi hr pv
theorem q_forM {a : Addr} {tl : TE} {j : Nat} (h : Ev tl σ H (.ref a)) (hM : MN H a M) (Pv : Nat → L2.St → Hp → Prop) (h0 : ∀ H1, Ex H H1 → Pv 0 σ H1) (hE : ∀ i σ' H', Pv i σ' H' → Ex H H')
    (hs : ∀ i r σ' H', i < M.length → LN H' r (Py.at1 M i) → Pv i σ' H' → tu { D with nx := Pv (i + 1), ct := Pv (i + 1), bk := tz D } (σ'.set j (some (.ref r))) H') (hd : ∀ σ' H', Pv M.length σ' H' → tz D σ' H') : tSeq (tFor (iList K tl) (gName j) tu) tz D σ H :=
  s_forM (D := { D with nx := tz D }) h hM Pv h0 hE hs hd
theorem q_forZip {ta : TA} {a b : Addr} {j1 j2 : Nat} (h : EvA ta σ H [.ref a, .ref b]) (hx : SqL K H a xs) (hy : SqL K H b ys) (Pv : Nat → L2.St → Hp → Prop) (h0 : ∀ H1, Ex H H1 → Pv 0 σ H1) (hl : ∀ i σ' H', Pv i σ' H' → SqL K H' a xs ∧ SqL K H' b ys)
    (hs : ∀ (i : Nat) x y σ' H' H2, xs[i]? = some x → ys[i]? = some y → Pv i σ' H' → Ex H' H2 → tu { D with nx := Pv (i + 1), ct := Pv (i + 1), bk := tz D } ((σ'.set j1 (some x)).set j2 (some y)) H2) (hd : ∀ σ' H', Pv (min xs.length ys.length) σ' H' → tz D σ' H') :
    tSeq (tFor (iZip K ta) (gTup K 2 (gCons (gName j1) (gCons (gName j2) gNil))) tu) tz D σ H :=
  h H (Ex.refl H) _ fun H1 e => ⟨a, b, xs, ys, rfl, ex_l e hx, ex_l e hy, for_it (D := { D with nx := tz D }) (walk_zip (xs := xs) (ys := ys) rfl) Pv (h0 H1 e) (fun i σ' H' _ p => hl i σ' H' p) (fun i v σ' H' H2 hi p yy => by
    obtain ⟨T, x, y, rfl, hT, rfl, hx2, hy2⟩ := yy
    exact ⟨T, [x, y], rfl, st_of upd_same, rfl, x, [y], rfl, y, [], rfl, rfl, hs i x y σ' H' _ hx2 hy2 p (Ex.new hT)⟩) hd⟩
/-! three names at once -/
theorem q_par3 {ta : TA} {i j l : Nat} (h : EvA ta σ H [x, y, z]) (k : ∀ H1, Ex H H1 → tz D (((σ.set i (some x)).set j (some y)).set l (some z)) H1) : tSeq (tPar3 i j l ta) tz D σ H := h H (Ex.refl H) _ fun H1 e => ⟨x, y, z, rfl, k H1 e⟩
theorem q_ifPar3 {b : Bool} {ta : TA} {i j l : Nat} (h : EvT t σ H b) (h1 : b = true → EvA ta σ H [x, y, z]) (h2 : b = false → ((σ.set i (some x)).set j (some y)).set l (some z) = σ) (k : ∀ H1, Ex H H1 → tz D (((σ.set i (some x)).set j (some y)).set l (some z)) H1) : tSeq (tIfS t (tPar3 i j l ta) tNext) tz D σ H :=
  q_when h (fun hb H1 e1 => h1 hb H1 e1 _ fun H2 e2 => ⟨x, y, z, rfl, k H2 (e1.trans e2)⟩) (fun hb H1 e1 => by
    have g := k H1 e1
    rw [h2 hb] at g
    exact g)
theorem q_par3MML {i j l : Nat} (h1 : EvM ta σ H M) (h2 : EvM tb σ H N) (h3 : EvL tc σ H xs) (k : ∀ p q r H1, H p = none → H q = none → H r = none → Ex H H1 → MF H H1 p M → MF H H1 q N → H1 r = some (.lst xs) → tz D (((σ.set i (some (.ref p))).set j (some (.ref q))).set l (some (.ref r))) H1) :
    tSeq (tPar3 i j l (tCons ta (tCons tb (tCons tc tNil)))) tz D σ H := h1 H (Ex.refl H) _ fun p H1 np e1 hp => h2 H1 e1 _ fun q H2 nq e2 hq => h3 H2 (e1.trans e2) _ fun r H3 nr e3 hr =>
  ⟨_, _, _, rfl, k p q r H3 np (fresh_back e1 nq) (fresh_back (e1.trans e2) nr) ((e1.trans e2).trans e3) ((hp.up e2).up e3) ((hq.back e1).up e3) hr⟩
/-! comparisons -/
def dM (M : List (List Nat)) : PyData := .list (M.map fun l => .list (l.map dN))
theorem dp_rows : ∀ {rs : List Addr} {M : List (List Nat)}, LR H rs M → DpAll K H (rs.map V.ref) (M.map fun l => .list (l.map dN))
  | _, _, .nil => .nil
  | _, _, .cons h t => .cons (dp_list (sq_of h)) (dp_rows t)
theorem dp_mat (h : MN H p M) : Dp K H (.ref p) (dM M) := by
  obtain ⟨rs, h1, h2⟩ := h
  exact .lst (sq_of h1) (dp_rows h2)
theorem lay_rows : ∀ M : List (List Nat), PyData.canLayAll0 (M.map fun l => .list (l.map dN)) = true ∧ PyData.depthAll (M.map fun l => .list (l.map dN)) ≤ 1
  | [] => ⟨rfl, Nat.zero_le _⟩
  | l :: M => by
    have ih := lay_rows M
    refine ⟨?_, ?_⟩
    · show (PyData.canLayAll0 (l.map dN) && PyData.canLayAll0 (M.map fun l => .list (l.map dN))) = true
      rw [ih.1, (lay_nats l).1] <;> rfl
    · show max (PyData.depthAll (l.map dN) + 1) (PyData.depthAll (M.map fun l => .list (l.map dN))) ≤ 1
      rw [(lay_nats l).2]
      omega
theorem shaped_mat (M : List (List Nat)) : SeqAt.shaped (dM M) = true := by
  unfold SeqAt.shaped
  have h1 : PyData.canLay0 (dM M) = true := (lay_rows M).1
  have h2 : PyData.depth (dM M) ≤ 2 := by
    show PyData.depthAll _ + 1 ≤ 2
    have := (lay_rows M).2
    omega
  rw [h1, decide_eq_true (show PyData.depth (dM M) ≤ 64 by omega)] <;> rfl
theorem rv_eqM (h : MN H p M) (h2 : MN H q M) : RV (rEqD K) (.ref p) (.ref q) H (.bl true) := rv_eqD (dp_mat h) (dp_mat h2) (shaped_mat M)
theorem rv_neM (h : MN H p M) (h2 : MN H q M) : RV (rNeD K) (.ref p) (.ref q) H (.bl false) := rv_neD (dp_mat h) (dp_mat h2) (shaped_mat M)
theorem ev_opVM (ha : Ev ta σ H x) (hb : EvM tb σ H M) (hr : ∀ q H1, MN H1 q M → Ex H H1 → RV r x (.ref q) H1 z) : Ev (tOp r ta tb) σ H z := fun H1 e Q k =>
  ha H1 e _ fun H2 e2 => hb H2 (e.trans e2) _ fun q H3 _ e3 hq => hr q H3 hq.mn ((e.trans e2).trans e3) H3 (Ex.refl _) Q fun H4 e4 => k H4 ((e2.trans e3).trans e4)
/-- m[i] of a matrix -/
theorem mn_ix {k : Nat} (h : MN H p M) (hk : k < M.length) : ∃ r, LN H r (Py.at1 M k) ∧ RV (rIxL K) (.ref p) (.int (k : Int)) H (.ref r) := by
  obtain ⟨rs, h1, h2⟩ := h
  obtain ⟨r, h3, h4⟩ := h2.at hk
  exact ⟨r, h4, rv_ixLN (sq_of h1) (by rw [List.getElem?_map, h3] <;> rfl)⟩
theorem mf_ix {k : Nat} (h : MF H0 H p M) (hk : k < M.length) : ∃ r, LN H r (Py.at1 M k) ∧ H0 r = none ∧ RV (rIxL K) (.ref p) (.int (k : Int)) H (.ref r) := by
  obtain ⟨rs, h1, h2, h5⟩ := h
  obtain ⟨r, h3, h4⟩ := h2.at hk
  exact ⟨r, h4, h5 r (List.mem_of_getElem? h3), rv_ixLN (sq_of h1) (by rw [List.getElem?_map, h3] <;> rfl)⟩
theorem ev_ix2 {i j : Nat} (h : EvM te σ H M) (h1 : ∀ H1, Ex H H1 → Ev ta σ H1 (.int (i : Int))) (h2 : ∀ H1, Ex H H1 → Ev tb σ H1 (.int (j : Int))) (hi : i < M.length) (hj : j < (Py.at1 M i).length) : Ev (tOp (rIxL K) (tOp (rIxL K) te ta) tb) σ H (nV (Py.at0 (Py.at1 M i) j)) := fun H1 e Q k =>
  h H1 e _ fun p H2 _ e2 hp => by
    obtain ⟨r, hr, hv⟩ := mn_ix (K := K) hp.mn hi
    exact h1 H2 (e.trans e2) H2 (Ex.refl _) _ fun H3 e3 => hv H3 e3 _ fun H4 e4 => h2 H2 (e.trans e2) H4 (e3.trans e4) _ fun H5 e5 => rv_ixLN (sq_of (hr.up ((e3.trans e4).trans e5))) (nat_get hj) H5 (Ex.refl _) Q fun H6 e6 => k H6 ((((e2.trans e3).trans e4).trans e5).trans e6)
/-- two small numbers in a message -/
theorem num_len : Gf.alln (fun n => Nat.ble ((toString (n : Int) : Str).length) 10 && Nat.ble ((n : Int).natAbs.log2) 100) 256 = true := by decide +kernel
theorem js2 {R : Str → Hp → Prop} {td : TE} {c1 c2 : Str} {a b : Nat} (ha : Ev ta σ H (nV a)) (hc : Ev tc σ H (.str c1)) (hb : Ev tb σ H (nV b)) (hd : Ev td σ H (.str c2)) (h1 : a < 256) (h2 : b < 256) (l1 : c1.length ≤ 1000) (l2 : c2.length ≤ 1000)
    (k : ∀ s H1, Ex H H1 → R s H1) : tJs [tFmt ta, tc, tFmt tb, td] Str.empty σ H R := by
  obtain ⟨a1, a2⟩ := Bool.and_eq_true_iff.mp (Gf.alln_at num_len a h1)
  obtain ⟨b1, b2⟩ := Bool.and_eq_true_iff.mp (Gf.alln_at num_len b h2)
  have a1 : (toString ((a : Nat) : Int) : Str).length ≤ 10 := Nat.le_of_ble_eq_true a1
  have b1 : (toString ((b : Nat) : Int) : Str).length ≤ 10 := Nat.le_of_ble_eq_true b1
  have a2 := Nat.le_of_ble_eq_true a2
  have b2 := Nat.le_of_ble_eq_true b2
  have z0 : (Str.empty : Str).length = 0 := by decide
  have z1 : (Str.empty ++ (toString ((a : Nat) : Int) : Str)).length ≤ 10 := by
    rw [strLen_append]
    omega
  have z2 : (Str.empty ++ (toString ((a : Nat) : Int) : Str) ++ c1).length ≤ 1010 := by
    rw [strLen_append]
    omega
  have z3 : (Str.empty ++ (toString ((a : Nat) : Int) : Str) ++ c1 ++ (toString ((b : Nat) : Int) : Str)).length ≤ 1020 := by
    rw [strLen_append]
    omega
  have z4 : (Str.empty ++ (toString ((a : Nat) : Int) : Str) ++ c1 ++ (toString ((b : Nat) : Int) : Str) ++ c2).length ≤ 2020 := by
    rw [strLen_append]
    omega
  refine ha H (Ex.refl H) _ fun H1 e1 => Or.inr ⟨_, rfl, Nat.lt_of_le_of_lt a2 (by decide), _, rfl, sz_of (by omega), ?_⟩
  refine hc H1 e1 _ fun H2 e2 => ⟨_, rfl, sz_of (by omega), ?_⟩
  refine hb H2 (e1.trans e2) _ fun H3 e3 => Or.inr ⟨_, rfl, Nat.lt_of_le_of_lt b2 (by decide), _, rfl, sz_of (by omega), ?_⟩
  refine hd H3 ((e1.trans e2).trans e3) _ fun H4 e4 => ⟨_, rfl, sz_of (by omega), ?_⟩
  exact k _ H4 (((e1.trans e2).trans e3).trans e4)
theorem s_dropC {sp : Sp} {E : XK} {vs : List V} (h : EvA ta0 σ H vs) (k : ∀ H1, Ex H H1 → sp (vs ++ []) H1 (fun _ H2 => D.nx σ H2) E) : tDrop (tCall sp [] E ta0) D σ H := h H (Ex.refl H) _ k
theorem rv_up (h : RV r x y H z) (e : Ex H H') : RV r x y H' z := fun H1 e1 => h H1 (e.trans e1)
theorem dne_t {a b : Nat} (h : (!decide (V.int (a : Int) = V.int (b : Int))) = true) : ¬ a = b := by
  intro q
  rw [q] at h
  simp at h
theorem dne_f {a b : Nat} (h : (!decide (V.int (a : Int) = V.int (b : Int))) = false) : a = b := by
  have q := of_decide_eq_true (show decide (V.int (a : Int) = V.int (b : Int)) = true by simpa using h)
  have := V.int.inj q
  omega
end
section
variable {X : Cx} {K : PySem.W.Frag}
theorem pi_listK {tg e : Expr} {te : TE} (h : X.K = K) (he : PE X e te) : PI X tg e (iList K te) := h ▸ pi_list he
end
end Mx

set_option Elab.async false
set_option linter.all false
set_option maxRecDepth 100000
set_option maxHeartbeats 4000000
namespace K05
open PySem PySem.Spec PyProof.Rows L2 Evl Mx
def top (i : Nat) : Stmt := PySem.Challenge.pw_cairn_k05_products_of_matrices.main.body.getD i (.Pass ⟨0, 0, 0, 0⟩)
local macro_rules | `(tactic| walk_at "oct") => `(tactic| first | assumption | decide | omega | exact Gf.gm_lt _ _ | exact Gf.gi_lt _ | exact Gf.gp_lt _ _ | exact Gf.xor_lt (by walk_at "oct") (by walk_at "oct"))
local macro_rules | `(tactic| walk_at "sq") => `(tactic| first | assumption | exact sq_of (by assumption) | exact ex_l (by assumption) (by walk_at "sq"))
local macro_rules | `(tactic| walk_at "ev") => `(tactic| first
  | (with_reducible exact ev_c)
  | ((with_reducible apply ev_var); first | rfl | assumption)
  | ((with_reducible apply et_test); walk_at "ev")
  | ((with_reducible apply et_truI); walk_at "ev")
  | ((with_reducible apply et_B); walk_at "ev")
  | ((with_reducible apply et_not); walk_at "ev")
  | ((with_reducible apply et_and); walk_at "ev"; intro _; walk_at "ev")
  | ((with_reducible apply et_or); walk_at "ev"; intro _; walk_at "ev")
  | ((with_reducible apply ev_andV); walk_at "ev"; intro _; walk_at "ev")
  | ((with_reducible apply ev_orV); walk_at "ev"; intro _; walk_at "ev")
  | ((with_reducible apply ev_notV); walk_at "ev")
  | ((with_reducible apply ev_op); walk_at "ev"; walk_at "ev"; walk_at "rv")
  | ((with_reducible apply ev_un); walk_at "ev"; exact ru_neg)
  | (with_reducible exact ea_nil)
  | ((with_reducible apply ea_cons); walk_at "ev"; walk_at "ev")
  | ((with_reducible apply ev_int); walk_at "ev")
  | ((with_reducible apply ev_lenL); walk_at "ev"; walk_at "sq")
  | ((with_reducible apply ev_isEr); walk_at "ev"; walk_at "ev"; assumption)
  | ((with_reducible apply ev_isEt); walk_at "ev"; walk_at "ev"; assumption)
  | ((with_reducible apply ev_call); walk_at "ev"; walk_at "spv")
  | ((with_reducible apply el_call); walk_at "ev"; walk_at "spv"))
local macro_rules | `(tactic| walk_at "rv") => `(tactic| first
  | (with_reducible exact rv_xor)
  | (with_reducible exact rv_addN)
  | (with_reducible exact rv_and1)
  | (with_reducible exact rv_shr1)
  | (with_reducible exact rv_I0)
  | (with_reducible exact rv_eq rfl)
  | (with_reducible exact rv_ne rfl)
  | ((with_reducible apply rv_mod); first | decide | omega)
  | ((with_reducible apply rv_fdiv); first | decide | omega)
  | ((with_reducible apply rv_mulL); decide))
abbrev s_power : Stmt := top 8
abbrev N_power : List Str := ["a", "n"]
abbrev P_power : List Str := ["a", "n"]
theorem sc_power : FnScope N_power P_power (defScope s_power) := ⟨rfl, rfl, rfl, by decide +kernel, rfl, by decide +kernel, by decide +kernel⟩
abbrev s_scaled : Stmt := top 9
abbrev N_scaled : List Str := ["a", "octets", "shift", "b"]
abbrev P_scaled : List Str := ["a", "octets"]
theorem sc_scaled : FnScope N_scaled P_scaled (defScope s_scaled) := ⟨rfl, rfl, rfl, by decide +kernel, rfl, by decide +kernel, by decide +kernel⟩
abbrev s_mixed : Stmt := top 10
abbrev N_mixed : List Str := ["octets", "factor", "others", "a", "b"]
abbrev P_mixed : List Str := ["octets", "factor", "others"]
theorem sc_mixed : FnScope N_mixed P_mixed (defScope s_mixed) := ⟨rfl, rfl, rfl, by decide +kernel, rfl, by decide +kernel, by decide +kernel⟩
abbrev s_combined : Stmt := top 11
abbrev N_combined : List Str := ["factors", "rows", "result", "factor", "row"]
abbrev P_combined : List Str := ["factors", "rows"]
theorem sc_combined : FnScope N_combined P_combined (defScope s_combined) := ⟨rfl, rfl, rfl, by decide +kernel, rfl, by decide +kernel, by decide +kernel⟩
abbrev s_identity : Stmt := top 13
abbrev N_identity : List Str := ["n", "column", "row"]
abbrev P_identity : List Str := ["n"]
theorem sc_identity : FnScope N_identity P_identity (defScope s_identity) := ⟨rfl, rfl, rfl, by decide +kernel, rfl, by decide +kernel, by decide +kernel⟩
abbrev s_mat_mul : Stmt := top 14
abbrev N_mat_mul : List Str := ["a", "b", "row"]
abbrev P_mat_mul : List Str := ["a", "b"]
theorem sc_mat_mul : FnScope N_mat_mul P_mat_mul (defScope s_mat_mul) := ⟨rfl, rfl, rfl, by decide +kernel, rfl, by decide +kernel, by decide +kernel⟩
abbrev s_mat_vec : Stmt := top 15
abbrev N_mat_vec : List Str := ["a", "v", "column", "octet", "row"]
abbrev P_mat_vec : List Str := ["a", "v"]
theorem sc_mat_vec : FnScope N_mat_vec P_mat_vec (defScope s_mat_vec) := ⟨rfl, rfl, rfl, by decide +kernel, rfl, by decide +kernel, by decide +kernel⟩
abbrev s_vandermonde : Stmt := top 16
abbrev N_vandermonde : List Str := ["xs", "width", "exponent", "x"]
abbrev P_vandermonde : List Str := ["xs", "width"]
theorem sc_vandermonde : FnScope N_vandermonde P_vandermonde (defScope s_vandermonde) := ⟨rfl, rfl, rfl, by decide +kernel, rfl, by decide +kernel, by decide +kernel⟩
abbrev s__law_is_integer : Stmt := top 18
abbrev N__law_is_integer : List Str := ["actual"]
abbrev P__law_is_integer : List Str := ["actual"]
theorem sc__law_is_integer : FnScope N__law_is_integer P__law_is_integer (defScope s__law_is_integer) := ⟨rfl, rfl, rfl, by decide +kernel, rfl, by decide +kernel, by decide +kernel⟩
abbrev s__law_cell : Stmt := top 19
abbrev N__law_cell : List Str := ["script", "k"]
abbrev P__law_cell : List Str := ["script", "k"]
theorem sc__law_cell : FnScope N__law_cell P__law_cell (defScope s__law_cell) := ⟨rfl, rfl, rfl, by decide +kernel, rfl, by decide +kernel, by decide +kernel⟩
abbrev s__law_mixed : Stmt := top 20
abbrev N__law_mixed : List Str := ["cell", "k", "first", "second"]
abbrev P__law_mixed : List Str := ["cell", "k"]
theorem sc__law_mixed : FnScope N__law_mixed P__law_mixed (defScope s__law_mixed) := ⟨rfl, rfl, rfl, by decide +kernel, rfl, by decide +kernel, by decide +kernel⟩
abbrev s__law_digits : Stmt := top 21
abbrev N__law_digits : List Str := ["cell", "count", "many", "digits", "k"]
abbrev P__law_digits : List Str := ["cell", "count", "many"]
theorem sc__law_digits : FnScope N__law_digits P__law_digits (defScope s__law_digits) := ⟨rfl, rfl, rfl, by decide +kernel, rfl, by decide +kernel, by decide +kernel⟩
abbrev s__law_mul : Stmt := top 22
abbrev N__law_mul : List Str := ["a", "b", "product", "k"]
abbrev P__law_mul : List Str := ["a", "b"]
theorem sc__law_mul : FnScope N__law_mul P__law_mul (defScope s__law_mul) := ⟨rfl, rfl, rfl, by decide +kernel, rfl, by decide +kernel, by decide +kernel⟩
abbrev s__law_octets : Stmt := top 23
abbrev N__law_octets : List Str := ["actual", "size", "octet"]
abbrev P__law_octets : List Str := ["actual", "size"]
theorem sc__law_octets : FnScope N__law_octets P__law_octets (defScope s__law_octets) := ⟨rfl, rfl, rfl, by decide +kernel, rfl, by decide +kernel, by decide +kernel⟩
abbrev s__law_matrix : Stmt := top 24
abbrev N__law_matrix : List Str := ["cell", "rows", "columns", "digits", "j"]
abbrev P__law_matrix : List Str := ["cell", "rows", "columns"]
theorem sc__law_matrix : FnScope N__law_matrix P__law_matrix (defScope s__law_matrix) := ⟨rfl, rfl, rfl, by decide +kernel, rfl, by decide +kernel, by decide +kernel⟩
abbrev s__law_dot : Stmt := top 25
abbrev N__law_dot : List Str := ["row", "column", "total", "k"]
abbrev P__law_dot : List Str := ["row", "column"]
theorem sc__law_dot : FnScope N__law_dot P__law_dot (defScope s__law_dot) := ⟨rfl, rfl, rfl, by decide +kernel, rfl, by decide +kernel, by decide +kernel⟩
abbrev s__law_times : Stmt := top 26
abbrev N__law_times : List Str := ["a", "b", "columns", "row", "k", "column"]
abbrev P__law_times : List Str := ["a", "b"]
theorem sc__law_times : FnScope N__law_times P__law_times (defScope s__law_times) := ⟨rfl, rfl, rfl, by decide +kernel, rfl, by decide +kernel, by decide +kernel⟩
abbrev s__law_is_matrix : Stmt := top 27
abbrev N__law_is_matrix : List Str := ["actual", "rows", "columns", "row"]
abbrev P__law_is_matrix : List Str := ["actual", "rows", "columns"]
theorem sc__law_is_matrix : FnScope N__law_is_matrix P__law_is_matrix (defScope s__law_is_matrix) := ⟨rfl, rfl, rfl, by decide +kernel, rfl, by decide +kernel, by decide +kernel⟩
abbrev s__law_mismatch : Stmt := top 28
abbrev N__law_mismatch : List Str := ["word", "a", "b", "e"]
abbrev P__law_mismatch : List Str := ["word", "a", "b"]
theorem sc__law_mismatch : FnScope N__law_mismatch P__law_mismatch (defScope s__law_mismatch) := ⟨rfl, rfl, rfl, by decide +kernel, rfl, by decide +kernel, by decide +kernel⟩
abbrev s__law_powers : Stmt := top 29
abbrev N__law_powers : List Str := ["x", "width", "row", "k"]
abbrev P__law_powers : List Str := ["x", "width"]
theorem sc__law_powers : FnScope N__law_powers P__law_powers (defScope s__law_powers) := ⟨rfl, rfl, rfl, by decide +kernel, rfl, by decide +kernel, by decide +kernel⟩
abbrev s_law : Stmt := top 30
abbrev N_law : List Str := ["script", "sizes", "height", "width", "columns", "a", "other", "b", "length", "v", "first", "second", "third", "row", "found", "column", "n", "unit", "k", "j", "long", "powers", "x"]
abbrev P_law : List Str := ["script"]
theorem sc_law : FnScope N_law P_law (defScope s_law) := ⟨rfl, rfl, rfl, by decide +kernel, rfl, by decide +kernel, by decide +kernel⟩
structure Txt (K : PySem.W.Frag) (mg : Str → Option Value) : Prop where
  F_power : FnAt K "power" s_power
  g_power : mg "power" = some (.ref (He.ga K "power"))
  p_power : PySem.W.keepIn K (.ref (He.ga K "power")) = true
  F_scaled : FnAt K "scaled" s_scaled
  g_scaled : mg "scaled" = some (.ref (He.ga K "scaled"))
  p_scaled : PySem.W.keepIn K (.ref (He.ga K "scaled")) = true
  F_mixed : FnAt K "mixed" s_mixed
  g_mixed : mg "mixed" = some (.ref (He.ga K "mixed"))
  p_mixed : PySem.W.keepIn K (.ref (He.ga K "mixed")) = true
  F_combined : FnAt K "combined" s_combined
  g_combined : mg "combined" = some (.ref (He.ga K "combined"))
  p_combined : PySem.W.keepIn K (.ref (He.ga K "combined")) = true
  F_identity : FnAt K "identity" s_identity
  g_identity : mg "identity" = some (.ref (He.ga K "identity"))
  p_identity : PySem.W.keepIn K (.ref (He.ga K "identity")) = true
  F_mat_mul : FnAt K "mat_mul" s_mat_mul
  g_mat_mul : mg "mat_mul" = some (.ref (He.ga K "mat_mul"))
  p_mat_mul : PySem.W.keepIn K (.ref (He.ga K "mat_mul")) = true
  F_mat_vec : FnAt K "mat_vec" s_mat_vec
  g_mat_vec : mg "mat_vec" = some (.ref (He.ga K "mat_vec"))
  p_mat_vec : PySem.W.keepIn K (.ref (He.ga K "mat_vec")) = true
  F_vandermonde : FnAt K "vandermonde" s_vandermonde
  g_vandermonde : mg "vandermonde" = some (.ref (He.ga K "vandermonde"))
  p_vandermonde : PySem.W.keepIn K (.ref (He.ga K "vandermonde")) = true
  F__law_is_integer : FnAt K "_law_is_integer" s__law_is_integer
  g__law_is_integer : mg "_law_is_integer" = some (.ref (He.ga K "_law_is_integer"))
  p__law_is_integer : PySem.W.keepIn K (.ref (He.ga K "_law_is_integer")) = true
  F__law_cell : FnAt K "_law_cell" s__law_cell
  g__law_cell : mg "_law_cell" = some (.ref (He.ga K "_law_cell"))
  p__law_cell : PySem.W.keepIn K (.ref (He.ga K "_law_cell")) = true
  F__law_mixed : FnAt K "_law_mixed" s__law_mixed
  g__law_mixed : mg "_law_mixed" = some (.ref (He.ga K "_law_mixed"))
  p__law_mixed : PySem.W.keepIn K (.ref (He.ga K "_law_mixed")) = true
  F__law_digits : FnAt K "_law_digits" s__law_digits
  g__law_digits : mg "_law_digits" = some (.ref (He.ga K "_law_digits"))
  p__law_digits : PySem.W.keepIn K (.ref (He.ga K "_law_digits")) = true
  F__law_mul : FnAt K "_law_mul" s__law_mul
  g__law_mul : mg "_law_mul" = some (.ref (He.ga K "_law_mul"))
  p__law_mul : PySem.W.keepIn K (.ref (He.ga K "_law_mul")) = true
  F__law_octets : FnAt K "_law_octets" s__law_octets
  g__law_octets : mg "_law_octets" = some (.ref (He.ga K "_law_octets"))
  p__law_octets : PySem.W.keepIn K (.ref (He.ga K "_law_octets")) = true
  F__law_matrix : FnAt K "_law_matrix" s__law_matrix
  g__law_matrix : mg "_law_matrix" = some (.ref (He.ga K "_law_matrix"))
  p__law_matrix : PySem.W.keepIn K (.ref (He.ga K "_law_matrix")) = true
  F__law_dot : FnAt K "_law_dot" s__law_dot
  g__law_dot : mg "_law_dot" = some (.ref (He.ga K "_law_dot"))
  p__law_dot : PySem.W.keepIn K (.ref (He.ga K "_law_dot")) = true
  F__law_times : FnAt K "_law_times" s__law_times
  g__law_times : mg "_law_times" = some (.ref (He.ga K "_law_times"))
  p__law_times : PySem.W.keepIn K (.ref (He.ga K "_law_times")) = true
  F__law_is_matrix : FnAt K "_law_is_matrix" s__law_is_matrix
  g__law_is_matrix : mg "_law_is_matrix" = some (.ref (He.ga K "_law_is_matrix"))
  p__law_is_matrix : PySem.W.keepIn K (.ref (He.ga K "_law_is_matrix")) = true
  F__law_mismatch : FnAt K "_law_mismatch" s__law_mismatch
  g__law_mismatch : mg "_law_mismatch" = some (.ref (He.ga K "_law_mismatch"))
  p__law_mismatch : PySem.W.keepIn K (.ref (He.ga K "_law_mismatch")) = true
  F__law_powers : FnAt K "_law_powers" s__law_powers
  g__law_powers : mg "_law_powers" = some (.ref (He.ga K "_law_powers"))
  p__law_powers : PySem.W.keepIn K (.ref (He.ga K "_law_powers")) = true
  F_law : FnAt K "law" s_law
  g_law : mg "law" = some (.ref (He.ga K "law"))
  p_law : PySem.W.keepIn K (.ref (He.ga K "law")) = true
  m_ValueError : mg "ValueError" = none
  m_bool : mg "bool" = none
  m_int : mg "int" = none
  m_isinstance : mg "isinstance" = none
  m_len : mg "len" = none
  m_list : mg "list" = none
  m_range : mg "range" = none
  m_zip : mg "zip" = none
  c_ORDER : mg "ORDER" = some (cst mg "ORDER")
  r_ORDER : RelV (.int 255) (cst mg "ORDER")
  c_LOGS : mg "LOGS" = some (.ref (He.ga K "LOGS"))
  r_LOGS : RelV (.ref (He.ga K "LOGS")) (.ref (He.ga K "LOGS"))
  t_LOGS : ∀ H : Hp, SqT K H (He.ga K "LOGS") (Gf.logL.map nV)
  c_POWERS : mg "POWERS" = some (.ref (He.ga K "POWERS"))
  r_POWERS : RelV (.ref (He.ga K "POWERS")) (.ref (He.ga K "POWERS"))
  t_POWERS : ∀ H : Hp, SqT K H (He.ga K "POWERS") (Gf.powL.map nV)
  c_CairnError : mg "CairnError" = some (.ref (He.ga K "CairnError"))
  r_CairnError : RelV (.ref (He.ga K "CairnError")) (.ref (He.ga K "CairnError"))
  x_CairnError : PySem.W.excIn K (He.ga K "CairnError") He.veBase "ValueError.__new__" = true
  k_CairnError : PySem.W.keepIn K (.ref (He.ga K "CairnError")) = true
  b_CairnError : PySem.W.subIn K (.ref (He.ga K "CairnError")) (.type "BaseException") = some true
  t_CairnError : PySem.W.typeIn K (.ref (He.ga K "CairnError")) = some (.type "type")
  c_ShapeMismatch : mg "ShapeMismatch" = some (.ref (He.ga K "ShapeMismatch"))
  r_ShapeMismatch : RelV (.ref (He.ga K "ShapeMismatch")) (.ref (He.ga K "ShapeMismatch"))
  x_ShapeMismatch : PySem.W.excIn K (He.ga K "ShapeMismatch") He.veBase "ValueError.__new__" = true
  k_ShapeMismatch : PySem.W.keepIn K (.ref (He.ga K "ShapeMismatch")) = true
  b_ShapeMismatch : PySem.W.subIn K (.ref (He.ga K "ShapeMismatch")) (.type "BaseException") = some true
  t_ShapeMismatch : PySem.W.typeIn K (.ref (He.ga K "ShapeMismatch")) = some (.type "type")
  c_Singular : mg "Singular" = some (.ref (He.ga K "Singular"))
  r_Singular : RelV (.ref (He.ga K "Singular")) (.ref (He.ga K "Singular"))
  x_Singular : PySem.W.excIn K (He.ga K "Singular") He.veBase "ValueError.__new__" = true
  k_Singular : PySem.W.keepIn K (.ref (He.ga K "Singular")) = true
  b_Singular : PySem.W.subIn K (.ref (He.ga K "Singular")) (.type "BaseException") = some true
  t_Singular : PySem.W.typeIn K (.ref (He.ga K "Singular")) = some (.type "type")
  ec_ShapeMismatch : ExcC K (He.ga K "ShapeMismatch")
  iv_ShapeMismatch : PySem.W.kitOne K (.ref (He.ga K "ShapeMismatch")) (.type "ValueError") = some true
  is_ShapeMismatch_ShapeMismatch : PySem.W.kitOne K (.ref (He.ga K "ShapeMismatch")) (.ref (He.ga K "ShapeMismatch")) = some true
  is_ShapeMismatch_Singular : PySem.W.kitOne K (.ref (He.ga K "ShapeMismatch")) (.ref (He.ga K "Singular")) = some false
  ex_ShapeMismatch_CairnError : PySem.W.exmOne K (.ref (He.ga K "ShapeMismatch")) (.ref (He.ga K "CairnError")) = some true
section
variable {P : Program} {w : World} {K : PySem.W.Frag} {mg : Str → Option Value} {base : Heap}
/-- power(a, n) -/
def sp_power : Sp := fun vs H Q _ => ∃ (a n : Nat), vs = [.int (a : Int), .int (n : Int)] ∧ a < 256 ∧ RetV (.int ((Gf.gp a n : Nat) : Int)) H Q
theorem spv_power {a n : Nat} {H : Hp} (ha : a < 256) : SpV sp_power ([.int (a : Int), .int (n : Int)] ++ []) H (.int ((Gf.gp a n : Nat) : Int)) := fun H1 e Q q E => ⟨a, n, rfl, ha, q⟩
local macro_rules | `(tactic| walk_at "spv") => `(tactic| first | ((with_reducible apply spv_power) <;> walk_at "oct") | (apply spv_power <;> walk_at "oct"))
theorem ok_power (T : Txt K mg) : Okf P w K mg base CX0 1 "power" s_power P_power sp_power := by
  obtain ⟨fd, F⟩ := T.F_power
  refine ⟨fd, F.ok sc_power (fun vs H Q E h => ?_) (fun cdv A outer s H vs Q E hr h => ?_), F.bindsN fun _ _ _ _ _ _ us hl => match us, hl with | [_, _], _ => rfl, F⟩
  · obtain ⟨a, n, rfl, ha, k⟩ := h
    rfl
  · obtain ⟨a, n, rfl, ha, k⟩ := h
    refine ⟨_, PSs.nox (pss_cons (ps_if (pt_cmpR op_eq (pv 1) pe_int (nomark _)) (pss_one (ps_ret pe_int)) pss_nil)
(pss_cons (ps_if (pt_cmpR op_eq (pv 0) pe_int (nomark _)) (pss_one (ps_ret pe_int)) pss_nil)
(pss_one (ps_ret (pe_ix (ix_tupK (K := K) rfl) (pe_glob rfl T.c_POWERS T.r_POWERS) (pe_op op_mod (pe_op op_mul (pe_ix (ix_tupK (K := K) rfl) (pe_glob rfl T.c_LOGS T.r_LOGS) (pv 0) (fun _ _ => rfl)) (pv 1)) (pe_glob rfl T.c_ORDER T.r_ORDER)) (fun _ _ => rfl)))))), ?_⟩
    refine q_when (by walk_at "ev") (fun h0 H1 e1 => ?_) (fun h0 H1 e1 => ?_)
    · refine s_ret ev_c fun H2 e2 => ?_
      have z : n = 0 := by simpa using h0
      rw [z, Gf.gp_none] at k
      exact k H2 (e1.trans e2)
    · have z : ¬ n = 0 := by simpa using h0
      refine q_when (by walk_at "ev") (fun h1 H2 e2 => ?_) (fun h1 H2 e2 => ?_)
      · refine s_ret ev_c fun H3 e3 => ?_
        have z1 : a = 0 := by simpa using h1
        rw [z1, Gf.gp_zero z] at k
        exact k H3 ((e1.trans e2).trans e3)
      · have z1 : ¬ a = 0 := by simpa using h1
        refine s_ret (v := .int ((Gf.gp a n : Nat) : Int)) ?_ fun H3 e3 => k H3 ((e1.trans e2).trans e3)
        rw [Gf.gp_pos z1 z]
        exact ev_op ev_c (ev_op (ev_op (ev_op ev_c (ev_var rfl) (rv_ixTN (T.t_LOGS _) (log_at ha))) (ev_var rfl) (rv_mulN (Nat.lt_of_lt_of_le (Gf.lg_lt ha) (by decide)))) ev_c (rv_modN (by decide))) (rv_ixTN (T.t_POWERS _) (pow_at (Nat.mod_lt _ (by decide))))
def sp_scaled : Sp := fun vs H Q _ => ∃ (a : Nat) (p : Addr) (l : List Nat), vs = [.int (a : Int), .ref p] ∧ a < 256 ∧ LN H p l ∧ Py.Oc l ∧ l.length ≤ 30000 ∧ RetL ((l.map (Gf.gm a)).map nV) H Q
theorem spl_scaled {a : Nat} {p : Addr} {l : List Nat} {H : Hp} (ha : a < 256) (h : LN H p l) (ho : Py.Oc l) (hl : l.length ≤ 30000) : SpL sp_scaled ([.int (a : Int), .ref p] ++ []) H ((l.map (Gf.gm a)).map nV) := fun H1 e Q q E => ⟨a, p, l, rfl, ha, h.up e, ho, hl, q⟩
local macro_rules | `(tactic| walk_at "spv") => `(tactic| ((with_reducible apply spl_scaled) <;> walk_at "oct"))
theorem ok_scaled (T : Txt K mg) : Okf P w K mg base CX0 1 "scaled" s_scaled P_scaled sp_scaled := by
  obtain ⟨fd, F⟩ := T.F_scaled
  refine ⟨fd, F.ok sc_scaled (fun vs H Q E h => ?_) (fun cdv A outer s H vs Q E hr h => ?_), F.bindsN fun _ _ _ _ _ _ us hl => match us, hl with | [_, _], _ => rfl, F⟩
  · obtain ⟨a, p, l, rfl, ha, hp, ho, hl, k⟩ := h
    rfl
  · obtain ⟨a, p, l, rfl, ha, hp, ho, hl, k⟩ := h
    refine ⟨_, PSs.nox (pss_cons (ps_if (pt_cmpR op_eq (pv 0) pe_int (nomark _)) (pss_one (ps_ret (pe_op op_rep (pe_lst (pa_cons pe_int pa_nil)) (pe_callB (call_lenK (K := K) rfl) (by rfl) T.m_len (by decide +kernel) (pa_cons (pv 1) pa_nil))))) pss_nil)
(pss_cons (ps_set (i := 2) sc_scaled.nd rfl (by first | exact Or.inl rfl | exact Or.inr rfl) (pe_ix (ix_tupK (K := K) rfl) (pe_glob rfl T.c_LOGS T.r_LOGS) (pv 0) (fun _ _ => rfl)))
(pss_one (ps_ret (pe_lc (own := [("b", 3)]) (g := gName 3) (tt := tYes) (by rfl) sc_scaled.nd (pi_listK (K := K) rfl (pv 1)) (blkOk_by (own := [("b", 3)]) (N := N_scaled) (sc := defScope s_scaled) (by decide +kernel)) (fun _ _ _ _ _ => (pg_name (i := 3) sc_scaled.nd rfl (by first | exact Or.inl rfl | exact Or.inr rfl))) (fun _ _ _ _ _ => pts_nil) (fun _ _ _ _ _ => (pe_ifExp (pt_truthK (K := K) rfl (pv 3) (by intro _; rfl)) (pe_ix (ix_tupK (K := K) rfl) (pe_glob rfl T.c_POWERS T.r_POWERS) (pe_op op_mod (pe_op op_add (pv 2) (pe_ix (ix_tupK (K := K) rfl) (pe_glob rfl T.c_LOGS T.r_LOGS) (pv 3) (fun _ _ => rfl))) (pe_glob rfl T.c_ORDER T.r_ORDER)) (fun _ _ => rfl)) pe_int))))))), ?_⟩
    refine q_when (by walk_at "ev") (fun h0 H1 e1 => ?_) (fun h0 H1 e1 => ?_)
    · have z : a = 0 := by simpa using h0
      refine s_retL (el_is (el_rep (n := l.length) (el_lst (ea_cons ev_c ea_nil) (by decide)) (ev_is (ev_lenL (ev_var rfl) (sq_of (hp.up e1))) (by rw [len_map])) (by omega)) ?_) fun q H2 nq e2 hq => k q H2 (fresh_back e1 nq) (e1.trans e2) hq
      rw [map_rep]
      congr 1
      rw [z]
      clear hp k
      induction l with
      | nil => rfl
      | cons c l ih =>
        rw [List.map_cons, Gf.gm_zero (.inl rfl), List.length_cons, List.replicate_succ, ih ho.tail (by simp at hl; omega)]
    · have z : ¬ a = 0 := by simpa using h0
      refine q_asg (ev_op ev_c (ev_var rfl) (rv_ixTN (T.t_LOGS _) (log_at ha))) fun H2 e2 => ?_
      refine s_retL ?_ fun q H3 nq e3 hq => k q H3 (fresh_back (e1.trans e2) nq) ((e1.trans e2).trans e3) hq
      refine el_zL (ev_var rfl) (sq_of (hp.up (e1.trans e2))) (by simp) (by rw [len_map]; omega) (fun x => rfl) fun i x w H4 e4 hx hw => ?_
      obtain ⟨hi, rfl⟩ := nat_of_get hx
      have ob := ho i
      have hw2 : w = .int ((Gf.gm a (Py.at0 l i) : Nat) : Int) := by
        rw [List.getElem?_map, List.getElem?_map, Py.at0_get hi] at hw
        exact (Option.some.inj hw).symm
      rw [hw2]
      refine ev_if (by walk_at "ev") (fun hb => ?_) (fun hb => ?_)
      · have nb : ¬ Py.at0 l i = 0 := by
          intro q
          rw [q] at hb
          exact absurd hb (by decide)
        rw [Gf.gm_pos z nb]
        exact ev_op ev_c (ev_op (ev_op (ev_var rfl) (ev_op ev_c (ev_var rfl) (rv_ixTN (T.t_LOGS _) (log_at ob))) rv_addN) ev_c (rv_modN (by decide))) (rv_ixTN (T.t_POWERS _) (pow_at (Nat.mod_lt _ (by decide))))
      · have nb : Py.at0 l i = 0 := by
          have q2 : ((Py.at0 l i : Nat) : Int) = 0 := by simpa using hb
          omega
        rw [Gf.gm_zero (.inr nb)]
        exact ev_c
def sp_identity : Sp := fun vs H Q _ => ∃ n : Nat, vs = [.int (n : Int)] ∧ n ≤ 30000 ∧ RetM (Py.unit n) H Q
theorem spm_identity {n : Nat} {H : Hp} (h : n ≤ 30000) : SpM sp_identity ([.int (n : Int)] ++ []) H (Py.unit n) := fun H1 e Q k E => ⟨n, rfl, h, k⟩
theorem ok_identity (T : Txt K mg) : Okf P w K mg base CX0 1 "identity" s_identity P_identity sp_identity := by
  obtain ⟨fd, F⟩ := T.F_identity
  refine ⟨fd, F.ok sc_identity (fun vs H Q E h => ?_) (fun cdv A outer s H vs Q E hr h => ?_), F.bindsN fun _ _ _ _ _ _ us hl => match us, hl with | [_], _ => rfl, F⟩
  · obtain ⟨n, rfl, hn, k⟩ := h
    rfl
  · obtain ⟨n, rfl, hn, k⟩ := h
    refine ⟨_, PSs.nox (pss_one (ps_ret (pe_lc (own := [("row", 2)]) (g := gName 2) (tt := tYes) (by rfl) sc_identity.nd (pi_range1 rfl T.m_range (pa_cons (pv 0) pa_nil)) (blkOk_by (own := [("row", 2)]) (N := N_identity) (sc := defScope s_identity) (by decide +kernel)) (fun _ _ _ _ _ => (pg_name (i := 2) sc_identity.nd rfl (by first | exact Or.inl rfl | exact Or.inr rfl))) (fun _ _ _ _ _ => pts_nil) (fun _ _ _ _ _ => (pe_lc (own := [("column", 1)]) (g := gName 1) (tt := tYes) (by rfl) sc_identity.nd (pi_range1 rfl T.m_range (pa_cons (pv 0) pa_nil)) (by dsimp only [L2.Cx.blk, compEnvC]; exact blkOk_by (by kernel_rfl)) (fun _ _ _ _ _ => (pg_name (i := 1) sc_identity.nd rfl (by first | exact Or.inl rfl | exact Or.inr rfl))) (fun _ _ _ _ _ => pts_nil) (fun _ _ _ _ _ => (pe_ifExp (pt_cmpR op_eq (pv 2) (pv 1) (nomark _)) pe_int pe_int))))))), ?_⟩
    refine s_retM (em_zR (n := n) (ea_cons (ev_var rfl) ea_nil) (Py.unit_mt n).rows (by omega) (fun x => rfl) fun i l H1 e1 hl => ?_) k
    have hi : i < n := by
      rw [← (Py.unit_mt n).rows]
      exact (List.getElem?_eq_some_iff.mp hl).1
    have el : l = (List.range n).map fun j => if i = j then 1 else 0 := by
      unfold Py.unit at hl
      rw [Py.range_get hi] at hl
      exact (Option.some.inj hl).symm
    rw [el]
    refine el_zRN (n := n) (ea_cons (ev_var rfl) ea_nil) (by simp) (by omega) (fun x => rfl) fun j H2 e2 hj => ?_
    rw [Py.at0_map, if_pos hj]
    refine ev_if (by walk_at "ev") (fun hb => ?_) (fun hb => ?_)
    · have z : i = j := Int.ofNat.inj (V.int.inj (of_decide_eq_true hb))
      rw [if_pos z]
      exact ev_c
    · have z : ¬ i = j := fun q => of_decide_eq_false hb (by rw [q])
      rw [if_neg z]
      exact ev_c
def sp__law_is_integer : Sp := fun vs H Q _ => ∃ (i : Int), vs = [.int i] ∧ RetV (.bl true) H Q
theorem spv__law_is_integer {i : Int} {H : Hp} : SpV sp__law_is_integer ([.int i] ++ []) H (.bl true) := fun H1 e Q q E => ⟨i, rfl, q⟩
local macro_rules | `(tactic| walk_at "spv") => `(tactic| with_reducible exact spv__law_is_integer)
theorem ok__law_is_integer (T : Txt K mg) : Okf P w K mg base CX0 1 "_law_is_integer" s__law_is_integer P__law_is_integer sp__law_is_integer := by
  obtain ⟨fd, F⟩ := T.F__law_is_integer
  refine ⟨fd, F.ok sc__law_is_integer (fun vs H Q E h => ?_) (fun cdv A outer s H vs Q E hr h => ?_), F.bindsN fun _ _ _ _ _ _ us hl => match us, hl with | [_], _ => rfl, F⟩
  · obtain ⟨i, rfl, k⟩ := h
    rfl
  · obtain ⟨i, rfl, k⟩ := h
    refine ⟨_, PSs.nox (pss_one (ps_ret (pe_and (pe_callB (call_isiK' (K := K) rfl) (by rfl) T.m_isinstance (by decide +kernel) (pa_cons (pv 0) (pa_cons (pe_bltn (v := .ty "int") (by rfl) T.m_int (by decide +kernel) rfl) pa_nil))) (pe_one (pe_not (pe_callB (call_isiK' (K := K) rfl) (by rfl) T.m_isinstance (by decide +kernel) (pa_cons (pv 0) (pa_cons (pe_bltn (v := .ty "bool") (by rfl) T.m_bool (by decide +kernel) rfl) pa_nil)))))))), ?_⟩
    refine s_ret (v := .bl (true && !false)) ?_ k
    exact ev_andV (ev_isiI (ev_var rfl) ev_c (by decide +kernel)) fun _ => ev_notV (ev_isiI (ev_var rfl) ev_c (by decide +kernel))
def sp__law_cell (K : PySem.W.Frag) : Sp := fun vs H Q _ => ∃ (a : Addr) (ns : List Int) (k : Nat), vs = [.ref a, .int (k : Int)] ∧ SqL K H a (ns.map V.int) ∧ RetV (.int (ns.getD k 0)) H Q
theorem spv__law_cell {K : PySem.W.Frag} {a : Addr} {ns : List Int} {k : Nat} {H : Hp} (h : SqL K H a (ns.map V.int)) : SpV (sp__law_cell K) ([.ref a, .int (k : Int)] ++ []) H (.int (ns.getD k 0)) := fun H1 e Q q E => ⟨a, ns, k, rfl, ex_l e h, q⟩
local macro_rules | `(tactic| walk_at "spv") => `(tactic| first | ((with_reducible apply spv__law_cell); walk_at "sq") | (apply spv__law_cell; walk_at "sq"))
theorem ok__law_cell (T : Txt K mg) : Okf P w K mg base CX0 1 "_law_cell" s__law_cell P__law_cell (sp__law_cell K) := by
  obtain ⟨fd, F⟩ := T.F__law_cell
  refine ⟨fd, F.ok sc__law_cell (fun vs H Q E h => ?_) (fun cdv A outer s H vs Q E hr h => ?_), F.bindsN fun _ _ _ _ _ _ us hl => match us, hl with | [_, _], _ => rfl, F⟩
  · obtain ⟨a, ns, i, rfl, hS, k⟩ := h
    rfl
  · obtain ⟨a, ns, i, rfl, hS, k⟩ := h
    refine ⟨_, PSs.nox (pss_cons (ps_if (pt_cmpR op_lt (pv 1) (pe_callB (call_lenK (K := K) rfl) (by rfl) T.m_len (by decide +kernel) (pa_cons (pv 0) pa_nil)) (nomark _)) (pss_one (ps_ret (pe_ix (ix_listK (K := K) rfl) (pv 0) (pv 1) (fun _ _ => rfl)))) pss_nil)
(pss_one (ps_ret pe_int))), ?_⟩
    refine q_when (b := decide ((i : Int) < ((ns.map V.int).length : Int))) ?_ (fun h0 H1 e1 => ?_) (fun h0 H1 e1 => ?_)
    · exact et_test (ev_op (ev_var rfl) (ev_lenL (ev_var rfl) hS) rv_I0)
    · have z : i < ns.length := by
        have z2 := of_decide_eq_true h0
        rw [List.length_map] at z2
        omega
      refine s_ret (v := .int (ns.getD i 0)) ?_ fun H2 e2 => k H2 (e1.trans e2)
      refine ev_op (ev_var rfl) (ev_var rfl) (rv_ixL (ex_l e1 hS) (atI_nat ?_))
      rw [List.getElem?_map, List.getElem?_eq_getElem z, List.getD_eq_getElem?_getD, List.getElem?_eq_getElem z]
      rfl
    · have z : ¬ i < ns.length := by
        have z2 := of_decide_eq_false h0
        rw [List.length_map] at z2
        omega
      refine s_ret (v := .int (ns.getD i 0)) ?_ fun H2 e2 => k H2 (e1.trans e2)
      rw [List.getD_eq_getElem?_getD, List.getElem?_eq_none (by omega)]
      exact ev_c
def sp__law_mixed : Sp := fun vs H Q _ => ∃ (c k : Int), vs = [.int c, .int k] ∧ RetV (.int (Gf.mixed c k)) H Q
theorem spv__law_mixed {c k : Int} {H : Hp} : SpV sp__law_mixed ([.int c, .int k] ++ []) H (.int (Gf.mixed c k)) := fun H1 e Q q E => ⟨c, k, rfl, q⟩
local macro_rules | `(tactic| walk_at "spv") => `(tactic| with_reducible exact spv__law_mixed)
theorem ok__law_mixed (T : Txt K mg) : Okf P w K mg base CX0 1 "_law_mixed" s__law_mixed P__law_mixed sp__law_mixed := by
  obtain ⟨fd, F⟩ := T.F__law_mixed
  refine ⟨fd, F.ok sc__law_mixed (fun vs H Q E h => ?_) (fun cdv A outer s H vs Q E hr h => ?_), F.bindsN fun _ _ _ _ _ _ us hl => match us, hl with | [_, _], _ => rfl, F⟩
  · obtain ⟨c, i, rfl, k⟩ := h
    rfl
  · obtain ⟨c, i, rfl, k⟩ := h
    refine ⟨_, PSs.nox (pss_cons (ps_set (i := 2) sc__law_mixed.nd rfl (by first | exact Or.inl rfl | exact Or.inr rfl) (pe_op op_mod (pe_callTy call_int1 (by rfl) T.m_int (by decide +kernel) (pa_cons (pe_op op_add (pe_op op_add (pe_op op_mul (pe_callTy call_int1 (by rfl) T.m_int (by decide +kernel) (pa_cons (pv 0) pa_nil)) pe_int) (pe_op op_mul (pv 1) pe_int)) pe_int) pa_nil)) pe_int))
(pss_cons (ps_set (i := 3) sc__law_mixed.nd rfl (by first | exact Or.inl rfl | exact Or.inr rfl) (pe_op op_mod (pe_callTy call_int1 (by rfl) T.m_int (by decide +kernel) (pa_cons (pe_op op_add (pe_op op_add (pe_op op_mul (pv 2) pe_int) (pe_op op_mul (pe_op op_add (pv 1) pe_int) pe_int)) pe_int) pa_nil)) pe_int))
(pss_one (ps_ret (pe_op op_fdiv (pv 3) pe_int))))), ?_⟩
    refine q_asg (by walk_at "ev") fun H1 e1 => ?_
    refine q_asg (by walk_at "ev") fun H2 e2 => ?_
    refine s_ret (by walk_at "ev") fun H3 e3 => ?_
    exact k H3 ((e1.trans e2).trans e3)
def sp__law_mul : Sp := fun vs H Q _ => ∃ (a b : Nat), vs = [.int (a : Int), .int (b : Int)] ∧ a < 256 ∧ b < 256 ∧ RetV (.int ((Gf.gm a b : Nat) : Int)) H Q
theorem spv__law_mul {a b : Nat} {H : Hp} (ha : a < 256) (hb : b < 256) : SpV sp__law_mul ([.int (a : Int), .int (b : Int)] ++ []) H (.int ((Gf.gm a b : Nat) : Int)) := fun H1 e Q q E => ⟨a, b, rfl, ha, hb, q⟩
local macro_rules | `(tactic| walk_at "spv") => `(tactic| first | ((with_reducible apply spv__law_mul) <;> walk_at "oct") | (apply spv__law_mul <;> walk_at "oct"))
theorem ok__law_mul (T : Txt K mg) : Okf P w K mg base CX0 1 "_law_mul" s__law_mul P__law_mul sp__law_mul := by
  obtain ⟨fd, F⟩ := T.F__law_mul
  refine ⟨fd, F.ok sc__law_mul (fun vs H Q E h => ?_) (fun cdv A outer s H vs Q E hr h => ?_), F.bindsN fun _ _ _ _ _ _ us hl => match us, hl with | [_, _], _ => rfl, F⟩
  · obtain ⟨a, b, rfl, ha, hb, k⟩ := h
    rfl
  · obtain ⟨a, b, rfl, ha, hb, k⟩ := h
    refine ⟨_, PSs.nox (pss_cons (ps_set (i := 2) sc__law_mul.nd rfl (by first | exact Or.inl rfl | exact Or.inr rfl) pe_int)
(pss_cons (ps_for PassesOwn.never rfl (pi_range1 rfl T.m_range (pa_cons pe_int pa_nil)) (pg_name (i := 3) sc__law_mul.nd rfl (by first | exact Or.inl rfl | exact Or.inr rfl)) (pss_cons (ps_if (pt_truthK (K := K) rfl (pe_op op_and (pv 1) pe_int) (by intro _; rfl)) (pss_one (ps_set (i := 2) sc__law_mul.nd rfl (by first | exact Or.inl rfl | exact Or.inr rfl) (pe_op op_xor (pv 2) (pv 0)))) pss_nil)
(pss_cons (ps_set (i := 1) sc__law_mul.nd rfl (by first | exact Or.inl rfl | exact Or.inr rfl) (pe_op op_shr (pv 1) pe_int))
(pss_cons (ps_set (i := 0) sc__law_mul.nd rfl (by first | exact Or.inl rfl | exact Or.inr rfl) (pe_op op_shl (pv 0) pe_int))
(pss_one (ps_if (pt_cmpR op_gt (pv 0) pe_int (nomark _)) (pss_one (ps_set (i := 0) sc__law_mul.nd rfl (by first | exact Or.inl rfl | exact Or.inr rfl) (pe_op op_xor (pv 0) pe_int))) pss_nil))))))
(pss_one (ps_ret (pv 2))))), ?_⟩
    refine q_asg ev_c fun H1 e1 => ?_
    refine q_forR1 (ea_cons ev_c ea_nil) (by decide) (fun i s H' => ∃ v, s = [some (.int (((Gf.pn8 i (0, a, b)).2.1 : Nat) : Int)), some (.int (((Gf.pn8 i (0, a, b)).2.2 : Nat) : Int)), some (.int (((Gf.pn8 i (0, a, b)).1 : Nat) : Int)), v] ∧ Ex H H') ?_ ?_ ?_
    · exact fun H2 e2 => ⟨none, rfl, e1.trans e2⟩
    · rintro i s H' hi ⟨v, rfl, e⟩
      have hz : (Gf.pn8 i (0, a, b)).2.1 < 256 := Gf.pn8_lt ha i
      have st : Gf.pn8 (i + 1) (0, a, b) = Gf.ps (Gf.pn8 i (0, a, b)) := rfl
      rw [st]
      generalize Gf.pn8 i (0, a, b) = z at hz ⊢
      obtain ⟨p, x, y⟩ := z
      have hx : x < 256 := hz
      refine q_ifAsg (v := .int (((if y % 2 = 0 then p else p ^^^ x : Nat) : Nat) : Int)) (et_truI (ev_op (ev_var rfl) ev_c rv_and1)) (fun hb => ?_) (fun hb => ?_) fun H1 e1 => ?_
      · have q : ¬ y % 2 = 0 := by
          intro q
          rw [q] at hb
          exact absurd hb (by decide)
        rw [if_neg q]
        walk_at "ev"
      · have q : y % 2 = 0 := by
          have q2 : ((y % 2 : Nat) : Int) = 0 := by simpa using hb
          omega
        rw [if_pos q]
        rfl
      refine q_asg (v := .int ((y / 2 : Nat) : Int)) (ev_op (ev_var rfl) ev_c rv_shr1) fun H2 e2 => ?_
      refine q_asg (v := .int ((x * 2 : Nat) : Int)) (ev_op (ev_var rfl) ev_c (rv_shl1 (by omega))) fun H3 e3 => ?_
      refine s_ifAsg (v := .int ((Gf.xt x : Nat) : Int)) (by walk_at "ev") (fun hb => ?_) (fun hb => ?_) fun H4 e4 => ?_
      · have q : x * 2 > 255 := by
          have q2 := of_decide_eq_true hb
          omega
        unfold Gf.xt
        rw [if_pos q]
        exact ev_op (ev_var rfl) ev_c (rv_xor (b := 285))
      · have q : ¬ x * 2 > 255 := by
          have q2 := of_decide_eq_false hb
          omega
        unfold Gf.xt
        rw [if_neg q]
        rfl
      exact ⟨_, rfl, (((e.trans e1).trans e2).trans e3).trans e4⟩
    · rintro s H' ⟨v, rfl, e⟩
      refine s_ret (ev_var rfl) fun H2 e2 => ?_
      have z := k H2 (e.trans e2)
      rw [← Gf.pm_eq ha hb] at z
      exact z
def mix (f : Nat) (l m : List Nat) : List Nat := List.zipWith (fun a b => a ^^^ Gf.gm f b) l m
def sp_mixed : Sp := fun vs H Q _ => ∃ (p q : Addr) (f : Nat) (l m : List Nat), vs = [.ref p, .int (f : Int), .ref q] ∧ f < 256 ∧ LN H p l ∧ LN H q m ∧ Py.Oc m ∧ m.length ≤ 30000 ∧ l.length ≤ 30000 ∧ RetL ((mix f l m).map nV) H Q
theorem spl_mixed {f : Nat} {p q : Addr} {l m : List Nat} {H : Hp} (hf : f < 256) (h : LN H p l) (h2 : LN H q m) (ho : Py.Oc m) (hm : m.length ≤ 30000) (hl : l.length ≤ 30000) : SpL sp_mixed ([.ref p, .int (f : Int), .ref q] ++ []) H ((mix f l m).map nV) := fun H1 e Q k E => ⟨p, q, f, l, m, rfl, hf, h.up e, h2.up e, ho, hm, hl, k⟩
theorem mix_length (f : Nat) (l m : List Nat) : (mix f l m).length = min l.length m.length := by
  unfold mix
  rw [List.length_zipWith]
theorem ok_mixed (T : Txt K mg) : Okf P w K mg base CX0 2 "mixed" s_mixed P_mixed sp_mixed := by
  obtain ⟨fd_scaled, G_scaled, B_scaled, _⟩ := ok_scaled (P := P) (w := w) (base := base) T
  obtain ⟨fd, F⟩ := T.F_mixed
  refine ⟨fd, F.ok sc_mixed (fun vs H Q E h => ?_) (fun cdv A outer s H vs Q E hr h => ?_), F.bindsN fun _ _ _ _ _ _ us hl => match us, hl with | [_, _, _], _ => rfl, F⟩
  · obtain ⟨p, q, f, l, m, rfl, hf, hp, hq, ho, hm, hl, k⟩ := h
    rfl
  · obtain ⟨p, q, f, l, m, rfl, hf, hp, hq, ho, hm, hl, k⟩ := h
    refine ⟨_, PSs.nox (pss_one (ps_ret (pe_lc (own := [("a", 3), ("b", 4)]) (g := _) (tt := tYes) (by rfl) sc_mixed.nd (pi_zip (by rfl) T.m_zip (pa_cons (pv 0) (pa_cons (pe_call G_scaled (hr.mono (by decide)) rfl T.g_scaled T.p_scaled B_scaled .nil pass0 (pa_cons (pv 1) (pa_cons (pv 2) pa_nil))) pa_nil))) (blkOk_by (own := [("a", 3), ("b", 4)]) (N := N_mixed) (sc := defScope s_mixed) (by decide +kernel)) (fun _ _ _ _ _ => (pg_tupK (K := K) (n := 2) rfl rfl (pgs_cons (pg_name (i := 3) sc_mixed.nd rfl (by first | exact Or.inl rfl | exact Or.inr rfl)) (pgs_cons (pg_name (i := 4) sc_mixed.nd rfl (by first | exact Or.inl rfl | exact Or.inr rfl)) pgs_nil)))) (fun _ _ _ _ _ => pts_nil) (fun _ _ _ _ _ => (pe_op op_xor (pv 3) (pv 4)))))), ?_⟩
    refine s_retL ?_ fun r H3 nr e3 hr => k r H3 nr e3 hr
    refine el_zZ (ev2_VL (ev_var rfl) (sq_of hp) (el_call (by walk_at "ev") (spl_scaled hf hq ho hm))) (by rw [len_map, mix_length, len_map, len_map, List.length_map]) (by rw [len_map, mix_length]; omega) (fun x y => rfl) fun i x y w H4 e4 hx hy hw => ?_
    obtain ⟨hi, rfl⟩ := nat_of_get hx
    obtain ⟨hj, rfl⟩ := nat_of_get hy
    have hj2 : i < m.length := by simpa using hj
    have hw2 : w = .int (((Py.at0 l i) ^^^ (Py.at0 (m.map (Gf.gm f)) i) : Nat) : Int) := by
      have e : (mix f l m)[i]? = some ((Py.at0 l i) ^^^ (Py.at0 (m.map (Gf.gm f)) i)) := by
        unfold mix
        rw [List.getElem?_zipWith, Py.at0_get hi, Py.at0_get hj2]
        show some _ = some _
        congr 2
        refine (Py.at0_of ?_).symm
        rw [List.getElem?_map, Py.at0_get hj2] <;> rfl
      rw [List.getElem?_map, e] at hw
      exact (Option.some.inj hw).symm
    rw [hw2]
    exact ev_op (ev_var rfl) (ev_var rfl) rv_xor
def sp_vandermonde : Sp := fun vs H Q _ => ∃ (p : Addr) (l : List Nat) (w : Nat), vs = [.ref p, .int (w : Int)] ∧ LN H p l ∧ Py.Oc l ∧ l.length ≤ 30000 ∧ w ≤ 30000 ∧ RetM (Py.vand l w) H Q
theorem spm_vandermonde {p : Addr} {l : List Nat} {w : Nat} {H : Hp} (h : LN H p l) (ho : Py.Oc l) (h1 : l.length ≤ 30000) (h2 : w ≤ 30000) : SpM sp_vandermonde ([.ref p, .int (w : Int)] ++ []) H (Py.vand l w) := fun H1 e Q k E => ⟨p, l, w, rfl, h.up e, ho, h1, h2, k⟩
theorem ok_vandermonde (T : Txt K mg) : Okf P w K mg base CX0 2 "vandermonde" s_vandermonde P_vandermonde sp_vandermonde := by
  obtain ⟨fd_power, G_power, B_power, _⟩ := ok_power (P := P) (w := w) (base := base) T
  obtain ⟨fd, F⟩ := T.F_vandermonde
  refine ⟨fd, F.ok sc_vandermonde (fun vs H Q E h => ?_) (fun cdv A outer s H vs Q E hr h => ?_), F.bindsN fun _ _ _ _ _ _ us hl => match us, hl with | [_, _], _ => rfl, F⟩
  · obtain ⟨p, l, w, rfl, hp, ho, h1, h2, k⟩ := h
    rfl
  · obtain ⟨p, l, w, rfl, hp, ho, h1, h2, k⟩ := h
    refine ⟨_, PSs.nox (pss_one (ps_ret (pe_lc (own := [("x", 3)]) (g := gName 3) (tt := tYes) (by rfl) sc_vandermonde.nd (pi_listK (K := K) rfl (pv 0)) (blkOk_by (own := [("x", 3)]) (N := N_vandermonde) (sc := defScope s_vandermonde) (by decide +kernel)) (fun _ _ _ _ _ => (pg_name (i := 3) sc_vandermonde.nd rfl (by first | exact Or.inl rfl | exact Or.inr rfl))) (fun _ _ _ _ _ => pts_nil) (fun _ _ _ _ _ => (pe_lc (own := [("exponent", 2)]) (g := gName 2) (tt := tYes) (by rfl) sc_vandermonde.nd (pi_range1 rfl T.m_range (pa_cons (pv 1) pa_nil)) (by dsimp only [L2.Cx.blk, compEnvC]; exact blkOk_by (by kernel_rfl)) (fun _ _ _ _ _ => (pg_name (i := 2) sc_vandermonde.nd rfl (by first | exact Or.inl rfl | exact Or.inr rfl))) (fun _ _ _ _ _ => pts_nil) (fun _ _ _ _ _ => (pe_call G_power (hr.mono (by decide)) rfl T.g_power T.p_power B_power .nil pass0 (pa_cons (pv 3) (pa_cons (pv 2) pa_nil))))))))), ?_⟩
    refine s_retM (em_zL (ev_var rfl) (sq_of hp) (by rw [len_map, (Py.vand_mt l w).rows]) (by rw [len_map]; omega) (fun x => rfl) fun i x m H1 e1 hx hm => ?_) k
    obtain ⟨hi, rfl⟩ := nat_of_get hx
    have em : m = (List.range w).map fun k => Gf.gp (Py.at0 l i) k := by
      unfold Py.vand at hm
      rw [List.getElem?_map, Py.at0_get hi] at hm
      exact (Option.some.inj hm).symm
    rw [em]
    refine el_zRN (n := w) (ea_cons (ev_var rfl) ea_nil) (by simp) (by omega) (fun x => rfl) fun j H2 e2 hj => ?_
    rw [Py.at0_map, if_pos hj]
    exact ev_call (by walk_at "ev") (spv_power (ho i))
def sp__law_digits : Sp := fun vs H Q _ => ∃ (c : Int) (n m : Nat), vs = [.int c, .int (n : Int), .int (m : Int)] ∧ n ≤ 90000 ∧ 0 < m ∧ m < 1000000000 ∧ RetL ((Gf.digits c n m).map nV) H Q
theorem spl__law_digits {c : Int} {n m : Nat} {H : Hp} (hn : n ≤ 90000) (h0 : 0 < m) (h1 : m < 1000000000) : SpL sp__law_digits ([.int c, .int (n : Int), .int (m : Int)] ++ []) H ((Gf.digits c n m).map nV) := fun H1 e Q q E => ⟨c, n, m, rfl, hn, h0, h1, q⟩
local macro_rules | `(tactic| walk_at "spv") => `(tactic| first | ((with_reducible apply spl__law_digits) <;> walk_at "oct") | (apply spl__law_digits <;> walk_at "oct"))
theorem ok__law_digits (T : Txt K mg) : Okf P w K mg base CX0 2 "_law_digits" s__law_digits P__law_digits sp__law_digits := by
  obtain ⟨fd__law_mixed, G__law_mixed, B__law_mixed, _⟩ := ok__law_mixed (P := P) (w := w) (base := base) T
  obtain ⟨fd, F⟩ := T.F__law_digits
  refine ⟨fd, F.ok sc__law_digits (fun vs H Q E h => ?_) (fun cdv A outer s H vs Q E hr h => ?_), F.bindsN fun _ _ _ _ _ _ us hl => match us, hl with | [_, _, _], _ => rfl, F⟩
  · obtain ⟨c, n, m, rfl, hn, h0, h1, k⟩ := h
    rfl
  · obtain ⟨c, n, m, rfl, hn, h0, h1, k⟩ := h
    refine ⟨_, PSs.nox (pss_cons (ps_set (i := 3) sc__law_digits.nd rfl (by first | exact Or.inl rfl | exact Or.inr rfl) (pe_lst pa_nil))
(pss_cons (ps_if (pt_cmpR op_lt (pv 0) (pe_op op_pow pe_int pe_int) (nomark _)) (pss_cons (ps_for PassesOwn.never rfl (pi_range1 rfl T.m_range (pa_cons (pv 1) pa_nil)) (pg_name (i := 4) sc__law_digits.nd rfl (by first | exact Or.inl rfl | exact Or.inr rfl)) (pss_one (ps_expr (pe_bm PySem.F.plainAttrs_list PySem.F.slot_list_append PySem.F.type_list_append mt_append (pv 3) (pa_cons (pe_op op_mod (pe_callTy call_int1 (by rfl) T.m_int (by decide +kernel) (pa_cons (pe_call G__law_mixed (hr.mono (by decide)) rfl T.g__law_mixed T.p__law_mixed B__law_mixed .nil pass0 (pa_cons (pv 0) (pa_cons (pv 4) pa_nil))) pa_nil)) (pv 2)) pa_nil)))))
(pss_one (ps_ret (pv 3)))) pss_nil)
(pss_cons (ps_for PassesOwn.never rfl (pi_range1 rfl T.m_range (pa_cons (pv 1) pa_nil)) (pg_name (i := 4) sc__law_digits.nd rfl (by first | exact Or.inl rfl | exact Or.inr rfl)) (pss_cons (ps_expr (pe_bm PySem.F.plainAttrs_list PySem.F.slot_list_append PySem.F.type_list_append mt_append (pv 3) (pa_cons (pe_op op_mod (pe_callTy call_int1 (by rfl) T.m_int (by decide +kernel) (pa_cons (pv 0) pa_nil)) (pv 2)) pa_nil)))
(pss_one (ps_set (i := 0) sc__law_digits.nd rfl (by first | exact Or.inl rfl | exact Or.inr rfl) (pe_op op_fdiv (pv 0) (pv 2))))))
(pss_one (ps_ret (pv 3)))))), ?_⟩
    refine q_asgL (el_lst ea_nil (by decide)) fun p H1 np e1 hp => ?_
    refine q_when (b := decide (c < 10 ^ 18)) (et_test (ev_op (ev_var rfl) (ev_op ev_c ev_c (rv_I ⟨by decide, by decide, by decide⟩)) rv_I0)) (fun hc H2 e2 => ?_) (fun hc H2 e2 => ?_)
    · have hc' := of_decide_eq_true hc
      refine q_forR1 (ea_cons (ev_var rfl) ea_nil) (by omega) (fun i s H' => ∃ v, s = [some (.int c), some (.int (n : Int)), some (.int (m : Int)), some (.ref p), v] ∧ Ex H H' ∧ H' p = some (.lst (((List.range i).map fun j => Gf.mixd c m j).map nV))) ?_ ?_ ?_
      · exact fun H3 e3 => ⟨none, rfl, (e1.trans e2).trans e3, e3 _ _ (e2 _ _ hp)⟩
      · rintro i s H' hi ⟨v, rfl, e, hl⟩
        refine s_app hl (ev_var rfl) (by walk_at "ev") (by rw [List.length_map, List.length_map, List.length_range]; omega) fun H3 e3 => ?_
        refine ⟨_, rfl, Ex.mut (e.trans e3) np, ?_⟩
        rw [upd_same, List.range_succ, List.map_append, List.map_append]
        simp only [List.map_cons, List.map_nil, nV, Gf.mixd_eq h0]
      · rintro s H' ⟨v, rfl, e, hl⟩
        refine s_ret (ev_var rfl) fun H3 e3 => k p H3 np (e.trans e3) ?_
        rw [e3 _ _ hl, Gf.digits_low hc', Int.toNat_natCast]
    · have hc' := of_decide_eq_false hc
      refine q_forR1 (ea_cons (ev_var rfl) ea_nil) (by omega) (fun i s H' => ∃ v, s = [some (.int (Gf.divn m i c)), some (.int (n : Int)), some (.int (m : Int)), some (.ref p), v] ∧ Ex H H' ∧ H' p = some (.lst (((List.range i).map fun j => Gf.digd c m j).map nV))) ?_ ?_ ?_
      · exact fun H3 e3 => ⟨none, rfl, (e1.trans e2).trans e3, e3 _ _ (e2 _ _ hp)⟩
      · rintro i s H' hi ⟨v, rfl, e, hl⟩
        refine q_app hl (ev_var rfl) (by walk_at "ev") (by rw [List.length_map, List.length_map, List.length_range]; omega) fun H3 e3 => ?_
        refine s_asg (by walk_at "ev") fun H4 e4 => ?_
        refine ⟨_, rfl, (Ex.mut (e.trans e3) np).trans e4, ?_⟩
        refine e4 _ _ ?_
        rw [upd_same, List.range_succ, List.map_append, List.map_append]
        simp only [List.map_cons, List.map_nil, nV, Gf.digd_eq h0]
      · rintro s H' ⟨v, rfl, e, hl⟩
        refine s_ret (ev_var rfl) fun H3 e3 => k p H3 np (e.trans e3) ?_
        rw [e3 _ _ hl, Gf.digits_high hc', Int.toNat_natCast]
def sp__law_octets : Sp := fun vs H Q _ => ∃ (p : Addr) (l : List Nat) (n : Int), vs = [.ref p, .int n] ∧ LN H p l ∧ Py.Oc l ∧ n = (l.length : Int) ∧ RetV (.bl true) H Q
theorem spv__law_octets {p : Addr} {l : List Nat} {n : Int} {H : Hp} (h : LN H p l) (ho : Py.Oc l) (hn : n = (l.length : Int)) : SpV sp__law_octets ([.ref p, .int n] ++ []) H (.bl true) := fun H1 e Q q E => ⟨p, l, n, rfl, h.up e, ho, hn, q⟩
local macro_rules | `(tactic| walk_at "spv") => `(tactic| ((with_reducible apply spv__law_octets) <;> walk_at "oct"))
theorem ok__law_octets (T : Txt K mg) : Okf P w K mg base CX0 2 "_law_octets" s__law_octets P__law_octets sp__law_octets := by
  obtain ⟨fd__law_is_integer, G__law_is_integer, B__law_is_integer, _⟩ := ok__law_is_integer (P := P) (w := w) (base := base) T
  obtain ⟨fd, F⟩ := T.F__law_octets
  refine ⟨fd, F.ok sc__law_octets (fun vs H Q E h => ?_) (fun cdv A outer s H vs Q E hr h => ?_), F.bindsN fun _ _ _ _ _ _ us hl => match us, hl with | [_, _], _ => rfl, F⟩
  · obtain ⟨p, l, n, rfl, hp, ho, rfl, k⟩ := h
    rfl
  · obtain ⟨p, l, n, rfl, hp, ho, rfl, k⟩ := h
    refine ⟨_, PSs.nox (pss_cons (ps_if (PW.pt (pw_or (pt_not (pt_val (pe_callB (call_isiK' (K := K) rfl) (by rfl) T.m_isinstance (by decide +kernel) (pa_cons (pv 0) (pa_cons (pe_bltn (v := .ty "list") (by rfl) T.m_list (by decide +kernel) rfl) pa_nil))))) (pw_or1 (pt_cmpR op_ne (pe_callB (call_lenK (K := K) rfl) (by rfl) T.m_len (by decide +kernel) (pa_cons (pv 0) pa_nil)) (pv 1) (nomark _))))) (pss_one (ps_ret pe_bl)) pss_nil)
(pss_cons (ps_for PassesOwn.never rfl (pi_listK (K := K) rfl (pv 0)) (pg_name (i := 2) sc__law_octets.nd rfl (by first | exact Or.inl rfl | exact Or.inr rfl)) (pss_one (ps_if (PW.pt (pw_or (pt_not (pt_val (pe_call G__law_is_integer (hr.mono (by decide)) rfl T.g__law_is_integer T.p__law_is_integer B__law_is_integer .nil pass0 (pa_cons (pv 2) pa_nil)))) (pw_or (pt_cmpR op_lt (pv 2) pe_int (nomark _)) (pw_or1 (pt_cmpR op_gt (pv 2) pe_int (nomark _)))))) (pss_one (ps_ret pe_bl)) pss_nil)))
(pss_one (ps_ret pe_bl)))), ?_⟩
    refine q_when (b := false) (et_is (et_or (et_not (et_B (ev_isiL (b := true) (ev_var rfl) hp ev_c (by decide +kernel)))) fun _ => et_test (ev_op (ev_lenL (ev_var rfl) (sq_of hp)) (ev_var rfl) (rv_ne rfl))) (by rw [len_map]; simp)) (fun q => absurd q Bool.false_ne_true) fun _ H1 e1 => ?_
    refine q_forLn (ev_var rfl) (sq_of (hp.up e1)) (fun i s H' => ∃ v, s = [some (.ref p), some (.int (l.length : Int)), v] ∧ Ex H H') (fun H2 e2 => ⟨none, rfl, e1.trans e2⟩) ?_ ?_ ?_
    · rintro i s H' _ ⟨v, rfl, e⟩
      exact sq_of (hp.up e)
    · rintro i x s H' hx ⟨v, rfl, e⟩
      obtain ⟨hi, rfl⟩ := nat_of_get hx
      have hb := ho i
      refine s_when (b := false) (et_is (by walk_at "ev") ?_) (fun q => absurd q Bool.false_ne_true) fun _ H2 e2 => ⟨_, rfl, e.trans e2⟩
      rw [decide_eq_false (show ¬ ((Py.at0 l i : Nat) : Int) < 0 by omega), decide_eq_false (show ¬ (255 : Int) < ((Py.at0 l i : Nat) : Int) by omega)]
      rfl
    · rintro s H' ⟨v, rfl, e⟩
      exact s_ret ev_c fun H2 e2 => k H2 (e.trans e2)
def sp__law_dot : Sp := fun vs H Q _ => ∃ (p q : Addr) (a b : List Nat), vs = [.ref p, .ref q] ∧ LN H p a ∧ LN H q b ∧ a.length = b.length ∧ Py.Oc a ∧ Py.Oc b ∧ a.length ≤ 1000 ∧ RetV (nV (Py.dot a b)) H Q
theorem spv__law_dot {p q : Addr} {a b : List Nat} {H : Hp} (hp : LN H p a) (hq : LN H q b) (hl : a.length = b.length) (ha : Py.Oc a) (hb : Py.Oc b) (hz : a.length ≤ 1000) : SpV sp__law_dot ([.ref p, .ref q] ++ []) H (nV (Py.dot a b)) := fun H1 e Q k E => ⟨p, q, a, b, rfl, hp.up e, hq.up e, hl, ha, hb, hz, k⟩
theorem ok__law_dot (T : Txt K mg) : Okf P w K mg base CX0 2 "_law_dot" s__law_dot P__law_dot sp__law_dot := by
  obtain ⟨fd__law_mul, G__law_mul, B__law_mul, _⟩ := ok__law_mul (P := P) (w := w) (base := base) T
  obtain ⟨fd, F⟩ := T.F__law_dot
  refine ⟨fd, F.ok sc__law_dot (fun vs H Q E h => ?_) (fun cdv A outer s H vs Q E hr h => ?_), F.bindsN fun _ _ _ _ _ _ us hl => match us, hl with | [_, _], _ => rfl, F⟩
  · obtain ⟨p, q, a, b, rfl, hp, hq, hl, ha, hb, hz, k⟩ := h
    rfl
  · obtain ⟨p, q, a, b, rfl, hp, hq, hl, ha, hb, hz, k⟩ := h
    refine ⟨_, PSs.nox (pss_cons (ps_set (i := 2) sc__law_dot.nd rfl (by first | exact Or.inl rfl | exact Or.inr rfl) pe_int)
(pss_cons (ps_for PassesOwn.never rfl (pi_range1 rfl T.m_range (pa_cons (pe_callB (call_lenK (K := K) rfl) (by rfl) T.m_len (by decide +kernel) (pa_cons (pv 0) pa_nil)) pa_nil)) (pg_name (i := 3) sc__law_dot.nd rfl (by first | exact Or.inl rfl | exact Or.inr rfl)) (pss_one (ps_set (i := 2) sc__law_dot.nd rfl (by first | exact Or.inl rfl | exact Or.inr rfl) (pe_op op_xor (pv 2) (pe_call G__law_mul (hr.mono (by decide)) rfl T.g__law_mul T.p__law_mul B__law_mul .nil pass0 (pa_cons (pe_ix (ix_listK (K := K) rfl) (pv 0) (pv 3) (fun _ _ => rfl)) (pa_cons (pe_ix (ix_listK (K := K) rfl) (pv 1) (pv 3) (fun _ _ => rfl)) pa_nil)))))))
(pss_one (ps_ret (pv 2))))), ?_⟩
    refine q_asg (v := nV 0) ev_c fun H1 e1 => ?_
    refine q_forR1 (n := (a.length : Int)) (ea_cons (ev_is (ev_lenL (ev_var rfl) (sq_of (hp.up e1))) (by rw [len_map])) ea_nil) (by omega) (fun i s H' => ∃ v, s = [some (.ref p), some (.ref q), some (nV (Py.xs (fun k => Gf.gm (Py.at0 a k) (Py.at0 b k)) i)), v] ∧ Ex H H') ?_ ?_ ?_
    · exact fun H2 e2 => ⟨none, rfl, e1.trans e2⟩
    · rintro i s H2 hi ⟨v, rfl, e⟩
      have b1 := ha i
      have b2 := hb i
      exact s_asg (ev_op (ev_var rfl) (ev_call (ea_cons (ev_op (ev_var rfl) (ev_var rfl) (rv_ixLN (sq_of (hp.up e)) (nat_get (by omega)))) (ea_cons (ev_op (ev_var rfl) (ev_var rfl) (rv_ixLN (sq_of (hq.up e)) (nat_get (by omega)))) ea_nil)) (spv__law_mul b1 b2)) rv_xor) fun H3 e3 => ⟨_, rfl, e.trans e3⟩
    · rintro s H2 ⟨v, rfl, e⟩
      rw [Int.toNat_natCast]
      exact s_ret (ev_var rfl) fun H3 e3 => k H3 (e.trans e3)
def pows (x w : Nat) : List Nat := (List.range w).map fun k => Gf.gp x k
def sp__law_powers : Sp := fun vs H Q _ => ∃ (x w : Nat), vs = [.int (x : Int), .int (w : Int)] ∧ x < 256 ∧ 0 < w ∧ w ≤ 1000 ∧ RetL ((pows x w).map nV) H Q
theorem spl__law_powers {x w : Nat} {H : Hp} (hx : x < 256) (h0 : 0 < w) (hw : w ≤ 1000) : SpL sp__law_powers ([.int (x : Int), .int (w : Int)] ++ []) H ((pows x w).map nV) := fun H1 e Q k E => ⟨x, w, rfl, hx, h0, hw, k⟩
theorem pows_next (x n : Nat) : pows x (n + 1) = pows x n ++ [Gf.gp x n] := by
  unfold pows
  rw [List.range_succ, List.map_append] <;> rfl
theorem ok__law_powers (T : Txt K mg) : Okf P w K mg base CX0 2 "_law_powers" s__law_powers P__law_powers sp__law_powers := by
  obtain ⟨fd__law_mul, G__law_mul, B__law_mul, _⟩ := ok__law_mul (P := P) (w := w) (base := base) T
  obtain ⟨fd, F⟩ := T.F__law_powers
  refine ⟨fd, F.ok sc__law_powers (fun vs H Q E h => ?_) (fun cdv A outer s H vs Q E hr h => ?_), F.bindsN fun _ _ _ _ _ _ us hl => match us, hl with | [_, _], _ => rfl, F⟩
  · obtain ⟨x, w, rfl, hx, h0, hw, k⟩ := h
    rfl
  · obtain ⟨x, w, rfl, hx, h0, hw, k⟩ := h
    refine ⟨_, PSs.nox (pss_cons (ps_set (i := 2) sc__law_powers.nd rfl (by first | exact Or.inl rfl | exact Or.inr rfl) (pe_lst (pa_cons pe_int pa_nil)))
(pss_cons (ps_for PassesOwn.never rfl (pi_range1 rfl T.m_range (pa_cons (pe_op op_sub (pv 1) pe_int) pa_nil)) (pg_name (i := 3) sc__law_powers.nd rfl (by first | exact Or.inl rfl | exact Or.inr rfl)) (pss_one (ps_expr (pe_bm PySem.F.plainAttrs_list PySem.F.slot_list_append PySem.F.type_list_append mt_append (pv 2) (pa_cons (pe_call G__law_mul (hr.mono (by decide)) rfl T.g__law_mul T.p__law_mul B__law_mul .nil pass0 (pa_cons (pe_ix (ix_listK (K := K) rfl) (pv 2) (pv 3) (fun _ _ => rfl)) (pa_cons (pv 0) pa_nil))) pa_nil)))))
(pss_one (ps_ret (pv 2))))), ?_⟩
    refine q_asgL (xs := (pows x 1).map nV) (el_lst (ea_cons ev_c ea_nil) (by rw [len_map]; unfold pows; simp)) fun ra H1 nr e1 hr => ?_
    refine q_forR1 (n := ((w - 1 : Nat) : Int)) (ea_cons (ev_is (ev_op (ev_var rfl) ev_c rv_I0) (congrArg V.int (show (w : Int) - 1 = ((w - 1 : Nat) : Int) by omega))) ea_nil) (by omega) (fun i s H' => ∃ v, s = [some (.int (x : Int)), some (.int (w : Int)), some (.ref ra), v] ∧ Ex H H' ∧ LN H' ra (pows x (i + 1))) ?_ ?_ ?_
    · exact fun H2 e2 => ⟨none, rfl, e1.trans e2, LN.up hr e2⟩
    · rintro i s H2 hi ⟨v, rfl, e, hra⟩
      have lp : (pows x (i + 1)).length = i + 1 := by
        unfold pows
        simp
      have gi : Py.at0 (pows x (i + 1)) i = Gf.gp x i := by
        unfold pows
        rw [Py.at0_map, if_pos (by omega)]
      refine s_app hra (ev_var rfl) (v := nV (Gf.gp x (i + 1))) ?_ (by rw [len_map, lp]; omega) fun H3 e3 => ⟨_, rfl, Ex.mut (e.trans e3) nr, ?_⟩
      · rw [Gf.gp_succ hx]
        refine ev_call (ea_cons (ev_op (ev_var rfl) (ev_var rfl) (rv_ixLN (sq_of hra) ?_)) (ea_cons (ev_var rfl) ea_nil)) (spv__law_mul (Gf.gp_lt _ _) hx)
        rw [← gi]
        exact nat_get (by omega)
      · show upd _ _ _ ra = _
        rw [upd_same, pows_next x (i + 1), List.map_append]
        rfl
    · rintro s H2 ⟨v, rfl, e, hra⟩
      have ew : (((w - 1 : Nat) : Int)).toNat + 1 = w := by omega
      rw [ew] at hra
      exact s_ret (ev_var rfl) fun H3 e3 => k ra H3 nr (e.trans e3) (hra.up e3)
def sp_combined : Sp := fun vs H Q _ => ∃ (p q : Addr) (fs : List Nat) (M : List (List Nat)) (n w : Nat), vs = [.ref p, .ref q] ∧ LN H p fs ∧ MN H q M ∧ fs.length = n ∧ Py.Mt M n w ∧ Py.Oc fs ∧ 0 < n ∧ n ≤ 30000 ∧ w ≤ 30000 ∧ RetL ((Py.comb fs M w).map nV) H Q
theorem spl_combined {p q : Addr} {fs : List Nat} {M : List (List Nat)} {n w : Nat} {H : Hp} (h : LN H p fs) (h2 : MN H q M) (hn : fs.length = n) (hM : Py.Mt M n w) (ho : Py.Oc fs) (h0 : 0 < n) (h3 : n ≤ 30000) (h4 : w ≤ 30000) : SpL sp_combined ([.ref p, .ref q] ++ []) H ((Py.comb fs M w).map nV) := fun H1 e Q k E => ⟨p, q, fs, M, n, w, rfl, h.up e, h2.up e, hn, hM, ho, h0, h3, h4, k⟩
theorem ok_combined (T : Txt K mg) : Okf P w K mg base CX0 3 "combined" s_combined P_combined sp_combined := by
  obtain ⟨fd_mixed, G_mixed, B_mixed, _⟩ := ok_mixed (P := P) (w := w) (base := base) T
  obtain ⟨fd, F⟩ := T.F_combined
  refine ⟨fd, F.ok sc_combined (fun vs H Q E h => ?_) (fun cdv A outer s H vs Q E hr h => ?_), F.bindsN fun _ _ _ _ _ _ us hl => match us, hl with | [_, _], _ => rfl, F⟩
  · obtain ⟨p, q, fs, M, n, w, rfl, hp, hq, hn, hM, ho, h0, h3, h4, k⟩ := h
    rfl
  · obtain ⟨p, q, fs, M, n, w, rfl, hp, hq, hn, hM, ho, h0, h3, h4, k⟩ := h
    refine ⟨_, PSs.nox (pss_cons (ps_set (i := 2) sc_combined.nd rfl (by first | exact Or.inl rfl | exact Or.inr rfl) (pe_op op_rep (pe_lst (pa_cons pe_int pa_nil)) (pe_callB (call_lenK (K := K) rfl) (by rfl) T.m_len (by decide +kernel) (pa_cons (pe_ix (ix_listK (K := K) rfl) (pv 1) pe_int (fun _ _ => rfl)) pa_nil))))
(pss_cons (ps_for PassesOwn.never rfl (pi_zip (by rfl) T.m_zip (pa_cons (pv 0) (pa_cons (pv 1) pa_nil))) (pg_tupK (K := K) (n := 2) rfl rfl (pgs_cons (pg_name (i := 3) sc_combined.nd rfl (by first | exact Or.inl rfl | exact Or.inr rfl)) (pgs_cons (pg_name (i := 4) sc_combined.nd rfl (by first | exact Or.inl rfl | exact Or.inr rfl)) pgs_nil))) (pss_one (ps_if (pt_truthK (K := K) rfl (pv 3) (by intro _; rfl)) (pss_one (ps_set (i := 2) sc_combined.nd rfl (by first | exact Or.inl rfl | exact Or.inr rfl) (pe_call G_mixed (hr.mono (by decide)) rfl T.g_mixed T.p_mixed B_mixed .nil pass0 (pa_cons (pv 2) (pa_cons (pv 3) (pa_cons (pv 4) pa_nil)))))) pss_nil)))
(pss_one (ps_ret (pv 2))))), ?_⟩
    obtain ⟨r0, hr0, hv0⟩ := mn_ix (K := K) hq (k := 0) (by rw [hM.rows]; exact h0)
    have hr := hM.at h0
    refine q_asgL (xs := (Py.combN fs M w 0).map nV) (el_is (el_rep (n := w) (el_lst (ea_cons ev_c ea_nil) (by decide)) (ev_is (ev_lenL (ev_op (ev_var rfl) ev_c hv0) (sq_of hr0)) (by rw [len_map, hr.1])) (by omega)) (by rw [map_rep, Py.combN_zero])) fun ra H1 nr e1 hra => ?_
    obtain ⟨rs, hq1, hq2⟩ := hq
    refine q_forZip (ea_cons (ev_var rfl) (ea_cons (ev_var rfl) ea_nil)) (sq_of (hp.up e1)) (sq_of (e1 _ _ hq1)) (fun i s H' => ∃ ra v3 v4, s = [some (.ref p), some (.ref q), some (.ref ra), v3, v4] ∧ Ex H H' ∧ LN H' ra (Py.combN fs M w i) ∧ H ra = none) ?_ ?_ ?_ ?_
    · exact fun H2 e2 => ⟨ra, none, none, rfl, e1.trans e2, LN.up hra e2, nr⟩
    · rintro i s H' ⟨ra, v3, v4, rfl, e, _, _⟩
      exact ⟨sq_of (hp.up e), sq_of (e _ _ hq1)⟩
    · rintro i x y s H2 H3 hx hy ⟨ra, v3, v4, rfl, e, hra, nr⟩ e3
      obtain ⟨hi, rfl⟩ := nat_of_get hx
      obtain ⟨r, rfl, hi2, hr⟩ := (hq2.mono (e.trans e3)).of hy
      have hl := hM.at (j := i) (by omega)
      have of := ho i
      refine s_when (et_truI (ev_var rfl)) (fun h H4 e4 => ?_) (fun h H4 e4 => ?_)
      · refine s_asgL (el_call (by walk_at "ev") (spl_mixed of ((hra.up e3).up e4) (hr.up e4) hl.2 (by omega) (by rw [Py.combN_length]; exact h4))) fun r2 H5 n5 e5 h5 => ?_
        refine ⟨r2, _, _, rfl, ((e.trans e3).trans e4).trans e5, ?_, fresh_back ((e.trans e3).trans e4) n5⟩
        rw [Py.combN_next hl.1]
        exact h5
      · have z : Py.at0 fs i = 0 := by
          have q2 : ((Py.at0 fs i : Nat) : Int) = 0 := by simpa using h
          omega
        exact ⟨ra, _, _, rfl, (e.trans e3).trans e4, by rw [Py.combN_skip z]; exact (hra.up e3).up e4, nr⟩
    · rintro s H' ⟨ra, v3, v4, rfl, e, hra, nr⟩
      have em : min (fs.map nV).length (rs.map V.ref).length = fs.length := by
        rw [len_map, List.length_map, hq2.len, hM.rows, hn, Nat.min_self]
      rw [em] at hra
      exact s_ret (ev_var rfl) fun H3 e3 => k ra H3 nr (e.trans e3) (hra.up e3)
def mtx (c : Int) (r w : Nat) : List (List Nat) := Py.rowsOf (Gf.digits c (r * w) 256) r w
theorem mtx_mt (c : Int) (r w : Nat) : Py.Mt (mtx c r w) r w := Py.rowsOf_mt (Gf.digits_length _ _ _) (Py.oc_of (Gf.digits_lt (by decide)))
def sp__law_matrix : Sp := fun vs H Q _ => ∃ (c : Int) (r w : Nat), vs = [.int c, .int (r : Int), .int (w : Int)] ∧ r ≤ 100 ∧ w ≤ 100 ∧ RetM (mtx c r w) H Q
theorem spm__law_matrix {c : Int} {r w : Nat} {H : Hp} (hr : r ≤ 100) (hw : w ≤ 100) : SpM sp__law_matrix ([.int c, .int (r : Int), .int (w : Int)] ++ []) H (mtx c r w) := fun H1 e Q k E => ⟨c, r, w, rfl, hr, hw, k⟩
theorem ok__law_matrix (T : Txt K mg) : Okf P w K mg base CX0 3 "_law_matrix" s__law_matrix P__law_matrix sp__law_matrix := by
  obtain ⟨fd__law_digits, G__law_digits, B__law_digits, _⟩ := ok__law_digits (P := P) (w := w) (base := base) T
  obtain ⟨fd, F⟩ := T.F__law_matrix
  refine ⟨fd, F.ok sc__law_matrix (fun vs H Q E h => ?_) (fun cdv A outer s H vs Q E hr h => ?_), F.bindsN fun _ _ _ _ _ _ us hl => match us, hl with | [_, _, _], _ => rfl, F⟩
  · obtain ⟨c, r, w, rfl, hrr, hw, k⟩ := h
    rfl
  · obtain ⟨c, r, w, rfl, hrr, hw, k⟩ := h
    refine ⟨_, PSs.nox (pss_cons (ps_set (i := 3) sc__law_matrix.nd rfl (by first | exact Or.inl rfl | exact Or.inr rfl) (pe_call G__law_digits (hr.mono (by decide)) rfl T.g__law_digits T.p__law_digits B__law_digits .nil pass0 (pa_cons (pv 0) (pa_cons (pe_op op_mul (pv 1) (pv 2)) (pa_cons pe_int pa_nil)))))
(pss_one (ps_ret (pe_lc (own := [("j", 4)]) (g := gName 4) (tt := tYes) (by rfl) sc__law_matrix.nd (pi_range1 rfl T.m_range (pa_cons (pv 1) pa_nil)) (blkOk_by (own := [("j", 4)]) (N := N__law_matrix) (sc := defScope s__law_matrix) (by decide +kernel)) (fun _ _ _ _ _ => (pg_name (i := 4) sc__law_matrix.nd rfl (by first | exact Or.inl rfl | exact Or.inr rfl))) (fun _ _ _ _ _ => pts_nil) (fun _ _ _ _ _ => (pe_slice (sl_listK (K := K) rfl) (pv 3) (po_some (pe_op op_mul (pv 4) (pv 2))) (po_some (pe_op op_mul (pe_op op_add (pv 4) pe_int) (pv 2))))))))), ?_⟩
    have b : r * w ≤ 10000 := Nat.mul_le_mul hrr hw
    refine q_asgL (el_call (ea_cons (ev_var rfl) (ea_cons (ev_op (ev_var rfl) (ev_var rfl) (rv_mulN (by omega))) (ea_cons ev_c ea_nil))) (spl__law_digits (n := r * w) (m := 256) (by omega) (by decide) (by decide))) fun da H1 nd e1 hd => ?_
    have dl : (Gf.digits c (r * w) 256).length = r * w := Gf.digits_length _ _ _
    refine s_retM (em_zR (n := r) (ea_cons (ev_var rfl) ea_nil) (mtx_mt c r w).rows (by omega) (fun x => rfl) fun i l H2 e2 hl => ?_) fun p H2 np e2 h2 => k p H2 (fresh_back e1 np) (e1.trans e2) (h2.back e1)
    have hi : i < r := by
      rw [← (mtx_mt c r w).rows]
      exact (List.getElem?_eq_some_iff.mp hl).1
    have el : l = ((Gf.digits c (r * w) 256).drop (i * w)).take w := by
      unfold mtx Py.rowsOf at hl
      rw [Py.range_get hi] at hl
      exact (Option.some.inj hl).symm
    have b2 : (i + 1) * w ≤ r * w := Nat.mul_le_mul_right w hi
    have b3 : i * w ≤ (i + 1) * w := Nat.mul_le_mul_right w (Nat.le_succ i)
    have b4 : (i + 1) * w - i * w = w := by
      rw [Nat.add_mul, Nat.one_mul]
      omega
    rw [el]
    refine el_is (el_sl (ev_var rfl) (eo_some (ev_op (ev_var rfl) (ev_var rfl) (rv_mulN (by omega)))) (eo_some (ev_op (ev_op (ev_var rfl) ev_c (rv_addN (b := 1))) (ev_var rfl) (rv_mulN (by omega)))) (sq_of (LN.up hd e2))) ?_
    rw [cut_mid b3 (by rw [len_map, dl]; exact b2), b4, List.map_take, List.map_drop]
def sp__law_times : Sp := fun vs H Q _ => ∃ (p q : Addr) (A M : List (List Nat)) (h n w : Nat), vs = [.ref p, .ref q] ∧ MN H p A ∧ MN H q M ∧ Py.Mt A h n ∧ Py.Mt M n w ∧ (0 < n ∧ h ≤ 1000 ∧ n ≤ 1000 ∧ w ≤ 1000) ∧ RetM (Py.times A M w) H Q
theorem spm__law_times {p q : Addr} {A M : List (List Nat)} {h n w : Nat} {H : Hp} (hp : MN H p A) (hq : MN H q M) (hA : Py.Mt A h n) (hM : Py.Mt M n w) (b : 0 < n ∧ h ≤ 1000 ∧ n ≤ 1000 ∧ w ≤ 1000) : SpM sp__law_times ([.ref p, .ref q] ++ []) H (Py.times A M w) := fun H1 e Q k E => ⟨p, q, A, M, h, n, w, rfl, hp.up e, hq.up e, hA, hM, b, k⟩
theorem cols_mt {M : List (List Nat)} {n w : Nat} (hM : Py.Mt M n w) : Py.Mt (Py.colsOf M w) w n := by
  unfold Py.colsOf
  refine ⟨by simp, fun l hl => ?_, fun l hl => ?_⟩
  · obtain ⟨k, _, rfl⟩ := List.mem_map.mp hl
    rw [List.length_map, hM.rows]
  · obtain ⟨k, _, rfl⟩ := List.mem_map.mp hl
    refine Py.oc_of fun c hc => ?_
    obtain ⟨r, hr, rfl⟩ := List.mem_map.mp hc
    exact hM.oct r hr k
theorem ok__law_times (T : Txt K mg) : Okf P w K mg base CX0 3 "_law_times" s__law_times P__law_times sp__law_times := by
  obtain ⟨fd__law_dot, G__law_dot, B__law_dot, _⟩ := ok__law_dot (P := P) (w := w) (base := base) T
  obtain ⟨fd, F⟩ := T.F__law_times
  refine ⟨fd, F.ok sc__law_times (fun vs H Q E h => ?_) (fun cdv A outer s H vs Q E hr h => ?_), F.bindsN fun _ _ _ _ _ _ us hl => match us, hl with | [_, _], _ => rfl, F⟩
  · obtain ⟨p, q, A, M, h, n, w, rfl, hp, hq, hA, hM, ⟨b1, b2, b3, b4⟩, k⟩ := h
    rfl
  · obtain ⟨p, q, A, M, h, n, w, rfl, hp, hq, hA, hM, ⟨b1, b2, b3, b4⟩, k⟩ := h
    refine ⟨_, PSs.nox (pss_cons (ps_set (i := 2) sc__law_times.nd rfl (by first | exact Or.inl rfl | exact Or.inr rfl) (pe_lc (own := [("k", 4)]) (g := gName 4) (tt := tYes) (by rfl) sc__law_times.nd (pi_range1 rfl T.m_range (pa_cons (pe_callB (call_lenK (K := K) rfl) (by rfl) T.m_len (by decide +kernel) (pa_cons (pe_ix (ix_listK (K := K) rfl) (pv 1) pe_int (fun _ _ => rfl)) pa_nil)) pa_nil)) (blkOk_by (own := [("k", 4)]) (N := N__law_times) (sc := defScope s__law_times) (by decide +kernel)) (fun _ _ _ _ _ => (pg_name (i := 4) sc__law_times.nd rfl (by first | exact Or.inl rfl | exact Or.inr rfl))) (fun _ _ _ _ _ => pts_nil) (fun _ _ _ _ _ => (pe_lc (own := [("row", 3)]) (g := gName 3) (tt := tYes) (by rfl) sc__law_times.nd (pi_listK (K := K) rfl (pv 1)) (by dsimp only [L2.Cx.blk, compEnvC]; exact blkOk_by (by kernel_rfl)) (fun _ _ _ _ _ => (pg_name (i := 3) sc__law_times.nd rfl (by first | exact Or.inl rfl | exact Or.inr rfl))) (fun _ _ _ _ _ => pts_nil) (fun _ _ _ _ _ => (pe_ix (ix_listK (K := K) rfl) (pv 3) (pv 4) (fun _ _ => rfl)))))))
(pss_one (ps_ret (pe_lc (own := [("row", 3)]) (g := gName 3) (tt := tYes) (by rfl) sc__law_times.nd (pi_listK (K := K) rfl (pv 0)) (blkOk_by (own := [("row", 3)]) (N := N__law_times) (sc := defScope s__law_times) (by decide +kernel)) (fun _ _ _ _ _ => (pg_name (i := 3) sc__law_times.nd rfl (by first | exact Or.inl rfl | exact Or.inr rfl))) (fun _ _ _ _ _ => pts_nil) (fun _ _ _ _ _ => (pe_lc (own := [("column", 5)]) (g := gName 5) (tt := tYes) (by rfl) sc__law_times.nd (pi_listK (K := K) rfl (pv 2)) (by dsimp only [L2.Cx.blk, compEnvC]; exact blkOk_by (by kernel_rfl)) (fun _ _ _ _ _ => (pg_name (i := 5) sc__law_times.nd rfl (by first | exact Or.inl rfl | exact Or.inr rfl))) (fun _ _ _ _ _ => pts_nil) (fun _ _ _ _ _ => (pe_call G__law_dot (hr.mono (by decide)) rfl T.g__law_dot T.p__law_dot B__law_dot .nil pass0 (pa_cons (pv 3) (pa_cons (pv 5) pa_nil)))))))))), ?_⟩
    obtain ⟨r0, hr0, hv0⟩ := mn_ix (K := K) hq (k := 0) (by rw [hM.rows]; exact b1)
    have hr := hM.at b1
    have hC := cols_mt hM
    refine q_asgM (M := Py.colsOf M w) (em_zR (n := w) (ea_cons (ev_is (ev_lenL (ev_op (ev_var rfl) ev_c hv0) (sq_of hr0)) (by rw [len_map, hr.1])) ea_nil) hC.rows (by omega) (fun x => rfl) fun i l H1 e1 hl => ?_) fun ca H1 nc e1 hca => ?_
    · have hi : i < w := by
        rw [← hC.rows]
        exact (List.getElem?_eq_some_iff.mp hl).1
      have el : l = M.map fun r => Py.at0 r i := by
        unfold Py.colsOf at hl
        rw [Py.range_get hi] at hl
        exact (Option.some.inj hl).symm
      rw [el]
      refine el_zM (ev_var rfl) (hq.up e1) (by rw [List.length_map]) (by rw [hM.rows]; omega) (fun x => rfl) fun j r H2 e2 hj hr => ?_
      rw [Py.at0_of (v := Py.at0 (Py.at1 M j) i) (by rw [List.getElem?_map, Py.at1_get hj]; rfl)]
      exact ev_op (ev_var rfl) (ev_var rfl) (rv_ixLN (sq_of hr) (nat_get (by rw [(hM.at (j := j) (by rw [hM.rows] at hj; exact hj)).1]; exact hi)))
    · refine s_retM (em_zM (M := Py.times A M w) (ev_var rfl) (hp.up e1) (by unfold Py.times; rw [List.length_map]) (by rw [hA.rows]; omega) (fun x => rfl) fun i r H2 e2 hi hr => ?_) fun s H2 n2 e2 h2 => k s H2 (fresh_back e1 n2) (e1.trans e2) (h2.back e1)
      have ha := hA.at (j := i) (by rw [hA.rows] at hi; exact hi)
      rw [Py.at1_of (r := (Py.colsOf M w).map fun c => Py.dot (Py.at1 A i) c) (by unfold Py.times; rw [List.getElem?_map, Py.at1_get hi]; rfl)]
      refine el_zM (ev_var rfl) (hca.mn.up e2) (by rw [List.length_map]) (by rw [hC.rows]; omega) (fun x => rfl) fun j r2 H3 e3 hj hr2 => ?_
      have hc := hC.at (j := j) (by rw [hC.rows] at hj; exact hj)
      rw [Py.at0_of (v := Py.dot (Py.at1 A i) (Py.at1 (Py.colsOf M w) j)) (by rw [List.getElem?_map, Py.at1_get hj]; rfl)]
      exact ev_call (by walk_at "ev") (spv__law_dot (hr.up e3) hr2 (by rw [ha.1, hc.1]) ha.2 hc.2 (by rw [ha.1]; exact b3))
def sp__law_is_matrix : Sp := fun vs H Q _ => ∃ (p : Addr) (M : List (List Nat)) (r c : Nat), vs = [.ref p, .int (r : Int), .int (c : Int)] ∧ MN H p M ∧ Py.Mt M r c ∧ RetV (.bl true) H Q
theorem spv__law_is_matrix {p : Addr} {M : List (List Nat)} {r c : Nat} {H : Hp} (hp : MN H p M) (hM : Py.Mt M r c) : SpV sp__law_is_matrix ([.ref p, .int (r : Int), .int (c : Int)] ++ []) H (.bl true) := fun H1 e Q k E => ⟨p, M, r, c, rfl, hp.up e, hM, k⟩
theorem ok__law_is_matrix (T : Txt K mg) : Okf P w K mg base CX0 3 "_law_is_matrix" s__law_is_matrix P__law_is_matrix sp__law_is_matrix := by
  obtain ⟨fd__law_octets, G__law_octets, B__law_octets, _⟩ := ok__law_octets (P := P) (w := w) (base := base) T
  obtain ⟨fd, F⟩ := T.F__law_is_matrix
  refine ⟨fd, F.ok sc__law_is_matrix (fun vs H Q E h => ?_) (fun cdv A outer s H vs Q E hr h => ?_), F.bindsN fun _ _ _ _ _ _ us hl => match us, hl with | [_, _, _], _ => rfl, F⟩
  · obtain ⟨p, M, r, c, rfl, hp, hM, k⟩ := h
    rfl
  · obtain ⟨p, M, r, c, rfl, hp, hM, k⟩ := h
    refine ⟨_, PSs.nox (pss_cons (ps_if (PW.pt (pw_or (pt_not (pt_val (pe_callB (call_isiK' (K := K) rfl) (by rfl) T.m_isinstance (by decide +kernel) (pa_cons (pv 0) (pa_cons (pe_bltn (v := .ty "list") (by rfl) T.m_list (by decide +kernel) rfl) pa_nil))))) (pw_or1 (pt_cmpR op_ne (pe_callB (call_lenK (K := K) rfl) (by rfl) T.m_len (by decide +kernel) (pa_cons (pv 0) pa_nil)) (pv 1) (nomark _))))) (pss_one (ps_ret pe_bl)) pss_nil)
(pss_cons (ps_for PassesOwn.never rfl (pi_listK (K := K) rfl (pv 0)) (pg_name (i := 3) sc__law_is_matrix.nd rfl (by first | exact Or.inl rfl | exact Or.inr rfl)) (pss_one (ps_if (pt_not (pt_val (pe_call G__law_octets (hr.mono (by decide)) rfl T.g__law_octets T.p__law_octets B__law_octets .nil pass0 (pa_cons (pv 3) (pa_cons (pv 2) pa_nil))))) (pss_one (ps_ret pe_bl)) pss_nil)))
(pss_one (ps_ret pe_bl)))), ?_⟩
    obtain ⟨rs, h1, h2⟩ := id hp
    have lq : (rs.map V.ref).length = r := by rw [List.length_map, h2.len, hM.rows]
    refine q_when (b := false) (et_is (et_or (et_not (et_B (ev_isiL (b := true) (ev_var rfl) h1 ev_c (by decide +kernel)))) fun _ => et_test (ev_op (ev_lenL (ev_var rfl) (sq_of h1)) (ev_var rfl) (rv_ne rfl))) (by rw [lq]; simp)) (fun q => absurd q Bool.false_ne_true) fun _ H1 e1 => ?_
    refine q_forM (ev_var rfl) (hp.up e1) (fun i s H' => ∃ v, s = [some (.ref p), some (.int (r : Int)), some (.int (c : Int)), v] ∧ Ex H1 H') (fun H2 e2 => ⟨none, rfl, e2⟩) ?_ ?_ ?_
    · rintro i s H' ⟨v, rfl, e⟩
      exact e
    · rintro i a s H' hi ha ⟨v, rfl, e⟩
      have hm := hM.at (j := i) (by rw [hM.rows] at hi; exact hi)
      exact s_when (b := false) (et_is (et_not (et_B (ev_call (ea_cons (ev_var rfl) (ea_cons (ev_var rfl) ea_nil)) (spv__law_octets ha hm.2 (by rw [hm.1]))))) rfl) (fun q => absurd q Bool.false_ne_true) fun _ H2 e2 => ⟨_, rfl, e.trans e2⟩
    · rintro s H' ⟨v, rfl, e⟩
      exact s_ret ev_c fun H2 e2 => k H2 ((e1.trans e).trans e2)
def sp_mat_mul (K : PySem.W.Frag) : Sp := fun vs H Q E => ∃ (p q : Addr) (A M : List (List Nat)) (h n m w : Nat), vs = [.ref p, .ref q] ∧ MN H p A ∧ MN H q M ∧ Py.Mt A h n ∧ Py.Mt M m w ∧ (0 < h ∧ h < 256 ∧ 0 < n ∧ n < 256 ∧ 0 < m ∧ m < 256 ∧ w < 256) ∧
  (¬ n = m → ∀ H', Ex H H' → E (.ref (He.ga K "ShapeMismatch")) none H') ∧ (n = m → RetM (A.map fun r => Py.comb r M w) H Q)
theorem spm_mat_mul {p q : Addr} {A M : List (List Nat)} {h n w : Nat} {H : Hp} (hp : MN H p A) (hq : MN H q M) (hA : Py.Mt A h n) (hM : Py.Mt M n w) (b : 0 < h ∧ h < 256 ∧ 0 < n ∧ n < 256 ∧ w < 256) : SpM (sp_mat_mul K) ([.ref p, .ref q] ++ []) H (A.map fun r => Py.comb r M w) := fun H1 e Q k E => ⟨p, q, A, M, h, n, n, w, rfl, hp.up e, hq.up e, hA, hM, ⟨b.1, b.2.1, b.2.2.1, b.2.2.2.1, b.2.2.1, b.2.2.2.1, b.2.2.2.2⟩, fun z => absurd rfl z, fun _ => k⟩
theorem ok_mat_mul (T : Txt K mg) : Okf P w K mg base (L2.CX P w) 4 "mat_mul" s_mat_mul P_mat_mul (sp_mat_mul K) := by
  obtain ⟨fd_combined, G_combined, B_combined, _⟩ := ok_combined (P := P) (w := w) (base := base) T
  obtain ⟨fd, F⟩ := T.F_mat_mul
  refine ⟨fd, F.ok sc_mat_mul (fun vs H Q E h => ?_) (fun cdv A outer s H vs Q E hr h => ?_), F.bindsN fun _ _ _ _ _ _ us hl => match us, hl with | [_, _], _ => rfl, F⟩
  · obtain ⟨p, q, A, M, h, n, m, w, rfl, hp, hq, hA, hM, ⟨b1, b2, b3, b4, b5, b6, b7⟩, kE, k⟩ := h
    rfl
  · obtain ⟨p, q, A, M, h, n, m, w, rfl, hp, hq, hA, hM, ⟨b1, b2, b3, b4, b5, b6, b7⟩, kE, k⟩ := h
    refine ⟨_, (pss_cons (ps_if (pt_cmpR op_ne (pe_callB (call_lenK (K := K) rfl) (by rfl) T.m_len (by decide +kernel) (pa_cons (pe_ix (ix_listK (K := K) rfl) (pv 0) pe_int (fun _ _ => rfl)) pa_nil)) (pe_callB (call_lenK (K := K) rfl) (by rfl) T.m_len (by decide +kernel) (pa_cons (pv 1) pa_nil)) (nomark _)) (pss_one (ps_raise rfl (takes_of rfl rfl rfl rfl) (SkE.pmk_own1 PySem.F.excBase_ValueError T.x_ShapeMismatch T.c_ShapeMismatch T.k_ShapeMismatch (raises_own T.b_ShapeMismatch T.t_ShapeMismatch) (by exact rfl) (pe_joined (PJ.cons (pe_fmt (pe_callB (call_lenK (K := K) rfl) (by rfl) T.m_len (by decide +kernel) (pa_cons (pe_ix (ix_listK (K := K) rfl) (pv 0) pe_int (fun _ _ => rfl)) pa_nil))) (PJ.cons pe_str (PJ.cons (pe_fmt (pe_callB (call_lenK (K := K) rfl) (by rfl) T.m_len (by decide +kernel) (pa_cons (pv 1) pa_nil))) (PJ.cons pe_str PJ.nil)))))))) pss_nil)
(pss_one (ps_ret (pe_lc (own := [("row", 2)]) (g := gName 2) (tt := tYes) (by rfl) sc_mat_mul.nd (pi_listK (K := K) rfl (pv 0)) (blkOk_by (own := [("row", 2)]) (N := N_mat_mul) (sc := defScope s_mat_mul) (by decide +kernel)) (fun _ _ _ _ _ => (pg_name (i := 2) sc_mat_mul.nd rfl (by first | exact Or.inl rfl | exact Or.inr rfl))) (fun _ _ _ _ _ => pts_nil) (fun _ _ _ _ _ => (pe_call G_combined (hr.mono (by decide)) rfl T.g_combined T.p_combined B_combined .nil pass0 (pa_cons (pv 2) (pa_cons (pv 1) pa_nil)))))))), ?_⟩
    obtain ⟨r0, hr0, hv0⟩ := mn_ix (K := K) hp (k := 0) (by rw [hA.rows]; exact b1)
    obtain ⟨rq, hq1, hq2⟩ := id hq
    have hr := hA.at b1
    have lq : (rq.map V.ref).length = m := by rw [List.length_map, hq2.len, hM.rows]
    refine q_when (et_test (ev_op (ev_lenL (ev_op (ev_var rfl) ev_c hv0) (sq_of hr0)) (ev_lenL (ev_var rfl) (sq_of hq1)) (rv_ne rfl))) (fun h0 H1 e1 => ?_) (fun h0 H1 e1 => ?_)
    · rw [len_map, hr.1, lq] at h0
      have z : ¬ n = m := dne_t h0
      exact js2 (a := n) (b := m) (ev_is (ev_lenL (ev_op (ev_var rfl) ev_c (rv_up hv0 e1)) (sq_of (hr0.up e1))) (by rw [len_map, hr.1])) ev_c (ev_is (ev_lenL (ev_var rfl) (sq_of (e1 _ _ hq1))) (by rw [lq])) ev_c b4 b6 (by decide) (by decide) fun _ H2 e2 => kE z H2 (e1.trans e2)
    · rw [len_map, hr.1, lq] at h0
      have z : n = m := dne_f h0
      subst z
      refine s_retM (em_zM (ev_var rfl) (hp.up e1) (by rw [List.length_map]) (by rw [hA.rows]; omega) (fun x => rfl) fun i r H2 e2 hi hl => ?_) fun s H2 n2 e2 h2 => k rfl s H2 (fresh_back e1 n2) (e1.trans e2) (h2.back e1)
      have ha := hA.at (j := i) (by rw [hA.rows] at hi; exact hi)
      rw [Py.at1_of (r := Py.comb (Py.at1 A i) M w) (by rw [List.getElem?_map, Py.at1_get hi]; rfl)]
      exact el_call (by walk_at "ev") (spl_combined hl ((hq.up e1).up e2) ha.1 hM ha.2 b3 (by omega) (by omega))
def sp_mat_vec (K : PySem.W.Frag) : Sp := fun vs H Q E => ∃ (p q : Addr) (A : List (List Nat)) (v : List Nat) (h n m : Nat), vs = [.ref p, .ref q] ∧ MN H p A ∧ LN H q v ∧ Py.Mt A h n ∧ v.length = m ∧ Py.Oc v ∧ (0 < h ∧ h < 256 ∧ 0 < n ∧ n < 256 ∧ m < 256) ∧
  (¬ n = m → ∀ H', Ex H H' → E (.ref (He.ga K "ShapeMismatch")) none H') ∧ (n = m → RetL ((A.map fun r => Py.dot r v).map nV) H Q)
theorem spl_mat_vec {p q : Addr} {A : List (List Nat)} {v : List Nat} {h n : Nat} {H : Hp} (hp : MN H p A) (hq : LN H q v) (hA : Py.Mt A h n) (hv : v.length = n) (ho : Py.Oc v) (b : 0 < h ∧ h < 256 ∧ 0 < n ∧ n < 256) : SpL (sp_mat_vec K) ([.ref p, .ref q] ++ []) H ((A.map fun r => Py.dot r v).map nV) := fun H1 e Q k E => ⟨p, q, A, v, h, n, n, rfl, hp.up e, hq.up e, hA, hv, ho, ⟨b.1, b.2.1, b.2.2.1, b.2.2.2, b.2.2.2⟩, fun z => absurd rfl z, fun _ => k⟩
theorem ok_mat_vec (T : Txt K mg) : Okf P w K mg base (L2.CX P w) 4 "mat_vec" s_mat_vec P_mat_vec (sp_mat_vec K) := by
  obtain ⟨fd_combined, G_combined, B_combined, _⟩ := ok_combined (P := P) (w := w) (base := base) T
  obtain ⟨fd, F⟩ := T.F_mat_vec
  refine ⟨fd, F.ok sc_mat_vec (fun vs H Q E h => ?_) (fun cdv A outer s H vs Q E hr h => ?_), F.bindsN fun _ _ _ _ _ _ us hl => match us, hl with | [_, _], _ => rfl, F⟩
  · obtain ⟨p, q, A, v, h, n, m, rfl, hp, hq, hA, hv, ho, ⟨b1, b2, b3, b4, b5⟩, kE, k⟩ := h
    rfl
  · obtain ⟨p, q, A, v, h, n, m, rfl, hp, hq, hA, hv, ho, ⟨b1, b2, b3, b4, b5⟩, kE, k⟩ := h
    refine ⟨_, (pss_cons (ps_if (pt_cmpR op_ne (pe_callB (call_lenK (K := K) rfl) (by rfl) T.m_len (by decide +kernel) (pa_cons (pe_ix (ix_listK (K := K) rfl) (pv 0) pe_int (fun _ _ => rfl)) pa_nil)) (pe_callB (call_lenK (K := K) rfl) (by rfl) T.m_len (by decide +kernel) (pa_cons (pv 1) pa_nil)) (nomark _)) (pss_one (ps_raise rfl (takes_of rfl rfl rfl rfl) (SkE.pmk_own1 PySem.F.excBase_ValueError T.x_ShapeMismatch T.c_ShapeMismatch T.k_ShapeMismatch (raises_own T.b_ShapeMismatch T.t_ShapeMismatch) (by exact rfl) (pe_joined (PJ.cons (pe_fmt (pe_callB (call_lenK (K := K) rfl) (by rfl) T.m_len (by decide +kernel) (pa_cons (pe_ix (ix_listK (K := K) rfl) (pv 0) pe_int (fun _ _ => rfl)) pa_nil))) (PJ.cons pe_str (PJ.cons (pe_fmt (pe_callB (call_lenK (K := K) rfl) (by rfl) T.m_len (by decide +kernel) (pa_cons (pv 1) pa_nil))) (PJ.cons pe_str PJ.nil)))))))) pss_nil)
(pss_cons (ps_set (i := 2) sc_mat_vec.nd rfl (by first | exact Or.inl rfl | exact Or.inr rfl) (pe_lc (own := [("octet", 3)]) (g := gName 3) (tt := tYes) (by rfl) sc_mat_vec.nd (pi_listK (K := K) rfl (pv 1)) (blkOk_by (own := [("octet", 3)]) (N := N_mat_vec) (sc := defScope s_mat_vec) (by decide +kernel)) (fun _ _ _ _ _ => (pg_name (i := 3) sc_mat_vec.nd rfl (by first | exact Or.inl rfl | exact Or.inr rfl))) (fun _ _ _ _ _ => pts_nil) (fun _ _ _ _ _ => (pe_lst (pa_cons (pv 3) pa_nil)))))
(pss_one (ps_ret (pe_lc (own := [("row", 4)]) (g := gName 4) (tt := tYes) (by rfl) sc_mat_vec.nd (pi_listK (K := K) rfl (pv 0)) (blkOk_by (own := [("row", 4)]) (N := N_mat_vec) (sc := defScope s_mat_vec) (by decide +kernel)) (fun _ _ _ _ _ => (pg_name (i := 4) sc_mat_vec.nd rfl (by first | exact Or.inl rfl | exact Or.inr rfl))) (fun _ _ _ _ _ => pts_nil) (fun _ _ _ _ _ => (pe_ix (ix_listK (K := K) rfl) (pe_call G_combined (hr.mono (by decide)) rfl T.g_combined T.p_combined B_combined .nil pass0 (pa_cons (pv 4) (pa_cons (pv 2) pa_nil))) pe_int (fun _ _ => rfl)))))))), ?_⟩
    obtain ⟨r0, hr0, hv0⟩ := mn_ix (K := K) hp (k := 0) (by rw [hA.rows]; exact b1)
    have hr := hA.at b1
    refine q_when (et_test (ev_op (ev_lenL (ev_op (ev_var rfl) ev_c hv0) (sq_of hr0)) (ev_lenL (ev_var rfl) (sq_of hq)) (rv_ne rfl))) (fun h0 H1 e1 => ?_) (fun h0 H1 e1 => ?_)
    · rw [len_map, hr.1, len_map, hv] at h0
      have z : ¬ n = m := dne_t h0
      exact js2 (a := n) (b := m) (ev_is (ev_lenL (ev_op (ev_var rfl) ev_c (rv_up hv0 e1)) (sq_of (hr0.up e1))) (by rw [len_map, hr.1])) ev_c (ev_is (ev_lenL (ev_var rfl) (sq_of (hq.up e1))) (by rw [len_map, hv])) ev_c b4 b5 (by decide) (by decide) fun _ H2 e2 => kE z H2 (e1.trans e2)
    · rw [len_map, hr.1, len_map, hv] at h0
      have z : n = m := dne_f h0
      subst z
      have hc : Py.Mt (Py.colM v) n 1 := by
        unfold Py.colM
        refine ⟨by rw [List.length_map, hv], fun l hl => ?_, fun l hl => ?_⟩
        · obtain ⟨x, _, rfl⟩ := List.mem_map.mp hl
          rfl
        · obtain ⟨x, hx, rfl⟩ := List.mem_map.mp hl
          exact Py.oc_of fun c hc => by rw [List.mem_singleton.mp hc]; exact ho.mem x hx
      refine q_asgM (M := Py.colM v) (em_zL (ev_var rfl) (sq_of (hq.up e1)) (by rw [len_map, hc.rows, hv]) (by rw [len_map]; omega) (fun x => rfl) fun i x l H2 e2 hx hl => ?_) fun ca H2 n2 e2 hca => ?_
      · obtain ⟨hi, rfl⟩ := nat_of_get hx
        have el : l = [Py.at0 v i] := by
          unfold Py.colM at hl
          rw [List.getElem?_map, Py.at0_get hi] at hl
          exact (Option.some.inj hl).symm
        rw [el]
        exact el_lst (ea_cons (ev_var rfl) ea_nil) (by simp)
      · refine s_retL (el_zM (ev_var rfl) ((hp.up e1).up e2) (by rw [List.length_map]) (by rw [hA.rows]; omega) (fun x => rfl) fun i r H3 e3 hi hl => ?_) fun s H3 n3 e3 h3 => k rfl s H3 (fresh_back (e1.trans e2) n3) ((e1.trans e2).trans e3) h3
        have ha := hA.at (j := i) (by rw [hA.rows] at hi; exact hi)
        rw [Py.at0_of (v := Py.dot (Py.at1 A i) v) (by rw [List.getElem?_map, Py.at1_get hi]; rfl), ← Py.comb_col (by rw [ha.1, hv])]
        exact ev_opL1 (el_call (by walk_at "ev") (spl_combined hl (hca.mn.up e3) ha.1 hc ha.2 b3 (by omega) (by omega))) (fun H4 e4 => ev_c) fun s H4 hs e4 => rv_ixLN (k := 0) (sq_of hs) (nat_get (by unfold Py.comb; rw [Py.combN_length]; decide))
def sp__law_mismatch (K : PySem.W.Frag) : Sp := fun vs H Q _ => ∃ (p q : Addr) (sw : Str) (A : List (List Nat)) (h n m : Nat), vs = [.str sw, .ref p, .ref q] ∧ MN H p A ∧ Py.Mt A h n ∧ (0 < h ∧ h < 256 ∧ 0 < n ∧ n < 256 ∧ 0 < m ∧ m < 256) ∧ ¬ n = m ∧ RetV (.bl true) H Q ∧
  ((sw = "mul" ∧ ∃ M w, MN H q M ∧ Py.Mt M m w ∧ w < 256) ∨ (sw = "vec" ∧ ∃ v, LN H q v ∧ v.length = m ∧ Py.Oc v))
theorem spv__law_mismatch1 {p q : Addr} {A M : List (List Nat)} {h n m w : Nat} {H : Hp} (hp : MN H p A) (hA : Py.Mt A h n) (hq : MN H q M) (hM : Py.Mt M m w) (b : (0 < h ∧ h < 256 ∧ 0 < n ∧ n < 256 ∧ 0 < m ∧ m < 256) ∧ w < 256) (hn : ¬ n = m) : SpV (sp__law_mismatch K) ([.str "mul", .ref p, .ref q] ++ []) H (.bl true) := fun H1 e Q k E => ⟨p, q, _, A, h, n, m, rfl, hp.up e, hA, b.1, hn, k, .inl ⟨rfl, M, w, hq.up e, hM, b.2⟩⟩
theorem spv__law_mismatch2 {p q : Addr} {A : List (List Nat)} {v : List Nat} {h n m : Nat} {H : Hp} (hp : MN H p A) (hA : Py.Mt A h n) (hq : LN H q v) (hv : v.length = m) (ho : Py.Oc v) (b : 0 < h ∧ h < 256 ∧ 0 < n ∧ n < 256 ∧ 0 < m ∧ m < 256) (hn : ¬ n = m) : SpV (sp__law_mismatch K) ([.str "vec", .ref p, .ref q] ++ []) H (.bl true) := fun H1 e Q k E => ⟨p, q, _, A, h, n, m, rfl, hp.up e, hA, b, hn, k, .inr ⟨rfl, v, hq.up e, hv, ho⟩⟩
theorem ok__law_mismatch (T : Txt K mg) : Okf P w K mg base CX0 5 "_law_mismatch" s__law_mismatch P__law_mismatch (sp__law_mismatch K) := by
  obtain ⟨fd_mat_mul, G_mat_mul, B_mat_mul, _⟩ := ok_mat_mul (P := P) (w := w) (base := base) T
  obtain ⟨fd_mat_vec, G_mat_vec, B_mat_vec, _⟩ := ok_mat_vec (P := P) (w := w) (base := base) T
  obtain ⟨fd, F⟩ := T.F__law_mismatch
  refine ⟨fd, F.ok sc__law_mismatch (fun vs H Q E h => ?_) (fun cdv A outer s H vs Q E hr h => ?_), F.bindsN fun _ _ _ _ _ _ us hl => match us, hl with | [_, _, _], _ => rfl, F⟩
  · obtain ⟨p, q, sw, A, h, n, m, rfl, hp, hA, ⟨b1, b2, b3, b4, b5, b6⟩, hn, k, hor⟩ := h
    rfl
  · obtain ⟨p, q, sw, A, h, n, m, rfl, hp, hA, ⟨b1, b2, b3, b4, b5, b6⟩, hn, k, hor⟩ := h
    refine ⟨_, PSs.nox (pss_cons (ps_try_as (i := 3) rfl rfl sc__law_mismatch.nd rfl rfl ⟨rfl, by decide, .inl T.c_CairnError⟩ takes0 (fun W pn xe tk1 _ => (pss_one (ps_if (pt_cmpR op_eq (pv 0) pe_str (nomark _)) (pss_one (ps_expr (pe_callS G_mat_mul (hr.mono (by decide)) rfl T.g_mat_mul T.p_mat_mul B_mat_mul (fun σ => passAt tk1 σ) (pa_cons (pv 1) (pa_cons (pv 2) pa_nil))))) (pss_one (ps_expr (pe_callS G_mat_vec (hr.mono (by decide)) rfl T.g_mat_vec T.p_mat_vec B_mat_vec (fun σ => passAt tk1 σ) (pa_cons (pv 1) (pa_cons (pv 2) pa_nil)))))))) (fun a oe cls d pn hz hf => (given_yes (p := cls = .ref (He.ga K "ShapeMismatch") ∧ d = none) fun pq => by obtain ⟨rfl, rfl⟩ := pq; exact (pss_one (ps_ret (pe_and (pe_callB (call_isE T.ec_ShapeMismatch hz hf) (by rfl) T.m_isinstance (by decide +kernel) (pa_cons (pv 3) (pa_cons (pe_glob (v := .ref (He.ga K "ShapeMismatch")) rfl T.c_ShapeMismatch rfl) pa_nil))) (pe_and (pe_callB (call_isE T.ec_ShapeMismatch hz hf) (by rfl) T.m_isinstance (by decide +kernel) (pa_cons (pv 3) (pa_cons (pe_bltn (v := .ty "ValueError") (by rfl) T.m_ValueError (by decide +kernel) rfl) pa_nil))) (pe_one (pe_not (pe_callB (call_isE T.ec_ShapeMismatch hz hf) (by rfl) T.m_isinstance (by decide +kernel) (pa_cons (pv 3) (pa_cons (pe_glob (v := .ref (He.ga K "Singular")) rfl T.c_Singular rfl) pa_nil))))))))))))
(pss_one (ps_ret pe_bl))), ?_⟩
    refine s_if (et_test (ev_op (ev_var rfl) ev_c (rv_eq rfl))) (fun h0 H1 e1 => ?_) (fun h0 H1 e1 => ?_)
    · obtain ⟨rfl, M, w, hq, hM, b7⟩ | ⟨rfl, _⟩ := hor
      · refine s_dropC (ea_cons (ev_var rfl) (ea_cons (ev_var rfl) ea_nil)) fun H2 e2 => ?_
        refine ⟨p, q, A, M, h, n, m, w, rfl, (hp.up e1).up e2, (hq.up e1).up e2, hA, hM, ⟨b1, b2, b3, b4, b5, b6, b7⟩, fun _ H3 e3 => ⟨true, T.ex_ShapeMismatch_CairnError, fun _ ae nae => ⟨⟨rfl, rfl⟩, ?_⟩, fun q => nomatch q⟩, fun q => absurd q hn⟩
        exact s_ret (v := .bl (true && (true && !false))) (ev_andV (ev_isEr (ev_var rfl) ev_c T.is_ShapeMismatch_ShapeMismatch) fun _ => ev_andV (ev_isEt (ev_var rfl) ev_c T.iv_ShapeMismatch) fun _ => ev_notV (ev_isEr (ev_var rfl) ev_c T.is_ShapeMismatch_Singular)) fun H4 e4 => k H4 (((e1.trans e2).trans e3).trans e4)
      · exact absurd h0 (by decide)
    · obtain ⟨rfl, _⟩ | ⟨rfl, v, hq, hv, ho⟩ := hor
      · exact absurd h0 (by decide)
      · refine s_dropC (ea_cons (ev_var rfl) (ea_cons (ev_var rfl) ea_nil)) fun H2 e2 => ?_
        refine ⟨p, q, A, v, h, n, m, rfl, (hp.up e1).up e2, (hq.up e1).up e2, hA, hv, ho, ⟨b1, b2, b3, b4, b6⟩, fun _ H3 e3 => ⟨true, T.ex_ShapeMismatch_CairnError, fun _ ae nae => ⟨⟨rfl, rfl⟩, ?_⟩, fun q => nomatch q⟩, fun q => absurd q hn⟩
        exact s_ret (v := .bl (true && (true && !false))) (ev_andV (ev_isEr (ev_var rfl) ev_c T.is_ShapeMismatch_ShapeMismatch) fun _ => ev_andV (ev_isEt (ev_var rfl) ev_c T.iv_ShapeMismatch) fun _ => ev_notV (ev_isEr (ev_var rfl) ev_c T.is_ShapeMismatch_Singular)) fun H4 e4 => k H4 (((e1.trans e2).trans e3).trans e4)
def sp_law (K : PySem.W.Frag) : Sp := fun vs H Q _ => ∃ (a : Addr) (ns : List Int), vs = [.ref a] ∧ SqL K H a (ns.map V.int) ∧ ns.length ≤ 63 ∧ ∀ H', Q (.bl true) H'
theorem nat_up {z m k b : Int} (hk : 0 ≤ k) (h : 0 < m) (hb : k + m ≤ b + 1) : ∃ n : Nat, k + z % m = (n : Int) ∧ k ≤ (n : Int) ∧ (n : Int) ≤ b := by
  have h1 := Int.emod_nonneg z (show m ≠ 0 by omega)
  have h2 := Int.emod_lt_of_pos z h
  exact ⟨(k + z % m).toNat, by omega, by omega, by omega⟩
theorem ok_law (T : Txt K mg) : Okf P w K mg base CX0 6 "law" s_law P_law (sp_law K) := by
  obtain ⟨fd__law_cell, G__law_cell, B__law_cell, _⟩ := ok__law_cell (P := P) (w := w) (base := base) T
  obtain ⟨fd__law_digits, G__law_digits, B__law_digits, _⟩ := ok__law_digits (P := P) (w := w) (base := base) T
  obtain ⟨fd__law_dot, G__law_dot, B__law_dot, _⟩ := ok__law_dot (P := P) (w := w) (base := base) T
  obtain ⟨fd__law_is_matrix, G__law_is_matrix, B__law_is_matrix, _⟩ := ok__law_is_matrix (P := P) (w := w) (base := base) T
  obtain ⟨fd__law_matrix, G__law_matrix, B__law_matrix, _⟩ := ok__law_matrix (P := P) (w := w) (base := base) T
  obtain ⟨fd__law_mismatch, G__law_mismatch, B__law_mismatch, _⟩ := ok__law_mismatch (P := P) (w := w) (base := base) T
  obtain ⟨fd__law_octets, G__law_octets, B__law_octets, _⟩ := ok__law_octets (P := P) (w := w) (base := base) T
  obtain ⟨fd__law_powers, G__law_powers, B__law_powers, _⟩ := ok__law_powers (P := P) (w := w) (base := base) T
  obtain ⟨fd__law_times, G__law_times, B__law_times, _⟩ := ok__law_times (P := P) (w := w) (base := base) T
  obtain ⟨fd_identity, G_identity, B_identity, _⟩ := ok_identity (P := P) (w := w) (base := base) T
  obtain ⟨fd_mat_mul, G_mat_mul, B_mat_mul, _⟩ := ok_mat_mul (P := P) (w := w) (base := base) T
  obtain ⟨fd_mat_vec, G_mat_vec, B_mat_vec, _⟩ := ok_mat_vec (P := P) (w := w) (base := base) T
  obtain ⟨fd_vandermonde, G_vandermonde, B_vandermonde, _⟩ := ok_vandermonde (P := P) (w := w) (base := base) T
  obtain ⟨fd, F⟩ := T.F_law
  refine ⟨fd, F.ok sc_law (fun vs H Q E h => ?_) (fun cdv A outer s H vs Q E hr h => ?_), F.bindsN fun _ _ _ _ _ _ us hl => match us, hl with | [_], _ => rfl, F⟩
  · obtain ⟨a, ns, rfl, hS, hl, k⟩ := h
    rfl
  · obtain ⟨a, ns, rfl, hS, hl, k⟩ := h
    refine ⟨_, PSs.nox (pss_cons (ps_set (i := 1) sc_law.nd rfl (by first | exact Or.inl rfl | exact Or.inr rfl) (pe_callTy call_int1 (by rfl) T.m_int (by decide +kernel) (pa_cons (pe_call G__law_cell (hr.mono (by decide)) rfl T.g__law_cell T.p__law_cell B__law_cell .nil pass0 (pa_cons (pv 0) (pa_cons pe_int pa_nil))) pa_nil)))
(pss_cons (ps_par3 (i := 2) (j := 3) (l := 4) (by rfl) sc_law.nd rfl rfl rfl (by decide) (by decide) (by decide) rfl rfl rfl (pa_cons (pe_op op_add pe_int (pe_op op_mod (pv 1) pe_int)) (pa_cons (pe_op op_add pe_int (pe_op op_mod (pe_op op_fdiv (pv 1) pe_int) pe_int)) (pa_cons (pe_op op_add pe_int (pe_op op_mod (pe_op op_fdiv (pv 1) pe_int) pe_int)) pa_nil))) (by rfl))
(pss_cons (ps_if (pt_cmpR op_eq (pe_op op_mod (pe_op op_fdiv (pv 1) pe_int) pe_int) pe_int (nomark _)) (pss_one (ps_par3 (i := 2) (j := 3) (l := 4) (by rfl) sc_law.nd rfl rfl rfl (by decide) (by decide) (by decide) rfl rfl rfl (pa_cons (pe_op op_add pe_int (pe_op op_mod (pv 1) pe_int)) (pa_cons (pe_op op_add pe_int (pe_op op_mod (pe_op op_fdiv (pv 1) pe_int) pe_int)) (pa_cons (pe_op op_add pe_int (pe_op op_mod (pe_op op_fdiv (pv 1) pe_int) pe_int)) pa_nil))) (by rfl))) pss_nil)
(pss_cons (ps_set (i := 5) sc_law.nd rfl (by first | exact Or.inl rfl | exact Or.inr rfl) (pe_call G__law_matrix (hr.mono (by decide)) rfl T.g__law_matrix T.p__law_matrix B__law_matrix .nil pass0 (pa_cons (pe_call G__law_cell (hr.mono (by decide)) rfl T.g__law_cell T.p__law_cell B__law_cell .nil pass0 (pa_cons (pv 0) (pa_cons pe_int pa_nil))) (pa_cons (pv 2) (pa_cons (pv 3) pa_nil)))))
(pss_cons (ps_set (i := 6) sc_law.nd rfl (by first | exact Or.inl rfl | exact Or.inr rfl) (pv 3))
(pss_cons (ps_if (pt_cmpR op_eq (pe_op op_mod (pe_op op_fdiv (pv 1) pe_int) pe_int) pe_int (nomark _)) (pss_one (ps_set (i := 6) sc_law.nd rfl (by first | exact Or.inl rfl | exact Or.inr rfl) (pe_op op_add pe_int (pe_op op_mod (pe_op op_fdiv (pv 1) pe_int) pe_int)))) pss_nil)
(pss_cons (ps_set (i := 7) sc_law.nd rfl (by first | exact Or.inl rfl | exact Or.inr rfl) (pe_call G__law_matrix (hr.mono (by decide)) rfl T.g__law_matrix T.p__law_matrix B__law_matrix .nil pass0 (pa_cons (pe_call G__law_cell (hr.mono (by decide)) rfl T.g__law_cell T.p__law_cell B__law_cell .nil pass0 (pa_cons (pv 0) (pa_cons pe_int pa_nil))) (pa_cons (pv 6) (pa_cons (pv 4) pa_nil)))))
(pss_cons (ps_set (i := 8) sc_law.nd rfl (by first | exact Or.inl rfl | exact Or.inr rfl) (pv 3))
(pss_cons (ps_if (pt_cmpR op_eq (pe_op op_mod (pe_op op_fdiv (pv 1) pe_int) pe_int) pe_int (nomark _)) (pss_one (ps_set (i := 8) sc_law.nd rfl (by first | exact Or.inl rfl | exact Or.inr rfl) (pe_op op_add pe_int (pe_op op_mod (pe_op op_fdiv (pv 1) pe_int) pe_int)))) pss_nil)
(pss_cons (ps_set (i := 9) sc_law.nd rfl (by first | exact Or.inl rfl | exact Or.inr rfl) (pe_call G__law_digits (hr.mono (by decide)) rfl T.g__law_digits T.p__law_digits B__law_digits .nil pass0 (pa_cons (pe_call G__law_cell (hr.mono (by decide)) rfl T.g__law_cell T.p__law_cell B__law_cell .nil pass0 (pa_cons (pv 0) (pa_cons pe_int pa_nil))) (pa_cons (pv 8) (pa_cons pe_int pa_nil)))))
(pss_cons (ps_par3 (i := 10) (j := 11) (l := 12) (by rfl) sc_law.nd rfl rfl rfl (by decide) (by decide) (by decide) rfl rfl rfl (pa_cons (pe_lc (own := [("row", 13)]) (g := gName 13) (tt := tYes) (by rfl) sc_law.nd (pi_listK (K := K) rfl (pv 5)) (blkOk_by (own := [("row", 13)]) (N := N_law) (sc := defScope s_law) (by decide +kernel)) (fun _ _ _ _ _ => (pg_name (i := 13) sc_law.nd rfl (by first | exact Or.inl rfl | exact Or.inr rfl))) (fun _ _ _ _ _ => pts_nil) (fun _ _ _ _ _ => (pe_callTy (call_list_ofK (K := K) rfl) (by rfl) T.m_list (by decide +kernel) (pa_cons (pv 13) pa_nil)))) (pa_cons (pe_lc (own := [("row", 13)]) (g := gName 13) (tt := tYes) (by rfl) sc_law.nd (pi_listK (K := K) rfl (pv 7)) (blkOk_by (own := [("row", 13)]) (N := N_law) (sc := defScope s_law) (by decide +kernel)) (fun _ _ _ _ _ => (pg_name (i := 13) sc_law.nd rfl (by first | exact Or.inl rfl | exact Or.inr rfl))) (fun _ _ _ _ _ => pts_nil) (fun _ _ _ _ _ => (pe_callTy (call_list_ofK (K := K) rfl) (by rfl) T.m_list (by decide +kernel) (pa_cons (pv 13) pa_nil)))) (pa_cons (pe_callTy (call_list_ofK (K := K) rfl) (by rfl) T.m_list (by decide +kernel) (pa_cons (pv 9) pa_nil)) pa_nil))) (by rfl))
(pss_cut (ps_if (pt_cmpR op_ne (pv 6) (pv 3) (nomark _)) (pss_one (ps_if (pt_not (pt_val (pe_call G__law_mismatch (hr.mono (by decide)) rfl T.g__law_mismatch T.p__law_mismatch B__law_mismatch .nil pass0 (pa_cons pe_str (pa_cons (pv 10) (pa_cons (pv 11) pa_nil)))))) (pss_one (ps_ret pe_bl)) pss_nil)) (pss_cons (ps_set (i := 14) sc_law.nd rfl (by first | exact Or.inl rfl | exact Or.inr rfl) (pe_call G_mat_mul (hr.mono (by decide)) rfl T.g_mat_mul T.p_mat_mul B_mat_mul .nil passL (pa_cons (pv 10) (pa_cons (pv 11) pa_nil))))
(pss_cons (ps_if (PW.pt (pw_or (pt_not (pt_val (pe_call G__law_is_matrix (hr.mono (by decide)) rfl T.g__law_is_matrix T.p__law_is_matrix B__law_is_matrix .nil pass0 (pa_cons (pv 14) (pa_cons (pv 2) (pa_cons (pv 4) pa_nil)))))) (pw_or1 (pt_cmpR (op_neDK (K := K) rfl hr.units) (pv 14) (pe_call G__law_times (hr.mono (by decide)) rfl T.g__law_times T.p__law_times B__law_times .nil pass0 (pa_cons (pv 5) (pa_cons (pv 7) pa_nil))) (nomark _))))) (pss_one (ps_ret pe_bl)) pss_nil)
(pss_one (ps_expr (pe_bm PySem.F.plainAttrs_list PySem.F.slot_list_append PySem.F.type_list_append mt_append (pe_ix (ix_listK (K := K) rfl) (pv 14) pe_int (fun _ _ => rfl)) (pa_cons pe_int pa_nil)))))))
(pss_cut (ps_if (pt_cmpR op_ne (pv 8) (pv 3) (nomark _)) (pss_one (ps_if (pt_not (pt_val (pe_call G__law_mismatch (hr.mono (by decide)) rfl T.g__law_mismatch T.p__law_mismatch B__law_mismatch .nil pass0 (pa_cons pe_str (pa_cons (pv 10) (pa_cons (pv 12) pa_nil)))))) (pss_one (ps_ret pe_bl)) pss_nil)) (pss_cons (ps_set (i := 15) sc_law.nd rfl (by first | exact Or.inl rfl | exact Or.inr rfl) (pe_call G_mat_vec (hr.mono (by decide)) rfl T.g_mat_vec T.p_mat_vec B_mat_vec .nil passL (pa_cons (pv 10) (pa_cons (pv 12) pa_nil))))
(pss_cons (ps_if (PW.pt (pw_or (pt_not (pt_val (pe_call G__law_octets (hr.mono (by decide)) rfl T.g__law_octets T.p__law_octets B__law_octets .nil pass0 (pa_cons (pv 15) (pa_cons (pv 2) pa_nil))))) (pw_or1 (pt_cmpR (op_neDK (K := K) rfl hr.units) (pv 15) (pe_lc (own := [("row", 13)]) (g := gName 13) (tt := tYes) (by rfl) sc_law.nd (pi_listK (K := K) rfl (pv 5)) (blkOk_by (own := [("row", 13)]) (N := N_law) (sc := defScope s_law) (by decide +kernel)) (fun _ _ _ _ _ => (pg_name (i := 13) sc_law.nd rfl (by first | exact Or.inl rfl | exact Or.inr rfl))) (fun _ _ _ _ _ => pts_nil) (fun _ _ _ _ _ => (pe_call G__law_dot (hr.mono (by decide)) rfl T.g__law_dot T.p__law_dot B__law_dot .nil pass0 (pa_cons (pv 13) (pa_cons (pv 9) pa_nil))))) (nomark _))))) (pss_one (ps_ret pe_bl)) pss_nil)
(pss_one (ps_expr (pe_bm PySem.F.plainAttrs_list PySem.F.slot_list_append PySem.F.type_list_append mt_append (pv 15) (pa_cons pe_int pa_nil)))))))
(pss_cons (ps_set (i := 16) sc_law.nd rfl (by first | exact Or.inl rfl | exact Or.inr rfl) (pe_op op_add pe_int (pe_op op_mod (pe_op op_fdiv (pv 1) pe_int) pe_int)))
(pss_cons (ps_if (pt_cmpR op_eq (pe_op op_mod (pe_op op_fdiv (pv 1) pe_int) pe_int) pe_int (nomark _)) (pss_one (ps_set (i := 16) sc_law.nd rfl (by first | exact Or.inl rfl | exact Or.inr rfl) pe_int)) pss_nil)
(pss_cons (ps_set (i := 17) sc_law.nd rfl (by first | exact Or.inl rfl | exact Or.inr rfl) (pe_call G_identity (hr.mono (by decide)) rfl T.g_identity T.p_identity B_identity .nil pass0 (pa_cons (pv 16) pa_nil)))
(pss_cons (ps_if (PW.pt (pw_or (pt_not (pt_val (pe_call G__law_is_matrix (hr.mono (by decide)) rfl T.g__law_is_matrix T.p__law_is_matrix B__law_is_matrix .nil pass0 (pa_cons (pv 17) (pa_cons (pv 16) (pa_cons (pv 16) pa_nil)))))) (pw_or1 (pt_cmpR (op_neDK (K := K) rfl hr.units) (pv 17) (pe_lc (own := [("j", 19)]) (g := gName 19) (tt := tYes) (by rfl) sc_law.nd (pi_range1 rfl T.m_range (pa_cons (pv 16) pa_nil)) (blkOk_by (own := [("j", 19)]) (N := N_law) (sc := defScope s_law) (by decide +kernel)) (fun _ _ _ _ _ => (pg_name (i := 19) sc_law.nd rfl (by first | exact Or.inl rfl | exact Or.inr rfl))) (fun _ _ _ _ _ => pts_nil) (fun _ _ _ _ _ => (pe_lc (own := [("k", 18)]) (g := gName 18) (tt := tYes) (by rfl) sc_law.nd (pi_range1 rfl T.m_range (pa_cons (pv 16) pa_nil)) (by dsimp only [L2.Cx.blk, compEnvC]; exact blkOk_by (by kernel_rfl)) (fun _ _ _ _ _ => (pg_name (i := 18) sc_law.nd rfl (by first | exact Or.inl rfl | exact Or.inr rfl))) (fun _ _ _ _ _ => pts_nil) (fun _ _ _ _ _ => (pe_callTy call_int1 (by rfl) T.m_int (by decide +kernel) (pa_cons (pe_cmpR op_eq (pv 19) (pv 18) (nomark _)) pa_nil)))))) (nomark _))))) (pss_one (ps_ret pe_bl)) pss_nil)
(pss_cons (ps_asg pe_int (pg_sub (pe_ix (ix_listK (K := K) rfl) (pv 17) pe_int (fun _ _ => rfl)) pe_int set_list))
(pss_cons (ps_for PassesOwn.never rfl (pi_listK (K := K) rfl (pe_lst (pa_cons (pv 4) (pa_cons pe_int pa_nil)))) (pg_name (i := 20) sc_law.nd rfl (by first | exact Or.inl rfl | exact Or.inr rfl)) (pss_cons (ps_set (i := 21) sc_law.nd rfl (by first | exact Or.inl rfl | exact Or.inr rfl) (pe_call G_vandermonde (hr.mono (by decide)) rfl T.g_vandermonde T.p_vandermonde B_vandermonde .nil pass0 (pa_cons (pv 12) (pa_cons (pv 20) pa_nil))))
(pss_one (ps_if (PW.pt (pw_or (pt_not (pt_val (pe_call G__law_is_matrix (hr.mono (by decide)) rfl T.g__law_is_matrix T.p__law_is_matrix B__law_is_matrix .nil pass0 (pa_cons (pv 21) (pa_cons (pv 8) (pa_cons (pv 20) pa_nil)))))) (pw_or1 (pt_cmpR (op_neDK (K := K) rfl hr.units) (pv 21) (pe_lc (own := [("x", 22)]) (g := gName 22) (tt := tYes) (by rfl) sc_law.nd (pi_listK (K := K) rfl (pv 9)) (blkOk_by (own := [("x", 22)]) (N := N_law) (sc := defScope s_law) (by decide +kernel)) (fun _ _ _ _ _ => (pg_name (i := 22) sc_law.nd rfl (by first | exact Or.inl rfl | exact Or.inr rfl))) (fun _ _ _ _ _ => pts_nil) (fun _ _ _ _ _ => (pe_call G__law_powers (hr.mono (by decide)) rfl T.g__law_powers T.p__law_powers B__law_powers .nil pass0 (pa_cons (pv 22) (pa_cons (pv 20) pa_nil))))) (nomark _))))) (pss_one (ps_ret pe_bl)) pss_nil))))
(pss_one (ps_ret (pe_and (pe_cmpR op_eq (pe_ix (ix_listK (K := K) rfl) (pe_ix (ix_listK (K := K) rfl) (pe_call G_identity (hr.mono (by decide)) rfl T.g_identity T.p_identity B_identity .nil pass0 (pa_cons (pv 16) pa_nil)) pe_int (fun _ _ => rfl)) pe_int (fun _ _ => rfl)) pe_int (nomark _)) (pe_and (pe_cmpR (op_eqDK (K := K) rfl hr.units) (pv 10) (pv 5) (nomark _)) (pe_and (pe_cmpR (op_eqDK (K := K) rfl hr.units) (pv 11) (pv 7) (nomark _)) (pe_one (pe_cmpR (op_eqDK (K := K) rfl hr.units) (pv 12) (pv 9) (nomark _))))))))))))))))))))))))))), ?_⟩
    refine q_asg (by walk_at "ev") fun H1 e1 => ?_
    generalize ns.getD 3 0 = sz
    obtain ⟨h0, eh0, lh0, uh0⟩ := nat_up (z := sz) (m := 4) (k := 1) (b := 4) (by decide) (by decide) (by decide)
    obtain ⟨w0, ew0, lw0, uw0⟩ := nat_up (z := sz / 4) (m := 4) (k := 1) (b := 4) (by decide) (by decide) (by decide)
    obtain ⟨c0, ec0, lc0, uc0⟩ := nat_up (z := sz / 16) (m := 4) (k := 1) (b := 4) (by decide) (by decide) (by decide)
    refine q_par3 (x := .int (h0 : Int)) (y := .int (w0 : Int)) (z := .int (c0 : Int)) (ea_cons (ev_is (by walk_at "ev") (congrArg V.int eh0)) (ea_cons (ev_is (by walk_at "ev") (congrArg V.int ew0)) (ea_cons (ev_is (by walk_at "ev") (congrArg V.int ec0)) ea_nil))) fun H2 e2 => ?_
    obtain ⟨h1, eh1, lh1, uh1⟩ := nat_up (z := sz) (m := 2) (k := 1) (b := 2) (by decide) (by decide) (by decide)
    obtain ⟨w1, ew1, lw1, uw1⟩ := nat_up (z := sz / 4) (m := 4) (k := 12) (b := 15) (by decide) (by decide) (by decide)
    obtain ⟨c1, ec1, lc1, uc1⟩ := nat_up (z := sz / 16) (m := 2) (k := 1) (b := 2) (by decide) (by decide) (by decide)
    obtain ⟨h, ⟨lh, uh⟩, eh⟩ : ∃ h : Nat, (1 ≤ h ∧ h ≤ 4) ∧ h = if (decide (V.int (sz / 552960 % 8) = V.int 1)) = true then h1 else h0 := ⟨_, by split <;> omega, rfl⟩
    obtain ⟨w, ⟨lw, uw⟩, ew⟩ : ∃ w : Nat, (1 ≤ w ∧ w ≤ 15) ∧ w = if (decide (V.int (sz / 552960 % 8) = V.int 1)) = true then w1 else w0 := ⟨_, by split <;> omega, rfl⟩
    obtain ⟨c, ⟨lc, uc⟩, ec⟩ : ∃ c : Nat, (1 ≤ c ∧ c ≤ 4) ∧ c = if (decide (V.int (sz / 552960 % 8) = V.int 1)) = true then c1 else c0 := ⟨_, by split <;> omega, rfl⟩
    refine q_ifPar3 (x := .int (h : Int)) (y := .int (w : Int)) (z := .int (c : Int)) (by walk_at "ev") (fun hh => ?_) (fun hh => ?_) fun H3 e3 => ?_
    · rw [eh, ew, ec, if_pos hh, if_pos hh, if_pos hh]
      exact ea_cons (ev_is (by walk_at "ev") (congrArg V.int eh1)) (ea_cons (ev_is (by walk_at "ev") (congrArg V.int ew1)) (ea_cons (ev_is (by walk_at "ev") (congrArg V.int ec1)) ea_nil))
    · rw [eh, ew, ec, hh, if_neg Bool.false_ne_true, if_neg Bool.false_ne_true, if_neg Bool.false_ne_true]
      rfl
    clear eh ew ec eh0 ew0 ec0 eh1 ew1 ec1 lh0 uh0 lw0 uw0 lc0 uc0 lh1 uh1 lw1 uw1 lc1 uc1
    have hS3 := ex_l ((e1.trans e2).trans e3) hS
    -- a
    refine q_asgM (em_call (ea_cons (by walk_at "ev") (ea_cons (ev_var rfl) (ea_cons (ev_var rfl) ea_nil))) (spm__law_matrix (r := h) (w := w) (by omega) (by omega))) fun aa H4 na e4 hA => ?_
    have mA := mtx_mt (ns.getD 0 0) h w
    generalize mtx (ns.getD 0 0) h w = A at hA mA
    have hA4 := hA.mn
    have hS4 := ex_l e4 hS3
    -- other
    refine q_asg (ev_var rfl) fun H5 e5 => ?_
    obtain ⟨o1, eo1, lo1, uo1⟩ := nat_up (z := sz / 192) (m := 4) (k := 1) (b := 4) (by decide) (by decide) (by decide)
    obtain ⟨o, ⟨lo, uo⟩, eo⟩ : ∃ o : Nat, (1 ≤ o ∧ o ≤ 15) ∧ o = if (decide (V.int (sz / 64 % 3) = V.int 0)) = true then o1 else w := ⟨_, by split <;> omega, rfl⟩
    refine q_ifAsg (v := .int (o : Int)) (by walk_at "ev") (fun hh => ?_) (fun hh => ?_) fun H6 e6 => ?_
    · rw [eo, if_pos hh]
      exact ev_is (by walk_at "ev") (congrArg V.int eo1)
    · rw [eo, hh, if_neg Bool.false_ne_true]
      rfl
    clear eo eo1 lo1 uo1
    have hS6 := ex_l (e5.trans e6) hS4
    -- b
    refine q_asgM (em_call (ea_cons (by walk_at "ev") (ea_cons (ev_var rfl) (ea_cons (ev_var rfl) ea_nil))) (spm__law_matrix (r := o) (w := c) (by omega) (by omega))) fun ba H7 nb e7 hB => ?_
    have mB := mtx_mt (ns.getD 1 0) o c
    generalize mtx (ns.getD 1 0) o c = B at hB mB
    have hS7 := ex_l e7 hS6
    -- length
    refine q_asg (ev_var rfl) fun H8 e8 => ?_
    obtain ⟨m1, em1, lm1, um1⟩ := nat_up (z := sz / 2304) (m := 5) (k := 1) (b := 5) (by decide) (by decide) (by decide)
    obtain ⟨m, ⟨lm, um⟩, em⟩ : ∃ m : Nat, (1 ≤ m ∧ m ≤ 15) ∧ m = if (decide (V.int (sz / 768 % 3) = V.int 0)) = true then m1 else w := ⟨_, by split <;> omega, rfl⟩
    refine q_ifAsg (v := .int (m : Int)) (by walk_at "ev") (fun hh => ?_) (fun hh => ?_) fun H9 e9 => ?_
    · rw [em, if_pos hh]
      exact ev_is (by walk_at "ev") (congrArg V.int em1)
    · rw [em, hh, if_neg Bool.false_ne_true]
      rfl
    clear em em1 lm1 um1
    have hS9 := ex_l (e8.trans e9) hS7
    -- v
    refine q_asgL (el_call (ea_cons (by walk_at "ev") (ea_cons (ev_var rfl) (ea_cons ev_c ea_nil))) (spl__law_digits (n := m) (m := 256) (by omega) (by decide) (by decide))) fun va H10 nv e10 hV => ?_
    have vl := Gf.digits_length (ns.getD 2 0) m 256
    have oV : Py.Oc (Gf.digits (ns.getD 2 0) m 256) := Py.oc_of (Gf.digits_lt (by decide))
    generalize Gf.digits (ns.getD 2 0) m 256 = W at hV vl oV
    have hV10 : LN H10 va W := hV
    have hB10 := hB.mn.up ((e8.trans e9).trans e10)
    have hA10 := hA4.up ((e5.trans e6).trans (e7.trans ((e8.trans e9).trans e10)))
    clear hS hS3 hS4 hS6 hS7 hS9 hA hB hA4
    change tSeq _ _ _ [some (.ref a), some (.int sz), some (.int (h : Int)), some (.int (w : Int)), some (.int (c : Int)), some (.ref aa), some (.int (o : Int)), some (.ref ba), some (.int (m : Int)), some (.ref va), none, none, none, none, none, none, none, none, none, none, none, none, none] _
    -- copies
    have lA : A.length ≤ 40000 := by rw [mA.rows]; omega
    have lB : B.length ≤ 40000 := by rw [mB.rows]; omega
    refine q_par3MML (M := A) (N := B) (xs := W.map nV) (em_zM (M := A) (N := A) (a := aa) (ev_var rfl) hA10 (Eq.refl _) lA (fun x => rfl) fun i r H' e hi hr => el_listL (ev_var rfl) (sq_of hr)) (em_zM (M := B) (N := B) (a := ba) (ev_var rfl) hB10 (Eq.refl _) lB (fun x => rfl) fun i r H' e hi hr => el_listL (ev_var rfl) (sq_of hr)) (el_listL (ev_var rfl) (sq_of hV10)) fun fa sa ta H11 nf nsa nt e11 hF hG hT => ?_
    have hA11 := hA10.up e11
    have hB11 := hB10.up e11
    have hV11 := hV10.up e11
    have hF11 := hF.mn
    have hG11 := hG.mn
    have hT11 : LN H11 ta W := hT
    clear e1 e2 e3 e4 e5 e6 e7 e8 e9 e10 e11 hA10 hB10 hV10 hF hG hT
    -- mat_mul
    refine q_cut (M := fun σ' H' => ∃ v14, σ' = [some (.ref a), some (.int sz), some (.int (h : Int)), some (.int (w : Int)), some (.int (c : Int)), some (.ref aa), some (.int (o : Int)), some (.ref ba), some (.int (m : Int)), some (.ref va), some (.ref fa), some (.ref sa), some (.ref ta), none, v14, none, none, none, none, none, none, none, none] ∧ Ex H11 H') ?_ ?_
    · refine s_if (et_test (ev_op (ev_var rfl) (ev_var rfl) (rv_ne rfl))) (fun hh H12 e12 => ?_) (fun hh H12 e12 => ?_)
      · have z := dne_t hh
        exact s_when (b := false) (et_is (et_not (et_B (ev_call (ea_cons ev_c (ea_cons (ev_var rfl) (ea_cons (ev_var rfl) ea_nil))) (spv__law_mismatch1 (hF11.up e12) mA (hG11.up e12) mB ⟨⟨by omega, by omega, by omega, by omega, by omega, by omega⟩, by omega⟩ fun q => z q.symm)))) rfl) (fun q => absurd q Bool.false_ne_true) fun _ H13 e13 => ⟨_, rfl, e12.trans e13⟩
      · have z := dne_f hh
        subst z
        refine q_asgM (em_call (ea_cons (ev_var rfl) (ea_cons (ev_var rfl) ea_nil)) (spm_mat_mul (hF11.up e12) (hG11.up e12) mA mB ⟨by omega, by omega, by omega, by omega, by omega⟩)) fun pa H13 np e13 hP => ?_
        refine q_when (b := false) (et_is (et_or (et_not (et_B (ev_call (ea_cons (ev_var rfl) (ea_cons (ev_var rfl) (ea_cons (ev_var rfl) ea_nil))) (spv__law_is_matrix hP.mn (Py.prod_mt mA))))) fun _ => et_test (ev_opVM (ev_var rfl) (em_is (em_call (ea_cons (ev_var rfl) (ea_cons (ev_var rfl) ea_nil)) (spm__law_times ((hA11.up e12).up e13) ((hB11.up e12).up e13) mA mB ⟨by omega, by omega, by omega, by omega⟩)) (Py.times_eq mA mB.rows)) fun q H' hq e => rv_neM (hP.mn.up e) hq)) rfl) (fun q => absurd q Bool.false_ne_true) fun _ H14 e14 => ?_
        obtain ⟨r, hr, nr, hv⟩ := mf_ix (K := K) (hP.up e14) (k := 0) (by rw [List.length_map, mA.rows]; omega)
        refine s_app hr (ev_op (ev_var rfl) ev_c hv) ev_c (by rw [len_map, ((Py.prod_mt (w := c) mA).at (j := 0) (by omega)).1]; omega) fun H15 e15 => ⟨_, rfl, Ex.mut (((e12.trans e13).trans e14).trans e15) (fresh_back e12 nr)⟩
    · rintro σ' H12 ⟨v14, rfl, e12⟩
      -- mat_vec
      refine q_cut (M := fun σ' H' => ∃ v15, σ' = [some (.ref a), some (.int sz), some (.int (h : Int)), some (.int (w : Int)), some (.int (c : Int)), some (.ref aa), some (.int (o : Int)), some (.ref ba), some (.int (m : Int)), some (.ref va), some (.ref fa), some (.ref sa), some (.ref ta), none, v14, v15, none, none, none, none, none, none, none] ∧ Ex H11 H') ?_ ?_
      · refine s_if (et_test (ev_op (ev_var rfl) (ev_var rfl) (rv_ne rfl))) (fun hh H13 e13 => ?_) (fun hh H13 e13 => ?_)
        · have z := dne_t hh
          exact s_when (b := false) (et_is (et_not (et_B (ev_call (ea_cons ev_c (ea_cons (ev_var rfl) (ea_cons (ev_var rfl) ea_nil))) (spv__law_mismatch2 (hF11.up (e12.trans e13)) mA (hT11.up (e12.trans e13)) vl oV ⟨by omega, by omega, by omega, by omega, by omega, by omega⟩ fun q => z q.symm)))) rfl) (fun q => absurd q Bool.false_ne_true) fun _ H14 e14 => ⟨_, rfl, (e12.trans e13).trans e14⟩
        · have z := dne_f hh
          subst z
          refine q_asgL (el_call (ea_cons (ev_var rfl) (ea_cons (ev_var rfl) ea_nil)) (spl_mat_vec (hF11.up (e12.trans e13)) (hT11.up (e12.trans e13)) mA vl oV ⟨by omega, by omega, by omega, by omega⟩)) fun ca H14 nc e14 hC => ?_
          have oC : Py.Oc (A.map fun r => Py.dot r W) := Py.oc_of fun x hx => by
            obtain ⟨r, _, rfl⟩ := List.mem_map.mp hx
            exact Py.dot_lt r W
          have lC : (A.map fun r => Py.dot r W).length = h := by rw [List.length_map, mA.rows]
          have hC14 : LN H14 ca (A.map fun r => Py.dot r W) := hC
          have ee := (e12.trans e13).trans e14
          refine q_when (b := false) (et_is (et_or (et_not (et_B (ev_call (ea_cons (ev_var rfl) (ea_cons (ev_var rfl) ea_nil)) (spv__law_octets hC14 oC (by rw [lC]))))) fun _ => et_test (ev_opL (xs := (A.map fun r => Py.dot r W).map nV) (ev_var rfl) (el_zM (ev_var rfl) (hA11.up ee) (by rw [List.length_map]) (by rw [mA.rows]; omega) (fun x => rfl) fun i r H' e hi hr => ?_) fun q H' hq e => rv_neN (sq_of (hC14.up e)) (sq_of hq))) rfl) (fun q => absurd q Bool.false_ne_true) fun _ H15 e15 => ?_
          · have ha := mA.at (j := i) (by rw [mA.rows] at hi; exact hi)
            rw [Py.at0_of (v := Py.dot (Py.at1 A i) W) (by rw [List.getElem?_map, Py.at1_get hi]; rfl)]
            exact ev_call (ea_cons (ev_var rfl) (ea_cons (ev_var rfl) ea_nil)) (spv__law_dot hr ((hV11.up ee).up e) (by rw [ha.1, vl]) ha.2 oV (by omega))
          · exact s_app (hC14.up e15) (ev_var rfl) ev_c (by rw [len_map, lC]; omega) fun H16 e16 => ⟨_, rfl, Ex.mut ((ee.trans e15).trans e16) (fresh_back (e12.trans e13) nc)⟩
      · rintro σ' H13 ⟨v15, rfl, e13⟩
        -- unit
        obtain ⟨n0, en0, ln0, un0⟩ := nat_up (z := sz / 11520) (m := 6) (k := 1) (b := 6) (by decide) (by decide) (by decide)
        refine q_asg (v := .int (n0 : Int)) (ev_is (by walk_at "ev") (congrArg V.int en0)) fun H14 e14 => ?_
        obtain ⟨n, ⟨ln, un⟩, en⟩ : ∃ n : Nat, (1 ≤ n ∧ n ≤ 40) ∧ n = if (decide (V.int (sz / 69120 % 8) = V.int 1)) = true then 40 else n0 := ⟨_, by split <;> omega, rfl⟩
        refine q_ifAsg (v := .int (n : Int)) (by walk_at "ev") (fun hh => ?_) (fun hh => ?_) fun H15 e15 => ?_
        · rw [en, if_pos hh]
          exact ev_c
        · rw [en, hh, if_neg Bool.false_ne_true]
          rfl
        clear en en0 ln0 un0
        refine q_asgM (em_call (ea_cons (ev_var rfl) ea_nil) (spm_identity (n := n) (by omega))) fun ua H16 nu e16 hU => ?_
        have mU := Py.unit_mt n
        refine q_when (b := false) (et_is (et_or (et_not (et_B (ev_call (ea_cons (ev_var rfl) (ea_cons (ev_var rfl) (ea_cons (ev_var rfl) ea_nil))) (spv__law_is_matrix hU.mn mU)))) fun _ => et_test (ev_opVM (ev_var rfl) (em_zR (M := Py.unit n) (n := n) (ea_cons (ev_var rfl) ea_nil) mU.rows (by omega) (fun x => rfl) fun i l H' e hl => ?_) fun q H' hq e => rv_neM (hU.mn.up e) hq)) rfl) (fun q => absurd q Bool.false_ne_true) fun _ H17 e17 => ?_
        · have hi : i < n := by
            rw [← mU.rows]
            exact (List.getElem?_eq_some_iff.mp hl).1
          have el : l = (List.range n).map fun j => if i = j then 1 else 0 := by
            unfold Py.unit at hl
            rw [Py.range_get hi] at hl
            exact (Option.some.inj hl).symm
          rw [el]
          refine el_zRN (n := n) (ea_cons (ev_var rfl) ea_nil) (by simp) (by omega) (fun x => rfl) fun j H2 e2 hj => ?_
          rw [Py.at0_map, if_pos hj]
          refine ev_is (ev_intB (ev_op (ev_var rfl) (ev_var rfl) (rv_eq rfl))) ?_
          by_cases z : i = j
          · rw [z]
            simp
          · rw [if_neg z, decide_eq_false (show ¬ V.int (i : Int) = V.int (j : Int) from fun q => z (Int.ofNat.inj (V.int.inj q)))]
            rfl
        obtain ⟨r, hr, nr, hv⟩ := mf_ix (K := K) (hU.up e17) (k := 0) (by rw [mU.rows]; omega)
        refine q_setL (j := 0) hr ev_c (ev_op (ev_var rfl) ev_c hv) ev_c (by rw [len_map, (mU.at (j := 0) (by omega)).1]; omega) fun H18 e18 => ?_
        have eX : Ex H11 (upd H18 r (.lst (((Py.at1 (Py.unit n) 0).map nV).set 0 (.int 2)))) := Ex.mut (e13.trans ((e14.trans e15).trans ((e16.trans e17).trans e18))) (fresh_back (e13.trans (e14.trans e15)) nr)
        generalize upd H18 r (.lst (((Py.at1 (Py.unit n) 0).map nV).set 0 (.int 2))) = H19 at eX
        -- vandermonde
        refine q_forNLn (xs := ([c, 20] : List Nat).map nV) (el_lst (ea_cons (ev_var rfl) (ea_cons ev_c ea_nil)) (by simp)) (fun p i s H' => ∃ v20 v21, s = [some (.ref a), some (.int sz), some (.int (h : Int)), some (.int (w : Int)), some (.int (c : Int)), some (.ref aa), some (.int (o : Int)), some (.ref ba), some (.int (m : Int)), some (.ref va), some (.ref fa), some (.ref sa), some (.ref ta), none, v14, v15, some (.int (n : Int)), some (.ref ua), none, none, v20, v21, none] ∧ Ex H11 H' ∧ LN H' p [c, 20]) ?_ ?_ ?_ ?_
        · exact fun p H20 np e20 hp => ⟨none, none, rfl, eX.trans e20, hp⟩
        · rintro p i s H' _ ⟨v20, v21, rfl, e, hp⟩
          exact sq_of hp
        · rintro p i x s H' hx ⟨v20, v21, rfl, e, hp⟩
          obtain ⟨hi, rfl⟩ := nat_of_get hx
          obtain ⟨g, hg, lg, ug⟩ : ∃ g : Nat, Py.at0 [c, 20] i = g ∧ 1 ≤ g ∧ g ≤ 20 := by
            refine ⟨_, rfl, ?_⟩
            match i, hi with
            | 0, _ => exact ⟨lc, by show c ≤ 20; omega⟩
            | 1, _ => exact ⟨by show 1 ≤ 20; decide, by show 20 ≤ 20; decide⟩
          rw [hg]
          refine q_asgM (em_call (ea_cons (ev_var rfl) (ea_cons (ev_var rfl) ea_nil)) (spm_vandermonde (w := g) (hT11.up e) oV (by omega) (by omega))) fun pa H20 np e20 hP => ?_
          have mP := Py.vand_mt W g
          rw [vl] at mP
          refine s_when (b := false) (et_is (et_or (et_not (et_B (ev_call (ea_cons (ev_var rfl) (ea_cons (ev_var rfl) (ea_cons (ev_var rfl) ea_nil))) (spv__law_is_matrix hP.mn mP)))) fun _ => et_test (ev_opVM (ev_var rfl) (em_zL (M := Py.vand W g) (ev_var rfl) (sq_of ((hV11.up e).up e20)) (by rw [len_map, mP.rows, vl]) (by rw [len_map]; omega) (fun x => rfl) fun i x l H' e' hx hl => ?_) fun q H' hq e' => rv_neM (hP.mn.up e') hq)) rfl) (fun q => absurd q Bool.false_ne_true) fun _ H21 e21 => ⟨_, _, rfl, (e.trans e20).trans e21, (hp.up e20).up e21⟩
          obtain ⟨hi, rfl⟩ := nat_of_get hx
          have el : l = pows (Py.at0 W i) g := by
            unfold Py.vand at hl
            rw [List.getElem?_map, Py.at0_get hi] at hl
            exact (Option.some.inj hl).symm
          rw [el]
          exact el_call (ea_cons (ev_var rfl) (ea_cons (ev_var rfl) ea_nil)) (spl__law_powers (oV i) (by omega) (by omega))
        · rintro p s H' ⟨v20, v21, rfl, e, hp⟩
          refine s_ret (v := .bl (true && (true && (true && true)))) (ev_andV (ev_is (ev_op (ev_ix2 (i := 0) (j := 0) (em_call (ea_cons (ev_var rfl) ea_nil) (spm_identity (n := n) (by omega))) (fun _ _ => ev_c) (fun _ _ => ev_c) (by rw [mU.rows]; omega) (by rw [(mU.at (j := 0) (by omega)).1]; omega)) ev_c (rv_eq rfl)) ?_) fun _ => ev_andV (ev_op (ev_var rfl) (ev_var rfl) (rv_eqM (hF11.up e) (hA11.up e))) fun _ => ev_andV (ev_op (ev_var rfl) (ev_var rfl) (rv_eqM (hG11.up e) (hB11.up e))) fun _ => ev_op (ev_var rfl) (ev_var rfl) (rv_eqN (sq_of (hT11.up e)) (sq_of (hV11.up e)))) fun H20 e20 => k H20
          have e0 : Py.at0 (Py.at1 (Py.unit n) 0) 0 = 1 := by
            rw [Py.at1_of (r := (List.range n).map fun j => if 0 = j then 1 else 0) (by unfold Py.unit; rw [Py.range_get (by omega)]), Py.at0_map, if_pos (by omega), if_pos rfl]
          rw [e0]
          rfl
end
def dd_power : He.DefD := ⟨("power", none), "power", "power", defArgs s_power, defBody s_power, defScope s_power, [], []⟩
def dd_scaled : He.DefD := ⟨("scaled", none), "scaled", "scaled", defArgs s_scaled, defBody s_scaled, defScope s_scaled, [], []⟩
def dd_mixed : He.DefD := ⟨("mixed", none), "mixed", "mixed", defArgs s_mixed, defBody s_mixed, defScope s_mixed, [], []⟩
def dd_combined : He.DefD := ⟨("combined", none), "combined", "combined", defArgs s_combined, defBody s_combined, defScope s_combined, [], []⟩
def dd_identity : He.DefD := ⟨("identity", none), "identity", "identity", defArgs s_identity, defBody s_identity, defScope s_identity, [], []⟩
def dd_mat_mul : He.DefD := ⟨("mat_mul", none), "mat_mul", "mat_mul", defArgs s_mat_mul, defBody s_mat_mul, defScope s_mat_mul, [], []⟩
def dd_mat_vec : He.DefD := ⟨("mat_vec", none), "mat_vec", "mat_vec", defArgs s_mat_vec, defBody s_mat_vec, defScope s_mat_vec, [], []⟩
def dd_vandermonde : He.DefD := ⟨("vandermonde", none), "vandermonde", "vandermonde", defArgs s_vandermonde, defBody s_vandermonde, defScope s_vandermonde, [], []⟩
def dd__law_is_integer : He.DefD := ⟨("_law_is_integer", none), "_law_is_integer", "_law_is_integer", defArgs s__law_is_integer, defBody s__law_is_integer, defScope s__law_is_integer, [], []⟩
def dd__law_cell : He.DefD := ⟨("_law_cell", none), "_law_cell", "_law_cell", defArgs s__law_cell, defBody s__law_cell, defScope s__law_cell, [], []⟩
def dd__law_mixed : He.DefD := ⟨("_law_mixed", none), "_law_mixed", "_law_mixed", defArgs s__law_mixed, defBody s__law_mixed, defScope s__law_mixed, [], []⟩
def dd__law_digits : He.DefD := ⟨("_law_digits", none), "_law_digits", "_law_digits", defArgs s__law_digits, defBody s__law_digits, defScope s__law_digits, [], []⟩
def dd__law_mul : He.DefD := ⟨("_law_mul", none), "_law_mul", "_law_mul", defArgs s__law_mul, defBody s__law_mul, defScope s__law_mul, [], []⟩
def dd__law_octets : He.DefD := ⟨("_law_octets", none), "_law_octets", "_law_octets", defArgs s__law_octets, defBody s__law_octets, defScope s__law_octets, [], []⟩
def dd__law_matrix : He.DefD := ⟨("_law_matrix", none), "_law_matrix", "_law_matrix", defArgs s__law_matrix, defBody s__law_matrix, defScope s__law_matrix, [], []⟩
def dd__law_dot : He.DefD := ⟨("_law_dot", none), "_law_dot", "_law_dot", defArgs s__law_dot, defBody s__law_dot, defScope s__law_dot, [], []⟩
def dd__law_times : He.DefD := ⟨("_law_times", none), "_law_times", "_law_times", defArgs s__law_times, defBody s__law_times, defScope s__law_times, [], []⟩
def dd__law_is_matrix : He.DefD := ⟨("_law_is_matrix", none), "_law_is_matrix", "_law_is_matrix", defArgs s__law_is_matrix, defBody s__law_is_matrix, defScope s__law_is_matrix, [], []⟩
def dd__law_mismatch : He.DefD := ⟨("_law_mismatch", none), "_law_mismatch", "_law_mismatch", defArgs s__law_mismatch, defBody s__law_mismatch, defScope s__law_mismatch, [], []⟩
def dd__law_powers : He.DefD := ⟨("_law_powers", none), "_law_powers", "_law_powers", defArgs s__law_powers, defBody s__law_powers, defScope s__law_powers, [], []⟩
def dd_law : He.DefD := ⟨("law", none), "law", "law", defArgs s_law, defBody s_law, defScope s_law, [], []⟩
def fn : List He.DefD := [dd_power, dd_scaled, dd_mixed, dd_combined, dd_identity, dd_mat_mul, dd_mat_vec, dd_vandermonde, dd__law_is_integer, dd__law_cell, dd__law_mixed, dd__law_digits, dd__law_mul, dd__law_octets, dd__law_matrix, dd__law_dot, dd__law_times, dd__law_is_matrix, dd__law_mismatch, dd__law_powers, dd_law]
def fa : List He.Fa := [.glo "power", .glo "scaled", .glo "mixed", .glo "combined", .glo "identity", .glo "mat_mul", .glo "mat_vec", .glo "vandermonde", .glo "_law_is_integer", .glo "_law_cell", .glo "_law_mixed", .glo "_law_digits", .glo "_law_mul", .glo "_law_octets", .glo "_law_matrix", .glo "_law_dot", .glo "_law_times", .glo "_law_is_matrix", .glo "_law_mismatch", .glo "_law_powers", .glo "law", .free "ValueError", .free "bool", .free "int", .free "isinstance", .free "len", .free "list", .free "range", .free "zip", .int "ORDER" 255, .glo "LOGS", .glo "POWERS", .glo "CairnError", .exc "CairnError", .glo "ShapeMismatch", .exc "ShapeMismatch", .glo "Singular", .exc "Singular", .exm "ShapeMismatch" "CairnError" true]
def exs (K : PySem.W.Frag) : List Bool := [He.tupB K "LOGS" (Gf.logL.map fun (n : Nat) => He.Dv.int (n : Int)),
  He.tupB K "POWERS" (Gf.powL.map fun (n : Nat) => He.Dv.int (n : Int)),
  exc_b K (He.ga K "ShapeMismatch"),
  decide (PySem.W.kitOne K (.ref (He.ga K "ShapeMismatch")) (.type "ValueError") = some true),
  decide (PySem.W.kitOne K (.ref (He.ga K "ShapeMismatch")) (.ref (He.ga K "ShapeMismatch")) = some true),
  decide (PySem.W.kitOne K (.ref (He.ga K "ShapeMismatch")) (.ref (He.ga K "Singular")) = some false)]
def exB (K : PySem.W.Frag) : Bool := (exs K).all id
abbrev R : PySem.W.OpenRow := PySem.W.OpenLaw.row PySem.Challenge.rw_cairn_k05_products_of_matrices
def names : List PySem.Str := ["CairnError", "ShapeMismatch", "Singular", "ORDER", "POWERS", "LOGS", "power", "scaled", "mixed", "combined", "identity", "mat_mul", "mat_vec", "vandermonde", "_law_is_integer", "_law_cell", "_law_mixed", "_law_digits", "_law_mul", "_law_octets", "_law_matrix", "_law_dot", "_law_times", "_law_is_matrix", "_law_mismatch", "_law_powers"]
abbrev hk : PySem.W.Hook := He.hookX 5 fa fn [] [] exB
def ob (s : PySem.W.SharedT) : He.AlX := He.obsX 5 fa fn [] [] exB (HandSHeadRun.getT s)
theorem ob_eq (s : PySem.W.SharedT) : ob s = hk.obs s.abs := He.obsX_eq (HandSHeadRun.getT_eq s)
theorem run (w : World) : HandSHeadRun.RunEq R (PySem.W.view R.prog [30]) hk ob 3000 names w := by
  intro os
  kernel_rfl
theorem txt_of {w : World} {K : PySem.W.Frag} {h h2 : Heap} {mg : Str → Option Value} (X : K.In h) (G : h.Ns mainGlobals mg) (c : He.SaysX fa fn [] [] exB w h2 K) : Txt K mg :=
  ⟨(by obtain ⟨fd, F⟩ := c.t.d.def_ 0 (d := dd_power) rfl; exact ⟨fd, F⟩),
   (He.glo_ok X G (c.t.d.fact 0 (f := .glo "power") rfl)),
   (by obtain ⟨fd, F⟩ := c.t.d.def_ 0 (d := dd_power) rfl; exact F.kp),
   (by obtain ⟨fd, F⟩ := c.t.d.def_ 1 (d := dd_scaled) rfl; exact ⟨fd, F⟩),
   (He.glo_ok X G (c.t.d.fact 1 (f := .glo "scaled") rfl)),
   (by obtain ⟨fd, F⟩ := c.t.d.def_ 1 (d := dd_scaled) rfl; exact F.kp),
   (by obtain ⟨fd, F⟩ := c.t.d.def_ 2 (d := dd_mixed) rfl; exact ⟨fd, F⟩),
   (He.glo_ok X G (c.t.d.fact 2 (f := .glo "mixed") rfl)),
   (by obtain ⟨fd, F⟩ := c.t.d.def_ 2 (d := dd_mixed) rfl; exact F.kp),
   (by obtain ⟨fd, F⟩ := c.t.d.def_ 3 (d := dd_combined) rfl; exact ⟨fd, F⟩),
   (He.glo_ok X G (c.t.d.fact 3 (f := .glo "combined") rfl)),
   (by obtain ⟨fd, F⟩ := c.t.d.def_ 3 (d := dd_combined) rfl; exact F.kp),
   (by obtain ⟨fd, F⟩ := c.t.d.def_ 4 (d := dd_identity) rfl; exact ⟨fd, F⟩),
   (He.glo_ok X G (c.t.d.fact 4 (f := .glo "identity") rfl)),
   (by obtain ⟨fd, F⟩ := c.t.d.def_ 4 (d := dd_identity) rfl; exact F.kp),
   (by obtain ⟨fd, F⟩ := c.t.d.def_ 5 (d := dd_mat_mul) rfl; exact ⟨fd, F⟩),
   (He.glo_ok X G (c.t.d.fact 5 (f := .glo "mat_mul") rfl)),
   (by obtain ⟨fd, F⟩ := c.t.d.def_ 5 (d := dd_mat_mul) rfl; exact F.kp),
   (by obtain ⟨fd, F⟩ := c.t.d.def_ 6 (d := dd_mat_vec) rfl; exact ⟨fd, F⟩),
   (He.glo_ok X G (c.t.d.fact 6 (f := .glo "mat_vec") rfl)),
   (by obtain ⟨fd, F⟩ := c.t.d.def_ 6 (d := dd_mat_vec) rfl; exact F.kp),
   (by obtain ⟨fd, F⟩ := c.t.d.def_ 7 (d := dd_vandermonde) rfl; exact ⟨fd, F⟩),
   (He.glo_ok X G (c.t.d.fact 7 (f := .glo "vandermonde") rfl)),
   (by obtain ⟨fd, F⟩ := c.t.d.def_ 7 (d := dd_vandermonde) rfl; exact F.kp),
   (by obtain ⟨fd, F⟩ := c.t.d.def_ 8 (d := dd__law_is_integer) rfl; exact ⟨fd, F⟩),
   (He.glo_ok X G (c.t.d.fact 8 (f := .glo "_law_is_integer") rfl)),
   (by obtain ⟨fd, F⟩ := c.t.d.def_ 8 (d := dd__law_is_integer) rfl; exact F.kp),
   (by obtain ⟨fd, F⟩ := c.t.d.def_ 9 (d := dd__law_cell) rfl; exact ⟨fd, F⟩),
   (He.glo_ok X G (c.t.d.fact 9 (f := .glo "_law_cell") rfl)),
   (by obtain ⟨fd, F⟩ := c.t.d.def_ 9 (d := dd__law_cell) rfl; exact F.kp),
   (by obtain ⟨fd, F⟩ := c.t.d.def_ 10 (d := dd__law_mixed) rfl; exact ⟨fd, F⟩),
   (He.glo_ok X G (c.t.d.fact 10 (f := .glo "_law_mixed") rfl)),
   (by obtain ⟨fd, F⟩ := c.t.d.def_ 10 (d := dd__law_mixed) rfl; exact F.kp),
   (by obtain ⟨fd, F⟩ := c.t.d.def_ 11 (d := dd__law_digits) rfl; exact ⟨fd, F⟩),
   (He.glo_ok X G (c.t.d.fact 11 (f := .glo "_law_digits") rfl)),
   (by obtain ⟨fd, F⟩ := c.t.d.def_ 11 (d := dd__law_digits) rfl; exact F.kp),
   (by obtain ⟨fd, F⟩ := c.t.d.def_ 12 (d := dd__law_mul) rfl; exact ⟨fd, F⟩),
   (He.glo_ok X G (c.t.d.fact 12 (f := .glo "_law_mul") rfl)),
   (by obtain ⟨fd, F⟩ := c.t.d.def_ 12 (d := dd__law_mul) rfl; exact F.kp),
   (by obtain ⟨fd, F⟩ := c.t.d.def_ 13 (d := dd__law_octets) rfl; exact ⟨fd, F⟩),
   (He.glo_ok X G (c.t.d.fact 13 (f := .glo "_law_octets") rfl)),
   (by obtain ⟨fd, F⟩ := c.t.d.def_ 13 (d := dd__law_octets) rfl; exact F.kp),
   (by obtain ⟨fd, F⟩ := c.t.d.def_ 14 (d := dd__law_matrix) rfl; exact ⟨fd, F⟩),
   (He.glo_ok X G (c.t.d.fact 14 (f := .glo "_law_matrix") rfl)),
   (by obtain ⟨fd, F⟩ := c.t.d.def_ 14 (d := dd__law_matrix) rfl; exact F.kp),
   (by obtain ⟨fd, F⟩ := c.t.d.def_ 15 (d := dd__law_dot) rfl; exact ⟨fd, F⟩),
   (He.glo_ok X G (c.t.d.fact 15 (f := .glo "_law_dot") rfl)),
   (by obtain ⟨fd, F⟩ := c.t.d.def_ 15 (d := dd__law_dot) rfl; exact F.kp),
   (by obtain ⟨fd, F⟩ := c.t.d.def_ 16 (d := dd__law_times) rfl; exact ⟨fd, F⟩),
   (He.glo_ok X G (c.t.d.fact 16 (f := .glo "_law_times") rfl)),
   (by obtain ⟨fd, F⟩ := c.t.d.def_ 16 (d := dd__law_times) rfl; exact F.kp),
   (by obtain ⟨fd, F⟩ := c.t.d.def_ 17 (d := dd__law_is_matrix) rfl; exact ⟨fd, F⟩),
   (He.glo_ok X G (c.t.d.fact 17 (f := .glo "_law_is_matrix") rfl)),
   (by obtain ⟨fd, F⟩ := c.t.d.def_ 17 (d := dd__law_is_matrix) rfl; exact F.kp),
   (by obtain ⟨fd, F⟩ := c.t.d.def_ 18 (d := dd__law_mismatch) rfl; exact ⟨fd, F⟩),
   (He.glo_ok X G (c.t.d.fact 18 (f := .glo "_law_mismatch") rfl)),
   (by obtain ⟨fd, F⟩ := c.t.d.def_ 18 (d := dd__law_mismatch) rfl; exact F.kp),
   (by obtain ⟨fd, F⟩ := c.t.d.def_ 19 (d := dd__law_powers) rfl; exact ⟨fd, F⟩),
   (He.glo_ok X G (c.t.d.fact 19 (f := .glo "_law_powers") rfl)),
   (by obtain ⟨fd, F⟩ := c.t.d.def_ 19 (d := dd__law_powers) rfl; exact F.kp),
   (by obtain ⟨fd, F⟩ := c.t.d.def_ 20 (d := dd_law) rfl; exact ⟨fd, F⟩),
   (He.glo_ok X G (c.t.d.fact 20 (f := .glo "law") rfl)),
   (by obtain ⟨fd, F⟩ := c.t.d.def_ 20 (d := dd_law) rfl; exact F.kp),
   (He.free_ok X G (c.t.d.fact 21 (f := .free "ValueError") rfl)),
   (He.free_ok X G (c.t.d.fact 22 (f := .free "bool") rfl)),
   (He.free_ok X G (c.t.d.fact 23 (f := .free "int") rfl)),
   (He.free_ok X G (c.t.d.fact 24 (f := .free "isinstance") rfl)),
   (He.free_ok X G (c.t.d.fact 25 (f := .free "len") rfl)),
   (He.free_ok X G (c.t.d.fact 26 (f := .free "list") rfl)),
   (He.free_ok X G (c.t.d.fact 27 (f := .free "range") rfl)),
   (He.free_ok X G (c.t.d.fact 28 (f := .free "zip") rfl)),
   (cst_int (He.int_ok X G (c.t.d.fact 29 (f := .int "ORDER" 255) rfl))).1,
   (cst_int (He.int_ok X G (c.t.d.fact 29 (f := .int "ORDER" 255) rfl))).2,
   (He.glo_ok X G (c.t.d.fact 30 (f := .glo "LOGS") rfl)),
   rfl,
   (fun H => tup_ok (all_at c.more 0 rfl) H),
   (He.glo_ok X G (c.t.d.fact 31 (f := .glo "POWERS") rfl)),
   rfl,
   (fun H => tup_ok (all_at c.more 1 rfl) H),
   (He.glo_ok X G (c.t.d.fact 32 (f := .glo "CairnError") rfl)),
   rfl,
   (He.exc_ok (c.t.d.fact 33 (f := .exc "CairnError") rfl)).1,
   (He.exc_ok (c.t.d.fact 33 (f := .exc "CairnError") rfl)).2.1,
   (He.exc_ok (c.t.d.fact 33 (f := .exc "CairnError") rfl)).2.2.1,
   (He.exc_ok (c.t.d.fact 33 (f := .exc "CairnError") rfl)).2.2.2,
   (He.glo_ok X G (c.t.d.fact 34 (f := .glo "ShapeMismatch") rfl)),
   rfl,
   (He.exc_ok (c.t.d.fact 35 (f := .exc "ShapeMismatch") rfl)).1,
   (He.exc_ok (c.t.d.fact 35 (f := .exc "ShapeMismatch") rfl)).2.1,
   (He.exc_ok (c.t.d.fact 35 (f := .exc "ShapeMismatch") rfl)).2.2.1,
   (He.exc_ok (c.t.d.fact 35 (f := .exc "ShapeMismatch") rfl)).2.2.2,
   (He.glo_ok X G (c.t.d.fact 36 (f := .glo "Singular") rfl)),
   rfl,
   (He.exc_ok (c.t.d.fact 37 (f := .exc "Singular") rfl)).1,
   (He.exc_ok (c.t.d.fact 37 (f := .exc "Singular") rfl)).2.1,
   (He.exc_ok (c.t.d.fact 37 (f := .exc "Singular") rfl)).2.2.1,
   (He.exc_ok (c.t.d.fact 37 (f := .exc "Singular") rfl)).2.2.2,
   (exc_bk (all_at c.more 2 rfl)),
   (of_decide_eq_true (all_at c.more 3 rfl)),
   (of_decide_eq_true (all_at c.more 4 rfl)),
   (of_decide_eq_true (all_at c.more 5 rfl)),
   (He.exm_ok (c.t.d.fact 38 (f := .exm "ShapeMismatch" "CairnError" true) rfl))⟩
end K05
open PySem PySem.W PySem.Calls PyProof.Rows
theorem PySem.Challenge.cw_cairn_k05_products_of_matrices_holds : PySem.Challenge.rw_cairn_k05_products_of_matrices.Holds := by
  w_on; o_law
  refine HandSHeadRun.head_any (r := OpenLaw.row PySem.Challenge.rw_cairn_k05_products_of_matrices) (q := view (OpenLaw.row PySem.Challenge.rw_cairn_k05_products_of_matrices).prog [30]) (H := K05.hk) (ob := K05.ob) (M := 3000) (loose := K05.names) (d := HandSHeadRun.topDef (OpenLaw.row PySem.Challenge.rw_cairn_k05_products_of_matrices).prog 30) (kwd := []) K05.ob_eq
    (by kernel_rfl) (fun s => by kernel_rfl) K05.run (by kernel_rfl) (by kernel_rfl) (by kernel_rfl) (by rfl) (by first | assumption | decide +kernel) (by decide +kernel) ⟨rfl, rfl, rfl, rfl, rfl, by decide +kernel⟩ ?hw ?hc
  case hw => w_witness2
  case hc =>
    refine L2.walk_ofE (l := PySem.Challenge.rw_cairn_k05_products_of_matrices) (n := 63) (k := 6) (x := "script") (CX := L2.CX0) rfl (by decide) (by kernel_rfl) ⟨rfl, by decide, by decide⟩ ?F (fun _ _ _ _ z => z)
    intro w mg fa h Y G hmg0
    obtain ⟨K, KX, c⟩ := Y
    have hmg : mg ("law" : PySem.Str) = some (.ref fa) := by
      have e : (HandSHeadRun.topDef (OpenLaw.row PySem.Challenge.rw_cairn_k05_products_of_matrices).prog 30).name = ("law" : PySem.Str) := by kernel_rfl
      rw [← e]
      exact hmg0
    have T := K05.txt_of KX G c
    have e : He.ga K "law" = fa := Value.ref.inj (Option.some.inj (T.g_law.symm.trans hmg))
    subst e
    obtain ⟨fd, F⟩ := T.F_law
    refine ⟨K, fd, K05.sp_law K, KX, fun s u => ?_, fun H a ns hl _ hS => ⟨a, ns, rfl, hS, hl, fun _ => rfl⟩, fun base KB GB => ?_⟩
    · exact L2.FunD.bindsA (ps := ["script"]) F (fun _ _ _ _ _ _ us hl => match us, hl with | [_], _ => rfl) s [u] rfl
    · obtain ⟨fd2, G2, _, F2⟩ := K05.ok_law (P := (PySem.Challenge.rw_cairn_k05_products_of_matrices).prog) (w := w) (base := base) T
      obtain rfl : fd2 = fd := Mx.fnat_eq F2 F
      exact G2
