import PyProof.Rows.All
import Wide.All
import OpenK.AllK
import Wide.FinOn
import Lean
import HandS.ForMost
import HandS.ForExc
import HandS.Evl
import HandS.IsInst
import HandS.ExcIs
import HandS.NoneIn
import HandS.Defaults
import HandS.Head0
import HandS.Head1
import HandS.Head2
import HandS.HeadEnd
import HandS.HeadHook1
import HandS.HeadHook2
import HandS.HeadHook3
import HandS.HeadHook4
import PySem.Challenge.RW_cairn_k01_field_arithmetic

set_option Elab.async false
namespace Gf
/-- the powers and the exponents as one number each -/
def pn : Nat := 70160881166704368827218703435136616750530459438269794890424969378298545675077208731798828898087927652446353395360628748027273188182808436399538186061104243134188885576122562338679313492324190829158544377810568631194580132524405266702234305646236648896994794467054525044798919765581988418950285252905306116225263236585714808161311289784028762024137133735135393922581566890382566480334369299400480864790538739986285574563168380416343369614948461817839620668187777978661530364712890858126432457562886306102556561631759900551331094983229723298224611133722330829711659991602983068895685602467964643306841827719562658305
def ln : Nat := 22135253156888987530748098150270024343632497605293634117281264061560962248099620766229961468867162294233796152347975563017024165690400661622462404646302566225833645086064538892198543335321514950294300187779610338557442029018619797274438901674641748676613670242915365385819254959901651105240253464034662486586186382979728982817772067067513442677601938078891989292316012868233806586592927239821351197800766822366321181463280924672822998103315976779850880337712374790938628529953751181886374687897611504386983350015558142994211516619836411558782076806704747441947939324473761869443721989389604670425385080942269787340800
def pw (k : Nat) : Nat := (pn >>> (8 * k)) % 256
def lg (a : Nat) : Nat := (ln >>> (8 * a)) % 256
def gm (a b : Nat) : Nat := if a = 0 then 0 else if b = 0 then 0 else pw ((lg a + lg b) % 255)
def xt (a : Nat) : Nat := if a * 2 > 255 then (a * 2) ^^^ 285 else a * 2
/-- one turn of the product by shifts: product, a, b -/
def ps (s : Nat × Nat × Nat) : Nat × Nat × Nat := (if s.2.2 % 2 = 0 then s.1 else s.1 ^^^ s.2.1, xt s.2.1, s.2.2 / 2)
def pn8 : Nat → Nat × Nat × Nat → Nat × Nat × Nat
  | 0, s => s
  | n + 1, s => ps (pn8 n s)
def pm (a b : Nat) : Nat := (pn8 8 (0, a, b)).1
def alln (f : Nat → Bool) : Nat → Bool
  | 0 => true
  | n + 1 => f n && alln f n
theorem alln_at {f : Nat → Bool} : ∀ {n : Nat}, alln f n = true → ∀ i, i < n → f i = true
  | 0, _, i, h => absurd h (Nat.not_lt_zero _)
  | n + 1, e, i, h => by
    unfold alln at e
    have e2 := Bool.and_eq_true_iff.mp e
    by_cases q : i = n
    · rw [q]; exact e2.1
    · exact alln_at e2.2 i (by omega)
theorem tab1 : alln (fun a => Nat.beq (pw (lg a)) a || Nat.beq a 0) 256 = true := by decide +kernel
theorem tab2 : alln (fun k => Nat.beq (lg (pw k)) k && Nat.ble 1 (pw k) && Nat.ble (pw k) 255) 255 = true := by decide +kernel
theorem tab3 : alln (fun a => Nat.ble (lg a) 254) 256 = true := by decide +kernel
theorem tab5 : alln (fun a => Nat.blt (xt a) 256) 256 = true := by decide +kernel
theorem pw_lg {a : Nat} (h : a < 256) (h0 : ¬ a = 0) : pw (lg a) = a := by
  have e := alln_at tab1 a h
  rcases Bool.or_eq_true_iff.mp e with e | e
  · exact Nat.eq_of_beq_eq_true e
  · exact absurd (Nat.eq_of_beq_eq_true e) h0
theorem tab2_at {k : Nat} (h : k < 255) : lg (pw k) = k ∧ 1 ≤ pw k ∧ pw k ≤ 255 := by
  have e := alln_at tab2 k h
  obtain ⟨e1, e2⟩ := Bool.and_eq_true_iff.mp e
  obtain ⟨e3, e4⟩ := Bool.and_eq_true_iff.mp e1
  exact ⟨Nat.eq_of_beq_eq_true e3, Nat.le_of_ble_eq_true e4, Nat.le_of_ble_eq_true e2⟩
theorem lg_lt {a : Nat} (h : a < 256) : lg a < 255 := by
  have e := Nat.le_of_ble_eq_true (alln_at tab3 a h)
  omega
theorem xt_lt {a : Nat} (h : a < 256) : xt a < 256 := Nat.le_of_ble_eq_true (alln_at tab5 a h)
theorem pn8_lt {a b : Nat} (h : a < 256) : ∀ n, (pn8 n (0, a, b)).2.1 < 256
  | 0 => h
  | n + 1 => xt_lt (pn8_lt h n)
theorem gm_zero {a b : Nat} (h : a = 0 ∨ b = 0) : gm a b = 0 := by
  unfold gm
  rcases h with h | h
  · rw [if_pos h]
  · by_cases q : a = 0
    · rw [if_pos q]
    · rw [if_neg q, if_pos h]
theorem gm_pos {a b : Nat} (h : ¬ a = 0) (h2 : ¬ b = 0) : gm a b = pw ((lg a + lg b) % 255) := by
  unfold gm
  rw [if_neg h, if_neg h2]
theorem pw_lt (k : Nat) : pw k < 256 := Nat.mod_lt _ (by decide)
theorem gm_lt (a b : Nat) : gm a b < 256 := by
  unfold gm
  split
  · decide
  · split
    · decide
    · exact pw_lt _
def gi (a : Nat) : Nat := pw ((255 - lg a) % 255)
theorem gi_lt (a : Nat) : gi a < 256 := pw_lt _
theorem gi_ne (a : Nat) : ¬ gi a = 0 := by
  have := (tab2_at (Nat.mod_lt (255 - lg a) (by decide : 0 < 255))).2.1
  unfold gi
  omega
theorem lg_gi (a : Nat) : lg (gi a) = (255 - lg a) % 255 := (tab2_at (Nat.mod_lt (255 - lg a) (by decide : 0 < 255))).1
theorem pw_zero : pw 0 = 1 := by decide +kernel
theorem gm_gi {a : Nat} (h : a < 256) (h0 : ¬ a = 0) : gm a (gi a) = 1 := by
  rw [gm_pos h0 (gi_ne a), lg_gi]
  have := lg_lt h
  have e : (lg a + (255 - lg a) % 255) % 255 = 0 := by omega
  rw [e, pw_zero]
theorem gm_comm (a b : Nat) : gm a b = gm b a := by
  by_cases h : a = 0
  · rw [gm_zero (.inl h), gm_zero (.inr h)]
  · by_cases h2 : b = 0
    · rw [gm_zero (.inr h2), gm_zero (.inl h2)]
    · rw [gm_pos h h2, gm_pos h2 h, Nat.add_comm]
theorem gm_ne {a b : Nat} (h : ¬ a = 0) (h2 : ¬ b = 0) : ¬ gm a b = 0 := by
  rw [gm_pos h h2]
  have := (tab2_at (Nat.mod_lt (lg a + lg b) (by decide : 0 < 255))).2.1
  omega
theorem lg_gm {a b : Nat} (h : ¬ a = 0) (h2 : ¬ b = 0) : lg (gm a b) = (lg a + lg b) % 255 := by
  rw [gm_pos h h2]
  exact (tab2_at (Nat.mod_lt (lg a + lg b) (by decide : 0 < 255))).1
theorem gm_assoc (a b c : Nat) : gm (gm a b) c = gm a (gm b c) := by
  by_cases h : a = 0
  · rw [gm_zero (.inl h), gm_zero (.inl rfl), gm_zero (.inl h)]
  · by_cases h2 : b = 0
    · rw [gm_zero (.inr h2), gm_zero (.inl rfl), gm_zero (a := b) (.inl h2), gm_zero (.inr rfl)]
    · by_cases h3 : c = 0
      · rw [gm_zero (.inr h3), gm_zero (a := b) (.inr h3), gm_zero (.inr rfl)]
      · rw [gm_pos (gm_ne h h2) h3, gm_pos h (gm_ne h2 h3), lg_gm h h2, lg_gm h2 h3]
        have e : ((lg a + lg b) % 255 + lg c) % 255 = (lg a + (lg b + lg c) % 255) % 255 := by omega
        rw [e]
theorem lg_one : lg 1 = 0 := by decide +kernel
theorem gm_one {a : Nat} (h : a < 256) : gm a 1 = a := by
  by_cases h0 : a = 0
  · rw [gm_zero (.inl h0), h0]
  · rw [gm_pos h0 (by decide), lg_one, Nat.add_zero, Nat.mod_eq_of_lt (lg_lt h), pw_lg h h0]
theorem tab6 : alln (fun k => Nat.beq (pw ((k + 1) % 255)) (xt (pw k))) 255 = true := by decide +kernel
theorem tab7 : alln (fun n => alln (fun b => Nat.beq (b % 2 ^ (n + 1)) (if (b / 2 ^ n) % 2 = 0 then b % 2 ^ n else (b % 2 ^ n) ^^^ 2 ^ n)) 256) 8 = true := by decide +kernel
theorem tab8 : alln (fun n => Nat.beq (pw n) (2 ^ n)) 8 = true := by decide +kernel
theorem xor_lt {x y : Nat} (hx : x < 256) (hy : y < 256) : x ^^^ y < 256 := Nat.xor_lt_two_pow (n := 8) hx hy
theorem xt_xor {x y : Nat} (hx : x < 256) (hy : y < 256) : xt (x ^^^ y) = xt x ^^^ xt y := by
  have e : ∀ {z : Nat}, z < 256 → xt z = (z * 2) ^^^ (if z / 128 = 0 then 0 else 285) := fun {z} hz => by
    unfold xt
    by_cases h : z * 2 > 255
    · rw [if_pos h, if_neg (by omega)]
    · rw [if_neg h, if_pos (by omega), Nat.xor_zero]
  have d : (x ^^^ y) / 128 = x / 128 ^^^ y / 128 := by
    have q := Nat.shiftRight_xor_distrib (a := x) (b := y) (i := 7)
    rw [Nat.shiftRight_eq_div_pow, Nat.shiftRight_eq_div_pow, Nat.shiftRight_eq_div_pow] at q
    exact q
  have m : (x ^^^ y) * 2 = x * 2 ^^^ y * 2 := by
    have q := Nat.shiftLeft_xor_distrib (a := x) (b := y) (i := 1)
    rw [Nat.shiftLeft_eq, Nat.shiftLeft_eq, Nat.shiftLeft_eq] at q
    exact q
  rw [e (xor_lt hx hy), e hx, e hy, d, m]
  have h1 : x / 128 = 0 ∨ x / 128 = 1 := by omega
  have h2 : y / 128 = 0 ∨ y / 128 = 1 := by omega
  have ac : ∀ p q r s : Nat, (p ^^^ r) ^^^ (q ^^^ s) = (p ^^^ q) ^^^ (r ^^^ s) := fun p q r s => by
    rw [Nat.xor_assoc, Nat.xor_assoc, ← Nat.xor_assoc r, Nat.xor_comm r q, Nat.xor_assoc q]
  rw [ac]
  rcases h1 with h1 | h1 <;> rcases h2 with h2 | h2 <;> rw [h1, h2] <;> rfl
def xtn : Nat → Nat → Nat
  | 0, a => a
  | n + 1, a => xt (xtn n a)
theorem xtn_lt {a : Nat} (h : a < 256) : ∀ n, xtn n a < 256
  | 0 => h
  | n + 1 => xt_lt (xtn_lt h n)
theorem xtn_xor {x y : Nat} (hx : x < 256) (hy : y < 256) : ∀ n, xtn n (x ^^^ y) = xtn n x ^^^ xtn n y
  | 0 => rfl
  | n + 1 => by
    show xt (xtn n (x ^^^ y)) = xt (xtn n x) ^^^ xt (xtn n y)
    rw [xtn_xor hx hy n, xt_xor (xtn_lt hx n) (xtn_lt hy n)]
theorem xtn_zero : ∀ n, xtn n 0 = 0
  | 0 => rfl
  | n + 1 => by
    show xt (xtn n 0) = 0
    rw [xtn_zero n]
    rfl
theorem xtn_pw {j : Nat} (h : j < 255) : ∀ n, xtn n (pw j) = pw ((j + n) % 255)
  | 0 => by
    show pw j = _
    rw [Nat.add_zero, Nat.mod_eq_of_lt h]
  | n + 1 => by
    show xt (xtn n (pw j)) = _
    rw [xtn_pw h n]
    have e := Nat.eq_of_beq_eq_true (alln_at tab6 ((j + n) % 255) (Nat.mod_lt _ (by decide)))
    rw [← e]
    congr 1
    omega
theorem gm_xtn {a b : Nat} (h : ¬ a = 0) (hb : b < 256) : gm a b = xtn (lg a) b := by
  by_cases h0 : b = 0
  · rw [gm_zero (.inr h0), h0, xtn_zero]
  · have e : xtn (lg a) b = xtn (lg a) (pw (lg b)) := by rw [pw_lg hb h0]
    rw [e, xtn_pw (lg_lt hb), gm_pos h h0, Nat.add_comm]
/-- the product distributes over the sum -/
theorem gm_xor {a b c : Nat} (hb : b < 256) (hc : c < 256) : gm a (b ^^^ c) = gm a b ^^^ gm a c := by
  by_cases h : a = 0
  · rw [gm_zero (.inl h), gm_zero (.inl h), gm_zero (.inl h)]
    rfl
  · rw [gm_xtn h (xor_lt hb hc), gm_xtn h hb, gm_xtn h hc, xtn_xor hb hc]
theorem xor_gm {a b c : Nat} (hb : b < 256) (hc : c < 256) : gm (b ^^^ c) a = gm b a ^^^ gm c a := by
  rw [gm_comm, gm_xor hb hc, gm_comm a b, gm_comm a c]
theorem gm_pow {a n : Nat} (ha : a < 256) (hn : n < 8) : gm a (2 ^ n) = xtn n a := by
  have e := Nat.eq_of_beq_eq_true (alln_at tab8 n hn)
  have l := (tab2_at (show n < 255 by omega)).1
  rw [gm_comm, ← e, gm_xtn (by have := (tab2_at (show n < 255 by omega)).2.1; omega) ha, l]
theorem pn8_eq {a b : Nat} (ha : a < 256) (hb : b < 256) : ∀ n, n ≤ 8 → pn8 n (0, a, b) = (gm a (b % 2 ^ n), xtn n a, b / 2 ^ n)
  | 0, _ => by
    show (0, a, b) = _
    rw [Nat.pow_zero, Nat.mod_one, Nat.div_one, gm_zero (.inr rfl)]
    rfl
  | n + 1, h => by
    show ps (pn8 n (0, a, b)) = _
    rw [pn8_eq ha hb n (by omega)]
    have e := Nat.eq_of_beq_eq_true (alln_at (alln_at tab7 n (by omega)) b hb)
    have d : b / 2 ^ n / 2 = b / 2 ^ (n + 1) := by rw [Nat.div_div_eq_div_mul, Nat.pow_succ]
    have l1 : b % 2 ^ n < 256 := Nat.lt_of_le_of_lt (Nat.mod_le _ _) hb
    have l2 : 2 ^ n < 256 := Nat.pow_lt_pow_right (by decide) (show n < 8 by omega)
    show (if b / 2 ^ n % 2 = 0 then gm a (b % 2 ^ n) else gm a (b % 2 ^ n) ^^^ xtn n a, xt (xtn n a), b / 2 ^ n / 2) = _
    rw [d, e]
    by_cases q : b / 2 ^ n % 2 = 0
    · rw [if_pos q, if_pos q]
      rfl
    · rw [if_neg q, if_neg q, gm_xor l1 l2, gm_pow ha (by omega)]
      rfl
theorem pm_eq {a b : Nat} (ha : a < 256) (hb : b < 256) : (pn8 8 (0, a, b)).1 = gm a b := by
  rw [pn8_eq ha hb 8 (Nat.le_refl _)]
  show gm a (b % 256) = gm a b
  rw [Nat.mod_eq_of_lt hb]
def gp (a n : Nat) : Nat := if n = 0 then 1 else if a = 0 then 0 else pw (lg a * n % 255)
theorem gp_none (a : Nat) : gp a 0 = 1 := if_pos rfl
theorem gp_zero {n : Nat} (h : ¬ n = 0) : gp 0 n = 0 := by
  unfold gp
  rw [if_neg h, if_pos rfl]
theorem gp_pos {a n : Nat} (h : ¬ a = 0) (h2 : ¬ n = 0) : gp a n = pw (lg a * n % 255) := by
  unfold gp
  rw [if_neg h2, if_neg h]
theorem gp_lt (a n : Nat) : gp a n < 256 := by
  unfold gp
  split
  · decide
  · split
    · decide
    · exact pw_lt _
theorem gp_succ {a : Nat} (ha : a < 256) (n : Nat) : gp a (n + 1) = gm (gp a n) a := by
  by_cases h : a = 0
  · subst h
    rw [gp_zero (by omega), gm_zero (.inr rfl)]
  · by_cases hn : n = 0
    · subst hn
      rw [gp_pos h (by omega), gp_none, gm_comm, gm_one ha, Nat.zero_add, Nat.mul_one, Nat.mod_eq_of_lt (lg_lt ha), pw_lg ha h]
    · have e := tab2_at (Nat.mod_lt (lg a * n) (by decide : 0 < 255))
      rw [gp_pos h (by omega), gp_pos h hn, gm_pos (by omega) h, e.1, Nat.mul_add, Nat.mul_one]
      congr 1
      omega
def mixed (c k : Int) : Int := ((c * 48271 + k * 69621 + 11) % 2147483647 * 16807 + (k + 3) * 40692 + 5) % 2147483563 / 5
def mixd (c : Int) (m j : Nat) : Nat := (mixed c (j : Int) % (m : Int)).toNat
theorem mixd_eq {m : Nat} (h : 0 < m) (c : Int) (j : Nat) : ((mixd c m j : Nat) : Int) = mixed c (j : Int) % (m : Int) := by
  unfold mixd
  exact Int.toNat_of_nonneg (Int.emod_nonneg _ (by omega))
def divn (m : Nat) : Nat → Int → Int
  | 0, c => c
  | n + 1, c => divn m n c / (m : Int)
def digd (c : Int) (m j : Nat) : Nat := (divn m j c % (m : Int)).toNat
theorem digd_eq {m : Nat} (h : 0 < m) (c : Int) (j : Nat) : ((digd c m j : Nat) : Int) = divn m j c % (m : Int) := by
  unfold digd
  exact Int.toNat_of_nonneg (Int.emod_nonneg _ (by omega))
def digits (c : Int) (n m : Nat) : List Nat := if c < 10 ^ 18 then (List.range n).map fun j => mixd c m j else (List.range n).map fun j => digd c m j
theorem digits_low {c : Int} {n m : Nat} (h : c < 10 ^ 18) : digits c n m = (List.range n).map fun j => mixd c m j := if_pos h
theorem digits_high {c : Int} {n m : Nat} (h : ¬ c < 10 ^ 18) : digits c n m = (List.range n).map fun j => digd c m j := if_neg h
theorem digits_length (c : Int) (n m : Nat) : (digits c n m).length = n := by
  unfold digits
  split <;> simp
theorem digits_lt {c : Int} {n m : Nat} (h : 0 < m) : ∀ d ∈ digits c n m, d < m := by
  intro d hd
  have key : ∀ z : Int, (z % (m : Int)).toNat < m := fun z => by
    have h1 := Int.emod_nonneg z (show (m : Int) ≠ 0 by omega)
    have h2 := Int.emod_lt_of_pos z (show (0 : Int) < (m : Int) by omega)
    omega
  unfold digits at hd
  split at hd
  · obtain ⟨j, _, rfl⟩ := List.mem_map.mp hd
    exact key _
  · obtain ⟨j, _, rfl⟩ := List.mem_map.mp hd
    exact key _
def powL : List Nat := (List.range 255).map pw
def logL : List Nat := (List.range 256).map lg
theorem range_at {f : Nat → Nat} {n k : Nat} (h : k < n) : ((List.range n).map f)[k]? = some (f k) := by
  rw [List.getElem?_map, List.getElem?_range h]
  rfl
end Gf

set_option Elab.async false
set_option linter.all false
set_option maxRecDepth 100000
set_option maxHeartbeats 4000000
namespace Mx
open PySem PySem.Spec PyProof.Rows L2 Evl
/-! ### more of what evaluates to what -/
section
variable {K : PySem.W.Frag} {σ : L2.St} {H H' : Hp} {ta tb te tx : TE} {t u : TT} {x y z v : V} {r : R2}
theorem rv_xor {a b : Nat} : RV (rI0 fun i j => .int (Builtin.bitXor i j)) (.int (a : Int)) (.int (b : Int)) H (.int ((a ^^^ b : Nat) : Int)) := fun H1 _ Q q => ⟨_, _, rfl, rfl, by
  show Q (.int (Builtin.bitXor (a : Int) (b : Int))) H1
  rw [Bits.bitXor_pp (Int.natCast_nonneg a) (Int.natCast_nonneg b), Int.toNat_natCast, Int.toNat_natCast]
  exact q H1 (Ex.refl H1)⟩
theorem rv_addN {a b : Nat} : RV (rI0 fun i j => .int (i + j)) (.int (a : Int)) (.int (b : Int)) H (.int ((a + b : Nat) : Int)) := fun H1 _ Q q => ⟨_, _, rfl, rfl, by
  show Q (.int ((a : Int) + (b : Int))) H1
  rw [← Int.natCast_add]
  exact q H1 (Ex.refl H1)⟩
theorem rv_mod {i j : Int} (h : 0 < j) : RV (rI (fun _ j => 0 < j) fun i j => .int (i % j)) (.int i) (.int j) H (.int (i % j)) := rv_I h
theorem rv_fdiv {i j : Int} (h : 0 < j ∧ j < 1073741824) : RV (rI CDiv fun i j => .int (i / j)) (.int i) (.int j) H (.int (i / j)) := rv_I h
theorem ev_int {i : Int} (h : Ev ta σ H (.int i)) : Ev (tCB (fun xs H Q => (∃ i, xs = [.int i] ∧ Q (.int i) H) ∨ ∃ k, xs = [.bl k] ∧ Q (.int (if k then 1 else 0)) H) (tCons ta tNil)) σ H (.int i) := fun H1 e Q q =>
  h H1 e _ fun H2 e2 => Or.inl ⟨i, rfl, q H2 e2⟩
theorem ev_intB {k : Bool} (h : Ev ta σ H (.bl k)) : Ev (tCB (fun xs H Q => (∃ i, xs = [.int i] ∧ Q (.int i) H) ∨ ∃ k, xs = [.bl k] ∧ Q (.int (if k then 1 else 0)) H) (tCons ta tNil)) σ H (.int (if k then 1 else 0)) := fun H1 e Q q =>
  h H1 e _ fun H2 e2 => Or.inr ⟨k, rfl, q H2 e2⟩
theorem ev_lenL {p : Addr} {xs : List V} (ha : Ev ta σ H (.ref p)) (h : SqL K H p xs) : Ev (tCB (fun xs H Q => ∃ p ys, xs = [.ref p] ∧ (SqL K H p ys ∨ SqT K H p ys) ∧ Q (.int ys.length) H) (tCons ta tNil)) σ H (.int (xs.length : Int)) := ev_len ha h
theorem ev_lenT {p : Addr} {xs : List V} (ha : Ev ta σ H (.ref p)) (h : SqT K H p xs) : Ev (tCB (fun xs H Q => ∃ p ys, xs = [.ref p] ∧ (SqL K H p ys ∨ SqT K H p ys) ∧ Q (.int ys.length) H) (tCons ta tNil)) σ H (.int (xs.length : Int)) := fun H1 e Q q =>
  ha H1 e _ fun H2 e2 => ⟨p, xs, rfl, Or.inr (ex_t (e.trans e2) h), q H2 e2⟩
theorem ev_isi {x c : V} {t u : Value} {b : Bool} (ha : Ev ta σ H x) (hb : Ev tb σ H c) (hc : ClsV c u) (ht : ∀ H1, Ex H H1 → TyX K H1 x t) (h : PySem.W.kitOne K t u = some b) :
    Ev (tCB (rIsi K) (tCons ta (tCons tb tNil))) σ H (.bl b) := fun H1 e Q q =>
  ha H1 e _ fun H2 e2 => hb H2 (e.trans e2) _ fun H3 e3 => ⟨x, c, t, u, b, rfl, hc, ht H3 ((e.trans e2).trans e3), h, q H3 (e2.trans e3)⟩
theorem ev_isiI {n : String} {i : Int} {b : Bool} (ha : Ev ta σ H (.int i)) (hb : Ev tb σ H (.ty n)) (h : kitB "int" n = some b) : Ev (tCB (rIsi K) (tCons ta (tCons tb tNil))) σ H (.bl b) :=
  ev_isi ha hb (ClsV.ty n) (fun _ _ => .base (.int i)) (kit_ty h)
theorem et_truI {i : Int} (h : Ev te σ H (.int i)) : EvT (fun σ H Q => te σ H fun x H1 => ∃ k, TruV K x H1 k ∧ Q k H1) σ H (i != 0) := fun H1 e Q q =>
  h H1 e _ fun H2 e2 => ⟨_, rfl, q H2 e2⟩
theorem given_yes {p : Prop} {X : Cx} {st : List Stmt} {t : TS} (h : p → PSs X st t) : PSs X st (fun D σ H => p ∧ t D σ H) := ⟨fun pins s σ H D I h' => (h h'.1).run pins s σ H D I h'.2⟩
end
/-- a number from nought as a value -/
abbrev nV (n : Nat) : V := .int (n : Int)
/-- a list from outside, changed by nobody meanwhile -/
theorem pow_at {k : Nat} (h : k < 255) : (Gf.powL.map nV)[k]? = some (.int ((Gf.pw k : Nat) : Int)) := by
  unfold Gf.powL
  rw [List.getElem?_map, Gf.range_at h]
  rfl
theorem log_at {k : Nat} (h : k < 256) : (Gf.logL.map nV)[k]? = some (.int ((Gf.lg k : Nat) : Int)) := by
  unfold Gf.logL
  rw [List.getElem?_map, Gf.range_at h]
  rfl
section
variable {K : PySem.W.Frag} {σ : L2.St} {H H' : Hp} {ta tb te tx : TE} {t u : TT} {x y z v : V} {r : R2}
theorem rv_ixTN {p : Addr} {xs : List V} {k : Nat} (h : SqT K H p xs) (ha : xs[k]? = some v) : RV (rIxT K) (.ref p) (.int (k : Int)) H v := rv_ixT h (atI_nat ha)
theorem rv_ixLN {p : Addr} {xs : List V} {k : Nat} (h : SqL K H p xs) (ha : xs[k]? = some v) : RV (rIxL K) (.ref p) (.int (k : Int)) H v := rv_ixL h (atI_nat ha)
theorem rv_modN {a b : Nat} (h : 0 < b) : RV (rI (fun _ j => 0 < j) fun i j => .int (i % j)) (.int (a : Int)) (.int (b : Int)) H (.int ((a % b : Nat) : Int)) := by
  have e : (.int ((a % b : Nat) : Int) : V) = .int ((a : Int) % (b : Int)) := by rw [Int.natCast_emod]
  rw [e]
  exact rv_I (by omega)
theorem rv_subN {a b : Nat} (h : b ≤ a) : RV (rI0 fun i j => .int (i - j)) (.int (a : Int)) (.int (b : Int)) H (.int ((a - b : Nat) : Int)) := by
  have e : (.int ((a - b : Nat) : Int) : V) = .int ((a : Int) - (b : Int)) := by rw [Int.natCast_sub h]
  rw [e]
  exact rv_I0
theorem rv_mulN {a b : Nat} (h : a < 18446744073709551616) : RV (rI CMul fun i j => .int (i * j)) (.int (a : Int)) (.int (b : Int)) H (.int ((a * b : Nat) : Int)) := by
  have e : (.int ((a * b : Nat) : Int) : V) = .int ((a : Int) * (b : Int)) := by rw [Int.natCast_mul]
  rw [e]
  exact rv_I (Or.inl ⟨by omega, by omega⟩)
theorem rv_mulL {i j : Int} (h : -(2 ^ 64) < j ∧ j < 2 ^ 64) : RV (rI CMul fun i j => .int (i * j)) (.int i) (.int j) H (.int (i * j)) := rv_I (Or.inr h)
theorem rv_and1 {b : Nat} : RV (rI0 fun i j => .int (Builtin.bitAnd i j)) (.int (b : Int)) (.int 1) H (.int ((b % 2 : Nat) : Int)) := by
  have e : (.int ((b % 2 : Nat) : Int) : V) = .int (Builtin.bitAnd (b : Int) 1) := by rw [bitAnd_m1, Int.natCast_emod] <;> rfl
  rw [e]
  exact rv_I0
theorem rv_shr1 {b : Nat} : RV (rI (fun _ j => 0 ≤ j) fun i j => .int (i / 2 ^ j.toNat)) (.int (b : Int)) (.int 1) H (.int ((b / 2 : Nat) : Int)) := by
  have e : (.int ((b / 2 : Nat) : Int) : V) = .int ((b : Int) / 2 ^ (1 : Int).toNat) := by rw [Int.natCast_ediv] <;> rfl
  rw [e]
  exact rv_I (C := fun _ j => 0 ≤ j) (by decide)
theorem rv_shl1 {a : Nat} (h : a < 18446744073709551616) : RV (rI CPow fun i j => .int (i * 2 ^ j.toNat)) (.int (a : Int)) (.int 1) H (.int ((a * 2 : Nat) : Int)) := by
  have e : (.int ((a * 2 : Nat) : Int) : V) = .int ((a : Int) * 2 ^ (1 : Int).toNat) := by rw [Int.natCast_mul] <;> rfl
  rw [e]
  exact rv_I (C := CPow) ⟨by decide, by decide, by omega⟩
end
section
variable {K : PySem.W.Frag} {σ : L2.St} {H H' : Hp} {ta tb te tx : TE} {t u : TT} {x y z v : V} {r : R2} {D : Ends} {tu tw tz : TS} {g : TG}
theorem ev_isE {Z a : Addr} {c : V} {cv : Value} {b : Bool} (ha : Ev ta σ H (.ref a)) (hb : Ev tb σ H c) (hc : ∀ w, RelV c w → w = cv) (h : PySem.W.kitOne K (.ref Z) cv = some b) :
    Ev (tCB (rIsE K Z a) (tCons ta (tCons tb tNil))) σ H (.bl b) := fun H1 e Q q =>
  ha H1 e _ fun H2 e2 => hb H2 (e.trans e2) _ fun H3 e3 => ⟨c, cv, b, rfl, hc, h, q H3 (e2.trans e3)⟩
theorem ev_isEr {Z a C : Addr} {b : Bool} (ha : Ev ta σ H (.ref a)) (hb : Ev tb σ H (.ref C)) (h : PySem.W.kitOne K (.ref Z) (.ref C) = some b) :
    Ev (tCB (rIsE K Z a) (tCons ta (tCons tb tNil))) σ H (.bl b) := ev_isE ha hb (fun _ e => e) h
theorem ev_isEt {Z a : Addr} {n : String} {b : Bool} (ha : Ev ta σ H (.ref a)) (hb : Ev tb σ H (.ty n)) (h : PySem.W.kitOne K (.ref Z) (.type n) = some b) :
    Ev (tCB (rIsE K Z a) (tCons ta (tCons tb tNil))) σ H (.bl b) := ev_isE ha hb (fun _ e => e) h
theorem s_unlL {n : Nat} {tg : TGs} {xs : List V} (h : EvL te σ H xs) (hl : xs.length = n) (k : ∀ p H1, H p = none → Ex H H1 → H1 p = some (.lst xs) → tg xs σ H1 D.nx) : tAsg te (gUnl K n tg) D σ H :=
  h H (Ex.refl H) _ fun p H1 np e hp => ⟨p, xs, rfl, sq_of hp, hl, k p H1 np e hp⟩
theorem q_unlL {n : Nat} {tg : TGs} {xs : List V} (h : EvL te σ H xs) (hl : xs.length = n) (k : ∀ p H1, H p = none → Ex H H1 → H1 p = some (.lst xs) → tg xs σ H1 (tz D)) : tSeq (tAsg te (gUnl K n tg)) tz D σ H := s_unlL (D := { D with nx := tz D }) h hl k
end
/-! ### lists of tuples that are written, and a loop over them -/
section
variable {K : PySem.W.Frag} {σ : L2.St} {H H' : Hp} {ta tb te tx : TE} {t u : TT} {x y z v : V} {r : R2} {D : Ends} {tu tw tz : TS} {g : TG}
def TupsAt (H : Hp) (rs : List Addr) (vss : List (List V)) : Prop := Paired (fun r vs => H r = some (.tup vs)) rs vss
theorem TupsAt.mono {H H' : Hp} (e : Ex H H') : ∀ {rs : List Addr} {vss : List (List V)}, TupsAt H rs vss → TupsAt H' rs vss
  | _, _, .nil => .nil
  | _, _, .cons h t => .cons (e _ _ h) (TupsAt.mono e t)
theorem TupsAt.get {H : Hp} : ∀ {rs : List Addr} {vss : List (List V)} {i : Nat} {x : V}, TupsAt H rs vss → (rs.map V.ref)[i]? = some x → ∃ r vs, x = .ref r ∧ vss[i]? = some vs ∧ H r = some (.tup vs)
  | _, _, _, _, .nil, e => by simp at e
  | _, _, 0, x, .cons h t, e => by
    simp at e
    exact ⟨_, _, e.symm, rfl, h⟩
  | _, _, i + 1, x, .cons h t, e => by
    have e2 := TupsAt.get (i := i) (x := x) t (by simpa using e)
    obtain ⟨r, vs, h1, h2, h3⟩ := e2
    exact ⟨r, vs, h1, by simpa using h2, h3⟩
theorem TupsAt.len {H : Hp} {rs : List Addr} {vss : List (List V)} (h : TupsAt H rs vss) : rs.length = vss.length := Paired.length h
def EvAT (ta : TA) (σ : L2.St) (H : Hp) (vss : List (List V)) : Prop := ∀ H1, Ex H H1 → ∀ Q : List V → Hp → Prop, (∀ rs H2, Ex H1 H2 → TupsAt H2 rs vss → Q (rs.map V.ref) H2) → ta σ H1 Q
theorem eat_nil : EvAT tNil σ H [] := fun H1 _ _ q => q [] H1 (Ex.refl H1) .nil
theorem eat_cons {tr : TA} {vs : List V} {vss : List (List V)} (h : EvU te σ H vs) (hr : EvAT tr σ H vss) : EvAT (tCons te tr) σ H (vs :: vss) := fun H1 e _ q =>
  h H1 e _ fun p H2 _ e2 hp => hr H2 (e.trans e2) _ fun rs H3 e3 ht => q (p :: rs) H3 (e2.trans e3) (.cons (e3 _ _ hp) ht)
/-- for a, b in [(..), (..)] where the turns leave what stood as it was -/
theorem s_forLT {ta : TA} {n : Nat} {tg : TGs} {vss : List (List V)} (h : EvAT ta σ H vss) (hz : vss.length ≤ 1000) (hn : ∀ vs ∈ vss, vs.length = n) (Pv : Nat → L2.St → Prop) (h0 : Pv 0 σ)
    (hs : ∀ i vs σ' H' (N : L2.St → Hp → Prop), vss[i]? = some vs → Pv i σ' → Ex H H' → (∀ σ3 H3, Pv (i + 1) σ3 → Ex H' H3 → N σ3 H3) → tg vs σ' H' fun σ2 H2 => tu { D with nx := N, ct := N, bk := D.nx } σ2 H2)
    (hd : ∀ σ' H', Pv vss.length σ' → Ex H H' → D.nx σ' H') : tFor (iList K (tLst ta)) (gTup K n tg) tu D σ H :=
  h H (Ex.refl H) _ fun rs H1 e1 ht => ⟨sz_of (by rw [List.length_map, ht.len]; omega), fun p np =>
    have e2 : Ex H1 (upd H1 p (.lst (rs.map V.ref))) := Ex.new np
    ⟨p, rfl, ⟨_, sq_of upd_same⟩, for_list (K := K) (a := p) (xs := rs.map V.ref) (fun i σ' H' => Pv i σ' ∧ Ex (upd H1 p (.lst (rs.map V.ref))) H') ⟨h0, Ex.refl _⟩ (fun i σ' H' _ q => sq_of (q.2 _ _ upd_same))
      (fun i x σ' H' hi q => by
        obtain ⟨a, vs, rfl, hv, ha⟩ := (ht.mono (e2.trans q.2)).get hi
        refine ⟨a, vs, rfl, st_of ha, hn vs (List.mem_of_getElem? hv), ?_⟩
        exact hs i vs σ' H' _ hv q.1 ((e1.trans e2).trans q.2) fun σ3 H3 p3 e3 => ⟨p3, q.2.trans e3⟩)
      (fun σ' H' q => hd σ' H' (by rw [List.length_map, ht.len] at q; exact q.1) ((e1.trans e2).trans q.2))⟩⟩
theorem q_forLT {ta : TA} {n : Nat} {tg : TGs} {vss : List (List V)} (h : EvAT ta σ H vss) (hz : vss.length ≤ 1000) (hn : ∀ vs ∈ vss, vs.length = n) (Pv : Nat → L2.St → Prop) (h0 : Pv 0 σ)
    (hs : ∀ i vs σ' H' (N : L2.St → Hp → Prop), vss[i]? = some vs → Pv i σ' → Ex H H' → (∀ σ3 H3, Pv (i + 1) σ3 → Ex H' H3 → N σ3 H3) → tg vs σ' H' fun σ2 H2 => tu { D with nx := N, ct := N, bk := tz D } σ2 H2)
    (hd : ∀ σ' H', Pv vss.length σ' → Ex H H' → tz D σ' H') : tSeq (tFor (iList K (tLst ta)) (gTup K n tg) tu) tz D σ H := s_forLT (D := { D with nx := tz D }) h hz hn Pv h0 hs hd
theorem rv_fdivN {a b : Nat} (h : 0 < b ∧ b < 1073741824) : RV (rI CDiv fun i j => .int (i / j)) (.int (a : Int)) (.int (b : Int)) H (.int ((a / b : Nat) : Int)) := by
  have e : (.int ((a / b : Nat) : Int) : V) = .int ((a : Int) / (b : Int)) := by rw [Int.natCast_ediv]
  rw [e]
  exact rv_I (C := CDiv) ⟨by omega, by omega⟩
theorem dec_ne {a b : Int} (h : a = b) : (!decide (V.int a = V.int b)) = false := by rw [h]; simp
end
/-! ### facts of the top -/
def cst (mg : Str → Option Value) (x : Str) : Value := (mg x).getD .none
theorem cst_int {mg : Str → Option Value} {x : Str} {i : Int} (h : ∃ t, mg x = some (.int i t)) : mg x = some (cst mg x) ∧ RelV (.int i) (cst mg x) := by
  obtain ⟨t, e⟩ := h
  have e2 : cst mg x = .int i t := by
    unfold cst
    rw [e] <;> rfl
  rw [e2]
  exact ⟨e, t, rfl⟩
theorem tup_ok {K : PySem.W.Frag} {x : Str} {l : List Nat} (h : He.tupB K x (l.map fun (n : Nat) => He.Dv.int (n : Int)) = true) (H : Hp) : SqT K H (He.ga K x) (l.map nV) := by
  have z := He.tupB_ok h H
  rw [List.map_map] at z
  exact z
def exc_b (K : PySem.W.Frag) (D : Addr) : Bool := He.eqO (PySem.W.findIn K (.ref D) "__getattribute__") (some (some (.builtin "BaseException.__getattribute__"))) && (He.eqO (PySem.W.findIn K (.ref D) "__getattr__") (some none) &&
  (decide (PySem.W.subIn K (.ref D) (.type "BaseException") = some true) && (PySem.W.hasDictIn K D && (He.eqO (PySem.W.findIn K (.ref D) "__class__") (some (some (.builtin "object.__class__"))) &&
  (He.eqO (PySem.W.specialIn K (.builtin "object.__class__") "__get__") (some (some (.builtin "getset_descriptor.__get__"))) && (decide (PySem.W.takesIn K (.builtin "object.__class__") = some true) && decide (PySem.W.mroIn K D (.type "object") = some true)))))))
theorem exc_bk {K : PySem.W.Frag} {D : Addr} (h : exc_b K D = true) : ExcC K D := by
  obtain ⟨h1, h⟩ := He.ba h
  obtain ⟨h2, h⟩ := He.ba h
  obtain ⟨h3, h⟩ := He.ba h
  obtain ⟨h4, h⟩ := He.ba h
  obtain ⟨h5, h⟩ := He.ba h
  obtain ⟨h6, h⟩ := He.ba h
  obtain ⟨h7, h8⟩ := He.ba h
  exact ⟨He.eqO_ok h1, He.eqO_ok h2, of_decide_eq_true h3, h4, He.eqO_ok h5, He.eqO_ok h6, of_decide_eq_true h7, of_decide_eq_true h8⟩
theorem all_at {l : List Bool} (h : l.all id = true) (i : Nat) {b : Bool} (e : l[i]? = some b) : b = true := List.all_eq_true.mp h b (List.mem_of_getElem? e)
/-- the def of that name stands there -/
abbrev FnA (K : PySem.W.Frag) (x : Str) (st : Stmt) (fd : FuncData) : Prop := FunD K x x (defArgs st) (defBody st) (defScope st) [] [] (He.ga K x) fd
def FnAt (K : PySem.W.Frag) (x : Str) (st : Stmt) : Prop := ∃ fd, FnA K x st fd
theorem fnat_eq {K : PySem.W.Frag} {x : Str} {st : Stmt} {fd fd2 : FuncData} (F : FnA K x st fd) (F2 : FnA K x st fd2) : fd = fd2 := by
  obtain ⟨oc, od, dV, kV, doc, pm, an, cdv, ct, osl, _, lk, _⟩ := F.ex
  obtain ⟨oc2, od2, dV2, kV2, doc2, pm2, an2, cdv2, ct2, osl2, _, lk2, _⟩ := F2.ex
  rw [lk] at lk2
  have e := Option.some.inj lk2
  injection e with e1 e2 e3 e4
  injection e3
/-- a def at a global's name keeps its promise and takes its arguments by place -/
def Okf (P : Program) (w : World) (K : PySem.W.Frag) (mg : Str → Option Value) (base : Heap) (CX : CXT) (k : Nat) (x : Str) (st : Stmt) (ps : List Str) (sp : Sp) : Prop :=
  ∃ fd, FnOk P w K mg base CX k (He.ga K x) fd ps sp ∧ Binds K fd ps [] ∧ FnA K x st fd
end Mx

set_option Elab.async false
set_option linter.all false
set_option maxRecDepth 100000
set_option maxHeartbeats 4000000
namespace K01
open PySem PySem.Spec PyProof.Rows L2 Evl Mx
def top (i : Nat) : Stmt := PySem.Challenge.pw_cairn_k01_field_arithmetic.main.body.getD i (.Pass ⟨0, 0, 0, 0⟩)
local macro_rules | `(tactic| walk_at "oct") => `(tactic| first | assumption | decide | omega | exact Gf.gm_lt _ _ | exact Gf.gi_lt _ | exact Gf.gp_lt _ _ | exact Gf.xor_lt (by walk_at "oct") (by walk_at "oct"))
local macro_rules | `(tactic| walk_at "sq") => `(tactic| first | assumption | exact sq_of (by assumption) | exact ex_l (by assumption) (by walk_at "sq"))
local macro_rules | `(tactic| walk_at "ev") => `(tactic| first
  | (with_reducible exact ev_c)
  | ((with_reducible apply ev_var); first | rfl | assumption)
  | ((with_reducible apply et_test); walk_at "ev")
  | ((with_reducible apply et_truI); walk_at "ev")
  | ((with_reducible apply et_B); walk_at "ev")
  | ((with_reducible apply et_not); walk_at "ev")
  | ((with_reducible apply et_and); walk_at "ev"; intro _; walk_at "ev")
  | ((with_reducible apply et_or); walk_at "ev"; intro _; walk_at "ev")
  | ((with_reducible apply ev_andV); walk_at "ev"; intro _; walk_at "ev")
  | ((with_reducible apply ev_orV); walk_at "ev"; intro _; walk_at "ev")
  | ((with_reducible apply ev_notV); walk_at "ev")
  | ((with_reducible apply ev_op); walk_at "ev"; walk_at "ev"; walk_at "rv")
  | ((with_reducible apply ev_un); walk_at "ev"; exact ru_neg)
  | (with_reducible exact ea_nil)
  | ((with_reducible apply ea_cons); walk_at "ev"; walk_at "ev")
  | ((with_reducible apply ev_int); walk_at "ev")
  | ((with_reducible apply ev_lenL); walk_at "ev"; walk_at "sq")
  | ((with_reducible apply ev_isEr); walk_at "ev"; walk_at "ev"; assumption)
  | ((with_reducible apply ev_isEt); walk_at "ev"; walk_at "ev"; assumption)
  | ((with_reducible apply ev_call); walk_at "ev"; walk_at "spv")
  | ((with_reducible apply el_call); walk_at "ev"; walk_at "spv"))
local macro_rules | `(tactic| walk_at "rv") => `(tactic| first
  | (with_reducible exact rv_xor)
  | (with_reducible exact rv_addN)
  | (with_reducible exact rv_and1)
  | (with_reducible exact rv_shr1)
  | (with_reducible exact rv_I0)
  | (with_reducible exact rv_eq rfl)
  | (with_reducible exact rv_ne rfl)
  | ((with_reducible apply rv_mod); first | decide | omega)
  | ((with_reducible apply rv_fdiv); first | decide | omega)
  | ((with_reducible apply rv_mulL); decide))
abbrev s_add : Stmt := top 9
abbrev N_add : List Str := ["a", "b"]
abbrev P_add : List Str := ["a", "b"]
theorem sc_add : FnScope N_add P_add (defScope s_add) := ⟨rfl, rfl, rfl, by decide +kernel, rfl, by decide +kernel, by decide +kernel⟩
abbrev s_mul : Stmt := top 10
abbrev N_mul : List Str := ["a", "b"]
abbrev P_mul : List Str := ["a", "b"]
theorem sc_mul : FnScope N_mul P_mul (defScope s_mul) := ⟨rfl, rfl, rfl, by decide +kernel, rfl, by decide +kernel, by decide +kernel⟩
abbrev s_inv : Stmt := top 11
abbrev N_inv : List Str := ["a"]
abbrev P_inv : List Str := ["a"]
theorem sc_inv : FnScope N_inv P_inv (defScope s_inv) := ⟨rfl, rfl, rfl, by decide +kernel, rfl, by decide +kernel, by decide +kernel⟩
abbrev s_div : Stmt := top 12
abbrev N_div : List Str := ["a", "b"]
abbrev P_div : List Str := ["a", "b"]
theorem sc_div : FnScope N_div P_div (defScope s_div) := ⟨rfl, rfl, rfl, by decide +kernel, rfl, by decide +kernel, by decide +kernel⟩
abbrev s_power : Stmt := top 13
abbrev N_power : List Str := ["a", "n"]
abbrev P_power : List Str := ["a", "n"]
theorem sc_power : FnScope N_power P_power (defScope s_power) := ⟨rfl, rfl, rfl, by decide +kernel, rfl, by decide +kernel, by decide +kernel⟩
abbrev s__law_is_integer : Stmt := top 15
abbrev N__law_is_integer : List Str := ["actual"]
abbrev P__law_is_integer : List Str := ["actual"]
theorem sc__law_is_integer : FnScope N__law_is_integer P__law_is_integer (defScope s__law_is_integer) := ⟨rfl, rfl, rfl, by decide +kernel, rfl, by decide +kernel, by decide +kernel⟩
abbrev s__law_cell : Stmt := top 16
abbrev N__law_cell : List Str := ["script", "k"]
abbrev P__law_cell : List Str := ["script", "k"]
theorem sc__law_cell : FnScope N__law_cell P__law_cell (defScope s__law_cell) := ⟨rfl, rfl, rfl, by decide +kernel, rfl, by decide +kernel, by decide +kernel⟩
abbrev s__law_mixed : Stmt := top 17
abbrev N__law_mixed : List Str := ["cell", "k", "first", "second"]
abbrev P__law_mixed : List Str := ["cell", "k"]
theorem sc__law_mixed : FnScope N__law_mixed P__law_mixed (defScope s__law_mixed) := ⟨rfl, rfl, rfl, by decide +kernel, rfl, by decide +kernel, by decide +kernel⟩
abbrev s__law_digits : Stmt := top 18
abbrev N__law_digits : List Str := ["cell", "count", "many", "digits", "k"]
abbrev P__law_digits : List Str := ["cell", "count", "many"]
theorem sc__law_digits : FnScope N__law_digits P__law_digits (defScope s__law_digits) := ⟨rfl, rfl, rfl, by decide +kernel, rfl, by decide +kernel, by decide +kernel⟩
abbrev s__law_mul : Stmt := top 19
abbrev N__law_mul : List Str := ["a", "b", "product", "k"]
abbrev P__law_mul : List Str := ["a", "b"]
theorem sc__law_mul : FnScope N__law_mul P__law_mul (defScope s__law_mul) := ⟨rfl, rfl, rfl, by decide +kernel, rfl, by decide +kernel, by decide +kernel⟩
abbrev s__law_refuses : Stmt := top 20
abbrev N__law_refuses : List Str := ["word", "a", "b", "e"]
abbrev P__law_refuses : List Str := ["word", "a", "b"]
theorem sc__law_refuses : FnScope N__law_refuses P__law_refuses (defScope s__law_refuses) := ⟨rfl, rfl, rfl, by decide +kernel, rfl, by decide +kernel, by decide +kernel⟩
abbrev s__law_power : Stmt := top 21
abbrev N__law_power : List Str := ["a", "n", "product", "k"]
abbrev P__law_power : List Str := ["a", "n"]
theorem sc__law_power : FnScope N__law_power P__law_power (defScope s__law_power) := ⟨rfl, rfl, rfl, by decide +kernel, rfl, by decide +kernel, by decide +kernel⟩
abbrev s_law : Stmt := top 22
abbrev N_law : List Str := ["script", "cell", "a", "b", "c", "choice", "n", "x", "y", "opposite", "quotient", "m"]
abbrev P_law : List Str := ["script"]
theorem sc_law : FnScope N_law P_law (defScope s_law) := ⟨rfl, rfl, rfl, by decide +kernel, rfl, by decide +kernel, by decide +kernel⟩
structure Txt (K : PySem.W.Frag) (mg : Str → Option Value) : Prop where
  F_add : FnAt K "add" s_add
  g_add : mg "add" = some (.ref (He.ga K "add"))
  p_add : PySem.W.keepIn K (.ref (He.ga K "add")) = true
  F_mul : FnAt K "mul" s_mul
  g_mul : mg "mul" = some (.ref (He.ga K "mul"))
  p_mul : PySem.W.keepIn K (.ref (He.ga K "mul")) = true
  F_inv : FnAt K "inv" s_inv
  g_inv : mg "inv" = some (.ref (He.ga K "inv"))
  p_inv : PySem.W.keepIn K (.ref (He.ga K "inv")) = true
  F_div : FnAt K "div" s_div
  g_div : mg "div" = some (.ref (He.ga K "div"))
  p_div : PySem.W.keepIn K (.ref (He.ga K "div")) = true
  F_power : FnAt K "power" s_power
  g_power : mg "power" = some (.ref (He.ga K "power"))
  p_power : PySem.W.keepIn K (.ref (He.ga K "power")) = true
  F__law_is_integer : FnAt K "_law_is_integer" s__law_is_integer
  g__law_is_integer : mg "_law_is_integer" = some (.ref (He.ga K "_law_is_integer"))
  p__law_is_integer : PySem.W.keepIn K (.ref (He.ga K "_law_is_integer")) = true
  F__law_cell : FnAt K "_law_cell" s__law_cell
  g__law_cell : mg "_law_cell" = some (.ref (He.ga K "_law_cell"))
  p__law_cell : PySem.W.keepIn K (.ref (He.ga K "_law_cell")) = true
  F__law_mixed : FnAt K "_law_mixed" s__law_mixed
  g__law_mixed : mg "_law_mixed" = some (.ref (He.ga K "_law_mixed"))
  p__law_mixed : PySem.W.keepIn K (.ref (He.ga K "_law_mixed")) = true
  F__law_digits : FnAt K "_law_digits" s__law_digits
  g__law_digits : mg "_law_digits" = some (.ref (He.ga K "_law_digits"))
  p__law_digits : PySem.W.keepIn K (.ref (He.ga K "_law_digits")) = true
  F__law_mul : FnAt K "_law_mul" s__law_mul
  g__law_mul : mg "_law_mul" = some (.ref (He.ga K "_law_mul"))
  p__law_mul : PySem.W.keepIn K (.ref (He.ga K "_law_mul")) = true
  F__law_refuses : FnAt K "_law_refuses" s__law_refuses
  g__law_refuses : mg "_law_refuses" = some (.ref (He.ga K "_law_refuses"))
  p__law_refuses : PySem.W.keepIn K (.ref (He.ga K "_law_refuses")) = true
  F__law_power : FnAt K "_law_power" s__law_power
  g__law_power : mg "_law_power" = some (.ref (He.ga K "_law_power"))
  p__law_power : PySem.W.keepIn K (.ref (He.ga K "_law_power")) = true
  F_law : FnAt K "law" s_law
  g_law : mg "law" = some (.ref (He.ga K "law"))
  p_law : PySem.W.keepIn K (.ref (He.ga K "law")) = true
  m_ValueError : mg "ValueError" = none
  m_bool : mg "bool" = none
  m_int : mg "int" = none
  m_isinstance : mg "isinstance" = none
  m_len : mg "len" = none
  m_range : mg "range" = none
  c_ORDER : mg "ORDER" = some (cst mg "ORDER")
  r_ORDER : RelV (.int 255) (cst mg "ORDER")
  c_LOGS : mg "LOGS" = some (.ref (He.ga K "LOGS"))
  r_LOGS : RelV (.ref (He.ga K "LOGS")) (.ref (He.ga K "LOGS"))
  t_LOGS : ∀ H : Hp, SqT K H (He.ga K "LOGS") (Gf.logL.map nV)
  c_POWERS : mg "POWERS" = some (.ref (He.ga K "POWERS"))
  r_POWERS : RelV (.ref (He.ga K "POWERS")) (.ref (He.ga K "POWERS"))
  t_POWERS : ∀ H : Hp, SqT K H (He.ga K "POWERS") (Gf.powL.map nV)
  c_CairnError : mg "CairnError" = some (.ref (He.ga K "CairnError"))
  r_CairnError : RelV (.ref (He.ga K "CairnError")) (.ref (He.ga K "CairnError"))
  x_CairnError : PySem.W.excIn K (He.ga K "CairnError") He.veBase "ValueError.__new__" = true
  k_CairnError : PySem.W.keepIn K (.ref (He.ga K "CairnError")) = true
  b_CairnError : PySem.W.subIn K (.ref (He.ga K "CairnError")) (.type "BaseException") = some true
  t_CairnError : PySem.W.typeIn K (.ref (He.ga K "CairnError")) = some (.type "type")
  c_ZeroElement : mg "ZeroElement" = some (.ref (He.ga K "ZeroElement"))
  r_ZeroElement : RelV (.ref (He.ga K "ZeroElement")) (.ref (He.ga K "ZeroElement"))
  x_ZeroElement : PySem.W.excIn K (He.ga K "ZeroElement") He.veBase "ValueError.__new__" = true
  k_ZeroElement : PySem.W.keepIn K (.ref (He.ga K "ZeroElement")) = true
  b_ZeroElement : PySem.W.subIn K (.ref (He.ga K "ZeroElement")) (.type "BaseException") = some true
  t_ZeroElement : PySem.W.typeIn K (.ref (He.ga K "ZeroElement")) = some (.type "type")
  c_DuplicatePoint : mg "DuplicatePoint" = some (.ref (He.ga K "DuplicatePoint"))
  r_DuplicatePoint : RelV (.ref (He.ga K "DuplicatePoint")) (.ref (He.ga K "DuplicatePoint"))
  x_DuplicatePoint : PySem.W.excIn K (He.ga K "DuplicatePoint") He.veBase "ValueError.__new__" = true
  k_DuplicatePoint : PySem.W.keepIn K (.ref (He.ga K "DuplicatePoint")) = true
  b_DuplicatePoint : PySem.W.subIn K (.ref (He.ga K "DuplicatePoint")) (.type "BaseException") = some true
  t_DuplicatePoint : PySem.W.typeIn K (.ref (He.ga K "DuplicatePoint")) = some (.type "type")
  c_ShapeMismatch : mg "ShapeMismatch" = some (.ref (He.ga K "ShapeMismatch"))
  r_ShapeMismatch : RelV (.ref (He.ga K "ShapeMismatch")) (.ref (He.ga K "ShapeMismatch"))
  x_ShapeMismatch : PySem.W.excIn K (He.ga K "ShapeMismatch") He.veBase "ValueError.__new__" = true
  k_ShapeMismatch : PySem.W.keepIn K (.ref (He.ga K "ShapeMismatch")) = true
  b_ShapeMismatch : PySem.W.subIn K (.ref (He.ga K "ShapeMismatch")) (.type "BaseException") = some true
  t_ShapeMismatch : PySem.W.typeIn K (.ref (He.ga K "ShapeMismatch")) = some (.type "type")
  ec_ZeroElement : ExcC K (He.ga K "ZeroElement")
  iv_ZeroElement : PySem.W.kitOne K (.ref (He.ga K "ZeroElement")) (.type "ValueError") = some true
  is_ZeroElement_DuplicatePoint : PySem.W.kitOne K (.ref (He.ga K "ZeroElement")) (.ref (He.ga K "DuplicatePoint")) = some false
  is_ZeroElement_ShapeMismatch : PySem.W.kitOne K (.ref (He.ga K "ZeroElement")) (.ref (He.ga K "ShapeMismatch")) = some false
  is_ZeroElement_ZeroElement : PySem.W.kitOne K (.ref (He.ga K "ZeroElement")) (.ref (He.ga K "ZeroElement")) = some true
  ex_ZeroElement_CairnError : PySem.W.exmOne K (.ref (He.ga K "ZeroElement")) (.ref (He.ga K "CairnError")) = some true
section
variable {P : Program} {w : World} {K : PySem.W.Frag} {mg : Str → Option Value} {base : Heap}
/-- add(a, b): the bits that differ -/
def sp_add : Sp := fun vs H Q _ => ∃ (a b : Nat), vs = [.int (a : Int), .int (b : Int)] ∧ RetV (.int ((a ^^^ b : Nat) : Int)) H Q
theorem spv_add {a b : Nat} {H : Hp} : SpV sp_add ([.int (a : Int), .int (b : Int)] ++ []) H (.int ((a ^^^ b : Nat) : Int)) := fun H1 e Q q E => ⟨a, b, rfl, q⟩
local macro_rules | `(tactic| walk_at "spv") => `(tactic| with_reducible exact spv_add)
theorem ok_add (T : Txt K mg) : Okf P w K mg base CX0 1 "add" s_add P_add sp_add := by
  obtain ⟨fd, F⟩ := T.F_add
  refine ⟨fd, F.ok sc_add (fun vs H Q E h => ?_) (fun cdv A outer s H vs Q E hr h => ?_), F.bindsN fun _ _ _ _ _ _ us hl => match us, hl with | [_, _], _ => rfl, F⟩
  · obtain ⟨a, b, rfl, k⟩ := h
    rfl
  · obtain ⟨a, b, rfl, k⟩ := h
    refine ⟨_, PSs.nox (pss_one (ps_ret (pe_op op_xor (pv 0) (pv 1)))), ?_⟩
    refine s_ret ?_ k
    walk_at "ev"
/-- mul(a, b): by the tables -/
def sp_mul : Sp := fun vs H Q _ => ∃ (a b : Nat), vs = [.int (a : Int), .int (b : Int)] ∧ a < 256 ∧ b < 256 ∧ RetV (.int ((Gf.gm a b : Nat) : Int)) H Q
theorem spv_mul {a b : Nat} {H : Hp} (ha : a < 256) (hb : b < 256) : SpV sp_mul ([.int (a : Int), .int (b : Int)] ++ []) H (.int ((Gf.gm a b : Nat) : Int)) := fun H1 e Q q E => ⟨a, b, rfl, ha, hb, q⟩
local macro_rules | `(tactic| walk_at "spv") => `(tactic| first | ((with_reducible apply spv_mul) <;> walk_at "oct") | (apply spv_mul <;> walk_at "oct"))
theorem ok_mul (T : Txt K mg) : Okf P w K mg base CX0 1 "mul" s_mul P_mul sp_mul := by
  obtain ⟨fd, F⟩ := T.F_mul
  refine ⟨fd, F.ok sc_mul (fun vs H Q E h => ?_) (fun cdv A outer s H vs Q E hr h => ?_), F.bindsN fun _ _ _ _ _ _ us hl => match us, hl with | [_, _], _ => rfl, F⟩
  · obtain ⟨a, b, rfl, ha, hb, k⟩ := h
    rfl
  · obtain ⟨a, b, rfl, ha, hb, k⟩ := h
    refine ⟨_, PSs.nox (pss_cons (ps_if (PW.pt (pw_or (pt_cmpR op_eq (pv 0) pe_int (nomark _)) (pw_or1 (pt_cmpR op_eq (pv 1) pe_int (nomark _))))) (pss_one (ps_ret pe_int)) pss_nil)
(pss_one (ps_ret (pe_ix ix_tup (pe_glob rfl T.c_POWERS T.r_POWERS) (pe_op op_mod (pe_op op_add (pe_ix ix_tup (pe_glob rfl T.c_LOGS T.r_LOGS) (pv 0) (fun _ _ => rfl)) (pe_ix ix_tup (pe_glob rfl T.c_LOGS T.r_LOGS) (pv 1) (fun _ _ => rfl))) (pe_glob rfl T.c_ORDER T.r_ORDER)) (fun _ _ => rfl))))), ?_⟩
    refine q_when (by walk_at "ev") (fun h0 H1 e1 => ?_) (fun h0 H1 e1 => ?_)
    · refine s_ret ev_c fun H2 e2 => ?_
      have z : Gf.gm a b = 0 := Gf.gm_zero (by simpa using h0)
      rw [z] at k
      exact k H2 (e1.trans e2)
    · have z : ¬ a = 0 ∧ ¬ b = 0 := by simpa using h0
      refine s_ret (v := .int ((Gf.gm a b : Nat) : Int)) ?_ fun H2 e2 => k H2 (e1.trans e2)
      rw [Gf.gm_pos z.1 z.2]
      exact ev_op ev_c (ev_op (ev_op (ev_op ev_c (ev_var rfl) (rv_ixTN (T.t_LOGS _) (log_at ha))) (ev_op ev_c (ev_var rfl) (rv_ixTN (T.t_LOGS _) (log_at hb))) rv_addN) ev_c (rv_modN (by decide))) (rv_ixTN (T.t_POWERS _) (pow_at (Nat.mod_lt _ (by decide))))
/-- inv(a): by the tables; 0 has none -/
def sp_inv (K : PySem.W.Frag) : Sp := fun vs H Q E => ∃ (a : Nat), vs = [.int (a : Int)] ∧ a < 256 ∧ (a = 0 → ∀ H', Ex H H' → E (.ref (He.ga K "ZeroElement")) none H') ∧ (¬ a = 0 → RetV (.int ((Gf.gi a : Nat) : Int)) H Q)
theorem spv_inv {K : PySem.W.Frag} {a : Nat} {H : Hp} (ha : a < 256) (h0 : ¬ a = 0) : SpV (sp_inv K) ([.int (a : Int)] ++ []) H (.int ((Gf.gi a : Nat) : Int)) := fun H1 e Q q E => ⟨a, rfl, ha, fun z => absurd z h0, fun _ => q⟩
local macro_rules | `(tactic| walk_at "spv") => `(tactic| first | ((with_reducible apply spv_inv) <;> walk_at "oct") | (apply spv_inv <;> walk_at "oct"))
theorem ok_inv (T : Txt K mg) : Okf P w K mg base (L2.CX P w) 1 "inv" s_inv P_inv (sp_inv K) := by
  obtain ⟨fd, F⟩ := T.F_inv
  refine ⟨fd, F.ok sc_inv (fun vs H Q E h => ?_) (fun cdv A outer s H vs Q E hr h => ?_), F.bindsN fun _ _ _ _ _ _ us hl => match us, hl with | [_], _ => rfl, F⟩
  · obtain ⟨a, rfl, ha, kE, k⟩ := h
    rfl
  · obtain ⟨a, rfl, ha, kE, k⟩ := h
    refine ⟨_, (pss_cons (ps_if (pt_cmpR op_eq (pv 0) pe_int (nomark _)) (pss_one (ps_raise rfl (takes_of rfl rfl rfl rfl) (pmk_own PySem.F.excBase_ValueError T.x_ZeroElement T.c_ZeroElement T.k_ZeroElement (raises_own T.b_ZeroElement T.t_ZeroElement) (by exact rfl)))) pss_nil)
(pss_one (ps_ret (pe_ix ix_tup (pe_glob rfl T.c_POWERS T.r_POWERS) (pe_op op_mod (pe_op op_sub (pe_glob rfl T.c_ORDER T.r_ORDER) (pe_ix ix_tup (pe_glob rfl T.c_LOGS T.r_LOGS) (pv 0) (fun _ _ => rfl))) (pe_glob rfl T.c_ORDER T.r_ORDER)) (fun _ _ => rfl))))), ?_⟩
    refine q_when (by walk_at "ev") (fun h0 H1 e1 => ?_) (fun h0 H1 e1 => ?_)
    · have z : a = 0 := by simpa using h0
      exact kE z H1 e1
    · have z : ¬ a = 0 := by simpa using h0
      refine s_ret ?_ fun H2 e2 => k z H2 (e1.trans e2)
      exact ev_op ev_c (ev_op (ev_op ev_c (ev_op ev_c (ev_var rfl) (rv_ixTN (T.t_LOGS _) (log_at ha))) (rv_subN (a := 255) (b := Gf.lg a) (by have := Gf.lg_lt ha; omega))) ev_c (rv_modN (by decide))) (rv_ixTN (T.t_POWERS _) (pow_at (Nat.mod_lt _ (by decide))))
/-- power(a, n) -/
def sp_power : Sp := fun vs H Q _ => ∃ (a n : Nat), vs = [.int (a : Int), .int (n : Int)] ∧ a < 256 ∧ RetV (.int ((Gf.gp a n : Nat) : Int)) H Q
theorem spv_power {a n : Nat} {H : Hp} (ha : a < 256) : SpV sp_power ([.int (a : Int), .int (n : Int)] ++ []) H (.int ((Gf.gp a n : Nat) : Int)) := fun H1 e Q q E => ⟨a, n, rfl, ha, q⟩
local macro_rules | `(tactic| walk_at "spv") => `(tactic| first | ((with_reducible apply spv_power) <;> walk_at "oct") | (apply spv_power <;> walk_at "oct"))
theorem ok_power (T : Txt K mg) : Okf P w K mg base CX0 1 "power" s_power P_power sp_power := by
  obtain ⟨fd, F⟩ := T.F_power
  refine ⟨fd, F.ok sc_power (fun vs H Q E h => ?_) (fun cdv A outer s H vs Q E hr h => ?_), F.bindsN fun _ _ _ _ _ _ us hl => match us, hl with | [_, _], _ => rfl, F⟩
  · obtain ⟨a, n, rfl, ha, k⟩ := h
    rfl
  · obtain ⟨a, n, rfl, ha, k⟩ := h
    refine ⟨_, PSs.nox (pss_cons (ps_if (pt_cmpR op_eq (pv 1) pe_int (nomark _)) (pss_one (ps_ret pe_int)) pss_nil)
(pss_cons (ps_if (pt_cmpR op_eq (pv 0) pe_int (nomark _)) (pss_one (ps_ret pe_int)) pss_nil)
(pss_one (ps_ret (pe_ix ix_tup (pe_glob rfl T.c_POWERS T.r_POWERS) (pe_op op_mod (pe_op op_mul (pe_ix ix_tup (pe_glob rfl T.c_LOGS T.r_LOGS) (pv 0) (fun _ _ => rfl)) (pv 1)) (pe_glob rfl T.c_ORDER T.r_ORDER)) (fun _ _ => rfl)))))), ?_⟩
    refine q_when (by walk_at "ev") (fun h0 H1 e1 => ?_) (fun h0 H1 e1 => ?_)
    · refine s_ret ev_c fun H2 e2 => ?_
      have z : n = 0 := by simpa using h0
      rw [z, Gf.gp_none] at k
      exact k H2 (e1.trans e2)
    · have z : ¬ n = 0 := by simpa using h0
      refine q_when (by walk_at "ev") (fun h1 H2 e2 => ?_) (fun h1 H2 e2 => ?_)
      · refine s_ret ev_c fun H3 e3 => ?_
        have z1 : a = 0 := by simpa using h1
        rw [z1, Gf.gp_zero z] at k
        exact k H3 ((e1.trans e2).trans e3)
      · have z1 : ¬ a = 0 := by simpa using h1
        refine s_ret (v := .int ((Gf.gp a n : Nat) : Int)) ?_ fun H3 e3 => k H3 ((e1.trans e2).trans e3)
        rw [Gf.gp_pos z1 z]
        exact ev_op ev_c (ev_op (ev_op (ev_op ev_c (ev_var rfl) (rv_ixTN (T.t_LOGS _) (log_at ha))) (ev_var rfl) (rv_mulN (Nat.lt_of_lt_of_le (Gf.lg_lt ha) (by decide)))) ev_c (rv_modN (by decide))) (rv_ixTN (T.t_POWERS _) (pow_at (Nat.mod_lt _ (by decide))))
def sp__law_is_integer : Sp := fun vs H Q _ => ∃ (i : Int), vs = [.int i] ∧ RetV (.bl true) H Q
theorem spv__law_is_integer {i : Int} {H : Hp} : SpV sp__law_is_integer ([.int i] ++ []) H (.bl true) := fun H1 e Q q E => ⟨i, rfl, q⟩
local macro_rules | `(tactic| walk_at "spv") => `(tactic| with_reducible exact spv__law_is_integer)
theorem ok__law_is_integer (T : Txt K mg) : Okf P w K mg base CX0 1 "_law_is_integer" s__law_is_integer P__law_is_integer sp__law_is_integer := by
  obtain ⟨fd, F⟩ := T.F__law_is_integer
  refine ⟨fd, F.ok sc__law_is_integer (fun vs H Q E h => ?_) (fun cdv A outer s H vs Q E hr h => ?_), F.bindsN fun _ _ _ _ _ _ us hl => match us, hl with | [_], _ => rfl, F⟩
  · obtain ⟨i, rfl, k⟩ := h
    rfl
  · obtain ⟨i, rfl, k⟩ := h
    refine ⟨_, PSs.nox (pss_one (ps_ret (pe_and (pe_callB call_isi (by rfl) T.m_isinstance (by decide +kernel) (pa_cons (pv 0) (pa_cons (pe_bltn (v := .ty "int") (by rfl) T.m_int (by decide +kernel) rfl) pa_nil))) (pe_one (pe_not (pe_callB call_isi (by rfl) T.m_isinstance (by decide +kernel) (pa_cons (pv 0) (pa_cons (pe_bltn (v := .ty "bool") (by rfl) T.m_bool (by decide +kernel) rfl) pa_nil)))))))), ?_⟩
    refine s_ret (v := .bl (true && !false)) ?_ k
    exact ev_andV (ev_isiI (ev_var rfl) ev_c (by decide +kernel)) fun _ => ev_notV (ev_isiI (ev_var rfl) ev_c (by decide +kernel))
def sp__law_cell (K : PySem.W.Frag) : Sp := fun vs H Q _ => ∃ (a : Addr) (ns : List Int) (k : Nat), vs = [.ref a, .int (k : Int)] ∧ SqL K H a (ns.map V.int) ∧ RetV (.int (ns.getD k 0)) H Q
theorem spv__law_cell {K : PySem.W.Frag} {a : Addr} {ns : List Int} {k : Nat} {H : Hp} (h : SqL K H a (ns.map V.int)) : SpV (sp__law_cell K) ([.ref a, .int (k : Int)] ++ []) H (.int (ns.getD k 0)) := fun H1 e Q q E => ⟨a, ns, k, rfl, ex_l e h, q⟩
local macro_rules | `(tactic| walk_at "spv") => `(tactic| first | ((with_reducible apply spv__law_cell); walk_at "sq") | (apply spv__law_cell; walk_at "sq"))
theorem ok__law_cell (T : Txt K mg) : Okf P w K mg base CX0 1 "_law_cell" s__law_cell P__law_cell (sp__law_cell K) := by
  obtain ⟨fd, F⟩ := T.F__law_cell
  refine ⟨fd, F.ok sc__law_cell (fun vs H Q E h => ?_) (fun cdv A outer s H vs Q E hr h => ?_), F.bindsN fun _ _ _ _ _ _ us hl => match us, hl with | [_, _], _ => rfl, F⟩
  · obtain ⟨a, ns, i, rfl, hS, k⟩ := h
    rfl
  · obtain ⟨a, ns, i, rfl, hS, k⟩ := h
    refine ⟨_, PSs.nox (pss_cons (ps_if (pt_cmpR op_lt (pv 1) (pe_callB call_len_seq (by rfl) T.m_len (by decide +kernel) (pa_cons (pv 0) pa_nil)) (nomark _)) (pss_one (ps_ret (pe_ix ix_list (pv 0) (pv 1) (fun _ _ => rfl)))) pss_nil)
(pss_one (ps_ret pe_int))), ?_⟩
    refine q_when (b := decide ((i : Int) < ((ns.map V.int).length : Int))) ?_ (fun h0 H1 e1 => ?_) (fun h0 H1 e1 => ?_)
    · exact et_test (ev_op (ev_var rfl) (ev_lenL (ev_var rfl) hS) rv_I0)
    · have z : i < ns.length := by
        have z2 := of_decide_eq_true h0
        rw [List.length_map] at z2
        omega
      refine s_ret (v := .int (ns.getD i 0)) ?_ fun H2 e2 => k H2 (e1.trans e2)
      refine ev_op (ev_var rfl) (ev_var rfl) (rv_ixL (ex_l e1 hS) (atI_nat ?_))
      rw [List.getElem?_map, List.getElem?_eq_getElem z, List.getD_eq_getElem?_getD, List.getElem?_eq_getElem z]
      rfl
    · have z : ¬ i < ns.length := by
        have z2 := of_decide_eq_false h0
        rw [List.length_map] at z2
        omega
      refine s_ret (v := .int (ns.getD i 0)) ?_ fun H2 e2 => k H2 (e1.trans e2)
      rw [List.getD_eq_getElem?_getD, List.getElem?_eq_none (by omega)]
      exact ev_c
def sp__law_mixed : Sp := fun vs H Q _ => ∃ (c k : Int), vs = [.int c, .int k] ∧ RetV (.int (Gf.mixed c k)) H Q
theorem spv__law_mixed {c k : Int} {H : Hp} : SpV sp__law_mixed ([.int c, .int k] ++ []) H (.int (Gf.mixed c k)) := fun H1 e Q q E => ⟨c, k, rfl, q⟩
local macro_rules | `(tactic| walk_at "spv") => `(tactic| with_reducible exact spv__law_mixed)
theorem ok__law_mixed (T : Txt K mg) : Okf P w K mg base CX0 1 "_law_mixed" s__law_mixed P__law_mixed sp__law_mixed := by
  obtain ⟨fd, F⟩ := T.F__law_mixed
  refine ⟨fd, F.ok sc__law_mixed (fun vs H Q E h => ?_) (fun cdv A outer s H vs Q E hr h => ?_), F.bindsN fun _ _ _ _ _ _ us hl => match us, hl with | [_, _], _ => rfl, F⟩
  · obtain ⟨c, i, rfl, k⟩ := h
    rfl
  · obtain ⟨c, i, rfl, k⟩ := h
    refine ⟨_, PSs.nox (pss_cons (ps_set (i := 2) sc__law_mixed.nd rfl (Or.inl rfl) (pe_op op_mod (pe_callTy call_int1 (by rfl) T.m_int (by decide +kernel) (pa_cons (pe_op op_add (pe_op op_add (pe_op op_mul (pe_callTy call_int1 (by rfl) T.m_int (by decide +kernel) (pa_cons (pv 0) pa_nil)) pe_int) (pe_op op_mul (pv 1) pe_int)) pe_int) pa_nil)) pe_int))
(pss_cons (ps_set (i := 3) sc__law_mixed.nd rfl (Or.inl rfl) (pe_op op_mod (pe_callTy call_int1 (by rfl) T.m_int (by decide +kernel) (pa_cons (pe_op op_add (pe_op op_add (pe_op op_mul (pv 2) pe_int) (pe_op op_mul (pe_op op_add (pv 1) pe_int) pe_int)) pe_int) pa_nil)) pe_int))
(pss_one (ps_ret (pe_op op_fdiv (pv 3) pe_int))))), ?_⟩
    refine q_asg (by walk_at "ev") fun H1 e1 => ?_
    refine q_asg (by walk_at "ev") fun H2 e2 => ?_
    refine s_ret (by walk_at "ev") fun H3 e3 => ?_
    exact k H3 ((e1.trans e2).trans e3)
def sp__law_mul : Sp := fun vs H Q _ => ∃ (a b : Nat), vs = [.int (a : Int), .int (b : Int)] ∧ a < 256 ∧ b < 256 ∧ RetV (.int ((Gf.gm a b : Nat) : Int)) H Q
theorem spv__law_mul {a b : Nat} {H : Hp} (ha : a < 256) (hb : b < 256) : SpV sp__law_mul ([.int (a : Int), .int (b : Int)] ++ []) H (.int ((Gf.gm a b : Nat) : Int)) := fun H1 e Q q E => ⟨a, b, rfl, ha, hb, q⟩
local macro_rules | `(tactic| walk_at "spv") => `(tactic| first | ((with_reducible apply spv__law_mul) <;> walk_at "oct") | (apply spv__law_mul <;> walk_at "oct"))
theorem ok__law_mul (T : Txt K mg) : Okf P w K mg base CX0 1 "_law_mul" s__law_mul P__law_mul sp__law_mul := by
  obtain ⟨fd, F⟩ := T.F__law_mul
  refine ⟨fd, F.ok sc__law_mul (fun vs H Q E h => ?_) (fun cdv A outer s H vs Q E hr h => ?_), F.bindsN fun _ _ _ _ _ _ us hl => match us, hl with | [_, _], _ => rfl, F⟩
  · obtain ⟨a, b, rfl, ha, hb, k⟩ := h
    rfl
  · obtain ⟨a, b, rfl, ha, hb, k⟩ := h
    refine ⟨_, PSs.nox (pss_cons (ps_set (i := 2) sc__law_mul.nd rfl (Or.inl rfl) pe_int)
(pss_cons (ps_for PassesOwn.never rfl (pi_range1 rfl T.m_range (pa_cons pe_int pa_nil)) (pg_name (i := 3) sc__law_mul.nd rfl (Or.inl rfl)) (pss_cons (ps_if (pt_truth (pe_op op_and (pv 1) pe_int) (by intro _; rfl)) (pss_one (ps_set (i := 2) sc__law_mul.nd rfl (Or.inl rfl) (pe_op op_xor (pv 2) (pv 0)))) pss_nil)
(pss_cons (ps_set (i := 1) sc__law_mul.nd rfl (Or.inl rfl) (pe_op op_shr (pv 1) pe_int))
(pss_cons (ps_set (i := 0) sc__law_mul.nd rfl (Or.inl rfl) (pe_op op_shl (pv 0) pe_int))
(pss_one (ps_if (pt_cmpR op_gt (pv 0) pe_int (nomark _)) (pss_one (ps_set (i := 0) sc__law_mul.nd rfl (Or.inl rfl) (pe_op op_xor (pv 0) pe_int))) pss_nil))))))
(pss_one (ps_ret (pv 2))))), ?_⟩
    refine q_asg ev_c fun H1 e1 => ?_
    refine q_forR1 (ea_cons ev_c ea_nil) (by decide) (fun i s H' => ∃ v, s = [some (.int (((Gf.pn8 i (0, a, b)).2.1 : Nat) : Int)), some (.int (((Gf.pn8 i (0, a, b)).2.2 : Nat) : Int)), some (.int (((Gf.pn8 i (0, a, b)).1 : Nat) : Int)), v] ∧ Ex H H') ?_ ?_ ?_
    · exact fun H2 e2 => ⟨none, rfl, e1.trans e2⟩
    · rintro i s H' hi ⟨v, rfl, e⟩
      have hz : (Gf.pn8 i (0, a, b)).2.1 < 256 := Gf.pn8_lt ha i
      have st : Gf.pn8 (i + 1) (0, a, b) = Gf.ps (Gf.pn8 i (0, a, b)) := rfl
      rw [st]
      generalize Gf.pn8 i (0, a, b) = z at hz ⊢
      obtain ⟨p, x, y⟩ := z
      have hx : x < 256 := hz
      refine q_ifAsg (v := .int (((if y % 2 = 0 then p else p ^^^ x : Nat) : Nat) : Int)) (et_truI (ev_op (ev_var rfl) ev_c rv_and1)) (fun hb => ?_) (fun hb => ?_) fun H1 e1 => ?_
      · have q : ¬ y % 2 = 0 := by
          intro q
          rw [q] at hb
          exact absurd hb (by decide)
        rw [if_neg q]
        walk_at "ev"
      · have q : y % 2 = 0 := by
          have q2 : ((y % 2 : Nat) : Int) = 0 := by simpa using hb
          omega
        rw [if_pos q]
        rfl
      refine q_asg (v := .int ((y / 2 : Nat) : Int)) (ev_op (ev_var rfl) ev_c rv_shr1) fun H2 e2 => ?_
      refine q_asg (v := .int ((x * 2 : Nat) : Int)) (ev_op (ev_var rfl) ev_c (rv_shl1 (by omega))) fun H3 e3 => ?_
      refine s_ifAsg (v := .int ((Gf.xt x : Nat) : Int)) (by walk_at "ev") (fun hb => ?_) (fun hb => ?_) fun H4 e4 => ?_
      · have q : x * 2 > 255 := by
          have q2 := of_decide_eq_true hb
          omega
        unfold Gf.xt
        rw [if_pos q]
        exact ev_op (ev_var rfl) ev_c (rv_xor (b := 285))
      · have q : ¬ x * 2 > 255 := by
          have q2 := of_decide_eq_false hb
          omega
        unfold Gf.xt
        rw [if_neg q]
        rfl
      exact ⟨_, rfl, (((e.trans e1).trans e2).trans e3).trans e4⟩
    · rintro s H' ⟨v, rfl, e⟩
      refine s_ret (ev_var rfl) fun H2 e2 => ?_
      have z := k H2 (e.trans e2)
      rw [← Gf.pm_eq ha hb] at z
      exact z
/-- div(a, b): a times the inverse of b -/
def sp_div (K : PySem.W.Frag) : Sp := fun vs H Q E => ∃ (a b : Nat), vs = [.int (a : Int), .int (b : Int)] ∧ a < 256 ∧ b < 256 ∧ (b = 0 → ∀ H', Ex H H' → E (.ref (He.ga K "ZeroElement")) none H') ∧ (¬ b = 0 → RetV (.int ((Gf.gm a (Gf.gi b) : Nat) : Int)) H Q)
theorem spv_div {K : PySem.W.Frag} {a b : Nat} {H : Hp} (ha : a < 256) (hb : b < 256) (h0 : ¬ b = 0) : SpV (sp_div K) ([.int (a : Int), .int (b : Int)] ++ []) H (.int ((Gf.gm a (Gf.gi b) : Nat) : Int)) := fun H1 e Q q E => ⟨a, b, rfl, ha, hb, fun z => absurd z h0, fun _ => q⟩
local macro_rules | `(tactic| walk_at "spv") => `(tactic| first | ((with_reducible apply spv_div) <;> walk_at "oct") | (apply spv_div <;> walk_at "oct"))
theorem ok_div (T : Txt K mg) : Okf P w K mg base (L2.CX P w) 2 "div" s_div P_div (sp_div K) := by
  obtain ⟨fd_inv, G_inv, B_inv, _⟩ := ok_inv (P := P) (w := w) (base := base) T
  obtain ⟨fd_mul, G_mul, B_mul, _⟩ := ok_mul (P := P) (w := w) (base := base) T
  obtain ⟨fd, F⟩ := T.F_div
  refine ⟨fd, F.ok sc_div (fun vs H Q E h => ?_) (fun cdv A outer s H vs Q E hr h => ?_), F.bindsN fun _ _ _ _ _ _ us hl => match us, hl with | [_, _], _ => rfl, F⟩
  · obtain ⟨a, b, rfl, ha, hb, kE, k⟩ := h
    rfl
  · obtain ⟨a, b, rfl, ha, hb, kE, k⟩ := h
    refine ⟨_, (pss_one (ps_ret (pe_call G_mul (hr.mono (by decide)) rfl T.g_mul T.p_mul B_mul .nil pass0 (pa_cons (pv 0) (pa_cons (pe_call G_inv (hr.mono (by decide)) rfl T.g_inv T.p_inv B_inv .nil (passes_call (takes_of rfl rfl rfl rfl) (fun _ _ _ _ h => h)) (pa_cons (pv 1) pa_nil)) pa_nil))))), ?_⟩
    by_cases z : b = 0
    · exact ⟨_, rfl, _, rfl, b, rfl, hb, fun _ => kE z, fun q => absurd z q⟩
    · refine s_ret ?_ (k z)
      walk_at "ev"
def sp__law_digits : Sp := fun vs H Q _ => ∃ (c : Int) (n m : Nat), vs = [.int c, .int (n : Int), .int (m : Int)] ∧ n ≤ 90000 ∧ 0 < m ∧ m < 1000000000 ∧ RetL ((Gf.digits c n m).map nV) H Q
theorem spl__law_digits {c : Int} {n m : Nat} {H : Hp} (hn : n ≤ 90000) (h0 : 0 < m) (h1 : m < 1000000000) : SpL sp__law_digits ([.int c, .int (n : Int), .int (m : Int)] ++ []) H ((Gf.digits c n m).map nV) := fun H1 e Q q E => ⟨c, n, m, rfl, hn, h0, h1, q⟩
local macro_rules | `(tactic| walk_at "spv") => `(tactic| first | ((with_reducible apply spl__law_digits) <;> walk_at "oct") | (apply spl__law_digits <;> walk_at "oct"))
theorem ok__law_digits (T : Txt K mg) : Okf P w K mg base CX0 2 "_law_digits" s__law_digits P__law_digits sp__law_digits := by
  obtain ⟨fd__law_mixed, G__law_mixed, B__law_mixed, _⟩ := ok__law_mixed (P := P) (w := w) (base := base) T
  obtain ⟨fd, F⟩ := T.F__law_digits
  refine ⟨fd, F.ok sc__law_digits (fun vs H Q E h => ?_) (fun cdv A outer s H vs Q E hr h => ?_), F.bindsN fun _ _ _ _ _ _ us hl => match us, hl with | [_, _, _], _ => rfl, F⟩
  · obtain ⟨c, n, m, rfl, hn, h0, h1, k⟩ := h
    rfl
  · obtain ⟨c, n, m, rfl, hn, h0, h1, k⟩ := h
    refine ⟨_, PSs.nox (pss_cons (ps_set (i := 3) sc__law_digits.nd rfl (Or.inl rfl) (pe_lst pa_nil))
(pss_cons (ps_if (pt_cmpR op_lt (pv 0) (pe_op op_pow pe_int pe_int) (nomark _)) (pss_cons (ps_for PassesOwn.never rfl (pi_range1 rfl T.m_range (pa_cons (pv 1) pa_nil)) (pg_name (i := 4) sc__law_digits.nd rfl (Or.inl rfl)) (pss_one (ps_expr (pe_bm PySem.F.plainAttrs_list PySem.F.slot_list_append PySem.F.type_list_append mt_append (pv 3) (pa_cons (pe_op op_mod (pe_callTy call_int1 (by rfl) T.m_int (by decide +kernel) (pa_cons (pe_call G__law_mixed (hr.mono (by decide)) rfl T.g__law_mixed T.p__law_mixed B__law_mixed .nil pass0 (pa_cons (pv 0) (pa_cons (pv 4) pa_nil))) pa_nil)) (pv 2)) pa_nil)))))
(pss_one (ps_ret (pv 3)))) pss_nil)
(pss_cons (ps_for PassesOwn.never rfl (pi_range1 rfl T.m_range (pa_cons (pv 1) pa_nil)) (pg_name (i := 4) sc__law_digits.nd rfl (Or.inl rfl)) (pss_cons (ps_expr (pe_bm PySem.F.plainAttrs_list PySem.F.slot_list_append PySem.F.type_list_append mt_append (pv 3) (pa_cons (pe_op op_mod (pe_callTy call_int1 (by rfl) T.m_int (by decide +kernel) (pa_cons (pv 0) pa_nil)) (pv 2)) pa_nil)))
(pss_one (ps_set (i := 0) sc__law_digits.nd rfl (Or.inl rfl) (pe_op op_fdiv (pv 0) (pv 2))))))
(pss_one (ps_ret (pv 3)))))), ?_⟩
    refine q_asgL (el_lst ea_nil (by decide)) fun p H1 np e1 hp => ?_
    refine q_when (b := decide (c < 10 ^ 18)) (et_test (ev_op (ev_var rfl) (ev_op ev_c ev_c (rv_I ⟨by decide, by decide, by decide⟩)) rv_I0)) (fun hc H2 e2 => ?_) (fun hc H2 e2 => ?_)
    · have hc' := of_decide_eq_true hc
      refine q_forR1 (ea_cons (ev_var rfl) ea_nil) (by omega) (fun i s H' => ∃ v, s = [some (.int c), some (.int (n : Int)), some (.int (m : Int)), some (.ref p), v] ∧ Ex H H' ∧ H' p = some (.lst (((List.range i).map fun j => Gf.mixd c m j).map nV))) ?_ ?_ ?_
      · exact fun H3 e3 => ⟨none, rfl, (e1.trans e2).trans e3, e3 _ _ (e2 _ _ hp)⟩
      · rintro i s H' hi ⟨v, rfl, e, hl⟩
        refine s_app hl (ev_var rfl) (by walk_at "ev") (by rw [List.length_map, List.length_map, List.length_range]; omega) fun H3 e3 => ?_
        refine ⟨_, rfl, Ex.mut (e.trans e3) np, ?_⟩
        rw [upd_same, List.range_succ, List.map_append, List.map_append]
        simp only [List.map_cons, List.map_nil, nV, Gf.mixd_eq h0]
      · rintro s H' ⟨v, rfl, e, hl⟩
        refine s_ret (ev_var rfl) fun H3 e3 => k p H3 np (e.trans e3) ?_
        rw [e3 _ _ hl, Gf.digits_low hc', Int.toNat_natCast]
    · have hc' := of_decide_eq_false hc
      refine q_forR1 (ea_cons (ev_var rfl) ea_nil) (by omega) (fun i s H' => ∃ v, s = [some (.int (Gf.divn m i c)), some (.int (n : Int)), some (.int (m : Int)), some (.ref p), v] ∧ Ex H H' ∧ H' p = some (.lst (((List.range i).map fun j => Gf.digd c m j).map nV))) ?_ ?_ ?_
      · exact fun H3 e3 => ⟨none, rfl, (e1.trans e2).trans e3, e3 _ _ (e2 _ _ hp)⟩
      · rintro i s H' hi ⟨v, rfl, e, hl⟩
        refine q_app hl (ev_var rfl) (by walk_at "ev") (by rw [List.length_map, List.length_map, List.length_range]; omega) fun H3 e3 => ?_
        refine s_asg (by walk_at "ev") fun H4 e4 => ?_
        refine ⟨_, rfl, (Ex.mut (e.trans e3) np).trans e4, ?_⟩
        refine e4 _ _ ?_
        rw [upd_same, List.range_succ, List.map_append, List.map_append]
        simp only [List.map_cons, List.map_nil, nV, Gf.digd_eq h0]
      · rintro s H' ⟨v, rfl, e, hl⟩
        refine s_ret (ev_var rfl) fun H3 e3 => k p H3 np (e.trans e3) ?_
        rw [e3 _ _ hl, Gf.digits_high hc', Int.toNat_natCast]
def sp__law_power : Sp := fun vs H Q _ => ∃ (a n : Nat), vs = [.int (a : Int), .int (n : Int)] ∧ a < 256 ∧ n ≤ 90000 ∧ RetV (.int ((Gf.gp a n : Nat) : Int)) H Q
theorem spv__law_power {a n : Nat} {H : Hp} (ha : a < 256) (hn : n ≤ 90000) : SpV sp__law_power ([.int (a : Int), .int (n : Int)] ++ []) H (.int ((Gf.gp a n : Nat) : Int)) := fun H1 e Q q E => ⟨a, n, rfl, ha, hn, q⟩
local macro_rules | `(tactic| walk_at "spv") => `(tactic| first | ((with_reducible apply spv__law_power) <;> walk_at "oct") | (apply spv__law_power <;> walk_at "oct"))
theorem ok__law_power (T : Txt K mg) : Okf P w K mg base CX0 2 "_law_power" s__law_power P__law_power sp__law_power := by
  obtain ⟨fd__law_mul, G__law_mul, B__law_mul, _⟩ := ok__law_mul (P := P) (w := w) (base := base) T
  obtain ⟨fd, F⟩ := T.F__law_power
  refine ⟨fd, F.ok sc__law_power (fun vs H Q E h => ?_) (fun cdv A outer s H vs Q E hr h => ?_), F.bindsN fun _ _ _ _ _ _ us hl => match us, hl with | [_, _], _ => rfl, F⟩
  · obtain ⟨a, n, rfl, ha, hn, k⟩ := h
    rfl
  · obtain ⟨a, n, rfl, ha, hn, k⟩ := h
    refine ⟨_, PSs.nox (pss_cons (ps_set (i := 2) sc__law_power.nd rfl (Or.inl rfl) pe_int)
(pss_cons (ps_for PassesOwn.never rfl (pi_range1 rfl T.m_range (pa_cons (pv 1) pa_nil)) (pg_name (i := 3) sc__law_power.nd rfl (Or.inl rfl)) (pss_one (ps_set (i := 2) sc__law_power.nd rfl (Or.inl rfl) (pe_call G__law_mul (hr.mono (by decide)) rfl T.g__law_mul T.p__law_mul B__law_mul .nil pass0 (pa_cons (pv 2) (pa_cons (pv 0) pa_nil))))))
(pss_one (ps_ret (pv 2))))), ?_⟩
    refine q_asg ev_c fun H1 e1 => ?_
    refine q_forR1 (ea_cons (ev_var rfl) ea_nil) (by omega) (fun i s H' => ∃ v, s = [some (.int (a : Int)), some (.int (n : Int)), some (.int ((Gf.gp a i : Nat) : Int)), v] ∧ Ex H H') ?_ ?_ ?_
    · exact fun H2 e2 => ⟨none, rfl, e1.trans e2⟩
    · rintro i s H' hi ⟨v, rfl, e⟩
      refine s_asg (v := .int ((Gf.gp a (i + 1) : Nat) : Int)) ?_ fun H2 e2 => ⟨_, rfl, e.trans e2⟩
      rw [Gf.gp_succ ha]
      walk_at "ev"
    · rintro s H' ⟨v, rfl, e⟩
      refine s_ret (ev_var rfl) fun H2 e2 => ?_
      rw [Int.toNat_natCast]
      exact k H2 (e.trans e2)
def sp__law_refuses : Sp := fun vs H Q _ => ∃ (x : Str) (a : Nat), vs = [.str x, .int (a : Int), .int ((0 : Nat) : Int)] ∧ a < 256 ∧ RetV (.bl true) H Q
theorem spv__law_refuses {x : Str} {a b : Nat} {H : Hp} (ha : a < 256) (h0 : b = 0) : SpV sp__law_refuses ([.str x, .int (a : Int), .int (b : Int)] ++ []) H (.bl true) := fun H1 e Q q E => ⟨x, a, by rw [h0]; rfl, ha, q⟩
local macro_rules | `(tactic| walk_at "spv") => `(tactic| first | ((with_reducible apply spv__law_refuses) <;> walk_at "oct") | (apply spv__law_refuses <;> walk_at "oct"))
theorem ok__law_refuses (T : Txt K mg) : Okf P w K mg base CX0 3 "_law_refuses" s__law_refuses P__law_refuses sp__law_refuses := by
  obtain ⟨fd_div, G_div, B_div, _⟩ := ok_div (P := P) (w := w) (base := base) T
  obtain ⟨fd_inv, G_inv, B_inv, _⟩ := ok_inv (P := P) (w := w) (base := base) T
  obtain ⟨fd, F⟩ := T.F__law_refuses
  refine ⟨fd, F.ok sc__law_refuses (fun vs H Q E h => ?_) (fun cdv A outer s H vs Q E hr h => ?_), F.bindsN fun _ _ _ _ _ _ us hl => match us, hl with | [_, _, _], _ => rfl, F⟩
  · obtain ⟨x, a, rfl, ha, k⟩ := h
    rfl
  · obtain ⟨x, a, rfl, ha, k⟩ := h
    refine ⟨_, PSs.nox (pss_cons (ps_try_as (i := 3) rfl rfl sc__law_refuses.nd rfl rfl ⟨rfl, by decide, .inl T.c_CairnError⟩ takes0 (fun W pn xe tk1 _ => (pss_one (ps_if (pt_cmpR op_eq (pv 0) pe_str (nomark _)) (pss_one (ps_expr (pe_callS G_inv (hr.mono (by decide)) rfl T.g_inv T.p_inv B_inv (fun σ => passAt tk1 σ) (pa_cons (pv 2) pa_nil)))) (pss_one (ps_expr (pe_callS G_div (hr.mono (by decide)) rfl T.g_div T.p_div B_div (fun σ => passAt tk1 σ) (pa_cons (pv 1) (pa_cons (pv 2) pa_nil)))))))) (fun a oe cls d pn hz hf => (given_yes (p := cls = .ref (He.ga K "ZeroElement") ∧ d = none) fun pq => by obtain ⟨rfl, rfl⟩ := pq; exact (pss_cons (ps_if (PW.pt (pw_or (pt_not (pt_val (pe_callB (call_isE T.ec_ZeroElement hz hf) (by rfl) T.m_isinstance (by decide +kernel) (pa_cons (pv 3) (pa_cons (pe_glob (v := .ref (He.ga K "ZeroElement")) rfl T.c_ZeroElement rfl) pa_nil))))) (pw_or1 (pt_not (pt_val (pe_callB (call_isE T.ec_ZeroElement hz hf) (by rfl) T.m_isinstance (by decide +kernel) (pa_cons (pv 3) (pa_cons (pe_bltn (v := .ty "ValueError") (by rfl) T.m_ValueError (by decide +kernel) rfl) pa_nil)))))))) (pss_one (ps_ret pe_bl)) pss_nil)
(pss_one (ps_ret (pe_and (pe_not (pe_callB (call_isE T.ec_ZeroElement hz hf) (by rfl) T.m_isinstance (by decide +kernel) (pa_cons (pv 3) (pa_cons (pe_glob (v := .ref (He.ga K "DuplicatePoint")) rfl T.c_DuplicatePoint rfl) pa_nil)))) (pe_one (pe_not (pe_callB (call_isE T.ec_ZeroElement hz hf) (by rfl) T.m_isinstance (by decide +kernel) (pa_cons (pv 3) (pa_cons (pe_glob (v := .ref (He.ga K "ShapeMismatch")) rfl T.c_ShapeMismatch rfl) pa_nil))))))))))))
(pss_one (ps_ret pe_bl))), ?_⟩
    refine ⟨_, rfl, rfl, _, rfl, ite2 (fun hx => ?_) fun hx => ?_⟩
    · refine ⟨_, rfl, 0, rfl, by decide, fun _ H1 e1 => ⟨true, T.ex_ZeroElement_CairnError, fun _ ae nae => ⟨⟨rfl, rfl⟩, ?_⟩, fun q => nomatch q⟩, fun q => absurd rfl q⟩
      refine q_when (b := !true || !true) (et_or (et_not (et_B (ev_isEr (ev_var rfl) ev_c T.is_ZeroElement_ZeroElement))) fun _ => et_not (et_B (ev_isEt (ev_var rfl) ev_c T.iv_ZeroElement))) (fun q => nomatch q) fun _ H2 e2 => ?_
      exact s_ret (v := .bl (!false && !false)) (ev_andV (ev_notV (ev_isEr (ev_var rfl) ev_c T.is_ZeroElement_DuplicatePoint)) fun _ => ev_notV (ev_isEr (ev_var rfl) ev_c T.is_ZeroElement_ShapeMismatch)) fun H3 e3 => k H3 ((e1.trans e2).trans e3)
    · refine ⟨_, rfl, _, rfl, a, 0, rfl, ha, by decide, fun _ H1 e1 => ⟨true, T.ex_ZeroElement_CairnError, fun _ ae nae => ⟨⟨rfl, rfl⟩, ?_⟩, fun q => nomatch q⟩, fun q => absurd rfl q⟩
      refine q_when (b := !true || !true) (et_or (et_not (et_B (ev_isEr (ev_var rfl) ev_c T.is_ZeroElement_ZeroElement))) fun _ => et_not (et_B (ev_isEt (ev_var rfl) ev_c T.iv_ZeroElement))) (fun q => nomatch q) fun _ H2 e2 => ?_
      exact s_ret (v := .bl (!false && !false)) (ev_andV (ev_notV (ev_isEr (ev_var rfl) ev_c T.is_ZeroElement_DuplicatePoint)) fun _ => ev_notV (ev_isEr (ev_var rfl) ev_c T.is_ZeroElement_ShapeMismatch)) fun H3 e3 => k H3 ((e1.trans e2).trans e3)
def sp_law (K : PySem.W.Frag) : Sp := fun vs H Q _ => ∃ (a : Addr) (ns : List Int), vs = [.ref a] ∧ SqL K H a (ns.map V.int) ∧ ns.length ≤ 63 ∧ ∀ H', Q (.bl true) H'
theorem nat_of {z : Int} {m : Nat} (h : 0 < m) : ∃ n : Nat, z % (m : Int) = (n : Int) ∧ n < m := by
  have h1 := Int.emod_nonneg z (show (m : Int) ≠ 0 by omega)
  have h2 := Int.emod_lt_of_pos z (show (0 : Int) < (m : Int) by omega)
  exact ⟨(z % (m : Int)).toNat, by omega, by omega⟩
theorem three {l : List Nat} (h : l.length = 3) (h2 : ∀ d ∈ l, d < 256) : ∃ a b c : Nat, l = [a, b, c] ∧ a < 256 ∧ b < 256 ∧ c < 256 := by
  match l, h with
  | [a, b, c], _ => exact ⟨a, b, c, rfl, h2 a (by simp), h2 b (by simp), h2 c (by simp)⟩
theorem ok_law (T : Txt K mg) : Okf P w K mg base CX0 4 "law" s_law P_law (sp_law K) := by
  obtain ⟨fd__law_cell, G__law_cell, B__law_cell, _⟩ := ok__law_cell (P := P) (w := w) (base := base) T
  obtain ⟨fd__law_digits, G__law_digits, B__law_digits, _⟩ := ok__law_digits (P := P) (w := w) (base := base) T
  obtain ⟨fd__law_is_integer, G__law_is_integer, B__law_is_integer, _⟩ := ok__law_is_integer (P := P) (w := w) (base := base) T
  obtain ⟨fd__law_mul, G__law_mul, B__law_mul, _⟩ := ok__law_mul (P := P) (w := w) (base := base) T
  obtain ⟨fd__law_power, G__law_power, B__law_power, _⟩ := ok__law_power (P := P) (w := w) (base := base) T
  obtain ⟨fd__law_refuses, G__law_refuses, B__law_refuses, _⟩ := ok__law_refuses (P := P) (w := w) (base := base) T
  obtain ⟨fd_add, G_add, B_add, _⟩ := ok_add (P := P) (w := w) (base := base) T
  obtain ⟨fd_div, G_div, B_div, _⟩ := ok_div (P := P) (w := w) (base := base) T
  obtain ⟨fd_inv, G_inv, B_inv, _⟩ := ok_inv (P := P) (w := w) (base := base) T
  obtain ⟨fd_mul, G_mul, B_mul, _⟩ := ok_mul (P := P) (w := w) (base := base) T
  obtain ⟨fd_power, G_power, B_power, _⟩ := ok_power (P := P) (w := w) (base := base) T
  obtain ⟨fd, F⟩ := T.F_law
  refine ⟨fd, F.ok sc_law (fun vs H Q E h => ?_) (fun cdv A outer s H vs Q E hr h => ?_), F.bindsN fun _ _ _ _ _ _ us hl => match us, hl with | [_], _ => rfl, F⟩
  · obtain ⟨p, ns, rfl, hS, hl, k⟩ := h
    rfl
  · obtain ⟨p, ns, rfl, hS, hl, k⟩ := h
    refine ⟨_, PSs.nox (pss_cons (ps_set (i := 1) sc_law.nd rfl (Or.inl rfl) (pe_call G__law_cell (hr.mono (by decide)) rfl T.g__law_cell T.p__law_cell B__law_cell .nil pass0 (pa_cons (pv 0) (pa_cons pe_int pa_nil))))
(pss_cons (ps_asg (pe_call G__law_digits (hr.mono (by decide)) rfl T.g__law_digits T.p__law_digits B__law_digits .nil pass0 (pa_cons (pv 1) (pa_cons pe_int (pa_cons pe_int pa_nil)))) (pg_unl rfl (pgs_cons (pg_name (i := 2) sc_law.nd rfl (Or.inl rfl)) (pgs_cons (pg_name (i := 3) sc_law.nd rfl (Or.inl rfl)) (pgs_cons (pg_name (i := 4) sc_law.nd rfl (Or.inl rfl)) pgs_nil)))))
(pss_cons (ps_set (i := 5) sc_law.nd rfl (Or.inl rfl) (pe_op op_mod (pe_callTy call_int1 (by rfl) T.m_int (by decide +kernel) (pa_cons (pe_call G__law_cell (hr.mono (by decide)) rfl T.g__law_cell T.p__law_cell B__law_cell .nil pass0 (pa_cons (pv 0) (pa_cons pe_int pa_nil))) pa_nil)) pe_int))
(pss_cons (ps_if (pt_cmpR op_eq (pv 5) pe_int (nomark _)) (pss_one (ps_set (i := 2) sc_law.nd rfl (Or.inl rfl) pe_int)) pss_nil)
(pss_cons (ps_if (pt_cmpR op_eq (pv 5) pe_int (nomark _)) (pss_one (ps_set (i := 3) sc_law.nd rfl (Or.inl rfl) pe_int)) pss_nil)
(pss_cons (ps_set (i := 6) sc_law.nd rfl (Or.inl rfl) (pe_op op_mod (pe_callTy call_int1 (by rfl) T.m_int (by decide +kernel) (pa_cons (pe_call G__law_cell (hr.mono (by decide)) rfl T.g__law_cell T.p__law_cell B__law_cell .nil pass0 (pa_cons (pv 0) (pa_cons pe_int pa_nil))) pa_nil)) pe_int))
(pss_cons (ps_for PassesOwn.never rfl (pi_list (pe_lst (pa_cons (pe_tup (pa_cons (pv 2) (pa_cons (pv 3) pa_nil))) (pa_cons (pe_tup (pa_cons (pv 3) (pa_cons (pv 2) pa_nil))) (pa_cons (pe_tup (pa_cons (pv 2) (pa_cons (pv 4) pa_nil))) (pa_cons (pe_tup (pa_cons (pv 2) (pa_cons (pv 2) pa_nil))) pa_nil)))))) (pg_tup (by rfl) (pgs_cons (pg_name (i := 7) sc_law.nd rfl (Or.inl rfl)) (pgs_cons (pg_name (i := 8) sc_law.nd rfl (Or.inl rfl)) pgs_nil))) (pss_cons (ps_if (PW.pt (pw_or (pt_not (pt_val (pe_call G__law_is_integer (hr.mono (by decide)) rfl T.g__law_is_integer T.p__law_is_integer B__law_is_integer .nil pass0 (pa_cons (pe_call G_add (hr.mono (by decide)) rfl T.g_add T.p_add B_add .nil pass0 (pa_cons (pv 7) (pa_cons (pv 8) pa_nil))) pa_nil)))) (pw_or1 (pt_cmpR op_ne (pe_call G_add (hr.mono (by decide)) rfl T.g_add T.p_add B_add .nil pass0 (pa_cons (pv 7) (pa_cons (pv 8) pa_nil))) (pe_op op_xor (pv 7) (pv 8)) (nomark _))))) (pss_one (ps_ret pe_bl)) pss_nil)
(pss_cons (ps_if (PW.pt (pw_or (pt_not (pt_val (pe_call G__law_is_integer (hr.mono (by decide)) rfl T.g__law_is_integer T.p__law_is_integer B__law_is_integer .nil pass0 (pa_cons (pe_call G_mul (hr.mono (by decide)) rfl T.g_mul T.p_mul B_mul .nil pass0 (pa_cons (pv 7) (pa_cons (pv 8) pa_nil))) pa_nil)))) (pw_or1 (pt_cmpR op_ne (pe_call G_mul (hr.mono (by decide)) rfl T.g_mul T.p_mul B_mul .nil pass0 (pa_cons (pv 7) (pa_cons (pv 8) pa_nil))) (pe_call G__law_mul (hr.mono (by decide)) rfl T.g__law_mul T.p__law_mul B__law_mul .nil pass0 (pa_cons (pv 7) (pa_cons (pv 8) pa_nil))) (nomark _))))) (pss_one (ps_ret pe_bl)) pss_nil)
(pss_cons (ps_if (pt_cmpR op_eq (pv 8) pe_int (nomark _)) (pss_cons (ps_if (PW.pt (pw_or (pt_not (pt_val (pe_call G__law_refuses (hr.mono (by decide)) rfl T.g__law_refuses T.p__law_refuses B__law_refuses .nil pass0 (pa_cons pe_str (pa_cons (pv 7) (pa_cons (pv 8) pa_nil)))))) (pw_or1 (pt_not (pt_val (pe_call G__law_refuses (hr.mono (by decide)) rfl T.g__law_refuses T.p__law_refuses B__law_refuses .nil pass0 (pa_cons pe_str (pa_cons (pv 7) (pa_cons (pv 8) pa_nil))))))))) (pss_one (ps_ret pe_bl)) pss_nil)
(pss_one ps_continue)) pss_nil)
(pss_cons (ps_set (i := 9) sc_law.nd rfl (Or.inl rfl) (pe_call G_inv (hr.mono (by decide)) rfl T.g_inv T.p_inv B_inv .nil passL (pa_cons (pv 8) pa_nil)))
(pss_cons (ps_if (PW.pt (pw_or (pt_not (pt_val (pe_call G__law_is_integer (hr.mono (by decide)) rfl T.g__law_is_integer T.p__law_is_integer B__law_is_integer .nil pass0 (pa_cons (pv 9) pa_nil)))) (pw_or (pt_cmpR op_lt (pv 9) pe_int (nomark _)) (pw_or (pt_cmpR op_gt (pv 9) pe_int (nomark _)) (pw_or1 (pt_cmpR op_ne (pe_call G__law_mul (hr.mono (by decide)) rfl T.g__law_mul T.p__law_mul B__law_mul .nil pass0 (pa_cons (pv 8) (pa_cons (pv 9) pa_nil))) pe_int (nomark _))))))) (pss_one (ps_ret pe_bl)) pss_nil)
(pss_cons (ps_set (i := 10) sc_law.nd rfl (Or.inl rfl) (pe_call G_div (hr.mono (by decide)) rfl T.g_div T.p_div B_div .nil passL (pa_cons (pv 7) (pa_cons (pv 8) pa_nil))))
(pss_one (ps_if (PW.pt (pw_or (pt_not (pt_val (pe_call G__law_is_integer (hr.mono (by decide)) rfl T.g__law_is_integer T.p__law_is_integer B__law_is_integer .nil pass0 (pa_cons (pv 10) pa_nil)))) (pw_or1 (pt_cmpR op_ne (pv 10) (pe_call G__law_mul (hr.mono (by decide)) rfl T.g__law_mul T.p__law_mul B__law_mul .nil pass0 (pa_cons (pv 7) (pa_cons (pv 9) pa_nil))) (nomark _))))) (pss_one (ps_ret pe_bl)) pss_nil)))))))))
(pss_cons (ps_for PassesOwn.never rfl (pi_list (pe_lst (pa_cons (pe_tup (pa_cons (pv 2) (pa_cons (pv 6) pa_nil))) (pa_cons (pe_tup (pa_cons (pv 3) (pa_cons (pe_op op_fdiv (pv 6) pe_int) pa_nil))) (pa_cons (pe_tup (pa_cons pe_int (pa_cons (pv 6) pa_nil))) (pa_cons (pe_tup (pa_cons (pv 4) (pa_cons pe_int pa_nil))) (pa_cons (pe_tup (pa_cons (pv 4) (pa_cons pe_int pa_nil))) pa_nil))))))) (pg_tup (by rfl) (pgs_cons (pg_name (i := 7) sc_law.nd rfl (Or.inl rfl)) (pgs_cons (pg_name (i := 11) sc_law.nd rfl (Or.inl rfl)) pgs_nil))) (pss_one (ps_if (PW.pt (pw_or (pt_not (pt_val (pe_call G__law_is_integer (hr.mono (by decide)) rfl T.g__law_is_integer T.p__law_is_integer B__law_is_integer .nil pass0 (pa_cons (pe_call G_power (hr.mono (by decide)) rfl T.g_power T.p_power B_power .nil pass0 (pa_cons (pv 7) (pa_cons (pv 11) pa_nil))) pa_nil)))) (pw_or1 (pt_cmpR op_ne (pe_call G_power (hr.mono (by decide)) rfl T.g_power T.p_power B_power .nil pass0 (pa_cons (pv 7) (pa_cons (pv 11) pa_nil))) (pe_call G__law_power (hr.mono (by decide)) rfl T.g__law_power T.p__law_power B__law_power .nil pass0 (pa_cons (pv 7) (pa_cons (pv 11) pa_nil))) (nomark _))))) (pss_one (ps_ret pe_bl)) pss_nil)))
(pss_one (ps_ret pe_bl)))))))))), ?_⟩
    refine q_asg (by walk_at "ev") fun H1 e1 => ?_
    obtain ⟨a, b, c, hd, ha, hb, hc⟩ := three (Gf.digits_length (ns.getD 0 0) 3 256) (Gf.digits_lt (by decide))
    refine q_unlL (n := 3) (xs := (Gf.digits (ns.getD 0 0) 3 256).map nV) (el_call (ea_cons (ev_var rfl) (ea_cons ev_c (ea_cons ev_c ea_nil))) (spl__law_digits (n := 3) (m := 256) (by decide) (by decide) (by decide))) (by rw [List.length_map, Gf.digits_length]) fun q H2 nq e2 hq => ?_
    rw [hd]
    refine ⟨_, _, rfl, _, _, rfl, _, _, rfl, rfl, ?_⟩
    have hS2 := ex_l (e1.trans e2) hS
    refine q_asg (by walk_at "ev") fun H3 e3 => ?_
    -- if choice == 1: a = 0
    obtain ⟨a', ha', ea⟩ : ∃ a' : Nat, a' < 256 ∧ a' = if (decide (V.int (ns.getD 1 0 % 4) = V.int 1)) = true then 0 else a := ⟨_, by split <;> omega, rfl⟩
    refine q_ifAsg (v := .int (a' : Int)) (by walk_at "ev") (fun h => ?_) (fun h => ?_) fun H4 e4 => ?_
    · rw [ea, if_pos h]
      exact ev_c
    · rw [ea, h, if_neg Bool.false_ne_true]
      rfl
    obtain ⟨b', hb', eb⟩ : ∃ b' : Nat, b' < 256 ∧ b' = if (decide (V.int (ns.getD 1 0 % 4) = V.int 2)) = true then 0 else b := ⟨_, by split <;> omega, rfl⟩
    refine q_ifAsg (v := .int (b' : Int)) (by walk_at "ev") (fun h => ?_) (fun h => ?_) fun H5 e5 => ?_
    · rw [eb, if_pos h]
      exact ev_c
    · rw [eb, h, if_neg Bool.false_ne_true]
      rfl
    have hS3 := ex_l ((e3.trans e4).trans e5) hS2
    obtain ⟨n, hn, hn2⟩ := nat_of (z := ns.getD 2 0) (m := 1001) (by decide)
    have hn' : ns.getD 2 0 % 1001 = (n : Int) := hn
    refine q_asg (v := .int (n : Int)) (ev_is (by walk_at "ev") (congrArg V.int hn')) fun H6 e6 => ?_
    clear ea eb hS hS2 hS3
    -- the first loop
    refine q_forLT (vss := [[.int (a' : Int), .int (b' : Int)], [.int (b' : Int), .int (a' : Int)], [.int (a' : Int), .int (c : Int)], [.int (a' : Int), .int (a' : Int)]])
      (eat_cons (eu_tup (by walk_at "ev") (by simp)) (eat_cons (eu_tup (by walk_at "ev") (by simp)) (eat_cons (eu_tup (by walk_at "ev") (by simp)) (eat_cons (eu_tup (by walk_at "ev") (by simp)) eat_nil)))) (by simp) (by intro vs h; simp only [List.mem_cons, List.not_mem_nil, or_false] at h; rcases h with rfl | rfl | rfl | rfl <;> rfl)
      (fun i s => ∃ v7 v8 v9 v10, s = [some (.ref p), some (.int (ns.getD 0 0)), some (.int (a' : Int)), some (.int (b' : Int)), some (.int (c : Int)), some (.int (ns.getD 1 0 % 4)), some (.int (n : Int)), v7, v8, v9, v10, none]) ⟨none, none, none, none, rfl⟩ ?_ ?_
    · rintro i vs s H' N hv ⟨v7, v8, v9, v10, rfl⟩ e hN
      obtain ⟨x, y, rfl, hx, hy⟩ : ∃ x y : Nat, vs = [.int (x : Int), .int (y : Int)] ∧ x < 256 ∧ y < 256 := by
        have z := List.mem_of_getElem? hv
        simp only [List.mem_cons, List.not_mem_nil, or_false] at z
        rcases z with rfl | rfl | rfl | rfl
        · exact ⟨_, _, rfl, ha', hb'⟩
        · exact ⟨_, _, rfl, hb', ha'⟩
        · exact ⟨_, _, rfl, ha', hc⟩
        · exact ⟨_, _, rfl, ha', ha'⟩
      refine ⟨_, _, rfl, _, _, rfl, rfl, ?_⟩
      refine q_when (b := false) (et_is (by walk_at "ev") (by simp)) (fun h => nomatch h) fun _ H7 e7 => ?_
      refine q_when (b := false) (et_is (by walk_at "ev") (by simp)) (fun h => nomatch h) fun _ H8 e8 => ?_
      refine q_when (by walk_at "ev") (fun h H9 e9 => ?_) (fun h H9 e9 => ?_)
      · have y0 : y = 0 := by simpa using h
        refine q_when (b := false) (et_is (by walk_at "ev") (by simp)) (fun h => nomatch h) fun _ H10 e10 => ?_
        exact hN _ _ ⟨_, _, _, _, rfl⟩ ((e7.trans e8).trans (e9.trans e10))
      · have y0 : ¬ y = 0 := by simpa using h
        refine q_asg (by walk_at "ev") fun H10 e10 => ?_
        have g1 := Gf.gi_lt y
        have g2 := Gf.gi_ne y
        refine q_when (b := false) (et_is (by walk_at "ev") ?_) (fun h => nomatch h) fun _ H11 e11 => ?_
        · rw [Gf.gm_gi hy y0]
          simp
          omega
        refine q_asg (by walk_at "ev") fun H12 e12 => ?_
        refine s_when (b := false) (et_is (by walk_at "ev") (by simp)) (fun h => nomatch h) fun _ H13 e13 => ?_
        exact hN _ _ ⟨_, _, _, _, rfl⟩ ((e7.trans e8).trans ((e9.trans e10).trans ((e11.trans e12).trans e13)))
    · rintro s H7 ⟨v7, v8, v9, v10, rfl⟩ e7
      refine q_forLT (vss := [[.int (a' : Int), .int (n : Int)], [.int (b' : Int), .int ((n / 7 : Nat) : Int)], [.int ((0 : Nat) : Int), .int (n : Int)], [.int (c : Int), .int ((0 : Nat) : Int)], [.int (c : Int), .int ((255 : Nat) : Int)]])
        (eat_cons (eu_tup (by walk_at "ev") (by simp)) (eat_cons (eu_tup (ea_cons (ev_var rfl) (ea_cons (ev_op (ev_var rfl) ev_c (rv_fdivN (b := 7) (by decide))) ea_nil)) (by simp)) (eat_cons (eu_tup (ea_cons ev_c (ea_cons (ev_var rfl) ea_nil)) (by simp)) (eat_cons (eu_tup (ea_cons (ev_var rfl) (ea_cons ev_c ea_nil)) (by simp)) (eat_cons (eu_tup (ea_cons (ev_var rfl) (ea_cons ev_c ea_nil)) (by simp)) eat_nil))))) (by simp) (by intro vs h; simp only [List.mem_cons, List.not_mem_nil, or_false] at h; rcases h with rfl | rfl | rfl | rfl | rfl <;> rfl)
        (fun i s => ∃ v7 v8 v9 v10 v11, s = [some (.ref p), some (.int (ns.getD 0 0)), some (.int (a' : Int)), some (.int (b' : Int)), some (.int (c : Int)), some (.int (ns.getD 1 0 % 4)), some (.int (n : Int)), v7, v8, v9, v10, v11]) ⟨_, _, _, _, _, rfl⟩ ?_ ?_
      · rintro i vs s H' N hv ⟨v7, v8, v9, v10, v11, rfl⟩ e hN
        obtain ⟨x, y, rfl, hx, hy⟩ : ∃ x y : Nat, vs = [.int (x : Int), .int (y : Int)] ∧ x < 256 ∧ y ≤ 90000 := by
          have z := List.mem_of_getElem? hv
          simp only [List.mem_cons, List.not_mem_nil, or_false] at z
          rcases z with rfl | rfl | rfl | rfl | rfl
          · exact ⟨_, _, rfl, ha', by omega⟩
          · exact ⟨_, _, rfl, hb', by omega⟩
          · exact ⟨_, _, rfl, by omega, by omega⟩
          · exact ⟨_, _, rfl, hc, by omega⟩
          · exact ⟨_, _, rfl, hc, by omega⟩
        refine ⟨_, _, rfl, _, _, rfl, rfl, ?_⟩
        refine s_when (b := false) (et_is (by walk_at "ev") (by simp)) (fun h => nomatch h) fun _ H8 e8 => ?_
        exact hN _ _ ⟨_, _, _, _, _, rfl⟩ e8
      · rintro s H8 ⟨v7, v8, v9, v10, v11, rfl⟩ e8
        exact s_ret ev_c fun H9 e9 => k H9
end
def dd_add : He.DefD := ⟨("add", none), "add", "add", defArgs s_add, defBody s_add, defScope s_add, [], []⟩
def dd_mul : He.DefD := ⟨("mul", none), "mul", "mul", defArgs s_mul, defBody s_mul, defScope s_mul, [], []⟩
def dd_inv : He.DefD := ⟨("inv", none), "inv", "inv", defArgs s_inv, defBody s_inv, defScope s_inv, [], []⟩
def dd_div : He.DefD := ⟨("div", none), "div", "div", defArgs s_div, defBody s_div, defScope s_div, [], []⟩
def dd_power : He.DefD := ⟨("power", none), "power", "power", defArgs s_power, defBody s_power, defScope s_power, [], []⟩
def dd__law_is_integer : He.DefD := ⟨("_law_is_integer", none), "_law_is_integer", "_law_is_integer", defArgs s__law_is_integer, defBody s__law_is_integer, defScope s__law_is_integer, [], []⟩
def dd__law_cell : He.DefD := ⟨("_law_cell", none), "_law_cell", "_law_cell", defArgs s__law_cell, defBody s__law_cell, defScope s__law_cell, [], []⟩
def dd__law_mixed : He.DefD := ⟨("_law_mixed", none), "_law_mixed", "_law_mixed", defArgs s__law_mixed, defBody s__law_mixed, defScope s__law_mixed, [], []⟩
def dd__law_digits : He.DefD := ⟨("_law_digits", none), "_law_digits", "_law_digits", defArgs s__law_digits, defBody s__law_digits, defScope s__law_digits, [], []⟩
def dd__law_mul : He.DefD := ⟨("_law_mul", none), "_law_mul", "_law_mul", defArgs s__law_mul, defBody s__law_mul, defScope s__law_mul, [], []⟩
def dd__law_refuses : He.DefD := ⟨("_law_refuses", none), "_law_refuses", "_law_refuses", defArgs s__law_refuses, defBody s__law_refuses, defScope s__law_refuses, [], []⟩
def dd__law_power : He.DefD := ⟨("_law_power", none), "_law_power", "_law_power", defArgs s__law_power, defBody s__law_power, defScope s__law_power, [], []⟩
def dd_law : He.DefD := ⟨("law", none), "law", "law", defArgs s_law, defBody s_law, defScope s_law, [], []⟩
def fn : List He.DefD := [dd_add, dd_mul, dd_inv, dd_div, dd_power, dd__law_is_integer, dd__law_cell, dd__law_mixed, dd__law_digits, dd__law_mul, dd__law_refuses, dd__law_power, dd_law]
def fa : List He.Fa := [.glo "add", .glo "mul", .glo "inv", .glo "div", .glo "power", .glo "_law_is_integer", .glo "_law_cell", .glo "_law_mixed", .glo "_law_digits", .glo "_law_mul", .glo "_law_refuses", .glo "_law_power", .glo "law", .free "ValueError", .free "bool", .free "int", .free "isinstance", .free "len", .free "range", .int "ORDER" 255, .glo "LOGS", .glo "POWERS", .glo "CairnError", .exc "CairnError", .glo "ZeroElement", .exc "ZeroElement", .glo "DuplicatePoint", .exc "DuplicatePoint", .glo "ShapeMismatch", .exc "ShapeMismatch", .exm "ZeroElement" "CairnError" true]
def exs (K : PySem.W.Frag) : List Bool := [He.tupB K "LOGS" (Gf.logL.map fun (n : Nat) => He.Dv.int (n : Int)),
  He.tupB K "POWERS" (Gf.powL.map fun (n : Nat) => He.Dv.int (n : Int)),
  exc_b K (He.ga K "ZeroElement"),
  decide (PySem.W.kitOne K (.ref (He.ga K "ZeroElement")) (.type "ValueError") = some true),
  decide (PySem.W.kitOne K (.ref (He.ga K "ZeroElement")) (.ref (He.ga K "DuplicatePoint")) = some false),
  decide (PySem.W.kitOne K (.ref (He.ga K "ZeroElement")) (.ref (He.ga K "ShapeMismatch")) = some false),
  decide (PySem.W.kitOne K (.ref (He.ga K "ZeroElement")) (.ref (He.ga K "ZeroElement")) = some true)]
def exB (K : PySem.W.Frag) : Bool := (exs K).all id
abbrev R : PySem.W.OpenRow := PySem.W.OpenLaw.row PySem.Challenge.rw_cairn_k01_field_arithmetic
def names : List PySem.Str := ["CairnError", "ZeroElement", "DuplicatePoint", "ShapeMismatch", "ORDER", "POWERS", "LOGS", "add", "mul", "inv", "div", "power", "_law_is_integer", "_law_cell", "_law_mixed", "_law_digits", "_law_mul", "_law_refuses", "_law_power"]
abbrev hk : PySem.W.Hook := He.hookX 5 fa fn [] [] exB
def ob (s : PySem.W.SharedT) : He.AlX := He.obsX 5 fa fn [] [] exB (HandSHeadRun.getT s)
theorem ob_eq (s : PySem.W.SharedT) : ob s = hk.obs s.abs := He.obsX_eq (HandSHeadRun.getT_eq s)
theorem run (w : World) : HandSHeadRun.RunEq R (PySem.W.view R.prog [22]) hk ob 3000 names w := by
  intro os
  kernel_rfl
theorem txt_of {w : World} {K : PySem.W.Frag} {h h2 : Heap} {mg : Str → Option Value} (X : K.In h) (G : h.Ns mainGlobals mg) (c : He.SaysX fa fn [] [] exB w h2 K) : Txt K mg :=
  ⟨(by obtain ⟨fd, F⟩ := c.t.d.def_ 0 (d := dd_add) rfl; exact ⟨fd, F⟩),
   (He.glo_ok X G (c.t.d.fact 0 (f := .glo "add") rfl)),
   (by obtain ⟨fd, F⟩ := c.t.d.def_ 0 (d := dd_add) rfl; exact F.kp),
   (by obtain ⟨fd, F⟩ := c.t.d.def_ 1 (d := dd_mul) rfl; exact ⟨fd, F⟩),
   (He.glo_ok X G (c.t.d.fact 1 (f := .glo "mul") rfl)),
   (by obtain ⟨fd, F⟩ := c.t.d.def_ 1 (d := dd_mul) rfl; exact F.kp),
   (by obtain ⟨fd, F⟩ := c.t.d.def_ 2 (d := dd_inv) rfl; exact ⟨fd, F⟩),
   (He.glo_ok X G (c.t.d.fact 2 (f := .glo "inv") rfl)),
   (by obtain ⟨fd, F⟩ := c.t.d.def_ 2 (d := dd_inv) rfl; exact F.kp),
   (by obtain ⟨fd, F⟩ := c.t.d.def_ 3 (d := dd_div) rfl; exact ⟨fd, F⟩),
   (He.glo_ok X G (c.t.d.fact 3 (f := .glo "div") rfl)),
   (by obtain ⟨fd, F⟩ := c.t.d.def_ 3 (d := dd_div) rfl; exact F.kp),
   (by obtain ⟨fd, F⟩ := c.t.d.def_ 4 (d := dd_power) rfl; exact ⟨fd, F⟩),
   (He.glo_ok X G (c.t.d.fact 4 (f := .glo "power") rfl)),
   (by obtain ⟨fd, F⟩ := c.t.d.def_ 4 (d := dd_power) rfl; exact F.kp),
   (by obtain ⟨fd, F⟩ := c.t.d.def_ 5 (d := dd__law_is_integer) rfl; exact ⟨fd, F⟩),
   (He.glo_ok X G (c.t.d.fact 5 (f := .glo "_law_is_integer") rfl)),
   (by obtain ⟨fd, F⟩ := c.t.d.def_ 5 (d := dd__law_is_integer) rfl; exact F.kp),
   (by obtain ⟨fd, F⟩ := c.t.d.def_ 6 (d := dd__law_cell) rfl; exact ⟨fd, F⟩),
   (He.glo_ok X G (c.t.d.fact 6 (f := .glo "_law_cell") rfl)),
   (by obtain ⟨fd, F⟩ := c.t.d.def_ 6 (d := dd__law_cell) rfl; exact F.kp),
   (by obtain ⟨fd, F⟩ := c.t.d.def_ 7 (d := dd__law_mixed) rfl; exact ⟨fd, F⟩),
   (He.glo_ok X G (c.t.d.fact 7 (f := .glo "_law_mixed") rfl)),
   (by obtain ⟨fd, F⟩ := c.t.d.def_ 7 (d := dd__law_mixed) rfl; exact F.kp),
   (by obtain ⟨fd, F⟩ := c.t.d.def_ 8 (d := dd__law_digits) rfl; exact ⟨fd, F⟩),
   (He.glo_ok X G (c.t.d.fact 8 (f := .glo "_law_digits") rfl)),
   (by obtain ⟨fd, F⟩ := c.t.d.def_ 8 (d := dd__law_digits) rfl; exact F.kp),
   (by obtain ⟨fd, F⟩ := c.t.d.def_ 9 (d := dd__law_mul) rfl; exact ⟨fd, F⟩),
   (He.glo_ok X G (c.t.d.fact 9 (f := .glo "_law_mul") rfl)),
   (by obtain ⟨fd, F⟩ := c.t.d.def_ 9 (d := dd__law_mul) rfl; exact F.kp),
   (by obtain ⟨fd, F⟩ := c.t.d.def_ 10 (d := dd__law_refuses) rfl; exact ⟨fd, F⟩),
   (He.glo_ok X G (c.t.d.fact 10 (f := .glo "_law_refuses") rfl)),
   (by obtain ⟨fd, F⟩ := c.t.d.def_ 10 (d := dd__law_refuses) rfl; exact F.kp),
   (by obtain ⟨fd, F⟩ := c.t.d.def_ 11 (d := dd__law_power) rfl; exact ⟨fd, F⟩),
   (He.glo_ok X G (c.t.d.fact 11 (f := .glo "_law_power") rfl)),
   (by obtain ⟨fd, F⟩ := c.t.d.def_ 11 (d := dd__law_power) rfl; exact F.kp),
   (by obtain ⟨fd, F⟩ := c.t.d.def_ 12 (d := dd_law) rfl; exact ⟨fd, F⟩),
   (He.glo_ok X G (c.t.d.fact 12 (f := .glo "law") rfl)),
   (by obtain ⟨fd, F⟩ := c.t.d.def_ 12 (d := dd_law) rfl; exact F.kp),
   (He.free_ok X G (c.t.d.fact 13 (f := .free "ValueError") rfl)),
   (He.free_ok X G (c.t.d.fact 14 (f := .free "bool") rfl)),
   (He.free_ok X G (c.t.d.fact 15 (f := .free "int") rfl)),
   (He.free_ok X G (c.t.d.fact 16 (f := .free "isinstance") rfl)),
   (He.free_ok X G (c.t.d.fact 17 (f := .free "len") rfl)),
   (He.free_ok X G (c.t.d.fact 18 (f := .free "range") rfl)),
   (cst_int (He.int_ok X G (c.t.d.fact 19 (f := .int "ORDER" 255) rfl))).1,
   (cst_int (He.int_ok X G (c.t.d.fact 19 (f := .int "ORDER" 255) rfl))).2,
   (He.glo_ok X G (c.t.d.fact 20 (f := .glo "LOGS") rfl)),
   rfl,
   (fun H => tup_ok (all_at c.more 0 rfl) H),
   (He.glo_ok X G (c.t.d.fact 21 (f := .glo "POWERS") rfl)),
   rfl,
   (fun H => tup_ok (all_at c.more 1 rfl) H),
   (He.glo_ok X G (c.t.d.fact 22 (f := .glo "CairnError") rfl)),
   rfl,
   (He.exc_ok (c.t.d.fact 23 (f := .exc "CairnError") rfl)).1,
   (He.exc_ok (c.t.d.fact 23 (f := .exc "CairnError") rfl)).2.1,
   (He.exc_ok (c.t.d.fact 23 (f := .exc "CairnError") rfl)).2.2.1,
   (He.exc_ok (c.t.d.fact 23 (f := .exc "CairnError") rfl)).2.2.2,
   (He.glo_ok X G (c.t.d.fact 24 (f := .glo "ZeroElement") rfl)),
   rfl,
   (He.exc_ok (c.t.d.fact 25 (f := .exc "ZeroElement") rfl)).1,
   (He.exc_ok (c.t.d.fact 25 (f := .exc "ZeroElement") rfl)).2.1,
   (He.exc_ok (c.t.d.fact 25 (f := .exc "ZeroElement") rfl)).2.2.1,
   (He.exc_ok (c.t.d.fact 25 (f := .exc "ZeroElement") rfl)).2.2.2,
   (He.glo_ok X G (c.t.d.fact 26 (f := .glo "DuplicatePoint") rfl)),
   rfl,
   (He.exc_ok (c.t.d.fact 27 (f := .exc "DuplicatePoint") rfl)).1,
   (He.exc_ok (c.t.d.fact 27 (f := .exc "DuplicatePoint") rfl)).2.1,
   (He.exc_ok (c.t.d.fact 27 (f := .exc "DuplicatePoint") rfl)).2.2.1,
   (He.exc_ok (c.t.d.fact 27 (f := .exc "DuplicatePoint") rfl)).2.2.2,
   (He.glo_ok X G (c.t.d.fact 28 (f := .glo "ShapeMismatch") rfl)),
   rfl,
   (He.exc_ok (c.t.d.fact 29 (f := .exc "ShapeMismatch") rfl)).1,
   (He.exc_ok (c.t.d.fact 29 (f := .exc "ShapeMismatch") rfl)).2.1,
   (He.exc_ok (c.t.d.fact 29 (f := .exc "ShapeMismatch") rfl)).2.2.1,
   (He.exc_ok (c.t.d.fact 29 (f := .exc "ShapeMismatch") rfl)).2.2.2,
   (exc_bk (all_at c.more 2 rfl)),
   (of_decide_eq_true (all_at c.more 3 rfl)),
   (of_decide_eq_true (all_at c.more 4 rfl)),
   (of_decide_eq_true (all_at c.more 5 rfl)),
   (of_decide_eq_true (all_at c.more 6 rfl)),
   (He.exm_ok (c.t.d.fact 30 (f := .exm "ZeroElement" "CairnError" true) rfl))⟩
end K01
open PySem PySem.W PySem.Calls PyProof.Rows
theorem PySem.Challenge.cw_cairn_k01_field_arithmetic_holds : PySem.Challenge.rw_cairn_k01_field_arithmetic.Holds := by
  w_on; o_law
  refine HandSHeadRun.head_any (r := OpenLaw.row PySem.Challenge.rw_cairn_k01_field_arithmetic) (q := view (OpenLaw.row PySem.Challenge.rw_cairn_k01_field_arithmetic).prog [22]) (H := K01.hk) (ob := K01.ob) (M := 3000) (loose := K01.names) (d := HandSHeadRun.topDef (OpenLaw.row PySem.Challenge.rw_cairn_k01_field_arithmetic).prog 22) (kwd := []) K01.ob_eq
    (by kernel_rfl) (fun s => by kernel_rfl) K01.run (by kernel_rfl) (by kernel_rfl) (by kernel_rfl) (by rfl) (by first | assumption | decide +kernel) (by decide +kernel) ⟨rfl, rfl, rfl, rfl, rfl, by decide +kernel⟩ ?hw ?hc
  case hw => w_witness2
  case hc =>
    refine L2.walk_ofE (l := PySem.Challenge.rw_cairn_k01_field_arithmetic) (n := 63) (k := 4) (x := "script") (CX := L2.CX0) rfl (by decide) (by kernel_rfl) ⟨rfl, by decide, by decide⟩ ?F (fun _ _ _ _ z => z)
    intro w mg fa h Y G hmg0
    obtain ⟨K, KX, c⟩ := Y
    have hmg : mg ("law" : PySem.Str) = some (.ref fa) := by
      have e : (HandSHeadRun.topDef (OpenLaw.row PySem.Challenge.rw_cairn_k01_field_arithmetic).prog 22).name = ("law" : PySem.Str) := by kernel_rfl
      rw [← e]
      exact hmg0
    have T := K01.txt_of KX G c
    have e : He.ga K "law" = fa := Value.ref.inj (Option.some.inj (T.g_law.symm.trans hmg))
    subst e
    obtain ⟨fd, F⟩ := T.F_law
    refine ⟨K, fd, K01.sp_law K, KX, fun s u => ?_, fun H a ns hl _ hS => ⟨a, ns, rfl, hS, hl, fun _ => rfl⟩, fun base KB GB => ?_⟩
    · exact L2.FunD.bindsA (ps := ["script"]) F (fun _ _ _ _ _ _ us hl => match us, hl with | [_], _ => rfl) s [u] rfl
    · obtain ⟨fd2, G2, _, F2⟩ := K01.ok_law (P := (PySem.Challenge.rw_cairn_k01_field_arithmetic).prog) (w := w) (base := base) T
      obtain rfl : fd2 = fd := Mx.fnat_eq F2 F
      exact G2
