import PyProof.Rows.All
import Wide.All
import OpenK.AllK
import Wide.FinOn
import Lean
import HandS.ForMost
import HandS.ForExc
import HandS.Evl
import HandS.IsInst
import HandS.ExcIs
import HandS.NoneIn
import HandS.Defaults
import HandS.Head0
import HandS.Head1
import HandS.Head2
import HandS.HeadEnd
import HandS.HeadHook1
import HandS.HeadHook2
import HandS.HeadHook3
import HandS.HeadHook4
import HandS.Walk
import HandS.Rev
import HandS.Zip
import HandS.Conv
import HandS.RevRange
import HandS.FStr
import HandS.RaiseMore
import PySem.Challenge.RW_cairn_k04_interpolation

set_option Elab.async false
namespace Gf
/-- the powers and the exponents as one number each -/
def pn : Nat := 70160881166704368827218703435136616750530459438269794890424969378298545675077208731798828898087927652446353395360628748027273188182808436399538186061104243134188885576122562338679313492324190829158544377810568631194580132524405266702234305646236648896994794467054525044798919765581988418950285252905306116225263236585714808161311289784028762024137133735135393922581566890382566480334369299400480864790538739986285574563168380416343369614948461817839620668187777978661530364712890858126432457562886306102556561631759900551331094983229723298224611133722330829711659991602983068895685602467964643306841827719562658305
def ln : Nat := 22135253156888987530748098150270024343632497605293634117281264061560962248099620766229961468867162294233796152347975563017024165690400661622462404646302566225833645086064538892198543335321514950294300187779610338557442029018619797274438901674641748676613670242915365385819254959901651105240253464034662486586186382979728982817772067067513442677601938078891989292316012868233806586592927239821351197800766822366321181463280924672822998103315976779850880337712374790938628529953751181886374687897611504386983350015558142994211516619836411558782076806704747441947939324473761869443721989389604670425385080942269787340800
def pw (k : Nat) : Nat := (pn >>> (8 * k)) % 256
def lg (a : Nat) : Nat := (ln >>> (8 * a)) % 256
def gm (a b : Nat) : Nat := if a = 0 then 0 else if b = 0 then 0 else pw ((lg a + lg b) % 255)
def xt (a : Nat) : Nat := if a * 2 > 255 then (a * 2) ^^^ 285 else a * 2
/-- one turn of the product by shifts: product, a, b -/
def ps (s : Nat × Nat × Nat) : Nat × Nat × Nat := (if s.2.2 % 2 = 0 then s.1 else s.1 ^^^ s.2.1, xt s.2.1, s.2.2 / 2)
def pn8 : Nat → Nat × Nat × Nat → Nat × Nat × Nat
  | 0, s => s
  | n + 1, s => ps (pn8 n s)
def pm (a b : Nat) : Nat := (pn8 8 (0, a, b)).1
def alln (f : Nat → Bool) : Nat → Bool
  | 0 => true
  | n + 1 => f n && alln f n
theorem alln_at {f : Nat → Bool} : ∀ {n : Nat}, alln f n = true → ∀ i, i < n → f i = true
  | 0, _, i, h => absurd h (Nat.not_lt_zero _)
  | n + 1, e, i, h => by
    unfold alln at e
    have e2 := Bool.and_eq_true_iff.mp e
    by_cases q : i = n
    · rw [q]; exact e2.1
    · exact alln_at e2.2 i (by omega)
theorem tab1 : alln (fun a => Nat.beq (pw (lg a)) a || Nat.beq a 0) 256 = true := by decide +kernel
theorem tab2 : alln (fun k => Nat.beq (lg (pw k)) k && Nat.ble 1 (pw k) && Nat.ble (pw k) 255) 255 = true := by decide +kernel
theorem tab3 : alln (fun a => Nat.ble (lg a) 254) 256 = true := by decide +kernel
theorem tab5 : alln (fun a => Nat.blt (xt a) 256) 256 = true := by decide +kernel
theorem pw_lg {a : Nat} (h : a < 256) (h0 : ¬ a = 0) : pw (lg a) = a := by
  have e := alln_at tab1 a h
  rcases Bool.or_eq_true_iff.mp e with e | e
  · exact Nat.eq_of_beq_eq_true e
  · exact absurd (Nat.eq_of_beq_eq_true e) h0
theorem tab2_at {k : Nat} (h : k < 255) : lg (pw k) = k ∧ 1 ≤ pw k ∧ pw k ≤ 255 := by
  have e := alln_at tab2 k h
  obtain ⟨e1, e2⟩ := Bool.and_eq_true_iff.mp e
  obtain ⟨e3, e4⟩ := Bool.and_eq_true_iff.mp e1
  exact ⟨Nat.eq_of_beq_eq_true e3, Nat.le_of_ble_eq_true e4, Nat.le_of_ble_eq_true e2⟩
theorem lg_lt {a : Nat} (h : a < 256) : lg a < 255 := by
  have e := Nat.le_of_ble_eq_true (alln_at tab3 a h)
  omega
theorem xt_lt {a : Nat} (h : a < 256) : xt a < 256 := Nat.le_of_ble_eq_true (alln_at tab5 a h)
theorem pn8_lt {a b : Nat} (h : a < 256) : ∀ n, (pn8 n (0, a, b)).2.1 < 256
  | 0 => h
  | n + 1 => xt_lt (pn8_lt h n)
theorem gm_zero {a b : Nat} (h : a = 0 ∨ b = 0) : gm a b = 0 := by
  unfold gm
  rcases h with h | h
  · rw [if_pos h]
  · by_cases q : a = 0
    · rw [if_pos q]
    · rw [if_neg q, if_pos h]
theorem gm_pos {a b : Nat} (h : ¬ a = 0) (h2 : ¬ b = 0) : gm a b = pw ((lg a + lg b) % 255) := by
  unfold gm
  rw [if_neg h, if_neg h2]
theorem pw_lt (k : Nat) : pw k < 256 := Nat.mod_lt _ (by decide)
theorem gm_lt (a b : Nat) : gm a b < 256 := by
  unfold gm
  split
  · decide
  · split
    · decide
    · exact pw_lt _
def gi (a : Nat) : Nat := pw ((255 - lg a) % 255)
theorem gi_lt (a : Nat) : gi a < 256 := pw_lt _
theorem gi_ne (a : Nat) : ¬ gi a = 0 := by
  have := (tab2_at (Nat.mod_lt (255 - lg a) (by decide : 0 < 255))).2.1
  unfold gi
  omega
theorem lg_gi (a : Nat) : lg (gi a) = (255 - lg a) % 255 := (tab2_at (Nat.mod_lt (255 - lg a) (by decide : 0 < 255))).1
theorem pw_zero : pw 0 = 1 := by decide +kernel
theorem gm_gi {a : Nat} (h : a < 256) (h0 : ¬ a = 0) : gm a (gi a) = 1 := by
  rw [gm_pos h0 (gi_ne a), lg_gi]
  have := lg_lt h
  have e : (lg a + (255 - lg a) % 255) % 255 = 0 := by omega
  rw [e, pw_zero]
theorem gm_comm (a b : Nat) : gm a b = gm b a := by
  by_cases h : a = 0
  · rw [gm_zero (.inl h), gm_zero (.inr h)]
  · by_cases h2 : b = 0
    · rw [gm_zero (.inr h2), gm_zero (.inl h2)]
    · rw [gm_pos h h2, gm_pos h2 h, Nat.add_comm]
theorem gm_ne {a b : Nat} (h : ¬ a = 0) (h2 : ¬ b = 0) : ¬ gm a b = 0 := by
  rw [gm_pos h h2]
  have := (tab2_at (Nat.mod_lt (lg a + lg b) (by decide : 0 < 255))).2.1
  omega
theorem lg_gm {a b : Nat} (h : ¬ a = 0) (h2 : ¬ b = 0) : lg (gm a b) = (lg a + lg b) % 255 := by
  rw [gm_pos h h2]
  exact (tab2_at (Nat.mod_lt (lg a + lg b) (by decide : 0 < 255))).1
theorem gm_assoc (a b c : Nat) : gm (gm a b) c = gm a (gm b c) := by
  by_cases h : a = 0
  · rw [gm_zero (.inl h), gm_zero (.inl rfl), gm_zero (.inl h)]
  · by_cases h2 : b = 0
    · rw [gm_zero (.inr h2), gm_zero (.inl rfl), gm_zero (a := b) (.inl h2), gm_zero (.inr rfl)]
    · by_cases h3 : c = 0
      · rw [gm_zero (.inr h3), gm_zero (a := b) (.inr h3), gm_zero (.inr rfl)]
      · rw [gm_pos (gm_ne h h2) h3, gm_pos h (gm_ne h2 h3), lg_gm h h2, lg_gm h2 h3]
        have e : ((lg a + lg b) % 255 + lg c) % 255 = (lg a + (lg b + lg c) % 255) % 255 := by omega
        rw [e]
theorem lg_one : lg 1 = 0 := by decide +kernel
theorem gm_one {a : Nat} (h : a < 256) : gm a 1 = a := by
  by_cases h0 : a = 0
  · rw [gm_zero (.inl h0), h0]
  · rw [gm_pos h0 (by decide), lg_one, Nat.add_zero, Nat.mod_eq_of_lt (lg_lt h), pw_lg h h0]
theorem tab6 : alln (fun k => Nat.beq (pw ((k + 1) % 255)) (xt (pw k))) 255 = true := by decide +kernel
theorem tab7 : alln (fun n => alln (fun b => Nat.beq (b % 2 ^ (n + 1)) (if (b / 2 ^ n) % 2 = 0 then b % 2 ^ n else (b % 2 ^ n) ^^^ 2 ^ n)) 256) 8 = true := by decide +kernel
theorem tab8 : alln (fun n => Nat.beq (pw n) (2 ^ n)) 8 = true := by decide +kernel
theorem xor_lt {x y : Nat} (hx : x < 256) (hy : y < 256) : x ^^^ y < 256 := Nat.xor_lt_two_pow (n := 8) hx hy
theorem xt_xor {x y : Nat} (hx : x < 256) (hy : y < 256) : xt (x ^^^ y) = xt x ^^^ xt y := by
  have e : ∀ {z : Nat}, z < 256 → xt z = (z * 2) ^^^ (if z / 128 = 0 then 0 else 285) := fun {z} hz => by
    unfold xt
    by_cases h : z * 2 > 255
    · rw [if_pos h, if_neg (by omega)]
    · rw [if_neg h, if_pos (by omega), Nat.xor_zero]
  have d : (x ^^^ y) / 128 = x / 128 ^^^ y / 128 := by
    have q := Nat.shiftRight_xor_distrib (a := x) (b := y) (i := 7)
    rw [Nat.shiftRight_eq_div_pow, Nat.shiftRight_eq_div_pow, Nat.shiftRight_eq_div_pow] at q
    exact q
  have m : (x ^^^ y) * 2 = x * 2 ^^^ y * 2 := by
    have q := Nat.shiftLeft_xor_distrib (a := x) (b := y) (i := 1)
    rw [Nat.shiftLeft_eq, Nat.shiftLeft_eq, Nat.shiftLeft_eq] at q
    exact q
  rw [e (xor_lt hx hy), e hx, e hy, d, m]
  have h1 : x / 128 = 0 ∨ x / 128 = 1 := by omega
  have h2 : y / 128 = 0 ∨ y / 128 = 1 := by omega
  have ac : ∀ p q r s : Nat, (p ^^^ r) ^^^ (q ^^^ s) = (p ^^^ q) ^^^ (r ^^^ s) := fun p q r s => by
    rw [Nat.xor_assoc, Nat.xor_assoc, ← Nat.xor_assoc r, Nat.xor_comm r q, Nat.xor_assoc q]
  rw [ac]
  rcases h1 with h1 | h1 <;> rcases h2 with h2 | h2 <;> rw [h1, h2] <;> rfl
def xtn : Nat → Nat → Nat
  | 0, a => a
  | n + 1, a => xt (xtn n a)
theorem xtn_lt {a : Nat} (h : a < 256) : ∀ n, xtn n a < 256
  | 0 => h
  | n + 1 => xt_lt (xtn_lt h n)
theorem xtn_xor {x y : Nat} (hx : x < 256) (hy : y < 256) : ∀ n, xtn n (x ^^^ y) = xtn n x ^^^ xtn n y
  | 0 => rfl
  | n + 1 => by
    show xt (xtn n (x ^^^ y)) = xt (xtn n x) ^^^ xt (xtn n y)
    rw [xtn_xor hx hy n, xt_xor (xtn_lt hx n) (xtn_lt hy n)]
theorem xtn_zero : ∀ n, xtn n 0 = 0
  | 0 => rfl
  | n + 1 => by
    show xt (xtn n 0) = 0
    rw [xtn_zero n]
    rfl
theorem xtn_pw {j : Nat} (h : j < 255) : ∀ n, xtn n (pw j) = pw ((j + n) % 255)
  | 0 => by
    show pw j = _
    rw [Nat.add_zero, Nat.mod_eq_of_lt h]
  | n + 1 => by
    show xt (xtn n (pw j)) = _
    rw [xtn_pw h n]
    have e := Nat.eq_of_beq_eq_true (alln_at tab6 ((j + n) % 255) (Nat.mod_lt _ (by decide)))
    rw [← e]
    congr 1
    omega
theorem gm_xtn {a b : Nat} (h : ¬ a = 0) (hb : b < 256) : gm a b = xtn (lg a) b := by
  by_cases h0 : b = 0
  · rw [gm_zero (.inr h0), h0, xtn_zero]
  · have e : xtn (lg a) b = xtn (lg a) (pw (lg b)) := by rw [pw_lg hb h0]
    rw [e, xtn_pw (lg_lt hb), gm_pos h h0, Nat.add_comm]
/-- the product distributes over the sum -/
theorem gm_xor {a b c : Nat} (hb : b < 256) (hc : c < 256) : gm a (b ^^^ c) = gm a b ^^^ gm a c := by
  by_cases h : a = 0
  · rw [gm_zero (.inl h), gm_zero (.inl h), gm_zero (.inl h)]
    rfl
  · rw [gm_xtn h (xor_lt hb hc), gm_xtn h hb, gm_xtn h hc, xtn_xor hb hc]
theorem xor_gm {a b c : Nat} (hb : b < 256) (hc : c < 256) : gm (b ^^^ c) a = gm b a ^^^ gm c a := by
  rw [gm_comm, gm_xor hb hc, gm_comm a b, gm_comm a c]
theorem gm_pow {a n : Nat} (ha : a < 256) (hn : n < 8) : gm a (2 ^ n) = xtn n a := by
  have e := Nat.eq_of_beq_eq_true (alln_at tab8 n hn)
  have l := (tab2_at (show n < 255 by omega)).1
  rw [gm_comm, ← e, gm_xtn (by have := (tab2_at (show n < 255 by omega)).2.1; omega) ha, l]
theorem pn8_eq {a b : Nat} (ha : a < 256) (hb : b < 256) : ∀ n, n ≤ 8 → pn8 n (0, a, b) = (gm a (b % 2 ^ n), xtn n a, b / 2 ^ n)
  | 0, _ => by
    show (0, a, b) = _
    rw [Nat.pow_zero, Nat.mod_one, Nat.div_one, gm_zero (.inr rfl)]
    rfl
  | n + 1, h => by
    show ps (pn8 n (0, a, b)) = _
    rw [pn8_eq ha hb n (by omega)]
    have e := Nat.eq_of_beq_eq_true (alln_at (alln_at tab7 n (by omega)) b hb)
    have d : b / 2 ^ n / 2 = b / 2 ^ (n + 1) := by rw [Nat.div_div_eq_div_mul, Nat.pow_succ]
    have l1 : b % 2 ^ n < 256 := Nat.lt_of_le_of_lt (Nat.mod_le _ _) hb
    have l2 : 2 ^ n < 256 := Nat.pow_lt_pow_right (by decide) (show n < 8 by omega)
    show (if b / 2 ^ n % 2 = 0 then gm a (b % 2 ^ n) else gm a (b % 2 ^ n) ^^^ xtn n a, xt (xtn n a), b / 2 ^ n / 2) = _
    rw [d, e]
    by_cases q : b / 2 ^ n % 2 = 0
    · rw [if_pos q, if_pos q]
      rfl
    · rw [if_neg q, if_neg q, gm_xor l1 l2, gm_pow ha (by omega)]
      rfl
theorem pm_eq {a b : Nat} (ha : a < 256) (hb : b < 256) : (pn8 8 (0, a, b)).1 = gm a b := by
  rw [pn8_eq ha hb 8 (Nat.le_refl _)]
  show gm a (b % 256) = gm a b
  rw [Nat.mod_eq_of_lt hb]
def gp (a n : Nat) : Nat := if n = 0 then 1 else if a = 0 then 0 else pw (lg a * n % 255)
theorem gp_none (a : Nat) : gp a 0 = 1 := if_pos rfl
theorem gp_zero {n : Nat} (h : ¬ n = 0) : gp 0 n = 0 := by
  unfold gp
  rw [if_neg h, if_pos rfl]
theorem gp_pos {a n : Nat} (h : ¬ a = 0) (h2 : ¬ n = 0) : gp a n = pw (lg a * n % 255) := by
  unfold gp
  rw [if_neg h2, if_neg h]
theorem gp_lt (a n : Nat) : gp a n < 256 := by
  unfold gp
  split
  · decide
  · split
    · decide
    · exact pw_lt _
theorem gp_succ {a : Nat} (ha : a < 256) (n : Nat) : gp a (n + 1) = gm (gp a n) a := by
  by_cases h : a = 0
  · subst h
    rw [gp_zero (by omega), gm_zero (.inr rfl)]
  · by_cases hn : n = 0
    · subst hn
      rw [gp_pos h (by omega), gp_none, gm_comm, gm_one ha, Nat.zero_add, Nat.mul_one, Nat.mod_eq_of_lt (lg_lt ha), pw_lg ha h]
    · have e := tab2_at (Nat.mod_lt (lg a * n) (by decide : 0 < 255))
      rw [gp_pos h (by omega), gp_pos h hn, gm_pos (by omega) h, e.1, Nat.mul_add, Nat.mul_one]
      congr 1
      omega
def mixed (c k : Int) : Int := ((c * 48271 + k * 69621 + 11) % 2147483647 * 16807 + (k + 3) * 40692 + 5) % 2147483563 / 5
def mixd (c : Int) (m j : Nat) : Nat := (mixed c (j : Int) % (m : Int)).toNat
theorem mixd_eq {m : Nat} (h : 0 < m) (c : Int) (j : Nat) : ((mixd c m j : Nat) : Int) = mixed c (j : Int) % (m : Int) := by
  unfold mixd
  exact Int.toNat_of_nonneg (Int.emod_nonneg _ (by omega))
def divn (m : Nat) : Nat → Int → Int
  | 0, c => c
  | n + 1, c => divn m n c / (m : Int)
def digd (c : Int) (m j : Nat) : Nat := (divn m j c % (m : Int)).toNat
theorem digd_eq {m : Nat} (h : 0 < m) (c : Int) (j : Nat) : ((digd c m j : Nat) : Int) = divn m j c % (m : Int) := by
  unfold digd
  exact Int.toNat_of_nonneg (Int.emod_nonneg _ (by omega))
def digits (c : Int) (n m : Nat) : List Nat := if c < 10 ^ 18 then (List.range n).map fun j => mixd c m j else (List.range n).map fun j => digd c m j
theorem digits_low {c : Int} {n m : Nat} (h : c < 10 ^ 18) : digits c n m = (List.range n).map fun j => mixd c m j := if_pos h
theorem digits_high {c : Int} {n m : Nat} (h : ¬ c < 10 ^ 18) : digits c n m = (List.range n).map fun j => digd c m j := if_neg h
theorem digits_length (c : Int) (n m : Nat) : (digits c n m).length = n := by
  unfold digits
  split <;> simp
theorem digits_lt {c : Int} {n m : Nat} (h : 0 < m) : ∀ d ∈ digits c n m, d < m := by
  intro d hd
  have key : ∀ z : Int, (z % (m : Int)).toNat < m := fun z => by
    have h1 := Int.emod_nonneg z (show (m : Int) ≠ 0 by omega)
    have h2 := Int.emod_lt_of_pos z (show (0 : Int) < (m : Int) by omega)
    omega
  unfold digits at hd
  split at hd
  · obtain ⟨j, _, rfl⟩ := List.mem_map.mp hd
    exact key _
  · obtain ⟨j, _, rfl⟩ := List.mem_map.mp hd
    exact key _
def powL : List Nat := (List.range 255).map pw
def logL : List Nat := (List.range 256).map lg
theorem range_at {f : Nat → Nat} {n k : Nat} (h : k < n) : ((List.range n).map f)[k]? = some (f k) := by
  rw [List.getElem?_map, List.getElem?_range h]
  rfl
end Gf

set_option Elab.async false
set_option linter.all false
set_option maxRecDepth 100000
set_option maxHeartbeats 4000000
namespace Mx
open PySem PySem.Spec PyProof.Rows L2 Evl
/-! ### more of what evaluates to what -/
section
variable {K : PySem.W.Frag} {σ : L2.St} {H H' : Hp} {ta tb te tx : TE} {t u : TT} {x y z v : V} {r : R2}
theorem rv_xor {a b : Nat} : RV (rI0 fun i j => .int (Builtin.bitXor i j)) (.int (a : Int)) (.int (b : Int)) H (.int ((a ^^^ b : Nat) : Int)) := fun H1 _ Q q => ⟨_, _, rfl, rfl, by
  show Q (.int (Builtin.bitXor (a : Int) (b : Int))) H1
  rw [Bits.bitXor_pp (Int.natCast_nonneg a) (Int.natCast_nonneg b), Int.toNat_natCast, Int.toNat_natCast]
  exact q H1 (Ex.refl H1)⟩
theorem rv_addN {a b : Nat} : RV (rI0 fun i j => .int (i + j)) (.int (a : Int)) (.int (b : Int)) H (.int ((a + b : Nat) : Int)) := fun H1 _ Q q => ⟨_, _, rfl, rfl, by
  show Q (.int ((a : Int) + (b : Int))) H1
  rw [← Int.natCast_add]
  exact q H1 (Ex.refl H1)⟩
theorem rv_mod {i j : Int} (h : 0 < j) : RV (rI (fun _ j => 0 < j) fun i j => .int (i % j)) (.int i) (.int j) H (.int (i % j)) := rv_I h
theorem rv_fdiv {i j : Int} (h : 0 < j ∧ j < 1073741824) : RV (rI CDiv fun i j => .int (i / j)) (.int i) (.int j) H (.int (i / j)) := rv_I h
theorem ev_int {i : Int} (h : Ev ta σ H (.int i)) : Ev (tCB (fun xs H Q => (∃ i, xs = [.int i] ∧ Q (.int i) H) ∨ ∃ k, xs = [.bl k] ∧ Q (.int (if k then 1 else 0)) H) (tCons ta tNil)) σ H (.int i) := fun H1 e Q q =>
  h H1 e _ fun H2 e2 => Or.inl ⟨i, rfl, q H2 e2⟩
theorem ev_intB {k : Bool} (h : Ev ta σ H (.bl k)) : Ev (tCB (fun xs H Q => (∃ i, xs = [.int i] ∧ Q (.int i) H) ∨ ∃ k, xs = [.bl k] ∧ Q (.int (if k then 1 else 0)) H) (tCons ta tNil)) σ H (.int (if k then 1 else 0)) := fun H1 e Q q =>
  h H1 e _ fun H2 e2 => Or.inr ⟨k, rfl, q H2 e2⟩
theorem ev_lenL {p : Addr} {xs : List V} (ha : Ev ta σ H (.ref p)) (h : SqL K H p xs) : Ev (tCB (fun xs H Q => ∃ p ys, xs = [.ref p] ∧ (SqL K H p ys ∨ SqT K H p ys) ∧ Q (.int ys.length) H) (tCons ta tNil)) σ H (.int (xs.length : Int)) := ev_len ha h
theorem ev_lenT {p : Addr} {xs : List V} (ha : Ev ta σ H (.ref p)) (h : SqT K H p xs) : Ev (tCB (fun xs H Q => ∃ p ys, xs = [.ref p] ∧ (SqL K H p ys ∨ SqT K H p ys) ∧ Q (.int ys.length) H) (tCons ta tNil)) σ H (.int (xs.length : Int)) := fun H1 e Q q =>
  ha H1 e _ fun H2 e2 => ⟨p, xs, rfl, Or.inr (ex_t (e.trans e2) h), q H2 e2⟩
theorem ev_isi {x c : V} {t u : Value} {b : Bool} (ha : Ev ta σ H x) (hb : Ev tb σ H c) (hc : ClsV c u) (ht : ∀ H1, Ex H H1 → TyX K H1 x t) (h : PySem.W.kitOne K t u = some b) :
    Ev (tCB (rIsi K) (tCons ta (tCons tb tNil))) σ H (.bl b) := fun H1 e Q q =>
  ha H1 e _ fun H2 e2 => hb H2 (e.trans e2) _ fun H3 e3 => ⟨x, c, t, u, b, rfl, hc, ht H3 ((e.trans e2).trans e3), h, q H3 (e2.trans e3)⟩
theorem ev_isiI {n : String} {i : Int} {b : Bool} (ha : Ev ta σ H (.int i)) (hb : Ev tb σ H (.ty n)) (h : kitB "int" n = some b) : Ev (tCB (rIsi K) (tCons ta (tCons tb tNil))) σ H (.bl b) :=
  ev_isi ha hb (ClsV.ty n) (fun _ _ => .base (.int i)) (kit_ty h)
theorem et_truI {i : Int} (h : Ev te σ H (.int i)) : EvT (fun σ H Q => te σ H fun x H1 => ∃ k, TruV K x H1 k ∧ Q k H1) σ H (i != 0) := fun H1 e Q q =>
  h H1 e _ fun H2 e2 => ⟨_, rfl, q H2 e2⟩
theorem given_yes {p : Prop} {X : Cx} {st : List Stmt} {t : TS} (h : p → PSs X st t) : PSs X st (fun D σ H => p ∧ t D σ H) := ⟨fun pins s σ H D I h' => (h h'.1).run pins s σ H D I h'.2⟩
end
/-- a number from nought as a value -/
abbrev nV (n : Nat) : V := .int (n : Int)
/-- a list from outside, changed by nobody meanwhile -/
theorem pow_at {k : Nat} (h : k < 255) : (Gf.powL.map nV)[k]? = some (.int ((Gf.pw k : Nat) : Int)) := by
  unfold Gf.powL
  rw [List.getElem?_map, Gf.range_at h]
  rfl
theorem log_at {k : Nat} (h : k < 256) : (Gf.logL.map nV)[k]? = some (.int ((Gf.lg k : Nat) : Int)) := by
  unfold Gf.logL
  rw [List.getElem?_map, Gf.range_at h]
  rfl
section
variable {K : PySem.W.Frag} {σ : L2.St} {H H' : Hp} {ta tb te tx : TE} {t u : TT} {x y z v : V} {r : R2}
theorem rv_ixTN {p : Addr} {xs : List V} {k : Nat} (h : SqT K H p xs) (ha : xs[k]? = some v) : RV (rIxT K) (.ref p) (.int (k : Int)) H v := rv_ixT h (atI_nat ha)
theorem rv_ixLN {p : Addr} {xs : List V} {k : Nat} (h : SqL K H p xs) (ha : xs[k]? = some v) : RV (rIxL K) (.ref p) (.int (k : Int)) H v := rv_ixL h (atI_nat ha)
theorem rv_modN {a b : Nat} (h : 0 < b) : RV (rI (fun _ j => 0 < j) fun i j => .int (i % j)) (.int (a : Int)) (.int (b : Int)) H (.int ((a % b : Nat) : Int)) := by
  have e : (.int ((a % b : Nat) : Int) : V) = .int ((a : Int) % (b : Int)) := by rw [Int.natCast_emod]
  rw [e]
  exact rv_I (by omega)
theorem rv_subN {a b : Nat} (h : b ≤ a) : RV (rI0 fun i j => .int (i - j)) (.int (a : Int)) (.int (b : Int)) H (.int ((a - b : Nat) : Int)) := by
  have e : (.int ((a - b : Nat) : Int) : V) = .int ((a : Int) - (b : Int)) := by rw [Int.natCast_sub h]
  rw [e]
  exact rv_I0
theorem rv_mulN {a b : Nat} (h : a < 18446744073709551616) : RV (rI CMul fun i j => .int (i * j)) (.int (a : Int)) (.int (b : Int)) H (.int ((a * b : Nat) : Int)) := by
  have e : (.int ((a * b : Nat) : Int) : V) = .int ((a : Int) * (b : Int)) := by rw [Int.natCast_mul]
  rw [e]
  exact rv_I (Or.inl ⟨by omega, by omega⟩)
theorem rv_mulL {i j : Int} (h : -(2 ^ 64) < j ∧ j < 2 ^ 64) : RV (rI CMul fun i j => .int (i * j)) (.int i) (.int j) H (.int (i * j)) := rv_I (Or.inr h)
theorem rv_and1 {b : Nat} : RV (rI0 fun i j => .int (Builtin.bitAnd i j)) (.int (b : Int)) (.int 1) H (.int ((b % 2 : Nat) : Int)) := by
  have e : (.int ((b % 2 : Nat) : Int) : V) = .int (Builtin.bitAnd (b : Int) 1) := by rw [bitAnd_m1, Int.natCast_emod] <;> rfl
  rw [e]
  exact rv_I0
theorem rv_shr1 {b : Nat} : RV (rI (fun _ j => 0 ≤ j) fun i j => .int (i / 2 ^ j.toNat)) (.int (b : Int)) (.int 1) H (.int ((b / 2 : Nat) : Int)) := by
  have e : (.int ((b / 2 : Nat) : Int) : V) = .int ((b : Int) / 2 ^ (1 : Int).toNat) := by rw [Int.natCast_ediv] <;> rfl
  rw [e]
  exact rv_I (C := fun _ j => 0 ≤ j) (by decide)
theorem rv_shl1 {a : Nat} (h : a < 18446744073709551616) : RV (rI CPow fun i j => .int (i * 2 ^ j.toNat)) (.int (a : Int)) (.int 1) H (.int ((a * 2 : Nat) : Int)) := by
  have e : (.int ((a * 2 : Nat) : Int) : V) = .int ((a : Int) * 2 ^ (1 : Int).toNat) := by rw [Int.natCast_mul] <;> rfl
  rw [e]
  exact rv_I (C := CPow) ⟨by decide, by decide, by omega⟩
end
section
variable {K : PySem.W.Frag} {σ : L2.St} {H H' : Hp} {ta tb te tx : TE} {t u : TT} {x y z v : V} {r : R2} {D : Ends} {tu tw tz : TS} {g : TG}
theorem ev_isE {Z a : Addr} {c : V} {cv : Value} {b : Bool} (ha : Ev ta σ H (.ref a)) (hb : Ev tb σ H c) (hc : ∀ w, RelV c w → w = cv) (h : PySem.W.kitOne K (.ref Z) cv = some b) :
    Ev (tCB (rIsE K Z a) (tCons ta (tCons tb tNil))) σ H (.bl b) := fun H1 e Q q =>
  ha H1 e _ fun H2 e2 => hb H2 (e.trans e2) _ fun H3 e3 => ⟨c, cv, b, rfl, hc, h, q H3 (e2.trans e3)⟩
theorem ev_isEr {Z a C : Addr} {b : Bool} (ha : Ev ta σ H (.ref a)) (hb : Ev tb σ H (.ref C)) (h : PySem.W.kitOne K (.ref Z) (.ref C) = some b) :
    Ev (tCB (rIsE K Z a) (tCons ta (tCons tb tNil))) σ H (.bl b) := ev_isE ha hb (fun _ e => e) h
theorem ev_isEt {Z a : Addr} {n : String} {b : Bool} (ha : Ev ta σ H (.ref a)) (hb : Ev tb σ H (.ty n)) (h : PySem.W.kitOne K (.ref Z) (.type n) = some b) :
    Ev (tCB (rIsE K Z a) (tCons ta (tCons tb tNil))) σ H (.bl b) := ev_isE ha hb (fun _ e => e) h
theorem s_unlL {n : Nat} {tg : TGs} {xs : List V} (h : EvL te σ H xs) (hl : xs.length = n) (k : ∀ p H1, H p = none → Ex H H1 → H1 p = some (.lst xs) → tg xs σ H1 D.nx) : tAsg te (gUnl K n tg) D σ H :=
  h H (Ex.refl H) _ fun p H1 np e hp => ⟨p, xs, rfl, sq_of hp, hl, k p H1 np e hp⟩
theorem q_unlL {n : Nat} {tg : TGs} {xs : List V} (h : EvL te σ H xs) (hl : xs.length = n) (k : ∀ p H1, H p = none → Ex H H1 → H1 p = some (.lst xs) → tg xs σ H1 (tz D)) : tSeq (tAsg te (gUnl K n tg)) tz D σ H := s_unlL (D := { D with nx := tz D }) h hl k
end
/-! ### lists of tuples that are written, and a loop over them -/
section
variable {K : PySem.W.Frag} {σ : L2.St} {H H' : Hp} {ta tb te tx : TE} {t u : TT} {x y z v : V} {r : R2} {D : Ends} {tu tw tz : TS} {g : TG}
def TupsAt (H : Hp) (rs : List Addr) (vss : List (List V)) : Prop := Paired (fun r vs => H r = some (.tup vs)) rs vss
theorem TupsAt.mono {H H' : Hp} (e : Ex H H') : ∀ {rs : List Addr} {vss : List (List V)}, TupsAt H rs vss → TupsAt H' rs vss
  | _, _, .nil => .nil
  | _, _, .cons h t => .cons (e _ _ h) (TupsAt.mono e t)
theorem TupsAt.get {H : Hp} : ∀ {rs : List Addr} {vss : List (List V)} {i : Nat} {x : V}, TupsAt H rs vss → (rs.map V.ref)[i]? = some x → ∃ r vs, x = .ref r ∧ vss[i]? = some vs ∧ H r = some (.tup vs)
  | _, _, _, _, .nil, e => by simp at e
  | _, _, 0, x, .cons h t, e => by
    simp at e
    exact ⟨_, _, e.symm, rfl, h⟩
  | _, _, i + 1, x, .cons h t, e => by
    have e2 := TupsAt.get (i := i) (x := x) t (by simpa using e)
    obtain ⟨r, vs, h1, h2, h3⟩ := e2
    exact ⟨r, vs, h1, by simpa using h2, h3⟩
theorem TupsAt.len {H : Hp} {rs : List Addr} {vss : List (List V)} (h : TupsAt H rs vss) : rs.length = vss.length := Paired.length h
def EvAT (ta : TA) (σ : L2.St) (H : Hp) (vss : List (List V)) : Prop := ∀ H1, Ex H H1 → ∀ Q : List V → Hp → Prop, (∀ rs H2, Ex H1 H2 → TupsAt H2 rs vss → Q (rs.map V.ref) H2) → ta σ H1 Q
theorem eat_nil : EvAT tNil σ H [] := fun H1 _ _ q => q [] H1 (Ex.refl H1) .nil
theorem eat_cons {tr : TA} {vs : List V} {vss : List (List V)} (h : EvU te σ H vs) (hr : EvAT tr σ H vss) : EvAT (tCons te tr) σ H (vs :: vss) := fun H1 e _ q =>
  h H1 e _ fun p H2 _ e2 hp => hr H2 (e.trans e2) _ fun rs H3 e3 ht => q (p :: rs) H3 (e2.trans e3) (.cons (e3 _ _ hp) ht)
/-- for a, b in [(..), (..)] where the turns leave what stood as it was -/
theorem s_forLT {ta : TA} {n : Nat} {tg : TGs} {vss : List (List V)} (h : EvAT ta σ H vss) (hz : vss.length ≤ 1000) (hn : ∀ vs ∈ vss, vs.length = n) (Pv : Nat → L2.St → Prop) (h0 : Pv 0 σ)
    (hs : ∀ i vs σ' H' (N : L2.St → Hp → Prop), vss[i]? = some vs → Pv i σ' → Ex H H' → (∀ σ3 H3, Pv (i + 1) σ3 → Ex H' H3 → N σ3 H3) → tg vs σ' H' fun σ2 H2 => tu { D with nx := N, ct := N, bk := D.nx } σ2 H2)
    (hd : ∀ σ' H', Pv vss.length σ' → Ex H H' → D.nx σ' H') : tFor (iList K (tLst ta)) (gTup K n tg) tu D σ H :=
  h H (Ex.refl H) _ fun rs H1 e1 ht => ⟨sz_of (by rw [List.length_map, ht.len]; omega), fun p np =>
    have e2 : Ex H1 (upd H1 p (.lst (rs.map V.ref))) := Ex.new np
    ⟨p, rfl, ⟨_, sq_of upd_same⟩, for_list (K := K) (a := p) (xs := rs.map V.ref) (fun i σ' H' => Pv i σ' ∧ Ex (upd H1 p (.lst (rs.map V.ref))) H') ⟨h0, Ex.refl _⟩ (fun i σ' H' _ q => sq_of (q.2 _ _ upd_same))
      (fun i x σ' H' hi q => by
        obtain ⟨a, vs, rfl, hv, ha⟩ := (ht.mono (e2.trans q.2)).get hi
        refine ⟨a, vs, rfl, st_of ha, hn vs (List.mem_of_getElem? hv), ?_⟩
        exact hs i vs σ' H' _ hv q.1 ((e1.trans e2).trans q.2) fun σ3 H3 p3 e3 => ⟨p3, q.2.trans e3⟩)
      (fun σ' H' q => hd σ' H' (by rw [List.length_map, ht.len] at q; exact q.1) ((e1.trans e2).trans q.2))⟩⟩
theorem q_forLT {ta : TA} {n : Nat} {tg : TGs} {vss : List (List V)} (h : EvAT ta σ H vss) (hz : vss.length ≤ 1000) (hn : ∀ vs ∈ vss, vs.length = n) (Pv : Nat → L2.St → Prop) (h0 : Pv 0 σ)
    (hs : ∀ i vs σ' H' (N : L2.St → Hp → Prop), vss[i]? = some vs → Pv i σ' → Ex H H' → (∀ σ3 H3, Pv (i + 1) σ3 → Ex H' H3 → N σ3 H3) → tg vs σ' H' fun σ2 H2 => tu { D with nx := N, ct := N, bk := tz D } σ2 H2)
    (hd : ∀ σ' H', Pv vss.length σ' → Ex H H' → tz D σ' H') : tSeq (tFor (iList K (tLst ta)) (gTup K n tg) tu) tz D σ H := s_forLT (D := { D with nx := tz D }) h hz hn Pv h0 hs hd
theorem rv_fdivN {a b : Nat} (h : 0 < b ∧ b < 1073741824) : RV (rI CDiv fun i j => .int (i / j)) (.int (a : Int)) (.int (b : Int)) H (.int ((a / b : Nat) : Int)) := by
  have e : (.int ((a / b : Nat) : Int) : V) = .int ((a : Int) / (b : Int)) := by rw [Int.natCast_ediv]
  rw [e]
  exact rv_I (C := CDiv) ⟨by omega, by omega⟩
theorem dec_ne {a b : Int} (h : a = b) : (!decide (V.int a = V.int b)) = false := by rw [h]; simp
end
/-! ### facts of the top -/
def cst (mg : Str → Option Value) (x : Str) : Value := (mg x).getD .none
theorem cst_int {mg : Str → Option Value} {x : Str} {i : Int} (h : ∃ t, mg x = some (.int i t)) : mg x = some (cst mg x) ∧ RelV (.int i) (cst mg x) := by
  obtain ⟨t, e⟩ := h
  have e2 : cst mg x = .int i t := by
    unfold cst
    rw [e] <;> rfl
  rw [e2]
  exact ⟨e, t, rfl⟩
theorem tup_ok {K : PySem.W.Frag} {x : Str} {l : List Nat} (h : He.tupB K x (l.map fun (n : Nat) => He.Dv.int (n : Int)) = true) (H : Hp) : SqT K H (He.ga K x) (l.map nV) := by
  have z := He.tupB_ok h H
  rw [List.map_map] at z
  exact z
def exc_b (K : PySem.W.Frag) (D : Addr) : Bool := He.eqO (PySem.W.findIn K (.ref D) "__getattribute__") (some (some (.builtin "BaseException.__getattribute__"))) && (He.eqO (PySem.W.findIn K (.ref D) "__getattr__") (some none) &&
  (decide (PySem.W.subIn K (.ref D) (.type "BaseException") = some true) && (PySem.W.hasDictIn K D && (He.eqO (PySem.W.findIn K (.ref D) "__class__") (some (some (.builtin "object.__class__"))) &&
  (He.eqO (PySem.W.specialIn K (.builtin "object.__class__") "__get__") (some (some (.builtin "getset_descriptor.__get__"))) && (decide (PySem.W.takesIn K (.builtin "object.__class__") = some true) && decide (PySem.W.mroIn K D (.type "object") = some true)))))))
theorem exc_bk {K : PySem.W.Frag} {D : Addr} (h : exc_b K D = true) : ExcC K D := by
  obtain ⟨h1, h⟩ := He.ba h
  obtain ⟨h2, h⟩ := He.ba h
  obtain ⟨h3, h⟩ := He.ba h
  obtain ⟨h4, h⟩ := He.ba h
  obtain ⟨h5, h⟩ := He.ba h
  obtain ⟨h6, h⟩ := He.ba h
  obtain ⟨h7, h8⟩ := He.ba h
  exact ⟨He.eqO_ok h1, He.eqO_ok h2, of_decide_eq_true h3, h4, He.eqO_ok h5, He.eqO_ok h6, of_decide_eq_true h7, of_decide_eq_true h8⟩
theorem all_at {l : List Bool} (h : l.all id = true) (i : Nat) {b : Bool} (e : l[i]? = some b) : b = true := List.all_eq_true.mp h b (List.mem_of_getElem? e)
/-- the def of that name stands there -/
abbrev FnA (K : PySem.W.Frag) (x : Str) (st : Stmt) (fd : FuncData) : Prop := FunD K x x (defArgs st) (defBody st) (defScope st) [] [] (He.ga K x) fd
def FnAt (K : PySem.W.Frag) (x : Str) (st : Stmt) : Prop := ∃ fd, FnA K x st fd
theorem fnat_eq {K : PySem.W.Frag} {x : Str} {st : Stmt} {fd fd2 : FuncData} (F : FnA K x st fd) (F2 : FnA K x st fd2) : fd = fd2 := by
  obtain ⟨oc, od, dV, kV, doc, pm, an, cdv, ct, osl, _, lk, _⟩ := F.ex
  obtain ⟨oc2, od2, dV2, kV2, doc2, pm2, an2, cdv2, ct2, osl2, _, lk2, _⟩ := F2.ex
  rw [lk] at lk2
  have e := Option.some.inj lk2
  injection e with e1 e2 e3 e4
  injection e3
/-- a def at a global's name keeps its promise and takes its arguments by place -/
def Okf (P : Program) (w : World) (K : PySem.W.Frag) (mg : Str → Option Value) (base : Heap) (CX : CXT) (k : Nat) (x : Str) (st : Stmt) (ps : List Str) (sp : Sp) : Prop :=
  ∃ fd, FnOk P w K mg base CX k (He.ga K x) fd ps sp ∧ Binds K fd ps [] ∧ FnA K x st fd
end Mx

set_option Elab.async false
set_option linter.all false
namespace Py
open Gf
/-- the item at a place, 0 beyond -/
abbrev at0 (p : List Nat) (k : Nat) : Nat := p.getD k 0
def Oc (p : List Nat) : Prop := ∀ k, at0 p k < 256
theorem at0_get {p : List Nat} {k : Nat} (h : k < p.length) : p[k]? = some (at0 p k) := by
  unfold at0
  rw [List.getD_eq_getElem?_getD, List.getElem?_eq_getElem h] <;> rfl
theorem at0_none {p : List Nat} {k : Nat} (h : p.length ≤ k) : at0 p k = 0 := by
  unfold at0
  rw [List.getD_eq_getElem?_getD, List.getElem?_eq_none h] <;> rfl
theorem at0_of {p : List Nat} {k v : Nat} (h : p[k]? = some v) : at0 p k = v := by
  unfold at0
  rw [List.getD_eq_getElem?_getD, h] <;> rfl
theorem oc_of {p : List Nat} (h : ∀ c ∈ p, c < 256) : Oc p := fun k => by
  by_cases q : k < p.length
  · exact h _ (List.mem_of_getElem? (at0_get q))
  · rw [at0_none (by omega)]
    decide
theorem Oc.mem {p : List Nat} (h : Oc p) : ∀ c ∈ p, c < 256 := fun c hc => by
  obtain ⟨k, hk, e⟩ := List.mem_iff_getElem.mp hc
  have := h k
  rw [at0_of (List.getElem?_eq_getElem hk), e] at this
  exact this
theorem oc_nil : Oc [] := fun k => by
  rw [at0_none (Nat.zero_le _)]
  decide
theorem Oc.append {p q : List Nat} (h : Oc p) (h2 : Oc q) : Oc (p ++ q) := oc_of fun c hc => by
  rcases List.mem_append.mp hc with z | z
  · exact h.mem c z
  · exact h2.mem c z
theorem Oc.take {p : List Nat} (h : Oc p) (n : Nat) : Oc (p.take n) := oc_of fun c hc => h.mem c (List.mem_of_mem_take hc)
theorem oc_zeros (n : Nat) : Oc (List.replicate n 0) := oc_of fun c hc => by
  rw [List.eq_of_mem_replicate hc]
  decide
theorem oc_map {f : Nat → Nat} (h : ∀ k, f k < 256) (n : Nat) : Oc ((List.range n).map f) := oc_of fun c hc => by
  obtain ⟨j, _, e⟩ := List.mem_map.mp hc
  rw [← e]
  exact h j
theorem at0_map {f : Nat → Nat} {n k : Nat} : at0 ((List.range n).map f) k = if k < n then f k else 0 := by
  by_cases h : k < n
  · rw [if_pos h, at0_of (Gf.range_at h)]
  · rw [if_neg h, at0_none (by simpa using h)]
/-- two lists of one length that agree at every place -/
theorem ext0 {p q : List Nat} (hl : p.length = q.length) (h : ∀ k, k < p.length → at0 p k = at0 q k) : p = q := by
  refine List.ext_getElem? fun k => ?_
  by_cases hk : k < p.length
  · rw [at0_get hk, at0_get (hl ▸ hk), h k hk]
  · rw [List.getElem?_eq_none (by omega), List.getElem?_eq_none (by omega)]
theorem self_map (p : List Nat) : p = (List.range p.length).map (at0 p) := ext0 (by simp) fun k hk => by rw [at0_map, if_pos hk]
/-! ### the length without the zeros at the end -/
def tlen : List Nat → Nat
  | [] => 0
  | c :: p => if tlen p = 0 then (if c = 0 then 0 else 1) else tlen p + 1
def trim (p : List Nat) : List Nat := p.take (tlen p)
theorem tlen_le : ∀ p, tlen p ≤ p.length
  | [] => Nat.le_refl _
  | c :: p => by
    have := tlen_le p
    unfold tlen
    split
    · split
      · exact Nat.zero_le _
      · simp
    · simp
      omega
theorem tlen_zero : ∀ (p : List Nat) (k : Nat), tlen p ≤ k → at0 p k = 0
  | [], k, _ => at0_none (Nat.zero_le _)
  | c :: p, k, h => by
    unfold tlen at h
    by_cases q : tlen p = 0
    · rw [if_pos q] at h
      cases k with
      | zero =>
        by_cases z : c = 0
        · exact z
        · rw [if_neg z] at h
          omega
      | succ k => exact tlen_zero p k (by omega)
    · rw [if_neg q] at h
      cases k with
      | zero => omega
      | succ k => exact tlen_zero p k (by omega)
theorem tlen_last : ∀ p : List Nat, tlen p = 0 ∨ ¬ at0 p (tlen p - 1) = 0
  | [] => .inl rfl
  | c :: p => by
    by_cases q : tlen p = 0
    · by_cases z : c = 0
      · exact .inl (by unfold tlen; rw [if_pos q, if_pos z])
      · refine .inr ?_
        have e : tlen (c :: p) = 1 := by
          unfold tlen
          rw [if_pos q, if_neg z]
        rw [e]
        exact z
    · refine .inr ?_
      have e : tlen (c :: p) = tlen p + 1 := by
        show (if tlen p = 0 then _ else _) = _
        rw [if_neg q]
      rw [e]
      have h := (tlen_last p).resolve_left q
      have e2 : tlen p + 1 - 1 = (tlen p - 1) + 1 := by omega
      rw [e2]
      exact h
theorem tlen_eq {p : List Nat} {m : Nat} (h : ∀ k, m ≤ k → at0 p k = 0) (h2 : m = 0 ∨ ¬ at0 p (m - 1) = 0) : tlen p = m := by
  have a : tlen p ≤ m := by
    rcases tlen_last p with q | q
    · omega
    · by_cases z : tlen p ≤ m
      · exact z
      · exact absurd (h _ (by omega)) q
  have b : m ≤ tlen p := by
    rcases h2 with q | q
    · omega
    · by_cases z : m ≤ tlen p
      · exact z
      · exact absurd (tlen_zero p _ (by omega)) q
  omega
theorem trim_length (p : List Nat) : (trim p).length = tlen p := by
  unfold trim
  rw [List.length_take]
  have := tlen_le p
  omega
/-! ### the value at a place -/
def horner (x : Nat) : List Nat → Nat
  | [] => 0
  | c :: p => gm (horner x p) x ^^^ c
theorem horner_lt {x : Nat} : ∀ {p : List Nat}, Oc p → horner x p < 256
  | [], _ => show (0 : Nat) < 256 by decide
  | c :: p, h => xor_lt (gm_lt _ _) (h 0)
theorem Oc.tail {c : Nat} {p : List Nat} (h : Oc (c :: p)) : Oc p := fun k => h (k + 1)
theorem Oc.drop {p : List Nat} (h : Oc p) (n : Nat) : Oc (p.drop n) := oc_of fun c hc => h.mem c (List.mem_of_mem_drop hc)
def vstep (x : Nat) (s : Nat × Nat) (c : Nat) : Nat × Nat := (s.1 ^^^ gm c s.2, gm s.2 x)
theorem vfold {x : Nat} (hx : x < 256) : ∀ (p : List Nat) (s : Nat × Nat), Oc p → s.2 < 256 → (p.foldl (vstep x) s).1 = s.1 ^^^ gm s.2 (horner x p)
  | [], s, _, _ => by
    show s.1 = s.1 ^^^ gm s.2 0
    rw [gm_zero (.inr rfl), Nat.xor_zero]
  | c :: p, s, h, hs => by
    show (p.foldl (vstep x) (vstep x s c)).1 = _
    rw [vfold hx p _ h.tail (gm_lt _ _)]
    show (s.1 ^^^ gm c s.2) ^^^ gm (gm s.2 x) (horner x p) = s.1 ^^^ gm s.2 (gm (horner x p) x ^^^ c)
    rw [gm_xor (b := gm (horner x p) x) (c := c) (gm_lt _ _) (h 0), gm_assoc, gm_comm x, gm_comm c, Nat.xor_assoc, Nat.xor_comm (gm s.2 c)]
theorem vfold_eq {x : Nat} (hx : x < 256) {p : List Nat} (h : Oc p) : (p.foldl (vstep x) (0, 1)).1 = horner x p := by
  rw [vfold hx p _ h (by decide)]
  show 0 ^^^ gm 1 (horner x p) = _
  rw [Nat.zero_xor, gm_comm, gm_one (horner_lt h)]
theorem vfold_lt {x : Nat} : ∀ (p : List Nat) (s : Nat × Nat), s.1 < 256 → s.2 < 256 → (p.foldl (vstep x) s).1 < 256 ∧ (p.foldl (vstep x) s).2 < 256
  | [], s, h1, h2 => ⟨h1, h2⟩
  | c :: p, s, h1, h2 => vfold_lt p _ (xor_lt h1 (gm_lt _ _)) (gm_lt _ _)
/-! ### sums and products -/
def mx (a b : Nat) : Nat := if b > a then b else a
def sumL (p q : List Nat) : List Nat := (List.range (mx p.length q.length)).map fun k => at0 p k ^^^ at0 q k
def acc (p q : List Nat) : Nat → Nat → Nat
  | 0, _ => 0
  | j + 1, k => acc p q j k ^^^ (if j ≤ k then gm (at0 p j) (at0 q (k - j)) else 0)
theorem acc_lt (p q : List Nat) : ∀ j k, acc p q j k < 256
  | 0, _ => show (0 : Nat) < 256 by decide
  | j + 1, k => by
    unfold acc
    refine xor_lt (acc_lt p q j k) ?_
    split
    · exact gm_lt _ _
    · decide
def prodL (p q : List Nat) : List Nat := (List.range (p.length + q.length)).map (acc p q p.length)
theorem set_map {f : Nat → Nat} {n k v : Nat} : ((List.range n).map f).set k v = (List.range n).map fun t => if t = k then v else f t := by
  refine List.ext_getElem? fun t => ?_
  rw [List.getElem?_set, List.length_map, List.length_range, List.getElem?_map, List.getElem?_map]
  by_cases h : t < n
  · rw [List.getElem?_range h]
    by_cases q : k = t
    · subst q
      rw [if_pos rfl, if_pos h]
      simp
    · rw [if_neg q]
      simp [show ¬ t = k from fun z => q z.symm]
  · rw [List.getElem?_eq_none (l := List.range n) (by simpa using h)]
    by_cases q : k = t
    · subst q
      rw [if_pos rfl, if_neg h]
      rfl
    · rw [if_neg q]
      rfl
theorem slice_map {f : Nat → Nat} {n a w : Nat} {ys : List Nat} (hy : ys.length = w) (h : a + w ≤ n) :
    ((List.range n).map f).take a ++ ys ++ ((List.range n).map f).drop (a + w) = (List.range n).map fun t => if a ≤ t ∧ t < a + w then at0 ys (t - a) else f t := by
  refine ext0 (by simp; omega) fun t ht => ?_
  have hn : t < n := by
    simp at ht
    omega
  rw [at0_map, if_pos hn]
  by_cases h1 : t < a
  · rw [if_neg (by omega)]
    refine at0_of ?_
    rw [List.append_assoc, List.getElem?_append_left (by simp; omega), List.getElem?_take_of_lt h1]
    exact Gf.range_at hn
  · by_cases h2 : t < a + w
    · rw [if_pos (by omega)]
      refine at0_of ?_
      rw [List.getElem?_append_left (by simp; omega), List.getElem?_append_right (by simp; omega)]
      have e : t - ((List.range n).map f |>.take a).length = t - a := by simp; omega
      rw [e]
      exact at0_get (by omega)
    · rw [if_neg (by omega)]
      refine at0_of ?_
      rw [List.getElem?_append_right (by simp; omega), List.getElem?_drop]
      have e : a + w + (t - (((List.range n).map f |>.take a) ++ ys).length) = t := by simp; omega
      rw [e]
      exact Gf.range_at hn
/-! ### the product's sum, turned round -/
def xs (f : Nat → Nat) : Nat → Nat
  | 0 => 0
  | n + 1 => xs f n ^^^ f n
theorem acc_xs (p q : List Nat) (k : Nat) : ∀ n, acc p q n k = xs (fun j => if j ≤ k then gm (at0 p j) (at0 q (k - j)) else 0) n
  | 0 => rfl
  | n + 1 => by
    show acc p q n k ^^^ _ = xs _ n ^^^ _
    rw [acc_xs p q k n]
theorem xs_more {f : Nat → Nat} {n : Nat} (h : ∀ j, n ≤ j → f j = 0) : ∀ d, xs f (n + d) = xs f n
  | 0 => rfl
  | d + 1 => by
    show xs f (n + d) ^^^ f (n + d) = _
    rw [xs_more h d, h _ (by omega), Nat.xor_zero]
theorem xs_congr {f g : Nat → Nat} : ∀ {n : Nat}, (∀ j, j < n → f j = g j) → xs f n = xs g n
  | 0, _ => rfl
  | n + 1, h => by
    show xs f n ^^^ f n = xs g n ^^^ g n
    rw [xs_congr fun j hj => h j (by omega), h n (by omega)]
theorem xs_front (f : Nat → Nat) : ∀ n, xs f (n + 1) = f 0 ^^^ xs (fun j => f (j + 1)) n
  | 0 => by
    show 0 ^^^ f 0 = f 0 ^^^ 0
    rw [Nat.zero_xor, Nat.xor_zero]
  | n + 1 => by
    show xs f (n + 1) ^^^ f (n + 1) = f 0 ^^^ (xs (fun j => f (j + 1)) n ^^^ f (n + 1))
    rw [xs_front f n, Nat.xor_assoc]
theorem xs_rev : ∀ (n : Nat) (f : Nat → Nat), xs (fun j => f (n - j)) (n + 1) = xs f (n + 1)
  | 0, _ => rfl
  | n + 1, f => by
    show xs (fun j => f (n + 1 - j)) (n + 1) ^^^ f (n + 1 - (n + 1)) = _
    rw [Nat.sub_self, xs_front f (n + 1), ← xs_rev n fun j => f (j + 1), Nat.xor_comm]
    congr 1
    exact xs_congr fun j hj => by
      have e : n + 1 - j = n - j + 1 := by omega
      rw [e]
theorem acc_full (p q : List Nat) (k : Nat) : acc p q p.length k = xs (fun j => gm (at0 p j) (at0 q (k - j))) (k + 1) := by
  rw [acc_xs]
  have e : xs (fun j => gm (at0 p j) (at0 q (k - j))) (k + 1) = xs (fun j => if j ≤ k then gm (at0 p j) (at0 q (k - j)) else 0) (k + 1) := xs_congr fun j hj => by rw [if_pos (by omega)]
  rw [e]
  by_cases h : p.length ≤ k + 1
  · have z : k + 1 = p.length + (k + 1 - p.length) := by omega
    rw [z]
    refine (xs_more (fun j hj => ?_) _).symm
    rw [at0_none hj, gm_zero (.inl rfl)]
    split <;> rfl
  · have z : p.length = k + 1 + (p.length - (k + 1)) := by omega
    rw [z]
    refine xs_more (fun j hj => ?_) _
    rw [if_neg (by omega)]
theorem acc_comm (p q : List Nat) (k : Nat) : acc p q p.length k = acc q p q.length k := by
  rw [acc_full, acc_full, ← xs_rev]
  exact xs_congr fun j hj => by
    have e : k - (k - j) = j := by omega
    rw [e, gm_comm]
theorem prod_comm (p q : List Nat) : prodL p q = prodL q p := by
  unfold prodL
  rw [Nat.add_comm p.length]
  exact List.map_congr_left fun k _ => acc_comm p q k
theorem oc_trim {p : List Nat} (h : Oc p) : Oc (trim p) := h.take _
theorem oc_sum {p q : List Nat} (h : Oc p) (h2 : Oc q) : Oc (sumL p q) := oc_map (fun k => xor_lt (h k) (h2 k)) _
theorem oc_prod (p q : List Nat) : Oc (prodL p q) := oc_map (fun k => acc_lt p q _ k) _
end Py

set_option Elab.async false
set_option linter.all false
set_option maxRecDepth 100000
set_option maxHeartbeats 4000000
namespace Mx
open PySem PySem.Spec PyProof.Rows L2 Evl
section
variable {X : Cx}
theorem op_mul_bb : OpR X (binaryOp .Mult) (fun x y H Q => ∃ a b : Bool, x = .bl a ∧ y = .bl b ∧ Q (.int (b2i a * b2i b)) H) := by
  intro pins s σ H x y v u Q I rx ry h
  obtain ⟨a, b, rfl, rfl, q⟩ := h
  cases rx
  cases ry
  exact mul_bool ⟨.int (b2i a * b2i b), H, I.tok _, ⟨_, rfl⟩, q⟩
theorem op_mul_bi : OpR X (binaryOp .Mult) (fun x y H Q => ∃ (a : Bool) (b : Int), x = .bl a ∧ y = .int b ∧ Q (.int (b2i a * b)) H) := by
  intro pins s σ H x y v u Q I rx ry h
  obtain ⟨a, b, rfl, rfl, q⟩ := h
  cases rx
  obtain ⟨t, rfl⟩ := ry
  exact PySem.IntBool.mul_bool_int ⟨.int (b2i a * b), H, I.tok _, ⟨_, rfl⟩, q⟩
section
variable {K : PySem.W.Frag}
/-! the rules that name the written part, with its name given: within a comprehension's block the context is another one, the part is not -/
theorem pt_truthK {a : Expr} {ta : TE} (h : X.K = K) (ha : PE X a ta) (he : ∀ whole, isTrue a X.env whole = (do let v ← whole; standAt a.pos; holding [v] (truthy v))) :
    PT X a (fun σ H Q => ta σ H fun x H' => ∃ k, TruV K x H' k ∧ Q k H') := h ▸ pt_truth ha he
theorem pg_tupK {es : List Expr} {k : Nat} {t : TGs} {n : Nat} {pos : Pos} (hK : X.K = K) (hc : X.calm = true) (h : PGs X es t)
    (hn : (assignEach es X.env).length = n := by rfl) (hst : (assignEach es X.env).findIdx? (·.1) = none := by rfl) : PG X (.Tuple es k pos) (gTup K n t) := hK ▸ pg_tup hc h hn hst
theorem ix_tupK (h : X.K = K) : IxR X (rIxT K) := h ▸ ix_tup
theorem ix_listK (h : X.K = K) : IxR X (rIxL K) := h ▸ ix_list
theorem sl_listK (h : X.K = K) : SlR X (rSlL K) := h ▸ sl_list
theorem sl_tupK (h : X.K = K) : SlR X (rSlT K) := h ▸ sl_tup
theorem call_isiK' (h : X.K = K) : CallR X (.builtin "isinstance") (rIsi K) := h ▸ call_isi
theorem call_lenK (h : X.K = K) : CallR X (.builtin "len") (fun xs H Q => ∃ p ys, xs = [.ref p] ∧ (SqL K H p ys ∨ SqT K H p ys) ∧ Q (.int ys.length) H) := h ▸ call_len_seq
theorem call_list_ofK (h : X.K = K) : CallR X (.type "list") (fun xs H Q => ∃ p ys, xs = [.ref p] ∧ (SqL K H p ys ∨ SqT K H p ys) ∧ ∀ l, H l = none → Q (.ref l) (upd H l (.lst ys))) := h ▸ call_list_of
theorem op_eqDK (h : X.K = K) (hu : X.A.units + 64 < cLine) : OpR X (compareOp .Eq) (rEqD K) := h ▸ op_eqD hu
theorem op_neDK (h : X.K = K) (hu : X.A.units + 64 < cLine) : OpR X (compareOp .NotEq) (rNeD K) := h ▸ op_neD hu
end
/-- o[lo:hi] = another list, within the bounds -/
def gSetSl (to : TE) (tl th : TO) : TG := fun v σ H Q => to σ H fun o H1 => tl σ H1 fun l H2 => th σ H2 fun u H3 => ∃ (p b : Addr) (xs ys : List V) (a c : Int), o = .ref p ∧ v = .ref b ∧ l = some a ∧ u = some c ∧
  H3 p = some (.lst xs) ∧ H3 b = some (.lst ys) ∧ p ≠ b ∧ 0 ≤ a ∧ a ≤ c ∧ c ≤ xs.length ∧ xs.length + ys.length ≤ sizeLine ∧ Q σ (upd H3 p (.lst (xs.take a.toNat ++ ys ++ xs.drop c.toNat)))
theorem pg_setSl {o : Expr} {lo hi : Option Expr} {to : TE} {tl th : TO} {p2 pos : Pos} (ho : PE X o to) (hl : PO X lo tl) (hu : PO X hi th)
    (ha : ∀ v, assign (.Subscript o (.Slice lo hi none p2) pos) X.env v = (do
      let ov ← holding [v] (eval o X.env)
      let iv ← holding [v, ov] (eval (.Slice lo hi none p2) X.env)
      standAt pos
      holding [v, ov, iv] (setItem ov iv v)
      release [iv, v, ov] []) := by intro _; rfl) : PG X (.Subscript o (.Slice lo hi none p2) pos) (gSetSl to tl th) := by
  refine ⟨fun pins s σ H v u Q I r h => ?_⟩
  rw [ha]
  refine wpAny_bind (wpAny_holding (thn (ho.run pins s σ H _ I h) fun ov s1 ⟨x, H1, I1, r1, q1⟩ => ?_))
  refine wpAny_bind (wpAny_holding ?_)
  refine wpAny_Slice (thn (hl.run pins s1 σ H1 _ I1 q1) fun vl s2 ⟨l, H2, I2, pl, q2⟩ => thn (hu.run pins s2 σ H2 _ I2 q2) fun vu s3 ⟨w, H3, I3, pu, q3⟩ => ?_)
  rw [evalPart_none]
  refine wpAny_pure ?_
  have I4 : Inv X pins σ H3 { s3 with heap := s3.heap.push { cls := .type "slice", data := .fields #[vl, vu, .none] } } := I3.kept (t' := s3.toks) fun b ob q => Heap.get?_push_of_some _ q
  obtain ⟨p, b, xs, ys, a, c, rfl, rfl, rfl, rfl, hp, hb, hne, h0, hac, hc, hz, q4⟩ := q3
  cases r1
  cases r
  cases pl with
  | int i t =>
    cases pu with
    | int j t2 =>
      refine wpAny_bind (wpAny_standAt (wpAny_bind (wpAny_holding (set_slice I4 hp hb hne (Heap.IsSliceOf.new ..) ⟨t, rfl⟩ ⟨t2, rfl⟩ h0 hac hc hz fun s' I' => ?_))))
      exact wpAny_release ⟨σ, _, I', q4⟩
end
/-! ### more of what evaluates to what: lists -/
section
variable {K : PySem.W.Frag} {σ : L2.St} {H H' : Hp} {ta tb te tx : TE} {t u : TT} {x y z v : V} {r : R2} {xs ys zs : List V} {p q : Addr}
theorem rv_bb {a b : Bool} : RV (fun x y H Q => ∃ a b : Bool, x = .bl a ∧ y = .bl b ∧ Q (.int (b2i a * b2i b)) H) (.bl a) (.bl b) H (.int (b2i a * b2i b)) := fun H1 _ _ q => ⟨a, b, rfl, rfl, q H1 (Ex.refl H1)⟩
theorem rv_bi {a : Bool} {b : Int} : RV (fun x y H Q => ∃ (a : Bool) (b : Int), x = .bl a ∧ y = .int b ∧ Q (.int (b2i a * b)) H) (.bl a) (.int b) H (.int (b2i a * b)) := fun H1 _ _ q => ⟨a, b, rfl, rfl, q H1 (Ex.refl H1)⟩
/-- list(a list) -/
theorem el_listL (ha : Ev ta σ H (.ref p)) (h : SqL K H p xs) : EvL (tCB (fun xs H Q => ∃ p ys, xs = [.ref p] ∧ (SqL K H p ys ∨ SqT K H p ys) ∧ ∀ l, H l = none → Q (.ref l) (upd H l (.lst ys))) (tCons ta tNil)) σ H xs := el_list ha h
theorem el_listT (ha : Ev ta σ H (.ref p)) (h : SqT K H p xs) : EvL (tCB (fun xs H Q => ∃ p ys, xs = [.ref p] ∧ (SqL K H p ys ∨ SqT K H p ys) ∧ ∀ l, H l = none → Q (.ref l) (upd H l (.lst ys))) (tCons ta tNil)) σ H xs := fun H1 e Q q =>
  ha H1 e _ fun H2 e2 => ⟨p, xs, rfl, Or.inr (ex_t (e.trans e2) h), fun l hl => q l _ (fresh_back e2 hl) (e2.trans (Ex.new hl)) upd_same⟩
theorem el_listN (ha : EvL ta σ H xs) : EvL (tCB (fun xs H Q => ∃ p ys, xs = [.ref p] ∧ (SqL K H p ys ∨ SqT K H p ys) ∧ ∀ l, H l = none → Q (.ref l) (upd H l (.lst ys))) (tCons ta tNil)) σ H xs := fun H1 e Q q =>
  ha H1 e _ fun p H2 np e2 hp => ⟨p, xs, rfl, Or.inl (sq_of hp), fun l hl => q l _ (fresh_back e2 hl) (e2.trans (Ex.new hl)) upd_same⟩
theorem ev_lenN2 (ha : EvL ta σ H xs) : Ev (tCB (fun xs H Q => ∃ p ys, xs = [.ref p] ∧ (SqL K H p ys ∨ SqT K H p ys) ∧ Q (.int ys.length) H) (tCons ta tNil)) σ H (.int (xs.length : Int)) := ev_lenN ha
/-- a new list + a new list, a list that stands + a new one -/
theorem el_catLL (ha : EvL ta σ H xs) (hb : EvL tb σ H ys) (hz : xs.length + ys.length ≤ 100000) : EvL (tOp rCat ta tb) σ H (xs ++ ys) := fun H1 e Q k =>
  ha H1 e _ fun p H2 np e2 hp => hb H2 (e.trans e2) _ fun q H3 nq e3 hq => ⟨p, q, xs, ys, rfl, rfl, e3 p _ hp, hq, sz_of hz, fun l hl => k l _ (fresh_back (e2.trans e3) hl) ((e2.trans e3).trans (Ex.new hl)) upd_same⟩
theorem el_catVL (ha : Ev ta σ H (.ref p)) (h : H p = some (.lst xs)) (hb : EvL tb σ H ys) (hz : xs.length + ys.length ≤ 100000) : EvL (tOp rCat ta tb) σ H (xs ++ ys) := fun H1 e Q k =>
  ha H1 e _ fun H2 e2 => hb H2 (e.trans e2) _ fun q H3 nq e3 hq => ⟨p, q, xs, ys, rfl, rfl, e3 p _ (e2 p _ (e p _ h)), hq, sz_of hz, fun l hl => k l _ (fresh_back (e2.trans e3) hl) ((e2.trans e3).trans (Ex.new hl)) upd_same⟩
theorem el_catLV (ha : EvL ta σ H xs) (hb : Ev tb σ H (.ref q)) (h : H q = some (.lst ys)) (hz : xs.length + ys.length ≤ 100000) : EvL (tOp rCat ta tb) σ H (xs ++ ys) := fun H1 e Q k =>
  ha H1 e _ fun p H2 np e2 hp => hb H2 (e.trans e2) _ fun H3 e3 => ⟨p, q, xs, ys, rfl, rfl, e3 p _ hp, e3 q _ (e2 q _ (e q _ h)), sz_of hz, fun l hl => k l _ (fresh_back (e2.trans e3) hl) ((e2.trans e3).trans (Ex.new hl)) upd_same⟩
theorem el_catVV (ha : Ev ta σ H (.ref p)) (h : H p = some (.lst xs)) (hb : Ev tb σ H (.ref q)) (h2 : H q = some (.lst ys)) (hz : xs.length + ys.length ≤ 100000) : EvL (tOp rCat ta tb) σ H (xs ++ ys) := fun H1 e Q k =>
  ha H1 e _ fun H2 e2 => hb H2 (e.trans e2) _ fun H3 e3 => ⟨p, q, xs, ys, rfl, rfl, e3 p _ (e2 p _ (e p _ h)), e3 q _ (e2 q _ (e q _ h2)), sz_of hz, fun l hl => k l _ (fresh_back (e2.trans e3) hl) ((e2.trans e3).trans (Ex.new hl)) upd_same⟩
theorem el_is (h : EvL te σ H xs) (e : xs = ys) : EvL te σ H ys := e ▸ h
theorem flat_one (n : Nat) : (List.replicate n [v]).flatten = List.replicate n v := by
  induction n with
  | zero => rfl
  | succ n ih => rw [List.replicate_succ, List.flatten_cons, ih, List.replicate_succ] <;> rfl
/-- [c] * n -/
theorem el_rep {n : Nat} (ha : EvL ta σ H [v]) (hb : Ev tb σ H (.int (n : Int))) (hz : n ≤ 100000) : EvL (tOp rRep ta tb) σ H (List.replicate n v) := fun H1 e Q k =>
  ha H1 e _ fun p H2 np e2 hp => hb H2 (e.trans e2) _ fun H3 e3 => ⟨p, (n : Int), [v], rfl, rfl, e3 p _ hp, by omega, by omega, by rw [Int.toNat_natCast]; show 1 * n ≤ sizeLine; rw [Nat.one_mul]; exact sz_of hz, fun l hl => by
    rw [Int.toNat_natCast, flat_one]
    exact k l _ (fresh_back (e2.trans e3) hl) ((e2.trans e3).trans (Ex.new hl)) upd_same⟩
theorem map_rep {n : Nat} : List.replicate n (V.int 0) = (List.replicate n 0).map nV := by rw [List.map_replicate] <;> rfl
/-- xs[:n] -/
theorem cut_take {n : Nat} (h : n ≤ xs.length) : cutV xs none (some (n : Int)) = xs.take n := by
  unfold cutV
  rw [HT.sIx_none, HT.sIx_nat, Nat.sub_zero, List.drop_zero, Nat.min_eq_left h]
/-- xs[a:b] -/
theorem cut_mid {a b : Nat} (h : a ≤ b) (h2 : b ≤ xs.length) : cutV xs (some (a : Int)) (some (b : Int)) = (xs.drop a).take (b - a) := by
  unfold cutV
  rw [HT.sIx_nat, HT.sIx_nat, Nat.min_eq_left h2, Nat.min_eq_left (by omega)]
theorem ev_isiL {n : String} {b : Bool} (ha : Ev ta σ H (.ref p)) (hp : H p = some (.lst xs)) (hb : Ev tb σ H (.ty n)) (h : kitB "list" n = some b) : Ev (tCB (rIsi K) (tCons ta (tCons tb tNil))) σ H (.bl b) :=
  ev_isi ha hb (ClsV.ty n) (fun H1 e => .base (.lst (e _ _ hp))) (kit_ty h)
theorem ev_isiT {n : String} {b : Bool} (ha : Ev ta σ H (.ref p)) (hp : H p = some (.tup xs)) (hb : Ev tb σ H (.ty n)) (h : kitB "tuple" n = some b) : Ev (tCB (rIsi K) (tCons ta (tCons tb tNil))) σ H (.bl b) :=
  ev_isi ha hb (ClsV.ty n) (fun H1 e => .base (.tup (e _ _ hp))) (kit_ty h)
/-! ### two data that are one -/
mutual
theorem dp_mono (e : Ex H H') : ∀ (d : PyData) (v : V), Dp K H v d → Dp K H' v d
  | _, _, .non => .non
  | _, _, .bl b => .bl b
  | _, _, .int i => .int i
  | _, _, .str x => .str x
  | .list ds, _, .lst h a => .lst (ex_l e h) (dp_monoAll e ds _ a)
  | .tuple ds, _, .tup h a => .tup (ex_t e h) (dp_monoAll e ds _ a)
theorem dp_monoAll (e : Ex H H') : ∀ (ds : List PyData) (vs : List V), DpAll K H vs ds → DpAll K H' vs ds
  | _, _, .nil => .nil
  | d :: ds, v :: vs, .cons h a => .cons (dp_mono e d v h) (dp_monoAll e ds vs a)
end
theorem shaped_can {d : PyData} (h : SeqAt.shaped d = true) : PyData.eqv d d = true := SeqAt.eqv_refl d (SeqAt.canLay_of_shaped h)
theorem rv_eqD {d : PyData} (h : Dp K H x d) (h2 : Dp K H y d) (hs : SeqAt.shaped d = true) : RV (rEqD K) x y H (.bl true) := fun H1 e Q q =>
  ⟨d, d, dp_mono e _ _ h, dp_mono e _ _ h2, hs, hs, by rw [shaped_can hs]; exact q H1 (Ex.refl H1)⟩
theorem rv_neD {d : PyData} (h : Dp K H x d) (h2 : Dp K H y d) (hs : SeqAt.shaped d = true) : RV (rNeD K) x y H (.bl false) := fun H1 e Q q =>
  ⟨d, d, dp_mono e _ _ h, dp_mono e _ _ h2, hs, hs, by rw [shaped_can hs]; exact q H1 (Ex.refl H1)⟩
def dN (n : Nat) : PyData := .int (n : Int)
theorem dp_nats : ∀ l : List Nat, DpAll K H (l.map nV) (l.map dN)
  | [] => .nil
  | n :: l => .cons (.int (n : Int)) (dp_nats l)
theorem dp_list {l : List Nat} (h : SqL K H p (l.map nV)) : Dp K H (.ref p) (.list (l.map dN)) := .lst h (dp_nats l)
theorem lay_nats : ∀ l : List Nat, PyData.canLayAll0 (l.map dN) = true ∧ PyData.depthAll (l.map dN) = 0
  | [] => ⟨rfl, rfl⟩
  | n :: l => by
    have ih := lay_nats l
    refine ⟨?_, ?_⟩
    · show (PyData.canLay0 (dN n) && PyData.canLayAll0 (l.map dN)) = true
      rw [ih.1] <;> rfl
    · show max (PyData.depth (dN n)) (PyData.depthAll (l.map dN)) = 0
      rw [ih.2] <;> rfl
theorem shaped_nats (l : List Nat) : SeqAt.shaped (.list (l.map dN)) = true := by
  unfold SeqAt.shaped
  have h1 : PyData.canLay0 (.list (l.map dN)) = true := (lay_nats l).1
  have h2 : PyData.depth (.list (l.map dN)) = 1 := by
    show PyData.depthAll (l.map dN) + 1 = 1
    rw [(lay_nats l).2]
  rw [h1, h2] <;> rfl
theorem rv_eqN {l : List Nat} (h : SqL K H p (l.map nV)) (h2 : SqL K H q (l.map nV)) : RV (rEqD K) (.ref p) (.ref q) H (.bl true) := rv_eqD (dp_list h) (dp_list h2) (shaped_nats l)
theorem rv_neN {l : List Nat} (h : SqL K H p (l.map nV)) (h2 : SqL K H q (l.map nV)) : RV (rNeD K) (.ref p) (.ref q) H (.bl false) := rv_neD (dp_list h) (dp_list h2) (shaped_nats l)
/-! ### comprehensions without a test: the list that comes is told by its items -/
def Cz (H : Hp) (zs : List V) (Dl : Addr) (i : Nat) (H' : Hp) : Prop := H Dl = none ∧ Ex H H' ∧ H' Dl = some (.lst (zs.take i))
theorem cz_turn {σ2 : L2.St} {Dl : Addr} {i : Nat} (hp : Cz H zs Dl i H') (hi : zs[i]? = some z) (hz : zs.length ≤ 40000) (he : Ev te σ2 H z) :
    tYes σ2 H' fun b H3 => if b = true then te σ2 H3 fun y H4 => ∃ acc, H4 Dl = some (.lst acc) ∧ acc.length < sizeLine ∧ Cz H zs Dl (i + 1) (upd H4 Dl (.lst (acc ++ [y]))) else Cz H zs Dl (i + 1) H3 := by
  obtain ⟨p1, p2, p3⟩ := hp
  show te σ2 H' fun y H4 => ∃ acc, H4 Dl = some (.lst acc) ∧ acc.length < sizeLine ∧ Cz H zs Dl (i + 1) (upd H4 Dl (.lst (acc ++ [y])))
  refine he H' p2 _ fun H4 e4 => ⟨zs.take i, e4 Dl _ p3, sz_lt (by rw [List.length_take]; omega), p1, Ex.mut (p2.trans e4) p1, ?_⟩
  rw [upd_same, List.take_add_one, hi] <;> rfl
theorem el_zR {ta : TA} {j : Nat} {vs : List Nat} {n : Nat} (h : EvA ta σ H [.int (n : Int)]) (hz : zs.length = n) (hn : n ≤ 40000) (hw : ∀ x, wipe ((wipe σ vs).set j (some x)) vs = wipe σ vs)
    (he : ∀ (i : Nat) (z : V) H1, Ex H H1 → zs[i]? = some z → Ev te ((wipe σ vs).set j (some (.int (i : Int)))) H1 z) : EvL (tLc (iRng1 ta) (gName j) tYes te vs) σ H zs := fun H0 e Q q => h H0 e _ fun H1 e1 => ⟨(n : Int), rfl, by omega, by omega, fun Dl hD =>
  lc_range (lo := 0) (n := (n : Int).toNat) (Cz H1 zs Dl) ⟨hD, Ex.new hD, by rw [upd_same, List.take_zero]⟩ (fun i H' hi p => by
    have e0 : (0 : Int) + (i : Int) = (i : Int) := Int.zero_add _
    have hl : i < zs.length := by omega
    show wipe ((wipe σ vs).set j (some (.int ((0 : Int) + (i : Int))))) vs = wipe σ vs ∧ tYes ((wipe σ vs).set j (some (.int ((0 : Int) + (i : Int))))) H' fun b H3 => if b = true then te ((wipe σ vs).set j (some (.int ((0 : Int) + (i : Int))))) H3 fun y H4 => ∃ acc, H4 Dl = some (.lst acc) ∧ acc.length < sizeLine ∧ Cz H1 zs Dl (i + 1) (upd H4 Dl (.lst (acc ++ [y]))) else Cz H1 zs Dl (i + 1) H3
    rw [e0]
    exact ⟨hw _, cz_turn p (List.getElem?_eq_getElem hl) (by omega) (he i _ H1 (e.trans e1) (List.getElem?_eq_getElem hl))⟩) (fun H' p => q Dl H' (fresh_back e1 p.1) (e1.trans p.2.1) (by rw [p.2.2, List.take_of_length_le (by omega)]))⟩
theorem el_zL {a : Addr} {tl : TE} {j : Nat} {vs : List Nat} (h : Ev tl σ H (.ref a)) (hx : SqL K H a xs) (hz : zs.length = xs.length) (hn : xs.length ≤ 40000) (hw : ∀ x, wipe ((wipe σ vs).set j (some x)) vs = wipe σ vs)
    (he : ∀ (i : Nat) (x z : V) H1, Ex H H1 → xs[i]? = some x → zs[i]? = some z → Ev te ((wipe σ vs).set j (some x)) H1 z) : EvL (tLc (iList K tl) (gName j) tYes te vs) σ H zs := fun H0 e Q q => h H0 e _ fun H1 e1 => ⟨a, rfl, ⟨xs, ex_l (e.trans e1) hx⟩, fun Dl hD =>
  lc_list (xs := xs) (Cz H1 zs Dl) ⟨hD, Ex.new hD, by rw [upd_same, List.take_zero]⟩ (fun i H' _ p => ex_l ((e.trans e1).trans p.2.1) hx) (fun i x H' hi p => by
    have hl : i < zs.length := by rw [hz]; exact (List.getElem?_eq_some_iff.mp hi).1
    exact ⟨hw x, cz_turn p (List.getElem?_eq_getElem hl) (by omega) (he i x _ H1 (e.trans e1) hi (List.getElem?_eq_getElem hl))⟩) (fun H' p => q Dl H' (fresh_back e1 p.1) (e1.trans p.2.1) (by rw [p.2.2, List.take_of_length_le (by omega)]))⟩
theorem el_zNL {tl : TE} {j : Nat} {vs : List Nat} (h : EvL tl σ H xs) (hz : zs.length = xs.length) (hn : xs.length ≤ 40000) (hw : ∀ x, wipe ((wipe σ vs).set j (some x)) vs = wipe σ vs)
    (he : ∀ (i : Nat) (x z : V) H1, Ex H H1 → xs[i]? = some x → zs[i]? = some z → Ev te ((wipe σ vs).set j (some x)) H1 z) : EvL (tLc (iList K tl) (gName j) tYes te vs) σ H zs := fun H0 e Q q => h H0 e _ fun a H1 na e1 hx => ⟨a, rfl, ⟨xs, sq_of hx⟩, fun Dl hD =>
  lc_list (xs := xs) (Cz H1 zs Dl) ⟨hD, Ex.new hD, by rw [upd_same, List.take_zero]⟩ (fun i H' _ p => ex_l p.2.1 (sq_of hx)) (fun i x H' hi p => by
    have hl : i < zs.length := by rw [hz]; exact (List.getElem?_eq_some_iff.mp hi).1
    exact ⟨hw x, cz_turn p (List.getElem?_eq_getElem hl) (by omega) (he i x _ H1 (e.trans e1) hi (List.getElem?_eq_getElem hl))⟩) (fun H' p => q Dl H' (fresh_back e1 p.1) (e1.trans p.2.1) (by rw [p.2.2, List.take_of_length_le (by omega)]))⟩
/-- two lists as a call's arguments -/
def Ev2 (K : PySem.W.Frag) (ta : TA) (σ : L2.St) (H : Hp) (xs ys : List V) : Prop := ∀ H1, Ex H H1 → ∀ Q : List V → Hp → Prop, (∀ a b H2, Ex H1 H2 → SqL K H2 a xs → SqL K H2 b ys → Q [.ref a, .ref b] H2) → ta σ H1 Q
theorem ev2_VV (ha : Ev ta σ H (.ref p)) (h : SqL K H p xs) (hb : Ev tb σ H (.ref q)) (h2 : SqL K H q ys) : Ev2 K (tCons ta (tCons tb tNil)) σ H xs ys := fun H1 e _ k =>
  ha H1 e _ fun H2 e2 => hb H2 (e.trans e2) _ fun H3 e3 => k _ _ H3 (e2.trans e3) (ex_l ((e.trans e2).trans e3) h) (ex_l ((e.trans e2).trans e3) h2)
theorem ev2_VL (ha : Ev ta σ H (.ref p)) (h : SqL K H p xs) (hb : EvL tb σ H ys) : Ev2 K (tCons ta (tCons tb tNil)) σ H xs ys := fun H1 e _ k =>
  ha H1 e _ fun H2 e2 => hb H2 (e.trans e2) _ fun q H3 _ e3 hq => k _ _ H3 (e2.trans e3) (ex_l ((e.trans e2).trans e3) h) (sq_of hq)
theorem el_zZ {ta : TA} {j1 j2 : Nat} {vs : List Nat} (h : Ev2 K ta σ H xs ys) (hz : zs.length = min xs.length ys.length) (hn : zs.length ≤ 40000) (hw : ∀ x y, wipe (((wipe σ vs).set j1 (some x)).set j2 (some y)) vs = wipe σ vs)
    (he : ∀ (i : Nat) (x y z : V) H1, Ex H H1 → xs[i]? = some x → ys[i]? = some y → zs[i]? = some z → Ev te (((wipe σ vs).set j1 (some x)).set j2 (some y)) H1 z) :
    EvL (tLc (iZip K ta) (gTup K 2 (gCons (gName j1) (gCons (gName j2) gNil))) tYes te vs) σ H zs := fun H0 e Q q => h H0 e _ fun a b H1 e1 ha hb => ⟨a, b, xs, ys, rfl, ha, hb, fun Dl hD =>
  lc_it (walk_zip (xs := xs) (ys := ys) hz) (Cz H1 zs Dl) ⟨hD, Ex.new hD, by rw [upd_same, List.take_zero]⟩ (fun i H' _ p => ⟨ex_l p.2.1 ha, ex_l p.2.1 hb⟩) (fun i v H' H2 hi p yy => by
    obtain ⟨T, x, y, rfl, hT, rfl, hx, hy⟩ := yy
    refine ⟨T, [x, y], rfl, st_of upd_same, rfl, x, [y], rfl, y, [], rfl, rfl, ?_⟩
    have p2 : Cz H1 zs Dl i (upd H' T (.tup [x, y])) := ⟨p.1, p.2.1.trans (Ex.new hT), by rw [upd_ne (ne_of_none p.2.2 hT)]; exact p.2.2⟩
    exact ⟨hw x y, cz_turn p2 (List.getElem?_eq_getElem hi) hn (he i x y _ H1 (e.trans e1) hx hy (List.getElem?_eq_getElem hi))⟩) (fun H' p => q Dl H' (fresh_back e1 p.1) (e1.trans p.2.1) (by rw [p.2.2, List.take_of_length_le (by omega)]))⟩
/-! ### loops over enumerate, reversed -/
variable {D : Ends} {tu tw tz : TS} {g : TG}
theorem s_forEn {ta : TA} {a : Addr} {j1 j2 : Nat} (h : EvA ta σ H [.ref a]) (hx : SqL K H a xs) (Pv : Nat → L2.St → Hp → Prop) (h0 : ∀ H1, Ex H H1 → Pv 0 σ H1) (hl : ∀ i σ' H', i ≤ xs.length → Pv i σ' H' → SqL K H' a xs)
    (hs : ∀ (i : Nat) x σ' H' H2, xs[i]? = some x → Pv i σ' H' → Ex H' H2 → tu { D with nx := Pv (i + 1), ct := Pv (i + 1), bk := D.nx } ((σ'.set j1 (some (.int (i : Int)))).set j2 (some x)) H2) (hd : ∀ σ' H', Pv xs.length σ' H' → D.nx σ' H') :
    tFor (iEnum K ta) (gTup K 2 (gCons (gName j1) (gCons (gName j2) gNil))) tu D σ H :=
  h H (Ex.refl H) _ fun H1 e => ⟨a, xs, rfl, ex_l e hx, for_it (walk_enum (xs := xs)) Pv (h0 H1 e) hl (fun i v σ' H' H2 hi p yy => by
    obtain ⟨T, x, y, rfl, hT, rfl, hx2, hy⟩ := yy
    obtain rfl : (.int (i : Int) : V) = x := Option.some.inj hx2
    exact ⟨T, [_, y], rfl, st_of upd_same, rfl, _, [y], rfl, y, [], rfl, rfl, hs i y σ' H' _ hy p (Ex.new hT)⟩) hd⟩
theorem s_forRev {ta : TA} {a : Addr} {j : Nat} (h : EvA ta σ H [.ref a]) (hx : SqL K H a xs) (Pv : Nat → L2.St → Hp → Prop) (h0 : ∀ H1, Ex H H1 → Pv 0 σ H1) (hl : ∀ i σ' H', Pv i σ' H' → SqL K H' a xs)
    (hs : ∀ (i : Nat) x σ' H', i < xs.length → xs[xs.length - 1 - i]? = some x → Pv i σ' H' → tu { D with nx := Pv (i + 1), ct := Pv (i + 1), bk := D.nx } (σ'.set j (some x)) H') (hd : ∀ σ' H', Pv xs.length σ' H' → D.nx σ' H') :
    tFor (iRev K ta) (gName j) tu D σ H :=
  h H (Ex.refl H) _ fun H1 e => ⟨a, xs, rfl, ex_l e hx, RT.for_Itv Pv (h0 H1 e) hl (fun i x σ' H' hi hx2 p => hs i x σ' H' hi hx2 p) hd⟩
theorem q_forEn {ta : TA} {a : Addr} {j1 j2 : Nat} (h : EvA ta σ H [.ref a]) (hx : SqL K H a xs) (Pv : Nat → L2.St → Hp → Prop) (h0 : ∀ H1, Ex H H1 → Pv 0 σ H1) (hl : ∀ i σ' H', i ≤ xs.length → Pv i σ' H' → SqL K H' a xs)
    (hs : ∀ (i : Nat) x σ' H' H2, xs[i]? = some x → Pv i σ' H' → Ex H' H2 → tu { D with nx := Pv (i + 1), ct := Pv (i + 1), bk := tz D } ((σ'.set j1 (some (.int (i : Int)))).set j2 (some x)) H2) (hd : ∀ σ' H', Pv xs.length σ' H' → tz D σ' H') :
    tSeq (tFor (iEnum K ta) (gTup K 2 (gCons (gName j1) (gCons (gName j2) gNil))) tu) tz D σ H := s_forEn (D := { D with nx := tz D }) h hx Pv h0 hl hs hd
theorem q_forRev {ta : TA} {a : Addr} {j : Nat} (h : EvA ta σ H [.ref a]) (hx : SqL K H a xs) (Pv : Nat → L2.St → Hp → Prop) (h0 : ∀ H1, Ex H H1 → Pv 0 σ H1) (hl : ∀ i σ' H', Pv i σ' H' → SqL K H' a xs)
    (hs : ∀ (i : Nat) x σ' H', i < xs.length → xs[xs.length - 1 - i]? = some x → Pv i σ' H' → tu { D with nx := Pv (i + 1), ct := Pv (i + 1), bk := tz D } (σ'.set j (some x)) H') (hd : ∀ σ' H', Pv xs.length σ' H' → tz D σ' H') :
    tSeq (tFor (iRev K ta) (gName j) tu) tz D σ H := s_forRev (D := { D with nx := tz D }) h hx Pv h0 hl hs hd
/-- xs[lo:hi] = a new list -/
theorem s_setSl {l : Addr} {tl th : TO} {a c : Nat} (hl : H l = some (.lst xs)) (h : EvL te σ H ys) (ho : Ev ta σ H (.ref l)) (h1 : EvO tl σ H (some (a : Int))) (h2 : EvO th σ H (some (c : Int))) (hac : a ≤ c) (hc : c ≤ xs.length) (hz : xs.length + ys.length ≤ 100000)
    (k : ∀ p H1, H p = none → Ex H H1 → D.nx σ (upd H1 l (.lst (xs.take a ++ ys ++ xs.drop c)))) : tAsg te (gSetSl ta tl th) D σ H := h H (Ex.refl H) _ fun p H1 np e1 hp =>
  ho H1 e1 _ fun H2 e2 => h1 H2 (e1.trans e2) _ fun H3 e3 => h2 H3 ((e1.trans e2).trans e3) _ fun H4 e4 => ⟨l, p, xs, ys, (a : Int), (c : Int), rfl, rfl, rfl, rfl, (((e1.trans e2).trans e3).trans e4) l _ hl, (e4 p _ (e3 p _ (e2 p _ hp))),
    (ne_of_none hl np), by omega, by omega, by omega, sz_of hz, by
    rw [Int.toNat_natCast, Int.toNat_natCast]
    exact k p H4 np (((e1.trans e2).trans e3).trans e4)⟩
/-! ### calls whose arguments are new lists -/
theorem ev_call1L {sp : Sp} {E : XK} (h1 : EvL ta σ H xs) (hs : ∀ p H1, Ex H H1 → H1 p = some (.lst xs) → SpV sp ([.ref p] ++ []) H1 z) : Ev (tCall sp [] E (tCons ta tNil)) σ H z := fun H1 e Q k =>
  h1 H1 e _ fun p H2 _ e2 hp => hs p H2 (e.trans e2) hp H2 (Ex.refl _) Q (fun H3 e3 => k H3 (e2.trans e3)) E
theorem el_call1L {sp : Sp} {E : XK} (h1 : EvL ta σ H xs) (hs : ∀ p H1, Ex H H1 → H1 p = some (.lst xs) → SpL sp ([.ref p] ++ []) H1 zs) : EvL (tCall sp [] E (tCons ta tNil)) σ H zs := fun H1 e Q k =>
  h1 H1 e _ fun p H2 _ e2 hp => hs p H2 (e.trans e2) hp H2 (Ex.refl _) Q (fun p2 H3 n3 e3 h3 => k p2 H3 (fresh_back e2 n3) (e2.trans e3) h3) E
theorem ev_call2LL {sp : Sp} {E : XK} (h1 : EvL ta σ H xs) (h2 : EvL tb σ H ys) (hs : ∀ p q H1, Ex H H1 → H1 p = some (.lst xs) → H1 q = some (.lst ys) → SpV sp ([.ref p, .ref q] ++ []) H1 z) : Ev (tCall sp [] E (tCons ta (tCons tb tNil))) σ H z := fun H1 e Q k =>
  h1 H1 e _ fun p H2 _ e2 hp => h2 H2 (e.trans e2) _ fun q H3 _ e3 hq => hs p q H3 ((e.trans e2).trans e3) (e3 p _ hp) hq H3 (Ex.refl _) Q (fun H4 e4 => k H4 ((e2.trans e3).trans e4)) E
theorem ev_call2VL {sp : Sp} {E : XK} (h1 : Ev ta σ H x) (h2 : EvL tb σ H ys) (hs : ∀ q H1, Ex H H1 → H1 q = some (.lst ys) → SpV sp ([x, .ref q] ++ []) H1 z) : Ev (tCall sp [] E (tCons ta (tCons tb tNil))) σ H z := fun H1 e Q k =>
  h1 H1 e _ fun H2 e2 => h2 H2 (e.trans e2) _ fun q H3 _ e3 hq => hs q H3 ((e.trans e2).trans e3) hq H3 (Ex.refl _) Q (fun H4 e4 => k H4 ((e2.trans e3).trans e4)) E
theorem el_call3LVV {tc : TE} {sp : Sp} {E : XK} (h1 : EvL ta σ H xs) (h2 : Ev tb σ H x) (h3 : Ev tc σ H y) (hs : ∀ p H1, Ex H H1 → H1 p = some (.lst xs) → SpL sp ([.ref p, x, y] ++ []) H1 zs) : EvL (tCall sp [] E (tCons ta (tCons tb (tCons tc tNil)))) σ H zs := fun H1 e Q k =>
  h1 H1 e _ fun p H2 _ e2 hp => h2 H2 (e.trans e2) _ fun H3 e3 => h3 H3 ((e.trans e2).trans e3) _ fun H4 e4 => hs p H4 (((e.trans e2).trans e3).trans e4) (e4 p _ (e3 p _ hp)) H4 (Ex.refl _) Q (fun p2 H5 n5 e5 h5 => k p2 H5 (fresh_back ((e2.trans e3).trans e4) n5) (((e2.trans e3).trans e4).trans e5) h5) E
/-- a list of numbers that is tracked -/
abbrev LN (H : Hp) (p : Addr) (l : List Nat) : Prop := H p = some (.lst (l.map nV))
theorem LN.up {l : List Nat} (h : LN H p l) (e : Ex H H') : LN H' p l := e p _ h
theorem nat_get {l : List Nat} {k : Nat} (h : k < l.length) : (l.map nV)[k]? = some (.int ((Py.at0 l k : Nat) : Int)) := by rw [List.getElem?_map, Py.at0_get h] <;> rfl
theorem nat_of_get {l : List Nat} {k : Nat} {v : V} (h : (l.map nV)[k]? = some v) : k < l.length ∧ v = .int ((Py.at0 l k : Nat) : Int) := by
  have hk : k < l.length := by simpa using (List.getElem?_eq_some_iff.mp h).1
  rw [nat_get hk] at h
  exact ⟨hk, (Option.some.inj h).symm⟩
theorem len_map {l : List Nat} : (l.map nV).length = l.length := List.length_map _
theorem set_nat {l : List Nat} {k n : Nat} : (l.map nV).set k (.int (n : Int)) = (l.set k n).map nV := by rw [List.map_set]
theorem dec_self {x : V} : (!decide (x = x)) = false := by simp
theorem q_parLL {i j : Nat} (h1 : EvL ta σ H xs) (h2 : EvL tb σ H ys) (k : ∀ p q H1, H p = none → H q = none → Ex H H1 → H1 p = some (.lst xs) → H1 q = some (.lst ys) → tz D ((σ.set i (some (.ref p))).set j (some (.ref q))) H1) :
    tSeq (tPar i j (tCons ta (tCons tb tNil))) tz D σ H := h1 H (Ex.refl H) _ fun p H1 np e1 hp => h2 H1 e1 _ fun q H2 nq e2 hq => ⟨_, _, rfl, k p q H2 np (fresh_back e1 nq) (e1.trans e2) (e2 p _ hp) hq⟩
theorem splice_nat {l m : List Nat} {a c : Nat} : (l.map nV).take a ++ m.map nV ++ (l.map nV).drop c = (l.take a ++ m ++ l.drop c).map nV := by rw [List.map_append, List.map_append, List.map_take, List.map_drop]
theorem b2i_or (b : Bool) : b2i b = 0 ∨ b2i b = 1 := by cases b <;> simp [b2i]
end
end Mx

set_option Elab.async false
set_option linter.all false
namespace Py
open Gf
theorem at0_set {q : List Nat} {s f k : Nat} (h : s < q.length) : at0 (q.set s f) k = if k = s then f else at0 q k := by
  unfold at0
  rw [List.getD_eq_getElem?_getD, List.getD_eq_getElem?_getD, List.getElem?_set]
  by_cases e : s = k
  · subst e
    rw [if_pos rfl, if_pos h, if_pos rfl] <;> rfl
  · rw [if_neg e, if_neg (fun z => e z.symm)]
theorem at0_app {a b : List Nat} {k : Nat} : at0 (a ++ b) k = if k < a.length then at0 a k else at0 b (k - a.length) := by
  unfold at0
  rw [List.getD_eq_getElem?_getD]
  by_cases h : k < a.length
  · rw [if_pos h, List.getElem?_append_left h, List.getD_eq_getElem?_getD]
  · rw [if_neg h, List.getElem?_append_right (by omega), List.getD_eq_getElem?_getD]
theorem at0_take {a : List Nat} {n k : Nat} : at0 (a.take n) k = if k < n then at0 a k else 0 := by
  unfold at0
  rw [List.getD_eq_getElem?_getD, List.getD_eq_getElem?_getD]
  by_cases h : k < n
  · rw [if_pos h, List.getElem?_take_of_lt h]
  · rw [if_neg h, List.getElem?_eq_none (by rw [List.length_take]; omega)] <;> rfl
theorem at0_drop {a : List Nat} {n k : Nat} : at0 (a.drop n) k = at0 a (n + k) := by
  unfold at0
  rw [List.getD_eq_getElem?_getD, List.getD_eq_getElem?_getD, List.getElem?_drop]
theorem at0_trim (p : List Nat) (k : Nat) : at0 (trim p) k = at0 p k := by
  unfold trim
  rw [at0_take]
  by_cases h : k < tlen p
  · rw [if_pos h]
  · rw [if_neg h, tlen_zero p k (by omega)]
theorem at0_zip {a d : List Nat} {f k : Nat} (h : a.length = d.length) : at0 (List.zipWith (fun x y => x ^^^ gm f y) a d) k = at0 a k ^^^ gm f (at0 d k) := by
  by_cases hk : k < a.length
  · refine at0_of ?_
    rw [List.getElem?_zipWith, at0_get hk, at0_get (h ▸ hk)] <;> rfl
  · rw [at0_none (by rw [List.length_zipWith]; omega), at0_none (show a.length ≤ k by omega), at0_none (show d.length ≤ k by omega), gm_zero (.inr rfl)] <;> rfl
/-- what a step of the division leaves of the rest -/
theorem at0_splice {r d : List Nat} {s f k : Nat} (h : s + d.length ≤ r.length) :
    at0 (r.take s ++ List.zipWith (fun x y => x ^^^ gm f y) ((r.drop s).take d.length) d ++ r.drop (s + d.length)) k = at0 r k ^^^ (if s ≤ k then gm f (at0 d (k - s)) else 0) := by
  have l1 : (r.take s).length = s := by
    rw [List.length_take]
    omega
  have l2 : ((r.drop s).take d.length).length = d.length := by
    rw [List.length_take, List.length_drop]
    omega
  have l3 : (r.take s ++ List.zipWith (fun x y => x ^^^ gm f y) ((r.drop s).take d.length) d).length = s + d.length := by
    rw [List.length_append, l1, List.length_zipWith, l2, Nat.min_self]
  rw [at0_app, l3]
  by_cases c : k < s + d.length
  · rw [if_pos c, at0_app, l1]
    by_cases c2 : k < s
    · rw [if_pos c2, at0_take, if_pos c2, if_neg (by omega), Nat.xor_zero]
    · rw [if_neg c2, at0_zip l2, at0_take, if_pos (by omega), at0_drop, if_pos (by omega)]
      have e : s + (k - s) = k := by omega
      rw [e]
  · rw [if_neg c, at0_drop, if_pos (by omega), at0_none (show d.length ≤ k - s by omega), gm_zero (.inr rfl), Nat.xor_zero]
    have e : s + d.length + (k - (s + d.length)) = k := by omega
    rw [e]
theorem splice_len {r d : List Nat} {s f : Nat} (h : s + d.length ≤ r.length) :
    (r.take s ++ List.zipWith (fun x y => x ^^^ gm f y) ((r.drop s).take d.length) d ++ r.drop (s + d.length)).length = r.length := by
  simp
  omega
theorem acc_set {q d : List Nat} {s f : Nat} (h : s < q.length) (h0 : at0 q s = 0) (k : Nat) : ∀ n, acc (q.set s f) d n k = acc q d n k ^^^ (if s < n ∧ s ≤ k then gm f (at0 d (k - s)) else 0)
  | 0 => by
    rw [if_neg (by omega), Nat.xor_zero]
    rfl
  | n + 1 => by
    show acc (q.set s f) d n k ^^^ (if n ≤ k then gm (at0 (q.set s f) n) (at0 d (k - n)) else 0) = (acc q d n k ^^^ (if n ≤ k then gm (at0 q n) (at0 d (k - n)) else 0)) ^^^ _
    rw [acc_set h h0 k n, at0_set h]
    by_cases e : n = s
    · subst e
      rw [if_neg (show ¬ (n < n ∧ n ≤ k) by omega), if_pos rfl, h0, Nat.xor_zero]
      by_cases c : n ≤ k
      · rw [if_pos c, if_pos c, if_pos (show n < n + 1 ∧ n ≤ k from ⟨by omega, c⟩), gm_zero (a := 0) (.inl rfl), Nat.xor_zero]
      · rw [if_neg c, if_neg c, if_neg (show ¬ (n < n + 1 ∧ n ≤ k) from fun z => c z.2), Nat.xor_zero, Nat.xor_zero]
    · rw [if_neg e]
      by_cases c : s < n ∧ s ≤ k
      · rw [if_pos c, if_pos (show s < n + 1 ∧ s ≤ k from ⟨by omega, c.2⟩), Nat.xor_assoc, Nat.xor_comm (gm f _), Nat.xor_assoc]
      · rw [if_neg c, if_neg (show ¬ (s < n + 1 ∧ s ≤ k) by omega), Nat.xor_zero, Nat.xor_zero]
theorem acc_len {p q : List Nat} {n : Nat} (h : p.length ≤ n) (k : Nat) : acc p q n k = acc p q p.length k := by
  rw [acc_xs, acc_xs]
  have e : n = p.length + (n - p.length) := by omega
  rw [e]
  refine xs_more (fun j hj => ?_) _
  rw [at0_none hj, gm_zero (.inl rfl)]
  split <;> rfl
theorem acc_congr {p q p' q' : List Nat} (h : ∀ j, at0 p j = at0 p' j) (h2 : ∀ j, at0 q j = at0 q' j) (k : Nat) : ∀ n, acc p q n k = acc p' q' n k
  | 0 => rfl
  | n + 1 => by
    show acc p q n k ^^^ _ = acc p' q' n k ^^^ _
    rw [acc_congr h h2 k n, h, h2]
theorem acc_trim {p q : List Nat} (k : Nat) : acc (trim p) q (trim p).length k = acc p q p.length k := by
  rw [← acc_len (p := trim p) (n := p.length) (by rw [trim_length]; exact tlen_le p)]
  exact acc_congr (at0_trim p) (fun _ => rfl) k _
/-- the state of the division: n steps in all, i done -/
structure DivInv (l d : List Nat) (n i : Nat) (q r : List Nat) : Prop where
  ql : q.length = n
  rl : r.length = tlen l
  oq : Oc q
  or : Oc r
  eq : ∀ k, at0 l k = acc q d n k ^^^ at0 r k
  rz : ∀ k, n - i + d.length ≤ k + 1 → at0 r k = 0
  qz : ∀ j, j < n - i → at0 q j = 0
theorem div_start {l d : List Nat} {n : Nat} (ho : Oc l) (hd : 0 < d.length) (hn : (n : Int) = if (0 : Int) < (tlen l : Int) - d.length + 1 then (tlen l : Int) - d.length + 1 else 0) : DivInv l d n 0 (List.replicate n 0) (trim l) := by
  refine ⟨List.length_replicate, trim_length l, oc_zeros n, ho.take _, fun k => ?_, fun k hk => ?_, fun j _ => ?_⟩
  · have e : ∀ m, acc (List.replicate n 0) d m k = 0 := fun m => by
      induction m with
      | zero => rfl
      | succ m ih =>
        show acc _ d m k ^^^ _ = 0
        have z : at0 (List.replicate n 0) m = 0 := by
          unfold at0
          rw [List.getD_eq_getElem?_getD, List.getElem?_replicate]
          split <;> rfl
        rw [ih, z, gm_zero (.inl rfl)]
        split <;> rfl
    rw [e, Nat.zero_xor, at0_trim]
  · rw [at0_trim]
    refine tlen_zero l k ?_
    split at hn <;> omega
  · unfold at0
    rw [List.getD_eq_getElem?_getD, List.getElem?_replicate]
    split <;> rfl
theorem div_step {l d q r : List Nat} {n i : Nat} (h : DivInv l d n i q r) (hi : i < n) (od : Oc d) (hd : 0 < d.length) (hl : ¬ at0 d (d.length - 1) = 0) (hr : n - 1 - i + d.length ≤ r.length) :
    DivInv l d n (i + 1) (q.set (n - 1 - i) (gm (at0 r (n - 1 - i + d.length - 1)) (gi (at0 d (d.length - 1)))))
      (r.take (n - 1 - i) ++ List.zipWith (fun x y => x ^^^ gm (gm (at0 r (n - 1 - i + d.length - 1)) (gi (at0 d (d.length - 1)))) y) ((r.drop (n - 1 - i)).take d.length) d ++ r.drop (n - 1 - i + d.length)) := by
  have hs : n - 1 - i < q.length := by
    rw [h.ql]
    omega
  have hq0 : at0 q (n - 1 - i) = 0 := h.qz _ (by omega)
  refine ⟨by rw [List.length_set, h.ql], by rw [splice_len hr, h.rl], oc_of fun c hc => ?_, fun k => ?_, fun k => ?_, fun k hk => ?_, fun j hj => ?_⟩
  · rcases List.mem_or_eq_of_mem_set hc with z | z
    · exact h.oq.mem c z
    · rw [z]
      exact gm_lt _ _
  · rw [at0_splice hr]
    refine xor_lt (h.or k) ?_
    split
    · exact gm_lt _ _
    · decide
  · rw [at0_splice hr, acc_set hs hq0, h.eq k]
    have e : (n - 1 - i < n ∧ n - 1 - i ≤ k) = (n - 1 - i ≤ k) := by
      apply propext
      constructor
      · exact fun z => z.2
      · exact fun z => ⟨by omega, z⟩
    simp only [e]
    rw [Nat.xor_assoc, Nat.xor_comm (at0 r k), ← Nat.xor_assoc (ite _ _ _), Nat.xor_self, Nat.zero_xor]
  · rw [at0_splice hr]
    by_cases c : k = n - 1 - i + d.length - 1
    · have e : k - (n - 1 - i) = d.length - 1 := by omega
      rw [if_pos (by omega), e, ← c, gm_assoc, gm_comm (gi _), gm_gi (od _) hl, gm_one (h.or k), Nat.xor_self]
    · rw [h.rz k (by omega), if_pos (by omega), at0_none (show d.length ≤ k - (n - 1 - i) by omega), gm_zero (.inr rfl)]
      rfl
  · rw [at0_set hs, if_neg (by omega)]
    exact h.qz j (by omega)
/-- what the division gives -/
structure DivEnd (l m x y : List Nat) : Prop where
  ox : Oc x
  oy : Oc y
  tx : tlen x = x.length
  ty : tlen y = y.length
  lx : x.length ≤ l.length
  ly : y.length ≤ l.length
  lt : y.length + 1 ≤ tlen m
  eq : ∀ k, at0 l k = acc x m x.length k ^^^ at0 y k
theorem tlen_trim (p : List Nat) : tlen (trim p) = (trim p).length := by
  rw [trim_length]
  refine tlen_eq (fun k hk => ?_) ?_
  · rw [at0_trim]
    exact tlen_zero p k hk
  · rw [at0_trim]
    exact tlen_last p
theorem div_end {l m q r : List Nat} {n : Nat} (h : DivInv l (trim m) n n q r) (hm : ¬ tlen m = 0) (hn : n ≤ l.length) : DivEnd l m (trim q) (trim r) := by
  refine ⟨oc_trim h.oq, oc_trim h.or, tlen_trim _, tlen_trim _, ?_, ?_, ?_, fun k => ?_⟩
  · rw [trim_length]
    have := tlen_le q
    have := h.ql
    omega
  · rw [trim_length]
    have := tlen_le r
    have := h.rl
    have := tlen_le l
    omega
  · rw [trim_length]
    rcases tlen_last r with z | z
    · omega
    · by_cases c : tlen r + 1 ≤ tlen m
      · exact c
      · exact absurd (h.rz (tlen r - 1) (by rw [Nat.sub_self, trim_length]; omega)) z
  · rw [acc_trim, at0_trim, h.eq k, h.ql]
    congr 1
    exact acc_congr (fun _ => rfl) (at0_trim m) k n
end Py

set_option Elab.async false
set_option linter.all false
set_option maxRecDepth 100000
set_option maxHeartbeats 4000000
namespace Mx
open PySem PySem.Spec PyProof.Rows L2 Evl
section
variable {K : PySem.W.Frag} {σ : L2.St} {H H' : Hp} {ta tb te tx : TE} {t u : TT} {x y z v : V} {r : R2} {xs ys zs : List V} {p q : Addr} {D : Ends} {tu tw tz : TS} {g : TG}
theorem et_truL (h : Ev te σ H (.ref p)) (hs : SqL K H p xs) : EvT (fun σ H Q => te σ H fun x H1 => ∃ k, TruV K x H1 k ∧ Q k H1) σ H (!xs.isEmpty) := fun H1 e Q q =>
  h H1 e _ fun H2 e2 => ⟨_, .inl ⟨xs, ex_l (e.trans e2) hs, rfl⟩, q H2 e2⟩
/-- return (a new list, a new list) -/
theorem s_retTLL (h1 : EvL ta σ H xs) (h2 : EvL tb σ H ys) (k : ∀ t p q H1, H t = none → Ex H H1 → H1 t = some (.tup [.ref p, .ref q]) → H1 p = some (.lst xs) → H1 q = some (.lst ys) → D.rt (.ref t) H1) : tRet (tTup (tCons ta (tCons tb tNil))) D σ H :=
  h1 H (Ex.refl H) _ fun p H1 np e1 hp => h2 H1 e1 _ fun q H2 nq e2 hq => ⟨by show 2 ≤ sizeLine; decide, fun t ht => k t p q _ (fresh_back (e1.trans e2) ht) ((e1.trans e2).trans (Ex.new ht)) upd_same (Ex.new ht p _ (e2 p _ hp)) (Ex.new ht q _ hq)⟩
/-- for i in reversed(range(n)) -/
theorem s_forRevR {j n : Nat} (h : Ev te σ H (.int (n : Int))) (hn : n ≤ 100000) (Pv : Nat → L2.St → Hp → Prop) (h0 : ∀ H1, Ex H H1 → Pv 0 σ H1)
    (hs : ∀ (i : Nat) σ' H', i < n → Pv i σ' H' → tu { D with nx := Pv (i + 1), ct := Pv (i + 1), bk := D.nx } (σ'.set j (some (.int ((n - 1 - i : Nat) : Int)))) H') (hd : ∀ σ' H', Pv n σ' H' → D.nx σ' H') :
    tFor (iRevR (tRg1 te)) (gName j) tu D σ H :=
  h H (Ex.refl H) _ fun H1 e => ⟨(n : Int), rfl, by omega, by omega, by omega, by omega, by
    have e0 : ((n : Int) - 0).toNat = n := by omega
    rw [e0]
    exact for_it walk_rangeC Pv (h0 H1 e) (fun _ _ _ _ _ => trivial) (fun i x σ' H' H2 hi p yy => by
      obtain ⟨rfl, rfl⟩ := yy
      have e1 : (0 : Int) + ((n : Nat) : Int) - 1 + ((i : Nat) : Int) * (-1) = ((n - 1 - i : Nat) : Int) := by omega
      show tu _ (σ'.set j (some (.int ((0 : Int) + ((n : Nat) : Int) - 1 + ((i : Nat) : Int) * (-1))))) _
      rw [e1]
      exact hs i σ' _ hi p) hd⟩
theorem q_forRevR {j n : Nat} (h : Ev te σ H (.int (n : Int))) (hn : n ≤ 100000) (Pv : Nat → L2.St → Hp → Prop) (h0 : ∀ H1, Ex H H1 → Pv 0 σ H1)
    (hs : ∀ (i : Nat) σ' H', i < n → Pv i σ' H' → tu { D with nx := Pv (i + 1), ct := Pv (i + 1), bk := tz D } (σ'.set j (some (.int ((n - 1 - i : Nat) : Int)))) H') (hd : ∀ σ' H', Pv n σ' H' → tz D σ' H') :
    tSeq (tFor (iRevR (tRg1 te)) (gName j) tu) tz D σ H := s_forRevR (D := { D with nx := tz D }) h hn Pv h0 hs hd
theorem q_setL2 {l : Addr} {l2 : List Nat} {j n : Nat} (hl : H l = some (.lst (l2.map nV))) (h : Ev te σ H (.int (n : Int))) (ho : Ev ta σ H (.ref l)) (hi : Ev tb σ H (.int (j : Int))) (hj : j < l2.length) (k : ∀ H1, Ex H H1 → tz D σ (upd H1 l (.lst ((l2.set j n).map nV)))) :
    tSeq (tAsg te (gSub ta tb rSetL)) tz D σ H := q_setL hl h ho hi (by rw [len_map]; exact hj) (by rw [set_nat]; exact k)
theorem last_neg {l : List Nat} (h : 0 < l.length) : atI (l.map nV) (-1) = some (.int ((Py.at0 l (l.length - 1) : Nat) : Int)) := by
  have e : l = l.take (l.length - 1) ++ [Py.at0 l (l.length - 1)] := by
    refine Py.ext0 (by rw [List.length_append, List.length_take, List.length_singleton]; omega) fun k hk => ?_
    rw [Py.at0_app, List.length_take, Py.at0_take]
    by_cases c : k < l.length - 1
    · rw [if_pos (by omega), if_pos c]
    · have ek : k = l.length - 1 := by omega
      rw [if_neg (by omega), ek]
      have e0 : l.length - 1 - min (l.length - 1) l.length = 0 := by omega
      rw [e0]
      rfl
  rw [e, List.map_append]
  rw [← e]
  exact atI_last _ _
end
end Mx

set_option Elab.async false
set_option linter.all false
namespace Py
open Gf
/-! ### the value as a sum of powers -/
theorem gp_add {x : Nat} (hx : x < 256) (n : Nat) : gm (gp x n) x = gp x (n + 1) := (gp_succ hx n).symm
theorem xs_lt {f : Nat → Nat} (h : ∀ k, f k < 256) : ∀ n, xs f n < 256
  | 0 => show (0 : Nat) < 256 by decide
  | n + 1 => xor_lt (xs_lt h n) (h n)
theorem xs_gm {f : Nat → Nat} {c : Nat} (h : ∀ k, f k < 256) : ∀ n, xs (fun k => gm (f k) c) n = gm (xs f n) c
  | 0 => (gm_zero (.inl rfl)).symm
  | n + 1 => by
    show xs (fun k => gm (f k) c) n ^^^ gm (f n) c = gm (xs f n ^^^ f n) c
    rw [xs_gm h n, xor_gm (xs_lt h n) (h n)]
theorem xs_xor (f g : Nat → Nat) : ∀ n, xs (fun k => f k ^^^ g k) n = xs f n ^^^ xs g n
  | 0 => (Nat.zero_xor 0).symm
  | n + 1 => by
    show xs (fun k => f k ^^^ g k) n ^^^ (f n ^^^ g n) = (xs f n ^^^ f n) ^^^ (xs g n ^^^ g n)
    rw [xs_xor f g n, Nat.xor_assoc, Nat.xor_assoc, ← Nat.xor_assoc (xs g n), Nat.xor_comm (xs g n) (f n), Nat.xor_assoc (f n)]
def ev (x : Nat) (p : List Nat) (n : Nat) : Nat := xs (fun k => gm (at0 p k) (gp x k)) n
theorem ev_cons {x c : Nat} {p : List Nat} (hx : x < 256) (h : Oc (c :: p)) (n : Nat) : ev x (c :: p) (n + 1) = gm (ev x p n) x ^^^ c := by
  unfold ev
  rw [xs_front]
  show gm c (gp x 0) ^^^ xs (fun j => gm (at0 p j) (gp x (j + 1))) n = _
  rw [gp_none, gm_one (show c < 256 from h 0), Nat.xor_comm]
  congr 1
  rw [← xs_gm (fun k => gm_lt _ _)]
  exact xs_congr fun j _ => by rw [gm_assoc, gp_add hx]
theorem horner_ev {x : Nat} (hx : x < 256) : ∀ {p : List Nat}, Oc p → horner x p = ev x p p.length
  | [], _ => rfl
  | c :: p, h => by
    show gm (horner x p) x ^^^ c = ev x (c :: p) (p.length + 1)
    rw [ev_cons hx h, horner_ev hx h.tail]
theorem ev_more {x n : Nat} {p : List Nat} (h : ∀ j, n ≤ j → at0 p j = 0) (d : Nat) : ev x p (n + d) = ev x p n := by
  refine xs_more (fun j hj => ?_) d
  rw [h j hj, gm_zero (.inl rfl)]
theorem horner_any {x n : Nat} (hx : x < 256) {p : List Nat} (ho : Oc p) (h : ∀ j, n ≤ j → at0 p j = 0) : horner x p = ev x p n := by
  rw [horner_ev hx ho]
  by_cases c : n ≤ p.length
  · have e : p.length = n + (p.length - n) := by omega
    rw [e]
    exact ev_more h _
  · have e : n = p.length + (n - p.length) := by omega
    rw [e]
    exact (ev_more (fun j hj => at0_none hj) _).symm
theorem ev_congr {x n : Nat} {p q : List Nat} (h : ∀ j, at0 p j = at0 q j) : ev x p n = ev x q n := xs_congr fun j _ => by rw [h]
theorem horner_trim {x : Nat} (hx : x < 256) {p : List Nat} (ho : Oc p) : horner x (trim p) = horner x p := by
  rw [horner_any (n := tlen p) hx (oc_trim ho) (fun j hj => by rw [at0_trim]; exact tlen_zero p j hj), horner_any (n := tlen p) hx ho (fun j hj => tlen_zero p j hj)]
  exact ev_congr (at0_trim p)
theorem at0_sum (p q : List Nat) (k : Nat) : at0 (sumL p q) k = at0 p k ^^^ at0 q k := by
  unfold sumL
  rw [at0_map]
  by_cases c : k < mx p.length q.length
  · rw [if_pos c]
  · rw [if_neg c]
    have h : p.length ≤ k ∧ q.length ≤ k := by
      unfold mx at c
      split at c <;> omega
    rw [at0_none h.1, at0_none h.2]
    rfl
theorem horner_sum {x : Nat} (hx : x < 256) {p q : List Nat} (hp : Oc p) (hq : Oc q) : horner x (sumL p q) = horner x p ^^^ horner x q := by
  have h1 : ∀ j, p.length + q.length ≤ j → at0 p j = 0 := fun j hj => at0_none (by omega)
  have h2 : ∀ j, p.length + q.length ≤ j → at0 q j = 0 := fun j hj => at0_none (by omega)
  rw [horner_any hx hp h1, horner_any hx hq h2, horner_any hx (oc_sum hp hq) (n := p.length + q.length) (fun j hj => by rw [at0_sum, h1 j hj, h2 j hj]; rfl)]
  unfold ev
  rw [← xs_xor]
  exact xs_congr fun j _ => by rw [at0_sum, xor_gm (hp j) (hq j)]
theorem at0_scale {c k : Nat} (p : List Nat) : at0 (p.map (gm c)) k = gm c (at0 p k) := by
  by_cases h : k < p.length
  · refine at0_of ?_
    rw [List.getElem?_map, at0_get h] <;> rfl
  · rw [at0_none (by rw [List.length_map]; omega), at0_none (show p.length ≤ k by omega), gm_zero (.inr rfl)]
theorem oc_scale (c : Nat) (p : List Nat) : Oc (p.map (gm c)) := fun k => by
  rw [at0_scale]
  exact gm_lt _ _
theorem horner_scale {x c : Nat} (hx : x < 256) {p : List Nat} (hp : Oc p) : horner x (p.map (gm c)) = gm c (horner x p) := by
  rw [horner_any (n := p.length) hx (oc_scale c p) (fun j hj => by rw [at0_scale, at0_none hj, gm_zero (.inr rfl)]), horner_any (n := p.length) hx hp (fun j hj => at0_none hj), gm_comm c]
  unfold ev
  rw [← xs_gm (fun k => gm_lt _ _)]
  exact xs_congr fun j _ => by rw [at0_scale, gm_comm c, gm_assoc, gm_comm c, ← gm_assoc]
theorem at0_prod {p q : List Nat} {k : Nat} : at0 (prodL p q) k = acc p q p.length k := by
  unfold prodL
  rw [at0_map]
  by_cases c : k < p.length + q.length
  · rw [if_pos c]
  · rw [if_neg c, acc_xs]
    have e : ∀ n, n ≤ p.length → xs (fun j => if j ≤ k then gm (at0 p j) (at0 q (k - j)) else 0) n = 0 := fun n => by
      induction n with
      | zero => intro _; rfl
      | succ n ih =>
        intro hn
        show xs _ n ^^^ _ = 0
        rw [ih (by omega)]
        show 0 ^^^ (if n ≤ k then gm (at0 p n) (at0 q (k - n)) else 0) = 0
        rw [if_pos (by omega), at0_none (show q.length ≤ k - n by omega), gm_zero (.inr rfl)]
        rfl
    exact (e _ (Nat.le_refl _)).symm
/-- times (c + x) -/
theorem at0_lin {p : List Nat} {c k : Nat} (hp : Oc p) : at0 (prodL p [c, 1]) k = gm c (at0 p k) ^^^ (if 1 ≤ k then at0 p (k - 1) else 0) := by
  rw [prod_comm, at0_prod]
  show (0 ^^^ (if 0 ≤ k then gm c (at0 p (k - 0)) else 0)) ^^^ (if 1 ≤ k then gm 1 (at0 p (k - 1)) else 0) = _
  rw [if_pos (Nat.zero_le _), Nat.zero_xor, Nat.sub_zero]
  by_cases h : 1 ≤ k
  · rw [if_pos h, if_pos h, gm_comm 1, gm_one (hp _)]
  · rw [if_neg h, if_neg h]
theorem horner_lin {p : List Nat} {c x : Nat} (hx : x < 256) (hc : c < 256) (hp : Oc p) : horner x (prodL p [c, 1]) = gm (horner x p) (c ^^^ x) := by
  have z : ∀ j, p.length ≤ j → at0 p j = 0 := fun j hj => at0_none hj
  rw [horner_any (n := p.length + 1) hx (oc_prod p [c, 1]) (fun j hj => by rw [at0_lin hp, z j (by omega), if_pos (by omega), z (j - 1) (by omega), gm_zero (.inr rfl)]; rfl), gm_xor hc hx]
  have e1 : ev x (prodL p [c, 1]) (p.length + 1) = xs (fun k => gm (gm c (at0 p k)) (gp x k)) (p.length + 1) ^^^ xs (fun k => gm (if 1 ≤ k then at0 p (k - 1) else 0) (gp x k)) (p.length + 1) := by
    rw [← xs_xor]
    unfold ev
    refine xs_congr fun j _ => ?_
    rw [at0_lin hp, xor_gm (gm_lt _ _) ?_]
    split
    · exact hp _
    · decide
  rw [e1]
  congr 1
  · have e2 : xs (fun k => gm (gm c (at0 p k)) (gp x k)) (p.length + 1) = xs (fun k => gm (gm (at0 p k) (gp x k)) c) (p.length + 1) := xs_congr fun j _ => by rw [gm_assoc, gm_comm c]
    rw [e2, xs_gm (fun k => gm_lt _ _), horner_any (n := p.length + 1) hx hp (fun j hj => z j (by omega))]
    rfl
  · rw [xs_front]
    show gm 0 (gp x 0) ^^^ xs (fun j => gm (if 1 ≤ j + 1 then at0 p (j + 1 - 1) else 0) (gp x (j + 1))) p.length = _
    rw [gm_zero (.inl rfl), Nat.zero_xor, horner_any (n := p.length) hx hp z]
    unfold ev
    rw [← xs_gm (fun k => gm_lt _ _)]
    exact xs_congr fun j _ => by
      rw [if_pos (by omega), Nat.add_sub_cancel, gm_assoc, gp_add hx]
theorem tlen_le_of {p : List Nat} {n : Nat} (h : ∀ k, n ≤ k → at0 p k = 0) : tlen p ≤ n := by
  rcases tlen_last p with z | z
  · omega
  · by_cases c : tlen p ≤ n
    · exact c
    · exact absurd (h _ (by omega)) z
theorem xor_zero_iff {a b : Nat} : a ^^^ b = 0 ↔ a = b := by
  constructor
  · intro h
    have e : (a ^^^ b) ^^^ b = 0 ^^^ b := by rw [h]
    rw [Nat.xor_assoc, Nat.xor_self, Nat.xor_zero, Nat.zero_xor] at e
    exact e
  · intro h
    rw [h, Nat.xor_self]
/-- the state behind some points -/
structure Ip (ps : List (Nat × Nat)) (r v : List Nat) : Prop where
  orr : Oc r
  ov : Oc v
  tr : tlen r = r.length
  lr : r.length ≤ ps.length
  lv : v.length ≤ ps.length + 1
  val : ∀ q ∈ ps, horner q.1 r = q.2
  van : ∀ x, x < 256 → (horner x v = 0 ↔ ∃ q ∈ ps, q.1 = x)
theorem ip_start : Ip [] [] [1] := by
  refine ⟨oc_nil, oc_of fun c hc => ?_, rfl, Nat.le_refl _, Nat.le_refl _, fun q hq => (by cases hq), fun x hx => ?_⟩
  · simp at hc
    omega
  · constructor
    · intro h
      have e : horner x [1] = 1 := by
        show gm 0 x ^^^ 1 = 1
        rw [gm_zero (.inl rfl)]
        rfl
      omega
    · rintro ⟨q, hq, _⟩
      cases hq
theorem ip_step {ps : List (Nat × Nat)} {r v : List Nat} {x y : Nat} (h : Ip ps r v) (hp : ∀ q ∈ ps, q.1 < 256) (hx : x < 256) (hy : y < 256) (hn : ¬ horner x v = 0) :
    Ip (ps ++ [(x, y)]) (trim (sumL r (v.map (gm (gm (y ^^^ horner x r) (gi (horner x v))))))) (trim (prodL v [x, 1])) := by
  have hv := horner_lt (x := x) h.ov
  have hr := horner_lt (x := x) h.orr
  generalize hf : gm (y ^^^ horner x r) (gi (horner x v)) = f
  refine ⟨oc_trim (oc_sum h.orr (oc_scale f v)), oc_trim (oc_prod _ _), tlen_trim _, ?_, ?_, fun q hq => ?_, fun z hz => ?_⟩
  · rw [trim_length, List.length_append, List.length_singleton]
    refine tlen_le_of fun k hk => ?_
    have := h.lr
    have := h.lv
    rw [at0_sum, at0_scale, at0_none (show r.length ≤ k by omega), at0_none (show v.length ≤ k by omega), gm_zero (.inr rfl)]
    rfl
  · rw [trim_length, List.length_append, List.length_singleton]
    refine tlen_le_of fun k hk => ?_
    have := h.lv
    rw [at0_lin h.ov, at0_none (show v.length ≤ k by omega), if_pos (by omega), at0_none (show v.length ≤ k - 1 by omega), gm_zero (.inr rfl)]
    rfl
  · rcases List.mem_append.mp hq with m | m
    · have q1 := hp q m
      rw [horner_trim q1 (oc_sum h.orr (oc_scale f v)), horner_sum q1 h.orr (oc_scale f v), horner_scale q1 h.ov, (h.van q.1 q1).mpr ⟨q, m, rfl⟩, gm_zero (.inr rfl), Nat.xor_zero]
      exact h.val q m
    · have e : q = (x, y) := by simpa using m
      rw [e]
      show horner x _ = y
      rw [horner_trim hx (oc_sum h.orr (oc_scale f v)), horner_sum hx h.orr (oc_scale f v), horner_scale hx h.ov, ← hf, gm_assoc, gm_comm (gi _), gm_gi hv hn, gm_one (xor_lt hy hr), Nat.xor_comm y, ← Nat.xor_assoc, Nat.xor_self, Nat.zero_xor]
  · rw [horner_trim hz (oc_prod _ _), horner_lin hz hx h.ov]
    constructor
    · intro e
      by_cases c : horner z v = 0
      · obtain ⟨q, hq, e2⟩ := (h.van z hz).mp c
        exact ⟨q, List.mem_append_left _ hq, e2⟩
      · by_cases c2 : x ^^^ z = 0
        · exact ⟨(x, y), by simp, xor_zero_iff.mp c2⟩
        · exact absurd e (gm_ne c c2)
    · rintro ⟨q, hq, e⟩
      rcases List.mem_append.mp hq with m | m
      · rw [(h.van z hz).mpr ⟨q, m, e⟩, gm_zero (.inl rfl)]
      · have e2 : q = (x, y) := by simpa using m
        rw [e2] at e
        have e3 : x = z := e
        rw [e3, Nat.xor_self, gm_zero (.inr rfl)]
end Py

set_option Elab.async false
set_option linter.all false
set_option maxRecDepth 100000
set_option maxHeartbeats 4000000
namespace Mx
open PySem PySem.Spec PyProof.Rows L2 Evl
theorem erase_perm : ∀ (l : List Nat) (i : Nat) (h : i < l.length), (Py.at0 l i :: l.eraseIdx i).Perm l
  | [], i, h => absurd h (Nat.not_lt_zero _)
  | a :: l, 0, _ => List.Perm.refl _
  | a :: l, i + 1, h => by
    have ih := erase_perm l i (by simpa using h)
    show (Py.at0 l i :: a :: l.eraseIdx i).Perm (a :: l)
    exact (List.Perm.swap _ _ _).trans (ih.cons a)
section
variable {K : PySem.W.Frag} {σ : L2.St} {H H' : Hp} {ta tb te tx : TE} {t u : TT} {x y z v : V} {r : R2} {xs ys zs : List V} {p q : Addr} {D : Ends} {tu tw tz : TS} {g : TG} {vss : List (List V)}
theorem el_call2VL {sp : Sp} {E : XK} (h1 : Ev ta σ H x) (h2 : EvL tb σ H ys) (hs : ∀ q H1, Ex H H1 → H1 q = some (.lst ys) → SpL sp ([x, .ref q] ++ []) H1 zs) : EvL (tCall sp [] E (tCons ta (tCons tb tNil))) σ H zs := fun H1 e Q k =>
  h1 H1 e _ fun H2 e2 => h2 H2 (e.trans e2) _ fun q H3 _ e3 hq => hs q H3 ((e.trans e2).trans e3) hq H3 (Ex.refl _) Q (fun p2 H4 n4 e4 h4 => k p2 H4 (fresh_back (e2.trans e3) n4) ((e2.trans e3).trans e4) h4) E
/-- a list of tuples -/
def TL (H : Hp) (p : Addr) (vss : List (List V)) : Prop := ∃ rs : List Addr, H p = some (.lst (rs.map V.ref)) ∧ TupsAt H rs vss
theorem TL.up (h : TL H p vss) (e : Ex H H') : TL H' p vss := by
  obtain ⟨rs, h1, h2⟩ := h
  exact ⟨rs, e _ _ h1, h2.mono e⟩
def EvTL (te : TE) (σ : L2.St) (H : Hp) (vss : List (List V)) : Prop := ∀ H1, Ex H H1 → ∀ Q : VK, (∀ p H2, H1 p = none → Ex H1 H2 → TL H2 p vss → Q (.ref p) H2) → te σ H1 Q
theorem q_asgTL {i : Nat} (h : EvTL te σ H vss) (k : ∀ p H1, H p = none → Ex H H1 → TL H1 p vss → tz D (σ.set i (some (.ref p))) H1) : tSeq (tAsg te (gName i)) tz D σ H := h H (Ex.refl H) _ k
theorem TupsAt.snoc {rs : List Addr} {a : Addr} {vs : List V} : ∀ {rs : List Addr} {vss : List (List V)}, TupsAt H rs vss → H a = some (.tup vs) → TupsAt H (rs ++ [a]) (vss ++ [vs])
  | _, _, .nil, h => .cons h .nil
  | _, _, .cons h t, h2 => .cons h (TupsAt.snoc (rs := rs) t h2)
def Ct (H : Hp) (vss : List (List V)) (Dl : Addr) (i : Nat) (H' : Hp) : Prop := H Dl = none ∧ Ex H H' ∧ ∃ rs : List Addr, H' Dl = some (.lst (rs.map V.ref)) ∧ TupsAt H' rs (vss.take i)
theorem ct_turn {σ2 : L2.St} {Dl : Addr} {i : Nat} {vs : List V} (hp : Ct H vss Dl i H') (hi : vss[i]? = some vs) (hz : vss.length ≤ 40000) (he : EvU te σ2 H vs) :
    tYes σ2 H' fun b H3 => if b = true then te σ2 H3 fun y H4 => ∃ acc, H4 Dl = some (.lst acc) ∧ acc.length < sizeLine ∧ Ct H vss Dl (i + 1) (upd H4 Dl (.lst (acc ++ [y]))) else Ct H vss Dl (i + 1) H3 := by
  obtain ⟨p1, p2, rs, p3, p4⟩ := hp
  show te σ2 H' fun y H4 => ∃ acc, H4 Dl = some (.lst acc) ∧ acc.length < sizeLine ∧ Ct H vss Dl (i + 1) (upd H4 Dl (.lst (acc ++ [y])))
  refine he H' p2 _ fun a H4 na e4 ha => ⟨_, e4 Dl _ p3, sz_lt (by rw [List.length_map, p4.len, List.length_take]; omega), p1, Ex.mut (p2.trans e4) p1, rs ++ [a], ?_, ?_⟩
  · rw [upd_same, List.map_append] <;> rfl
  · have hne : a ≠ Dl := (ne_of_none p3 na).symm
    have k : ∀ b us, H4 b = some (.tup us) → (upd H4 Dl (.lst (rs.map V.ref ++ [.ref a]))) b = some (.tup us) := fun b us hb => by
      have hb2 : b ≠ Dl := fun z => by
        rw [z, e4 Dl _ p3] at hb
        cases hb
      rw [upd_ne hb2]
      exact hb
    have k3 : ∀ (l : List V) {rs2 : List Addr} {wss : List (List V)}, TupsAt H4 rs2 wss → TupsAt (upd H4 Dl (.lst l)) rs2 wss := fun l => by
      intro rs2 wss h
      induction h with
      | nil => exact .nil
      | cons h1 _ ih =>
        refine .cons ?_ ih
        have hb2 : ∀ b us, H4 b = some (.tup us) → b ≠ Dl := fun b us hb z => by
          rw [z, e4 Dl _ p3] at hb
          cases hb
        rw [upd_ne (hb2 _ _ h1)]
        exact h1
    rw [List.take_add_one, hi]
    exact k3 _ ((p4.mono e4).snoc (rs := rs) ha)
theorem et_zR {ta : TA} {j : Nat} {vs : List Nat} {n : Nat} (h : EvA ta σ H [.int (n : Int)]) (hz : vss.length = n) (hn : n ≤ 40000) (hw : ∀ x, wipe ((wipe σ vs).set j (some x)) vs = wipe σ vs)
    (he : ∀ (i : Nat) (us : List V) H1, Ex H H1 → vss[i]? = some us → EvU te ((wipe σ vs).set j (some (.int (i : Int)))) H1 us) : EvTL (tLc (iRng1 ta) (gName j) tYes te vs) σ H vss := fun H0 e Q q => h H0 e _ fun H1 e1 => ⟨(n : Int), rfl, by omega, by omega, fun Dl hD =>
  lc_range (lo := 0) (n := (n : Int).toNat) (Ct H1 vss Dl) ⟨hD, Ex.new hD, [], by rw [upd_same] <;> rfl, by rw [List.take_zero]; exact .nil⟩ (fun i H' hi p => by
    have e0 : (0 : Int) + (i : Int) = (i : Int) := Int.zero_add _
    have hl : i < vss.length := by omega
    show wipe ((wipe σ vs).set j (some (.int ((0 : Int) + (i : Int))))) vs = wipe σ vs ∧ tYes ((wipe σ vs).set j (some (.int ((0 : Int) + (i : Int))))) H' fun b H3 => if b = true then te ((wipe σ vs).set j (some (.int ((0 : Int) + (i : Int))))) H3 fun y H4 => ∃ acc, H4 Dl = some (.lst acc) ∧ acc.length < sizeLine ∧ Ct H1 vss Dl (i + 1) (upd H4 Dl (.lst (acc ++ [y]))) else Ct H1 vss Dl (i + 1) H3
    rw [e0]
    exact ⟨hw _, ct_turn p (List.getElem?_eq_getElem hl) (by omega) (he i _ H1 (e.trans e1) (List.getElem?_eq_getElem hl))⟩) (fun H' p => by
      obtain ⟨p1, p2, rs, p3, p4⟩ := p
      exact q Dl H' (fresh_back e1 p1) (e1.trans p2) ⟨rs, p3, by rw [List.take_of_length_le (by omega)] at p4; exact p4⟩)⟩
/-- list(a list of tuples) -/
theorem et_list (ha : Ev ta σ H (.ref p)) (h : TL H p vss) : EvTL (tCB (fun xs H Q => ∃ p ys, xs = [.ref p] ∧ (SqL K H p ys ∨ SqT K H p ys) ∧ ∀ l, H l = none → Q (.ref l) (upd H l (.lst ys))) (tCons ta tNil)) σ H vss := fun H1 e Q k => by
  obtain ⟨rs, h1, h2⟩ := h
  exact ha H1 e _ fun H2 e2 => ⟨p, _, rfl, Or.inl (sq_of (e2 _ _ (e _ _ h1))), fun l hl => k l _ (fresh_back e2 hl) (e2.trans (Ex.new hl)) ⟨rs, upd_same, h2.mono ((e.trans e2).trans (Ex.new hl))⟩⟩
/-- a loop over a list of tuples that the turns leave -/
theorem q_forTL {n : Nat} {tg : TGs} (h : Ev te σ H (.ref p)) (hT : TL H p vss) (hn : ∀ vs ∈ vss, vs.length = n) (Pv : Nat → L2.St → Hp → Prop) (h0 : ∀ H1, Ex H H1 → Pv 0 σ H1) (hE : ∀ i σ' H', Pv i σ' H' → Ex H H')
    (hs : ∀ i vs σ' H', vss[i]? = some vs → Pv i σ' H' → tg vs σ' H' fun σ2 H2 => tu { D with nx := Pv (i + 1), ct := Pv (i + 1), bk := tz D } σ2 H2) (hd : ∀ σ' H', Pv vss.length σ' H' → tz D σ' H') :
    tSeq (tFor (iList K te) (gTup K n tg) tu) tz D σ H := by
  obtain ⟨rs, h1, h2⟩ := hT
  refine q_forL h (sq_of h1) Pv h0 (fun i σ' H' _ pv => sq_of (hE i σ' H' pv _ _ h1)) (fun i x σ' H' hi pv => ?_) (fun σ' H' pv => hd σ' H' (by rw [List.length_map, h2.len] at pv; exact pv))
  obtain ⟨a, vs, rfl, hv, ha⟩ := (h2.mono (hE i σ' H' pv)).get hi
  exact ⟨a, vs, rfl, st_of ha, hn vs (List.mem_of_getElem? hv), hs i vs σ' H' hv pv⟩
/-- points as values -/
def tv (ps : List (Nat × Nat)) : List (List V) := ps.map fun q => [nV q.1, nV q.2]
def dT (q : Nat × Nat) : PyData := .tuple [.int (q.1 : Int), .int (q.2 : Int)]
theorem dp_tups : ∀ {rs : List Addr} {ps : List (Nat × Nat)}, TupsAt H rs (tv ps) → DpAll K H (rs.map V.ref) (ps.map dT)
  | [], [], _ => .nil
  | [], _ :: _, h => by cases h
  | _ :: _, [], h => by cases h
  | r :: rs, q :: ps, h => by
    cases h with
    | cons h1 h2 => exact .cons (.tup (st_of h1) (.cons (.int _) (.cons (.int _) .nil))) (dp_tups h2)
theorem lay_tups : ∀ ps : List (Nat × Nat), PyData.canLayAll0 (ps.map dT) = true ∧ PyData.depthAll (ps.map dT) ≤ 1
  | [] => ⟨rfl, Nat.zero_le _⟩
  | q :: ps => by
    have ih := lay_tups ps
    refine ⟨?_, ?_⟩
    · show (PyData.canLay0 (dT q) && PyData.canLayAll0 (ps.map dT)) = true
      rw [ih.1] <;> rfl
    · show max (PyData.depth (dT q)) (PyData.depthAll (ps.map dT)) ≤ 1
      have : PyData.depth (dT q) = 1 := rfl
      omega
theorem shaped_tups (ps : List (Nat × Nat)) : SeqAt.shaped (.list (ps.map dT)) = true := by
  unfold SeqAt.shaped
  have h1 : PyData.canLay0 (.list (ps.map dT)) = true := (lay_tups ps).1
  have h2 : PyData.depth (.list (ps.map dT)) ≤ 2 := by
    show PyData.depthAll (ps.map dT) + 1 ≤ 2
    have := (lay_tups ps).2
    omega
  rw [h1, decide_eq_true (show PyData.depth (.list (ps.map dT)) ≤ 64 by omega)] <;> rfl
theorem rv_eqTL {ps : List (Nat × Nat)} (h : TL H p (tv ps)) (h2 : TL H q (tv ps)) : RV (rEqD K) (.ref p) (.ref q) H (.bl true) := by
  obtain ⟨rs, a1, a2⟩ := h
  obtain ⟨ss, b1, b2⟩ := h2
  exact rv_eqD (d := .list (ps.map dT)) (.lst (sq_of a1) (dp_tups a2)) (.lst (sq_of b1) (dp_tups b2)) (shaped_tups ps)
/-- xs[j] = (a, b) -/
theorem q_setT {j : Nat} {vs : List V} (hT : TL H p vss) (h : EvU te σ H vs) (ho : Ev ta σ H (.ref p)) (hi : Ev tb σ H (.int (j : Int))) (hj : j < vss.length) (k : ∀ H1 H2, Ex H H1 → (∀ l, H2 = upd H1 p l → TL H2 p (vss.set j vs) → tz D σ H2)) :
    tSeq (tAsg te (gSub ta tb rSetL)) tz D σ H := h H (Ex.refl H) _ fun a H1 na e1 ha => ho H1 e1 _ fun H2 e2 => hi H2 (e1.trans e2) _ fun H3 e3 => by
  obtain ⟨rs, h1, h2⟩ := hT
  have e13 := (e1.trans e2).trans e3
  have hj2 : j < (rs.map V.ref).length := by rw [List.length_map, h2.len]; exact hj
  refine ⟨p, _, (j : Int), j, rfl, rfl, e13 _ _ h1, ixN_nat hj2, ?_⟩
  refine k H3 _ e13 _ rfl ⟨rs.set j a, by rw [upd_same, List.map_set], ?_⟩
  have h3 := h2.mono e13
  have ha3 : H3 a = some (.tup vs) := e3 _ _ (e2 _ _ ha)
  have k3 : ∀ (l : List V) {rs2 : List Addr} {wss : List (List V)}, TupsAt H3 rs2 wss → TupsAt (upd H3 p (.lst l)) rs2 wss := fun l => by
    intro rs2 wss h
    induction h with
    | nil => exact .nil
    | cons h1' _ ih =>
      refine .cons ?_ ih
      have hb2 : ∀ b us, H3 b = some (.tup us) → b ≠ p := fun b us hb z => by
        rw [z, e13 _ _ h1] at hb
        cases hb
      rw [upd_ne (hb2 _ _ h1')]
      exact h1'
  have st : ∀ {rs : List Addr} {wss : List (List V)} (j : Nat), TupsAt H3 rs wss → TupsAt H3 (rs.set j a) (wss.set j vs) := by
    intro rs wss j h
    induction h generalizing j with
    | nil => exact .nil
    | cons h1' t ih =>
      cases j with
      | zero => exact .cons ha3 t
      | succ j => exact .cons h1' (ih j)
  exact k3 _ (st j h3)
/-- name = a call, told by what the callee promises -/
theorem q_asg_raw {i : Nat} {sp : Sp} {vs : List V} {E : XK} {ta : TA} (h : EvA ta σ H vs) (k : ∀ H1, Ex H H1 → sp (vs ++ []) H1 (fun v H2 => tz D (σ.set i (some v)) H2) E) : tSeq (tAsg (tCall sp [] E ta) (gName i)) tz D σ H := h H (Ex.refl H) _ fun H1 e1 => k H1 e1
theorem q_drop1T {sp : Sp} {E : XK} (h : EvTL te σ H vss) (k : ∀ p H1, H p = none → Ex H H1 → TL H1 p vss → sp ([.ref p] ++ []) H1 (fun _ H2 => D.nx σ H2) E) : tDrop (tCall sp [] E (tCons te tNil)) D σ H := h H (Ex.refl H) _ k
end
end Mx

set_option Elab.async false
set_option linter.all false
set_option maxRecDepth 100000
set_option maxHeartbeats 4000000
namespace K04
open PySem PySem.Spec PyProof.Rows L2 Evl Mx
def top (i : Nat) : Stmt := PySem.Challenge.pw_cairn_k04_interpolation.main.body.getD i (.Pass ⟨0, 0, 0, 0⟩)
local macro_rules | `(tactic| walk_at "oct") => `(tactic| first | assumption | decide | omega | exact Gf.gm_lt _ _ | exact Gf.gi_lt _ | exact Gf.gp_lt _ _ | exact Gf.xor_lt (by walk_at "oct") (by walk_at "oct"))
local macro_rules | `(tactic| walk_at "sq") => `(tactic| first | assumption | exact sq_of (by assumption) | exact ex_l (by assumption) (by walk_at "sq"))
local macro_rules | `(tactic| walk_at "ev") => `(tactic| first
  | (with_reducible exact ev_c)
  | ((with_reducible apply ev_var); first | rfl | assumption)
  | ((with_reducible apply et_test); walk_at "ev")
  | ((with_reducible apply et_truI); walk_at "ev")
  | ((with_reducible apply et_B); walk_at "ev")
  | ((with_reducible apply et_not); walk_at "ev")
  | ((with_reducible apply et_and); walk_at "ev"; intro _; walk_at "ev")
  | ((with_reducible apply et_or); walk_at "ev"; intro _; walk_at "ev")
  | ((with_reducible apply ev_andV); walk_at "ev"; intro _; walk_at "ev")
  | ((with_reducible apply ev_orV); walk_at "ev"; intro _; walk_at "ev")
  | ((with_reducible apply ev_notV); walk_at "ev")
  | ((with_reducible apply ev_op); walk_at "ev"; walk_at "ev"; walk_at "rv")
  | ((with_reducible apply ev_un); walk_at "ev"; exact ru_neg)
  | (with_reducible exact ea_nil)
  | ((with_reducible apply ea_cons); walk_at "ev"; walk_at "ev")
  | ((with_reducible apply ev_int); walk_at "ev")
  | ((with_reducible apply ev_lenL); walk_at "ev"; walk_at "sq")
  | ((with_reducible apply ev_isEr); walk_at "ev"; walk_at "ev"; assumption)
  | ((with_reducible apply ev_isEt); walk_at "ev"; walk_at "ev"; assumption)
  | ((with_reducible apply ev_call); walk_at "ev"; walk_at "spv")
  | ((with_reducible apply el_call); walk_at "ev"; walk_at "spv"))
local macro_rules | `(tactic| walk_at "rv") => `(tactic| first
  | (with_reducible exact rv_xor)
  | (with_reducible exact rv_addN)
  | (with_reducible exact rv_and1)
  | (with_reducible exact rv_shr1)
  | (with_reducible exact rv_I0)
  | (with_reducible exact rv_eq rfl)
  | (with_reducible exact rv_ne rfl)
  | ((with_reducible apply rv_mod); first | decide | omega)
  | ((with_reducible apply rv_fdiv); first | decide | omega)
  | ((with_reducible apply rv_mulL); decide))
abbrev s_add : Stmt := top 8
abbrev N_add : List Str := ["a", "b"]
abbrev P_add : List Str := ["a", "b"]
theorem sc_add : FnScope N_add P_add (defScope s_add) := ⟨rfl, rfl, rfl, by decide +kernel, rfl, by decide +kernel, by decide +kernel⟩
abbrev s_mul : Stmt := top 9
abbrev N_mul : List Str := ["a", "b"]
abbrev P_mul : List Str := ["a", "b"]
theorem sc_mul : FnScope N_mul P_mul (defScope s_mul) := ⟨rfl, rfl, rfl, by decide +kernel, rfl, by decide +kernel, by decide +kernel⟩
abbrev s_inv : Stmt := top 10
abbrev N_inv : List Str := ["a"]
abbrev P_inv : List Str := ["a"]
theorem sc_inv : FnScope N_inv P_inv (defScope s_inv) := ⟨rfl, rfl, rfl, by decide +kernel, rfl, by decide +kernel, by decide +kernel⟩
abbrev s_div : Stmt := top 11
abbrev N_div : List Str := ["a", "b"]
abbrev P_div : List Str := ["a", "b"]
theorem sc_div : FnScope N_div P_div (defScope s_div) := ⟨rfl, rfl, rfl, by decide +kernel, rfl, by decide +kernel, by decide +kernel⟩
abbrev s_scaled : Stmt := top 12
abbrev N_scaled : List Str := ["a", "octets", "shift", "b"]
abbrev P_scaled : List Str := ["a", "octets"]
theorem sc_scaled : FnScope N_scaled P_scaled (defScope s_scaled) := ⟨rfl, rfl, rfl, by decide +kernel, rfl, by decide +kernel, by decide +kernel⟩
abbrev s_mixed : Stmt := top 13
abbrev N_mixed : List Str := ["octets", "factor", "others", "a", "b"]
abbrev P_mixed : List Str := ["octets", "factor", "others"]
theorem sc_mixed : FnScope N_mixed P_mixed (defScope s_mixed) := ⟨rfl, rfl, rfl, by decide +kernel, rfl, by decide +kernel, by decide +kernel⟩
abbrev s_trim : Stmt := top 14
abbrev N_trim : List Str := ["p"]
abbrev P_trim : List Str := ["p"]
theorem sc_trim : FnScope N_trim P_trim (defScope s_trim) := ⟨rfl, rfl, rfl, by decide +kernel, rfl, by decide +kernel, by decide +kernel⟩
abbrev s_degree : Stmt := top 15
abbrev N_degree : List Str := ["p", "index"]
abbrev P_degree : List Str := ["p"]
theorem sc_degree : FnScope N_degree P_degree (defScope s_degree) := ⟨rfl, rfl, rfl, by decide +kernel, rfl, by decide +kernel, by decide +kernel⟩
abbrev s_evaluate : Stmt := top 16
abbrev N_evaluate : List Str := ["p", "x", "value", "coefficient"]
abbrev P_evaluate : List Str := ["p", "x"]
theorem sc_evaluate : FnScope N_evaluate P_evaluate (defScope s_evaluate) := ⟨rfl, rfl, rfl, by decide +kernel, rfl, by decide +kernel, by decide +kernel⟩
abbrev s_poly_add : Stmt := top 17
abbrev N_poly_add : List Str := ["p", "q", "width", "padded_p", "padded_q", "a", "b"]
abbrev P_poly_add : List Str := ["p", "q"]
theorem sc_poly_add : FnScope N_poly_add P_poly_add (defScope s_poly_add) := ⟨rfl, rfl, rfl, by decide +kernel, rfl, by decide +kernel, by decide +kernel⟩
abbrev s_poly_mul : Stmt := top 18
abbrev N_poly_mul : List Str := ["p", "q", "width", "result", "shift", "factor"]
abbrev P_poly_mul : List Str := ["p", "q"]
theorem sc_poly_mul : FnScope N_poly_mul P_poly_mul (defScope s_poly_mul) := ⟨rfl, rfl, rfl, by decide +kernel, rfl, by decide +kernel, by decide +kernel⟩
abbrev s_interpolate : Stmt := top 19
abbrev N_interpolate : List Str := ["points", "result", "vanishing", "x", "y", "slope", "factor"]
abbrev P_interpolate : List Str := ["points"]
theorem sc_interpolate : FnScope N_interpolate P_interpolate (defScope s_interpolate) := ⟨rfl, rfl, rfl, by decide +kernel, rfl, by decide +kernel, by decide +kernel⟩
abbrev s__law_is_integer : Stmt := top 21
abbrev N__law_is_integer : List Str := ["actual"]
abbrev P__law_is_integer : List Str := ["actual"]
theorem sc__law_is_integer : FnScope N__law_is_integer P__law_is_integer (defScope s__law_is_integer) := ⟨rfl, rfl, rfl, by decide +kernel, rfl, by decide +kernel, by decide +kernel⟩
abbrev s__law_cell : Stmt := top 22
abbrev N__law_cell : List Str := ["script", "k"]
abbrev P__law_cell : List Str := ["script", "k"]
theorem sc__law_cell : FnScope N__law_cell P__law_cell (defScope s__law_cell) := ⟨rfl, rfl, rfl, by decide +kernel, rfl, by decide +kernel, by decide +kernel⟩
abbrev s__law_mixed : Stmt := top 23
abbrev N__law_mixed : List Str := ["cell", "k", "first", "second"]
abbrev P__law_mixed : List Str := ["cell", "k"]
theorem sc__law_mixed : FnScope N__law_mixed P__law_mixed (defScope s__law_mixed) := ⟨rfl, rfl, rfl, by decide +kernel, rfl, by decide +kernel, by decide +kernel⟩
abbrev s__law_digits : Stmt := top 24
abbrev N__law_digits : List Str := ["cell", "count", "many", "digits", "k"]
abbrev P__law_digits : List Str := ["cell", "count", "many"]
theorem sc__law_digits : FnScope N__law_digits P__law_digits (defScope s__law_digits) := ⟨rfl, rfl, rfl, by decide +kernel, rfl, by decide +kernel, by decide +kernel⟩
abbrev s__law_mul : Stmt := top 25
abbrev N__law_mul : List Str := ["a", "b", "product", "k"]
abbrev P__law_mul : List Str := ["a", "b"]
theorem sc__law_mul : FnScope N__law_mul P__law_mul (defScope s__law_mul) := ⟨rfl, rfl, rfl, by decide +kernel, rfl, by decide +kernel, by decide +kernel⟩
abbrev s__law_octets : Stmt := top 26
abbrev N__law_octets : List Str := ["actual", "size", "octet"]
abbrev P__law_octets : List Str := ["actual", "size"]
theorem sc__law_octets : FnScope N__law_octets P__law_octets (defScope s__law_octets) := ⟨rfl, rfl, rfl, by decide +kernel, rfl, by decide +kernel, by decide +kernel⟩
abbrev s__law_value : Stmt := top 27
abbrev N__law_value : List Str := ["p", "x", "value", "factor", "octet"]
abbrev P__law_value : List Str := ["p", "x"]
theorem sc__law_value : FnScope N__law_value P__law_value (defScope s__law_value) := ⟨rfl, rfl, rfl, by decide +kernel, rfl, by decide +kernel, by decide +kernel⟩
abbrev s__law_xs : Stmt := top 28
abbrev N__law_xs : List Str := ["cell", "count", "left", "digits", "xs", "k"]
abbrev P__law_xs : List Str := ["cell", "count"]
theorem sc__law_xs : FnScope N__law_xs P__law_xs (defScope s__law_xs) := ⟨rfl, rfl, rfl, by decide +kernel, rfl, by decide +kernel, by decide +kernel⟩
abbrev s_law : Stmt := top 29
abbrev N_law : List Str := ["script", "sizes", "count", "xs", "ys", "points", "k", "at", "to", "worth", "e", "given", "actual", "x", "y"]
abbrev P_law : List Str := ["script"]
theorem sc_law : FnScope N_law P_law (defScope s_law) := ⟨rfl, rfl, rfl, by decide +kernel, rfl, by decide +kernel, by decide +kernel⟩
structure Txt (K : PySem.W.Frag) (mg : Str → Option Value) : Prop where
  F_add : FnAt K "add" s_add
  g_add : mg "add" = some (.ref (He.ga K "add"))
  p_add : PySem.W.keepIn K (.ref (He.ga K "add")) = true
  F_mul : FnAt K "mul" s_mul
  g_mul : mg "mul" = some (.ref (He.ga K "mul"))
  p_mul : PySem.W.keepIn K (.ref (He.ga K "mul")) = true
  F_inv : FnAt K "inv" s_inv
  g_inv : mg "inv" = some (.ref (He.ga K "inv"))
  p_inv : PySem.W.keepIn K (.ref (He.ga K "inv")) = true
  F_div : FnAt K "div" s_div
  g_div : mg "div" = some (.ref (He.ga K "div"))
  p_div : PySem.W.keepIn K (.ref (He.ga K "div")) = true
  F_scaled : FnAt K "scaled" s_scaled
  g_scaled : mg "scaled" = some (.ref (He.ga K "scaled"))
  p_scaled : PySem.W.keepIn K (.ref (He.ga K "scaled")) = true
  F_mixed : FnAt K "mixed" s_mixed
  g_mixed : mg "mixed" = some (.ref (He.ga K "mixed"))
  p_mixed : PySem.W.keepIn K (.ref (He.ga K "mixed")) = true
  F_trim : FnAt K "trim" s_trim
  g_trim : mg "trim" = some (.ref (He.ga K "trim"))
  p_trim : PySem.W.keepIn K (.ref (He.ga K "trim")) = true
  F_degree : FnAt K "degree" s_degree
  g_degree : mg "degree" = some (.ref (He.ga K "degree"))
  p_degree : PySem.W.keepIn K (.ref (He.ga K "degree")) = true
  F_evaluate : FnAt K "evaluate" s_evaluate
  g_evaluate : mg "evaluate" = some (.ref (He.ga K "evaluate"))
  p_evaluate : PySem.W.keepIn K (.ref (He.ga K "evaluate")) = true
  F_poly_add : FnAt K "poly_add" s_poly_add
  g_poly_add : mg "poly_add" = some (.ref (He.ga K "poly_add"))
  p_poly_add : PySem.W.keepIn K (.ref (He.ga K "poly_add")) = true
  F_poly_mul : FnAt K "poly_mul" s_poly_mul
  g_poly_mul : mg "poly_mul" = some (.ref (He.ga K "poly_mul"))
  p_poly_mul : PySem.W.keepIn K (.ref (He.ga K "poly_mul")) = true
  F_interpolate : FnAt K "interpolate" s_interpolate
  g_interpolate : mg "interpolate" = some (.ref (He.ga K "interpolate"))
  p_interpolate : PySem.W.keepIn K (.ref (He.ga K "interpolate")) = true
  F__law_is_integer : FnAt K "_law_is_integer" s__law_is_integer
  g__law_is_integer : mg "_law_is_integer" = some (.ref (He.ga K "_law_is_integer"))
  p__law_is_integer : PySem.W.keepIn K (.ref (He.ga K "_law_is_integer")) = true
  F__law_cell : FnAt K "_law_cell" s__law_cell
  g__law_cell : mg "_law_cell" = some (.ref (He.ga K "_law_cell"))
  p__law_cell : PySem.W.keepIn K (.ref (He.ga K "_law_cell")) = true
  F__law_mixed : FnAt K "_law_mixed" s__law_mixed
  g__law_mixed : mg "_law_mixed" = some (.ref (He.ga K "_law_mixed"))
  p__law_mixed : PySem.W.keepIn K (.ref (He.ga K "_law_mixed")) = true
  F__law_digits : FnAt K "_law_digits" s__law_digits
  g__law_digits : mg "_law_digits" = some (.ref (He.ga K "_law_digits"))
  p__law_digits : PySem.W.keepIn K (.ref (He.ga K "_law_digits")) = true
  F__law_mul : FnAt K "_law_mul" s__law_mul
  g__law_mul : mg "_law_mul" = some (.ref (He.ga K "_law_mul"))
  p__law_mul : PySem.W.keepIn K (.ref (He.ga K "_law_mul")) = true
  F__law_octets : FnAt K "_law_octets" s__law_octets
  g__law_octets : mg "_law_octets" = some (.ref (He.ga K "_law_octets"))
  p__law_octets : PySem.W.keepIn K (.ref (He.ga K "_law_octets")) = true
  F__law_value : FnAt K "_law_value" s__law_value
  g__law_value : mg "_law_value" = some (.ref (He.ga K "_law_value"))
  p__law_value : PySem.W.keepIn K (.ref (He.ga K "_law_value")) = true
  F__law_xs : FnAt K "_law_xs" s__law_xs
  g__law_xs : mg "_law_xs" = some (.ref (He.ga K "_law_xs"))
  p__law_xs : PySem.W.keepIn K (.ref (He.ga K "_law_xs")) = true
  F_law : FnAt K "law" s_law
  g_law : mg "law" = some (.ref (He.ga K "law"))
  p_law : PySem.W.keepIn K (.ref (He.ga K "law")) = true
  m_ValueError : mg "ValueError" = none
  m_bool : mg "bool" = none
  m_enumerate : mg "enumerate" = none
  m_int : mg "int" = none
  m_isinstance : mg "isinstance" = none
  m_len : mg "len" = none
  m_list : mg "list" = none
  m_max : mg "max" = none
  m_range : mg "range" = none
  m_reversed : mg "reversed" = none
  m_zip : mg "zip" = none
  c_ORDER : mg "ORDER" = some (cst mg "ORDER")
  r_ORDER : RelV (.int 255) (cst mg "ORDER")
  c_LOGS : mg "LOGS" = some (.ref (He.ga K "LOGS"))
  r_LOGS : RelV (.ref (He.ga K "LOGS")) (.ref (He.ga K "LOGS"))
  t_LOGS : ∀ H : Hp, SqT K H (He.ga K "LOGS") (Gf.logL.map nV)
  c_POWERS : mg "POWERS" = some (.ref (He.ga K "POWERS"))
  r_POWERS : RelV (.ref (He.ga K "POWERS")) (.ref (He.ga K "POWERS"))
  t_POWERS : ∀ H : Hp, SqT K H (He.ga K "POWERS") (Gf.powL.map nV)
  c_CairnError : mg "CairnError" = some (.ref (He.ga K "CairnError"))
  r_CairnError : RelV (.ref (He.ga K "CairnError")) (.ref (He.ga K "CairnError"))
  x_CairnError : PySem.W.excIn K (He.ga K "CairnError") He.veBase "ValueError.__new__" = true
  k_CairnError : PySem.W.keepIn K (.ref (He.ga K "CairnError")) = true
  b_CairnError : PySem.W.subIn K (.ref (He.ga K "CairnError")) (.type "BaseException") = some true
  t_CairnError : PySem.W.typeIn K (.ref (He.ga K "CairnError")) = some (.type "type")
  c_ZeroElement : mg "ZeroElement" = some (.ref (He.ga K "ZeroElement"))
  r_ZeroElement : RelV (.ref (He.ga K "ZeroElement")) (.ref (He.ga K "ZeroElement"))
  x_ZeroElement : PySem.W.excIn K (He.ga K "ZeroElement") He.veBase "ValueError.__new__" = true
  k_ZeroElement : PySem.W.keepIn K (.ref (He.ga K "ZeroElement")) = true
  b_ZeroElement : PySem.W.subIn K (.ref (He.ga K "ZeroElement")) (.type "BaseException") = some true
  t_ZeroElement : PySem.W.typeIn K (.ref (He.ga K "ZeroElement")) = some (.type "type")
  c_DuplicatePoint : mg "DuplicatePoint" = some (.ref (He.ga K "DuplicatePoint"))
  r_DuplicatePoint : RelV (.ref (He.ga K "DuplicatePoint")) (.ref (He.ga K "DuplicatePoint"))
  x_DuplicatePoint : PySem.W.excIn K (He.ga K "DuplicatePoint") He.veBase "ValueError.__new__" = true
  k_DuplicatePoint : PySem.W.keepIn K (.ref (He.ga K "DuplicatePoint")) = true
  b_DuplicatePoint : PySem.W.subIn K (.ref (He.ga K "DuplicatePoint")) (.type "BaseException") = some true
  t_DuplicatePoint : PySem.W.typeIn K (.ref (He.ga K "DuplicatePoint")) = some (.type "type")
  ec_DuplicatePoint : ExcC K (He.ga K "DuplicatePoint")
  iv_DuplicatePoint : PySem.W.kitOne K (.ref (He.ga K "DuplicatePoint")) (.type "ValueError") = some true
  is_DuplicatePoint_DuplicatePoint : PySem.W.kitOne K (.ref (He.ga K "DuplicatePoint")) (.ref (He.ga K "DuplicatePoint")) = some true
  is_DuplicatePoint_ZeroElement : PySem.W.kitOne K (.ref (He.ga K "DuplicatePoint")) (.ref (He.ga K "ZeroElement")) = some false
  ex_DuplicatePoint_CairnError : PySem.W.exmOne K (.ref (He.ga K "DuplicatePoint")) (.ref (He.ga K "CairnError")) = some true
  ec_ZeroElement : ExcC K (He.ga K "ZeroElement")
  iv_ZeroElement : PySem.W.kitOne K (.ref (He.ga K "ZeroElement")) (.type "ValueError") = some true
  is_ZeroElement_DuplicatePoint : PySem.W.kitOne K (.ref (He.ga K "ZeroElement")) (.ref (He.ga K "DuplicatePoint")) = some false
  is_ZeroElement_ZeroElement : PySem.W.kitOne K (.ref (He.ga K "ZeroElement")) (.ref (He.ga K "ZeroElement")) = some true
  ex_ZeroElement_CairnError : PySem.W.exmOne K (.ref (He.ga K "ZeroElement")) (.ref (He.ga K "CairnError")) = some true
section
variable {P : Program} {w : World} {K : PySem.W.Frag} {mg : Str → Option Value} {base : Heap}
/-- add(a, b): the bits that differ -/
def sp_add : Sp := fun vs H Q _ => ∃ (a b : Nat), vs = [.int (a : Int), .int (b : Int)] ∧ RetV (.int ((a ^^^ b : Nat) : Int)) H Q
theorem spv_add {a b : Nat} {H : Hp} : SpV sp_add ([.int (a : Int), .int (b : Int)] ++ []) H (.int ((a ^^^ b : Nat) : Int)) := fun H1 e Q q E => ⟨a, b, rfl, q⟩
local macro_rules | `(tactic| walk_at "spv") => `(tactic| with_reducible exact spv_add)
theorem ok_add (T : Txt K mg) : Okf P w K mg base CX0 1 "add" s_add P_add sp_add := by
  obtain ⟨fd, F⟩ := T.F_add
  refine ⟨fd, F.ok sc_add (fun vs H Q E h => ?_) (fun cdv A outer s H vs Q E hr h => ?_), F.bindsN fun _ _ _ _ _ _ us hl => match us, hl with | [_, _], _ => rfl, F⟩
  · obtain ⟨a, b, rfl, k⟩ := h
    rfl
  · obtain ⟨a, b, rfl, k⟩ := h
    refine ⟨_, PSs.nox (pss_one (ps_ret (pe_op op_xor (pv 0) (pv 1)))), ?_⟩
    refine s_ret ?_ k
    walk_at "ev"
/-- mul(a, b): by the tables -/
def sp_mul : Sp := fun vs H Q _ => ∃ (a b : Nat), vs = [.int (a : Int), .int (b : Int)] ∧ a < 256 ∧ b < 256 ∧ RetV (.int ((Gf.gm a b : Nat) : Int)) H Q
theorem spv_mul {a b : Nat} {H : Hp} (ha : a < 256) (hb : b < 256) : SpV sp_mul ([.int (a : Int), .int (b : Int)] ++ []) H (.int ((Gf.gm a b : Nat) : Int)) := fun H1 e Q q E => ⟨a, b, rfl, ha, hb, q⟩
local macro_rules | `(tactic| walk_at "spv") => `(tactic| first | ((with_reducible apply spv_mul) <;> walk_at "oct") | (apply spv_mul <;> walk_at "oct"))
theorem ok_mul (T : Txt K mg) : Okf P w K mg base CX0 1 "mul" s_mul P_mul sp_mul := by
  obtain ⟨fd, F⟩ := T.F_mul
  refine ⟨fd, F.ok sc_mul (fun vs H Q E h => ?_) (fun cdv A outer s H vs Q E hr h => ?_), F.bindsN fun _ _ _ _ _ _ us hl => match us, hl with | [_, _], _ => rfl, F⟩
  · obtain ⟨a, b, rfl, ha, hb, k⟩ := h
    rfl
  · obtain ⟨a, b, rfl, ha, hb, k⟩ := h
    refine ⟨_, PSs.nox (pss_cons (ps_if (PW.pt (pw_or (pt_cmpR op_eq (pv 0) pe_int (nomark _)) (pw_or1 (pt_cmpR op_eq (pv 1) pe_int (nomark _))))) (pss_one (ps_ret pe_int)) pss_nil)
(pss_one (ps_ret (pe_ix (ix_tupK (K := K) rfl) (pe_glob rfl T.c_POWERS T.r_POWERS) (pe_op op_mod (pe_op op_add (pe_ix (ix_tupK (K := K) rfl) (pe_glob rfl T.c_LOGS T.r_LOGS) (pv 0) (fun _ _ => rfl)) (pe_ix (ix_tupK (K := K) rfl) (pe_glob rfl T.c_LOGS T.r_LOGS) (pv 1) (fun _ _ => rfl))) (pe_glob rfl T.c_ORDER T.r_ORDER)) (fun _ _ => rfl))))), ?_⟩
    refine q_when (by walk_at "ev") (fun h0 H1 e1 => ?_) (fun h0 H1 e1 => ?_)
    · refine s_ret ev_c fun H2 e2 => ?_
      have z : Gf.gm a b = 0 := Gf.gm_zero (by simpa using h0)
      rw [z] at k
      exact k H2 (e1.trans e2)
    · have z : ¬ a = 0 ∧ ¬ b = 0 := by simpa using h0
      refine s_ret (v := .int ((Gf.gm a b : Nat) : Int)) ?_ fun H2 e2 => k H2 (e1.trans e2)
      rw [Gf.gm_pos z.1 z.2]
      exact ev_op ev_c (ev_op (ev_op (ev_op ev_c (ev_var rfl) (rv_ixTN (T.t_LOGS _) (log_at ha))) (ev_op ev_c (ev_var rfl) (rv_ixTN (T.t_LOGS _) (log_at hb))) rv_addN) ev_c (rv_modN (by decide))) (rv_ixTN (T.t_POWERS _) (pow_at (Nat.mod_lt _ (by decide))))
/-- inv(a): by the tables; 0 has none -/
def sp_inv (K : PySem.W.Frag) : Sp := fun vs H Q E => ∃ (a : Nat), vs = [.int (a : Int)] ∧ a < 256 ∧ (a = 0 → ∀ H', Ex H H' → E (.ref (He.ga K "ZeroElement")) none H') ∧ (¬ a = 0 → RetV (.int ((Gf.gi a : Nat) : Int)) H Q)
theorem spv_inv {K : PySem.W.Frag} {a : Nat} {H : Hp} (ha : a < 256) (h0 : ¬ a = 0) : SpV (sp_inv K) ([.int (a : Int)] ++ []) H (.int ((Gf.gi a : Nat) : Int)) := fun H1 e Q q E => ⟨a, rfl, ha, fun z => absurd z h0, fun _ => q⟩
local macro_rules | `(tactic| walk_at "spv") => `(tactic| first | ((with_reducible apply spv_inv) <;> walk_at "oct") | (apply spv_inv <;> walk_at "oct"))
theorem ok_inv (T : Txt K mg) : Okf P w K mg base (L2.CX P w) 1 "inv" s_inv P_inv (sp_inv K) := by
  obtain ⟨fd, F⟩ := T.F_inv
  refine ⟨fd, F.ok sc_inv (fun vs H Q E h => ?_) (fun cdv A outer s H vs Q E hr h => ?_), F.bindsN fun _ _ _ _ _ _ us hl => match us, hl with | [_], _ => rfl, F⟩
  · obtain ⟨a, rfl, ha, kE, k⟩ := h
    rfl
  · obtain ⟨a, rfl, ha, kE, k⟩ := h
    refine ⟨_, (pss_cons (ps_if (pt_cmpR op_eq (pv 0) pe_int (nomark _)) (pss_one (ps_raise rfl (takes_of rfl rfl rfl rfl) (pmk_own PySem.F.excBase_ValueError T.x_ZeroElement T.c_ZeroElement T.k_ZeroElement (raises_own T.b_ZeroElement T.t_ZeroElement) (by exact rfl)))) pss_nil)
(pss_one (ps_ret (pe_ix (ix_tupK (K := K) rfl) (pe_glob rfl T.c_POWERS T.r_POWERS) (pe_op op_mod (pe_op op_sub (pe_glob rfl T.c_ORDER T.r_ORDER) (pe_ix (ix_tupK (K := K) rfl) (pe_glob rfl T.c_LOGS T.r_LOGS) (pv 0) (fun _ _ => rfl))) (pe_glob rfl T.c_ORDER T.r_ORDER)) (fun _ _ => rfl))))), ?_⟩
    refine q_when (by walk_at "ev") (fun h0 H1 e1 => ?_) (fun h0 H1 e1 => ?_)
    · have z : a = 0 := by simpa using h0
      exact kE z H1 e1
    · have z : ¬ a = 0 := by simpa using h0
      refine s_ret ?_ fun H2 e2 => k z H2 (e1.trans e2)
      exact ev_op ev_c (ev_op (ev_op ev_c (ev_op ev_c (ev_var rfl) (rv_ixTN (T.t_LOGS _) (log_at ha))) (rv_subN (a := 255) (b := Gf.lg a) (by have := Gf.lg_lt ha; omega))) ev_c (rv_modN (by decide))) (rv_ixTN (T.t_POWERS _) (pow_at (Nat.mod_lt _ (by decide))))
def sp_scaled : Sp := fun vs H Q _ => ∃ (a : Nat) (p : Addr) (l : List Nat), vs = [.int (a : Int), .ref p] ∧ a < 256 ∧ LN H p l ∧ Py.Oc l ∧ l.length ≤ 30000 ∧ RetL ((l.map (Gf.gm a)).map nV) H Q
theorem spl_scaled {a : Nat} {p : Addr} {l : List Nat} {H : Hp} (ha : a < 256) (h : LN H p l) (ho : Py.Oc l) (hl : l.length ≤ 30000) : SpL sp_scaled ([.int (a : Int), .ref p] ++ []) H ((l.map (Gf.gm a)).map nV) := fun H1 e Q q E => ⟨a, p, l, rfl, ha, h.up e, ho, hl, q⟩
local macro_rules | `(tactic| walk_at "spv") => `(tactic| ((with_reducible apply spl_scaled) <;> walk_at "oct"))
theorem ok_scaled (T : Txt K mg) : Okf P w K mg base CX0 1 "scaled" s_scaled P_scaled sp_scaled := by
  obtain ⟨fd, F⟩ := T.F_scaled
  refine ⟨fd, F.ok sc_scaled (fun vs H Q E h => ?_) (fun cdv A outer s H vs Q E hr h => ?_), F.bindsN fun _ _ _ _ _ _ us hl => match us, hl with | [_, _], _ => rfl, F⟩
  · obtain ⟨a, p, l, rfl, ha, hp, ho, hl, k⟩ := h
    rfl
  · obtain ⟨a, p, l, rfl, ha, hp, ho, hl, k⟩ := h
    refine ⟨_, PSs.nox (pss_cons (ps_if (pt_cmpR op_eq (pv 0) pe_int (nomark _)) (pss_one (ps_ret (pe_op op_rep (pe_lst (pa_cons pe_int pa_nil)) (pe_callB (call_lenK (K := K) rfl) (by rfl) T.m_len (by decide +kernel) (pa_cons (pv 1) pa_nil))))) pss_nil)
(pss_cons (ps_set (i := 2) sc_scaled.nd rfl (by first | exact Or.inl rfl | exact Or.inr rfl) (pe_ix (ix_tupK (K := K) rfl) (pe_glob rfl T.c_LOGS T.r_LOGS) (pv 0) (fun _ _ => rfl)))
(pss_one (ps_ret (pe_lc (own := [("b", 3)]) (g := gName 3) (tt := tYes) (by rfl) sc_scaled.nd (pi_list (pv 1)) (blkOk_by (own := [("b", 3)]) (N := N_scaled) (sc := defScope s_scaled) (by decide +kernel)) (fun _ _ _ _ _ => (pg_name (i := 3) sc_scaled.nd rfl (by first | exact Or.inl rfl | exact Or.inr rfl))) (fun _ _ _ _ _ => pts_nil) (fun _ _ _ _ _ => (pe_ifExp (pt_truthK (K := K) rfl (pv 3) (by intro _; rfl)) (pe_ix (ix_tupK (K := K) rfl) (pe_glob rfl T.c_POWERS T.r_POWERS) (pe_op op_mod (pe_op op_add (pv 2) (pe_ix (ix_tupK (K := K) rfl) (pe_glob rfl T.c_LOGS T.r_LOGS) (pv 3) (fun _ _ => rfl))) (pe_glob rfl T.c_ORDER T.r_ORDER)) (fun _ _ => rfl)) pe_int))))))), ?_⟩
    refine q_when (by walk_at "ev") (fun h0 H1 e1 => ?_) (fun h0 H1 e1 => ?_)
    · have z : a = 0 := by simpa using h0
      refine s_retL (el_is (el_rep (n := l.length) (el_lst (ea_cons ev_c ea_nil) (by decide)) (ev_is (ev_lenL (ev_var rfl) (sq_of (hp.up e1))) (by rw [len_map])) (by omega)) ?_) fun q H2 nq e2 hq => k q H2 (fresh_back e1 nq) (e1.trans e2) hq
      rw [map_rep]
      congr 1
      rw [z]
      clear hp k
      induction l with
      | nil => rfl
      | cons c l ih =>
        rw [List.map_cons, Gf.gm_zero (.inl rfl), List.length_cons, List.replicate_succ, ih ho.tail (by simp at hl; omega)]
    · have z : ¬ a = 0 := by simpa using h0
      refine q_asg (ev_op ev_c (ev_var rfl) (rv_ixTN (T.t_LOGS _) (log_at ha))) fun H2 e2 => ?_
      refine s_retL ?_ fun q H3 nq e3 hq => k q H3 (fresh_back (e1.trans e2) nq) ((e1.trans e2).trans e3) hq
      refine el_zL (ev_var rfl) (sq_of (hp.up (e1.trans e2))) (by simp) (by rw [len_map]; omega) (fun x => rfl) fun i x w H4 e4 hx hw => ?_
      obtain ⟨hi, rfl⟩ := nat_of_get hx
      have ob := ho i
      have hw2 : w = .int ((Gf.gm a (Py.at0 l i) : Nat) : Int) := by
        rw [List.getElem?_map, List.getElem?_map, Py.at0_get hi] at hw
        exact (Option.some.inj hw).symm
      rw [hw2]
      refine ev_if (by walk_at "ev") (fun hb => ?_) (fun hb => ?_)
      · have nb : ¬ Py.at0 l i = 0 := by
          intro q
          rw [q] at hb
          exact absurd hb (by decide)
        rw [Gf.gm_pos z nb]
        exact ev_op ev_c (ev_op (ev_op (ev_var rfl) (ev_op ev_c (ev_var rfl) (rv_ixTN (T.t_LOGS _) (log_at ob))) rv_addN) ev_c (rv_modN (by decide))) (rv_ixTN (T.t_POWERS _) (pow_at (Nat.mod_lt _ (by decide))))
      · have nb : Py.at0 l i = 0 := by
          have q2 : ((Py.at0 l i : Nat) : Int) = 0 := by simpa using hb
          omega
        rw [Gf.gm_zero (.inr nb)]
        exact ev_c
def sp_degree : Sp := fun vs H Q _ => ∃ (p : Addr) (l : List Nat), vs = [.ref p] ∧ LN H p l ∧ l.length ≤ 40000 ∧ RetV (.int (((Py.tlen l : Nat) : Int) - 1)) H Q
theorem spv_degree {p : Addr} {l : List Nat} {H : Hp} (h : LN H p l) (hl : l.length ≤ 40000) : SpV sp_degree ([.ref p] ++ []) H (.int (((Py.tlen l : Nat) : Int) - 1)) := fun H1 e Q q E => ⟨p, l, rfl, h.up e, hl, q⟩
local macro_rules | `(tactic| walk_at "spv") => `(tactic| ((with_reducible apply spv_degree) <;> walk_at "oct"))
theorem ok_degree (T : Txt K mg) : Okf P w K mg base CX0 1 "degree" s_degree P_degree sp_degree := by
  obtain ⟨fd, F⟩ := T.F_degree
  refine ⟨fd, F.ok sc_degree (fun vs H Q E h => ?_) (fun cdv A outer s H vs Q E hr h => ?_), F.bindsN fun _ _ _ _ _ _ us hl => match us, hl with | [_], _ => rfl, F⟩
  · obtain ⟨p, l, rfl, hp, hl, k⟩ := h
    rfl
  · obtain ⟨p, l, rfl, hp, hl, k⟩ := h
    refine ⟨_, PSs.nox (pss_cons (ps_set (i := 1) sc_degree.nd rfl (by first | exact Or.inl rfl | exact Or.inr rfl) (pe_op op_sub (pe_callB (call_lenK (K := K) rfl) (by rfl) T.m_len (by decide +kernel) (pa_cons (pv 0) pa_nil)) pe_int))
(pss_cons (ps_while PassesOwn.never (PW.pt (pw_and (pt_cmpR op_ge (pv 1) pe_int (nomark _)) (pw_and1 (pt_cmpR op_eq (pe_ix (ix_listK (K := K) rfl) (pv 0) (pv 1) (fun _ _ => rfl)) pe_int (nomark _))))) (pss_one (ps_aug (i := 1) sc_degree.nd rfl (by first | exact Or.inl rfl | exact Or.inr rfl) pe_int ip_sub)))
(pss_one (ps_ret (pv 1))))), ?_⟩
    refine q_asg (v := .int ((l.length : Int) - 1)) (ev_is (ev_op (ev_lenL (ev_var rfl) (sq_of hp)) ev_c rv_I0) (by rw [len_map])) fun H1 e1 => ?_
    refine q_while (fun m s H' => s = [some (.ref p), some (.int ((m : Int) - 1))] ∧ Ex H H' ∧ m ≤ l.length ∧ ∀ j, m ≤ j → Py.at0 l j = 0) l.length ⟨rfl, e1, Nat.le_refl _, fun j hj => Py.at0_none hj⟩ ?_
    rintro m s H' ⟨rfl, e, hm, hz⟩
    cases m with
    | zero =>
      refine ⟨false, et_is (et_and (b := false) (by walk_at "ev") (fun q => absurd q (by decide))) (by decide), (fun q => absurd q Bool.false_ne_true), fun _ H2 e2 => ?_⟩
      have ez : Py.tlen l = 0 := Py.tlen_eq hz (.inl rfl)
      rw [ez] at k
      exact s_ret (ev_var rfl) fun H3 e3 => k H3 ((e.trans e2).trans e3)
    | succ m =>
      have ei : ((m + 1 : Nat) : Int) - 1 = (m : Int) := by omega
      rw [ei]
      refine ⟨decide (Py.at0 l m = 0), et_is (et_and (by walk_at "ev") fun _ => et_test (ev_op (ev_op (ev_var rfl) (ev_var rfl) (rv_ixLN (sq_of (hp.up e)) (nat_get (by omega)))) ev_c (rv_eq rfl))) (by simp), fun hb H2 e2 => ?_, fun hb H2 e2 => ?_⟩
      · have q := of_decide_eq_true hb
        refine ⟨_, fun _ _ n => n, s_aug (σ := [some (.ref p), some (.int (m : Int))]) rfl ev_c fun H3 e3 => ⟨m, Nat.lt_succ_self _, rfl, (e.trans e2).trans e3, by omega, fun j hj => ?_⟩⟩
        by_cases z : j = m
        · rw [z]
          exact q
        · exact hz j (by omega)
      · have q := of_decide_eq_false hb
        have ez : Py.tlen l = m + 1 := Py.tlen_eq hz (.inr q)
        rw [ez, ei] at k
        exact s_ret (ev_var rfl) fun H3 e3 => k H3 ((e.trans e2).trans e3)
def sp__law_is_integer : Sp := fun vs H Q _ => ∃ (i : Int), vs = [.int i] ∧ RetV (.bl true) H Q
theorem spv__law_is_integer {i : Int} {H : Hp} : SpV sp__law_is_integer ([.int i] ++ []) H (.bl true) := fun H1 e Q q E => ⟨i, rfl, q⟩
local macro_rules | `(tactic| walk_at "spv") => `(tactic| with_reducible exact spv__law_is_integer)
theorem ok__law_is_integer (T : Txt K mg) : Okf P w K mg base CX0 1 "_law_is_integer" s__law_is_integer P__law_is_integer sp__law_is_integer := by
  obtain ⟨fd, F⟩ := T.F__law_is_integer
  refine ⟨fd, F.ok sc__law_is_integer (fun vs H Q E h => ?_) (fun cdv A outer s H vs Q E hr h => ?_), F.bindsN fun _ _ _ _ _ _ us hl => match us, hl with | [_], _ => rfl, F⟩
  · obtain ⟨i, rfl, k⟩ := h
    rfl
  · obtain ⟨i, rfl, k⟩ := h
    refine ⟨_, PSs.nox (pss_one (ps_ret (pe_and (pe_callB (call_isiK' (K := K) rfl) (by rfl) T.m_isinstance (by decide +kernel) (pa_cons (pv 0) (pa_cons (pe_bltn (v := .ty "int") (by rfl) T.m_int (by decide +kernel) rfl) pa_nil))) (pe_one (pe_not (pe_callB (call_isiK' (K := K) rfl) (by rfl) T.m_isinstance (by decide +kernel) (pa_cons (pv 0) (pa_cons (pe_bltn (v := .ty "bool") (by rfl) T.m_bool (by decide +kernel) rfl) pa_nil)))))))), ?_⟩
    refine s_ret (v := .bl (true && !false)) ?_ k
    exact ev_andV (ev_isiI (ev_var rfl) ev_c (by decide +kernel)) fun _ => ev_notV (ev_isiI (ev_var rfl) ev_c (by decide +kernel))
def sp__law_cell (K : PySem.W.Frag) : Sp := fun vs H Q _ => ∃ (a : Addr) (ns : List Int) (k : Nat), vs = [.ref a, .int (k : Int)] ∧ SqL K H a (ns.map V.int) ∧ RetV (.int (ns.getD k 0)) H Q
theorem spv__law_cell {K : PySem.W.Frag} {a : Addr} {ns : List Int} {k : Nat} {H : Hp} (h : SqL K H a (ns.map V.int)) : SpV (sp__law_cell K) ([.ref a, .int (k : Int)] ++ []) H (.int (ns.getD k 0)) := fun H1 e Q q E => ⟨a, ns, k, rfl, ex_l e h, q⟩
local macro_rules | `(tactic| walk_at "spv") => `(tactic| first | ((with_reducible apply spv__law_cell); walk_at "sq") | (apply spv__law_cell; walk_at "sq"))
theorem ok__law_cell (T : Txt K mg) : Okf P w K mg base CX0 1 "_law_cell" s__law_cell P__law_cell (sp__law_cell K) := by
  obtain ⟨fd, F⟩ := T.F__law_cell
  refine ⟨fd, F.ok sc__law_cell (fun vs H Q E h => ?_) (fun cdv A outer s H vs Q E hr h => ?_), F.bindsN fun _ _ _ _ _ _ us hl => match us, hl with | [_, _], _ => rfl, F⟩
  · obtain ⟨a, ns, i, rfl, hS, k⟩ := h
    rfl
  · obtain ⟨a, ns, i, rfl, hS, k⟩ := h
    refine ⟨_, PSs.nox (pss_cons (ps_if (pt_cmpR op_lt (pv 1) (pe_callB (call_lenK (K := K) rfl) (by rfl) T.m_len (by decide +kernel) (pa_cons (pv 0) pa_nil)) (nomark _)) (pss_one (ps_ret (pe_ix (ix_listK (K := K) rfl) (pv 0) (pv 1) (fun _ _ => rfl)))) pss_nil)
(pss_one (ps_ret pe_int))), ?_⟩
    refine q_when (b := decide ((i : Int) < ((ns.map V.int).length : Int))) ?_ (fun h0 H1 e1 => ?_) (fun h0 H1 e1 => ?_)
    · exact et_test (ev_op (ev_var rfl) (ev_lenL (ev_var rfl) hS) rv_I0)
    · have z : i < ns.length := by
        have z2 := of_decide_eq_true h0
        rw [List.length_map] at z2
        omega
      refine s_ret (v := .int (ns.getD i 0)) ?_ fun H2 e2 => k H2 (e1.trans e2)
      refine ev_op (ev_var rfl) (ev_var rfl) (rv_ixL (ex_l e1 hS) (atI_nat ?_))
      rw [List.getElem?_map, List.getElem?_eq_getElem z, List.getD_eq_getElem?_getD, List.getElem?_eq_getElem z]
      rfl
    · have z : ¬ i < ns.length := by
        have z2 := of_decide_eq_false h0
        rw [List.length_map] at z2
        omega
      refine s_ret (v := .int (ns.getD i 0)) ?_ fun H2 e2 => k H2 (e1.trans e2)
      rw [List.getD_eq_getElem?_getD, List.getElem?_eq_none (by omega)]
      exact ev_c
def sp__law_mixed : Sp := fun vs H Q _ => ∃ (c k : Int), vs = [.int c, .int k] ∧ RetV (.int (Gf.mixed c k)) H Q
theorem spv__law_mixed {c k : Int} {H : Hp} : SpV sp__law_mixed ([.int c, .int k] ++ []) H (.int (Gf.mixed c k)) := fun H1 e Q q E => ⟨c, k, rfl, q⟩
local macro_rules | `(tactic| walk_at "spv") => `(tactic| with_reducible exact spv__law_mixed)
theorem ok__law_mixed (T : Txt K mg) : Okf P w K mg base CX0 1 "_law_mixed" s__law_mixed P__law_mixed sp__law_mixed := by
  obtain ⟨fd, F⟩ := T.F__law_mixed
  refine ⟨fd, F.ok sc__law_mixed (fun vs H Q E h => ?_) (fun cdv A outer s H vs Q E hr h => ?_), F.bindsN fun _ _ _ _ _ _ us hl => match us, hl with | [_, _], _ => rfl, F⟩
  · obtain ⟨c, i, rfl, k⟩ := h
    rfl
  · obtain ⟨c, i, rfl, k⟩ := h
    refine ⟨_, PSs.nox (pss_cons (ps_set (i := 2) sc__law_mixed.nd rfl (by first | exact Or.inl rfl | exact Or.inr rfl) (pe_op op_mod (pe_callTy call_int1 (by rfl) T.m_int (by decide +kernel) (pa_cons (pe_op op_add (pe_op op_add (pe_op op_mul (pe_callTy call_int1 (by rfl) T.m_int (by decide +kernel) (pa_cons (pv 0) pa_nil)) pe_int) (pe_op op_mul (pv 1) pe_int)) pe_int) pa_nil)) pe_int))
(pss_cons (ps_set (i := 3) sc__law_mixed.nd rfl (by first | exact Or.inl rfl | exact Or.inr rfl) (pe_op op_mod (pe_callTy call_int1 (by rfl) T.m_int (by decide +kernel) (pa_cons (pe_op op_add (pe_op op_add (pe_op op_mul (pv 2) pe_int) (pe_op op_mul (pe_op op_add (pv 1) pe_int) pe_int)) pe_int) pa_nil)) pe_int))
(pss_one (ps_ret (pe_op op_fdiv (pv 3) pe_int))))), ?_⟩
    refine q_asg (by walk_at "ev") fun H1 e1 => ?_
    refine q_asg (by walk_at "ev") fun H2 e2 => ?_
    refine s_ret (by walk_at "ev") fun H3 e3 => ?_
    exact k H3 ((e1.trans e2).trans e3)
def sp__law_mul : Sp := fun vs H Q _ => ∃ (a b : Nat), vs = [.int (a : Int), .int (b : Int)] ∧ a < 256 ∧ b < 256 ∧ RetV (.int ((Gf.gm a b : Nat) : Int)) H Q
theorem spv__law_mul {a b : Nat} {H : Hp} (ha : a < 256) (hb : b < 256) : SpV sp__law_mul ([.int (a : Int), .int (b : Int)] ++ []) H (.int ((Gf.gm a b : Nat) : Int)) := fun H1 e Q q E => ⟨a, b, rfl, ha, hb, q⟩
local macro_rules | `(tactic| walk_at "spv") => `(tactic| first | ((with_reducible apply spv__law_mul) <;> walk_at "oct") | (apply spv__law_mul <;> walk_at "oct"))
theorem ok__law_mul (T : Txt K mg) : Okf P w K mg base CX0 1 "_law_mul" s__law_mul P__law_mul sp__law_mul := by
  obtain ⟨fd, F⟩ := T.F__law_mul
  refine ⟨fd, F.ok sc__law_mul (fun vs H Q E h => ?_) (fun cdv A outer s H vs Q E hr h => ?_), F.bindsN fun _ _ _ _ _ _ us hl => match us, hl with | [_, _], _ => rfl, F⟩
  · obtain ⟨a, b, rfl, ha, hb, k⟩ := h
    rfl
  · obtain ⟨a, b, rfl, ha, hb, k⟩ := h
    refine ⟨_, PSs.nox (pss_cons (ps_set (i := 2) sc__law_mul.nd rfl (by first | exact Or.inl rfl | exact Or.inr rfl) pe_int)
(pss_cons (ps_for PassesOwn.never rfl (pi_range1 rfl T.m_range (pa_cons pe_int pa_nil)) (pg_name (i := 3) sc__law_mul.nd rfl (by first | exact Or.inl rfl | exact Or.inr rfl)) (pss_cons (ps_if (pt_truthK (K := K) rfl (pe_op op_and (pv 1) pe_int) (by intro _; rfl)) (pss_one (ps_set (i := 2) sc__law_mul.nd rfl (by first | exact Or.inl rfl | exact Or.inr rfl) (pe_op op_xor (pv 2) (pv 0)))) pss_nil)
(pss_cons (ps_set (i := 1) sc__law_mul.nd rfl (by first | exact Or.inl rfl | exact Or.inr rfl) (pe_op op_shr (pv 1) pe_int))
(pss_cons (ps_set (i := 0) sc__law_mul.nd rfl (by first | exact Or.inl rfl | exact Or.inr rfl) (pe_op op_shl (pv 0) pe_int))
(pss_one (ps_if (pt_cmpR op_gt (pv 0) pe_int (nomark _)) (pss_one (ps_set (i := 0) sc__law_mul.nd rfl (by first | exact Or.inl rfl | exact Or.inr rfl) (pe_op op_xor (pv 0) pe_int))) pss_nil))))))
(pss_one (ps_ret (pv 2))))), ?_⟩
    refine q_asg ev_c fun H1 e1 => ?_
    refine q_forR1 (ea_cons ev_c ea_nil) (by decide) (fun i s H' => ∃ v, s = [some (.int (((Gf.pn8 i (0, a, b)).2.1 : Nat) : Int)), some (.int (((Gf.pn8 i (0, a, b)).2.2 : Nat) : Int)), some (.int (((Gf.pn8 i (0, a, b)).1 : Nat) : Int)), v] ∧ Ex H H') ?_ ?_ ?_
    · exact fun H2 e2 => ⟨none, rfl, e1.trans e2⟩
    · rintro i s H' hi ⟨v, rfl, e⟩
      have hz : (Gf.pn8 i (0, a, b)).2.1 < 256 := Gf.pn8_lt ha i
      have st : Gf.pn8 (i + 1) (0, a, b) = Gf.ps (Gf.pn8 i (0, a, b)) := rfl
      rw [st]
      generalize Gf.pn8 i (0, a, b) = z at hz ⊢
      obtain ⟨p, x, y⟩ := z
      have hx : x < 256 := hz
      refine q_ifAsg (v := .int (((if y % 2 = 0 then p else p ^^^ x : Nat) : Nat) : Int)) (et_truI (ev_op (ev_var rfl) ev_c rv_and1)) (fun hb => ?_) (fun hb => ?_) fun H1 e1 => ?_
      · have q : ¬ y % 2 = 0 := by
          intro q
          rw [q] at hb
          exact absurd hb (by decide)
        rw [if_neg q]
        walk_at "ev"
      · have q : y % 2 = 0 := by
          have q2 : ((y % 2 : Nat) : Int) = 0 := by simpa using hb
          omega
        rw [if_pos q]
        rfl
      refine q_asg (v := .int ((y / 2 : Nat) : Int)) (ev_op (ev_var rfl) ev_c rv_shr1) fun H2 e2 => ?_
      refine q_asg (v := .int ((x * 2 : Nat) : Int)) (ev_op (ev_var rfl) ev_c (rv_shl1 (by omega))) fun H3 e3 => ?_
      refine s_ifAsg (v := .int ((Gf.xt x : Nat) : Int)) (by walk_at "ev") (fun hb => ?_) (fun hb => ?_) fun H4 e4 => ?_
      · have q : x * 2 > 255 := by
          have q2 := of_decide_eq_true hb
          omega
        unfold Gf.xt
        rw [if_pos q]
        exact ev_op (ev_var rfl) ev_c (rv_xor (b := 285))
      · have q : ¬ x * 2 > 255 := by
          have q2 := of_decide_eq_false hb
          omega
        unfold Gf.xt
        rw [if_neg q]
        rfl
      exact ⟨_, rfl, (((e.trans e1).trans e2).trans e3).trans e4⟩
    · rintro s H' ⟨v, rfl, e⟩
      refine s_ret (ev_var rfl) fun H2 e2 => ?_
      have z := k H2 (e.trans e2)
      rw [← Gf.pm_eq ha hb] at z
      exact z
/-- div(a, b): a times the inverse of b -/
def sp_div (K : PySem.W.Frag) : Sp := fun vs H Q E => ∃ (a b : Nat), vs = [.int (a : Int), .int (b : Int)] ∧ a < 256 ∧ b < 256 ∧ (b = 0 → ∀ H', Ex H H' → E (.ref (He.ga K "ZeroElement")) none H') ∧ (¬ b = 0 → RetV (.int ((Gf.gm a (Gf.gi b) : Nat) : Int)) H Q)
theorem spv_div {K : PySem.W.Frag} {a b : Nat} {H : Hp} (ha : a < 256) (hb : b < 256) (h0 : ¬ b = 0) : SpV (sp_div K) ([.int (a : Int), .int (b : Int)] ++ []) H (.int ((Gf.gm a (Gf.gi b) : Nat) : Int)) := fun H1 e Q q E => ⟨a, b, rfl, ha, hb, fun z => absurd z h0, fun _ => q⟩
local macro_rules | `(tactic| walk_at "spv") => `(tactic| first | ((with_reducible apply spv_div) <;> walk_at "oct") | (apply spv_div <;> walk_at "oct"))
theorem ok_div (T : Txt K mg) : Okf P w K mg base (L2.CX P w) 2 "div" s_div P_div (sp_div K) := by
  obtain ⟨fd_inv, G_inv, B_inv, _⟩ := ok_inv (P := P) (w := w) (base := base) T
  obtain ⟨fd_mul, G_mul, B_mul, _⟩ := ok_mul (P := P) (w := w) (base := base) T
  obtain ⟨fd, F⟩ := T.F_div
  refine ⟨fd, F.ok sc_div (fun vs H Q E h => ?_) (fun cdv A outer s H vs Q E hr h => ?_), F.bindsN fun _ _ _ _ _ _ us hl => match us, hl with | [_, _], _ => rfl, F⟩
  · obtain ⟨a, b, rfl, ha, hb, kE, k⟩ := h
    rfl
  · obtain ⟨a, b, rfl, ha, hb, kE, k⟩ := h
    refine ⟨_, (pss_one (ps_ret (pe_call G_mul (hr.mono (by decide)) rfl T.g_mul T.p_mul B_mul .nil pass0 (pa_cons (pv 0) (pa_cons (pe_call G_inv (hr.mono (by decide)) rfl T.g_inv T.p_inv B_inv .nil (passes_call (takes_of rfl rfl rfl rfl) (fun _ _ _ _ h => h)) (pa_cons (pv 1) pa_nil)) pa_nil))))), ?_⟩
    by_cases z : b = 0
    · exact ⟨_, rfl, _, rfl, b, rfl, hb, fun _ => kE z, fun q => absurd z q⟩
    · refine s_ret ?_ (k z)
      walk_at "ev"
def mix (f : Nat) (l m : List Nat) : List Nat := List.zipWith (fun a b => a ^^^ Gf.gm f b) l m
def sp_mixed : Sp := fun vs H Q _ => ∃ (p q : Addr) (f : Nat) (l m : List Nat), vs = [.ref p, .int (f : Int), .ref q] ∧ f < 256 ∧ LN H p l ∧ LN H q m ∧ Py.Oc m ∧ m.length ≤ 30000 ∧ l.length ≤ 30000 ∧ RetL ((mix f l m).map nV) H Q
theorem spl_mixed {f : Nat} {p q : Addr} {l m : List Nat} {H : Hp} (hf : f < 256) (h : LN H p l) (h2 : LN H q m) (ho : Py.Oc m) (hm : m.length ≤ 30000) (hl : l.length ≤ 30000) : SpL sp_mixed ([.ref p, .int (f : Int), .ref q] ++ []) H ((mix f l m).map nV) := fun H1 e Q k E => ⟨p, q, f, l, m, rfl, hf, h.up e, h2.up e, ho, hm, hl, k⟩
theorem mix_length (f : Nat) (l m : List Nat) : (mix f l m).length = min l.length m.length := by
  unfold mix
  rw [List.length_zipWith]
theorem ok_mixed (T : Txt K mg) : Okf P w K mg base CX0 2 "mixed" s_mixed P_mixed sp_mixed := by
  obtain ⟨fd_scaled, G_scaled, B_scaled, _⟩ := ok_scaled (P := P) (w := w) (base := base) T
  obtain ⟨fd, F⟩ := T.F_mixed
  refine ⟨fd, F.ok sc_mixed (fun vs H Q E h => ?_) (fun cdv A outer s H vs Q E hr h => ?_), F.bindsN fun _ _ _ _ _ _ us hl => match us, hl with | [_, _, _], _ => rfl, F⟩
  · obtain ⟨p, q, f, l, m, rfl, hf, hp, hq, ho, hm, hl, k⟩ := h
    rfl
  · obtain ⟨p, q, f, l, m, rfl, hf, hp, hq, ho, hm, hl, k⟩ := h
    refine ⟨_, PSs.nox (pss_one (ps_ret (pe_lc (own := [("a", 3), ("b", 4)]) (g := _) (tt := tYes) (by rfl) sc_mixed.nd (pi_zip (by rfl) T.m_zip (pa_cons (pv 0) (pa_cons (pe_call G_scaled (hr.mono (by decide)) rfl T.g_scaled T.p_scaled B_scaled .nil pass0 (pa_cons (pv 1) (pa_cons (pv 2) pa_nil))) pa_nil))) (blkOk_by (own := [("a", 3), ("b", 4)]) (N := N_mixed) (sc := defScope s_mixed) (by decide +kernel)) (fun _ _ _ _ _ => (pg_tupK (K := K) (n := 2) rfl rfl (pgs_cons (pg_name (i := 3) sc_mixed.nd rfl (by first | exact Or.inl rfl | exact Or.inr rfl)) (pgs_cons (pg_name (i := 4) sc_mixed.nd rfl (by first | exact Or.inl rfl | exact Or.inr rfl)) pgs_nil)))) (fun _ _ _ _ _ => pts_nil) (fun _ _ _ _ _ => (pe_op op_xor (pv 3) (pv 4)))))), ?_⟩
    refine s_retL ?_ fun r H3 nr e3 hr => k r H3 nr e3 hr
    refine el_zZ (ev2_VL (ev_var rfl) (sq_of hp) (el_call (by walk_at "ev") (spl_scaled hf hq ho hm))) (by rw [len_map, mix_length, len_map, len_map, List.length_map]) (by rw [len_map, mix_length]; omega) (fun x y => rfl) fun i x y w H4 e4 hx hy hw => ?_
    obtain ⟨hi, rfl⟩ := nat_of_get hx
    obtain ⟨hj, rfl⟩ := nat_of_get hy
    have hj2 : i < m.length := by simpa using hj
    have hw2 : w = .int (((Py.at0 l i) ^^^ (Py.at0 (m.map (Gf.gm f)) i) : Nat) : Int) := by
      have e : (mix f l m)[i]? = some ((Py.at0 l i) ^^^ (Py.at0 (m.map (Gf.gm f)) i)) := by
        unfold mix
        rw [List.getElem?_zipWith, Py.at0_get hi, Py.at0_get hj2]
        show some _ = some _
        congr 2
        refine (Py.at0_of ?_).symm
        rw [List.getElem?_map, Py.at0_get hj2] <;> rfl
      rw [List.getElem?_map, e] at hw
      exact (Option.some.inj hw).symm
    rw [hw2]
    exact ev_op (ev_var rfl) (ev_var rfl) rv_xor
def sp_trim : Sp := fun vs H Q _ => ∃ (p : Addr) (l : List Nat), vs = [.ref p] ∧ LN H p l ∧ l.length ≤ 40000 ∧ RetL ((Py.trim l).map nV) H Q
theorem spl_trim {p : Addr} {l : List Nat} {H : Hp} (h : LN H p l) (hl : l.length ≤ 40000) : SpL sp_trim ([.ref p] ++ []) H ((Py.trim l).map nV) := fun H1 e Q q E => ⟨p, l, rfl, h.up e, hl, q⟩
local macro_rules | `(tactic| walk_at "spv") => `(tactic| ((with_reducible apply spl_trim) <;> walk_at "oct"))
theorem ok_trim (T : Txt K mg) : Okf P w K mg base CX0 2 "trim" s_trim P_trim sp_trim := by
  obtain ⟨fd_degree, G_degree, B_degree, _⟩ := ok_degree (P := P) (w := w) (base := base) T
  obtain ⟨fd, F⟩ := T.F_trim
  refine ⟨fd, F.ok sc_trim (fun vs H Q E h => ?_) (fun cdv A outer s H vs Q E hr h => ?_), F.bindsN fun _ _ _ _ _ _ us hl => match us, hl with | [_], _ => rfl, F⟩
  · obtain ⟨p, l, rfl, hp, hl, k⟩ := h
    rfl
  · obtain ⟨p, l, rfl, hp, hl, k⟩ := h
    refine ⟨_, PSs.nox (pss_one (ps_ret (pe_callTy (call_list_ofK (K := K) rfl) (by rfl) T.m_list (by decide +kernel) (pa_cons (pe_slice (sl_listK (K := K) rfl) (pv 0) po_none (po_some (pe_op op_add (pe_call G_degree (hr.mono (by decide)) rfl T.g_degree T.p_degree B_degree .nil pass0 (pa_cons (pv 0) pa_nil)) pe_int))) pa_nil)))), ?_⟩
    refine s_retL (el_is (el_listN (el_sl (lo := none) (hi := some ((Py.tlen l : Nat) : Int)) (ev_var rfl) eo_none (eo_some (ev_is (ev_op (ev_call (by walk_at "ev") (spv_degree hp hl)) ev_c rv_I0) ?_)) (sq_of hp))) ?_) k
    · have e : ((Py.tlen l : Nat) : Int) - 1 + 1 = ((Py.tlen l : Nat) : Int) := by omega
      rw [e]
    · rw [cut_take (by rw [len_map]; exact Py.tlen_le l)]
      unfold Py.trim
      rw [List.map_take]
def sp_evaluate : Sp := fun vs H Q _ => ∃ (p : Addr) (l : List Nat) (x : Nat), vs = [.ref p, .int (x : Int)] ∧ LN H p l ∧ Py.Oc l ∧ x < 256 ∧ RetV (.int ((Py.horner x l : Nat) : Int)) H Q
theorem spv_evaluate {p : Addr} {l : List Nat} {x : Nat} {H : Hp} (h : LN H p l) (ho : Py.Oc l) (hx : x < 256) : SpV sp_evaluate ([.ref p, .int (x : Int)] ++ []) H (.int ((Py.horner x l : Nat) : Int)) := fun H1 e Q q E => ⟨p, l, x, rfl, h.up e, ho, hx, q⟩
local macro_rules | `(tactic| walk_at "spv") => `(tactic| ((with_reducible apply spv_evaluate) <;> walk_at "oct"))
theorem ok_evaluate (T : Txt K mg) : Okf P w K mg base CX0 2 "evaluate" s_evaluate P_evaluate sp_evaluate := by
  obtain ⟨fd_add, G_add, B_add, _⟩ := ok_add (P := P) (w := w) (base := base) T
  obtain ⟨fd_mul, G_mul, B_mul, _⟩ := ok_mul (P := P) (w := w) (base := base) T
  obtain ⟨fd, F⟩ := T.F_evaluate
  refine ⟨fd, F.ok sc_evaluate (fun vs H Q E h => ?_) (fun cdv A outer s H vs Q E hr h => ?_), F.bindsN fun _ _ _ _ _ _ us hl => match us, hl with | [_, _], _ => rfl, F⟩
  · obtain ⟨p, l, x, rfl, hp, ho, hx, k⟩ := h
    rfl
  · obtain ⟨p, l, x, rfl, hp, ho, hx, k⟩ := h
    refine ⟨_, PSs.nox (pss_cons (ps_set (i := 2) sc_evaluate.nd rfl (by first | exact Or.inl rfl | exact Or.inr rfl) pe_int)
(pss_cons (ps_for PassesOwn.never rfl (pi_reversed (by rfl) T.m_reversed (pa_cons (pv 0) pa_nil)) (pg_name (i := 3) sc_evaluate.nd rfl (by first | exact Or.inl rfl | exact Or.inr rfl)) (pss_one (ps_set (i := 2) sc_evaluate.nd rfl (by first | exact Or.inl rfl | exact Or.inr rfl) (pe_call G_add (hr.mono (by decide)) rfl T.g_add T.p_add B_add .nil pass0 (pa_cons (pe_call G_mul (hr.mono (by decide)) rfl T.g_mul T.p_mul B_mul .nil pass0 (pa_cons (pv 2) (pa_cons (pv 1) pa_nil))) (pa_cons (pv 3) pa_nil))))))
(pss_one (ps_ret (pv 2))))), ?_⟩
    refine q_asg ev_c fun H1 e1 => ?_
    refine q_forRev (ea_cons (ev_var rfl) ea_nil) (sq_of (hp.up e1)) (fun i s H' => ∃ v, s = [some (.ref p), some (.int (x : Int)), some (.int ((Py.horner x (l.drop (l.length - i)) : Nat) : Int)), v] ∧ Ex H H') ?_ ?_ ?_ ?_
    · intro H2 e2
      refine ⟨none, ?_, e1.trans e2⟩
      rw [Nat.sub_zero, List.drop_length]
      rfl
    · rintro i s H' ⟨v, rfl, e⟩
      exact sq_of (hp.up e)
    · rintro i c s H' hi hc ⟨v, rfl, e⟩
      rw [len_map] at hi hc
      obtain ⟨hj, rfl⟩ := nat_of_get hc
      have st : l.drop (l.length - (i + 1)) = Py.at0 l (l.length - 1 - i) :: l.drop (l.length - i) := by
        have e3 : l.length - (i + 1) = l.length - 1 - i := by omega
        rw [e3, List.drop_eq_getElem_cons hj]
        have e4 : l.length - 1 - i + 1 = l.length - i := by omega
        rw [e4]
        congr 1
        exact (Py.at0_of (List.getElem?_eq_getElem hj)).symm
      have b1 := Py.horner_lt (x := x) (ho.drop (l.length - i))
      refine s_asg (v := .int ((Py.horner x (l.drop (l.length - (i + 1))) : Nat) : Int)) ?_ fun H2 e2 => ⟨_, rfl, e.trans e2⟩
      rw [st]
      show Ev _ _ _ (.int ((Gf.gm (Py.horner x (l.drop (l.length - i))) x ^^^ Py.at0 l (l.length - 1 - i) : Nat) : Int))
      walk_at "ev"
    · rintro s H' ⟨v, rfl, e⟩
      refine s_ret (ev_var rfl) fun H2 e2 => ?_
      rw [len_map, Nat.sub_self, List.drop_zero]
      exact k H2 (e.trans e2)
def sp__law_digits : Sp := fun vs H Q _ => ∃ (c : Int) (n m : Nat), vs = [.int c, .int (n : Int), .int (m : Int)] ∧ n ≤ 90000 ∧ 0 < m ∧ m < 1000000000 ∧ RetL ((Gf.digits c n m).map nV) H Q
theorem spl__law_digits {c : Int} {n m : Nat} {H : Hp} (hn : n ≤ 90000) (h0 : 0 < m) (h1 : m < 1000000000) : SpL sp__law_digits ([.int c, .int (n : Int), .int (m : Int)] ++ []) H ((Gf.digits c n m).map nV) := fun H1 e Q q E => ⟨c, n, m, rfl, hn, h0, h1, q⟩
local macro_rules | `(tactic| walk_at "spv") => `(tactic| first | ((with_reducible apply spl__law_digits) <;> walk_at "oct") | (apply spl__law_digits <;> walk_at "oct"))
theorem ok__law_digits (T : Txt K mg) : Okf P w K mg base CX0 2 "_law_digits" s__law_digits P__law_digits sp__law_digits := by
  obtain ⟨fd__law_mixed, G__law_mixed, B__law_mixed, _⟩ := ok__law_mixed (P := P) (w := w) (base := base) T
  obtain ⟨fd, F⟩ := T.F__law_digits
  refine ⟨fd, F.ok sc__law_digits (fun vs H Q E h => ?_) (fun cdv A outer s H vs Q E hr h => ?_), F.bindsN fun _ _ _ _ _ _ us hl => match us, hl with | [_, _, _], _ => rfl, F⟩
  · obtain ⟨c, n, m, rfl, hn, h0, h1, k⟩ := h
    rfl
  · obtain ⟨c, n, m, rfl, hn, h0, h1, k⟩ := h
    refine ⟨_, PSs.nox (pss_cons (ps_set (i := 3) sc__law_digits.nd rfl (by first | exact Or.inl rfl | exact Or.inr rfl) (pe_lst pa_nil))
(pss_cons (ps_if (pt_cmpR op_lt (pv 0) (pe_op op_pow pe_int pe_int) (nomark _)) (pss_cons (ps_for PassesOwn.never rfl (pi_range1 rfl T.m_range (pa_cons (pv 1) pa_nil)) (pg_name (i := 4) sc__law_digits.nd rfl (by first | exact Or.inl rfl | exact Or.inr rfl)) (pss_one (ps_expr (pe_bm PySem.F.plainAttrs_list PySem.F.slot_list_append PySem.F.type_list_append mt_append (pv 3) (pa_cons (pe_op op_mod (pe_callTy call_int1 (by rfl) T.m_int (by decide +kernel) (pa_cons (pe_call G__law_mixed (hr.mono (by decide)) rfl T.g__law_mixed T.p__law_mixed B__law_mixed .nil pass0 (pa_cons (pv 0) (pa_cons (pv 4) pa_nil))) pa_nil)) (pv 2)) pa_nil)))))
(pss_one (ps_ret (pv 3)))) pss_nil)
(pss_cons (ps_for PassesOwn.never rfl (pi_range1 rfl T.m_range (pa_cons (pv 1) pa_nil)) (pg_name (i := 4) sc__law_digits.nd rfl (by first | exact Or.inl rfl | exact Or.inr rfl)) (pss_cons (ps_expr (pe_bm PySem.F.plainAttrs_list PySem.F.slot_list_append PySem.F.type_list_append mt_append (pv 3) (pa_cons (pe_op op_mod (pe_callTy call_int1 (by rfl) T.m_int (by decide +kernel) (pa_cons (pv 0) pa_nil)) (pv 2)) pa_nil)))
(pss_one (ps_set (i := 0) sc__law_digits.nd rfl (by first | exact Or.inl rfl | exact Or.inr rfl) (pe_op op_fdiv (pv 0) (pv 2))))))
(pss_one (ps_ret (pv 3)))))), ?_⟩
    refine q_asgL (el_lst ea_nil (by decide)) fun p H1 np e1 hp => ?_
    refine q_when (b := decide (c < 10 ^ 18)) (et_test (ev_op (ev_var rfl) (ev_op ev_c ev_c (rv_I ⟨by decide, by decide, by decide⟩)) rv_I0)) (fun hc H2 e2 => ?_) (fun hc H2 e2 => ?_)
    · have hc' := of_decide_eq_true hc
      refine q_forR1 (ea_cons (ev_var rfl) ea_nil) (by omega) (fun i s H' => ∃ v, s = [some (.int c), some (.int (n : Int)), some (.int (m : Int)), some (.ref p), v] ∧ Ex H H' ∧ H' p = some (.lst (((List.range i).map fun j => Gf.mixd c m j).map nV))) ?_ ?_ ?_
      · exact fun H3 e3 => ⟨none, rfl, (e1.trans e2).trans e3, e3 _ _ (e2 _ _ hp)⟩
      · rintro i s H' hi ⟨v, rfl, e, hl⟩
        refine s_app hl (ev_var rfl) (by walk_at "ev") (by rw [List.length_map, List.length_map, List.length_range]; omega) fun H3 e3 => ?_
        refine ⟨_, rfl, Ex.mut (e.trans e3) np, ?_⟩
        rw [upd_same, List.range_succ, List.map_append, List.map_append]
        simp only [List.map_cons, List.map_nil, nV, Gf.mixd_eq h0]
      · rintro s H' ⟨v, rfl, e, hl⟩
        refine s_ret (ev_var rfl) fun H3 e3 => k p H3 np (e.trans e3) ?_
        rw [e3 _ _ hl, Gf.digits_low hc', Int.toNat_natCast]
    · have hc' := of_decide_eq_false hc
      refine q_forR1 (ea_cons (ev_var rfl) ea_nil) (by omega) (fun i s H' => ∃ v, s = [some (.int (Gf.divn m i c)), some (.int (n : Int)), some (.int (m : Int)), some (.ref p), v] ∧ Ex H H' ∧ H' p = some (.lst (((List.range i).map fun j => Gf.digd c m j).map nV))) ?_ ?_ ?_
      · exact fun H3 e3 => ⟨none, rfl, (e1.trans e2).trans e3, e3 _ _ (e2 _ _ hp)⟩
      · rintro i s H' hi ⟨v, rfl, e, hl⟩
        refine q_app hl (ev_var rfl) (by walk_at "ev") (by rw [List.length_map, List.length_map, List.length_range]; omega) fun H3 e3 => ?_
        refine s_asg (by walk_at "ev") fun H4 e4 => ?_
        refine ⟨_, rfl, (Ex.mut (e.trans e3) np).trans e4, ?_⟩
        refine e4 _ _ ?_
        rw [upd_same, List.range_succ, List.map_append, List.map_append]
        simp only [List.map_cons, List.map_nil, nV, Gf.digd_eq h0]
      · rintro s H' ⟨v, rfl, e, hl⟩
        refine s_ret (ev_var rfl) fun H3 e3 => k p H3 np (e.trans e3) ?_
        rw [e3 _ _ hl, Gf.digits_high hc', Int.toNat_natCast]
def sp__law_octets : Sp := fun vs H Q _ => ∃ (p : Addr) (l : List Nat) (n : Int), vs = [.ref p, .int n] ∧ LN H p l ∧ Py.Oc l ∧ n = (l.length : Int) ∧ RetV (.bl true) H Q
theorem spv__law_octets {p : Addr} {l : List Nat} {n : Int} {H : Hp} (h : LN H p l) (ho : Py.Oc l) (hn : n = (l.length : Int)) : SpV sp__law_octets ([.ref p, .int n] ++ []) H (.bl true) := fun H1 e Q q E => ⟨p, l, n, rfl, h.up e, ho, hn, q⟩
local macro_rules | `(tactic| walk_at "spv") => `(tactic| ((with_reducible apply spv__law_octets) <;> walk_at "oct"))
theorem ok__law_octets (T : Txt K mg) : Okf P w K mg base CX0 2 "_law_octets" s__law_octets P__law_octets sp__law_octets := by
  obtain ⟨fd__law_is_integer, G__law_is_integer, B__law_is_integer, _⟩ := ok__law_is_integer (P := P) (w := w) (base := base) T
  obtain ⟨fd, F⟩ := T.F__law_octets
  refine ⟨fd, F.ok sc__law_octets (fun vs H Q E h => ?_) (fun cdv A outer s H vs Q E hr h => ?_), F.bindsN fun _ _ _ _ _ _ us hl => match us, hl with | [_, _], _ => rfl, F⟩
  · obtain ⟨p, l, n, rfl, hp, ho, rfl, k⟩ := h
    rfl
  · obtain ⟨p, l, n, rfl, hp, ho, rfl, k⟩ := h
    refine ⟨_, PSs.nox (pss_cons (ps_if (PW.pt (pw_or (pt_not (pt_val (pe_callB (call_isiK' (K := K) rfl) (by rfl) T.m_isinstance (by decide +kernel) (pa_cons (pv 0) (pa_cons (pe_bltn (v := .ty "list") (by rfl) T.m_list (by decide +kernel) rfl) pa_nil))))) (pw_or1 (pt_cmpR op_ne (pe_callB (call_lenK (K := K) rfl) (by rfl) T.m_len (by decide +kernel) (pa_cons (pv 0) pa_nil)) (pv 1) (nomark _))))) (pss_one (ps_ret pe_bl)) pss_nil)
(pss_cons (ps_for PassesOwn.never rfl (pi_list (pv 0)) (pg_name (i := 2) sc__law_octets.nd rfl (by first | exact Or.inl rfl | exact Or.inr rfl)) (pss_one (ps_if (PW.pt (pw_or (pt_not (pt_val (pe_call G__law_is_integer (hr.mono (by decide)) rfl T.g__law_is_integer T.p__law_is_integer B__law_is_integer .nil pass0 (pa_cons (pv 2) pa_nil)))) (pw_or (pt_cmpR op_lt (pv 2) pe_int (nomark _)) (pw_or1 (pt_cmpR op_gt (pv 2) pe_int (nomark _)))))) (pss_one (ps_ret pe_bl)) pss_nil)))
(pss_one (ps_ret pe_bl)))), ?_⟩
    refine q_when (b := false) (et_is (et_or (et_not (et_B (ev_isiL (b := true) (ev_var rfl) hp ev_c (by decide +kernel)))) fun _ => et_test (ev_op (ev_lenL (ev_var rfl) (sq_of hp)) (ev_var rfl) (rv_ne rfl))) (by rw [len_map]; simp)) (fun q => absurd q Bool.false_ne_true) fun _ H1 e1 => ?_
    refine q_forLn (ev_var rfl) (sq_of (hp.up e1)) (fun i s H' => ∃ v, s = [some (.ref p), some (.int (l.length : Int)), v] ∧ Ex H H') (fun H2 e2 => ⟨none, rfl, e1.trans e2⟩) ?_ ?_ ?_
    · rintro i s H' _ ⟨v, rfl, e⟩
      exact sq_of (hp.up e)
    · rintro i x s H' hx ⟨v, rfl, e⟩
      obtain ⟨hi, rfl⟩ := nat_of_get hx
      have hb := ho i
      refine s_when (b := false) (et_is (by walk_at "ev") ?_) (fun q => absurd q Bool.false_ne_true) fun _ H2 e2 => ⟨_, rfl, e.trans e2⟩
      rw [decide_eq_false (show ¬ ((Py.at0 l i : Nat) : Int) < 0 by omega), decide_eq_false (show ¬ (255 : Int) < ((Py.at0 l i : Nat) : Int) by omega)]
      rfl
    · rintro s H' ⟨v, rfl, e⟩
      exact s_ret ev_c fun H2 e2 => k H2 (e.trans e2)
def sp__law_value : Sp := fun vs H Q _ => ∃ (p : Addr) (l : List Nat) (x : Nat), vs = [.ref p, .int (x : Int)] ∧ LN H p l ∧ Py.Oc l ∧ x < 256 ∧ RetV (.int ((Py.horner x l : Nat) : Int)) H Q
theorem spv__law_value {p : Addr} {l : List Nat} {x : Nat} {H : Hp} (h : LN H p l) (ho : Py.Oc l) (hx : x < 256) : SpV sp__law_value ([.ref p, .int (x : Int)] ++ []) H (.int ((Py.horner x l : Nat) : Int)) := fun H1 e Q q E => ⟨p, l, x, rfl, h.up e, ho, hx, q⟩
local macro_rules | `(tactic| walk_at "spv") => `(tactic| ((with_reducible apply spv__law_value) <;> walk_at "oct"))
theorem ok__law_value (T : Txt K mg) : Okf P w K mg base CX0 2 "_law_value" s__law_value P__law_value sp__law_value := by
  obtain ⟨fd__law_mul, G__law_mul, B__law_mul, _⟩ := ok__law_mul (P := P) (w := w) (base := base) T
  obtain ⟨fd, F⟩ := T.F__law_value
  refine ⟨fd, F.ok sc__law_value (fun vs H Q E h => ?_) (fun cdv A outer s H vs Q E hr h => ?_), F.bindsN fun _ _ _ _ _ _ us hl => match us, hl with | [_, _], _ => rfl, F⟩
  · obtain ⟨p, l, x, rfl, hp, ho, hx, k⟩ := h
    rfl
  · obtain ⟨p, l, x, rfl, hp, ho, hx, k⟩ := h
    refine ⟨_, PSs.nox (pss_cons (ps_set (i := 2) sc__law_value.nd rfl (by first | exact Or.inl rfl | exact Or.inr rfl) pe_int)
(pss_cons (ps_set (i := 3) sc__law_value.nd rfl (by first | exact Or.inl rfl | exact Or.inr rfl) pe_int)
(pss_cons (ps_for PassesOwn.never rfl (pi_list (pv 0)) (pg_name (i := 4) sc__law_value.nd rfl (by first | exact Or.inl rfl | exact Or.inr rfl)) (pss_cons (ps_set (i := 2) sc__law_value.nd rfl (by first | exact Or.inl rfl | exact Or.inr rfl) (pe_op op_xor (pv 2) (pe_call G__law_mul (hr.mono (by decide)) rfl T.g__law_mul T.p__law_mul B__law_mul .nil pass0 (pa_cons (pv 4) (pa_cons (pv 3) pa_nil)))))
(pss_one (ps_set (i := 3) sc__law_value.nd rfl (by first | exact Or.inl rfl | exact Or.inr rfl) (pe_call G__law_mul (hr.mono (by decide)) rfl T.g__law_mul T.p__law_mul B__law_mul .nil pass0 (pa_cons (pv 3) (pa_cons (pv 1) pa_nil)))))))
(pss_one (ps_ret (pv 2)))))), ?_⟩
    refine q_asg ev_c fun H1 e1 => ?_
    refine q_asg ev_c fun H2 e2 => ?_
    have e12 := e1.trans e2
    refine q_forLn (ev_var rfl) (sq_of (hp.up e12)) (fun i s H' => ∃ v, s = [some (.ref p), some (.int (x : Int)), some (.int ((((l.take i).foldl (Py.vstep x) (0, 1)).1 : Nat) : Int)), some (.int ((((l.take i).foldl (Py.vstep x) (0, 1)).2 : Nat) : Int)), v] ∧ Ex H H') (fun H3 e3 => ⟨none, rfl, e12.trans e3⟩) ?_ ?_ ?_
    · rintro i s H' _ ⟨v, rfl, e⟩
      exact sq_of (hp.up e)
    · rintro i c s H' hc ⟨v, rfl, e⟩
      obtain ⟨hi, rfl⟩ := nat_of_get hc
      have hb := ho i
      have st : (l.take (i + 1)).foldl (Py.vstep x) (0, 1) = Py.vstep x ((l.take i).foldl (Py.vstep x) (0, 1)) (Py.at0 l i) := by
        rw [List.take_add_one, Py.at0_get hi, List.foldl_append]
        rfl
      have b := Py.vfold_lt (x := x) (l.take i) (0, 1) (by decide) (by decide)
      rw [st]
      generalize (l.take i).foldl (Py.vstep x) (0, 1) = z at b ⊢
      obtain ⟨b1, b2⟩ := b
      refine q_asg (by walk_at "ev") fun H3 e3 => ?_
      refine s_asg (by walk_at "ev") fun H4 e4 => ?_
      exact ⟨_, rfl, (e.trans e3).trans e4⟩
    · rintro s H' ⟨v, rfl, e⟩
      refine s_ret (ev_var rfl) fun H3 e3 => ?_
      rw [len_map, List.take_length, Py.vfold_eq hx ho]
      exact k H3 (e.trans e3)
def sp_poly_add : Sp := fun vs H Q _ => ∃ (p q : Addr) (l m : List Nat), vs = [.ref p, .ref q] ∧ LN H p l ∧ LN H q m ∧ l.length ≤ 10000 ∧ m.length ≤ 10000 ∧ RetL ((Py.trim (Py.sumL l m)).map nV) H Q
theorem spl_poly_add {p q : Addr} {l m : List Nat} {H : Hp} (h : LN H p l) (h2 : LN H q m) (hl : l.length ≤ 10000) (hm : m.length ≤ 10000) : SpL sp_poly_add ([.ref p, .ref q] ++ []) H ((Py.trim (Py.sumL l m)).map nV) := fun H1 e Q k E => ⟨p, q, l, m, rfl, h.up e, h2.up e, hl, hm, k⟩
local macro_rules | `(tactic| walk_at "spv") => `(tactic| ((with_reducible apply spl_poly_add) <;> walk_at "oct"))
theorem pad_at (l : List Nat) (w i : Nat) : Py.at0 (l ++ List.replicate w 0) i = Py.at0 l i := by
  by_cases h : i < l.length
  · exact Py.at0_of (by rw [List.getElem?_append_left h, Py.at0_get h])
  · rw [Py.at0_none (show l.length ≤ i by omega)]
    by_cases h2 : i < l.length + w
    · refine Py.at0_of ?_
      rw [List.getElem?_append_right (by omega), List.getElem?_replicate, if_pos (by omega)]
    · exact Py.at0_none (by simp; omega)
theorem pad_len (l : List Nat) (w : Nat) (h : l.length ≤ w) : (l ++ List.replicate (w - l.length) 0).length = w := by
  rw [List.length_append, List.length_replicate]
  omega
theorem ok_poly_add (T : Txt K mg) : Okf P w K mg base CX0 3 "poly_add" s_poly_add P_poly_add sp_poly_add := by
  obtain ⟨fd_add, G_add, B_add, _⟩ := ok_add (P := P) (w := w) (base := base) T
  obtain ⟨fd_trim, G_trim, B_trim, _⟩ := ok_trim (P := P) (w := w) (base := base) T
  obtain ⟨fd, F⟩ := T.F_poly_add
  refine ⟨fd, F.ok sc_poly_add (fun vs H Q E h => ?_) (fun cdv A outer s H vs Q E hr h => ?_), F.bindsN fun _ _ _ _ _ _ us hl => match us, hl with | [_, _], _ => rfl, F⟩
  · obtain ⟨p, q, l, m, rfl, hp, hq, hl, hm, k⟩ := h
    rfl
  · obtain ⟨p, q, l, m, rfl, hp, hq, hl, hm, k⟩ := h
    refine ⟨_, PSs.nox (pss_cons (ps_set (i := 2) sc_poly_add.nd rfl (by first | exact Or.inl rfl | exact Or.inr rfl) (pe_callB (call_max2 rfl) (by rfl) T.m_max (by decide +kernel) (pa_cons (pe_callB (call_lenK (K := K) rfl) (by rfl) T.m_len (by decide +kernel) (pa_cons (pv 0) pa_nil)) (pa_cons (pe_callB (call_lenK (K := K) rfl) (by rfl) T.m_len (by decide +kernel) (pa_cons (pv 1) pa_nil)) pa_nil))))
(pss_cons (ps_set (i := 3) sc_poly_add.nd rfl (by first | exact Or.inl rfl | exact Or.inr rfl) (pe_op op_cat (pe_callTy (call_list_ofK (K := K) rfl) (by rfl) T.m_list (by decide +kernel) (pa_cons (pv 0) pa_nil)) (pe_op op_rep (pe_lst (pa_cons pe_int pa_nil)) (pe_op op_sub (pv 2) (pe_callB (call_lenK (K := K) rfl) (by rfl) T.m_len (by decide +kernel) (pa_cons (pv 0) pa_nil))))))
(pss_cons (ps_set (i := 4) sc_poly_add.nd rfl (by first | exact Or.inl rfl | exact Or.inr rfl) (pe_op op_cat (pe_callTy (call_list_ofK (K := K) rfl) (by rfl) T.m_list (by decide +kernel) (pa_cons (pv 1) pa_nil)) (pe_op op_rep (pe_lst (pa_cons pe_int pa_nil)) (pe_op op_sub (pv 2) (pe_callB (call_lenK (K := K) rfl) (by rfl) T.m_len (by decide +kernel) (pa_cons (pv 1) pa_nil))))))
(pss_one (ps_ret (pe_call G_trim (hr.mono (by decide)) rfl T.g_trim T.p_trim B_trim .nil pass0 (pa_cons (pe_lc (own := [("a", 5), ("b", 6)]) (g := _) (tt := tYes) (by rfl) sc_poly_add.nd (pi_zip (by rfl) T.m_zip (pa_cons (pv 3) (pa_cons (pv 4) pa_nil))) (blkOk_by (own := [("a", 5), ("b", 6)]) (N := N_poly_add) (sc := defScope s_poly_add) (by decide +kernel)) (fun _ _ _ _ _ => (pg_tupK (K := K) (n := 2) rfl rfl (pgs_cons (pg_name (i := 5) sc_poly_add.nd rfl (by first | exact Or.inl rfl | exact Or.inr rfl)) (pgs_cons (pg_name (i := 6) sc_poly_add.nd rfl (by first | exact Or.inl rfl | exact Or.inr rfl)) pgs_nil)))) (fun _ _ _ _ _ => pts_nil) (fun _ _ _ _ _ => (pe_call G_add (hr.mono (by decide)) rfl T.g_add T.p_add B_add .nil pass0 (pa_cons (pv 5) (pa_cons (pv 6) pa_nil))))) pa_nil))))))), ?_⟩
    have hw : Py.mx l.length m.length ≤ 10000 ∧ l.length ≤ Py.mx l.length m.length ∧ m.length ≤ Py.mx l.length m.length := by
      unfold Py.mx
      split <;> omega
    refine q_asg (v := .int ((Py.mx l.length m.length : Nat) : Int)) (ev_is (ev_max2 (ev_lenL (ev_var rfl) (sq_of hp)) (ev_lenL (ev_var rfl) (sq_of hq))) ?_) fun H1 e1 => ?_
    · rw [len_map, len_map]
      unfold Py.mx
      by_cases c : m.length > l.length
      · rw [if_pos c, if_pos (by omega)]
      · rw [if_neg c, if_neg (by omega)]
    unfold Py.sumL at k
    generalize Py.mx l.length m.length = W at hw k ⊢
    refine q_asgL (xs := (l ++ List.replicate (W - l.length) 0).map nV) (el_is (el_catLL (el_listL (ev_var rfl) (sq_of (hp.up e1))) (el_rep (n := W - l.length) (el_lst (ea_cons ev_c ea_nil) (by decide)) (ev_is (ev_op (ev_var rfl) (ev_lenL (ev_var rfl) (sq_of (hp.up e1))) rv_I0) ?_) (by omega)) (by rw [len_map, List.length_replicate]; omega)) (by rw [List.map_append, map_rep])) fun a H2 na e2 ha => ?_
    · rw [len_map, ← Int.natCast_sub hw.2.1]
    have e12 := e1.trans e2
    refine q_asgL (xs := (m ++ List.replicate (W - m.length) 0).map nV) (el_is (el_catLL (el_listL (ev_var rfl) (sq_of (hq.up e12))) (el_rep (n := W - m.length) (el_lst (ea_cons ev_c ea_nil) (by decide)) (ev_is (ev_op (ev_var rfl) (ev_lenL (ev_var rfl) (sq_of (hq.up e12))) rv_I0) ?_) (by omega)) (by rw [len_map, List.length_replicate]; omega)) (by rw [List.map_append, map_rep])) fun b H3 nb e3 hb => ?_
    · rw [len_map, ← Int.natCast_sub hw.2.2]
    have e123 := e12.trans e3
    refine s_retL (el_call1L (xs := ((List.range W).map fun j => Py.at0 l j ^^^ Py.at0 m j).map nV) ?_ fun r H4 e4 hr => spl_trim hr (by simp; omega)) fun r H4 nr e4 hr => k r H4 (fresh_back e123 nr) (e123.trans e4) hr
    refine el_zZ (ev2_VV (ev_var rfl) (sq_of (e3 a _ ha)) (ev_var rfl) (sq_of hb)) (by rw [len_map, len_map, len_map, pad_len _ _ hw.2.1, pad_len _ _ hw.2.2, List.length_map, List.length_range, Nat.min_self]) (by simp; omega) (fun x y => rfl) fun i x y z H4 e4 hx hy hz => ?_
    obtain ⟨hi, rfl⟩ := nat_of_get hx
    obtain ⟨hj, rfl⟩ := nat_of_get hy
    rw [pad_at, pad_at]
    have hi2 : i < W := by
      rw [pad_len _ _ hw.2.1] at hi
      exact hi
    have hz2 : z = .int ((Py.at0 l i ^^^ Py.at0 m i : Nat) : Int) := by
      rw [List.getElem?_map, Gf.range_at hi2] at hz
      exact (Option.some.inj hz).symm
    rw [hz2]
    walk_at "ev"
def sp_poly_mul : Sp := fun vs H Q _ => ∃ (p q : Addr) (l m : List Nat), vs = [.ref p, .ref q] ∧ LN H p l ∧ LN H q m ∧ Py.Oc l ∧ Py.Oc m ∧ l.length ≤ 10000 ∧ m.length ≤ 10000 ∧ RetL ((Py.trim (Py.prodL l m)).map nV) H Q
theorem spl_poly_mul {p q : Addr} {l m : List Nat} {H : Hp} (h : LN H p l) (h2 : LN H q m) (ho : Py.Oc l) (ho2 : Py.Oc m) (hl : l.length ≤ 10000) (hm : m.length ≤ 10000) : SpL sp_poly_mul ([.ref p, .ref q] ++ []) H ((Py.trim (Py.prodL l m)).map nV) := fun H1 e Q k E => ⟨p, q, l, m, rfl, h.up e, h2.up e, ho, ho2, hl, hm, k⟩
local macro_rules | `(tactic| walk_at "spv") => `(tactic| ((with_reducible apply spl_poly_mul) <;> walk_at "oct"))
theorem ok_poly_mul (T : Txt K mg) : Okf P w K mg base CX0 3 "poly_mul" s_poly_mul P_poly_mul sp_poly_mul := by
  obtain ⟨fd_mixed, G_mixed, B_mixed, _⟩ := ok_mixed (P := P) (w := w) (base := base) T
  obtain ⟨fd_trim, G_trim, B_trim, _⟩ := ok_trim (P := P) (w := w) (base := base) T
  obtain ⟨fd, F⟩ := T.F_poly_mul
  refine ⟨fd, F.ok sc_poly_mul (fun vs H Q E h => ?_) (fun cdv A outer s H vs Q E hr h => ?_), F.bindsN fun _ _ _ _ _ _ us hl => match us, hl with | [_, _], _ => rfl, F⟩
  · obtain ⟨p, q, l, m, rfl, hp, hq, ho, ho2, hl, hm, k⟩ := h
    rfl
  · obtain ⟨p, q, l, m, rfl, hp, hq, ho, ho2, hl, hm, k⟩ := h
    refine ⟨_, PSs.nox (pss_cons (ps_set (i := 2) sc_poly_mul.nd rfl (by first | exact Or.inl rfl | exact Or.inr rfl) (pe_callB (call_lenK (K := K) rfl) (by rfl) T.m_len (by decide +kernel) (pa_cons (pv 1) pa_nil)))
(pss_cons (ps_set (i := 3) sc_poly_mul.nd rfl (by first | exact Or.inl rfl | exact Or.inr rfl) (pe_op op_rep (pe_lst (pa_cons pe_int pa_nil)) (pe_op op_add (pe_callB (call_lenK (K := K) rfl) (by rfl) T.m_len (by decide +kernel) (pa_cons (pv 0) pa_nil)) (pv 2))))
(pss_cons (ps_for PassesOwn.never rfl (pi_enum (by rfl) T.m_enumerate (pa_cons (pv 0) pa_nil)) (pg_tupK (K := K) (n := 2) rfl rfl (pgs_cons (pg_name (i := 4) sc_poly_mul.nd rfl (by first | exact Or.inl rfl | exact Or.inr rfl)) (pgs_cons (pg_name (i := 5) sc_poly_mul.nd rfl (by first | exact Or.inl rfl | exact Or.inr rfl)) pgs_nil))) (pss_one (ps_asg (pe_call G_mixed (hr.mono (by decide)) rfl T.g_mixed T.p_mixed B_mixed .nil pass0 (pa_cons (pe_slice (sl_listK (K := K) rfl) (pv 3) (po_some (pv 4)) (po_some (pe_op op_add (pv 4) (pv 2)))) (pa_cons (pv 5) (pa_cons (pv 1) pa_nil)))) (pg_setSl (pv 3) (po_some (pv 4)) (po_some (pe_op op_add (pv 4) (pv 2)))))))
(pss_one (ps_ret (pe_call G_trim (hr.mono (by decide)) rfl T.g_trim T.p_trim B_trim .nil pass0 (pa_cons (pv 3) pa_nil))))))), ?_⟩
    refine q_asg (v := .int (m.length : Int)) (ev_is (ev_lenL (ev_var rfl) (sq_of hq)) (by rw [len_map])) fun H1 e1 => ?_
    refine q_asgL (xs := ((List.range (l.length + m.length)).map (Py.acc l m 0)).map nV) (el_is (el_rep (n := l.length + m.length) (el_lst (ea_cons ev_c ea_nil) (by decide)) (ev_is (ev_op (ev_lenL (ev_var rfl) (sq_of (hp.up e1))) (ev_var rfl) rv_I0) (by rw [len_map, ← Int.natCast_add])) (by omega)) ?_) fun r H2 nr e2 hr => ?_
    · rw [map_rep]
      congr 1
      refine List.ext_getElem? fun t => ?_
      rw [List.getElem?_replicate, List.getElem?_map]
      by_cases c : t < l.length + m.length
      · rw [if_pos c, List.getElem?_range c]
        rfl
      · rw [if_neg c, List.getElem?_eq_none (by simpa using c)]
        rfl
    have e12 := e1.trans e2
    have nr0 := fresh_back e1 nr
    refine q_forEn (ea_cons (ev_var rfl) ea_nil) (sq_of (hp.up e12)) (fun i s H' => ∃ v4 v5, s = [some (.ref p), some (.ref q), some (.int (m.length : Int)), some (.ref r), v4, v5] ∧ Ex H H' ∧ LN H' r ((List.range (l.length + m.length)).map (Py.acc l m i))) ?_ ?_ ?_ ?_
    · exact fun H3 e3 => ⟨none, none, rfl, e12.trans e3, e3 r _ hr⟩
    · rintro i s H' _ ⟨v4, v5, rfl, e, _⟩
      exact sq_of (hp.up e)
    · rintro i c s H' H3 hc ⟨v4, v5, rfl, e, hr'⟩ e3
      obtain ⟨hi, rfl⟩ := nat_of_get hc
      have hr3 := hr'.up e3
      have hq3 := hq.up (e.trans e3)
      have f3 := ho i
      refine s_setSl (ys := (mix (Py.at0 l i) (((List.range (l.length + m.length)).map (Py.acc l m i)).drop i |>.take m.length) m).map nV) (a := i) (c := i + m.length) hr3 ?_ (ev_var rfl) (eo_some (ev_var rfl)) (eo_some (ev_op (ev_var rfl) (ev_var rfl) rv_addN)) (by omega) (by simp; omega) (by rw [len_map, len_map, mix_length]; simp; omega) fun s2 H4 n4 e4 => ?_
      · refine el_call3LVV (xs := (((List.range (l.length + m.length)).map (Py.acc l m i)).drop i |>.take m.length).map nV) (el_is (el_sl (lo := some (i : Int)) (hi := some ((i + m.length : Nat) : Int)) (ev_var rfl) (eo_some (ev_var rfl)) (eo_some (ev_op (ev_var rfl) (ev_var rfl) rv_addN)) (sq_of hr3)) ?_) (ev_var rfl) (ev_var rfl) fun t H5 e5 ht => spl_mixed f3 ht (hq3.up e5) ho2 (by omega) (by simp; omega)
        rw [cut_mid (by omega) (by simp; omega), List.map_take, List.map_drop, Nat.add_sub_cancel_left]
      · refine ⟨_, _, rfl, Ex.mut ((e.trans e3).trans e4) nr0, ?_⟩
        show upd _ _ _ _ = _
        rw [upd_same]
        congr 2
        rw [splice_nat]
        congr 1
        rw [Py.slice_map (w := m.length) (by rw [mix_length]; simp; omega) (by omega)]
        refine List.map_congr_left fun t ht => ?_
        have ht2 : t < l.length + m.length := List.mem_range.mp ht
        show _ = Py.acc l m i t ^^^ (if i ≤ t then Gf.gm (Py.at0 l i) (Py.at0 m (t - i)) else 0)
        by_cases c1 : i ≤ t
        · rw [if_pos c1]
          by_cases c2 : t < i + m.length
          · rw [if_pos ⟨c1, c2⟩]
            refine Py.at0_of ?_
            unfold mix
            rw [List.getElem?_zipWith, List.getElem?_take_of_lt (by omega), List.getElem?_drop, Py.at0_get (show t - i < m.length by omega)]
            have e6 : i + (t - i) = t := by omega
            rw [e6, Gf.range_at ht2] <;> rfl
          · rw [if_neg (by omega), Py.at0_none (show m.length ≤ t - i by omega), Gf.gm_zero (.inr rfl), Nat.xor_zero]
        · rw [if_neg (by omega), if_neg c1, Nat.xor_zero]
    · rintro s H' ⟨v4, v5, rfl, e, hr'⟩
      rw [len_map] at hr'
      refine s_retL (el_call (by walk_at "ev") (spl_trim hr' (by simp; omega))) fun t H3 nt e3 ht => k t H3 (fresh_back e nt) (e.trans e3) ht
def sp__law_xs : Sp := fun vs H Q _ => ∃ (c : Int) (n : Nat), vs = [.int c, .int (n : Int)] ∧ n ≤ 200 ∧ ∀ X : List Nat, X.length = n → X.Nodup → (∀ x ∈ X, x < 256) → RetL (X.map nV) H Q
theorem range_rg : rgV 0 256 = (List.range 256).map nV := by
  unfold rgV
  refine List.map_congr_left fun i _ => ?_
  rw [Int.zero_add]
theorem seq_ix {j n : Nat} (h : j < n) : seqIndex? (j : Int) n = some j := by
  show (if (decide ((0 : Int) ≤ (if (j : Int) < 0 then (j : Int) + (n : Int) else (j : Int))) && decide ((if (j : Int) < 0 then (j : Int) + (n : Int) else (j : Int)) < (n : Int))) = true then some (if (j : Int) < 0 then (j : Int) + (n : Int) else (j : Int)).toNat else none) = some j
  rw [if_neg (show ¬ (j : Int) < 0 by omega), if_pos (show (decide ((0 : Int) ≤ (j : Int)) && decide ((j : Int) < (n : Int))) = true by rw [decide_eq_true (show (0 : Int) ≤ (j : Int) by omega), decide_eq_true (show (j : Int) < (n : Int) by omega)] <;> rfl), Int.toNat_natCast]
theorem erase_map : ∀ (l : List Nat) (j : Nat), (l.map nV).eraseIdx j = (l.eraseIdx j).map nV
  | [], _ => rfl
  | _ :: _, 0 => rfl
  | a :: l, j + 1 => by
    show nV a :: (l.map nV).eraseIdx j = nV a :: (l.eraseIdx j).map nV
    rw [erase_map l j]
theorem ok__law_xs (T : Txt K mg) : Okf P w K mg base CX0 3 "_law_xs" s__law_xs P__law_xs sp__law_xs := by
  obtain ⟨fd__law_digits, G__law_digits, B__law_digits, _⟩ := ok__law_digits (P := P) (w := w) (base := base) T
  obtain ⟨fd, F⟩ := T.F__law_xs
  refine ⟨fd, F.ok sc__law_xs (fun vs H Q E h => ?_) (fun cdv A outer s H vs Q E hr h => ?_), F.bindsN fun _ _ _ _ _ _ us hl => match us, hl with | [_, _], _ => rfl, F⟩
  · obtain ⟨c, n, rfl, hn, k⟩ := h
    rfl
  · obtain ⟨c, n, rfl, hn, k⟩ := h
    refine ⟨_, PSs.nox (pss_cons (ps_set (i := 2) sc__law_xs.nd rfl (by first | exact Or.inl rfl | exact Or.inr rfl) (pe_listRg rfl (by rfl) T.m_list (prg_1 (by rfl) T.m_range pe_int)))
(pss_cons (ps_set (i := 3) sc__law_xs.nd rfl (by first | exact Or.inl rfl | exact Or.inr rfl) (pe_call G__law_digits (hr.mono (by decide)) rfl T.g__law_digits T.p__law_digits B__law_digits .nil pass0 (pa_cons (pv 0) (pa_cons (pv 1) (pa_cons pe_int pa_nil)))))
(pss_cons (ps_set (i := 4) sc__law_xs.nd rfl (by first | exact Or.inl rfl | exact Or.inr rfl) (pe_lst pa_nil))
(pss_cons (ps_for PassesOwn.never rfl (pi_range1 rfl T.m_range (pa_cons (pv 1) pa_nil)) (pg_name (i := 5) sc__law_xs.nd rfl (by first | exact Or.inl rfl | exact Or.inr rfl)) (pss_one (ps_expr (pe_bm PySem.F.plainAttrs_list PySem.F.slot_list_append PySem.F.type_list_append mt_append (pv 4) (pa_cons (pe_bm PySem.F.plainAttrs_list PySem.F.slot_list_pop PySem.F.type_list_pop mt_popAt (pv 2) (pa_cons (pe_op op_mod (pe_callTy call_int1 (by rfl) T.m_int (by decide +kernel) (pa_cons (pe_ix (ix_listK (K := K) rfl) (pv 3) (pv 5) (fun _ _ => rfl)) pa_nil)) (pe_callB (call_lenK (K := K) rfl) (by rfl) T.m_len (by decide +kernel) (pa_cons (pv 2) pa_nil))) pa_nil)) pa_nil)))))
(pss_one (ps_ret (pv 4))))))), ?_⟩
    refine q_asgL (xs := (List.range 256).map nV) (fun H1 e Q k => ⟨256, rfl, RgOk.of_le (by decide) (by decide) (by decide) (by decide), fun l hl => k l _ hl (Ex.new hl) (by rw [upd_same, range_rg])⟩) fun la H1 nl e1 hl => ?_
    refine q_asgL (el_call (ea_cons (ev_var rfl) (ea_cons (ev_var rfl) (ea_cons ev_c ea_nil))) (spl__law_digits (n := n) (m := 256) (by omega) (by decide) (by decide))) fun da H2 nd e2 hd => ?_
    refine q_asgL (xs := ([] : List Nat).map nV) (el_lst ea_nil (by decide)) fun xa H3 nx e3 hx => ?_
    have nl0 := nl
    have nx0 : H xa = none := fresh_back (e1.trans e2) nx
    have hl2 : LN H2 la (List.range 256) := LN.up hl e2
    have hne : la ≠ xa := ne_of_none hl2 nx
    have hd3 : LN H3 da (Gf.digits c n 256) := LN.up hd e3
    have hda : da ≠ xa := ne_of_none hd nx
    have hdl : da ≠ la := (ne_of_none hl nd).symm
    refine q_forR1 (n := (n : Int)) (ea_cons (ev_var rfl) ea_nil) (by omega) (fun i s H' => ∃ v, s = [some (.int c), some (.int (n : Int)), some (.ref la), some (.ref da), some (.ref xa), v] ∧ Ex H H' ∧ LN H' da (Gf.digits c n 256) ∧ ∃ L X, LN H' la L ∧ LN H' xa X ∧ (L ++ X).Nodup ∧ L.length + X.length = 256 ∧ X.length = i ∧ (∀ x ∈ L ++ X, x < 256)) ?_ ?_ ?_
    · refine fun H4 e4 => ⟨none, rfl, ((e1.trans e2).trans e3).trans e4, hd3.up e4, List.range 256, [], LN.up (LN.up hl2 e3) e4, LN.up hx e4, ?_, by simp, rfl, fun x h => ?_⟩
      · rw [List.append_nil]
        exact List.nodup_range
      · rw [List.append_nil] at h
        exact List.mem_range.mp h
    · rintro i s H4 hi ⟨v, rfl, e, hd4, L, X, hL, hX, nd, hlen, hXi, hlt⟩
      have hdl2 : i < (Gf.digits c n 256).length := by
        rw [Gf.digits_length]
        omega
      obtain ⟨j, hj, hj2⟩ : ∃ j : Nat, ((Py.at0 (Gf.digits c n 256) i : Nat) : Int) % (L.length : Int) = (j : Int) ∧ j < L.length := by
        have h0 : (0 : Int) < (L.length : Int) := by omega
        have h1 := Int.emod_nonneg ((Py.at0 (Gf.digits c n 256) i : Nat) : Int) (show (L.length : Int) ≠ 0 by omega)
        have h2 := Int.emod_lt_of_pos ((Py.at0 (Gf.digits c n 256) i : Nat) : Int) h0
        exact ⟨(((Py.at0 (Gf.digits c n 256) i : Nat) : Int) % (L.length : Int)).toNat, by omega, by omega⟩
      have hlm : (L.map nV).length = L.length := len_map
      -- xs.append(left.pop(..))
      refine ⟨_, rfl, .inl ⟨rfl, _, sq_of hX⟩, _, rfl, .inl ⟨rfl, _, sq_of hL⟩, ?_⟩
      refine ev_op (x := .int ((Py.at0 (Gf.digits c n 256) i : Nat) : Int)) (y := .int (L.length : Int)) (ev_int (ev_op (ev_var rfl) (ev_var rfl) (rv_ixLN (sq_of hd4) (nat_get hdl2)))) (ev_is (ev_lenL (ev_var rfl) (sq_of hL)) (by rw [len_map])) (rv_mod (by omega)) H4 (Ex.refl _) _ fun H5 e5 => ?_
      rw [hj]
      refine ⟨la, L.map nV, (j : Int), j, .int ((Py.at0 L j : Nat) : Int), rfl, rfl, e5 _ _ hL, by omega, by omega, ?_, nat_get hj2, ?_⟩
      · rw [len_map]
        exact seq_ix hj2
      refine ⟨xa, X.map nV, .int ((Py.at0 L j : Nat) : Int), rfl, rfl, ?_, ?_, ?_⟩
      · rw [upd_ne hne.symm]
        exact e5 _ _ hX
      · rw [len_map]
        exact sz_lt (by omega)
      have pm : (L.eraseIdx j ++ (X ++ [Py.at0 L j])).Perm (L ++ X) := by
        have p1 : (L.eraseIdx j ++ (X ++ [Py.at0 L j])).Perm (Py.at0 L j :: L.eraseIdx j ++ X) := by
          have e7 : L.eraseIdx j ++ (X ++ [Py.at0 L j]) = (L.eraseIdx j ++ X) ++ [Py.at0 L j] := (List.append_assoc _ _ _).symm
          rw [e7]
          exact List.perm_append_comm
        exact p1.trans ((erase_perm L j hj2).append_right X)
      refine ⟨_, rfl, Ex.mut (Ex.mut (e.trans e5) nl0) nx0, ?_, L.eraseIdx j, X ++ [Py.at0 L j], ?_, ?_, ?_, ?_, ?_, ?_⟩
      · show upd _ _ _ da = _
        rw [upd_ne hda, upd_ne hdl]
        exact hd4.up e5
      · show upd _ _ _ la = _
        rw [upd_ne hne, upd_same, erase_map]
      · show upd _ _ _ xa = _
        rw [upd_same, List.map_append]
        rfl
      · exact pm.symm.nodup nd
      · have := pm.length_eq
        rw [List.length_append, List.length_append (as := L)] at this
        omega
      · rw [List.length_append, hXi]
        rfl
      · intro x hx
        exact hlt x (pm.mem_iff.mp hx)
    · rintro s H4 ⟨v, rfl, e, hd4, L, X, hL, hX, nd, hlen, hXi, hlt⟩
      rw [Int.toNat_natCast] at hXi
      exact s_ret (ev_var rfl) fun H5 e5 => k X hXi (List.nodup_append.mp nd).2.1 (fun x hx => hlt x (List.mem_append_right _ hx)) xa H5 nx0 (e.trans e5) (LN.up hX e5)
def Okp (ps : List (Nat × Nat)) : Prop := (∀ q ∈ ps, q.1 < 256 ∧ q.2 < 256) ∧ ps.length ≤ 200
def sp_interpolate (K : PySem.W.Frag) : Sp := fun vs H Q E => ∃ (p : Addr) (ps : List (Nat × Nat)), vs = [.ref p] ∧ TL H p (tv ps) ∧ Okp ps ∧
  (¬ (ps.map Prod.fst).Nodup → ∀ H', Ex H H' → E (.ref (He.ga K "DuplicatePoint")) none H') ∧
  ((ps.map Prod.fst).Nodup → ∀ (r v : List Nat), Py.Ip ps r v → RetL (r.map nV) H Q)
theorem dup_len : Gf.alln (fun n => Nat.ble ((Str.empty ++ ("two points have the x " : Str) ++ (toString (n : Int) : Str)).length) 1000) 256 = true := by decide +kernel
theorem dup_log : Gf.alln (fun n => Nat.ble ((n : Int).natAbs.log2) 100) 256 = true := by decide +kernel
theorem take_snoc {ps : List (Nat × Nat)} {i : Nat} {q : Nat × Nat} (h : ps[i]? = some q) : ps.take (i + 1) = ps.take i ++ [q] := by rw [List.take_add_one, h] <;> rfl
theorem tv_get {ps : List (Nat × Nat)} {i : Nat} {vs : List V} (h : (tv ps)[i]? = some vs) : ∃ q, ps[i]? = some q ∧ vs = [nV q.1, nV q.2] := by
  unfold tv at h
  rw [List.getElem?_map] at h
  cases e : ps[i]? with
  | none =>
    rw [e] at h
    cases h
  | some q =>
    rw [e] at h
    exact ⟨q, rfl, (Option.some.inj h).symm⟩
theorem tv_len (ps : List (Nat × Nat)) : ∀ vs ∈ tv ps, vs.length = 2 := by
  intro vs h
  obtain ⟨q, _, rfl⟩ := List.mem_map.mp h
  rfl
theorem ok_interpolate (T : Txt K mg) : Okf P w K mg base (L2.CX P w) 4 "interpolate" s_interpolate P_interpolate (sp_interpolate K) := by
  obtain ⟨fd_add, G_add, B_add, _⟩ := ok_add (P := P) (w := w) (base := base) T
  obtain ⟨fd_div, G_div, B_div, _⟩ := ok_div (P := P) (w := w) (base := base) T
  obtain ⟨fd_evaluate, G_evaluate, B_evaluate, _⟩ := ok_evaluate (P := P) (w := w) (base := base) T
  obtain ⟨fd_poly_add, G_poly_add, B_poly_add, _⟩ := ok_poly_add (P := P) (w := w) (base := base) T
  obtain ⟨fd_poly_mul, G_poly_mul, B_poly_mul, _⟩ := ok_poly_mul (P := P) (w := w) (base := base) T
  obtain ⟨fd_scaled, G_scaled, B_scaled, _⟩ := ok_scaled (P := P) (w := w) (base := base) T
  obtain ⟨fd, F⟩ := T.F_interpolate
  refine ⟨fd, F.ok sc_interpolate (fun vs H Q E h => ?_) (fun cdv A outer s H vs Q E hr h => ?_), F.bindsN fun _ _ _ _ _ _ us hl => match us, hl with | [_], _ => rfl, F⟩
  · obtain ⟨p, ps, rfl, hp, ok, kE, k⟩ := h
    rfl
  · obtain ⟨p, ps, rfl, hp, ok, kE, k⟩ := h
    refine ⟨_, (pss_cons (ps_set (i := 1) sc_interpolate.nd rfl (by first | exact Or.inl rfl | exact Or.inr rfl) (pe_lst pa_nil))
(pss_cons (ps_set (i := 2) sc_interpolate.nd rfl (by first | exact Or.inl rfl | exact Or.inr rfl) (pe_lst (pa_cons pe_int pa_nil)))
(pss_cons (ps_for (passes_of rfl) rfl (pi_list (pv 0)) (pg_tupK (K := K) (n := 2) rfl rfl (pgs_cons (pg_name (i := 3) sc_interpolate.nd rfl (by first | exact Or.inl rfl | exact Or.inr rfl)) (pgs_cons (pg_name (i := 4) sc_interpolate.nd rfl (by first | exact Or.inl rfl | exact Or.inr rfl)) pgs_nil))) (pss_cons (ps_set (i := 5) sc_interpolate.nd rfl (by first | exact Or.inl rfl | exact Or.inr rfl) (pe_call G_evaluate (hr.mono (by decide)) rfl T.g_evaluate T.p_evaluate B_evaluate .nil pass0 (pa_cons (pv 2) (pa_cons (pv 3) pa_nil))))
(pss_cons (ps_if (pt_cmpR op_eq (pv 5) pe_int (nomark _)) (pss_one (ps_raise rfl (takes_of rfl rfl rfl rfl) (SkE.pmk_own1 PySem.F.excBase_ValueError T.x_DuplicatePoint T.c_DuplicatePoint T.k_DuplicatePoint (raises_own T.b_DuplicatePoint T.t_DuplicatePoint) (by exact rfl) (pe_joined (PJ.cons pe_str (PJ.cons (pe_fmt (pv 3)) PJ.nil)))))) pss_nil)
(pss_cons (ps_set (i := 6) sc_interpolate.nd rfl (by first | exact Or.inl rfl | exact Or.inr rfl) (pe_call G_div (hr.mono (by decide)) rfl T.g_div T.p_div B_div .nil (passes_call (takes_of rfl rfl rfl rfl) (fun _ _ _ _ h => h)) (pa_cons (pe_call G_add (hr.mono (by decide)) rfl T.g_add T.p_add B_add .nil pass0 (pa_cons (pv 4) (pa_cons (pe_call G_evaluate (hr.mono (by decide)) rfl T.g_evaluate T.p_evaluate B_evaluate .nil pass0 (pa_cons (pv 1) (pa_cons (pv 3) pa_nil))) pa_nil))) (pa_cons (pv 5) pa_nil))))
(pss_cons (ps_set (i := 1) sc_interpolate.nd rfl (by first | exact Or.inl rfl | exact Or.inr rfl) (pe_call G_poly_add (hr.mono (by decide)) rfl T.g_poly_add T.p_poly_add B_poly_add .nil pass0 (pa_cons (pv 1) (pa_cons (pe_call G_scaled (hr.mono (by decide)) rfl T.g_scaled T.p_scaled B_scaled .nil pass0 (pa_cons (pv 6) (pa_cons (pv 2) pa_nil))) pa_nil))))
(pss_one (ps_set (i := 2) sc_interpolate.nd rfl (by first | exact Or.inl rfl | exact Or.inr rfl) (pe_call G_poly_mul (hr.mono (by decide)) rfl T.g_poly_mul T.p_poly_mul B_poly_mul .nil pass0 (pa_cons (pv 2) (pa_cons (pe_lst (pa_cons (pv 3) (pa_cons pe_int pa_nil))) pa_nil))))))))))
(pss_one (ps_ret (pv 1)))))), ?_⟩
    refine q_asgL (xs := ([] : List Nat).map nV) (el_lst ea_nil (by decide)) fun r0 H1 nr e1 hr => ?_
    refine q_asgL (xs := ([1] : List Nat).map nV) (el_lst (ea_cons ev_c ea_nil) (by decide)) fun v0 H2 nv e2 hv => ?_
    have e12 := e1.trans e2
    refine q_forTL (ev_var rfl) (hp.up e12) (tv_len ps) (fun i s H' => ∃ ra va r v v3 v4 v5 v6, s = [some (.ref p), some (.ref ra), some (.ref va), v3, v4, v5, v6] ∧ Ex H2 H' ∧ LN H' ra r ∧ LN H' va v ∧ Py.Ip (ps.take i) r v ∧ ((ps.take i).map Prod.fst).Nodup ∧ H ra = none) ?_ ?_ ?_ ?_
    · exact fun H3 e3 => ⟨r0, v0, [], [1], none, none, none, none, rfl, e3, LN.up (LN.up hr e2) e3, LN.up hv e3, by rw [List.take_zero]; exact Py.ip_start, by rw [List.take_zero]; exact List.nodup_nil, nr⟩
    · rintro i s H' ⟨ra, va, r, v, v3, v4, v5, v6, rfl, e, _⟩
      exact e
    · rintro i vs s H' hvs ⟨ra, va, r, v, v3, v4, v5, v6, rfl, e, hr', hv', ip, nd, fr⟩
      obtain ⟨⟨x, y⟩, hq, rfl⟩ := tv_get hvs
      obtain ⟨hx, hy⟩ := ok.1 (x, y) (List.mem_of_getElem? hq)
      have hx : x < 256 := hx
      have hy : y < 256 := hy
      have lps := ok.2
      have lr := ip.lr
      have lv := ip.lv
      rw [List.length_take] at lr lv
      have tk := take_snoc hq
      refine ⟨_, _, rfl, _, _, rfl, rfl, ?_⟩
      refine q_asg (ev_call (by walk_at "ev") (spv_evaluate hv' ip.ov hx)) fun H3 e3 => ?_
      refine q_when (by walk_at "ev") (fun h0 H4 e4 => ?_) (fun h0 H4 e4 => ?_)
      · have z : Py.horner x v = 0 := by simpa using h0
        refine ⟨_, rfl, by decide +kernel, _, rfl, Or.inr ⟨_, rfl, ?_, _, rfl, ?_, ?_⟩⟩
        · exact Nat.lt_of_le_of_lt (Nat.le_of_ble_eq_true (Gf.alln_at dup_log x hx)) (by decide)
        · exact Nat.le_trans (Nat.le_of_ble_eq_true (Gf.alln_at dup_len x hx)) (by decide)
        · refine kE (fun nd2 => ?_) _ (((e12.trans e).trans e3).trans e4)
          obtain ⟨q, hq2, e5⟩ := (ip.van x hx).mp z
          have sub : ((ps.take (i + 1)).map Prod.fst).Nodup := by
            rw [List.map_take]
            exact nd2.sublist (List.take_sublist _ _)
          rw [tk, List.map_append, List.nodup_append] at sub
          exact sub.2.2 q.1 (List.mem_map.mpr ⟨q, hq2, rfl⟩) x (by simp) e5
      · have z : ¬ Py.horner x v = 0 := by simpa using h0
        have hv4 := (hv'.up e3).up e4
        have hr4 := (hr'.up e3).up e4
        have b1 := Py.horner_lt (x := x) ip.orr
        have b2 := Py.horner_lt (x := x) ip.ov
        have b3 := Gf.xor_lt hy b1
        refine q_asg (ev_call (ea_cons (ev_call (ea_cons (ev_var rfl) (ea_cons (ev_call (by walk_at "ev") (spv_evaluate hr4 ip.orr hx)) ea_nil)) spv_add) (ea_cons (ev_var rfl) ea_nil)) (spv_div b3 b2 z)) fun H5 e5 => ?_
        have hf := Gf.gm_lt (y ^^^ Py.horner x r) (Gf.gi (Py.horner x v))
        refine q_asgL (el_call2VL (ev_var rfl) (el_call (by walk_at "ev") (spl_scaled hf (hv4.up e5) ip.ov (by omega))) fun q H' e' hq' => spl_poly_add ((hr4.up e5).up e') hq' (by omega) (by rw [List.length_map]; omega)) fun r2 H6 nr2 e6 hr2 => ?_
        refine s_asgL (el_call2VL (ys := ([x, 1] : List Nat).map nV) (ev_var rfl) (el_lst (ea_cons (ev_var rfl) (ea_cons ev_c ea_nil)) (by simp)) fun q H' e' hq' => spl_poly_mul (((hv4.up e5).up e6).up e') hq' ip.ov (Py.oc_of (by simp; omega)) (by omega) (by simp)) fun v2 H7 nv2 e7 hv2 => ?_
        refine ⟨r2, v2, _, _, _, _, _, _, rfl, (((e.trans e3).trans e4).trans e5).trans (e6.trans e7), LN.up hr2 e7, hv2, ?_, ?_, fresh_back ((((e12.trans e).trans e3).trans e4).trans e5) nr2⟩
        · rw [tk]
          exact Py.ip_step ip (fun q hq => (ok.1 q (List.mem_of_mem_take hq)).1) hx hy z
        · rw [tk, List.map_append, List.nodup_append]
          refine ⟨nd, by simp, fun a ha b hb => ?_⟩
          obtain ⟨q, hq2, rfl⟩ := List.mem_map.mp ha
          have eb : b = x := by simpa using hb
          rw [eb]
          intro e8
          exact z ((ip.van x hx).mpr ⟨q, hq2, e8⟩)
    · rintro s H' ⟨ra, va, r, v, v3, v4, v5, v6, rfl, e, hr', hv', ip, nd, fr⟩
      have el : (tv ps).length = ps.length := by
        unfold tv
        rw [List.length_map]
      rw [el, List.take_length] at ip nd
      refine s_ret (ev_var rfl) fun H3 e3 => ?_
      exact k nd r v ip ra H3 fr ((e12.trans e).trans e3) (LN.up hr' e3)
def sp_law (K : PySem.W.Frag) : Sp := fun vs H Q _ => ∃ (a : Addr) (ns : List Int), vs = [.ref a] ∧ SqL K H a (ns.map V.int) ∧ ns.length ≤ 63 ∧ ∀ H', Q (.bl true) H'
theorem nat_of {z m : Int} (h : 0 < m) : ∃ n : Nat, z % m = (n : Int) ∧ (n : Int) < m := by
  have h1 := Int.emod_nonneg z (show m ≠ 0 by omega)
  have h2 := Int.emod_lt_of_pos z h
  exact ⟨(z % m).toNat, by omega, by omega⟩
theorem ok_law (T : Txt K mg) : Okf P w K mg base CX0 5 "law" s_law P_law (sp_law K) := by
  obtain ⟨fd__law_cell, G__law_cell, B__law_cell, _⟩ := ok__law_cell (P := P) (w := w) (base := base) T
  obtain ⟨fd__law_digits, G__law_digits, B__law_digits, _⟩ := ok__law_digits (P := P) (w := w) (base := base) T
  obtain ⟨fd__law_octets, G__law_octets, B__law_octets, _⟩ := ok__law_octets (P := P) (w := w) (base := base) T
  obtain ⟨fd__law_value, G__law_value, B__law_value, _⟩ := ok__law_value (P := P) (w := w) (base := base) T
  obtain ⟨fd__law_xs, G__law_xs, B__law_xs, _⟩ := ok__law_xs (P := P) (w := w) (base := base) T
  obtain ⟨fd_interpolate, G_interpolate, B_interpolate, _⟩ := ok_interpolate (P := P) (w := w) (base := base) T
  obtain ⟨fd, F⟩ := T.F_law
  refine ⟨fd, F.ok sc_law (fun vs H Q E h => ?_) (fun cdv A outer s H vs Q E hr h => ?_), F.bindsN fun _ _ _ _ _ _ us hl => match us, hl with | [_], _ => rfl, F⟩
  · obtain ⟨a, ns, rfl, hS, hl, k⟩ := h
    rfl
  · obtain ⟨a, ns, rfl, hS, hl, k⟩ := h
    refine ⟨_, PSs.nox (pss_cons (ps_set (i := 1) sc_law.nd rfl (by first | exact Or.inl rfl | exact Or.inr rfl) (pe_callTy call_int1 (by rfl) T.m_int (by decide +kernel) (pa_cons (pe_call G__law_cell (hr.mono (by decide)) rfl T.g__law_cell T.p__law_cell B__law_cell .nil pass0 (pa_cons (pv 0) (pa_cons pe_int pa_nil))) pa_nil)))
(pss_cons (ps_set (i := 2) sc_law.nd rfl (by first | exact Or.inl rfl | exact Or.inr rfl) (pe_op op_mod (pv 1) pe_int))
(pss_cons (ps_if (pt_cmpR op_eq (pe_op op_mod (pe_op op_fdiv (pv 1) pe_int) pe_int) pe_int (nomark _)) (pss_one (ps_set (i := 2) sc_law.nd rfl (by first | exact Or.inl rfl | exact Or.inr rfl) pe_int)) pss_nil)
(pss_cons (ps_set (i := 3) sc_law.nd rfl (by first | exact Or.inl rfl | exact Or.inr rfl) (pe_call G__law_xs (hr.mono (by decide)) rfl T.g__law_xs T.p__law_xs B__law_xs .nil pass0 (pa_cons (pe_call G__law_cell (hr.mono (by decide)) rfl T.g__law_cell T.p__law_cell B__law_cell .nil pass0 (pa_cons (pv 0) (pa_cons pe_int pa_nil))) (pa_cons (pv 2) pa_nil))))
(pss_cons (ps_set (i := 4) sc_law.nd rfl (by first | exact Or.inl rfl | exact Or.inr rfl) (pe_call G__law_digits (hr.mono (by decide)) rfl T.g__law_digits T.p__law_digits B__law_digits .nil pass0 (pa_cons (pe_call G__law_cell (hr.mono (by decide)) rfl T.g__law_cell T.p__law_cell B__law_cell .nil pass0 (pa_cons (pv 0) (pa_cons pe_int pa_nil))) (pa_cons (pv 2) (pa_cons pe_int pa_nil)))))
(pss_cons (ps_setLc (i := 5) (own := [("k", 6)]) (g := gName 6) (tt := tYes) (by rfl) sc_law.nd rfl rfl (sw_true rfl rfl rfl (by decide +kernel)) (pi_range1 rfl T.m_range (pa_cons (pv 2) pa_nil)) (blkOk_by (own := [("k", 6)]) (N := N_law) (sc := defScope s_law) (by decide +kernel)) (fun _ _ _ _ _ => (pg_name (i := 6) sc_law.nd rfl (by first | exact Or.inl rfl | exact Or.inr rfl))) (fun _ _ _ _ _ => pts_nil) (fun _ _ _ _ _ => (pe_tup (pa_cons (pe_ix (ix_listK (K := K) rfl) (pv 3) (pv 6) (fun _ _ => rfl)) (pa_cons (pe_ix (ix_listK (K := K) rfl) (pv 4) (pv 6) (fun _ _ => rfl)) pa_nil)))))
(pss_cons (ps_if (PW.pt (pw_and (pt_cmpR op_eq (pe_op op_mod (pe_op op_fdiv (pv 1) pe_int) pe_int) pe_int (nomark _)) (pw_and1 (pt_cmpR op_gt (pv 2) pe_int (nomark _))))) (pss_cons (ps_set (i := 7) sc_law.nd rfl (by first | exact Or.inl rfl | exact Or.inr rfl) (pe_op op_mod (pe_op op_fdiv (pv 1) pe_int) (pv 2)))
(pss_cons (ps_set (i := 8) sc_law.nd rfl (by first | exact Or.inl rfl | exact Or.inr rfl) (pe_op op_mod (pe_op op_add (pe_op op_add (pv 7) pe_int) (pe_op op_mod (pe_op op_fdiv (pv 1) pe_int) (pe_op op_sub (pv 2) pe_int))) (pv 2)))
(pss_cons (ps_set (i := 9) sc_law.nd rfl (by first | exact Or.inl rfl | exact Or.inr rfl) (pe_ix (ix_listK (K := K) rfl) (pv 4) (pv 8) (fun _ _ => rfl)))
(pss_cons (ps_if (pt_cmpR op_eq (pe_op op_mod (pe_op op_fdiv (pv 1) pe_int) pe_int) pe_int (nomark _)) (pss_one (ps_set (i := 9) sc_law.nd rfl (by first | exact Or.inl rfl | exact Or.inr rfl) (pe_ix (ix_listK (K := K) rfl) (pv 4) (pv 7) (fun _ _ => rfl)))) pss_nil)
(pss_cons (ps_asg (pe_tup (pa_cons (pe_ix (ix_listK (K := K) rfl) (pv 3) (pv 7) (fun _ _ => rfl)) (pa_cons (pv 9) pa_nil))) (pg_sub (pv 5) (pv 8) set_list))
(pss_cons (ps_try_as (i := 10) rfl rfl sc_law.nd rfl rfl ⟨rfl, by decide, .inl T.c_CairnError⟩ takes0 (fun W pn xe tk1 _ => (pss_one (ps_expr (pe_callS G_interpolate (hr.mono (by decide)) rfl T.g_interpolate T.p_interpolate B_interpolate (fun σ => passAt tk1 σ) (pa_cons (pe_callTy (call_list_ofK (K := K) rfl) (by rfl) T.m_list (by decide +kernel) (pa_cons (pv 5) pa_nil)) pa_nil))))) (fun a oe cls d pn hz hf => (given_yes (p := cls = .ref (He.ga K "DuplicatePoint") ∧ d = none) fun pq => by obtain ⟨rfl, rfl⟩ := pq; exact (pss_one (ps_ret (pe_and (pe_callB (call_isE T.ec_DuplicatePoint hz hf) (by rfl) T.m_isinstance (by decide +kernel) (pa_cons (pv 10) (pa_cons (pe_glob (v := .ref (He.ga K "DuplicatePoint")) rfl T.c_DuplicatePoint rfl) pa_nil))) (pe_and (pe_callB (call_isE T.ec_DuplicatePoint hz hf) (by rfl) T.m_isinstance (by decide +kernel) (pa_cons (pv 10) (pa_cons (pe_bltn (v := .ty "ValueError") (by rfl) T.m_ValueError (by decide +kernel) rfl) pa_nil))) (pe_one (pe_not (pe_callB (call_isE T.ec_DuplicatePoint hz hf) (by rfl) T.m_isinstance (by decide +kernel) (pa_cons (pv 10) (pa_cons (pe_glob (v := .ref (He.ga K "ZeroElement")) rfl T.c_ZeroElement rfl) pa_nil))))))))))))
(pss_one (ps_ret pe_bl)))))))) pss_nil)
(pss_cons (ps_set (i := 11) sc_law.nd rfl (by first | exact Or.inl rfl | exact Or.inr rfl) (pe_callTy (call_list_ofK (K := K) rfl) (by rfl) T.m_list (by decide +kernel) (pa_cons (pv 5) pa_nil)))
(pss_cons (ps_set (i := 12) sc_law.nd rfl (by first | exact Or.inl rfl | exact Or.inr rfl) (pe_call G_interpolate (hr.mono (by decide)) rfl T.g_interpolate T.p_interpolate B_interpolate .nil passL (pa_cons (pv 11) pa_nil)))
(pss_cons (ps_if (PW.pt (pw_or (pt_not (pt_val (pe_callB (call_isiK' (K := K) rfl) (by rfl) T.m_isinstance (by decide +kernel) (pa_cons (pv 12) (pa_cons (pe_bltn (v := .ty "list") (by rfl) T.m_list (by decide +kernel) rfl) pa_nil))))) (pw_or (pt_cmpR op_gt (pe_callB (call_lenK (K := K) rfl) (by rfl) T.m_len (by decide +kernel) (pa_cons (pv 12) pa_nil)) (pv 2) (nomark _)) (pw_or1 (pt_not (pt_val (pe_call G__law_octets (hr.mono (by decide)) rfl T.g__law_octets T.p__law_octets B__law_octets .nil pass0 (pa_cons (pv 12) (pa_cons (pe_callB (call_lenK (K := K) rfl) (by rfl) T.m_len (by decide +kernel) (pa_cons (pv 12) pa_nil)) pa_nil))))))))) (pss_one (ps_ret pe_bl)) pss_nil)
(pss_cons (ps_if (PW.pt (pw_and (pt_cmpR op_gt (pe_callB (call_lenK (K := K) rfl) (by rfl) T.m_len (by decide +kernel) (pa_cons (pv 12) pa_nil)) pe_int (nomark _)) (pw_and1 (pt_cmpR op_eq (pe_ix (ix_listK (K := K) rfl) (pv 12) (pe_un un_neg pe_int) (fun _ _ => rfl)) pe_int (nomark _))))) (pss_one (ps_ret pe_bl)) pss_nil)
(pss_cons (ps_for PassesOwn.never rfl (pi_list (pv 5)) (pg_tupK (K := K) (n := 2) rfl rfl (pgs_cons (pg_name (i := 13) sc_law.nd rfl (by first | exact Or.inl rfl | exact Or.inr rfl)) (pgs_cons (pg_name (i := 14) sc_law.nd rfl (by first | exact Or.inl rfl | exact Or.inr rfl)) pgs_nil))) (pss_one (ps_if (pt_cmpR op_ne (pe_call G__law_value (hr.mono (by decide)) rfl T.g__law_value T.p__law_value B__law_value .nil pass0 (pa_cons (pv 12) (pa_cons (pv 13) pa_nil))) (pv 14) (nomark _)) (pss_one (ps_ret pe_bl)) pss_nil)))
(pss_one (ps_ret (pe_cmpR (op_eqDK (K := K) rfl hr.units) (pv 11) (pv 5) (nomark _)))))))))))))))), ?_⟩
    refine q_asg (by walk_at "ev") fun H1 e1 => ?_
    generalize ns.getD 2 0 = sz
    obtain ⟨f0, hf0, hf0'⟩ := nat_of (z := sz) (m := 9) (by decide)
    refine q_asg (v := .int (f0 : Int)) (ev_is (by walk_at "ev") (congrArg V.int hf0)) fun H2 e2 => ?_
    obtain ⟨n, hn, ef⟩ : ∃ n : Nat, n ≤ 40 ∧ n = if (decide (V.int (sz / 9 % 8) = V.int 1)) = true then 20 else f0 := ⟨_, by split <;> omega, rfl⟩
    refine q_ifAsg (v := .int (n : Int)) (by walk_at "ev") (fun h => ?_) (fun h => ?_) fun H3 e3 => ?_
    · rw [ef, if_pos h]
      exact ev_c
    · rw [ef, h, if_neg Bool.false_ne_true]
      rfl
    have hS3 := ex_l ((e1.trans e2).trans e3) hS
    -- xs
    refine q_asg_raw (by walk_at "ev") fun H4 e4 => ?_
    refine ⟨ns.getD 0 0, n, rfl, by omega, fun X hXl hXn hXlt xa H5 nx e5 hX => ?_⟩
    have hX5 : LN H5 xa X := hX
    have hS5 := ex_l (e4.trans e5) hS3
    refine q_asgL (el_call (ea_cons (by walk_at "ev") (ea_cons (ev_var rfl) (ea_cons ev_c ea_nil))) (spl__law_digits (n := n) (m := 256) (by omega) (by decide) (by decide))) fun ya H6 ny e6 hY => ?_
    have hYl := Gf.digits_length (ns.getD 1 0) n 256
    have hYlt : ∀ y ∈ Gf.digits (ns.getD 1 0) n 256, y < 256 := Gf.digits_lt (by decide)
    generalize Gf.digits (ns.getD 1 0) n 256 = Y at hY hYl hYlt
    have hX6 := hX5.up e6
    have hY6 : LN H6 ya Y := hY
    have oX := Py.oc_of hXlt
    have oY := Py.oc_of hYlt
    clear hS hS3 hS5 ef
    -- points
    refine q_asgTL (vss := tv (X.zip Y)) (et_zR (n := n) (ea_cons (ev_var rfl) ea_nil) (by unfold tv; rw [List.length_map, List.length_zip]; omega) (by omega) (fun x => rfl) fun i us H7 e7 hu => ?_) fun pa H7 np e7 hP => ?_
    · obtain ⟨q, hq, rfl⟩ := tv_get hu
      have hi : i < X.length ∧ i < Y.length := by
        have := (List.getElem?_eq_some_iff.mp hq).1
        rw [List.length_zip] at this
        omega
      have eq : q = (Py.at0 X i, Py.at0 Y i) := by
        rw [List.getElem?_zip_eq_some] at hq
        obtain ⟨h1, h2⟩ := hq
        rw [Py.at0_get hi.1] at h1
        rw [Py.at0_get hi.2] at h2
        exact Prod.ext (Option.some.inj h1).symm (Option.some.inj h2).symm
      rw [eq]
      exact eu_tup (ea_cons (ev_op (ev_var rfl) (ev_var rfl) (rv_ixLN (sq_of (hX6.up e7)) (nat_get hi.1))) (ea_cons (ev_op (ev_var rfl) (ev_var rfl) (rv_ixLN (sq_of (hY6.up e7)) (nat_get hi.2))) ea_nil)) (by simp)
    have hX7 := hX6.up e7
    have hY7 := hY6.up e7
    have hZ : Okp (X.zip Y) := by
      refine ⟨fun q hq => ?_, by rw [List.length_zip]; omega⟩
      have := List.of_mem_zip hq
      exact ⟨hXlt _ this.1, hYlt _ this.2⟩
    have hZf : (X.zip Y).map Prod.fst = X := by
      rw [List.map_fst_zip]
      omega
    have hZl : (X.zip Y).length = n := by
      rw [List.length_zip]
      omega
    refine q_when (et_and (by walk_at "ev") fun _ => by walk_at "ev") (fun h0 H8 e8 => ?_) (fun h0 H8 e8 => ?_)
    · obtain ⟨_, h2⟩ := Bool.and_eq_true_iff.mp h0
      have n1 : 1 < n := by
        have := of_decide_eq_true h2
        omega
      obtain ⟨at_, hat, hat'⟩ := nat_of (z := sz / 360) (m := (n : Int)) (by omega)
      refine q_asg (v := .int (at_ : Int)) (ev_is (ev_op (by walk_at "ev") (ev_var rfl) (rv_mod (by omega))) (congrArg V.int hat)) fun H9 e9 => ?_
      obtain ⟨d, hd, hd'⟩ := nat_of (z := sz / 7200) (m := (n : Int) - 1) (by omega)
      obtain ⟨to, hto, hto'⟩ := nat_of (z := (at_ : Int) + 1 + sz / 7200 % ((n : Int) - 1)) (m := (n : Int)) (by omega)
      refine q_asg (v := .int (to : Int)) (ev_is (ev_op (ev_op (by walk_at "ev") (ev_op (by walk_at "ev") (by walk_at "ev") (rv_mod (by omega))) rv_I0) (ev_var rfl) (rv_mod (by omega))) (congrArg V.int hto)) fun H10 e10 => ?_
      have hne : to ≠ at_ := by
        intro z
        rw [hd, z] at hto
        have h1 : ((at_ : Int) + 1 + (d : Int)) % (n : Int) = (at_ : Int) := hto
        by_cases c : (at_ : Int) + 1 + (d : Int) < (n : Int)
        · rw [Int.emod_eq_of_lt (by omega) c] at h1
          omega
        · have h2 : ((at_ : Int) + 1 + (d : Int)) % (n : Int) = (at_ : Int) + 1 + (d : Int) - (n : Int) := by
            rw [← Int.sub_emod_right]
            exact Int.emod_eq_of_lt (by omega) (by omega)
          rw [h2] at h1
          omega
      have hY10 := hY7.up ((e8.trans e9).trans e10)
      have hX10 := hX7.up ((e8.trans e9).trans e10)
      refine q_asg (ev_op (ev_var rfl) (ev_var rfl) (rv_ixLN (sq_of hY10) (nat_get (by omega)))) fun H11 e11 => ?_
      have hY11 := hY10.up e11
      obtain ⟨wo, hwo, ew⟩ : ∃ wo : Nat, wo < 256 ∧ wo = if (decide (V.int (sz / 3600 % 2) = V.int 1)) = true then Py.at0 Y at_ else Py.at0 Y to := ⟨_, by split; exact oY _; exact oY _, rfl⟩
      refine q_ifAsg (v := .int (wo : Int)) (by walk_at "ev") (fun h => ?_) (fun h => ?_) fun H12 e12 => ?_
      · rw [ew, if_pos h]
        exact ev_op (ev_var rfl) (ev_var rfl) (rv_ixLN (sq_of hY11) (nat_get (by omega)))
      · rw [ew, h, if_neg Bool.false_ne_true]
        rfl
      have hX12 := (hX10.up e11).up e12
      have hP12 := hP.up (((e8.trans e9).trans e10).trans (e11.trans e12))
      have oxa := oX at_
      refine q_setT (j := to) (vs := [nV (Py.at0 X at_), nV wo]) hP12 (eu_tup (ea_cons (ev_op (ev_var rfl) (ev_var rfl) (rv_ixLN (sq_of hX12) (nat_get (by omega)))) (ea_cons (ev_var rfl) ea_nil)) (by simp)) (ev_var rfl) (ev_var rfl) (by unfold tv; rw [List.length_map]; omega) fun H13 H14 e13 l eH hP14 => ?_
      have est : (tv (X.zip Y)).set to [nV (Py.at0 X at_), nV wo] = tv ((X.zip Y).set to (Py.at0 X at_, wo)) := by
        unfold tv
        rw [List.map_set]
      rw [est] at hP14
      have ok2 : Okp ((X.zip Y).set to (Py.at0 X at_, wo)) := by
        refine ⟨fun q hq => ?_, by rw [List.length_set]; exact hZ.2⟩
        rcases List.mem_or_eq_of_mem_set hq with z | z
        · exact hZ.1 q z
        · rw [z]
          exact ⟨oxa, hwo⟩
      have dup : ¬ (((X.zip Y).set to (Py.at0 X at_, wo)).map Prod.fst).Nodup := by
        rw [List.map_set, hZf]
        intro nd
        have g1 : (X.set to (Py.at0 X at_))[to]? = some (Py.at0 X at_) := by
          rw [List.getElem?_set, if_pos rfl, if_pos (by omega)]
        have g2 : (X.set to (Py.at0 X at_))[at_]? = some (Py.at0 X at_) := by
          rw [List.getElem?_set, if_neg hne, Py.at0_get (by omega)]
        exact hne (nd_ix nd g1 g2)
      refine q_drop1T (et_list (ev_var rfl) hP14) fun q H15 nq e15 hq => ?_
      refine ⟨q, _, rfl, hq, ok2, fun _ H16 e16 => ⟨true, T.ex_DuplicatePoint_CairnError, fun _ ae nae => ⟨⟨rfl, rfl⟩, ?_⟩, fun q => nomatch q⟩, fun q => absurd q dup⟩
      exact s_ret (v := .bl (true && (true && !false))) (ev_andV (ev_isEr (ev_var rfl) ev_c T.is_DuplicatePoint_DuplicatePoint) fun _ => ev_andV (ev_isEt (ev_var rfl) ev_c T.iv_DuplicatePoint) fun _ => ev_notV (ev_isEr (ev_var rfl) ev_c T.is_DuplicatePoint_ZeroElement)) fun H17 e17 => k H17
    · have hP8 := hP.up e8
      refine q_asgTL (et_list (ev_var rfl) hP8) fun ga H9 ng e9 hG => ?_
      have hP9 := hP8.up e9
      refine q_asg_raw (ta := _) (by walk_at "ev") fun H10 e10 => ?_
      refine ⟨ga, _, rfl, hG.up e10, hZ, fun q => absurd (by rw [hZf]; exact hXn) q, fun _ r v ip ra H11 nr e11 hr => ?_⟩
      have hr11 : LN H11 ra r := hr
      have lr := ip.lr
      refine q_when (b := false) (et_is (et_or (et_not (et_B (ev_isiL (b := true) (ev_var rfl) hr11 ev_c (by decide +kernel)))) fun _ => et_or (et_test (ev_op (ev_lenL (ev_var rfl) (sq_of hr11)) (ev_var rfl) rv_I0)) fun _ => et_not (et_B (ev_call (ea_cons (ev_var rfl) (ea_cons (ev_lenL (ev_var rfl) (sq_of hr11)) ea_nil)) (spv__law_octets hr11 ip.orr (by rw [len_map]))))) ?_) (fun h => absurd h Bool.false_ne_true) fun _ H12 e12 => ?_
      · rw [len_map, decide_eq_false (by omega)]
        rfl
      have hr12 := hr11.up e12
      refine q_when (b := false) (et_is (b := false) (et_and (b := false) (ev_op (ev_lenL (ev_var rfl) (sq_of hr12)) ev_c rv_I0 |> et_test) fun h1 => ?_) (by simp)) (fun h => absurd h Bool.false_ne_true) fun _ H13 e13 => ?_
      · have l0 : 0 < r.length := by
          have := of_decide_eq_true h1
          rw [len_map] at this
          omega
        refine et_is (et_test (ev_op (ev_op (ev_var rfl) (ev_un ev_c ru_neg) (rv_ixL (sq_of hr12) (last_neg l0))) ev_c (rv_eq rfl))) (decide_eq_false fun z => ?_)
        have z2 := V.int.inj z
        have := (Py.tlen_last r).resolve_left (by have := ip.tr; omega)
        rw [ip.tr] at this
        omega
      have e913 := ((e10.trans e11).trans e12).trans e13
      have hr13 := hr12.up e13
      refine q_forTL (ev_var rfl) (hP9.up e913) (tv_len _) (fun i s H' => ∃ v13 v14, s = [some (.ref a), some (.int sz), some (.int (n : Int)), some (.ref xa), some (.ref ya), some (.ref pa), none, none, none, none, none, some (.ref ga), some (.ref ra), v13, v14] ∧ Ex H13 H') ?_ ?_ ?_ ?_
      · exact fun H14 e14 => ⟨none, none, rfl, e14⟩
      · rintro i s H' ⟨v13, v14, rfl, e⟩
        exact e
      · rintro i vs s H' hvs ⟨v13, v14, rfl, e⟩
        obtain ⟨⟨x, y⟩, hq, rfl⟩ := tv_get hvs
        have hm := List.mem_of_getElem? hq
        have hx : x < 256 := (hZ.1 (x, y) hm).1
        have hv := ip.val (x, y) hm
        refine ⟨_, _, rfl, _, _, rfl, rfl, ?_⟩
        refine s_when (b := false) (et_is (et_test (ev_op (ev_call (by walk_at "ev") (spv__law_value (hr13.up e) ip.orr hx)) (ev_var rfl) (rv_ne rfl))) ?_) (fun h => absurd h Bool.false_ne_true) fun _ H14 e14 => ⟨_, _, rfl, e.trans e14⟩
        rw [hv]
        simp
      · rintro s H' ⟨v13, v14, rfl, e⟩
        refine s_ret (ev_op (ev_var rfl) (ev_var rfl) (rv_eqTL (hG.up (e913.trans e)) (hP9.up (e913.trans e)))) fun H14 e14 => k H14
end
def dd_add : He.DefD := ⟨("add", none), "add", "add", defArgs s_add, defBody s_add, defScope s_add, [], []⟩
def dd_mul : He.DefD := ⟨("mul", none), "mul", "mul", defArgs s_mul, defBody s_mul, defScope s_mul, [], []⟩
def dd_inv : He.DefD := ⟨("inv", none), "inv", "inv", defArgs s_inv, defBody s_inv, defScope s_inv, [], []⟩
def dd_div : He.DefD := ⟨("div", none), "div", "div", defArgs s_div, defBody s_div, defScope s_div, [], []⟩
def dd_scaled : He.DefD := ⟨("scaled", none), "scaled", "scaled", defArgs s_scaled, defBody s_scaled, defScope s_scaled, [], []⟩
def dd_mixed : He.DefD := ⟨("mixed", none), "mixed", "mixed", defArgs s_mixed, defBody s_mixed, defScope s_mixed, [], []⟩
def dd_trim : He.DefD := ⟨("trim", none), "trim", "trim", defArgs s_trim, defBody s_trim, defScope s_trim, [], []⟩
def dd_degree : He.DefD := ⟨("degree", none), "degree", "degree", defArgs s_degree, defBody s_degree, defScope s_degree, [], []⟩
def dd_evaluate : He.DefD := ⟨("evaluate", none), "evaluate", "evaluate", defArgs s_evaluate, defBody s_evaluate, defScope s_evaluate, [], []⟩
def dd_poly_add : He.DefD := ⟨("poly_add", none), "poly_add", "poly_add", defArgs s_poly_add, defBody s_poly_add, defScope s_poly_add, [], []⟩
def dd_poly_mul : He.DefD := ⟨("poly_mul", none), "poly_mul", "poly_mul", defArgs s_poly_mul, defBody s_poly_mul, defScope s_poly_mul, [], []⟩
def dd_interpolate : He.DefD := ⟨("interpolate", none), "interpolate", "interpolate", defArgs s_interpolate, defBody s_interpolate, defScope s_interpolate, [], []⟩
def dd__law_is_integer : He.DefD := ⟨("_law_is_integer", none), "_law_is_integer", "_law_is_integer", defArgs s__law_is_integer, defBody s__law_is_integer, defScope s__law_is_integer, [], []⟩
def dd__law_cell : He.DefD := ⟨("_law_cell", none), "_law_cell", "_law_cell", defArgs s__law_cell, defBody s__law_cell, defScope s__law_cell, [], []⟩
def dd__law_mixed : He.DefD := ⟨("_law_mixed", none), "_law_mixed", "_law_mixed", defArgs s__law_mixed, defBody s__law_mixed, defScope s__law_mixed, [], []⟩
def dd__law_digits : He.DefD := ⟨("_law_digits", none), "_law_digits", "_law_digits", defArgs s__law_digits, defBody s__law_digits, defScope s__law_digits, [], []⟩
def dd__law_mul : He.DefD := ⟨("_law_mul", none), "_law_mul", "_law_mul", defArgs s__law_mul, defBody s__law_mul, defScope s__law_mul, [], []⟩
def dd__law_octets : He.DefD := ⟨("_law_octets", none), "_law_octets", "_law_octets", defArgs s__law_octets, defBody s__law_octets, defScope s__law_octets, [], []⟩
def dd__law_value : He.DefD := ⟨("_law_value", none), "_law_value", "_law_value", defArgs s__law_value, defBody s__law_value, defScope s__law_value, [], []⟩
def dd__law_xs : He.DefD := ⟨("_law_xs", none), "_law_xs", "_law_xs", defArgs s__law_xs, defBody s__law_xs, defScope s__law_xs, [], []⟩
def dd_law : He.DefD := ⟨("law", none), "law", "law", defArgs s_law, defBody s_law, defScope s_law, [], []⟩
def fn : List He.DefD := [dd_add, dd_mul, dd_inv, dd_div, dd_scaled, dd_mixed, dd_trim, dd_degree, dd_evaluate, dd_poly_add, dd_poly_mul, dd_interpolate, dd__law_is_integer, dd__law_cell, dd__law_mixed, dd__law_digits, dd__law_mul, dd__law_octets, dd__law_value, dd__law_xs, dd_law]
def fa : List He.Fa := [.glo "add", .glo "mul", .glo "inv", .glo "div", .glo "scaled", .glo "mixed", .glo "trim", .glo "degree", .glo "evaluate", .glo "poly_add", .glo "poly_mul", .glo "interpolate", .glo "_law_is_integer", .glo "_law_cell", .glo "_law_mixed", .glo "_law_digits", .glo "_law_mul", .glo "_law_octets", .glo "_law_value", .glo "_law_xs", .glo "law", .free "ValueError", .free "bool", .free "enumerate", .free "int", .free "isinstance", .free "len", .free "list", .free "max", .free "range", .free "reversed", .free "zip", .int "ORDER" 255, .glo "LOGS", .glo "POWERS", .glo "CairnError", .exc "CairnError", .glo "ZeroElement", .exc "ZeroElement", .glo "DuplicatePoint", .exc "DuplicatePoint", .exm "DuplicatePoint" "CairnError" true, .exm "ZeroElement" "CairnError" true]
def exs (K : PySem.W.Frag) : List Bool := [He.tupB K "LOGS" (Gf.logL.map fun (n : Nat) => He.Dv.int (n : Int)),
  He.tupB K "POWERS" (Gf.powL.map fun (n : Nat) => He.Dv.int (n : Int)),
  exc_b K (He.ga K "DuplicatePoint"),
  decide (PySem.W.kitOne K (.ref (He.ga K "DuplicatePoint")) (.type "ValueError") = some true),
  decide (PySem.W.kitOne K (.ref (He.ga K "DuplicatePoint")) (.ref (He.ga K "DuplicatePoint")) = some true),
  decide (PySem.W.kitOne K (.ref (He.ga K "DuplicatePoint")) (.ref (He.ga K "ZeroElement")) = some false),
  exc_b K (He.ga K "ZeroElement"),
  decide (PySem.W.kitOne K (.ref (He.ga K "ZeroElement")) (.type "ValueError") = some true),
  decide (PySem.W.kitOne K (.ref (He.ga K "ZeroElement")) (.ref (He.ga K "DuplicatePoint")) = some false),
  decide (PySem.W.kitOne K (.ref (He.ga K "ZeroElement")) (.ref (He.ga K "ZeroElement")) = some true)]
def exB (K : PySem.W.Frag) : Bool := (exs K).all id
abbrev R : PySem.W.OpenRow := PySem.W.OpenLaw.row PySem.Challenge.rw_cairn_k04_interpolation
def names : List PySem.Str := ["CairnError", "ZeroElement", "DuplicatePoint", "ORDER", "POWERS", "LOGS", "add", "mul", "inv", "div", "scaled", "mixed", "trim", "degree", "evaluate", "poly_add", "poly_mul", "interpolate", "_law_is_integer", "_law_cell", "_law_mixed", "_law_digits", "_law_mul", "_law_octets", "_law_value", "_law_xs"]
abbrev hk : PySem.W.Hook := He.hookX 5 fa fn [] [] exB
def ob (s : PySem.W.SharedT) : He.AlX := He.obsX 5 fa fn [] [] exB (HandSHeadRun.getT s)
theorem ob_eq (s : PySem.W.SharedT) : ob s = hk.obs s.abs := He.obsX_eq (HandSHeadRun.getT_eq s)
theorem run (w : World) : HandSHeadRun.RunEq R (PySem.W.view R.prog [29]) hk ob 3000 names w := by
  intro os
  kernel_rfl
theorem txt_of {w : World} {K : PySem.W.Frag} {h h2 : Heap} {mg : Str → Option Value} (X : K.In h) (G : h.Ns mainGlobals mg) (c : He.SaysX fa fn [] [] exB w h2 K) : Txt K mg :=
  ⟨(by obtain ⟨fd, F⟩ := c.t.d.def_ 0 (d := dd_add) rfl; exact ⟨fd, F⟩),
   (He.glo_ok X G (c.t.d.fact 0 (f := .glo "add") rfl)),
   (by obtain ⟨fd, F⟩ := c.t.d.def_ 0 (d := dd_add) rfl; exact F.kp),
   (by obtain ⟨fd, F⟩ := c.t.d.def_ 1 (d := dd_mul) rfl; exact ⟨fd, F⟩),
   (He.glo_ok X G (c.t.d.fact 1 (f := .glo "mul") rfl)),
   (by obtain ⟨fd, F⟩ := c.t.d.def_ 1 (d := dd_mul) rfl; exact F.kp),
   (by obtain ⟨fd, F⟩ := c.t.d.def_ 2 (d := dd_inv) rfl; exact ⟨fd, F⟩),
   (He.glo_ok X G (c.t.d.fact 2 (f := .glo "inv") rfl)),
   (by obtain ⟨fd, F⟩ := c.t.d.def_ 2 (d := dd_inv) rfl; exact F.kp),
   (by obtain ⟨fd, F⟩ := c.t.d.def_ 3 (d := dd_div) rfl; exact ⟨fd, F⟩),
   (He.glo_ok X G (c.t.d.fact 3 (f := .glo "div") rfl)),
   (by obtain ⟨fd, F⟩ := c.t.d.def_ 3 (d := dd_div) rfl; exact F.kp),
   (by obtain ⟨fd, F⟩ := c.t.d.def_ 4 (d := dd_scaled) rfl; exact ⟨fd, F⟩),
   (He.glo_ok X G (c.t.d.fact 4 (f := .glo "scaled") rfl)),
   (by obtain ⟨fd, F⟩ := c.t.d.def_ 4 (d := dd_scaled) rfl; exact F.kp),
   (by obtain ⟨fd, F⟩ := c.t.d.def_ 5 (d := dd_mixed) rfl; exact ⟨fd, F⟩),
   (He.glo_ok X G (c.t.d.fact 5 (f := .glo "mixed") rfl)),
   (by obtain ⟨fd, F⟩ := c.t.d.def_ 5 (d := dd_mixed) rfl; exact F.kp),
   (by obtain ⟨fd, F⟩ := c.t.d.def_ 6 (d := dd_trim) rfl; exact ⟨fd, F⟩),
   (He.glo_ok X G (c.t.d.fact 6 (f := .glo "trim") rfl)),
   (by obtain ⟨fd, F⟩ := c.t.d.def_ 6 (d := dd_trim) rfl; exact F.kp),
   (by obtain ⟨fd, F⟩ := c.t.d.def_ 7 (d := dd_degree) rfl; exact ⟨fd, F⟩),
   (He.glo_ok X G (c.t.d.fact 7 (f := .glo "degree") rfl)),
   (by obtain ⟨fd, F⟩ := c.t.d.def_ 7 (d := dd_degree) rfl; exact F.kp),
   (by obtain ⟨fd, F⟩ := c.t.d.def_ 8 (d := dd_evaluate) rfl; exact ⟨fd, F⟩),
   (He.glo_ok X G (c.t.d.fact 8 (f := .glo "evaluate") rfl)),
   (by obtain ⟨fd, F⟩ := c.t.d.def_ 8 (d := dd_evaluate) rfl; exact F.kp),
   (by obtain ⟨fd, F⟩ := c.t.d.def_ 9 (d := dd_poly_add) rfl; exact ⟨fd, F⟩),
   (He.glo_ok X G (c.t.d.fact 9 (f := .glo "poly_add") rfl)),
   (by obtain ⟨fd, F⟩ := c.t.d.def_ 9 (d := dd_poly_add) rfl; exact F.kp),
   (by obtain ⟨fd, F⟩ := c.t.d.def_ 10 (d := dd_poly_mul) rfl; exact ⟨fd, F⟩),
   (He.glo_ok X G (c.t.d.fact 10 (f := .glo "poly_mul") rfl)),
   (by obtain ⟨fd, F⟩ := c.t.d.def_ 10 (d := dd_poly_mul) rfl; exact F.kp),
   (by obtain ⟨fd, F⟩ := c.t.d.def_ 11 (d := dd_interpolate) rfl; exact ⟨fd, F⟩),
   (He.glo_ok X G (c.t.d.fact 11 (f := .glo "interpolate") rfl)),
   (by obtain ⟨fd, F⟩ := c.t.d.def_ 11 (d := dd_interpolate) rfl; exact F.kp),
   (by obtain ⟨fd, F⟩ := c.t.d.def_ 12 (d := dd__law_is_integer) rfl; exact ⟨fd, F⟩),
   (He.glo_ok X G (c.t.d.fact 12 (f := .glo "_law_is_integer") rfl)),
   (by obtain ⟨fd, F⟩ := c.t.d.def_ 12 (d := dd__law_is_integer) rfl; exact F.kp),
   (by obtain ⟨fd, F⟩ := c.t.d.def_ 13 (d := dd__law_cell) rfl; exact ⟨fd, F⟩),
   (He.glo_ok X G (c.t.d.fact 13 (f := .glo "_law_cell") rfl)),
   (by obtain ⟨fd, F⟩ := c.t.d.def_ 13 (d := dd__law_cell) rfl; exact F.kp),
   (by obtain ⟨fd, F⟩ := c.t.d.def_ 14 (d := dd__law_mixed) rfl; exact ⟨fd, F⟩),
   (He.glo_ok X G (c.t.d.fact 14 (f := .glo "_law_mixed") rfl)),
   (by obtain ⟨fd, F⟩ := c.t.d.def_ 14 (d := dd__law_mixed) rfl; exact F.kp),
   (by obtain ⟨fd, F⟩ := c.t.d.def_ 15 (d := dd__law_digits) rfl; exact ⟨fd, F⟩),
   (He.glo_ok X G (c.t.d.fact 15 (f := .glo "_law_digits") rfl)),
   (by obtain ⟨fd, F⟩ := c.t.d.def_ 15 (d := dd__law_digits) rfl; exact F.kp),
   (by obtain ⟨fd, F⟩ := c.t.d.def_ 16 (d := dd__law_mul) rfl; exact ⟨fd, F⟩),
   (He.glo_ok X G (c.t.d.fact 16 (f := .glo "_law_mul") rfl)),
   (by obtain ⟨fd, F⟩ := c.t.d.def_ 16 (d := dd__law_mul) rfl; exact F.kp),
   (by obtain ⟨fd, F⟩ := c.t.d.def_ 17 (d := dd__law_octets) rfl; exact ⟨fd, F⟩),
   (He.glo_ok X G (c.t.d.fact 17 (f := .glo "_law_octets") rfl)),
   (by obtain ⟨fd, F⟩ := c.t.d.def_ 17 (d := dd__law_octets) rfl; exact F.kp),
   (by obtain ⟨fd, F⟩ := c.t.d.def_ 18 (d := dd__law_value) rfl; exact ⟨fd, F⟩),
   (He.glo_ok X G (c.t.d.fact 18 (f := .glo "_law_value") rfl)),
   (by obtain ⟨fd, F⟩ := c.t.d.def_ 18 (d := dd__law_value) rfl; exact F.kp),
   (by obtain ⟨fd, F⟩ := c.t.d.def_ 19 (d := dd__law_xs) rfl; exact ⟨fd, F⟩),
   (He.glo_ok X G (c.t.d.fact 19 (f := .glo "_law_xs") rfl)),
   (by obtain ⟨fd, F⟩ := c.t.d.def_ 19 (d := dd__law_xs) rfl; exact F.kp),
   (by obtain ⟨fd, F⟩ := c.t.d.def_ 20 (d := dd_law) rfl; exact ⟨fd, F⟩),
   (He.glo_ok X G (c.t.d.fact 20 (f := .glo "law") rfl)),
   (by obtain ⟨fd, F⟩ := c.t.d.def_ 20 (d := dd_law) rfl; exact F.kp),
   (He.free_ok X G (c.t.d.fact 21 (f := .free "ValueError") rfl)),
   (He.free_ok X G (c.t.d.fact 22 (f := .free "bool") rfl)),
   (He.free_ok X G (c.t.d.fact 23 (f := .free "enumerate") rfl)),
   (He.free_ok X G (c.t.d.fact 24 (f := .free "int") rfl)),
   (He.free_ok X G (c.t.d.fact 25 (f := .free "isinstance") rfl)),
   (He.free_ok X G (c.t.d.fact 26 (f := .free "len") rfl)),
   (He.free_ok X G (c.t.d.fact 27 (f := .free "list") rfl)),
   (He.free_ok X G (c.t.d.fact 28 (f := .free "max") rfl)),
   (He.free_ok X G (c.t.d.fact 29 (f := .free "range") rfl)),
   (He.free_ok X G (c.t.d.fact 30 (f := .free "reversed") rfl)),
   (He.free_ok X G (c.t.d.fact 31 (f := .free "zip") rfl)),
   (cst_int (He.int_ok X G (c.t.d.fact 32 (f := .int "ORDER" 255) rfl))).1,
   (cst_int (He.int_ok X G (c.t.d.fact 32 (f := .int "ORDER" 255) rfl))).2,
   (He.glo_ok X G (c.t.d.fact 33 (f := .glo "LOGS") rfl)),
   rfl,
   (fun H => tup_ok (all_at c.more 0 rfl) H),
   (He.glo_ok X G (c.t.d.fact 34 (f := .glo "POWERS") rfl)),
   rfl,
   (fun H => tup_ok (all_at c.more 1 rfl) H),
   (He.glo_ok X G (c.t.d.fact 35 (f := .glo "CairnError") rfl)),
   rfl,
   (He.exc_ok (c.t.d.fact 36 (f := .exc "CairnError") rfl)).1,
   (He.exc_ok (c.t.d.fact 36 (f := .exc "CairnError") rfl)).2.1,
   (He.exc_ok (c.t.d.fact 36 (f := .exc "CairnError") rfl)).2.2.1,
   (He.exc_ok (c.t.d.fact 36 (f := .exc "CairnError") rfl)).2.2.2,
   (He.glo_ok X G (c.t.d.fact 37 (f := .glo "ZeroElement") rfl)),
   rfl,
   (He.exc_ok (c.t.d.fact 38 (f := .exc "ZeroElement") rfl)).1,
   (He.exc_ok (c.t.d.fact 38 (f := .exc "ZeroElement") rfl)).2.1,
   (He.exc_ok (c.t.d.fact 38 (f := .exc "ZeroElement") rfl)).2.2.1,
   (He.exc_ok (c.t.d.fact 38 (f := .exc "ZeroElement") rfl)).2.2.2,
   (He.glo_ok X G (c.t.d.fact 39 (f := .glo "DuplicatePoint") rfl)),
   rfl,
   (He.exc_ok (c.t.d.fact 40 (f := .exc "DuplicatePoint") rfl)).1,
   (He.exc_ok (c.t.d.fact 40 (f := .exc "DuplicatePoint") rfl)).2.1,
   (He.exc_ok (c.t.d.fact 40 (f := .exc "DuplicatePoint") rfl)).2.2.1,
   (He.exc_ok (c.t.d.fact 40 (f := .exc "DuplicatePoint") rfl)).2.2.2,
   (exc_bk (all_at c.more 2 rfl)),
   (of_decide_eq_true (all_at c.more 3 rfl)),
   (of_decide_eq_true (all_at c.more 4 rfl)),
   (of_decide_eq_true (all_at c.more 5 rfl)),
   (He.exm_ok (c.t.d.fact 41 (f := .exm "DuplicatePoint" "CairnError" true) rfl)),
   (exc_bk (all_at c.more 6 rfl)),
   (of_decide_eq_true (all_at c.more 7 rfl)),
   (of_decide_eq_true (all_at c.more 8 rfl)),
   (of_decide_eq_true (all_at c.more 9 rfl)),
   (He.exm_ok (c.t.d.fact 42 (f := .exm "ZeroElement" "CairnError" true) rfl))⟩
end K04
open PySem PySem.W PySem.Calls PyProof.Rows
theorem PySem.Challenge.cw_cairn_k04_interpolation_holds : PySem.Challenge.rw_cairn_k04_interpolation.Holds := by
  w_on; o_law
  refine HandSHeadRun.head_any (r := OpenLaw.row PySem.Challenge.rw_cairn_k04_interpolation) (q := view (OpenLaw.row PySem.Challenge.rw_cairn_k04_interpolation).prog [29]) (H := K04.hk) (ob := K04.ob) (M := 3000) (loose := K04.names) (d := HandSHeadRun.topDef (OpenLaw.row PySem.Challenge.rw_cairn_k04_interpolation).prog 29) (kwd := []) K04.ob_eq
    (by kernel_rfl) (fun s => by kernel_rfl) K04.run (by kernel_rfl) (by kernel_rfl) (by kernel_rfl) (by rfl) (by first | assumption | decide +kernel) (by decide +kernel) ⟨rfl, rfl, rfl, rfl, rfl, by decide +kernel⟩ ?hw ?hc
  case hw => w_witness2
  case hc =>
    refine L2.walk_ofE (l := PySem.Challenge.rw_cairn_k04_interpolation) (n := 63) (k := 5) (x := "script") (CX := L2.CX0) rfl (by decide) (by kernel_rfl) ⟨rfl, by decide, by decide⟩ ?F (fun _ _ _ _ z => z)
    intro w mg fa h Y G hmg0
    obtain ⟨K, KX, c⟩ := Y
    have hmg : mg ("law" : PySem.Str) = some (.ref fa) := by
      have e : (HandSHeadRun.topDef (OpenLaw.row PySem.Challenge.rw_cairn_k04_interpolation).prog 29).name = ("law" : PySem.Str) := by kernel_rfl
      rw [← e]
      exact hmg0
    have T := K04.txt_of KX G c
    have e : He.ga K "law" = fa := Value.ref.inj (Option.some.inj (T.g_law.symm.trans hmg))
    subst e
    obtain ⟨fd, F⟩ := T.F_law
    refine ⟨K, fd, K04.sp_law K, KX, fun s u => ?_, fun H a ns hl _ hS => ⟨a, ns, rfl, hS, hl, fun _ => rfl⟩, fun base KB GB => ?_⟩
    · exact L2.FunD.bindsA (ps := ["script"]) F (fun _ _ _ _ _ _ us hl => match us, hl with | [_], _ => rfl) s [u] rfl
    · obtain ⟨fd2, G2, _, F2⟩ := K04.ok_law (P := (PySem.Challenge.rw_cairn_k04_interpolation).prog) (w := w) (base := base) T
      obtain rfl : fd2 = fd := Mx.fnat_eq F2 F
      exact G2
