import PyProof.Rows.All
import Wide.All
import OpenK.AllK
import Wide.FinOn
import Lean
import HandS.ForMost
import HandS.ForExc
import HandS.Evl
import HandS.IsInst
import HandS.ExcIs
import HandS.NoneIn
import HandS.Defaults
import HandS.Head0
import HandS.Head1
import HandS.Head2
import HandS.HeadEnd
import HandS.HeadHook1
import HandS.HeadHook2
import HandS.HeadHook3
import HandS.HeadHook4
import HandS.Walk
import HandS.Rev
import HandS.Zip
import HandS.Conv
import HandS.RevRange
import HandS.FStr
import HandS.RaiseMore
import HandS.Style
import HandS.TupAny
import PyProof.SumWalkG
import PyProof.WalksMore
import PyProof.WalkInts
import HandS.SortKw
import KE.DataMinMax
import PySem.Challenge.RW_cairn_k13_sealed_sectors

set_option Elab.async false
namespace Gf
/-- the powers and the exponents as one number each -/
def pn : Nat := 70160881166704368827218703435136616750530459438269794890424969378298545675077208731798828898087927652446353395360628748027273188182808436399538186061104243134188885576122562338679313492324190829158544377810568631194580132524405266702234305646236648896994794467054525044798919765581988418950285252905306116225263236585714808161311289784028762024137133735135393922581566890382566480334369299400480864790538739986285574563168380416343369614948461817839620668187777978661530364712890858126432457562886306102556561631759900551331094983229723298224611133722330829711659991602983068895685602467964643306841827719562658305
def ln : Nat := 22135253156888987530748098150270024343632497605293634117281264061560962248099620766229961468867162294233796152347975563017024165690400661622462404646302566225833645086064538892198543335321514950294300187779610338557442029018619797274438901674641748676613670242915365385819254959901651105240253464034662486586186382979728982817772067067513442677601938078891989292316012868233806586592927239821351197800766822366321181463280924672822998103315976779850880337712374790938628529953751181886374687897611504386983350015558142994211516619836411558782076806704747441947939324473761869443721989389604670425385080942269787340800
def pw (k : Nat) : Nat := (pn >>> (8 * k)) % 256
def lg (a : Nat) : Nat := (ln >>> (8 * a)) % 256
def gm (a b : Nat) : Nat := if a = 0 then 0 else if b = 0 then 0 else pw ((lg a + lg b) % 255)
def xt (a : Nat) : Nat := if a * 2 > 255 then (a * 2) ^^^ 285 else a * 2
/-- one turn of the product by shifts: product, a, b -/
def ps (s : Nat × Nat × Nat) : Nat × Nat × Nat := (if s.2.2 % 2 = 0 then s.1 else s.1 ^^^ s.2.1, xt s.2.1, s.2.2 / 2)
def pn8 : Nat → Nat × Nat × Nat → Nat × Nat × Nat
  | 0, s => s
  | n + 1, s => ps (pn8 n s)
def pm (a b : Nat) : Nat := (pn8 8 (0, a, b)).1
def alln (f : Nat → Bool) : Nat → Bool
  | 0 => true
  | n + 1 => f n && alln f n
theorem alln_at {f : Nat → Bool} : ∀ {n : Nat}, alln f n = true → ∀ i, i < n → f i = true
  | 0, _, i, h => absurd h (Nat.not_lt_zero _)
  | n + 1, e, i, h => by
    unfold alln at e
    have e2 := Bool.and_eq_true_iff.mp e
    by_cases q : i = n
    · rw [q]; exact e2.1
    · exact alln_at e2.2 i (by omega)
theorem tab1 : alln (fun a => Nat.beq (pw (lg a)) a || Nat.beq a 0) 256 = true := by decide +kernel
theorem tab2 : alln (fun k => Nat.beq (lg (pw k)) k && Nat.ble 1 (pw k) && Nat.ble (pw k) 255) 255 = true := by decide +kernel
theorem tab3 : alln (fun a => Nat.ble (lg a) 254) 256 = true := by decide +kernel
theorem tab5 : alln (fun a => Nat.blt (xt a) 256) 256 = true := by decide +kernel
theorem pw_lg {a : Nat} (h : a < 256) (h0 : ¬ a = 0) : pw (lg a) = a := by
  have e := alln_at tab1 a h
  rcases Bool.or_eq_true_iff.mp e with e | e
  · exact Nat.eq_of_beq_eq_true e
  · exact absurd (Nat.eq_of_beq_eq_true e) h0
theorem tab2_at {k : Nat} (h : k < 255) : lg (pw k) = k ∧ 1 ≤ pw k ∧ pw k ≤ 255 := by
  have e := alln_at tab2 k h
  obtain ⟨e1, e2⟩ := Bool.and_eq_true_iff.mp e
  obtain ⟨e3, e4⟩ := Bool.and_eq_true_iff.mp e1
  exact ⟨Nat.eq_of_beq_eq_true e3, Nat.le_of_ble_eq_true e4, Nat.le_of_ble_eq_true e2⟩
theorem lg_lt {a : Nat} (h : a < 256) : lg a < 255 := by
  have e := Nat.le_of_ble_eq_true (alln_at tab3 a h)
  omega
theorem xt_lt {a : Nat} (h : a < 256) : xt a < 256 := Nat.le_of_ble_eq_true (alln_at tab5 a h)
theorem pn8_lt {a b : Nat} (h : a < 256) : ∀ n, (pn8 n (0, a, b)).2.1 < 256
  | 0 => h
  | n + 1 => xt_lt (pn8_lt h n)
theorem gm_zero {a b : Nat} (h : a = 0 ∨ b = 0) : gm a b = 0 := by
  unfold gm
  rcases h with h | h
  · rw [if_pos h]
  · by_cases q : a = 0
    · rw [if_pos q]
    · rw [if_neg q, if_pos h]
theorem gm_pos {a b : Nat} (h : ¬ a = 0) (h2 : ¬ b = 0) : gm a b = pw ((lg a + lg b) % 255) := by
  unfold gm
  rw [if_neg h, if_neg h2]
theorem pw_lt (k : Nat) : pw k < 256 := Nat.mod_lt _ (by decide)
theorem gm_lt (a b : Nat) : gm a b < 256 := by
  unfold gm
  split
  · decide
  · split
    · decide
    · exact pw_lt _
def gi (a : Nat) : Nat := pw ((255 - lg a) % 255)
theorem gi_lt (a : Nat) : gi a < 256 := pw_lt _
theorem gi_ne (a : Nat) : ¬ gi a = 0 := by
  have := (tab2_at (Nat.mod_lt (255 - lg a) (by decide : 0 < 255))).2.1
  unfold gi
  omega
theorem lg_gi (a : Nat) : lg (gi a) = (255 - lg a) % 255 := (tab2_at (Nat.mod_lt (255 - lg a) (by decide : 0 < 255))).1
theorem pw_zero : pw 0 = 1 := by decide +kernel
theorem gm_gi {a : Nat} (h : a < 256) (h0 : ¬ a = 0) : gm a (gi a) = 1 := by
  rw [gm_pos h0 (gi_ne a), lg_gi]
  have := lg_lt h
  have e : (lg a + (255 - lg a) % 255) % 255 = 0 := by omega
  rw [e, pw_zero]
theorem gm_comm (a b : Nat) : gm a b = gm b a := by
  by_cases h : a = 0
  · rw [gm_zero (.inl h), gm_zero (.inr h)]
  · by_cases h2 : b = 0
    · rw [gm_zero (.inr h2), gm_zero (.inl h2)]
    · rw [gm_pos h h2, gm_pos h2 h, Nat.add_comm]
theorem gm_ne {a b : Nat} (h : ¬ a = 0) (h2 : ¬ b = 0) : ¬ gm a b = 0 := by
  rw [gm_pos h h2]
  have := (tab2_at (Nat.mod_lt (lg a + lg b) (by decide : 0 < 255))).2.1
  omega
theorem lg_gm {a b : Nat} (h : ¬ a = 0) (h2 : ¬ b = 0) : lg (gm a b) = (lg a + lg b) % 255 := by
  rw [gm_pos h h2]
  exact (tab2_at (Nat.mod_lt (lg a + lg b) (by decide : 0 < 255))).1
theorem gm_assoc (a b c : Nat) : gm (gm a b) c = gm a (gm b c) := by
  by_cases h : a = 0
  · rw [gm_zero (.inl h), gm_zero (.inl rfl), gm_zero (.inl h)]
  · by_cases h2 : b = 0
    · rw [gm_zero (.inr h2), gm_zero (.inl rfl), gm_zero (a := b) (.inl h2), gm_zero (.inr rfl)]
    · by_cases h3 : c = 0
      · rw [gm_zero (.inr h3), gm_zero (a := b) (.inr h3), gm_zero (.inr rfl)]
      · rw [gm_pos (gm_ne h h2) h3, gm_pos h (gm_ne h2 h3), lg_gm h h2, lg_gm h2 h3]
        have e : ((lg a + lg b) % 255 + lg c) % 255 = (lg a + (lg b + lg c) % 255) % 255 := by omega
        rw [e]
theorem lg_one : lg 1 = 0 := by decide +kernel
theorem gm_one {a : Nat} (h : a < 256) : gm a 1 = a := by
  by_cases h0 : a = 0
  · rw [gm_zero (.inl h0), h0]
  · rw [gm_pos h0 (by decide), lg_one, Nat.add_zero, Nat.mod_eq_of_lt (lg_lt h), pw_lg h h0]
theorem tab6 : alln (fun k => Nat.beq (pw ((k + 1) % 255)) (xt (pw k))) 255 = true := by decide +kernel
theorem tab7 : alln (fun n => alln (fun b => Nat.beq (b % 2 ^ (n + 1)) (if (b / 2 ^ n) % 2 = 0 then b % 2 ^ n else (b % 2 ^ n) ^^^ 2 ^ n)) 256) 8 = true := by decide +kernel
theorem tab8 : alln (fun n => Nat.beq (pw n) (2 ^ n)) 8 = true := by decide +kernel
theorem xor_lt {x y : Nat} (hx : x < 256) (hy : y < 256) : x ^^^ y < 256 := Nat.xor_lt_two_pow (n := 8) hx hy
theorem xt_xor {x y : Nat} (hx : x < 256) (hy : y < 256) : xt (x ^^^ y) = xt x ^^^ xt y := by
  have e : ∀ {z : Nat}, z < 256 → xt z = (z * 2) ^^^ (if z / 128 = 0 then 0 else 285) := fun {z} hz => by
    unfold xt
    by_cases h : z * 2 > 255
    · rw [if_pos h, if_neg (by omega)]
    · rw [if_neg h, if_pos (by omega), Nat.xor_zero]
  have d : (x ^^^ y) / 128 = x / 128 ^^^ y / 128 := by
    have q := Nat.shiftRight_xor_distrib (a := x) (b := y) (i := 7)
    rw [Nat.shiftRight_eq_div_pow, Nat.shiftRight_eq_div_pow, Nat.shiftRight_eq_div_pow] at q
    exact q
  have m : (x ^^^ y) * 2 = x * 2 ^^^ y * 2 := by
    have q := Nat.shiftLeft_xor_distrib (a := x) (b := y) (i := 1)
    rw [Nat.shiftLeft_eq, Nat.shiftLeft_eq, Nat.shiftLeft_eq] at q
    exact q
  rw [e (xor_lt hx hy), e hx, e hy, d, m]
  have h1 : x / 128 = 0 ∨ x / 128 = 1 := by omega
  have h2 : y / 128 = 0 ∨ y / 128 = 1 := by omega
  have ac : ∀ p q r s : Nat, (p ^^^ r) ^^^ (q ^^^ s) = (p ^^^ q) ^^^ (r ^^^ s) := fun p q r s => by
    rw [Nat.xor_assoc, Nat.xor_assoc, ← Nat.xor_assoc r, Nat.xor_comm r q, Nat.xor_assoc q]
  rw [ac]
  rcases h1 with h1 | h1 <;> rcases h2 with h2 | h2 <;> rw [h1, h2] <;> rfl
def xtn : Nat → Nat → Nat
  | 0, a => a
  | n + 1, a => xt (xtn n a)
theorem xtn_lt {a : Nat} (h : a < 256) : ∀ n, xtn n a < 256
  | 0 => h
  | n + 1 => xt_lt (xtn_lt h n)
theorem xtn_xor {x y : Nat} (hx : x < 256) (hy : y < 256) : ∀ n, xtn n (x ^^^ y) = xtn n x ^^^ xtn n y
  | 0 => rfl
  | n + 1 => by
    show xt (xtn n (x ^^^ y)) = xt (xtn n x) ^^^ xt (xtn n y)
    rw [xtn_xor hx hy n, xt_xor (xtn_lt hx n) (xtn_lt hy n)]
theorem xtn_zero : ∀ n, xtn n 0 = 0
  | 0 => rfl
  | n + 1 => by
    show xt (xtn n 0) = 0
    rw [xtn_zero n]
    rfl
theorem xtn_pw {j : Nat} (h : j < 255) : ∀ n, xtn n (pw j) = pw ((j + n) % 255)
  | 0 => by
    show pw j = _
    rw [Nat.add_zero, Nat.mod_eq_of_lt h]
  | n + 1 => by
    show xt (xtn n (pw j)) = _
    rw [xtn_pw h n]
    have e := Nat.eq_of_beq_eq_true (alln_at tab6 ((j + n) % 255) (Nat.mod_lt _ (by decide)))
    rw [← e]
    congr 1
    omega
theorem gm_xtn {a b : Nat} (h : ¬ a = 0) (hb : b < 256) : gm a b = xtn (lg a) b := by
  by_cases h0 : b = 0
  · rw [gm_zero (.inr h0), h0, xtn_zero]
  · have e : xtn (lg a) b = xtn (lg a) (pw (lg b)) := by rw [pw_lg hb h0]
    rw [e, xtn_pw (lg_lt hb), gm_pos h h0, Nat.add_comm]
/-- the product distributes over the sum -/
theorem gm_xor {a b c : Nat} (hb : b < 256) (hc : c < 256) : gm a (b ^^^ c) = gm a b ^^^ gm a c := by
  by_cases h : a = 0
  · rw [gm_zero (.inl h), gm_zero (.inl h), gm_zero (.inl h)]
    rfl
  · rw [gm_xtn h (xor_lt hb hc), gm_xtn h hb, gm_xtn h hc, xtn_xor hb hc]
theorem xor_gm {a b c : Nat} (hb : b < 256) (hc : c < 256) : gm (b ^^^ c) a = gm b a ^^^ gm c a := by
  rw [gm_comm, gm_xor hb hc, gm_comm a b, gm_comm a c]
theorem gm_pow {a n : Nat} (ha : a < 256) (hn : n < 8) : gm a (2 ^ n) = xtn n a := by
  have e := Nat.eq_of_beq_eq_true (alln_at tab8 n hn)
  have l := (tab2_at (show n < 255 by omega)).1
  rw [gm_comm, ← e, gm_xtn (by have := (tab2_at (show n < 255 by omega)).2.1; omega) ha, l]
theorem pn8_eq {a b : Nat} (ha : a < 256) (hb : b < 256) : ∀ n, n ≤ 8 → pn8 n (0, a, b) = (gm a (b % 2 ^ n), xtn n a, b / 2 ^ n)
  | 0, _ => by
    show (0, a, b) = _
    rw [Nat.pow_zero, Nat.mod_one, Nat.div_one, gm_zero (.inr rfl)]
    rfl
  | n + 1, h => by
    show ps (pn8 n (0, a, b)) = _
    rw [pn8_eq ha hb n (by omega)]
    have e := Nat.eq_of_beq_eq_true (alln_at (alln_at tab7 n (by omega)) b hb)
    have d : b / 2 ^ n / 2 = b / 2 ^ (n + 1) := by rw [Nat.div_div_eq_div_mul, Nat.pow_succ]
    have l1 : b % 2 ^ n < 256 := Nat.lt_of_le_of_lt (Nat.mod_le _ _) hb
    have l2 : 2 ^ n < 256 := Nat.pow_lt_pow_right (by decide) (show n < 8 by omega)
    show (if b / 2 ^ n % 2 = 0 then gm a (b % 2 ^ n) else gm a (b % 2 ^ n) ^^^ xtn n a, xt (xtn n a), b / 2 ^ n / 2) = _
    rw [d, e]
    by_cases q : b / 2 ^ n % 2 = 0
    · rw [if_pos q, if_pos q]
      rfl
    · rw [if_neg q, if_neg q, gm_xor l1 l2, gm_pow ha (by omega)]
      rfl
theorem pm_eq {a b : Nat} (ha : a < 256) (hb : b < 256) : (pn8 8 (0, a, b)).1 = gm a b := by
  rw [pn8_eq ha hb 8 (Nat.le_refl _)]
  show gm a (b % 256) = gm a b
  rw [Nat.mod_eq_of_lt hb]
def gp (a n : Nat) : Nat := if n = 0 then 1 else if a = 0 then 0 else pw (lg a * n % 255)
theorem gp_none (a : Nat) : gp a 0 = 1 := if_pos rfl
theorem gp_zero {n : Nat} (h : ¬ n = 0) : gp 0 n = 0 := by
  unfold gp
  rw [if_neg h, if_pos rfl]
theorem gp_pos {a n : Nat} (h : ¬ a = 0) (h2 : ¬ n = 0) : gp a n = pw (lg a * n % 255) := by
  unfold gp
  rw [if_neg h2, if_neg h]
theorem gp_lt (a n : Nat) : gp a n < 256 := by
  unfold gp
  split
  · decide
  · split
    · decide
    · exact pw_lt _
theorem gp_succ {a : Nat} (ha : a < 256) (n : Nat) : gp a (n + 1) = gm (gp a n) a := by
  by_cases h : a = 0
  · subst h
    rw [gp_zero (by omega), gm_zero (.inr rfl)]
  · by_cases hn : n = 0
    · subst hn
      rw [gp_pos h (by omega), gp_none, gm_comm, gm_one ha, Nat.zero_add, Nat.mul_one, Nat.mod_eq_of_lt (lg_lt ha), pw_lg ha h]
    · have e := tab2_at (Nat.mod_lt (lg a * n) (by decide : 0 < 255))
      rw [gp_pos h (by omega), gp_pos h hn, gm_pos (by omega) h, e.1, Nat.mul_add, Nat.mul_one]
      congr 1
      omega
def mixed (c k : Int) : Int := ((c * 48271 + k * 69621 + 11) % 2147483647 * 16807 + (k + 3) * 40692 + 5) % 2147483563 / 5
def mixd (c : Int) (m j : Nat) : Nat := (mixed c (j : Int) % (m : Int)).toNat
theorem mixd_eq {m : Nat} (h : 0 < m) (c : Int) (j : Nat) : ((mixd c m j : Nat) : Int) = mixed c (j : Int) % (m : Int) := by
  unfold mixd
  exact Int.toNat_of_nonneg (Int.emod_nonneg _ (by omega))
def divn (m : Nat) : Nat → Int → Int
  | 0, c => c
  | n + 1, c => divn m n c / (m : Int)
def digd (c : Int) (m j : Nat) : Nat := (divn m j c % (m : Int)).toNat
theorem digd_eq {m : Nat} (h : 0 < m) (c : Int) (j : Nat) : ((digd c m j : Nat) : Int) = divn m j c % (m : Int) := by
  unfold digd
  exact Int.toNat_of_nonneg (Int.emod_nonneg _ (by omega))
def digits (c : Int) (n m : Nat) : List Nat := if c < 10 ^ 18 then (List.range n).map fun j => mixd c m j else (List.range n).map fun j => digd c m j
theorem digits_low {c : Int} {n m : Nat} (h : c < 10 ^ 18) : digits c n m = (List.range n).map fun j => mixd c m j := if_pos h
theorem digits_high {c : Int} {n m : Nat} (h : ¬ c < 10 ^ 18) : digits c n m = (List.range n).map fun j => digd c m j := if_neg h
theorem digits_length (c : Int) (n m : Nat) : (digits c n m).length = n := by
  unfold digits
  split <;> simp
theorem digits_lt {c : Int} {n m : Nat} (h : 0 < m) : ∀ d ∈ digits c n m, d < m := by
  intro d hd
  have key : ∀ z : Int, (z % (m : Int)).toNat < m := fun z => by
    have h1 := Int.emod_nonneg z (show (m : Int) ≠ 0 by omega)
    have h2 := Int.emod_lt_of_pos z (show (0 : Int) < (m : Int) by omega)
    omega
  unfold digits at hd
  split at hd
  · obtain ⟨j, _, rfl⟩ := List.mem_map.mp hd
    exact key _
  · obtain ⟨j, _, rfl⟩ := List.mem_map.mp hd
    exact key _
def powL : List Nat := (List.range 255).map pw
def logL : List Nat := (List.range 256).map lg
theorem range_at {f : Nat → Nat} {n k : Nat} (h : k < n) : ((List.range n).map f)[k]? = some (f k) := by
  rw [List.getElem?_map, List.getElem?_range h]
  rfl
end Gf

set_option Elab.async false
set_option linter.all false
set_option maxRecDepth 100000
set_option maxHeartbeats 4000000
namespace Mx
open PySem PySem.Spec PyProof.Rows L2 Evl
/-! ### more of what evaluates to what -/
section
variable {K : PySem.W.Frag} {σ : L2.St} {H H' : Hp} {ta tb te tx : TE} {t u : TT} {x y z v : V} {r : R2}
theorem rv_xor {a b : Nat} : RV (rI0 fun i j => .int (Builtin.bitXor i j)) (.int (a : Int)) (.int (b : Int)) H (.int ((a ^^^ b : Nat) : Int)) := fun H1 _ Q q => ⟨_, _, rfl, rfl, by
  show Q (.int (Builtin.bitXor (a : Int) (b : Int))) H1
  rw [Bits.bitXor_pp (Int.natCast_nonneg a) (Int.natCast_nonneg b), Int.toNat_natCast, Int.toNat_natCast]
  exact q H1 (Ex.refl H1)⟩
theorem rv_addN {a b : Nat} : RV (rI0 fun i j => .int (i + j)) (.int (a : Int)) (.int (b : Int)) H (.int ((a + b : Nat) : Int)) := fun H1 _ Q q => ⟨_, _, rfl, rfl, by
  show Q (.int ((a : Int) + (b : Int))) H1
  rw [← Int.natCast_add]
  exact q H1 (Ex.refl H1)⟩
theorem rv_mod {i j : Int} (h : 0 < j) : RV (rI (fun _ j => 0 < j) fun i j => .int (i % j)) (.int i) (.int j) H (.int (i % j)) := rv_I h
theorem rv_fdiv {i j : Int} (h : 0 < j ∧ j < 1073741824) : RV (rI CDiv fun i j => .int (i / j)) (.int i) (.int j) H (.int (i / j)) := rv_I h
theorem ev_int {i : Int} (h : Ev ta σ H (.int i)) : Ev (tCB (fun xs H Q => (∃ i, xs = [.int i] ∧ Q (.int i) H) ∨ ∃ k, xs = [.bl k] ∧ Q (.int (if k then 1 else 0)) H) (tCons ta tNil)) σ H (.int i) := fun H1 e Q q =>
  h H1 e _ fun H2 e2 => Or.inl ⟨i, rfl, q H2 e2⟩
theorem ev_intB {k : Bool} (h : Ev ta σ H (.bl k)) : Ev (tCB (fun xs H Q => (∃ i, xs = [.int i] ∧ Q (.int i) H) ∨ ∃ k, xs = [.bl k] ∧ Q (.int (if k then 1 else 0)) H) (tCons ta tNil)) σ H (.int (if k then 1 else 0)) := fun H1 e Q q =>
  h H1 e _ fun H2 e2 => Or.inr ⟨k, rfl, q H2 e2⟩
theorem ev_lenL {p : Addr} {xs : List V} (ha : Ev ta σ H (.ref p)) (h : SqL K H p xs) : Ev (tCB (fun xs H Q => ∃ p ys, xs = [.ref p] ∧ (SqL K H p ys ∨ SqT K H p ys) ∧ Q (.int ys.length) H) (tCons ta tNil)) σ H (.int (xs.length : Int)) := ev_len ha h
theorem ev_lenT {p : Addr} {xs : List V} (ha : Ev ta σ H (.ref p)) (h : SqT K H p xs) : Ev (tCB (fun xs H Q => ∃ p ys, xs = [.ref p] ∧ (SqL K H p ys ∨ SqT K H p ys) ∧ Q (.int ys.length) H) (tCons ta tNil)) σ H (.int (xs.length : Int)) := fun H1 e Q q =>
  ha H1 e _ fun H2 e2 => ⟨p, xs, rfl, Or.inr (ex_t (e.trans e2) h), q H2 e2⟩
theorem ev_isi {x c : V} {t u : Value} {b : Bool} (ha : Ev ta σ H x) (hb : Ev tb σ H c) (hc : ClsV c u) (ht : ∀ H1, Ex H H1 → TyX K H1 x t) (h : PySem.W.kitOne K t u = some b) :
    Ev (tCB (rIsi K) (tCons ta (tCons tb tNil))) σ H (.bl b) := fun H1 e Q q =>
  ha H1 e _ fun H2 e2 => hb H2 (e.trans e2) _ fun H3 e3 => ⟨x, c, t, u, b, rfl, hc, ht H3 ((e.trans e2).trans e3), h, q H3 (e2.trans e3)⟩
theorem ev_isiI {n : String} {i : Int} {b : Bool} (ha : Ev ta σ H (.int i)) (hb : Ev tb σ H (.ty n)) (h : kitB "int" n = some b) : Ev (tCB (rIsi K) (tCons ta (tCons tb tNil))) σ H (.bl b) :=
  ev_isi ha hb (ClsV.ty n) (fun _ _ => .base (.int i)) (kit_ty h)
theorem et_truI {i : Int} (h : Ev te σ H (.int i)) : EvT (fun σ H Q => te σ H fun x H1 => ∃ k, TruV K x H1 k ∧ Q k H1) σ H (i != 0) := fun H1 e Q q =>
  h H1 e _ fun H2 e2 => ⟨_, rfl, q H2 e2⟩
theorem given_yes {p : Prop} {X : Cx} {st : List Stmt} {t : TS} (h : p → PSs X st t) : PSs X st (fun D σ H => p ∧ t D σ H) := ⟨fun pins s σ H D I h' => (h h'.1).run pins s σ H D I h'.2⟩
end
/-- a number from nought as a value -/
abbrev nV (n : Nat) : V := .int (n : Int)
/-- a list from outside, changed by nobody meanwhile -/
theorem pow_at {k : Nat} (h : k < 255) : (Gf.powL.map nV)[k]? = some (.int ((Gf.pw k : Nat) : Int)) := by
  unfold Gf.powL
  rw [List.getElem?_map, Gf.range_at h]
  rfl
theorem log_at {k : Nat} (h : k < 256) : (Gf.logL.map nV)[k]? = some (.int ((Gf.lg k : Nat) : Int)) := by
  unfold Gf.logL
  rw [List.getElem?_map, Gf.range_at h]
  rfl
section
variable {K : PySem.W.Frag} {σ : L2.St} {H H' : Hp} {ta tb te tx : TE} {t u : TT} {x y z v : V} {r : R2}
theorem rv_ixTN {p : Addr} {xs : List V} {k : Nat} (h : SqT K H p xs) (ha : xs[k]? = some v) : RV (rIxT K) (.ref p) (.int (k : Int)) H v := rv_ixT h (atI_nat ha)
theorem rv_ixLN {p : Addr} {xs : List V} {k : Nat} (h : SqL K H p xs) (ha : xs[k]? = some v) : RV (rIxL K) (.ref p) (.int (k : Int)) H v := rv_ixL h (atI_nat ha)
theorem rv_modN {a b : Nat} (h : 0 < b) : RV (rI (fun _ j => 0 < j) fun i j => .int (i % j)) (.int (a : Int)) (.int (b : Int)) H (.int ((a % b : Nat) : Int)) := by
  have e : (.int ((a % b : Nat) : Int) : V) = .int ((a : Int) % (b : Int)) := by rw [Int.natCast_emod]
  rw [e]
  exact rv_I (by omega)
theorem rv_subN {a b : Nat} (h : b ≤ a) : RV (rI0 fun i j => .int (i - j)) (.int (a : Int)) (.int (b : Int)) H (.int ((a - b : Nat) : Int)) := by
  have e : (.int ((a - b : Nat) : Int) : V) = .int ((a : Int) - (b : Int)) := by rw [Int.natCast_sub h]
  rw [e]
  exact rv_I0
theorem rv_mulN {a b : Nat} (h : a < 18446744073709551616) : RV (rI CMul fun i j => .int (i * j)) (.int (a : Int)) (.int (b : Int)) H (.int ((a * b : Nat) : Int)) := by
  have e : (.int ((a * b : Nat) : Int) : V) = .int ((a : Int) * (b : Int)) := by rw [Int.natCast_mul]
  rw [e]
  exact rv_I (Or.inl ⟨by omega, by omega⟩)
theorem rv_mulL {i j : Int} (h : -(2 ^ 64) < j ∧ j < 2 ^ 64) : RV (rI CMul fun i j => .int (i * j)) (.int i) (.int j) H (.int (i * j)) := rv_I (Or.inr h)
theorem rv_and1 {b : Nat} : RV (rI0 fun i j => .int (Builtin.bitAnd i j)) (.int (b : Int)) (.int 1) H (.int ((b % 2 : Nat) : Int)) := by
  have e : (.int ((b % 2 : Nat) : Int) : V) = .int (Builtin.bitAnd (b : Int) 1) := by rw [bitAnd_m1, Int.natCast_emod] <;> rfl
  rw [e]
  exact rv_I0
theorem rv_shr1 {b : Nat} : RV (rI (fun _ j => 0 ≤ j) fun i j => .int (i / 2 ^ j.toNat)) (.int (b : Int)) (.int 1) H (.int ((b / 2 : Nat) : Int)) := by
  have e : (.int ((b / 2 : Nat) : Int) : V) = .int ((b : Int) / 2 ^ (1 : Int).toNat) := by rw [Int.natCast_ediv] <;> rfl
  rw [e]
  exact rv_I (C := fun _ j => 0 ≤ j) (by decide)
theorem rv_shl1 {a : Nat} (h : a < 18446744073709551616) : RV (rI CPow fun i j => .int (i * 2 ^ j.toNat)) (.int (a : Int)) (.int 1) H (.int ((a * 2 : Nat) : Int)) := by
  have e : (.int ((a * 2 : Nat) : Int) : V) = .int ((a : Int) * 2 ^ (1 : Int).toNat) := by rw [Int.natCast_mul] <;> rfl
  rw [e]
  exact rv_I (C := CPow) ⟨by decide, by decide, by omega⟩
end
section
variable {K : PySem.W.Frag} {σ : L2.St} {H H' : Hp} {ta tb te tx : TE} {t u : TT} {x y z v : V} {r : R2} {D : Ends} {tu tw tz : TS} {g : TG}
theorem ev_isE {Z a : Addr} {c : V} {cv : Value} {b : Bool} (ha : Ev ta σ H (.ref a)) (hb : Ev tb σ H c) (hc : ∀ w, RelV c w → w = cv) (h : PySem.W.kitOne K (.ref Z) cv = some b) :
    Ev (tCB (rIsE K Z a) (tCons ta (tCons tb tNil))) σ H (.bl b) := fun H1 e Q q =>
  ha H1 e _ fun H2 e2 => hb H2 (e.trans e2) _ fun H3 e3 => ⟨c, cv, b, rfl, hc, h, q H3 (e2.trans e3)⟩
theorem ev_isEr {Z a C : Addr} {b : Bool} (ha : Ev ta σ H (.ref a)) (hb : Ev tb σ H (.ref C)) (h : PySem.W.kitOne K (.ref Z) (.ref C) = some b) :
    Ev (tCB (rIsE K Z a) (tCons ta (tCons tb tNil))) σ H (.bl b) := ev_isE ha hb (fun _ e => e) h
theorem ev_isEt {Z a : Addr} {n : String} {b : Bool} (ha : Ev ta σ H (.ref a)) (hb : Ev tb σ H (.ty n)) (h : PySem.W.kitOne K (.ref Z) (.type n) = some b) :
    Ev (tCB (rIsE K Z a) (tCons ta (tCons tb tNil))) σ H (.bl b) := ev_isE ha hb (fun _ e => e) h
theorem s_unlL {n : Nat} {tg : TGs} {xs : List V} (h : EvL te σ H xs) (hl : xs.length = n) (k : ∀ p H1, H p = none → Ex H H1 → H1 p = some (.lst xs) → tg xs σ H1 D.nx) : tAsg te (gUnl K n tg) D σ H :=
  h H (Ex.refl H) _ fun p H1 np e hp => ⟨p, xs, rfl, sq_of hp, hl, k p H1 np e hp⟩
theorem q_unlL {n : Nat} {tg : TGs} {xs : List V} (h : EvL te σ H xs) (hl : xs.length = n) (k : ∀ p H1, H p = none → Ex H H1 → H1 p = some (.lst xs) → tg xs σ H1 (tz D)) : tSeq (tAsg te (gUnl K n tg)) tz D σ H := s_unlL (D := { D with nx := tz D }) h hl k
end
/-! ### lists of tuples that are written, and a loop over them -/
section
variable {K : PySem.W.Frag} {σ : L2.St} {H H' : Hp} {ta tb te tx : TE} {t u : TT} {x y z v : V} {r : R2} {D : Ends} {tu tw tz : TS} {g : TG}
def TupsAt (H : Hp) (rs : List Addr) (vss : List (List V)) : Prop := Paired (fun r vs => H r = some (.tup vs)) rs vss
theorem TupsAt.mono {H H' : Hp} (e : Ex H H') : ∀ {rs : List Addr} {vss : List (List V)}, TupsAt H rs vss → TupsAt H' rs vss
  | _, _, .nil => .nil
  | _, _, .cons h t => .cons (e _ _ h) (TupsAt.mono e t)
theorem TupsAt.get {H : Hp} : ∀ {rs : List Addr} {vss : List (List V)} {i : Nat} {x : V}, TupsAt H rs vss → (rs.map V.ref)[i]? = some x → ∃ r vs, x = .ref r ∧ vss[i]? = some vs ∧ H r = some (.tup vs)
  | _, _, _, _, .nil, e => by simp at e
  | _, _, 0, x, .cons h t, e => by
    simp at e
    exact ⟨_, _, e.symm, rfl, h⟩
  | _, _, i + 1, x, .cons h t, e => by
    have e2 := TupsAt.get (i := i) (x := x) t (by simpa using e)
    obtain ⟨r, vs, h1, h2, h3⟩ := e2
    exact ⟨r, vs, h1, by simpa using h2, h3⟩
theorem TupsAt.len {H : Hp} {rs : List Addr} {vss : List (List V)} (h : TupsAt H rs vss) : rs.length = vss.length := Paired.length h
def EvAT (ta : TA) (σ : L2.St) (H : Hp) (vss : List (List V)) : Prop := ∀ H1, Ex H H1 → ∀ Q : List V → Hp → Prop, (∀ rs H2, Ex H1 H2 → TupsAt H2 rs vss → Q (rs.map V.ref) H2) → ta σ H1 Q
theorem eat_nil : EvAT tNil σ H [] := fun H1 _ _ q => q [] H1 (Ex.refl H1) .nil
theorem eat_cons {tr : TA} {vs : List V} {vss : List (List V)} (h : EvU te σ H vs) (hr : EvAT tr σ H vss) : EvAT (tCons te tr) σ H (vs :: vss) := fun H1 e _ q =>
  h H1 e _ fun p H2 _ e2 hp => hr H2 (e.trans e2) _ fun rs H3 e3 ht => q (p :: rs) H3 (e2.trans e3) (.cons (e3 _ _ hp) ht)
/-- for a, b in [(..), (..)] where the turns leave what stood as it was -/
theorem s_forLT {ta : TA} {n : Nat} {tg : TGs} {vss : List (List V)} (h : EvAT ta σ H vss) (hz : vss.length ≤ 1000) (hn : ∀ vs ∈ vss, vs.length = n) (Pv : Nat → L2.St → Prop) (h0 : Pv 0 σ)
    (hs : ∀ i vs σ' H' (N : L2.St → Hp → Prop), vss[i]? = some vs → Pv i σ' → Ex H H' → (∀ σ3 H3, Pv (i + 1) σ3 → Ex H' H3 → N σ3 H3) → tg vs σ' H' fun σ2 H2 => tu { D with nx := N, ct := N, bk := D.nx } σ2 H2)
    (hd : ∀ σ' H', Pv vss.length σ' → Ex H H' → D.nx σ' H') : tFor (iList K (tLst ta)) (gTup K n tg) tu D σ H :=
  h H (Ex.refl H) _ fun rs H1 e1 ht => ⟨sz_of (by rw [List.length_map, ht.len]; omega), fun p np =>
    have e2 : Ex H1 (upd H1 p (.lst (rs.map V.ref))) := Ex.new np
    ⟨p, rfl, ⟨_, sq_of upd_same⟩, for_list (K := K) (a := p) (xs := rs.map V.ref) (fun i σ' H' => Pv i σ' ∧ Ex (upd H1 p (.lst (rs.map V.ref))) H') ⟨h0, Ex.refl _⟩ (fun i σ' H' _ q => sq_of (q.2 _ _ upd_same))
      (fun i x σ' H' hi q => by
        obtain ⟨a, vs, rfl, hv, ha⟩ := (ht.mono (e2.trans q.2)).get hi
        refine ⟨a, vs, rfl, st_of ha, hn vs (List.mem_of_getElem? hv), ?_⟩
        exact hs i vs σ' H' _ hv q.1 ((e1.trans e2).trans q.2) fun σ3 H3 p3 e3 => ⟨p3, q.2.trans e3⟩)
      (fun σ' H' q => hd σ' H' (by rw [List.length_map, ht.len] at q; exact q.1) ((e1.trans e2).trans q.2))⟩⟩
theorem q_forLT {ta : TA} {n : Nat} {tg : TGs} {vss : List (List V)} (h : EvAT ta σ H vss) (hz : vss.length ≤ 1000) (hn : ∀ vs ∈ vss, vs.length = n) (Pv : Nat → L2.St → Prop) (h0 : Pv 0 σ)
    (hs : ∀ i vs σ' H' (N : L2.St → Hp → Prop), vss[i]? = some vs → Pv i σ' → Ex H H' → (∀ σ3 H3, Pv (i + 1) σ3 → Ex H' H3 → N σ3 H3) → tg vs σ' H' fun σ2 H2 => tu { D with nx := N, ct := N, bk := tz D } σ2 H2)
    (hd : ∀ σ' H', Pv vss.length σ' → Ex H H' → tz D σ' H') : tSeq (tFor (iList K (tLst ta)) (gTup K n tg) tu) tz D σ H := s_forLT (D := { D with nx := tz D }) h hz hn Pv h0 hs hd
theorem rv_fdivN {a b : Nat} (h : 0 < b ∧ b < 1073741824) : RV (rI CDiv fun i j => .int (i / j)) (.int (a : Int)) (.int (b : Int)) H (.int ((a / b : Nat) : Int)) := by
  have e : (.int ((a / b : Nat) : Int) : V) = .int ((a : Int) / (b : Int)) := by rw [Int.natCast_ediv]
  rw [e]
  exact rv_I (C := CDiv) ⟨by omega, by omega⟩
theorem dec_ne {a b : Int} (h : a = b) : (!decide (V.int a = V.int b)) = false := by rw [h]; simp
end
/-! ### facts of the top -/
def cst (mg : Str → Option Value) (x : Str) : Value := (mg x).getD .none
theorem cst_int {mg : Str → Option Value} {x : Str} {i : Int} (h : ∃ t, mg x = some (.int i t)) : mg x = some (cst mg x) ∧ RelV (.int i) (cst mg x) := by
  obtain ⟨t, e⟩ := h
  have e2 : cst mg x = .int i t := by
    unfold cst
    rw [e] <;> rfl
  rw [e2]
  exact ⟨e, t, rfl⟩
theorem tup_ok {K : PySem.W.Frag} {x : Str} {l : List Nat} (h : He.tupB K x (l.map fun (n : Nat) => He.Dv.int (n : Int)) = true) (H : Hp) : SqT K H (He.ga K x) (l.map nV) := by
  have z := He.tupB_ok h H
  rw [List.map_map] at z
  exact z
def exc_b (K : PySem.W.Frag) (D : Addr) : Bool := He.eqO (PySem.W.findIn K (.ref D) "__getattribute__") (some (some (.builtin "BaseException.__getattribute__"))) && (He.eqO (PySem.W.findIn K (.ref D) "__getattr__") (some none) &&
  (decide (PySem.W.subIn K (.ref D) (.type "BaseException") = some true) && (PySem.W.hasDictIn K D && (He.eqO (PySem.W.findIn K (.ref D) "__class__") (some (some (.builtin "object.__class__"))) &&
  (He.eqO (PySem.W.specialIn K (.builtin "object.__class__") "__get__") (some (some (.builtin "getset_descriptor.__get__"))) && (decide (PySem.W.takesIn K (.builtin "object.__class__") = some true) && decide (PySem.W.mroIn K D (.type "object") = some true)))))))
theorem exc_bk {K : PySem.W.Frag} {D : Addr} (h : exc_b K D = true) : ExcC K D := by
  obtain ⟨h1, h⟩ := He.ba h
  obtain ⟨h2, h⟩ := He.ba h
  obtain ⟨h3, h⟩ := He.ba h
  obtain ⟨h4, h⟩ := He.ba h
  obtain ⟨h5, h⟩ := He.ba h
  obtain ⟨h6, h⟩ := He.ba h
  obtain ⟨h7, h8⟩ := He.ba h
  exact ⟨He.eqO_ok h1, He.eqO_ok h2, of_decide_eq_true h3, h4, He.eqO_ok h5, He.eqO_ok h6, of_decide_eq_true h7, of_decide_eq_true h8⟩
theorem all_at {l : List Bool} (h : l.all id = true) (i : Nat) {b : Bool} (e : l[i]? = some b) : b = true := List.all_eq_true.mp h b (List.mem_of_getElem? e)
/-- the def of that name stands there -/
abbrev FnA (K : PySem.W.Frag) (x : Str) (st : Stmt) (fd : FuncData) : Prop := FunD K x x (defArgs st) (defBody st) (defScope st) [] [] (He.ga K x) fd
def FnAt (K : PySem.W.Frag) (x : Str) (st : Stmt) : Prop := ∃ fd, FnA K x st fd
theorem fnat_eq {K : PySem.W.Frag} {x : Str} {st : Stmt} {fd fd2 : FuncData} (F : FnA K x st fd) (F2 : FnA K x st fd2) : fd = fd2 := by
  obtain ⟨oc, od, dV, kV, doc, pm, an, cdv, ct, osl, _, lk, _⟩ := F.ex
  obtain ⟨oc2, od2, dV2, kV2, doc2, pm2, an2, cdv2, ct2, osl2, _, lk2, _⟩ := F2.ex
  rw [lk] at lk2
  have e := Option.some.inj lk2
  injection e with e1 e2 e3 e4
  injection e3
/-- a def at a global's name keeps its promise and takes its arguments by place -/
def Okf (P : Program) (w : World) (K : PySem.W.Frag) (mg : Str → Option Value) (base : Heap) (CX : CXT) (k : Nat) (x : Str) (st : Stmt) (ps : List Str) (sp : Sp) : Prop :=
  ∃ fd, FnOk P w K mg base CX k (He.ga K x) fd ps sp ∧ Binds K fd ps [] ∧ FnA K x st fd
end Mx

set_option Elab.async false
set_option linter.all false
namespace Py
open Gf
/-- the item at a place, 0 beyond -/
abbrev at0 (p : List Nat) (k : Nat) : Nat := p.getD k 0
def Oc (p : List Nat) : Prop := ∀ k, at0 p k < 256
theorem at0_get {p : List Nat} {k : Nat} (h : k < p.length) : p[k]? = some (at0 p k) := by
  unfold at0
  rw [List.getD_eq_getElem?_getD, List.getElem?_eq_getElem h] <;> rfl
theorem at0_none {p : List Nat} {k : Nat} (h : p.length ≤ k) : at0 p k = 0 := by
  unfold at0
  rw [List.getD_eq_getElem?_getD, List.getElem?_eq_none h] <;> rfl
theorem at0_of {p : List Nat} {k v : Nat} (h : p[k]? = some v) : at0 p k = v := by
  unfold at0
  rw [List.getD_eq_getElem?_getD, h] <;> rfl
theorem oc_of {p : List Nat} (h : ∀ c ∈ p, c < 256) : Oc p := fun k => by
  by_cases q : k < p.length
  · exact h _ (List.mem_of_getElem? (at0_get q))
  · rw [at0_none (by omega)]
    decide
theorem Oc.mem {p : List Nat} (h : Oc p) : ∀ c ∈ p, c < 256 := fun c hc => by
  obtain ⟨k, hk, e⟩ := List.mem_iff_getElem.mp hc
  have := h k
  rw [at0_of (List.getElem?_eq_getElem hk), e] at this
  exact this
theorem oc_nil : Oc [] := fun k => by
  rw [at0_none (Nat.zero_le _)]
  decide
theorem Oc.append {p q : List Nat} (h : Oc p) (h2 : Oc q) : Oc (p ++ q) := oc_of fun c hc => by
  rcases List.mem_append.mp hc with z | z
  · exact h.mem c z
  · exact h2.mem c z
theorem Oc.take {p : List Nat} (h : Oc p) (n : Nat) : Oc (p.take n) := oc_of fun c hc => h.mem c (List.mem_of_mem_take hc)
theorem oc_zeros (n : Nat) : Oc (List.replicate n 0) := oc_of fun c hc => by
  rw [List.eq_of_mem_replicate hc]
  decide
theorem oc_map {f : Nat → Nat} (h : ∀ k, f k < 256) (n : Nat) : Oc ((List.range n).map f) := oc_of fun c hc => by
  obtain ⟨j, _, e⟩ := List.mem_map.mp hc
  rw [← e]
  exact h j
theorem at0_map {f : Nat → Nat} {n k : Nat} : at0 ((List.range n).map f) k = if k < n then f k else 0 := by
  by_cases h : k < n
  · rw [if_pos h, at0_of (Gf.range_at h)]
  · rw [if_neg h, at0_none (by simpa using h)]
/-- two lists of one length that agree at every place -/
theorem ext0 {p q : List Nat} (hl : p.length = q.length) (h : ∀ k, k < p.length → at0 p k = at0 q k) : p = q := by
  refine List.ext_getElem? fun k => ?_
  by_cases hk : k < p.length
  · rw [at0_get hk, at0_get (hl ▸ hk), h k hk]
  · rw [List.getElem?_eq_none (by omega), List.getElem?_eq_none (by omega)]
theorem self_map (p : List Nat) : p = (List.range p.length).map (at0 p) := ext0 (by simp) fun k hk => by rw [at0_map, if_pos hk]
/-! ### the length without the zeros at the end -/
def tlen : List Nat → Nat
  | [] => 0
  | c :: p => if tlen p = 0 then (if c = 0 then 0 else 1) else tlen p + 1
def trim (p : List Nat) : List Nat := p.take (tlen p)
theorem tlen_le : ∀ p, tlen p ≤ p.length
  | [] => Nat.le_refl _
  | c :: p => by
    have := tlen_le p
    unfold tlen
    split
    · split
      · exact Nat.zero_le _
      · simp
    · simp
      omega
theorem tlen_zero : ∀ (p : List Nat) (k : Nat), tlen p ≤ k → at0 p k = 0
  | [], k, _ => at0_none (Nat.zero_le _)
  | c :: p, k, h => by
    unfold tlen at h
    by_cases q : tlen p = 0
    · rw [if_pos q] at h
      cases k with
      | zero =>
        by_cases z : c = 0
        · exact z
        · rw [if_neg z] at h
          omega
      | succ k => exact tlen_zero p k (by omega)
    · rw [if_neg q] at h
      cases k with
      | zero => omega
      | succ k => exact tlen_zero p k (by omega)
theorem tlen_last : ∀ p : List Nat, tlen p = 0 ∨ ¬ at0 p (tlen p - 1) = 0
  | [] => .inl rfl
  | c :: p => by
    by_cases q : tlen p = 0
    · by_cases z : c = 0
      · exact .inl (by unfold tlen; rw [if_pos q, if_pos z])
      · refine .inr ?_
        have e : tlen (c :: p) = 1 := by
          unfold tlen
          rw [if_pos q, if_neg z]
        rw [e]
        exact z
    · refine .inr ?_
      have e : tlen (c :: p) = tlen p + 1 := by
        show (if tlen p = 0 then _ else _) = _
        rw [if_neg q]
      rw [e]
      have h := (tlen_last p).resolve_left q
      have e2 : tlen p + 1 - 1 = (tlen p - 1) + 1 := by omega
      rw [e2]
      exact h
theorem tlen_eq {p : List Nat} {m : Nat} (h : ∀ k, m ≤ k → at0 p k = 0) (h2 : m = 0 ∨ ¬ at0 p (m - 1) = 0) : tlen p = m := by
  have a : tlen p ≤ m := by
    rcases tlen_last p with q | q
    · omega
    · by_cases z : tlen p ≤ m
      · exact z
      · exact absurd (h _ (by omega)) q
  have b : m ≤ tlen p := by
    rcases h2 with q | q
    · omega
    · by_cases z : m ≤ tlen p
      · exact z
      · exact absurd (tlen_zero p _ (by omega)) q
  omega
theorem trim_length (p : List Nat) : (trim p).length = tlen p := by
  unfold trim
  rw [List.length_take]
  have := tlen_le p
  omega
/-! ### the value at a place -/
def horner (x : Nat) : List Nat → Nat
  | [] => 0
  | c :: p => gm (horner x p) x ^^^ c
theorem horner_lt {x : Nat} : ∀ {p : List Nat}, Oc p → horner x p < 256
  | [], _ => show (0 : Nat) < 256 by decide
  | c :: p, h => xor_lt (gm_lt _ _) (h 0)
theorem Oc.tail {c : Nat} {p : List Nat} (h : Oc (c :: p)) : Oc p := fun k => h (k + 1)
theorem Oc.drop {p : List Nat} (h : Oc p) (n : Nat) : Oc (p.drop n) := oc_of fun c hc => h.mem c (List.mem_of_mem_drop hc)
def vstep (x : Nat) (s : Nat × Nat) (c : Nat) : Nat × Nat := (s.1 ^^^ gm c s.2, gm s.2 x)
theorem vfold {x : Nat} (hx : x < 256) : ∀ (p : List Nat) (s : Nat × Nat), Oc p → s.2 < 256 → (p.foldl (vstep x) s).1 = s.1 ^^^ gm s.2 (horner x p)
  | [], s, _, _ => by
    show s.1 = s.1 ^^^ gm s.2 0
    rw [gm_zero (.inr rfl), Nat.xor_zero]
  | c :: p, s, h, hs => by
    show (p.foldl (vstep x) (vstep x s c)).1 = _
    rw [vfold hx p _ h.tail (gm_lt _ _)]
    show (s.1 ^^^ gm c s.2) ^^^ gm (gm s.2 x) (horner x p) = s.1 ^^^ gm s.2 (gm (horner x p) x ^^^ c)
    rw [gm_xor (b := gm (horner x p) x) (c := c) (gm_lt _ _) (h 0), gm_assoc, gm_comm x, gm_comm c, Nat.xor_assoc, Nat.xor_comm (gm s.2 c)]
theorem vfold_eq {x : Nat} (hx : x < 256) {p : List Nat} (h : Oc p) : (p.foldl (vstep x) (0, 1)).1 = horner x p := by
  rw [vfold hx p _ h (by decide)]
  show 0 ^^^ gm 1 (horner x p) = _
  rw [Nat.zero_xor, gm_comm, gm_one (horner_lt h)]
theorem vfold_lt {x : Nat} : ∀ (p : List Nat) (s : Nat × Nat), s.1 < 256 → s.2 < 256 → (p.foldl (vstep x) s).1 < 256 ∧ (p.foldl (vstep x) s).2 < 256
  | [], s, h1, h2 => ⟨h1, h2⟩
  | c :: p, s, h1, h2 => vfold_lt p _ (xor_lt h1 (gm_lt _ _)) (gm_lt _ _)
/-! ### sums and products -/
def mx (a b : Nat) : Nat := if b > a then b else a
def sumL (p q : List Nat) : List Nat := (List.range (mx p.length q.length)).map fun k => at0 p k ^^^ at0 q k
def acc (p q : List Nat) : Nat → Nat → Nat
  | 0, _ => 0
  | j + 1, k => acc p q j k ^^^ (if j ≤ k then gm (at0 p j) (at0 q (k - j)) else 0)
theorem acc_lt (p q : List Nat) : ∀ j k, acc p q j k < 256
  | 0, _ => show (0 : Nat) < 256 by decide
  | j + 1, k => by
    unfold acc
    refine xor_lt (acc_lt p q j k) ?_
    split
    · exact gm_lt _ _
    · decide
def prodL (p q : List Nat) : List Nat := (List.range (p.length + q.length)).map (acc p q p.length)
theorem set_map {f : Nat → Nat} {n k v : Nat} : ((List.range n).map f).set k v = (List.range n).map fun t => if t = k then v else f t := by
  refine List.ext_getElem? fun t => ?_
  rw [List.getElem?_set, List.length_map, List.length_range, List.getElem?_map, List.getElem?_map]
  by_cases h : t < n
  · rw [List.getElem?_range h]
    by_cases q : k = t
    · subst q
      rw [if_pos rfl, if_pos h]
      simp
    · rw [if_neg q]
      simp [show ¬ t = k from fun z => q z.symm]
  · rw [List.getElem?_eq_none (l := List.range n) (by simpa using h)]
    by_cases q : k = t
    · subst q
      rw [if_pos rfl, if_neg h]
      rfl
    · rw [if_neg q]
      rfl
theorem slice_map {f : Nat → Nat} {n a w : Nat} {ys : List Nat} (hy : ys.length = w) (h : a + w ≤ n) :
    ((List.range n).map f).take a ++ ys ++ ((List.range n).map f).drop (a + w) = (List.range n).map fun t => if a ≤ t ∧ t < a + w then at0 ys (t - a) else f t := by
  refine ext0 (by simp; omega) fun t ht => ?_
  have hn : t < n := by
    simp at ht
    omega
  rw [at0_map, if_pos hn]
  by_cases h1 : t < a
  · rw [if_neg (by omega)]
    refine at0_of ?_
    rw [List.append_assoc, List.getElem?_append_left (by simp; omega), List.getElem?_take_of_lt h1]
    exact Gf.range_at hn
  · by_cases h2 : t < a + w
    · rw [if_pos (by omega)]
      refine at0_of ?_
      rw [List.getElem?_append_left (by simp; omega), List.getElem?_append_right (by simp; omega)]
      have e : t - ((List.range n).map f |>.take a).length = t - a := by simp; omega
      rw [e]
      exact at0_get (by omega)
    · rw [if_neg (by omega)]
      refine at0_of ?_
      rw [List.getElem?_append_right (by simp; omega), List.getElem?_drop]
      have e : a + w + (t - (((List.range n).map f |>.take a) ++ ys).length) = t := by simp; omega
      rw [e]
      exact Gf.range_at hn
/-! ### the product's sum, turned round -/
def xs (f : Nat → Nat) : Nat → Nat
  | 0 => 0
  | n + 1 => xs f n ^^^ f n
theorem acc_xs (p q : List Nat) (k : Nat) : ∀ n, acc p q n k = xs (fun j => if j ≤ k then gm (at0 p j) (at0 q (k - j)) else 0) n
  | 0 => rfl
  | n + 1 => by
    show acc p q n k ^^^ _ = xs _ n ^^^ _
    rw [acc_xs p q k n]
theorem xs_more {f : Nat → Nat} {n : Nat} (h : ∀ j, n ≤ j → f j = 0) : ∀ d, xs f (n + d) = xs f n
  | 0 => rfl
  | d + 1 => by
    show xs f (n + d) ^^^ f (n + d) = _
    rw [xs_more h d, h _ (by omega), Nat.xor_zero]
theorem xs_congr {f g : Nat → Nat} : ∀ {n : Nat}, (∀ j, j < n → f j = g j) → xs f n = xs g n
  | 0, _ => rfl
  | n + 1, h => by
    show xs f n ^^^ f n = xs g n ^^^ g n
    rw [xs_congr fun j hj => h j (by omega), h n (by omega)]
theorem xs_front (f : Nat → Nat) : ∀ n, xs f (n + 1) = f 0 ^^^ xs (fun j => f (j + 1)) n
  | 0 => by
    show 0 ^^^ f 0 = f 0 ^^^ 0
    rw [Nat.zero_xor, Nat.xor_zero]
  | n + 1 => by
    show xs f (n + 1) ^^^ f (n + 1) = f 0 ^^^ (xs (fun j => f (j + 1)) n ^^^ f (n + 1))
    rw [xs_front f n, Nat.xor_assoc]
theorem xs_rev : ∀ (n : Nat) (f : Nat → Nat), xs (fun j => f (n - j)) (n + 1) = xs f (n + 1)
  | 0, _ => rfl
  | n + 1, f => by
    show xs (fun j => f (n + 1 - j)) (n + 1) ^^^ f (n + 1 - (n + 1)) = _
    rw [Nat.sub_self, xs_front f (n + 1), ← xs_rev n fun j => f (j + 1), Nat.xor_comm]
    congr 1
    exact xs_congr fun j hj => by
      have e : n + 1 - j = n - j + 1 := by omega
      rw [e]
theorem acc_full (p q : List Nat) (k : Nat) : acc p q p.length k = xs (fun j => gm (at0 p j) (at0 q (k - j))) (k + 1) := by
  rw [acc_xs]
  have e : xs (fun j => gm (at0 p j) (at0 q (k - j))) (k + 1) = xs (fun j => if j ≤ k then gm (at0 p j) (at0 q (k - j)) else 0) (k + 1) := xs_congr fun j hj => by rw [if_pos (by omega)]
  rw [e]
  by_cases h : p.length ≤ k + 1
  · have z : k + 1 = p.length + (k + 1 - p.length) := by omega
    rw [z]
    refine (xs_more (fun j hj => ?_) _).symm
    rw [at0_none hj, gm_zero (.inl rfl)]
    split <;> rfl
  · have z : p.length = k + 1 + (p.length - (k + 1)) := by omega
    rw [z]
    refine xs_more (fun j hj => ?_) _
    rw [if_neg (by omega)]
theorem acc_comm (p q : List Nat) (k : Nat) : acc p q p.length k = acc q p q.length k := by
  rw [acc_full, acc_full, ← xs_rev]
  exact xs_congr fun j hj => by
    have e : k - (k - j) = j := by omega
    rw [e, gm_comm]
theorem prod_comm (p q : List Nat) : prodL p q = prodL q p := by
  unfold prodL
  rw [Nat.add_comm p.length]
  exact List.map_congr_left fun k _ => acc_comm p q k
theorem oc_trim {p : List Nat} (h : Oc p) : Oc (trim p) := h.take _
theorem oc_sum {p q : List Nat} (h : Oc p) (h2 : Oc q) : Oc (sumL p q) := oc_map (fun k => xor_lt (h k) (h2 k)) _
theorem oc_prod (p q : List Nat) : Oc (prodL p q) := oc_map (fun k => acc_lt p q _ k) _
end Py

set_option Elab.async false
set_option linter.all false
set_option maxRecDepth 100000
set_option maxHeartbeats 4000000
namespace Mx
open PySem PySem.Spec PyProof.Rows L2 Evl
section
variable {X : Cx}
theorem op_mul_bb : OpR X (binaryOp .Mult) (fun x y H Q => ∃ a b : Bool, x = .bl a ∧ y = .bl b ∧ Q (.int (b2i a * b2i b)) H) := by
  intro pins s σ H x y v u Q I rx ry h
  obtain ⟨a, b, rfl, rfl, q⟩ := h
  cases rx
  cases ry
  exact mul_bool ⟨.int (b2i a * b2i b), H, I.tok _, ⟨_, rfl⟩, q⟩
theorem op_mul_bi : OpR X (binaryOp .Mult) (fun x y H Q => ∃ (a : Bool) (b : Int), x = .bl a ∧ y = .int b ∧ Q (.int (b2i a * b)) H) := by
  intro pins s σ H x y v u Q I rx ry h
  obtain ⟨a, b, rfl, rfl, q⟩ := h
  cases rx
  obtain ⟨t, rfl⟩ := ry
  exact PySem.IntBool.mul_bool_int ⟨.int (b2i a * b), H, I.tok _, ⟨_, rfl⟩, q⟩
section
variable {K : PySem.W.Frag}
/-! the rules that name the written part, with its name given: within a comprehension's block the context is another one, the part is not -/
theorem pt_truthK {a : Expr} {ta : TE} (h : X.K = K) (ha : PE X a ta) (he : ∀ whole, isTrue a X.env whole = (do let v ← whole; standAt a.pos; holding [v] (truthy v))) :
    PT X a (fun σ H Q => ta σ H fun x H' => ∃ k, TruV K x H' k ∧ Q k H') := h ▸ pt_truth ha he
theorem pg_tupK {es : List Expr} {k : Nat} {t : TGs} {n : Nat} {pos : Pos} (hK : X.K = K) (hc : X.calm = true) (h : PGs X es t)
    (hn : (assignEach es X.env).length = n := by rfl) (hst : (assignEach es X.env).findIdx? (·.1) = none := by rfl) : PG X (.Tuple es k pos) (gTup K n t) := hK ▸ pg_tup hc h hn hst
theorem ix_tupK (h : X.K = K) : IxR X (rIxT K) := h ▸ ix_tup
theorem ix_listK (h : X.K = K) : IxR X (rIxL K) := h ▸ ix_list
theorem sl_listK (h : X.K = K) : SlR X (rSlL K) := h ▸ sl_list
theorem sl_tupK (h : X.K = K) : SlR X (rSlT K) := h ▸ sl_tup
theorem call_isiK' (h : X.K = K) : CallR X (.builtin "isinstance") (rIsi K) := h ▸ call_isi
theorem call_lenK (h : X.K = K) : CallR X (.builtin "len") (fun xs H Q => ∃ p ys, xs = [.ref p] ∧ (SqL K H p ys ∨ SqT K H p ys) ∧ Q (.int ys.length) H) := h ▸ call_len_seq
theorem call_list_ofK (h : X.K = K) : CallR X (.type "list") (fun xs H Q => ∃ p ys, xs = [.ref p] ∧ (SqL K H p ys ∨ SqT K H p ys) ∧ ∀ l, H l = none → Q (.ref l) (upd H l (.lst ys))) := h ▸ call_list_of
theorem op_eqDK (h : X.K = K) (hu : X.A.units + 64 < cLine) : OpR X (compareOp .Eq) (rEqD K) := h ▸ op_eqD hu
theorem op_neDK (h : X.K = K) (hu : X.A.units + 64 < cLine) : OpR X (compareOp .NotEq) (rNeD K) := h ▸ op_neD hu
end
/-- o[lo:hi] = another list, within the bounds -/
def gSetSl (to : TE) (tl th : TO) : TG := fun v σ H Q => to σ H fun o H1 => tl σ H1 fun l H2 => th σ H2 fun u H3 => ∃ (p b : Addr) (xs ys : List V) (a c : Int), o = .ref p ∧ v = .ref b ∧ l = some a ∧ u = some c ∧
  H3 p = some (.lst xs) ∧ H3 b = some (.lst ys) ∧ p ≠ b ∧ 0 ≤ a ∧ a ≤ c ∧ c ≤ xs.length ∧ xs.length + ys.length ≤ sizeLine ∧ Q σ (upd H3 p (.lst (xs.take a.toNat ++ ys ++ xs.drop c.toNat)))
theorem pg_setSl {o : Expr} {lo hi : Option Expr} {to : TE} {tl th : TO} {p2 pos : Pos} (ho : PE X o to) (hl : PO X lo tl) (hu : PO X hi th)
    (ha : ∀ v, assign (.Subscript o (.Slice lo hi none p2) pos) X.env v = (do
      let ov ← holding [v] (eval o X.env)
      let iv ← holding [v, ov] (eval (.Slice lo hi none p2) X.env)
      standAt pos
      holding [v, ov, iv] (setItem ov iv v)
      release [iv, v, ov] []) := by intro _; rfl) : PG X (.Subscript o (.Slice lo hi none p2) pos) (gSetSl to tl th) := by
  refine ⟨fun pins s σ H v u Q I r h => ?_⟩
  rw [ha]
  refine wpAny_bind (wpAny_holding (thn (ho.run pins s σ H _ I h) fun ov s1 ⟨x, H1, I1, r1, q1⟩ => ?_))
  refine wpAny_bind (wpAny_holding ?_)
  refine wpAny_Slice (thn (hl.run pins s1 σ H1 _ I1 q1) fun vl s2 ⟨l, H2, I2, pl, q2⟩ => thn (hu.run pins s2 σ H2 _ I2 q2) fun vu s3 ⟨w, H3, I3, pu, q3⟩ => ?_)
  rw [evalPart_none]
  refine wpAny_pure ?_
  have I4 : Inv X pins σ H3 { s3 with heap := s3.heap.push { cls := .type "slice", data := .fields #[vl, vu, .none] } } := I3.kept (t' := s3.toks) fun b ob q => Heap.get?_push_of_some _ q
  obtain ⟨p, b, xs, ys, a, c, rfl, rfl, rfl, rfl, hp, hb, hne, h0, hac, hc, hz, q4⟩ := q3
  cases r1
  cases r
  cases pl with
  | int i t =>
    cases pu with
    | int j t2 =>
      refine wpAny_bind (wpAny_standAt (wpAny_bind (wpAny_holding (set_slice I4 hp hb hne (Heap.IsSliceOf.new ..) ⟨t, rfl⟩ ⟨t2, rfl⟩ h0 hac hc hz fun s' I' => ?_))))
      exact wpAny_release ⟨σ, _, I', q4⟩
end
/-! ### more of what evaluates to what: lists -/
section
variable {K : PySem.W.Frag} {σ : L2.St} {H H' : Hp} {ta tb te tx : TE} {t u : TT} {x y z v : V} {r : R2} {xs ys zs : List V} {p q : Addr}
theorem rv_bb {a b : Bool} : RV (fun x y H Q => ∃ a b : Bool, x = .bl a ∧ y = .bl b ∧ Q (.int (b2i a * b2i b)) H) (.bl a) (.bl b) H (.int (b2i a * b2i b)) := fun H1 _ _ q => ⟨a, b, rfl, rfl, q H1 (Ex.refl H1)⟩
theorem rv_bi {a : Bool} {b : Int} : RV (fun x y H Q => ∃ (a : Bool) (b : Int), x = .bl a ∧ y = .int b ∧ Q (.int (b2i a * b)) H) (.bl a) (.int b) H (.int (b2i a * b)) := fun H1 _ _ q => ⟨a, b, rfl, rfl, q H1 (Ex.refl H1)⟩
/-- list(a list) -/
theorem el_listL (ha : Ev ta σ H (.ref p)) (h : SqL K H p xs) : EvL (tCB (fun xs H Q => ∃ p ys, xs = [.ref p] ∧ (SqL K H p ys ∨ SqT K H p ys) ∧ ∀ l, H l = none → Q (.ref l) (upd H l (.lst ys))) (tCons ta tNil)) σ H xs := el_list ha h
theorem el_listT (ha : Ev ta σ H (.ref p)) (h : SqT K H p xs) : EvL (tCB (fun xs H Q => ∃ p ys, xs = [.ref p] ∧ (SqL K H p ys ∨ SqT K H p ys) ∧ ∀ l, H l = none → Q (.ref l) (upd H l (.lst ys))) (tCons ta tNil)) σ H xs := fun H1 e Q q =>
  ha H1 e _ fun H2 e2 => ⟨p, xs, rfl, Or.inr (ex_t (e.trans e2) h), fun l hl => q l _ (fresh_back e2 hl) (e2.trans (Ex.new hl)) upd_same⟩
theorem el_listN (ha : EvL ta σ H xs) : EvL (tCB (fun xs H Q => ∃ p ys, xs = [.ref p] ∧ (SqL K H p ys ∨ SqT K H p ys) ∧ ∀ l, H l = none → Q (.ref l) (upd H l (.lst ys))) (tCons ta tNil)) σ H xs := fun H1 e Q q =>
  ha H1 e _ fun p H2 np e2 hp => ⟨p, xs, rfl, Or.inl (sq_of hp), fun l hl => q l _ (fresh_back e2 hl) (e2.trans (Ex.new hl)) upd_same⟩
theorem ev_lenN2 (ha : EvL ta σ H xs) : Ev (tCB (fun xs H Q => ∃ p ys, xs = [.ref p] ∧ (SqL K H p ys ∨ SqT K H p ys) ∧ Q (.int ys.length) H) (tCons ta tNil)) σ H (.int (xs.length : Int)) := ev_lenN ha
/-- a new list + a new list, a list that stands + a new one -/
theorem el_catLL (ha : EvL ta σ H xs) (hb : EvL tb σ H ys) (hz : xs.length + ys.length ≤ 100000) : EvL (tOp rCat ta tb) σ H (xs ++ ys) := fun H1 e Q k =>
  ha H1 e _ fun p H2 np e2 hp => hb H2 (e.trans e2) _ fun q H3 nq e3 hq => ⟨p, q, xs, ys, rfl, rfl, e3 p _ hp, hq, sz_of hz, fun l hl => k l _ (fresh_back (e2.trans e3) hl) ((e2.trans e3).trans (Ex.new hl)) upd_same⟩
theorem el_catVL (ha : Ev ta σ H (.ref p)) (h : H p = some (.lst xs)) (hb : EvL tb σ H ys) (hz : xs.length + ys.length ≤ 100000) : EvL (tOp rCat ta tb) σ H (xs ++ ys) := fun H1 e Q k =>
  ha H1 e _ fun H2 e2 => hb H2 (e.trans e2) _ fun q H3 nq e3 hq => ⟨p, q, xs, ys, rfl, rfl, e3 p _ (e2 p _ (e p _ h)), hq, sz_of hz, fun l hl => k l _ (fresh_back (e2.trans e3) hl) ((e2.trans e3).trans (Ex.new hl)) upd_same⟩
theorem el_catLV (ha : EvL ta σ H xs) (hb : Ev tb σ H (.ref q)) (h : H q = some (.lst ys)) (hz : xs.length + ys.length ≤ 100000) : EvL (tOp rCat ta tb) σ H (xs ++ ys) := fun H1 e Q k =>
  ha H1 e _ fun p H2 np e2 hp => hb H2 (e.trans e2) _ fun H3 e3 => ⟨p, q, xs, ys, rfl, rfl, e3 p _ hp, e3 q _ (e2 q _ (e q _ h)), sz_of hz, fun l hl => k l _ (fresh_back (e2.trans e3) hl) ((e2.trans e3).trans (Ex.new hl)) upd_same⟩
theorem el_catVV (ha : Ev ta σ H (.ref p)) (h : H p = some (.lst xs)) (hb : Ev tb σ H (.ref q)) (h2 : H q = some (.lst ys)) (hz : xs.length + ys.length ≤ 100000) : EvL (tOp rCat ta tb) σ H (xs ++ ys) := fun H1 e Q k =>
  ha H1 e _ fun H2 e2 => hb H2 (e.trans e2) _ fun H3 e3 => ⟨p, q, xs, ys, rfl, rfl, e3 p _ (e2 p _ (e p _ h)), e3 q _ (e2 q _ (e q _ h2)), sz_of hz, fun l hl => k l _ (fresh_back (e2.trans e3) hl) ((e2.trans e3).trans (Ex.new hl)) upd_same⟩
theorem el_is (h : EvL te σ H xs) (e : xs = ys) : EvL te σ H ys := e ▸ h
theorem flat_one (n : Nat) : (List.replicate n [v]).flatten = List.replicate n v := by
  induction n with
  | zero => rfl
  | succ n ih => rw [List.replicate_succ, List.flatten_cons, ih, List.replicate_succ] <;> rfl
/-- [c] * n -/
theorem el_rep {n : Nat} (ha : EvL ta σ H [v]) (hb : Ev tb σ H (.int (n : Int))) (hz : n ≤ 100000) : EvL (tOp rRep ta tb) σ H (List.replicate n v) := fun H1 e Q k =>
  ha H1 e _ fun p H2 np e2 hp => hb H2 (e.trans e2) _ fun H3 e3 => ⟨p, (n : Int), [v], rfl, rfl, e3 p _ hp, by omega, by omega, by rw [Int.toNat_natCast]; show 1 * n ≤ sizeLine; rw [Nat.one_mul]; exact sz_of hz, fun l hl => by
    rw [Int.toNat_natCast, flat_one]
    exact k l _ (fresh_back (e2.trans e3) hl) ((e2.trans e3).trans (Ex.new hl)) upd_same⟩
theorem map_rep {n : Nat} : List.replicate n (V.int 0) = (List.replicate n 0).map nV := by rw [List.map_replicate] <;> rfl
/-- xs[:n] -/
theorem cut_take {n : Nat} (h : n ≤ xs.length) : cutV xs none (some (n : Int)) = xs.take n := by
  unfold cutV
  rw [HT.sIx_none, HT.sIx_nat, Nat.sub_zero, List.drop_zero, Nat.min_eq_left h]
/-- xs[a:b] -/
theorem cut_mid {a b : Nat} (h : a ≤ b) (h2 : b ≤ xs.length) : cutV xs (some (a : Int)) (some (b : Int)) = (xs.drop a).take (b - a) := by
  unfold cutV
  rw [HT.sIx_nat, HT.sIx_nat, Nat.min_eq_left h2, Nat.min_eq_left (by omega)]
theorem ev_isiL {n : String} {b : Bool} (ha : Ev ta σ H (.ref p)) (hp : H p = some (.lst xs)) (hb : Ev tb σ H (.ty n)) (h : kitB "list" n = some b) : Ev (tCB (rIsi K) (tCons ta (tCons tb tNil))) σ H (.bl b) :=
  ev_isi ha hb (ClsV.ty n) (fun H1 e => .base (.lst (e _ _ hp))) (kit_ty h)
theorem ev_isiT {n : String} {b : Bool} (ha : Ev ta σ H (.ref p)) (hp : H p = some (.tup xs)) (hb : Ev tb σ H (.ty n)) (h : kitB "tuple" n = some b) : Ev (tCB (rIsi K) (tCons ta (tCons tb tNil))) σ H (.bl b) :=
  ev_isi ha hb (ClsV.ty n) (fun H1 e => .base (.tup (e _ _ hp))) (kit_ty h)
/-! ### two data that are one -/
mutual
theorem dp_mono (e : Ex H H') : ∀ (d : PyData) (v : V), Dp K H v d → Dp K H' v d
  | _, _, .non => .non
  | _, _, .bl b => .bl b
  | _, _, .int i => .int i
  | _, _, .str x => .str x
  | .list ds, _, .lst h a => .lst (ex_l e h) (dp_monoAll e ds _ a)
  | .tuple ds, _, .tup h a => .tup (ex_t e h) (dp_monoAll e ds _ a)
theorem dp_monoAll (e : Ex H H') : ∀ (ds : List PyData) (vs : List V), DpAll K H vs ds → DpAll K H' vs ds
  | _, _, .nil => .nil
  | d :: ds, v :: vs, .cons h a => .cons (dp_mono e d v h) (dp_monoAll e ds vs a)
end
theorem shaped_can {d : PyData} (h : SeqAt.shaped d = true) : PyData.eqv d d = true := SeqAt.eqv_refl d (SeqAt.canLay_of_shaped h)
theorem rv_eqD {d : PyData} (h : Dp K H x d) (h2 : Dp K H y d) (hs : SeqAt.shaped d = true) : RV (rEqD K) x y H (.bl true) := fun H1 e Q q =>
  ⟨d, d, dp_mono e _ _ h, dp_mono e _ _ h2, hs, hs, by rw [shaped_can hs]; exact q H1 (Ex.refl H1)⟩
theorem rv_neD {d : PyData} (h : Dp K H x d) (h2 : Dp K H y d) (hs : SeqAt.shaped d = true) : RV (rNeD K) x y H (.bl false) := fun H1 e Q q =>
  ⟨d, d, dp_mono e _ _ h, dp_mono e _ _ h2, hs, hs, by rw [shaped_can hs]; exact q H1 (Ex.refl H1)⟩
def dN (n : Nat) : PyData := .int (n : Int)
theorem dp_nats : ∀ l : List Nat, DpAll K H (l.map nV) (l.map dN)
  | [] => .nil
  | n :: l => .cons (.int (n : Int)) (dp_nats l)
theorem dp_list {l : List Nat} (h : SqL K H p (l.map nV)) : Dp K H (.ref p) (.list (l.map dN)) := .lst h (dp_nats l)
theorem lay_nats : ∀ l : List Nat, PyData.canLayAll0 (l.map dN) = true ∧ PyData.depthAll (l.map dN) = 0
  | [] => ⟨rfl, rfl⟩
  | n :: l => by
    have ih := lay_nats l
    refine ⟨?_, ?_⟩
    · show (PyData.canLay0 (dN n) && PyData.canLayAll0 (l.map dN)) = true
      rw [ih.1] <;> rfl
    · show max (PyData.depth (dN n)) (PyData.depthAll (l.map dN)) = 0
      rw [ih.2] <;> rfl
theorem shaped_nats (l : List Nat) : SeqAt.shaped (.list (l.map dN)) = true := by
  unfold SeqAt.shaped
  have h1 : PyData.canLay0 (.list (l.map dN)) = true := (lay_nats l).1
  have h2 : PyData.depth (.list (l.map dN)) = 1 := by
    show PyData.depthAll (l.map dN) + 1 = 1
    rw [(lay_nats l).2]
  rw [h1, h2] <;> rfl
theorem rv_eqN {l : List Nat} (h : SqL K H p (l.map nV)) (h2 : SqL K H q (l.map nV)) : RV (rEqD K) (.ref p) (.ref q) H (.bl true) := rv_eqD (dp_list h) (dp_list h2) (shaped_nats l)
theorem rv_neN {l : List Nat} (h : SqL K H p (l.map nV)) (h2 : SqL K H q (l.map nV)) : RV (rNeD K) (.ref p) (.ref q) H (.bl false) := rv_neD (dp_list h) (dp_list h2) (shaped_nats l)
/-! ### comprehensions without a test: the list that comes is told by its items -/
def Cz (H : Hp) (zs : List V) (Dl : Addr) (i : Nat) (H' : Hp) : Prop := H Dl = none ∧ Ex H H' ∧ H' Dl = some (.lst (zs.take i))
theorem cz_turn {σ2 : L2.St} {Dl : Addr} {i : Nat} (hp : Cz H zs Dl i H') (hi : zs[i]? = some z) (hz : zs.length ≤ 40000) (he : Ev te σ2 H z) :
    tYes σ2 H' fun b H3 => if b = true then te σ2 H3 fun y H4 => ∃ acc, H4 Dl = some (.lst acc) ∧ acc.length < sizeLine ∧ Cz H zs Dl (i + 1) (upd H4 Dl (.lst (acc ++ [y]))) else Cz H zs Dl (i + 1) H3 := by
  obtain ⟨p1, p2, p3⟩ := hp
  show te σ2 H' fun y H4 => ∃ acc, H4 Dl = some (.lst acc) ∧ acc.length < sizeLine ∧ Cz H zs Dl (i + 1) (upd H4 Dl (.lst (acc ++ [y])))
  refine he H' p2 _ fun H4 e4 => ⟨zs.take i, e4 Dl _ p3, sz_lt (by rw [List.length_take]; omega), p1, Ex.mut (p2.trans e4) p1, ?_⟩
  rw [upd_same, List.take_add_one, hi] <;> rfl
theorem el_zR {ta : TA} {j : Nat} {vs : List Nat} {n : Nat} (h : EvA ta σ H [.int (n : Int)]) (hz : zs.length = n) (hn : n ≤ 40000) (hw : ∀ x, wipe ((wipe σ vs).set j (some x)) vs = wipe σ vs)
    (he : ∀ (i : Nat) (z : V) H1, Ex H H1 → zs[i]? = some z → Ev te ((wipe σ vs).set j (some (.int (i : Int)))) H1 z) : EvL (tLc (iRng1 ta) (gName j) tYes te vs) σ H zs := fun H0 e Q q => h H0 e _ fun H1 e1 => ⟨(n : Int), rfl, by omega, by omega, fun Dl hD =>
  lc_range (lo := 0) (n := (n : Int).toNat) (Cz H1 zs Dl) ⟨hD, Ex.new hD, by rw [upd_same, List.take_zero]⟩ (fun i H' hi p => by
    have e0 : (0 : Int) + (i : Int) = (i : Int) := Int.zero_add _
    have hl : i < zs.length := by omega
    show wipe ((wipe σ vs).set j (some (.int ((0 : Int) + (i : Int))))) vs = wipe σ vs ∧ tYes ((wipe σ vs).set j (some (.int ((0 : Int) + (i : Int))))) H' fun b H3 => if b = true then te ((wipe σ vs).set j (some (.int ((0 : Int) + (i : Int))))) H3 fun y H4 => ∃ acc, H4 Dl = some (.lst acc) ∧ acc.length < sizeLine ∧ Cz H1 zs Dl (i + 1) (upd H4 Dl (.lst (acc ++ [y]))) else Cz H1 zs Dl (i + 1) H3
    rw [e0]
    exact ⟨hw _, cz_turn p (List.getElem?_eq_getElem hl) (by omega) (he i _ H1 (e.trans e1) (List.getElem?_eq_getElem hl))⟩) (fun H' p => q Dl H' (fresh_back e1 p.1) (e1.trans p.2.1) (by rw [p.2.2, List.take_of_length_le (by omega)]))⟩
theorem el_zL {a : Addr} {tl : TE} {j : Nat} {vs : List Nat} (h : Ev tl σ H (.ref a)) (hx : SqL K H a xs) (hz : zs.length = xs.length) (hn : xs.length ≤ 40000) (hw : ∀ x, wipe ((wipe σ vs).set j (some x)) vs = wipe σ vs)
    (he : ∀ (i : Nat) (x z : V) H1, Ex H H1 → xs[i]? = some x → zs[i]? = some z → Ev te ((wipe σ vs).set j (some x)) H1 z) : EvL (tLc (iList K tl) (gName j) tYes te vs) σ H zs := fun H0 e Q q => h H0 e _ fun H1 e1 => ⟨a, rfl, ⟨xs, ex_l (e.trans e1) hx⟩, fun Dl hD =>
  lc_list (xs := xs) (Cz H1 zs Dl) ⟨hD, Ex.new hD, by rw [upd_same, List.take_zero]⟩ (fun i H' _ p => ex_l ((e.trans e1).trans p.2.1) hx) (fun i x H' hi p => by
    have hl : i < zs.length := by rw [hz]; exact (List.getElem?_eq_some_iff.mp hi).1
    exact ⟨hw x, cz_turn p (List.getElem?_eq_getElem hl) (by omega) (he i x _ H1 (e.trans e1) hi (List.getElem?_eq_getElem hl))⟩) (fun H' p => q Dl H' (fresh_back e1 p.1) (e1.trans p.2.1) (by rw [p.2.2, List.take_of_length_le (by omega)]))⟩
theorem el_zNL {tl : TE} {j : Nat} {vs : List Nat} (h : EvL tl σ H xs) (hz : zs.length = xs.length) (hn : xs.length ≤ 40000) (hw : ∀ x, wipe ((wipe σ vs).set j (some x)) vs = wipe σ vs)
    (he : ∀ (i : Nat) (x z : V) H1, Ex H H1 → xs[i]? = some x → zs[i]? = some z → Ev te ((wipe σ vs).set j (some x)) H1 z) : EvL (tLc (iList K tl) (gName j) tYes te vs) σ H zs := fun H0 e Q q => h H0 e _ fun a H1 na e1 hx => ⟨a, rfl, ⟨xs, sq_of hx⟩, fun Dl hD =>
  lc_list (xs := xs) (Cz H1 zs Dl) ⟨hD, Ex.new hD, by rw [upd_same, List.take_zero]⟩ (fun i H' _ p => ex_l p.2.1 (sq_of hx)) (fun i x H' hi p => by
    have hl : i < zs.length := by rw [hz]; exact (List.getElem?_eq_some_iff.mp hi).1
    exact ⟨hw x, cz_turn p (List.getElem?_eq_getElem hl) (by omega) (he i x _ H1 (e.trans e1) hi (List.getElem?_eq_getElem hl))⟩) (fun H' p => q Dl H' (fresh_back e1 p.1) (e1.trans p.2.1) (by rw [p.2.2, List.take_of_length_le (by omega)]))⟩
/-- two lists as a call's arguments -/
def Ev2 (K : PySem.W.Frag) (ta : TA) (σ : L2.St) (H : Hp) (xs ys : List V) : Prop := ∀ H1, Ex H H1 → ∀ Q : List V → Hp → Prop, (∀ a b H2, Ex H1 H2 → SqL K H2 a xs → SqL K H2 b ys → Q [.ref a, .ref b] H2) → ta σ H1 Q
theorem ev2_VV (ha : Ev ta σ H (.ref p)) (h : SqL K H p xs) (hb : Ev tb σ H (.ref q)) (h2 : SqL K H q ys) : Ev2 K (tCons ta (tCons tb tNil)) σ H xs ys := fun H1 e _ k =>
  ha H1 e _ fun H2 e2 => hb H2 (e.trans e2) _ fun H3 e3 => k _ _ H3 (e2.trans e3) (ex_l ((e.trans e2).trans e3) h) (ex_l ((e.trans e2).trans e3) h2)
theorem ev2_VL (ha : Ev ta σ H (.ref p)) (h : SqL K H p xs) (hb : EvL tb σ H ys) : Ev2 K (tCons ta (tCons tb tNil)) σ H xs ys := fun H1 e _ k =>
  ha H1 e _ fun H2 e2 => hb H2 (e.trans e2) _ fun q H3 _ e3 hq => k _ _ H3 (e2.trans e3) (ex_l ((e.trans e2).trans e3) h) (sq_of hq)
theorem el_zZ {ta : TA} {j1 j2 : Nat} {vs : List Nat} (h : Ev2 K ta σ H xs ys) (hz : zs.length = min xs.length ys.length) (hn : zs.length ≤ 40000) (hw : ∀ x y, wipe (((wipe σ vs).set j1 (some x)).set j2 (some y)) vs = wipe σ vs)
    (he : ∀ (i : Nat) (x y z : V) H1, Ex H H1 → xs[i]? = some x → ys[i]? = some y → zs[i]? = some z → Ev te (((wipe σ vs).set j1 (some x)).set j2 (some y)) H1 z) :
    EvL (tLc (iZip K ta) (gTup K 2 (gCons (gName j1) (gCons (gName j2) gNil))) tYes te vs) σ H zs := fun H0 e Q q => h H0 e _ fun a b H1 e1 ha hb => ⟨a, b, xs, ys, rfl, ha, hb, fun Dl hD =>
  lc_it (walk_zip (xs := xs) (ys := ys) hz) (Cz H1 zs Dl) ⟨hD, Ex.new hD, by rw [upd_same, List.take_zero]⟩ (fun i H' _ p => ⟨ex_l p.2.1 ha, ex_l p.2.1 hb⟩) (fun i v H' H2 hi p yy => by
    obtain ⟨T, x, y, rfl, hT, rfl, hx, hy⟩ := yy
    refine ⟨T, [x, y], rfl, st_of upd_same, rfl, x, [y], rfl, y, [], rfl, rfl, ?_⟩
    have p2 : Cz H1 zs Dl i (upd H' T (.tup [x, y])) := ⟨p.1, p.2.1.trans (Ex.new hT), by rw [upd_ne (ne_of_none p.2.2 hT)]; exact p.2.2⟩
    exact ⟨hw x y, cz_turn p2 (List.getElem?_eq_getElem hi) hn (he i x y _ H1 (e.trans e1) hx hy (List.getElem?_eq_getElem hi))⟩) (fun H' p => q Dl H' (fresh_back e1 p.1) (e1.trans p.2.1) (by rw [p.2.2, List.take_of_length_le (by omega)]))⟩
/-! ### loops over enumerate, reversed -/
variable {D : Ends} {tu tw tz : TS} {g : TG}
theorem s_forEn {ta : TA} {a : Addr} {j1 j2 : Nat} (h : EvA ta σ H [.ref a]) (hx : SqL K H a xs) (Pv : Nat → L2.St → Hp → Prop) (h0 : ∀ H1, Ex H H1 → Pv 0 σ H1) (hl : ∀ i σ' H', i ≤ xs.length → Pv i σ' H' → SqL K H' a xs)
    (hs : ∀ (i : Nat) x σ' H' H2, xs[i]? = some x → Pv i σ' H' → Ex H' H2 → tu { D with nx := Pv (i + 1), ct := Pv (i + 1), bk := D.nx } ((σ'.set j1 (some (.int (i : Int)))).set j2 (some x)) H2) (hd : ∀ σ' H', Pv xs.length σ' H' → D.nx σ' H') :
    tFor (iEnum K ta) (gTup K 2 (gCons (gName j1) (gCons (gName j2) gNil))) tu D σ H :=
  h H (Ex.refl H) _ fun H1 e => ⟨a, xs, rfl, ex_l e hx, for_it (walk_enum (xs := xs)) Pv (h0 H1 e) hl (fun i v σ' H' H2 hi p yy => by
    obtain ⟨T, x, y, rfl, hT, rfl, hx2, hy⟩ := yy
    obtain rfl : (.int (i : Int) : V) = x := Option.some.inj hx2
    exact ⟨T, [_, y], rfl, st_of upd_same, rfl, _, [y], rfl, y, [], rfl, rfl, hs i y σ' H' _ hy p (Ex.new hT)⟩) hd⟩
theorem s_forRev {ta : TA} {a : Addr} {j : Nat} (h : EvA ta σ H [.ref a]) (hx : SqL K H a xs) (Pv : Nat → L2.St → Hp → Prop) (h0 : ∀ H1, Ex H H1 → Pv 0 σ H1) (hl : ∀ i σ' H', Pv i σ' H' → SqL K H' a xs)
    (hs : ∀ (i : Nat) x σ' H', i < xs.length → xs[xs.length - 1 - i]? = some x → Pv i σ' H' → tu { D with nx := Pv (i + 1), ct := Pv (i + 1), bk := D.nx } (σ'.set j (some x)) H') (hd : ∀ σ' H', Pv xs.length σ' H' → D.nx σ' H') :
    tFor (iRev K ta) (gName j) tu D σ H :=
  h H (Ex.refl H) _ fun H1 e => ⟨a, xs, rfl, ex_l e hx, RT.for_Itv Pv (h0 H1 e) hl (fun i x σ' H' hi hx2 p => hs i x σ' H' hi hx2 p) hd⟩
theorem q_forEn {ta : TA} {a : Addr} {j1 j2 : Nat} (h : EvA ta σ H [.ref a]) (hx : SqL K H a xs) (Pv : Nat → L2.St → Hp → Prop) (h0 : ∀ H1, Ex H H1 → Pv 0 σ H1) (hl : ∀ i σ' H', i ≤ xs.length → Pv i σ' H' → SqL K H' a xs)
    (hs : ∀ (i : Nat) x σ' H' H2, xs[i]? = some x → Pv i σ' H' → Ex H' H2 → tu { D with nx := Pv (i + 1), ct := Pv (i + 1), bk := tz D } ((σ'.set j1 (some (.int (i : Int)))).set j2 (some x)) H2) (hd : ∀ σ' H', Pv xs.length σ' H' → tz D σ' H') :
    tSeq (tFor (iEnum K ta) (gTup K 2 (gCons (gName j1) (gCons (gName j2) gNil))) tu) tz D σ H := s_forEn (D := { D with nx := tz D }) h hx Pv h0 hl hs hd
theorem q_forRev {ta : TA} {a : Addr} {j : Nat} (h : EvA ta σ H [.ref a]) (hx : SqL K H a xs) (Pv : Nat → L2.St → Hp → Prop) (h0 : ∀ H1, Ex H H1 → Pv 0 σ H1) (hl : ∀ i σ' H', Pv i σ' H' → SqL K H' a xs)
    (hs : ∀ (i : Nat) x σ' H', i < xs.length → xs[xs.length - 1 - i]? = some x → Pv i σ' H' → tu { D with nx := Pv (i + 1), ct := Pv (i + 1), bk := tz D } (σ'.set j (some x)) H') (hd : ∀ σ' H', Pv xs.length σ' H' → tz D σ' H') :
    tSeq (tFor (iRev K ta) (gName j) tu) tz D σ H := s_forRev (D := { D with nx := tz D }) h hx Pv h0 hl hs hd
/-- xs[lo:hi] = a new list -/
theorem s_setSl {l : Addr} {tl th : TO} {a c : Nat} (hl : H l = some (.lst xs)) (h : EvL te σ H ys) (ho : Ev ta σ H (.ref l)) (h1 : EvO tl σ H (some (a : Int))) (h2 : EvO th σ H (some (c : Int))) (hac : a ≤ c) (hc : c ≤ xs.length) (hz : xs.length + ys.length ≤ 100000)
    (k : ∀ p H1, H p = none → Ex H H1 → D.nx σ (upd H1 l (.lst (xs.take a ++ ys ++ xs.drop c)))) : tAsg te (gSetSl ta tl th) D σ H := h H (Ex.refl H) _ fun p H1 np e1 hp =>
  ho H1 e1 _ fun H2 e2 => h1 H2 (e1.trans e2) _ fun H3 e3 => h2 H3 ((e1.trans e2).trans e3) _ fun H4 e4 => ⟨l, p, xs, ys, (a : Int), (c : Int), rfl, rfl, rfl, rfl, (((e1.trans e2).trans e3).trans e4) l _ hl, (e4 p _ (e3 p _ (e2 p _ hp))),
    (ne_of_none hl np), by omega, by omega, by omega, sz_of hz, by
    rw [Int.toNat_natCast, Int.toNat_natCast]
    exact k p H4 np (((e1.trans e2).trans e3).trans e4)⟩
/-! ### calls whose arguments are new lists -/
theorem ev_call1L {sp : Sp} {E : XK} (h1 : EvL ta σ H xs) (hs : ∀ p H1, Ex H H1 → H1 p = some (.lst xs) → SpV sp ([.ref p] ++ []) H1 z) : Ev (tCall sp [] E (tCons ta tNil)) σ H z := fun H1 e Q k =>
  h1 H1 e _ fun p H2 _ e2 hp => hs p H2 (e.trans e2) hp H2 (Ex.refl _) Q (fun H3 e3 => k H3 (e2.trans e3)) E
theorem el_call1L {sp : Sp} {E : XK} (h1 : EvL ta σ H xs) (hs : ∀ p H1, Ex H H1 → H1 p = some (.lst xs) → SpL sp ([.ref p] ++ []) H1 zs) : EvL (tCall sp [] E (tCons ta tNil)) σ H zs := fun H1 e Q k =>
  h1 H1 e _ fun p H2 _ e2 hp => hs p H2 (e.trans e2) hp H2 (Ex.refl _) Q (fun p2 H3 n3 e3 h3 => k p2 H3 (fresh_back e2 n3) (e2.trans e3) h3) E
theorem ev_call2LL {sp : Sp} {E : XK} (h1 : EvL ta σ H xs) (h2 : EvL tb σ H ys) (hs : ∀ p q H1, Ex H H1 → H1 p = some (.lst xs) → H1 q = some (.lst ys) → SpV sp ([.ref p, .ref q] ++ []) H1 z) : Ev (tCall sp [] E (tCons ta (tCons tb tNil))) σ H z := fun H1 e Q k =>
  h1 H1 e _ fun p H2 _ e2 hp => h2 H2 (e.trans e2) _ fun q H3 _ e3 hq => hs p q H3 ((e.trans e2).trans e3) (e3 p _ hp) hq H3 (Ex.refl _) Q (fun H4 e4 => k H4 ((e2.trans e3).trans e4)) E
theorem ev_call2VL {sp : Sp} {E : XK} (h1 : Ev ta σ H x) (h2 : EvL tb σ H ys) (hs : ∀ q H1, Ex H H1 → H1 q = some (.lst ys) → SpV sp ([x, .ref q] ++ []) H1 z) : Ev (tCall sp [] E (tCons ta (tCons tb tNil))) σ H z := fun H1 e Q k =>
  h1 H1 e _ fun H2 e2 => h2 H2 (e.trans e2) _ fun q H3 _ e3 hq => hs q H3 ((e.trans e2).trans e3) hq H3 (Ex.refl _) Q (fun H4 e4 => k H4 ((e2.trans e3).trans e4)) E
theorem el_call3LVV {tc : TE} {sp : Sp} {E : XK} (h1 : EvL ta σ H xs) (h2 : Ev tb σ H x) (h3 : Ev tc σ H y) (hs : ∀ p H1, Ex H H1 → H1 p = some (.lst xs) → SpL sp ([.ref p, x, y] ++ []) H1 zs) : EvL (tCall sp [] E (tCons ta (tCons tb (tCons tc tNil)))) σ H zs := fun H1 e Q k =>
  h1 H1 e _ fun p H2 _ e2 hp => h2 H2 (e.trans e2) _ fun H3 e3 => h3 H3 ((e.trans e2).trans e3) _ fun H4 e4 => hs p H4 (((e.trans e2).trans e3).trans e4) (e4 p _ (e3 p _ hp)) H4 (Ex.refl _) Q (fun p2 H5 n5 e5 h5 => k p2 H5 (fresh_back ((e2.trans e3).trans e4) n5) (((e2.trans e3).trans e4).trans e5) h5) E
/-- a list of numbers that is tracked -/
abbrev LN (H : Hp) (p : Addr) (l : List Nat) : Prop := H p = some (.lst (l.map nV))
theorem LN.up {l : List Nat} (h : LN H p l) (e : Ex H H') : LN H' p l := e p _ h
theorem nat_get {l : List Nat} {k : Nat} (h : k < l.length) : (l.map nV)[k]? = some (.int ((Py.at0 l k : Nat) : Int)) := by rw [List.getElem?_map, Py.at0_get h] <;> rfl
theorem nat_of_get {l : List Nat} {k : Nat} {v : V} (h : (l.map nV)[k]? = some v) : k < l.length ∧ v = .int ((Py.at0 l k : Nat) : Int) := by
  have hk : k < l.length := by simpa using (List.getElem?_eq_some_iff.mp h).1
  rw [nat_get hk] at h
  exact ⟨hk, (Option.some.inj h).symm⟩
theorem len_map {l : List Nat} : (l.map nV).length = l.length := List.length_map _
theorem set_nat {l : List Nat} {k n : Nat} : (l.map nV).set k (.int (n : Int)) = (l.set k n).map nV := by rw [List.map_set]
theorem dec_self {x : V} : (!decide (x = x)) = false := by simp
theorem q_parLL {i j : Nat} (h1 : EvL ta σ H xs) (h2 : EvL tb σ H ys) (k : ∀ p q H1, H p = none → H q = none → Ex H H1 → H1 p = some (.lst xs) → H1 q = some (.lst ys) → tz D ((σ.set i (some (.ref p))).set j (some (.ref q))) H1) :
    tSeq (tPar i j (tCons ta (tCons tb tNil))) tz D σ H := h1 H (Ex.refl H) _ fun p H1 np e1 hp => h2 H1 e1 _ fun q H2 nq e2 hq => ⟨_, _, rfl, k p q H2 np (fresh_back e1 nq) (e1.trans e2) (e2 p _ hp) hq⟩
theorem splice_nat {l m : List Nat} {a c : Nat} : (l.map nV).take a ++ m.map nV ++ (l.map nV).drop c = (l.take a ++ m ++ l.drop c).map nV := by rw [List.map_append, List.map_append, List.map_take, List.map_drop]
theorem b2i_or (b : Bool) : b2i b = 0 ∨ b2i b = 1 := by cases b <;> simp [b2i]
end
end Mx

set_option Elab.async false
set_option linter.all false
namespace Py
open Gf
theorem at0_set {q : List Nat} {s f k : Nat} (h : s < q.length) : at0 (q.set s f) k = if k = s then f else at0 q k := by
  unfold at0
  rw [List.getD_eq_getElem?_getD, List.getD_eq_getElem?_getD, List.getElem?_set]
  by_cases e : s = k
  · subst e
    rw [if_pos rfl, if_pos h, if_pos rfl] <;> rfl
  · rw [if_neg e, if_neg (fun z => e z.symm)]
theorem at0_app {a b : List Nat} {k : Nat} : at0 (a ++ b) k = if k < a.length then at0 a k else at0 b (k - a.length) := by
  unfold at0
  rw [List.getD_eq_getElem?_getD]
  by_cases h : k < a.length
  · rw [if_pos h, List.getElem?_append_left h, List.getD_eq_getElem?_getD]
  · rw [if_neg h, List.getElem?_append_right (by omega), List.getD_eq_getElem?_getD]
theorem at0_take {a : List Nat} {n k : Nat} : at0 (a.take n) k = if k < n then at0 a k else 0 := by
  unfold at0
  rw [List.getD_eq_getElem?_getD, List.getD_eq_getElem?_getD]
  by_cases h : k < n
  · rw [if_pos h, List.getElem?_take_of_lt h]
  · rw [if_neg h, List.getElem?_eq_none (by rw [List.length_take]; omega)] <;> rfl
theorem at0_drop {a : List Nat} {n k : Nat} : at0 (a.drop n) k = at0 a (n + k) := by
  unfold at0
  rw [List.getD_eq_getElem?_getD, List.getD_eq_getElem?_getD, List.getElem?_drop]
theorem at0_trim (p : List Nat) (k : Nat) : at0 (trim p) k = at0 p k := by
  unfold trim
  rw [at0_take]
  by_cases h : k < tlen p
  · rw [if_pos h]
  · rw [if_neg h, tlen_zero p k (by omega)]
theorem at0_zip {a d : List Nat} {f k : Nat} (h : a.length = d.length) : at0 (List.zipWith (fun x y => x ^^^ gm f y) a d) k = at0 a k ^^^ gm f (at0 d k) := by
  by_cases hk : k < a.length
  · refine at0_of ?_
    rw [List.getElem?_zipWith, at0_get hk, at0_get (h ▸ hk)] <;> rfl
  · rw [at0_none (by rw [List.length_zipWith]; omega), at0_none (show a.length ≤ k by omega), at0_none (show d.length ≤ k by omega), gm_zero (.inr rfl)] <;> rfl
/-- what a step of the division leaves of the rest -/
theorem at0_splice {r d : List Nat} {s f k : Nat} (h : s + d.length ≤ r.length) :
    at0 (r.take s ++ List.zipWith (fun x y => x ^^^ gm f y) ((r.drop s).take d.length) d ++ r.drop (s + d.length)) k = at0 r k ^^^ (if s ≤ k then gm f (at0 d (k - s)) else 0) := by
  have l1 : (r.take s).length = s := by
    rw [List.length_take]
    omega
  have l2 : ((r.drop s).take d.length).length = d.length := by
    rw [List.length_take, List.length_drop]
    omega
  have l3 : (r.take s ++ List.zipWith (fun x y => x ^^^ gm f y) ((r.drop s).take d.length) d).length = s + d.length := by
    rw [List.length_append, l1, List.length_zipWith, l2, Nat.min_self]
  rw [at0_app, l3]
  by_cases c : k < s + d.length
  · rw [if_pos c, at0_app, l1]
    by_cases c2 : k < s
    · rw [if_pos c2, at0_take, if_pos c2, if_neg (by omega), Nat.xor_zero]
    · rw [if_neg c2, at0_zip l2, at0_take, if_pos (by omega), at0_drop, if_pos (by omega)]
      have e : s + (k - s) = k := by omega
      rw [e]
  · rw [if_neg c, at0_drop, if_pos (by omega), at0_none (show d.length ≤ k - s by omega), gm_zero (.inr rfl), Nat.xor_zero]
    have e : s + d.length + (k - (s + d.length)) = k := by omega
    rw [e]
theorem splice_len {r d : List Nat} {s f : Nat} (h : s + d.length ≤ r.length) :
    (r.take s ++ List.zipWith (fun x y => x ^^^ gm f y) ((r.drop s).take d.length) d ++ r.drop (s + d.length)).length = r.length := by
  simp
  omega
theorem acc_set {q d : List Nat} {s f : Nat} (h : s < q.length) (h0 : at0 q s = 0) (k : Nat) : ∀ n, acc (q.set s f) d n k = acc q d n k ^^^ (if s < n ∧ s ≤ k then gm f (at0 d (k - s)) else 0)
  | 0 => by
    rw [if_neg (by omega), Nat.xor_zero]
    rfl
  | n + 1 => by
    show acc (q.set s f) d n k ^^^ (if n ≤ k then gm (at0 (q.set s f) n) (at0 d (k - n)) else 0) = (acc q d n k ^^^ (if n ≤ k then gm (at0 q n) (at0 d (k - n)) else 0)) ^^^ _
    rw [acc_set h h0 k n, at0_set h]
    by_cases e : n = s
    · subst e
      rw [if_neg (show ¬ (n < n ∧ n ≤ k) by omega), if_pos rfl, h0, Nat.xor_zero]
      by_cases c : n ≤ k
      · rw [if_pos c, if_pos c, if_pos (show n < n + 1 ∧ n ≤ k from ⟨by omega, c⟩), gm_zero (a := 0) (.inl rfl), Nat.xor_zero]
      · rw [if_neg c, if_neg c, if_neg (show ¬ (n < n + 1 ∧ n ≤ k) from fun z => c z.2), Nat.xor_zero, Nat.xor_zero]
    · rw [if_neg e]
      by_cases c : s < n ∧ s ≤ k
      · rw [if_pos c, if_pos (show s < n + 1 ∧ s ≤ k from ⟨by omega, c.2⟩), Nat.xor_assoc, Nat.xor_comm (gm f _), Nat.xor_assoc]
      · rw [if_neg c, if_neg (show ¬ (s < n + 1 ∧ s ≤ k) by omega), Nat.xor_zero, Nat.xor_zero]
theorem acc_len {p q : List Nat} {n : Nat} (h : p.length ≤ n) (k : Nat) : acc p q n k = acc p q p.length k := by
  rw [acc_xs, acc_xs]
  have e : n = p.length + (n - p.length) := by omega
  rw [e]
  refine xs_more (fun j hj => ?_) _
  rw [at0_none hj, gm_zero (.inl rfl)]
  split <;> rfl
theorem acc_congr {p q p' q' : List Nat} (h : ∀ j, at0 p j = at0 p' j) (h2 : ∀ j, at0 q j = at0 q' j) (k : Nat) : ∀ n, acc p q n k = acc p' q' n k
  | 0 => rfl
  | n + 1 => by
    show acc p q n k ^^^ _ = acc p' q' n k ^^^ _
    rw [acc_congr h h2 k n, h, h2]
theorem acc_trim {p q : List Nat} (k : Nat) : acc (trim p) q (trim p).length k = acc p q p.length k := by
  rw [← acc_len (p := trim p) (n := p.length) (by rw [trim_length]; exact tlen_le p)]
  exact acc_congr (at0_trim p) (fun _ => rfl) k _
/-- the state of the division: n steps in all, i done -/
structure DivInv (l d : List Nat) (n i : Nat) (q r : List Nat) : Prop where
  ql : q.length = n
  rl : r.length = tlen l
  oq : Oc q
  or : Oc r
  eq : ∀ k, at0 l k = acc q d n k ^^^ at0 r k
  rz : ∀ k, n - i + d.length ≤ k + 1 → at0 r k = 0
  qz : ∀ j, j < n - i → at0 q j = 0
theorem div_start {l d : List Nat} {n : Nat} (ho : Oc l) (hd : 0 < d.length) (hn : (n : Int) = if (0 : Int) < (tlen l : Int) - d.length + 1 then (tlen l : Int) - d.length + 1 else 0) : DivInv l d n 0 (List.replicate n 0) (trim l) := by
  refine ⟨List.length_replicate, trim_length l, oc_zeros n, ho.take _, fun k => ?_, fun k hk => ?_, fun j _ => ?_⟩
  · have e : ∀ m, acc (List.replicate n 0) d m k = 0 := fun m => by
      induction m with
      | zero => rfl
      | succ m ih =>
        show acc _ d m k ^^^ _ = 0
        have z : at0 (List.replicate n 0) m = 0 := by
          unfold at0
          rw [List.getD_eq_getElem?_getD, List.getElem?_replicate]
          split <;> rfl
        rw [ih, z, gm_zero (.inl rfl)]
        split <;> rfl
    rw [e, Nat.zero_xor, at0_trim]
  · rw [at0_trim]
    refine tlen_zero l k ?_
    split at hn <;> omega
  · unfold at0
    rw [List.getD_eq_getElem?_getD, List.getElem?_replicate]
    split <;> rfl
theorem div_step {l d q r : List Nat} {n i : Nat} (h : DivInv l d n i q r) (hi : i < n) (od : Oc d) (hd : 0 < d.length) (hl : ¬ at0 d (d.length - 1) = 0) (hr : n - 1 - i + d.length ≤ r.length) :
    DivInv l d n (i + 1) (q.set (n - 1 - i) (gm (at0 r (n - 1 - i + d.length - 1)) (gi (at0 d (d.length - 1)))))
      (r.take (n - 1 - i) ++ List.zipWith (fun x y => x ^^^ gm (gm (at0 r (n - 1 - i + d.length - 1)) (gi (at0 d (d.length - 1)))) y) ((r.drop (n - 1 - i)).take d.length) d ++ r.drop (n - 1 - i + d.length)) := by
  have hs : n - 1 - i < q.length := by
    rw [h.ql]
    omega
  have hq0 : at0 q (n - 1 - i) = 0 := h.qz _ (by omega)
  refine ⟨by rw [List.length_set, h.ql], by rw [splice_len hr, h.rl], oc_of fun c hc => ?_, fun k => ?_, fun k => ?_, fun k hk => ?_, fun j hj => ?_⟩
  · rcases List.mem_or_eq_of_mem_set hc with z | z
    · exact h.oq.mem c z
    · rw [z]
      exact gm_lt _ _
  · rw [at0_splice hr]
    refine xor_lt (h.or k) ?_
    split
    · exact gm_lt _ _
    · decide
  · rw [at0_splice hr, acc_set hs hq0, h.eq k]
    have e : (n - 1 - i < n ∧ n - 1 - i ≤ k) = (n - 1 - i ≤ k) := by
      apply propext
      constructor
      · exact fun z => z.2
      · exact fun z => ⟨by omega, z⟩
    simp only [e]
    rw [Nat.xor_assoc, Nat.xor_comm (at0 r k), ← Nat.xor_assoc (ite _ _ _), Nat.xor_self, Nat.zero_xor]
  · rw [at0_splice hr]
    by_cases c : k = n - 1 - i + d.length - 1
    · have e : k - (n - 1 - i) = d.length - 1 := by omega
      rw [if_pos (by omega), e, ← c, gm_assoc, gm_comm (gi _), gm_gi (od _) hl, gm_one (h.or k), Nat.xor_self]
    · rw [h.rz k (by omega), if_pos (by omega), at0_none (show d.length ≤ k - (n - 1 - i) by omega), gm_zero (.inr rfl)]
      rfl
  · rw [at0_set hs, if_neg (by omega)]
    exact h.qz j (by omega)
/-- what the division gives -/
structure DivEnd (l m x y : List Nat) : Prop where
  ox : Oc x
  oy : Oc y
  tx : tlen x = x.length
  ty : tlen y = y.length
  lx : x.length ≤ l.length
  ly : y.length ≤ l.length
  lt : y.length + 1 ≤ tlen m
  eq : ∀ k, at0 l k = acc x m x.length k ^^^ at0 y k
theorem tlen_trim (p : List Nat) : tlen (trim p) = (trim p).length := by
  rw [trim_length]
  refine tlen_eq (fun k hk => ?_) ?_
  · rw [at0_trim]
    exact tlen_zero p k hk
  · rw [at0_trim]
    exact tlen_last p
theorem div_end {l m q r : List Nat} {n : Nat} (h : DivInv l (trim m) n n q r) (hm : ¬ tlen m = 0) (hn : n ≤ l.length) : DivEnd l m (trim q) (trim r) := by
  refine ⟨oc_trim h.oq, oc_trim h.or, tlen_trim _, tlen_trim _, ?_, ?_, ?_, fun k => ?_⟩
  · rw [trim_length]
    have := tlen_le q
    have := h.ql
    omega
  · rw [trim_length]
    have := tlen_le r
    have := h.rl
    have := tlen_le l
    omega
  · rw [trim_length]
    rcases tlen_last r with z | z
    · omega
    · by_cases c : tlen r + 1 ≤ tlen m
      · exact c
      · exact absurd (h.rz (tlen r - 1) (by rw [Nat.sub_self, trim_length]; omega)) z
  · rw [acc_trim, at0_trim, h.eq k, h.ql]
    congr 1
    exact acc_congr (fun _ => rfl) (at0_trim m) k n
end Py

set_option Elab.async false
set_option linter.all false
set_option maxRecDepth 100000
set_option maxHeartbeats 4000000
namespace Mx
open PySem PySem.Spec PyProof.Rows L2 Evl
section
variable {K : PySem.W.Frag} {σ : L2.St} {H H' : Hp} {ta tb te tx : TE} {t u : TT} {x y z v : V} {r : R2} {xs ys zs : List V} {p q : Addr} {D : Ends} {tu tw tz : TS} {g : TG}
theorem et_truL (h : Ev te σ H (.ref p)) (hs : SqL K H p xs) : EvT (fun σ H Q => te σ H fun x H1 => ∃ k, TruV K x H1 k ∧ Q k H1) σ H (!xs.isEmpty) := fun H1 e Q q =>
  h H1 e _ fun H2 e2 => ⟨_, .inl ⟨xs, ex_l (e.trans e2) hs, rfl⟩, q H2 e2⟩
/-- return (a new list, a new list) -/
theorem s_retTLL (h1 : EvL ta σ H xs) (h2 : EvL tb σ H ys) (k : ∀ t p q H1, H t = none → Ex H H1 → H1 t = some (.tup [.ref p, .ref q]) → H1 p = some (.lst xs) → H1 q = some (.lst ys) → D.rt (.ref t) H1) : tRet (tTup (tCons ta (tCons tb tNil))) D σ H :=
  h1 H (Ex.refl H) _ fun p H1 np e1 hp => h2 H1 e1 _ fun q H2 nq e2 hq => ⟨by show 2 ≤ sizeLine; decide, fun t ht => k t p q _ (fresh_back (e1.trans e2) ht) ((e1.trans e2).trans (Ex.new ht)) upd_same (Ex.new ht p _ (e2 p _ hp)) (Ex.new ht q _ hq)⟩
/-- for i in reversed(range(n)) -/
theorem s_forRevR {j n : Nat} (h : Ev te σ H (.int (n : Int))) (hn : n ≤ 100000) (Pv : Nat → L2.St → Hp → Prop) (h0 : ∀ H1, Ex H H1 → Pv 0 σ H1)
    (hs : ∀ (i : Nat) σ' H', i < n → Pv i σ' H' → tu { D with nx := Pv (i + 1), ct := Pv (i + 1), bk := D.nx } (σ'.set j (some (.int ((n - 1 - i : Nat) : Int)))) H') (hd : ∀ σ' H', Pv n σ' H' → D.nx σ' H') :
    tFor (iRevR (tRg1 te)) (gName j) tu D σ H :=
  h H (Ex.refl H) _ fun H1 e => ⟨(n : Int), rfl, by omega, by omega, by omega, by omega, by
    have e0 : ((n : Int) - 0).toNat = n := by omega
    rw [e0]
    exact for_it walk_rangeC Pv (h0 H1 e) (fun _ _ _ _ _ => trivial) (fun i x σ' H' H2 hi p yy => by
      obtain ⟨rfl, rfl⟩ := yy
      have e1 : (0 : Int) + ((n : Nat) : Int) - 1 + ((i : Nat) : Int) * (-1) = ((n - 1 - i : Nat) : Int) := by omega
      show tu _ (σ'.set j (some (.int ((0 : Int) + ((n : Nat) : Int) - 1 + ((i : Nat) : Int) * (-1))))) _
      rw [e1]
      exact hs i σ' _ hi p) hd⟩
theorem q_forRevR {j n : Nat} (h : Ev te σ H (.int (n : Int))) (hn : n ≤ 100000) (Pv : Nat → L2.St → Hp → Prop) (h0 : ∀ H1, Ex H H1 → Pv 0 σ H1)
    (hs : ∀ (i : Nat) σ' H', i < n → Pv i σ' H' → tu { D with nx := Pv (i + 1), ct := Pv (i + 1), bk := tz D } (σ'.set j (some (.int ((n - 1 - i : Nat) : Int)))) H') (hd : ∀ σ' H', Pv n σ' H' → tz D σ' H') :
    tSeq (tFor (iRevR (tRg1 te)) (gName j) tu) tz D σ H := s_forRevR (D := { D with nx := tz D }) h hn Pv h0 hs hd
theorem q_setL2 {l : Addr} {l2 : List Nat} {j n : Nat} (hl : H l = some (.lst (l2.map nV))) (h : Ev te σ H (.int (n : Int))) (ho : Ev ta σ H (.ref l)) (hi : Ev tb σ H (.int (j : Int))) (hj : j < l2.length) (k : ∀ H1, Ex H H1 → tz D σ (upd H1 l (.lst ((l2.set j n).map nV)))) :
    tSeq (tAsg te (gSub ta tb rSetL)) tz D σ H := q_setL hl h ho hi (by rw [len_map]; exact hj) (by rw [set_nat]; exact k)
theorem last_neg {l : List Nat} (h : 0 < l.length) : atI (l.map nV) (-1) = some (.int ((Py.at0 l (l.length - 1) : Nat) : Int)) := by
  have e : l = l.take (l.length - 1) ++ [Py.at0 l (l.length - 1)] := by
    refine Py.ext0 (by rw [List.length_append, List.length_take, List.length_singleton]; omega) fun k hk => ?_
    rw [Py.at0_app, List.length_take, Py.at0_take]
    by_cases c : k < l.length - 1
    · rw [if_pos (by omega), if_pos c]
    · have ek : k = l.length - 1 := by omega
      rw [if_neg (by omega), ek]
      have e0 : l.length - 1 - min (l.length - 1) l.length = 0 := by omega
      rw [e0]
      rfl
  rw [e, List.map_append]
  rw [← e]
  exact atI_last _ _
end
end Mx

set_option Elab.async false
set_option linter.all false
namespace Py
open Gf
/-! ### the value as a sum of powers -/
theorem gp_add {x : Nat} (hx : x < 256) (n : Nat) : gm (gp x n) x = gp x (n + 1) := (gp_succ hx n).symm
theorem xs_lt {f : Nat → Nat} (h : ∀ k, f k < 256) : ∀ n, xs f n < 256
  | 0 => show (0 : Nat) < 256 by decide
  | n + 1 => xor_lt (xs_lt h n) (h n)
theorem xs_gm {f : Nat → Nat} {c : Nat} (h : ∀ k, f k < 256) : ∀ n, xs (fun k => gm (f k) c) n = gm (xs f n) c
  | 0 => (gm_zero (.inl rfl)).symm
  | n + 1 => by
    show xs (fun k => gm (f k) c) n ^^^ gm (f n) c = gm (xs f n ^^^ f n) c
    rw [xs_gm h n, xor_gm (xs_lt h n) (h n)]
theorem xs_xor (f g : Nat → Nat) : ∀ n, xs (fun k => f k ^^^ g k) n = xs f n ^^^ xs g n
  | 0 => (Nat.zero_xor 0).symm
  | n + 1 => by
    show xs (fun k => f k ^^^ g k) n ^^^ (f n ^^^ g n) = (xs f n ^^^ f n) ^^^ (xs g n ^^^ g n)
    rw [xs_xor f g n, Nat.xor_assoc, Nat.xor_assoc, ← Nat.xor_assoc (xs g n), Nat.xor_comm (xs g n) (f n), Nat.xor_assoc (f n)]
def ev (x : Nat) (p : List Nat) (n : Nat) : Nat := xs (fun k => gm (at0 p k) (gp x k)) n
theorem ev_cons {x c : Nat} {p : List Nat} (hx : x < 256) (h : Oc (c :: p)) (n : Nat) : ev x (c :: p) (n + 1) = gm (ev x p n) x ^^^ c := by
  unfold ev
  rw [xs_front]
  show gm c (gp x 0) ^^^ xs (fun j => gm (at0 p j) (gp x (j + 1))) n = _
  rw [gp_none, gm_one (show c < 256 from h 0), Nat.xor_comm]
  congr 1
  rw [← xs_gm (fun k => gm_lt _ _)]
  exact xs_congr fun j _ => by rw [gm_assoc, gp_add hx]
theorem horner_ev {x : Nat} (hx : x < 256) : ∀ {p : List Nat}, Oc p → horner x p = ev x p p.length
  | [], _ => rfl
  | c :: p, h => by
    show gm (horner x p) x ^^^ c = ev x (c :: p) (p.length + 1)
    rw [ev_cons hx h, horner_ev hx h.tail]
theorem ev_more {x n : Nat} {p : List Nat} (h : ∀ j, n ≤ j → at0 p j = 0) (d : Nat) : ev x p (n + d) = ev x p n := by
  refine xs_more (fun j hj => ?_) d
  rw [h j hj, gm_zero (.inl rfl)]
theorem horner_any {x n : Nat} (hx : x < 256) {p : List Nat} (ho : Oc p) (h : ∀ j, n ≤ j → at0 p j = 0) : horner x p = ev x p n := by
  rw [horner_ev hx ho]
  by_cases c : n ≤ p.length
  · have e : p.length = n + (p.length - n) := by omega
    rw [e]
    exact ev_more h _
  · have e : n = p.length + (n - p.length) := by omega
    rw [e]
    exact (ev_more (fun j hj => at0_none hj) _).symm
theorem ev_congr {x n : Nat} {p q : List Nat} (h : ∀ j, at0 p j = at0 q j) : ev x p n = ev x q n := xs_congr fun j _ => by rw [h]
theorem horner_trim {x : Nat} (hx : x < 256) {p : List Nat} (ho : Oc p) : horner x (trim p) = horner x p := by
  rw [horner_any (n := tlen p) hx (oc_trim ho) (fun j hj => by rw [at0_trim]; exact tlen_zero p j hj), horner_any (n := tlen p) hx ho (fun j hj => tlen_zero p j hj)]
  exact ev_congr (at0_trim p)
theorem at0_sum (p q : List Nat) (k : Nat) : at0 (sumL p q) k = at0 p k ^^^ at0 q k := by
  unfold sumL
  rw [at0_map]
  by_cases c : k < mx p.length q.length
  · rw [if_pos c]
  · rw [if_neg c]
    have h : p.length ≤ k ∧ q.length ≤ k := by
      unfold mx at c
      split at c <;> omega
    rw [at0_none h.1, at0_none h.2]
    rfl
theorem horner_sum {x : Nat} (hx : x < 256) {p q : List Nat} (hp : Oc p) (hq : Oc q) : horner x (sumL p q) = horner x p ^^^ horner x q := by
  have h1 : ∀ j, p.length + q.length ≤ j → at0 p j = 0 := fun j hj => at0_none (by omega)
  have h2 : ∀ j, p.length + q.length ≤ j → at0 q j = 0 := fun j hj => at0_none (by omega)
  rw [horner_any hx hp h1, horner_any hx hq h2, horner_any hx (oc_sum hp hq) (n := p.length + q.length) (fun j hj => by rw [at0_sum, h1 j hj, h2 j hj]; rfl)]
  unfold ev
  rw [← xs_xor]
  exact xs_congr fun j _ => by rw [at0_sum, xor_gm (hp j) (hq j)]
theorem at0_scale {c k : Nat} (p : List Nat) : at0 (p.map (gm c)) k = gm c (at0 p k) := by
  by_cases h : k < p.length
  · refine at0_of ?_
    rw [List.getElem?_map, at0_get h] <;> rfl
  · rw [at0_none (by rw [List.length_map]; omega), at0_none (show p.length ≤ k by omega), gm_zero (.inr rfl)]
theorem oc_scale (c : Nat) (p : List Nat) : Oc (p.map (gm c)) := fun k => by
  rw [at0_scale]
  exact gm_lt _ _
theorem horner_scale {x c : Nat} (hx : x < 256) {p : List Nat} (hp : Oc p) : horner x (p.map (gm c)) = gm c (horner x p) := by
  rw [horner_any (n := p.length) hx (oc_scale c p) (fun j hj => by rw [at0_scale, at0_none hj, gm_zero (.inr rfl)]), horner_any (n := p.length) hx hp (fun j hj => at0_none hj), gm_comm c]
  unfold ev
  rw [← xs_gm (fun k => gm_lt _ _)]
  exact xs_congr fun j _ => by rw [at0_scale, gm_comm c, gm_assoc, gm_comm c, ← gm_assoc]
theorem at0_prod {p q : List Nat} {k : Nat} : at0 (prodL p q) k = acc p q p.length k := by
  unfold prodL
  rw [at0_map]
  by_cases c : k < p.length + q.length
  · rw [if_pos c]
  · rw [if_neg c, acc_xs]
    have e : ∀ n, n ≤ p.length → xs (fun j => if j ≤ k then gm (at0 p j) (at0 q (k - j)) else 0) n = 0 := fun n => by
      induction n with
      | zero => intro _; rfl
      | succ n ih =>
        intro hn
        show xs _ n ^^^ _ = 0
        rw [ih (by omega)]
        show 0 ^^^ (if n ≤ k then gm (at0 p n) (at0 q (k - n)) else 0) = 0
        rw [if_pos (by omega), at0_none (show q.length ≤ k - n by omega), gm_zero (.inr rfl)]
        rfl
    exact (e _ (Nat.le_refl _)).symm
/-- times (c + x) -/
theorem at0_lin {p : List Nat} {c k : Nat} (hp : Oc p) : at0 (prodL p [c, 1]) k = gm c (at0 p k) ^^^ (if 1 ≤ k then at0 p (k - 1) else 0) := by
  rw [prod_comm, at0_prod]
  show (0 ^^^ (if 0 ≤ k then gm c (at0 p (k - 0)) else 0)) ^^^ (if 1 ≤ k then gm 1 (at0 p (k - 1)) else 0) = _
  rw [if_pos (Nat.zero_le _), Nat.zero_xor, Nat.sub_zero]
  by_cases h : 1 ≤ k
  · rw [if_pos h, if_pos h, gm_comm 1, gm_one (hp _)]
  · rw [if_neg h, if_neg h]
theorem horner_lin {p : List Nat} {c x : Nat} (hx : x < 256) (hc : c < 256) (hp : Oc p) : horner x (prodL p [c, 1]) = gm (horner x p) (c ^^^ x) := by
  have z : ∀ j, p.length ≤ j → at0 p j = 0 := fun j hj => at0_none hj
  rw [horner_any (n := p.length + 1) hx (oc_prod p [c, 1]) (fun j hj => by rw [at0_lin hp, z j (by omega), if_pos (by omega), z (j - 1) (by omega), gm_zero (.inr rfl)]; rfl), gm_xor hc hx]
  have e1 : ev x (prodL p [c, 1]) (p.length + 1) = xs (fun k => gm (gm c (at0 p k)) (gp x k)) (p.length + 1) ^^^ xs (fun k => gm (if 1 ≤ k then at0 p (k - 1) else 0) (gp x k)) (p.length + 1) := by
    rw [← xs_xor]
    unfold ev
    refine xs_congr fun j _ => ?_
    rw [at0_lin hp, xor_gm (gm_lt _ _) ?_]
    split
    · exact hp _
    · decide
  rw [e1]
  congr 1
  · have e2 : xs (fun k => gm (gm c (at0 p k)) (gp x k)) (p.length + 1) = xs (fun k => gm (gm (at0 p k) (gp x k)) c) (p.length + 1) := xs_congr fun j _ => by rw [gm_assoc, gm_comm c]
    rw [e2, xs_gm (fun k => gm_lt _ _), horner_any (n := p.length + 1) hx hp (fun j hj => z j (by omega))]
    rfl
  · rw [xs_front]
    show gm 0 (gp x 0) ^^^ xs (fun j => gm (if 1 ≤ j + 1 then at0 p (j + 1 - 1) else 0) (gp x (j + 1))) p.length = _
    rw [gm_zero (.inl rfl), Nat.zero_xor, horner_any (n := p.length) hx hp z]
    unfold ev
    rw [← xs_gm (fun k => gm_lt _ _)]
    exact xs_congr fun j _ => by
      rw [if_pos (by omega), Nat.add_sub_cancel, gm_assoc, gp_add hx]
theorem tlen_le_of {p : List Nat} {n : Nat} (h : ∀ k, n ≤ k → at0 p k = 0) : tlen p ≤ n := by
  rcases tlen_last p with z | z
  · omega
  · by_cases c : tlen p ≤ n
    · exact c
    · exact absurd (h _ (by omega)) z
theorem xor_zero_iff {a b : Nat} : a ^^^ b = 0 ↔ a = b := by
  constructor
  · intro h
    have e : (a ^^^ b) ^^^ b = 0 ^^^ b := by rw [h]
    rw [Nat.xor_assoc, Nat.xor_self, Nat.xor_zero, Nat.zero_xor] at e
    exact e
  · intro h
    rw [h, Nat.xor_self]
/-- the state behind some points -/
structure Ip (ps : List (Nat × Nat)) (r v : List Nat) : Prop where
  orr : Oc r
  ov : Oc v
  tr : tlen r = r.length
  lr : r.length ≤ ps.length
  lv : v.length ≤ ps.length + 1
  val : ∀ q ∈ ps, horner q.1 r = q.2
  van : ∀ x, x < 256 → (horner x v = 0 ↔ ∃ q ∈ ps, q.1 = x)
theorem ip_start : Ip [] [] [1] := by
  refine ⟨oc_nil, oc_of fun c hc => ?_, rfl, Nat.le_refl _, Nat.le_refl _, fun q hq => (by cases hq), fun x hx => ?_⟩
  · simp at hc
    omega
  · constructor
    · intro h
      have e : horner x [1] = 1 := by
        show gm 0 x ^^^ 1 = 1
        rw [gm_zero (.inl rfl)]
        rfl
      omega
    · rintro ⟨q, hq, _⟩
      cases hq
theorem ip_step {ps : List (Nat × Nat)} {r v : List Nat} {x y : Nat} (h : Ip ps r v) (hp : ∀ q ∈ ps, q.1 < 256) (hx : x < 256) (hy : y < 256) (hn : ¬ horner x v = 0) :
    Ip (ps ++ [(x, y)]) (trim (sumL r (v.map (gm (gm (y ^^^ horner x r) (gi (horner x v))))))) (trim (prodL v [x, 1])) := by
  have hv := horner_lt (x := x) h.ov
  have hr := horner_lt (x := x) h.orr
  generalize hf : gm (y ^^^ horner x r) (gi (horner x v)) = f
  refine ⟨oc_trim (oc_sum h.orr (oc_scale f v)), oc_trim (oc_prod _ _), tlen_trim _, ?_, ?_, fun q hq => ?_, fun z hz => ?_⟩
  · rw [trim_length, List.length_append, List.length_singleton]
    refine tlen_le_of fun k hk => ?_
    have := h.lr
    have := h.lv
    rw [at0_sum, at0_scale, at0_none (show r.length ≤ k by omega), at0_none (show v.length ≤ k by omega), gm_zero (.inr rfl)]
    rfl
  · rw [trim_length, List.length_append, List.length_singleton]
    refine tlen_le_of fun k hk => ?_
    have := h.lv
    rw [at0_lin h.ov, at0_none (show v.length ≤ k by omega), if_pos (by omega), at0_none (show v.length ≤ k - 1 by omega), gm_zero (.inr rfl)]
    rfl
  · rcases List.mem_append.mp hq with m | m
    · have q1 := hp q m
      rw [horner_trim q1 (oc_sum h.orr (oc_scale f v)), horner_sum q1 h.orr (oc_scale f v), horner_scale q1 h.ov, (h.van q.1 q1).mpr ⟨q, m, rfl⟩, gm_zero (.inr rfl), Nat.xor_zero]
      exact h.val q m
    · have e : q = (x, y) := by simpa using m
      rw [e]
      show horner x _ = y
      rw [horner_trim hx (oc_sum h.orr (oc_scale f v)), horner_sum hx h.orr (oc_scale f v), horner_scale hx h.ov, ← hf, gm_assoc, gm_comm (gi _), gm_gi hv hn, gm_one (xor_lt hy hr), Nat.xor_comm y, ← Nat.xor_assoc, Nat.xor_self, Nat.zero_xor]
  · rw [horner_trim hz (oc_prod _ _), horner_lin hz hx h.ov]
    constructor
    · intro e
      by_cases c : horner z v = 0
      · obtain ⟨q, hq, e2⟩ := (h.van z hz).mp c
        exact ⟨q, List.mem_append_left _ hq, e2⟩
      · by_cases c2 : x ^^^ z = 0
        · exact ⟨(x, y), by simp, xor_zero_iff.mp c2⟩
        · exact absurd e (gm_ne c c2)
    · rintro ⟨q, hq, e⟩
      rcases List.mem_append.mp hq with m | m
      · rw [(h.van z hz).mpr ⟨q, m, e⟩, gm_zero (.inl rfl)]
      · have e2 : q = (x, y) := by simpa using m
        rw [e2] at e
        have e3 : x = z := e
        rw [e3, Nat.xor_self, gm_zero (.inr rfl)]
end Py

set_option Elab.async false
set_option linter.all false
set_option maxRecDepth 100000
set_option maxHeartbeats 4000000
namespace Mx
open PySem PySem.Spec PyProof.Rows L2 Evl
theorem erase_perm : ∀ (l : List Nat) (i : Nat) (h : i < l.length), (Py.at0 l i :: l.eraseIdx i).Perm l
  | [], i, h => absurd h (Nat.not_lt_zero _)
  | a :: l, 0, _ => List.Perm.refl _
  | a :: l, i + 1, h => by
    have ih := erase_perm l i (by simpa using h)
    show (Py.at0 l i :: a :: l.eraseIdx i).Perm (a :: l)
    exact (List.Perm.swap _ _ _).trans (ih.cons a)
section
variable {K : PySem.W.Frag} {σ : L2.St} {H H' : Hp} {ta tb te tx : TE} {t u : TT} {x y z v : V} {r : R2} {xs ys zs : List V} {p q : Addr} {D : Ends} {tu tw tz : TS} {g : TG} {vss : List (List V)}
theorem el_call2VL {sp : Sp} {E : XK} (h1 : Ev ta σ H x) (h2 : EvL tb σ H ys) (hs : ∀ q H1, Ex H H1 → H1 q = some (.lst ys) → SpL sp ([x, .ref q] ++ []) H1 zs) : EvL (tCall sp [] E (tCons ta (tCons tb tNil))) σ H zs := fun H1 e Q k =>
  h1 H1 e _ fun H2 e2 => h2 H2 (e.trans e2) _ fun q H3 _ e3 hq => hs q H3 ((e.trans e2).trans e3) hq H3 (Ex.refl _) Q (fun p2 H4 n4 e4 h4 => k p2 H4 (fresh_back (e2.trans e3) n4) ((e2.trans e3).trans e4) h4) E
/-- a list of tuples -/
def TL (H : Hp) (p : Addr) (vss : List (List V)) : Prop := ∃ rs : List Addr, H p = some (.lst (rs.map V.ref)) ∧ TupsAt H rs vss
theorem TL.up (h : TL H p vss) (e : Ex H H') : TL H' p vss := by
  obtain ⟨rs, h1, h2⟩ := h
  exact ⟨rs, e _ _ h1, h2.mono e⟩
def EvTL (te : TE) (σ : L2.St) (H : Hp) (vss : List (List V)) : Prop := ∀ H1, Ex H H1 → ∀ Q : VK, (∀ p H2, H1 p = none → Ex H1 H2 → TL H2 p vss → Q (.ref p) H2) → te σ H1 Q
theorem q_asgTL {i : Nat} (h : EvTL te σ H vss) (k : ∀ p H1, H p = none → Ex H H1 → TL H1 p vss → tz D (σ.set i (some (.ref p))) H1) : tSeq (tAsg te (gName i)) tz D σ H := h H (Ex.refl H) _ k
theorem TupsAt.snoc {rs : List Addr} {a : Addr} {vs : List V} : ∀ {rs : List Addr} {vss : List (List V)}, TupsAt H rs vss → H a = some (.tup vs) → TupsAt H (rs ++ [a]) (vss ++ [vs])
  | _, _, .nil, h => .cons h .nil
  | _, _, .cons h t, h2 => .cons h (TupsAt.snoc (rs := rs) t h2)
def Ct (H : Hp) (vss : List (List V)) (Dl : Addr) (i : Nat) (H' : Hp) : Prop := H Dl = none ∧ Ex H H' ∧ ∃ rs : List Addr, H' Dl = some (.lst (rs.map V.ref)) ∧ TupsAt H' rs (vss.take i)
theorem ct_turn {σ2 : L2.St} {Dl : Addr} {i : Nat} {vs : List V} (hp : Ct H vss Dl i H') (hi : vss[i]? = some vs) (hz : vss.length ≤ 40000) (he : EvU te σ2 H vs) :
    tYes σ2 H' fun b H3 => if b = true then te σ2 H3 fun y H4 => ∃ acc, H4 Dl = some (.lst acc) ∧ acc.length < sizeLine ∧ Ct H vss Dl (i + 1) (upd H4 Dl (.lst (acc ++ [y]))) else Ct H vss Dl (i + 1) H3 := by
  obtain ⟨p1, p2, rs, p3, p4⟩ := hp
  show te σ2 H' fun y H4 => ∃ acc, H4 Dl = some (.lst acc) ∧ acc.length < sizeLine ∧ Ct H vss Dl (i + 1) (upd H4 Dl (.lst (acc ++ [y])))
  refine he H' p2 _ fun a H4 na e4 ha => ⟨_, e4 Dl _ p3, sz_lt (by rw [List.length_map, p4.len, List.length_take]; omega), p1, Ex.mut (p2.trans e4) p1, rs ++ [a], ?_, ?_⟩
  · rw [upd_same, List.map_append] <;> rfl
  · have hne : a ≠ Dl := (ne_of_none p3 na).symm
    have k : ∀ b us, H4 b = some (.tup us) → (upd H4 Dl (.lst (rs.map V.ref ++ [.ref a]))) b = some (.tup us) := fun b us hb => by
      have hb2 : b ≠ Dl := fun z => by
        rw [z, e4 Dl _ p3] at hb
        cases hb
      rw [upd_ne hb2]
      exact hb
    have k3 : ∀ (l : List V) {rs2 : List Addr} {wss : List (List V)}, TupsAt H4 rs2 wss → TupsAt (upd H4 Dl (.lst l)) rs2 wss := fun l => by
      intro rs2 wss h
      induction h with
      | nil => exact .nil
      | cons h1 _ ih =>
        refine .cons ?_ ih
        have hb2 : ∀ b us, H4 b = some (.tup us) → b ≠ Dl := fun b us hb z => by
          rw [z, e4 Dl _ p3] at hb
          cases hb
        rw [upd_ne (hb2 _ _ h1)]
        exact h1
    rw [List.take_add_one, hi]
    exact k3 _ ((p4.mono e4).snoc (rs := rs) ha)
theorem et_zR {ta : TA} {j : Nat} {vs : List Nat} {n : Nat} (h : EvA ta σ H [.int (n : Int)]) (hz : vss.length = n) (hn : n ≤ 40000) (hw : ∀ x, wipe ((wipe σ vs).set j (some x)) vs = wipe σ vs)
    (he : ∀ (i : Nat) (us : List V) H1, Ex H H1 → vss[i]? = some us → EvU te ((wipe σ vs).set j (some (.int (i : Int)))) H1 us) : EvTL (tLc (iRng1 ta) (gName j) tYes te vs) σ H vss := fun H0 e Q q => h H0 e _ fun H1 e1 => ⟨(n : Int), rfl, by omega, by omega, fun Dl hD =>
  lc_range (lo := 0) (n := (n : Int).toNat) (Ct H1 vss Dl) ⟨hD, Ex.new hD, [], by rw [upd_same] <;> rfl, by rw [List.take_zero]; exact .nil⟩ (fun i H' hi p => by
    have e0 : (0 : Int) + (i : Int) = (i : Int) := Int.zero_add _
    have hl : i < vss.length := by omega
    show wipe ((wipe σ vs).set j (some (.int ((0 : Int) + (i : Int))))) vs = wipe σ vs ∧ tYes ((wipe σ vs).set j (some (.int ((0 : Int) + (i : Int))))) H' fun b H3 => if b = true then te ((wipe σ vs).set j (some (.int ((0 : Int) + (i : Int))))) H3 fun y H4 => ∃ acc, H4 Dl = some (.lst acc) ∧ acc.length < sizeLine ∧ Ct H1 vss Dl (i + 1) (upd H4 Dl (.lst (acc ++ [y]))) else Ct H1 vss Dl (i + 1) H3
    rw [e0]
    exact ⟨hw _, ct_turn p (List.getElem?_eq_getElem hl) (by omega) (he i _ H1 (e.trans e1) (List.getElem?_eq_getElem hl))⟩) (fun H' p => by
      obtain ⟨p1, p2, rs, p3, p4⟩ := p
      exact q Dl H' (fresh_back e1 p1) (e1.trans p2) ⟨rs, p3, by rw [List.take_of_length_le (by omega)] at p4; exact p4⟩)⟩
/-- list(a list of tuples) -/
theorem et_list (ha : Ev ta σ H (.ref p)) (h : TL H p vss) : EvTL (tCB (fun xs H Q => ∃ p ys, xs = [.ref p] ∧ (SqL K H p ys ∨ SqT K H p ys) ∧ ∀ l, H l = none → Q (.ref l) (upd H l (.lst ys))) (tCons ta tNil)) σ H vss := fun H1 e Q k => by
  obtain ⟨rs, h1, h2⟩ := h
  exact ha H1 e _ fun H2 e2 => ⟨p, _, rfl, Or.inl (sq_of (e2 _ _ (e _ _ h1))), fun l hl => k l _ (fresh_back e2 hl) (e2.trans (Ex.new hl)) ⟨rs, upd_same, h2.mono ((e.trans e2).trans (Ex.new hl))⟩⟩
/-- a loop over a list of tuples that the turns leave -/
theorem q_forTL {n : Nat} {tg : TGs} (h : Ev te σ H (.ref p)) (hT : TL H p vss) (hn : ∀ vs ∈ vss, vs.length = n) (Pv : Nat → L2.St → Hp → Prop) (h0 : ∀ H1, Ex H H1 → Pv 0 σ H1) (hE : ∀ i σ' H', Pv i σ' H' → Ex H H')
    (hs : ∀ i vs σ' H', vss[i]? = some vs → Pv i σ' H' → tg vs σ' H' fun σ2 H2 => tu { D with nx := Pv (i + 1), ct := Pv (i + 1), bk := tz D } σ2 H2) (hd : ∀ σ' H', Pv vss.length σ' H' → tz D σ' H') :
    tSeq (tFor (iList K te) (gTup K n tg) tu) tz D σ H := by
  obtain ⟨rs, h1, h2⟩ := hT
  refine q_forL h (sq_of h1) Pv h0 (fun i σ' H' _ pv => sq_of (hE i σ' H' pv _ _ h1)) (fun i x σ' H' hi pv => ?_) (fun σ' H' pv => hd σ' H' (by rw [List.length_map, h2.len] at pv; exact pv))
  obtain ⟨a, vs, rfl, hv, ha⟩ := (h2.mono (hE i σ' H' pv)).get hi
  exact ⟨a, vs, rfl, st_of ha, hn vs (List.mem_of_getElem? hv), hs i vs σ' H' hv pv⟩
/-- points as values -/
def tv (ps : List (Nat × Nat)) : List (List V) := ps.map fun q => [nV q.1, nV q.2]
def dT (q : Nat × Nat) : PyData := .tuple [.int (q.1 : Int), .int (q.2 : Int)]
theorem dp_tups : ∀ {rs : List Addr} {ps : List (Nat × Nat)}, TupsAt H rs (tv ps) → DpAll K H (rs.map V.ref) (ps.map dT)
  | [], [], _ => .nil
  | [], _ :: _, h => by cases h
  | _ :: _, [], h => by cases h
  | r :: rs, q :: ps, h => by
    cases h with
    | cons h1 h2 => exact .cons (.tup (st_of h1) (.cons (.int _) (.cons (.int _) .nil))) (dp_tups h2)
theorem lay_tups : ∀ ps : List (Nat × Nat), PyData.canLayAll0 (ps.map dT) = true ∧ PyData.depthAll (ps.map dT) ≤ 1
  | [] => ⟨rfl, Nat.zero_le _⟩
  | q :: ps => by
    have ih := lay_tups ps
    refine ⟨?_, ?_⟩
    · show (PyData.canLay0 (dT q) && PyData.canLayAll0 (ps.map dT)) = true
      rw [ih.1] <;> rfl
    · show max (PyData.depth (dT q)) (PyData.depthAll (ps.map dT)) ≤ 1
      have : PyData.depth (dT q) = 1 := rfl
      omega
theorem shaped_tups (ps : List (Nat × Nat)) : SeqAt.shaped (.list (ps.map dT)) = true := by
  unfold SeqAt.shaped
  have h1 : PyData.canLay0 (.list (ps.map dT)) = true := (lay_tups ps).1
  have h2 : PyData.depth (.list (ps.map dT)) ≤ 2 := by
    show PyData.depthAll (ps.map dT) + 1 ≤ 2
    have := (lay_tups ps).2
    omega
  rw [h1, decide_eq_true (show PyData.depth (.list (ps.map dT)) ≤ 64 by omega)] <;> rfl
theorem rv_eqTL {ps : List (Nat × Nat)} (h : TL H p (tv ps)) (h2 : TL H q (tv ps)) : RV (rEqD K) (.ref p) (.ref q) H (.bl true) := by
  obtain ⟨rs, a1, a2⟩ := h
  obtain ⟨ss, b1, b2⟩ := h2
  exact rv_eqD (d := .list (ps.map dT)) (.lst (sq_of a1) (dp_tups a2)) (.lst (sq_of b1) (dp_tups b2)) (shaped_tups ps)
/-- xs[j] = (a, b) -/
theorem q_setT {j : Nat} {vs : List V} (hT : TL H p vss) (h : EvU te σ H vs) (ho : Ev ta σ H (.ref p)) (hi : Ev tb σ H (.int (j : Int))) (hj : j < vss.length) (k : ∀ H1 H2, Ex H H1 → (∀ l, H2 = upd H1 p l → TL H2 p (vss.set j vs) → tz D σ H2)) :
    tSeq (tAsg te (gSub ta tb rSetL)) tz D σ H := h H (Ex.refl H) _ fun a H1 na e1 ha => ho H1 e1 _ fun H2 e2 => hi H2 (e1.trans e2) _ fun H3 e3 => by
  obtain ⟨rs, h1, h2⟩ := hT
  have e13 := (e1.trans e2).trans e3
  have hj2 : j < (rs.map V.ref).length := by rw [List.length_map, h2.len]; exact hj
  refine ⟨p, _, (j : Int), j, rfl, rfl, e13 _ _ h1, ixN_nat hj2, ?_⟩
  refine k H3 _ e13 _ rfl ⟨rs.set j a, by rw [upd_same, List.map_set], ?_⟩
  have h3 := h2.mono e13
  have ha3 : H3 a = some (.tup vs) := e3 _ _ (e2 _ _ ha)
  have k3 : ∀ (l : List V) {rs2 : List Addr} {wss : List (List V)}, TupsAt H3 rs2 wss → TupsAt (upd H3 p (.lst l)) rs2 wss := fun l => by
    intro rs2 wss h
    induction h with
    | nil => exact .nil
    | cons h1' _ ih =>
      refine .cons ?_ ih
      have hb2 : ∀ b us, H3 b = some (.tup us) → b ≠ p := fun b us hb z => by
        rw [z, e13 _ _ h1] at hb
        cases hb
      rw [upd_ne (hb2 _ _ h1')]
      exact h1'
  have st : ∀ {rs : List Addr} {wss : List (List V)} (j : Nat), TupsAt H3 rs wss → TupsAt H3 (rs.set j a) (wss.set j vs) := by
    intro rs wss j h
    induction h generalizing j with
    | nil => exact .nil
    | cons h1' t ih =>
      cases j with
      | zero => exact .cons ha3 t
      | succ j => exact .cons h1' (ih j)
  exact k3 _ (st j h3)
/-- name = a call, told by what the callee promises -/
theorem q_asg_raw {i : Nat} {sp : Sp} {vs : List V} {E : XK} {ta : TA} (h : EvA ta σ H vs) (k : ∀ H1, Ex H H1 → sp (vs ++ []) H1 (fun v H2 => tz D (σ.set i (some v)) H2) E) : tSeq (tAsg (tCall sp [] E ta) (gName i)) tz D σ H := h H (Ex.refl H) _ fun H1 e1 => k H1 e1
theorem q_drop1T {sp : Sp} {E : XK} (h : EvTL te σ H vss) (k : ∀ p H1, H p = none → Ex H H1 → TL H1 p vss → sp ([.ref p] ++ []) H1 (fun _ H2 => D.nx σ H2) E) : tDrop (tCall sp [] E (tCons te tNil)) D σ H := h H (Ex.refl H) _ k
end
end Mx

set_option Elab.async false
set_option linter.all false
namespace Py
open Gf
theorem range_get {α : Type} {f : Nat → α} {n k : Nat} (h : k < n) : ((List.range n).map f)[k]? = some (f k) := by
  rw [List.getElem?_map, List.getElem?_range h] <;> rfl
/-! ### matrices: lists of rows -/
abbrev at1 (M : List (List Nat)) (j : Nat) : List Nat := M.getD j []
theorem at1_get {M : List (List Nat)} {j : Nat} (h : j < M.length) : M[j]? = some (at1 M j) := by
  unfold at1
  rw [List.getD_eq_getElem?_getD, List.getElem?_eq_getElem h] <;> rfl
theorem at1_of {M : List (List Nat)} {j : Nat} {r : List Nat} (h : M[j]? = some r) : at1 M j = r := by
  unfold at1
  rw [List.getD_eq_getElem?_getD, h] <;> rfl
/-- a matrix with so many rows and columns -/
structure Mt (M : List (List Nat)) (r c : Nat) : Prop where
  rows : M.length = r
  cols : ∀ l ∈ M, l.length = c
  oct : ∀ l ∈ M, Oc l
theorem Mt.at {M : List (List Nat)} {r c j : Nat} (h : Mt M r c) (hj : j < r) : (at1 M j).length = c ∧ Oc (at1 M j) := by
  have hm : at1 M j ∈ M := List.mem_of_getElem? (at1_get (by rw [h.rows]; exact hj))
  exact ⟨h.cols _ hm, h.oct _ hm⟩
/-- the rows of a list of digits -/
def rowsOf (D : List Nat) (r c : Nat) : List (List Nat) := (List.range r).map fun j => (D.drop (j * c)).take c
theorem rowsOf_mt {D : List Nat} {r c : Nat} (hl : D.length = r * c) (ho : Oc D) : Mt (rowsOf D r c) r c := by
  unfold rowsOf
  refine ⟨by simp, fun l hl2 => ?_, fun l hl2 => ?_⟩
  · obtain ⟨j, hj, rfl⟩ := List.mem_map.mp hl2
    have hj := List.mem_range.mp hj
    rw [List.length_take, List.length_drop, hl]
    have : (j + 1) * c ≤ r * c := Nat.mul_le_mul_right c hj
    have e : (j + 1) * c = j * c + c := by rw [Nat.add_mul, Nat.one_mul]
    omega
  · obtain ⟨j, hj, rfl⟩ := List.mem_map.mp hl2
    exact (ho.drop _).take _
/-- a sum of multiples of rows -/
def combN (fs : List Nat) (M : List (List Nat)) (w n : Nat) : List Nat := (List.range w).map fun k => xs (fun j => gm (at0 fs j) (at0 (at1 M j) k)) n
def comb (fs : List Nat) (M : List (List Nat)) (w : Nat) : List Nat := combN fs M w fs.length
theorem combN_zero (fs : List Nat) (M : List (List Nat)) (w : Nat) : combN fs M w 0 = List.replicate w 0 := by
  refine ext0 (by unfold combN; simp) fun k hk => ?_
  unfold combN at *
  rw [List.length_map, List.length_range] at hk
  rw [at0_map, if_pos hk]
  refine (at0_of ?_).symm
  rw [List.getElem?_replicate, if_pos hk] <;> rfl
theorem combN_length (fs : List Nat) (M : List (List Nat)) (w n : Nat) : (combN fs M w n).length = w := by
  unfold combN
  simp
theorem combN_oct (fs : List Nat) (M : List (List Nat)) (w n : Nat) : Oc (combN fs M w n) := oc_map (fun k => xs_lt (fun j => gm_lt _ _) n) w
theorem combN_skip {fs : List Nat} {M : List (List Nat)} {w n : Nat} (h : at0 fs n = 0) : combN fs M w (n + 1) = combN fs M w n := by
  unfold combN
  refine List.map_congr_left fun k _ => ?_
  show xs _ n ^^^ gm (at0 fs n) _ = xs _ n
  rw [gm_zero (.inl h), Nat.xor_zero]
theorem combN_next {fs : List Nat} {M : List (List Nat)} {w n : Nat} (hl : (at1 M n).length = w) : combN fs M w (n + 1) = List.zipWith (fun a b => a ^^^ gm (at0 fs n) b) (combN fs M w n) (at1 M n) := by
  refine ext0 (by rw [combN_length, List.length_zipWith, combN_length, hl, Nat.min_self]) fun k hk => ?_
  rw [combN_length] at hk
  refine (at0_of (v := at0 (combN fs M w (n + 1)) k) ?_).symm
  rw [List.getElem?_zipWith, at0_get (by rw [combN_length]; exact hk), at0_get (by rw [hl]; exact hk)]
  show some _ = some _
  congr 1
  unfold combN
  rw [at0_map, at0_map, if_pos hk, if_pos hk]
  rfl
/-- the product of a row and a column -/
def dot (a b : List Nat) : Nat := xs (fun k => gm (at0 a k) (at0 b k)) a.length
theorem dot_lt (a b : List Nat) : dot a b < 256 := xs_lt (fun k => gm_lt _ _) _
def colsOf (M : List (List Nat)) (w : Nat) : List (List Nat) := (List.range w).map fun k => M.map fun r => at0 r k
theorem dot_col {a : List Nat} {M : List (List Nat)} {k : Nat} (h : a.length = M.length) : dot a (M.map fun r => at0 r k) = xs (fun j => gm (at0 a j) (at0 (at1 M j) k)) a.length := by
  unfold dot
  refine xs_congr fun j hj => ?_
  congr 1
  refine at0_of ?_
  rw [List.getElem?_map, at1_get (by omega)] <;> rfl
def times (A M : List (List Nat)) (w : Nat) : List (List Nat) := A.map fun r => (colsOf M w).map fun c => dot r c
theorem times_eq {A M : List (List Nat)} {h n w : Nat} (hA : Mt A h n) (hM : M.length = n) : times A M w = A.map fun r => comb r M w := by
  unfold times
  refine List.map_congr_left fun r hr => ?_
  unfold colsOf comb combN
  rw [List.map_map]
  refine List.map_congr_left fun k _ => ?_
  exact dot_col (by rw [hA.cols r hr, hM])
theorem prod_mt {A M : List (List Nat)} {h n w : Nat} (hA : Mt A h n) : Mt (A.map fun r => comb r M w) h w := by
  refine ⟨by rw [List.length_map, hA.rows], fun l hl => ?_, fun l hl => ?_⟩
  · obtain ⟨r, _, rfl⟩ := List.mem_map.mp hl
    exact combN_length _ _ _ _
  · obtain ⟨r, _, rfl⟩ := List.mem_map.mp hl
    exact combN_oct _ _ _ _
/-- a column as a matrix -/
def colM (v : List Nat) : List (List Nat) := v.map fun x => [x]
theorem comb_col {r v : List Nat} (h : r.length = v.length) : at0 (comb r (colM v) 1) 0 = dot r v := by
  unfold comb combN dot
  rw [at0_map, if_pos (by decide)]
  refine xs_congr fun j hj => ?_
  congr 1
  unfold colM
  rw [at1_of (r := [at0 v j]) (by rw [List.getElem?_map, at0_get (by omega)]; rfl)]
  rfl
def unit (n : Nat) : List (List Nat) := (List.range n).map fun i => (List.range n).map fun j => if i = j then 1 else 0
theorem unit_mt (n : Nat) : Mt (unit n) n n := by
  unfold unit
  refine ⟨by simp, fun l hl => ?_, fun l hl => ?_⟩
  · obtain ⟨i, _, rfl⟩ := List.mem_map.mp hl
    simp
  · obtain ⟨i, _, rfl⟩ := List.mem_map.mp hl
    refine oc_map (fun k => ?_) n
    split <;> decide
def vand (xs : List Nat) (w : Nat) : List (List Nat) := xs.map fun x => (List.range w).map fun k => gp x k
theorem vand_mt (xs : List Nat) (w : Nat) : Mt (vand xs w) xs.length w := by
  unfold vand
  refine ⟨by simp, fun l hl => ?_, fun l hl => ?_⟩
  · obtain ⟨x, _, rfl⟩ := List.mem_map.mp hl
    simp
  · obtain ⟨x, _, rfl⟩ := List.mem_map.mp hl
    exact oc_map (fun k => gp_lt _ _) w
end Py

set_option Elab.async false
set_option linter.all false
set_option maxRecDepth 100000
set_option maxHeartbeats 4000000
namespace Mx
open PySem PySem.Spec PyProof.Rows L2 Evl
section
variable {K : PySem.W.Frag} {σ : L2.St} {H H0 H' : Hp} {ta0 : TA} {ta tb tc te tx : TE} {t u : TT} {x y z v : V} {r : R2} {xs ys zs : List V} {p q : Addr} {D : Ends} {tu tw tz : TS} {g : TG} {M N : List (List Nat)} {rs : List Addr}
/-! ### lists of lists of numbers -/
def LR (H : Hp) (rs : List Addr) (M : List (List Nat)) : Prop := Paired (fun r l => LN H r l) rs M
theorem LR.mono (e : Ex H H') (h : LR H rs M) : LR H' rs M := Paired.mono (fun _ _ q => LN.up q e) h
theorem LR.len (h : LR H rs M) : rs.length = M.length := Paired.length h
theorem LR.at : ∀ {rs : List Addr} {M : List (List Nat)} {k : Nat}, LR H rs M → k < M.length → ∃ r, rs[k]? = some r ∧ LN H r (Py.at1 M k)
  | _, _, _, .nil, h => absurd h (Nat.not_lt_zero _)
  | _, _, 0, .cons h _, _ => ⟨_, rfl, h⟩
  | _, _, k + 1, .cons _ t, h => LR.at (k := k) t (by simpa using h)
theorem LR.of {k : Nat} {v : V} (h : LR H rs M) (hv : (rs.map V.ref)[k]? = some v) : ∃ r, v = .ref r ∧ k < M.length ∧ LN H r (Py.at1 M k) := by
  have hk : k < M.length := by
    rw [← h.len]
    simpa using (List.getElem?_eq_some_iff.mp hv).1
  obtain ⟨r, h1, h2⟩ := h.at hk
  rw [List.getElem?_map, h1] at hv
  exact ⟨r, (Option.some.inj hv).symm, hk, h2⟩
def MN (H : Hp) (p : Addr) (M : List (List Nat)) : Prop := ∃ rs : List Addr, H p = some (.lst (rs.map V.ref)) ∧ LR H rs M
theorem MN.up (h : MN H p M) (e : Ex H H') : MN H' p M := by
  obtain ⟨rs, h1, h2⟩ := h
  exact ⟨rs, e _ _ h1, h2.mono e⟩
/-- .. whose rows are new ones -/
def MF (H0 H : Hp) (p : Addr) (M : List (List Nat)) : Prop := ∃ rs : List Addr, H p = some (.lst (rs.map V.ref)) ∧ LR H rs M ∧ ∀ r ∈ rs, H0 r = none
theorem MF.mn (h : MF H0 H p M) : MN H p M := by
  obtain ⟨rs, h1, h2, _⟩ := h
  exact ⟨rs, h1, h2⟩
theorem MF.back (h : MF H0 H p M) (e : Ex H' H0) : MF H' H p M := by
  obtain ⟨rs, h1, h2, h3⟩ := h
  exact ⟨rs, h1, h2, fun r hr => fresh_back e (h3 r hr)⟩
theorem MF.up (h : MF H0 H p M) (e : Ex H H') : MF H0 H' p M := by
  obtain ⟨rs, h1, h2, h3⟩ := h
  exact ⟨rs, e _ _ h1, h2.mono e, h3⟩
def EvM (te : TE) (σ : L2.St) (H : Hp) (M : List (List Nat)) : Prop := ∀ H1, Ex H H1 → ∀ Q : VK, (∀ p H2, H1 p = none → Ex H1 H2 → MF H1 H2 p M → Q (.ref p) H2) → te σ H1 Q
def RetM (M : List (List Nat)) (H : Hp) (Q : VK) : Prop := ∀ p H', H p = none → Ex H H' → MF H H' p M → Q (.ref p) H'
def SpM (sp : Sp) (vs : List V) (H : Hp) (M : List (List Nat)) : Prop := ∀ H1, Ex H H1 → ∀ Q : VK, (∀ p H2, H1 p = none → Ex H1 H2 → MF H1 H2 p M → Q (.ref p) H2) → ∀ E : XK, sp vs H1 Q E
theorem em_call {sp : Sp} {dvs vs : List V} {E : XK} {ta : TA} (h : EvA ta σ H vs) (hs : SpM sp (vs ++ dvs) H M) : EvM (tCall sp dvs E ta) σ H M := fun H1 e Q q =>
  h H1 e _ fun H2 e2 => hs H2 (e.trans e2) Q (fun p H3 n3 e3 h3 => q p H3 (fresh_back e2 n3) (e2.trans e3) (h3.back e2)) E
theorem s_retM (h : EvM te σ H M) (k : ∀ p H1, H p = none → Ex H H1 → MF H H1 p M → D.rt (.ref p) H1) : tRet te D σ H := h H (Ex.refl H) _ k
theorem q_asgM {i : Nat} (h : EvM te σ H M) (k : ∀ p H1, H p = none → Ex H H1 → MF H H1 p M → tz D (σ.set i (some (.ref p))) H1) : tSeq (tAsg te (gName i)) tz D σ H := h H (Ex.refl H) _ k
theorem em_is (h : EvM te σ H M) (e : M = N) : EvM te σ H N := e ▸ h
/-! comprehensions of lists -/
def Cm (H : Hp) (M : List (List Nat)) (Dl : Addr) (i : Nat) (H' : Hp) : Prop := H Dl = none ∧ Ex H H' ∧ ∃ rs : List Addr, H' Dl = some (.lst (rs.map V.ref)) ∧ LR H' rs (M.take i) ∧ ∀ r ∈ rs, H r = none ∧ r ≠ Dl
theorem lr_upd {Dl : Addr} {o : HO} : ∀ {rs : List Addr} {M : List (List Nat)}, LR H rs M → (∀ r ∈ rs, r ≠ Dl) → LR (upd H Dl o) rs M
  | _, _, .nil, _ => .nil
  | _, _, .cons h t, n => .cons (by
      show upd H Dl o _ = _
      rw [upd_ne (n _ (List.mem_cons_self ..))]
      exact h) (lr_upd t fun r hr => n r (List.mem_cons_of_mem _ hr))
theorem cm_turn {σ2 : L2.St} {Dl : Addr} {i : Nat} {l : List Nat} (hp : Cm H M Dl i H') (hi : M[i]? = some l) (hz : M.length ≤ 40000) (he : EvL te σ2 H (l.map nV)) :
    tYes σ2 H' fun b H3 => if b = true then te σ2 H3 fun y H4 => ∃ acc, H4 Dl = some (.lst acc) ∧ acc.length < sizeLine ∧ Cm H M Dl (i + 1) (upd H4 Dl (.lst (acc ++ [y]))) else Cm H M Dl (i + 1) H3 := by
  obtain ⟨p1, p2, rs, p3, p4, p5⟩ := hp
  show te σ2 H' fun y H4 => ∃ acc, H4 Dl = some (.lst acc) ∧ acc.length < sizeLine ∧ Cm H M Dl (i + 1) (upd H4 Dl (.lst (acc ++ [y])))
  refine he H' p2 _ fun a H4 na e4 ha => ⟨_, e4 Dl _ p3, sz_lt (by rw [List.length_map, p4.len, List.length_take]; omega), p1, Ex.mut (p2.trans e4) p1, rs ++ [a], ?_, ?_, ?_⟩
  · rw [upd_same, List.map_append] <;> rfl
  · have hne : a ≠ Dl := (ne_of_none p3 na).symm
    rw [List.take_add_one, hi]
    refine Paired.snoc (lr_upd (p4.mono e4) fun r hr => (p5 r hr).2) ?_
    show upd H4 Dl _ a = _
    rw [upd_ne hne]
    exact ha
  · intro r hr
    rcases List.mem_append.mp hr with h | h
    · exact p5 r h
    · rw [List.mem_singleton.mp h]
      exact ⟨fresh_back p2 na, (ne_of_none p3 na).symm⟩
theorem cm_zero {Dl : Addr} (hD : H Dl = none) : Cm H M Dl 0 (upd H Dl (.lst [])) := ⟨hD, Ex.new hD, [], by rw [upd_same] <;> rfl, by rw [List.take_zero]; exact .nil, fun r hr => nomatch hr⟩
theorem cm_end {Dl : Addr} {H1 : Hp} (e1 : Ex H H1) (h : Cm H1 M Dl M.length H') : H Dl = none ∧ Ex H H' ∧ MF H H' Dl M := by
  obtain ⟨p1, p2, rs, p3, p4, p5⟩ := h
  rw [List.take_length] at p4
  exact ⟨fresh_back e1 p1, e1.trans p2, rs, p3, p4, fun r hr => fresh_back e1 (p5 r hr).1⟩
theorem em_zR {ta : TA} {j : Nat} {vs : List Nat} {n : Nat} (h : EvA ta σ H [.int (n : Int)]) (hz : M.length = n) (hn : n ≤ 40000) (hw : ∀ x, wipe ((wipe σ vs).set j (some x)) vs = wipe σ vs)
    (he : ∀ (i : Nat) (l : List Nat) H1, Ex H H1 → M[i]? = some l → EvL te ((wipe σ vs).set j (some (.int (i : Int)))) H1 (l.map nV)) : EvM (tLc (iRng1 ta) (gName j) tYes te vs) σ H M := fun H0 e Q q => h H0 e _ fun H1 e1 => ⟨(n : Int), rfl, by omega, by omega, fun Dl hD =>
  lc_range (lo := 0) (n := (n : Int).toNat) (Cm H1 M Dl) (cm_zero hD) (fun i H' hi p => by
    have e0 : (0 : Int) + (i : Int) = (i : Int) := Int.zero_add _
    have hl : i < M.length := by omega
    show wipe ((wipe σ vs).set j (some (.int ((0 : Int) + (i : Int))))) vs = wipe σ vs ∧ tYes ((wipe σ vs).set j (some (.int ((0 : Int) + (i : Int))))) H' fun b H3 => if b = true then te ((wipe σ vs).set j (some (.int ((0 : Int) + (i : Int))))) H3 fun y H4 => ∃ acc, H4 Dl = some (.lst acc) ∧ acc.length < sizeLine ∧ Cm H1 M Dl (i + 1) (upd H4 Dl (.lst (acc ++ [y]))) else Cm H1 M Dl (i + 1) H3
    rw [e0]
    exact ⟨hw _, cm_turn p (List.getElem?_eq_getElem hl) (by omega) (he i _ H1 (e.trans e1) (List.getElem?_eq_getElem hl))⟩) (fun H' p => by
      have e2 : (n : Int).toNat = M.length := by omega
      rw [e2] at p
      obtain ⟨a, b, c⟩ := cm_end e1 p
      exact q Dl H' a b c)⟩
theorem em_zL {a : Addr} {tl : TE} {j : Nat} {vs : List Nat} (h : Ev tl σ H (.ref a)) (hx : SqL K H a xs) (hz : M.length = xs.length) (hn : xs.length ≤ 40000) (hw : ∀ x, wipe ((wipe σ vs).set j (some x)) vs = wipe σ vs)
    (he : ∀ (i : Nat) (x : V) (l : List Nat) H1, Ex H H1 → xs[i]? = some x → M[i]? = some l → EvL te ((wipe σ vs).set j (some x)) H1 (l.map nV)) : EvM (tLc (iList K tl) (gName j) tYes te vs) σ H M := fun H0 e Q q => h H0 e _ fun H1 e1 => ⟨a, rfl, ⟨xs, ex_l (e.trans e1) hx⟩, fun Dl hD =>
  lc_list (xs := xs) (Cm H1 M Dl) (cm_zero hD) (fun i H' _ p => ex_l ((e.trans e1).trans p.2.1) hx) (fun i x H' hi p => by
    have hl : i < M.length := by rw [hz]; exact (List.getElem?_eq_some_iff.mp hi).1
    exact ⟨hw x, cm_turn p (List.getElem?_eq_getElem hl) (by omega) (he i x _ H1 (e.trans e1) hi (List.getElem?_eq_getElem hl))⟩) (fun H' p => by
      rw [← hz] at p
      obtain ⟨a, b, c⟩ := cm_end e1 p
      exact q Dl H' a b c)⟩
theorem em_zM {a : Addr} {tl : TE} {j : Nat} {vs : List Nat} (h : Ev tl σ H (.ref a)) (hN : MN H a N) (hz : M.length = N.length) (hn : N.length ≤ 40000) (hw : ∀ x, wipe ((wipe σ vs).set j (some x)) vs = wipe σ vs)
    (he : ∀ (i : Nat) (r : Addr) H1, Ex H H1 → i < N.length → LN H1 r (Py.at1 N i) → EvL te ((wipe σ vs).set j (some (.ref r))) H1 ((Py.at1 M i).map nV)) : EvM (tLc (iList K tl) (gName j) tYes te vs) σ H M := by
  obtain ⟨rs, h1, h2⟩ := hN
  refine em_zL h (sq_of h1) (by rw [List.length_map, h2.len, hz]) (by rw [List.length_map, h2.len]; exact hn) hw fun i x l H1 e hx hl => ?_
  obtain ⟨r, rfl, hi, hr⟩ := (h2.mono e).of hx
  rw [← Py.at1_of hl]
  exact he i r H1 e hi hr
/-- values over a matrix's rows -/
theorem el_zM {a : Addr} {tl : TE} {j : Nat} {vs : List Nat} {ns : List Nat} (h : Ev tl σ H (.ref a)) (hN : MN H a N) (hz : ns.length = N.length) (hn : N.length ≤ 40000) (hw : ∀ x, wipe ((wipe σ vs).set j (some x)) vs = wipe σ vs)
    (he : ∀ (i : Nat) (r : Addr) H1, Ex H H1 → i < N.length → LN H1 r (Py.at1 N i) → Ev te ((wipe σ vs).set j (some (.ref r))) H1 (nV (Py.at0 ns i))) : EvL (tLc (iList K tl) (gName j) tYes te vs) σ H (ns.map nV) := by
  obtain ⟨rs, h1, h2⟩ := hN
  refine el_zL h (sq_of h1) (by rw [List.length_map, List.length_map, h2.len, hz]) (by rw [List.length_map, h2.len]; exact hn) hw fun i x w H1 e hx hw => ?_
  obtain ⟨r, rfl, hi, hr⟩ := (h2.mono e).of hx
  rw [nat_get (by omega)] at hw
  rw [← Option.some.inj hw]
  exact he i r H1 e hi hr
/-- values over a range -/
theorem el_zRN {ta : TA} {j : Nat} {vs : List Nat} {n : Nat} {ns : List Nat} (h : EvA ta σ H [.int (n : Int)]) (hz : ns.length = n) (hn : n ≤ 40000) (hw : ∀ x, wipe ((wipe σ vs).set j (some x)) vs = wipe σ vs)
    (he : ∀ (i : Nat) H1, Ex H H1 → i < n → Ev te ((wipe σ vs).set j (some (.int (i : Int)))) H1 (nV (Py.at0 ns i))) : EvL (tLc (iRng1 ta) (gName j) tYes te vs) σ H (ns.map nV) := by
  refine el_zR h (by rw [List.length_map, hz]) hn hw fun i w H1 e hw => ?_
  have hi : i < n := by
    rw [← hz]
    simpa using (List.getElem?_eq_some_iff.mp hw).1
  rw [nat_get (by omega)] at hw
  rw [← Option.some.inj hw]
  exact he i H1 e hi
theorem el_zLN {a : Addr} {tl : TE} {j : Nat} {vs : List Nat} {ms ns : List Nat} (h : Ev tl σ H (.ref a)) (hN : LN H a ms) (hz : ns.length = ms.length) (hn : ms.length ≤ 40000) (hw : ∀ x, wipe ((wipe σ vs).set j (some x)) vs = wipe σ vs)
    (he : ∀ (i : Nat) H1, Ex H H1 → i < ms.length → Ev te ((wipe σ vs).set j (some (nV (Py.at0 ms i)))) H1 (nV (Py.at0 ns i))) : EvL (tLc (iList K tl) (gName j) tYes te vs) σ H (ns.map nV) := by
  refine el_zL h (sq_of hN) (by rw [len_map, len_map, hz]) (by rw [len_map]; exact hn) hw fun i x w H1 e hx hw => ?_
  obtain ⟨hi, rfl⟩ := nat_of_get hx
  rw [nat_get (by omega)] at hw
  rw [← Option.some.inj hw]
  exact he i H1 e hi
/-! loops over rows, over two lists at once -/
theorem s_forM {a : Addr} {tl : TE} {j : Nat} (h : Ev tl σ H (.ref a)) (hM : MN H a M) (Pv : Nat → L2.St → Hp → Prop) (h0 : ∀ H1, Ex H H1 → Pv 0 σ H1) (hE : ∀ i σ' H', Pv i σ' H' → Ex H H')
    (hs : ∀ i r σ' H', i < M.length → LN H' r (Py.at1 M i) → Pv i σ' H' → tu { D with nx := Pv (i + 1), ct := Pv (i + 1), bk := D.nx } (σ'.set j (some (.ref r))) H') (hd : ∀ σ' H', Pv M.length σ' H' → D.nx σ' H') : tFor (iList K tl) (gName j) tu D σ H := by
  obtain ⟨rs, h1, h2⟩ := hM
  refine s_forLn h (sq_of h1) Pv h0 (fun i σ' H' _ pv => sq_of (hE i σ' H' pv _ _ h1)) (fun i x σ' H' hx pv => ?_) (fun σ' H' pv => hd σ' H' (by rw [List.length_map, h2.len] at pv; exact pv))
  obtain ⟨r, rfl, hi, hr⟩ := (h2.mono (hE i σ' H' pv)).of hx
  exact hs i r σ' H' hi hr pv
theorem q_forM {a : Addr} {tl : TE} {j : Nat} (h : Ev tl σ H (.ref a)) (hM : MN H a M) (Pv : Nat → L2.St → Hp → Prop) (h0 : ∀ H1, Ex H H1 → Pv 0 σ H1) (hE : ∀ i σ' H', Pv i σ' H' → Ex H H')
    (hs : ∀ i r σ' H', i < M.length → LN H' r (Py.at1 M i) → Pv i σ' H' → tu { D with nx := Pv (i + 1), ct := Pv (i + 1), bk := tz D } (σ'.set j (some (.ref r))) H') (hd : ∀ σ' H', Pv M.length σ' H' → tz D σ' H') : tSeq (tFor (iList K tl) (gName j) tu) tz D σ H :=
  s_forM (D := { D with nx := tz D }) h hM Pv h0 hE hs hd
theorem q_forZip {ta : TA} {a b : Addr} {j1 j2 : Nat} (h : EvA ta σ H [.ref a, .ref b]) (hx : SqL K H a xs) (hy : SqL K H b ys) (Pv : Nat → L2.St → Hp → Prop) (h0 : ∀ H1, Ex H H1 → Pv 0 σ H1) (hl : ∀ i σ' H', Pv i σ' H' → SqL K H' a xs ∧ SqL K H' b ys)
    (hs : ∀ (i : Nat) x y σ' H' H2, xs[i]? = some x → ys[i]? = some y → Pv i σ' H' → Ex H' H2 → tu { D with nx := Pv (i + 1), ct := Pv (i + 1), bk := tz D } ((σ'.set j1 (some x)).set j2 (some y)) H2) (hd : ∀ σ' H', Pv (min xs.length ys.length) σ' H' → tz D σ' H') :
    tSeq (tFor (iZip K ta) (gTup K 2 (gCons (gName j1) (gCons (gName j2) gNil))) tu) tz D σ H :=
  h H (Ex.refl H) _ fun H1 e => ⟨a, b, xs, ys, rfl, ex_l e hx, ex_l e hy, for_it (D := { D with nx := tz D }) (walk_zip (xs := xs) (ys := ys) rfl) Pv (h0 H1 e) (fun i σ' H' _ p => hl i σ' H' p) (fun i v σ' H' H2 hi p yy => by
    obtain ⟨T, x, y, rfl, hT, rfl, hx2, hy2⟩ := yy
    exact ⟨T, [x, y], rfl, st_of upd_same, rfl, x, [y], rfl, y, [], rfl, rfl, hs i x y σ' H' _ hx2 hy2 p (Ex.new hT)⟩) hd⟩
/-! three names at once -/
theorem q_par3 {ta : TA} {i j l : Nat} (h : EvA ta σ H [x, y, z]) (k : ∀ H1, Ex H H1 → tz D (((σ.set i (some x)).set j (some y)).set l (some z)) H1) : tSeq (tPar3 i j l ta) tz D σ H := h H (Ex.refl H) _ fun H1 e => ⟨x, y, z, rfl, k H1 e⟩
theorem q_ifPar3 {b : Bool} {ta : TA} {i j l : Nat} (h : EvT t σ H b) (h1 : b = true → EvA ta σ H [x, y, z]) (h2 : b = false → ((σ.set i (some x)).set j (some y)).set l (some z) = σ) (k : ∀ H1, Ex H H1 → tz D (((σ.set i (some x)).set j (some y)).set l (some z)) H1) : tSeq (tIfS t (tPar3 i j l ta) tNext) tz D σ H :=
  q_when h (fun hb H1 e1 => h1 hb H1 e1 _ fun H2 e2 => ⟨x, y, z, rfl, k H2 (e1.trans e2)⟩) (fun hb H1 e1 => by
    have g := k H1 e1
    rw [h2 hb] at g
    exact g)
theorem q_par3MML {i j l : Nat} (h1 : EvM ta σ H M) (h2 : EvM tb σ H N) (h3 : EvL tc σ H xs) (k : ∀ p q r H1, H p = none → H q = none → H r = none → Ex H H1 → MF H H1 p M → MF H H1 q N → H1 r = some (.lst xs) → tz D (((σ.set i (some (.ref p))).set j (some (.ref q))).set l (some (.ref r))) H1) :
    tSeq (tPar3 i j l (tCons ta (tCons tb (tCons tc tNil)))) tz D σ H := h1 H (Ex.refl H) _ fun p H1 np e1 hp => h2 H1 e1 _ fun q H2 nq e2 hq => h3 H2 (e1.trans e2) _ fun r H3 nr e3 hr =>
  ⟨_, _, _, rfl, k p q r H3 np (fresh_back e1 nq) (fresh_back (e1.trans e2) nr) ((e1.trans e2).trans e3) ((hp.up e2).up e3) ((hq.back e1).up e3) hr⟩
/-! comparisons -/
def dM (M : List (List Nat)) : PyData := .list (M.map fun l => .list (l.map dN))
theorem dp_rows : ∀ {rs : List Addr} {M : List (List Nat)}, LR H rs M → DpAll K H (rs.map V.ref) (M.map fun l => .list (l.map dN))
  | _, _, .nil => .nil
  | _, _, .cons h t => .cons (dp_list (sq_of h)) (dp_rows t)
theorem dp_mat (h : MN H p M) : Dp K H (.ref p) (dM M) := by
  obtain ⟨rs, h1, h2⟩ := h
  exact .lst (sq_of h1) (dp_rows h2)
theorem lay_rows : ∀ M : List (List Nat), PyData.canLayAll0 (M.map fun l => .list (l.map dN)) = true ∧ PyData.depthAll (M.map fun l => .list (l.map dN)) ≤ 1
  | [] => ⟨rfl, Nat.zero_le _⟩
  | l :: M => by
    have ih := lay_rows M
    refine ⟨?_, ?_⟩
    · show (PyData.canLayAll0 (l.map dN) && PyData.canLayAll0 (M.map fun l => .list (l.map dN))) = true
      rw [ih.1, (lay_nats l).1] <;> rfl
    · show max (PyData.depthAll (l.map dN) + 1) (PyData.depthAll (M.map fun l => .list (l.map dN))) ≤ 1
      rw [(lay_nats l).2]
      omega
theorem shaped_mat (M : List (List Nat)) : SeqAt.shaped (dM M) = true := by
  unfold SeqAt.shaped
  have h1 : PyData.canLay0 (dM M) = true := (lay_rows M).1
  have h2 : PyData.depth (dM M) ≤ 2 := by
    show PyData.depthAll _ + 1 ≤ 2
    have := (lay_rows M).2
    omega
  rw [h1, decide_eq_true (show PyData.depth (dM M) ≤ 64 by omega)] <;> rfl
theorem rv_eqM (h : MN H p M) (h2 : MN H q M) : RV (rEqD K) (.ref p) (.ref q) H (.bl true) := rv_eqD (dp_mat h) (dp_mat h2) (shaped_mat M)
theorem rv_neM (h : MN H p M) (h2 : MN H q M) : RV (rNeD K) (.ref p) (.ref q) H (.bl false) := rv_neD (dp_mat h) (dp_mat h2) (shaped_mat M)
theorem ev_opVM (ha : Ev ta σ H x) (hb : EvM tb σ H M) (hr : ∀ q H1, MN H1 q M → Ex H H1 → RV r x (.ref q) H1 z) : Ev (tOp r ta tb) σ H z := fun H1 e Q k =>
  ha H1 e _ fun H2 e2 => hb H2 (e.trans e2) _ fun q H3 _ e3 hq => hr q H3 hq.mn ((e.trans e2).trans e3) H3 (Ex.refl _) Q fun H4 e4 => k H4 ((e2.trans e3).trans e4)
/-- m[i] of a matrix -/
theorem mn_ix {k : Nat} (h : MN H p M) (hk : k < M.length) : ∃ r, LN H r (Py.at1 M k) ∧ RV (rIxL K) (.ref p) (.int (k : Int)) H (.ref r) := by
  obtain ⟨rs, h1, h2⟩ := h
  obtain ⟨r, h3, h4⟩ := h2.at hk
  exact ⟨r, h4, rv_ixLN (sq_of h1) (by rw [List.getElem?_map, h3] <;> rfl)⟩
theorem mf_ix {k : Nat} (h : MF H0 H p M) (hk : k < M.length) : ∃ r, LN H r (Py.at1 M k) ∧ H0 r = none ∧ RV (rIxL K) (.ref p) (.int (k : Int)) H (.ref r) := by
  obtain ⟨rs, h1, h2, h5⟩ := h
  obtain ⟨r, h3, h4⟩ := h2.at hk
  exact ⟨r, h4, h5 r (List.mem_of_getElem? h3), rv_ixLN (sq_of h1) (by rw [List.getElem?_map, h3] <;> rfl)⟩
theorem ev_ix2 {i j : Nat} (h : EvM te σ H M) (h1 : ∀ H1, Ex H H1 → Ev ta σ H1 (.int (i : Int))) (h2 : ∀ H1, Ex H H1 → Ev tb σ H1 (.int (j : Int))) (hi : i < M.length) (hj : j < (Py.at1 M i).length) : Ev (tOp (rIxL K) (tOp (rIxL K) te ta) tb) σ H (nV (Py.at0 (Py.at1 M i) j)) := fun H1 e Q k =>
  h H1 e _ fun p H2 _ e2 hp => by
    obtain ⟨r, hr, hv⟩ := mn_ix (K := K) hp.mn hi
    exact h1 H2 (e.trans e2) H2 (Ex.refl _) _ fun H3 e3 => hv H3 e3 _ fun H4 e4 => h2 H2 (e.trans e2) H4 (e3.trans e4) _ fun H5 e5 => rv_ixLN (sq_of (hr.up ((e3.trans e4).trans e5))) (nat_get hj) H5 (Ex.refl _) Q fun H6 e6 => k H6 ((((e2.trans e3).trans e4).trans e5).trans e6)
/-- two small numbers in a message -/
theorem num_len : Gf.alln (fun n => Nat.ble ((toString (n : Int) : Str).length) 10 && Nat.ble ((n : Int).natAbs.log2) 100) 256 = true := by decide +kernel
theorem js2 {R : Str → Hp → Prop} {td : TE} {c1 c2 : Str} {a b : Nat} (ha : Ev ta σ H (nV a)) (hc : Ev tc σ H (.str c1)) (hb : Ev tb σ H (nV b)) (hd : Ev td σ H (.str c2)) (h1 : a < 256) (h2 : b < 256) (l1 : c1.length ≤ 1000) (l2 : c2.length ≤ 1000)
    (k : ∀ s H1, Ex H H1 → R s H1) : tJs [tFmt ta, tc, tFmt tb, td] Str.empty σ H R := by
  obtain ⟨a1, a2⟩ := Bool.and_eq_true_iff.mp (Gf.alln_at num_len a h1)
  obtain ⟨b1, b2⟩ := Bool.and_eq_true_iff.mp (Gf.alln_at num_len b h2)
  have a1 : (toString ((a : Nat) : Int) : Str).length ≤ 10 := Nat.le_of_ble_eq_true a1
  have b1 : (toString ((b : Nat) : Int) : Str).length ≤ 10 := Nat.le_of_ble_eq_true b1
  have a2 := Nat.le_of_ble_eq_true a2
  have b2 := Nat.le_of_ble_eq_true b2
  have z0 : (Str.empty : Str).length = 0 := by decide
  have z1 : (Str.empty ++ (toString ((a : Nat) : Int) : Str)).length ≤ 10 := by
    rw [strLen_append]
    omega
  have z2 : (Str.empty ++ (toString ((a : Nat) : Int) : Str) ++ c1).length ≤ 1010 := by
    rw [strLen_append]
    omega
  have z3 : (Str.empty ++ (toString ((a : Nat) : Int) : Str) ++ c1 ++ (toString ((b : Nat) : Int) : Str)).length ≤ 1020 := by
    rw [strLen_append]
    omega
  have z4 : (Str.empty ++ (toString ((a : Nat) : Int) : Str) ++ c1 ++ (toString ((b : Nat) : Int) : Str) ++ c2).length ≤ 2020 := by
    rw [strLen_append]
    omega
  refine ha H (Ex.refl H) _ fun H1 e1 => Or.inr ⟨_, rfl, Nat.lt_of_le_of_lt a2 (by decide), _, rfl, sz_of (by omega), ?_⟩
  refine hc H1 e1 _ fun H2 e2 => ⟨_, rfl, sz_of (by omega), ?_⟩
  refine hb H2 (e1.trans e2) _ fun H3 e3 => Or.inr ⟨_, rfl, Nat.lt_of_le_of_lt b2 (by decide), _, rfl, sz_of (by omega), ?_⟩
  refine hd H3 ((e1.trans e2).trans e3) _ fun H4 e4 => ⟨_, rfl, sz_of (by omega), ?_⟩
  exact k _ H4 (((e1.trans e2).trans e3).trans e4)
theorem s_dropC {sp : Sp} {E : XK} {vs : List V} (h : EvA ta0 σ H vs) (k : ∀ H1, Ex H H1 → sp (vs ++ []) H1 (fun _ H2 => D.nx σ H2) E) : tDrop (tCall sp [] E ta0) D σ H := h H (Ex.refl H) _ k
theorem rv_up (h : RV r x y H z) (e : Ex H H') : RV r x y H' z := fun H1 e1 => h H1 (e.trans e1)
theorem dne_t {a b : Nat} (h : (!decide (V.int (a : Int) = V.int (b : Int))) = true) : ¬ a = b := by
  intro q
  rw [q] at h
  simp at h
theorem dne_f {a b : Nat} (h : (!decide (V.int (a : Int) = V.int (b : Int))) = false) : a = b := by
  have q := of_decide_eq_true (show decide (V.int (a : Int) = V.int (b : Int)) = true by simpa using h)
  have := V.int.inj q
  omega
end
section
variable {X : Cx} {K : PySem.W.Frag}
theorem pi_listK {tg e : Expr} {te : TE} (h : X.K = K) (he : PE X e te) : PI X tg e (iList K te) := h ▸ pi_list he
end
end Mx

set_option Elab.async false
set_option linter.all false
set_option maxRecDepth 100000
set_option maxHeartbeats 4000000
namespace Mx
open PySem PySem.Spec PyProof.Rows L2 Evl
/-! ### any, sum of lists and tuples of ints -/
section
variable {prog : Program} {w : World} {A : Around} {E : Value → Shared → Prop} {s : Shared} {l : Addr} {its : List Value} {ns : List Int} {Q : Value → Shared → Prop}
theorem iter_tup {items : Array Value} (hl : s.heap.IsTuple l items)
    (h : ∀ s₂ : Shared, s₂ = { s with heap := s.heap.push { cls := .type "tuple_iterator", data := .fields #[.ref l, .int 0 0] } } →
      (s₂.heap.IsTupleIter s.heap.objs.size l 0 ∧ s₂.heap.IsTuple l items) → (∀ b ∈ [s.heap.objs.size, l], b < s₂.heap.objs.size) → l ≠ s.heap.objs.size → Q (.ref s.heap.objs.size) s₂) : wpAny (model prog w) A (pyIter (.ref l)) Q E s := by
  have hlt : l < s.heap.objs.size := by obtain ⟨_, e, _⟩ := hl; exact Heap.lt_size e
  refine wpAny_pyIter_tuple hl (h _ rfl ⟨⟨_, Heap.get?_push_size _ rfl, rfl, rfl⟩, hl.push _⟩ (fun b hb => ?_) (Nat.ne_of_lt hlt))
  show b < (s.heap.push _).objs.size
  rw [Heap.size_push]
  rcases List.mem_cons.mp hb with rfl | hb
  · exact Nat.lt_succ_self _
  · rcases List.mem_cons.mp hb with rfl | hb
    · exact Nat.lt_succ_of_lt hlt
    · cases hb
theorem ints_at (hi : IntsAre its ns) : ∀ {i : Nat} {v : Value}, its[i]? = some v → ∃ t, v = .int (ns.getD i 0) t := by
  induction hi with
  | nil =>
    intro i v h
    simp at h
  | cons a t hi ih =>
    intro i v h
    cases i with
    | zero => exact ⟨t, by simpa using h.symm⟩
    | succ i =>
      obtain ⟨t2, e⟩ := ih (i := i) (v := v) (by simpa using h)
      exact ⟨t2, by rw [e]; rfl⟩
theorem truth_ints (hi : IntsAre its ns) : TruthOf prog w A (fun i v => its.toArray[i]? = some v) (fun i => ns.getD i 0 != 0) := fun i v s Q E hv hq => by
  obtain ⟨t, rfl⟩ := ints_at hi (i := i) (v := v) (by simpa using hv)
  exact PySem.P.truthy_int hq
theorem any_getD : ∀ ns : List Int, (List.range ns.length).any (fun i => ns.getD i 0 != 0) = ns.any (· != 0)
  | [] => rfl
  | n :: ns => by
    rw [List.length_cons, List.range_succ_eq_map, List.any_cons, List.any_map, List.any_cons, ← any_getD ns] <;> rfl
end
section
variable {X : Cx}
def rAnyI (K : PySem.W.Frag) : List V → Hp → VK → Prop := fun vs H Q => ∃ (a : Addr) (ns : List Int), vs = [V.ref a] ∧ (SqL K H a (ns.map V.int) ∨ SqT K H a (ns.map V.int)) ∧ Q (.bl (ns.any (· != 0))) H
def rSumI (K : PySem.W.Frag) : List V → Hp → VK → Prop := fun vs H Q => ∃ (a : Addr) (ns : List Int), vs = [V.ref a] ∧ (SqL K H a (ns.map V.int) ∨ SqT K H a (ns.map V.int)) ∧ Q (.int ns.sum) H
theorem cr_anyI (hc : X.calm = true) : CallR X (.builtin "any") (rAnyI X.K) := by
  intro pins s σ H vs us Q I r h
  obtain ⟨a, ns, rfl, hs, q⟩ := h
  rw [Vals.ref1 r]
  have fin : ∀ (its : List Value) (h' : Heap) (tk : Nat) (s₂ : Shared) (o : Obj), IntsAre its ns → s₂ = { s with heap := s.heap.push o } → (∀ b ob, b ∉ [s.heap.objs.size] → s₂.heap.get? b = some ob → h'.get? b = some ob) →
      ∃ v H', Inv X pins σ H' { s₂ with heap := h', toks := tk } ∧ RelV v (.bool ((List.range its.toArray.size).any fun i => ns.getD i 0 != 0)) ∧ Q v H' := by
    intro its h' tk s₂ o hi e2 hk
    subst e2
    refine ⟨.bl _, H, I.kept fun b ob eo => hk b ob (fun hmem => ?_) (Heap.get?_push_of_some _ eo), ?_, q⟩
    · exact absurd (List.mem_singleton.mp hmem ▸ Heap.lt_size eo) (Nat.lt_irrefl _)
    · show Value.bool _ = Value.bool _
      rw [← any_getD, List.size_toArray, hi.length]
  rcases hs with hs | hs
  · obtain ⟨its, rv, hl, _⟩ := I.list hs
    have hi := rv.ints
    refine call_any_walk (iter_any hl.isList fun s₂ e2 st hne => ?_)
    subst e2
    exact ⟨_, _, _, _, _, _, _, rfl, Walks.list (A := X.A.in1) (I.ok.hd hc) _ a hne its.toArray, st, truth_ints hi, fun h' tk hk => fin its h' tk _ _ hi rfl hk⟩
  · obtain ⟨its, rv, hl, _⟩ := I.tuple hs
    have hi := rv.ints
    refine call_any_walk (iter_tup hl fun s₂ e2 st _ hne => ?_)
    subst e2
    exact ⟨_, _, _, _, _, _, _, rfl, Walks.tuple (A := X.A.in1) (I.ok.hd hc) _ a hne its.toArray, st, truth_ints hi, fun h' tk hk => fin its h' tk _ _ hi rfl hk⟩
theorem cr_sumI (hc : X.calm = true) : CallR X (.builtin "sum") (rSumI X.K) := by
  intro pins s σ H vs us Q I r h
  obtain ⟨a, ns, rfl, hs, q⟩ := h
  rcases hs with hs | hs
  · obtain ⟨its, rv, hl, _⟩ := I.list hs
    rw [Vals.ref1 r]
    exact sum_raw (I.ok.hd hc) hl.isList rv.ints fun h' tk t' hk => ⟨.int _, H, I.kept hk, ⟨_, rfl⟩, q⟩
  · obtain ⟨its, rv, hl, _⟩ := I.tuple hs
    rw [Vals.ref1 r]
    have hi := rv.ints
    refine call_sum_walkG (iter_tup hl fun s₂ e2 st hfp hne => ?_)
    subst e2
    refine ⟨_, _, _, _, _, _, fun i => ns.getD i 0, rfl, Walks.tuple (A := X.A.in1) (I.ok.hd hc) _ a hne its.toArray, st, hfp, (fun i v hv => ints_at hi (by simpa using hv)), fun h' tk t' hk => ?_⟩
    refine ⟨.int _, H, I.kept fun b ob eo => hk b ob (fun hmem => ?_) (Heap.get?_push_of_some _ eo), ⟨t', ?_⟩, q⟩
    · exact absurd (List.mem_singleton.mp hmem ▸ Heap.lt_size eo) (Nat.lt_irrefl _)
    · rw [List.size_toArray, hi.length]
      have ps : ∀ (l : List Int) (n : Nat), preSum (fun i => l.getD i 0) n = (l.take n).sum := by
        intro l n
        induction n with
        | zero => simp [preSum]
        | succ n ih =>
          show preSum _ n + l.getD n 0 = _
          rw [ih, List.take_add_one, List.sum_append, List.getD_eq_getElem?_getD]
          cases l[n]? <;> simp
      rw [ps, List.take_length]
end
section
variable {K : PySem.W.Frag} {σ : L2.St} {H H' : Hp} {ta0 : TA} {ta tb tc te : TE} {t u : TT} {x y z v : V} {r r' : R2} {xs ys zs : List V} {p q : Addr} {D : Ends} {tu tw tz : TS} {g : TG} {L M : List Nat}
theorem map_nV (l : List Nat) : l.map nV = (l.map fun (n : Nat) => (n : Int)).map V.int := by rw [List.map_map] <;> rfl
theorem sum_nV : ∀ l : List Nat, (l.map fun (n : Nat) => (n : Int)).sum = ((l.sum : Nat) : Int)
  | [] => rfl
  | n :: l => by
    rw [List.map_cons, List.sum_cons, List.sum_cons, sum_nV l, Int.natCast_add]
theorem any_nV : ∀ l : List Nat, (l.map fun (n : Nat) => (n : Int)).any (· != 0) = l.any (· != 0)
  | [] => rfl
  | n :: l => by
    rw [List.map_cons, List.any_cons, List.any_cons, any_nV l]
    congr 1
    rw [Bool.eq_iff_iff]
    simp
/-- a list or a tuple of numbers -/
def SqI (K : PySem.W.Frag) (H : Hp) (p : Addr) (l : List Nat) : Prop := SqL K H p (l.map nV) ∨ SqT K H p (l.map nV)
theorem SqI.up (h : SqI K H p L) (e : Ex H H') : SqI K H' p L := h.elim (fun q => .inl (ex_l e q)) fun q => .inr (ex_t e q)
abbrev TN (H : Hp) (p : Addr) (l : List Nat) : Prop := H p = some (.tup (l.map nV))
theorem TN.up (h : TN H p L) (e : Ex H H') : TN H' p L := e p _ h
theorem ev_sum (ha : Ev ta σ H (.ref p)) (h : SqI K H p L) : Ev (tCB (rSumI K) (tCons ta tNil)) σ H (nV L.sum) := fun H1 e Q k =>
  ha H1 e _ fun H2 e2 => ⟨p, L.map fun (n : Nat) => (n : Int), rfl, by rw [← map_nV]; exact h.up (e.trans e2), by rw [sum_nV]; exact k H2 e2⟩
theorem ev_any (ha : Ev ta σ H (.ref p)) (h : SqI K H p L) : Ev (tCB (rAnyI K) (tCons ta tNil)) σ H (.bl (L.any (· != 0))) := fun H1 e Q k =>
  ha H1 e _ fun H2 e2 => ⟨p, L.map fun (n : Nat) => (n : Int), rfl, by rw [← map_nV]; exact h.up (e.trans e2), by rw [any_nV]; exact k H2 e2⟩
theorem el_rev (ha : Ev ta σ H (.ref p)) (h : SqL K H p xs) : EvL (tRevL K ta) σ H xs.reverse := fun H1 e Q k =>
  ha H1 e _ fun H2 e2 => ⟨p, xs, rfl, ex_l (e.trans e2) h, fun l hl => k l _ (fresh_back e2 hl) (e2.trans (Ex.new hl)) upd_same⟩
theorem el_listI (ha : Ev ta σ H (.ref p)) (h : SqI K H p L) : EvL (tCB (fun xs H Q => ∃ p ys, xs = [.ref p] ∧ (SqL K H p ys ∨ SqT K H p ys) ∧ ∀ l, H l = none → Q (.ref l) (upd H l (.lst ys))) (tCons ta tNil)) σ H (L.map nV) := h.elim (el_listL ha) (el_listT ha)
def rTup (K : PySem.W.Frag) : List V → Hp → VK → Prop := fun xs H Q => ∃ p ys, xs = [.ref p] ∧ ((SqL K H p ys ∧ ∀ l, H l = none → Q (.ref l) (upd H l (.tup ys))) ∨ (SqT K H p ys ∧ Q (.ref p) H))
/-- tuple(a new list), tuple(a list), tuple(a new tuple), tuple(a tuple) -/
theorem eu_tupL (ha : EvL ta σ H xs) : EvU (tCB (fun xs H Q => ∃ p ys, xs = [.ref p] ∧ ((SqL K H p ys ∧ ∀ l, H l = none → Q (.ref l) (upd H l (.tup ys))) ∨ (SqT K H p ys ∧ Q (.ref p) H))) (tCons ta tNil)) σ H xs := fun H1 e Q k =>
  ha H1 e _ fun p H2 np e2 hp => ⟨p, xs, rfl, .inl ⟨sq_of hp, fun l hl => k l _ (fresh_back e2 hl) (e2.trans (Ex.new hl)) upd_same⟩⟩
theorem eu_tupV (ha : Ev ta σ H (.ref p)) (h : SqL K H p xs) : EvU (tCB (fun xs H Q => ∃ p ys, xs = [.ref p] ∧ ((SqL K H p ys ∧ ∀ l, H l = none → Q (.ref l) (upd H l (.tup ys))) ∨ (SqT K H p ys ∧ Q (.ref p) H))) (tCons ta tNil)) σ H xs := fun H1 e Q k =>
  ha H1 e _ fun H2 e2 => ⟨p, xs, rfl, .inl ⟨ex_l (e.trans e2) h, fun l hl => k l _ (fresh_back e2 hl) (e2.trans (Ex.new hl)) upd_same⟩⟩
theorem eu_tupU (ha : EvU ta σ H xs) : EvU (tCB (fun xs H Q => ∃ p ys, xs = [.ref p] ∧ ((SqL K H p ys ∧ ∀ l, H l = none → Q (.ref l) (upd H l (.tup ys))) ∨ (SqT K H p ys ∧ Q (.ref p) H))) (tCons ta tNil)) σ H xs := fun H1 e Q k =>
  ha H1 e _ fun p H2 np e2 hp => ⟨p, xs, rfl, .inr ⟨st_of hp, k p H2 np e2 hp⟩⟩
theorem eu_is (h : EvU te σ H xs) (e : xs = ys) : EvU te σ H ys := e ▸ h
/-- t[lo:hi], not the whole -/
theorem eu_sl {tl th : TO} {lo hi : Option Int} (h : Ev te σ H (.ref p)) (h1 : EvO tl σ H lo) (h2 : EvO th σ H hi) (hs : SqT K H p xs) (hn : ¬ (HT.sIx xs.length 0 lo = 0 ∧ HT.sIx xs.length xs.length hi = xs.length)) : EvU (tSl (rSlT K) te tl th) σ H (cutV xs lo hi) := fun H1 e Q k =>
  h H1 e _ fun H2 e2 => h1 H2 (e.trans e2) _ fun H3 e3 => h2 H3 ((e.trans e2).trans e3) _ fun H4 e4 => ⟨p, xs, rfl, ex_t (((e.trans e2).trans e3).trans e4) hs, hn, fun l hl => k l _ (fresh_back ((e2.trans e3).trans e4) hl) (((e2.trans e3).trans e4).trans (Ex.new hl)) upd_same⟩
theorem eu_catUU (ha : EvU ta σ H xs) (hb : EvU tb σ H ys) (hz : xs.length + ys.length ≤ 100000) : EvU (tOp (rCatA K) ta tb) σ H (xs ++ ys) := fun H1 e Q k =>
  ha H1 e _ fun p H2 np e2 hp => hb H2 (e.trans e2) _ fun q H3 nq e3 hq => ⟨p, q, xs, ys, rfl, rfl, st_of (e3 p _ hp), st_of hq, sz_of hz, fun h0 => k q H3 (fresh_back e2 nq) (e2.trans e3) (by rw [h0]; exact hq), fun _ h0 => k p H3 np (e2.trans e3) (by rw [h0, List.append_nil]; exact e3 p _ hp), fun _ _ l hl => k l _ (fresh_back (e2.trans e3) hl) ((e2.trans e3).trans (Ex.new hl)) upd_same⟩
theorem eu_call {sp : Sp} {dvs vs : List V} {E : XK} (h : EvA ta0 σ H vs) (hs : ∀ H1, Ex H H1 → ∀ Q : VK, (∀ p H2, H1 p = none → Ex H1 H2 → H2 p = some (.tup xs) → Q (.ref p) H2) → ∀ E : XK, sp (vs ++ dvs) H1 Q E) : EvU (tCall sp dvs E ta0) σ H xs := fun H1 e Q q =>
  h H1 e _ fun H2 e2 => hs H2 (e.trans e2) Q (fun p H3 n3 e3 h3 => q p H3 (fresh_back e2 n3) (e2.trans e3) h3) E
def SpU (sp : Sp) (vs : List V) (H : Hp) (xs : List V) : Prop := ∀ H1, Ex H H1 → ∀ Q : VK, (∀ p H2, H1 p = none → Ex H1 H2 → H2 p = some (.tup xs) → Q (.ref p) H2) → ∀ E : XK, sp vs H1 Q E
def RetU (xs : List V) (H : Hp) (Q : VK) : Prop := ∀ p H', H p = none → Ex H H' → H' p = some (.tup xs) → Q (.ref p) H'
theorem eu_call2VU {sp : Sp} {E : XK} (h1 : Ev ta σ H x) (h2 : EvU tb σ H ys) (hs : ∀ q H1, Ex H H1 → H1 q = some (.tup ys) → SpU sp ([x, .ref q] ++ []) H1 zs) : EvU (tCall sp [] E (tCons ta (tCons tb tNil))) σ H zs := fun H1 e Q k =>
  h1 H1 e _ fun H2 e2 => h2 H2 (e.trans e2) _ fun q H3 _ e3 hq => hs q H3 ((e.trans e2).trans e3) hq H3 (Ex.refl _) Q (fun p H4 n4 e4 h4 => k p H4 (fresh_back (e2.trans e3) n4) ((e2.trans e3).trans e4) h4) E
theorem ev_call1U {sp : Sp} {E : XK} (h1 : EvU ta σ H xs) (hs : ∀ p H1, Ex H H1 → H1 p = some (.tup xs) → SpV sp ([.ref p] ++ []) H1 z) : Ev (tCall sp [] E (tCons ta tNil)) σ H z := fun H1 e Q k =>
  h1 H1 e _ fun p H2 _ e2 hp => hs p H2 (e.trans e2) hp H2 (Ex.refl _) Q (fun H3 e3 => k H3 (e2.trans e3)) E
theorem ev_opUV (ha : EvU ta σ H xs) (hb : ∀ H1, Ex H H1 → Ev tb σ H1 y) (hr : ∀ p H1, H1 p = some (.tup xs) → Ex H H1 → RV r (.ref p) y H1 z) : Ev (tOp r ta tb) σ H z := fun H1 e Q k =>
  ha H1 e _ fun p H2 _ e2 hp => hb H2 (e.trans e2) H2 (Ex.refl _) _ fun H3 e3 => hr p H3 (e3 p _ hp) ((e.trans e2).trans e3) H3 (Ex.refl _) Q fun H4 e4 => k H4 ((e2.trans e3).trans e4)
theorem ev_chain (ha : Ev ta σ H x) (hb : Ev tb σ H y) (hr : RV r x y H (.bl true)) (hc : Ev tc σ H v) (hr2 : RV r' y v H z) : Ev (tChain r r' ta tb tc) σ H z := fun H1 e Q k =>
  ha H1 e _ fun H2 e2 => hb H2 (e.trans e2) _ fun H3 e3 => hr H3 ((e.trans e2).trans e3) _ fun H4 e4 => ⟨true, rfl, hc H4 (((e.trans e2).trans e3).trans e4) _ fun H5 e5 => hr2 H5 ((((e.trans e2).trans e3).trans e4).trans e5) Q fun H6 e6 => k H6 ((((e2.trans e3).trans e4).trans e5).trans e6)⟩
/-! tuples (word, number, tuple of numbers) -/
def TD (H : Hp) (p : Addr) (d : Str × Nat × List Nat) : Prop := ∃ q, H p = some (.tup [.str d.1, nV d.2.1, .ref q]) ∧ H q = some (.tup (d.2.2.map nV))
theorem TD.up {d : Str × Nat × List Nat} (h : TD H p d) (e : Ex H H') : TD H' p d := by
  obtain ⟨q, h1, h2⟩ := h
  exact ⟨q, e _ _ h1, e _ _ h2⟩
def EvTD (te : TE) (σ : L2.St) (H : Hp) (d : Str × Nat × List Nat) : Prop := ∀ H1, Ex H H1 → ∀ Q : VK, (∀ p H2, H1 p = none → Ex H1 H2 → TD H2 p d → Q (.ref p) H2) → te σ H1 Q
theorem etd {w : Str} {n : Nat} (h1 : Ev ta σ H (.str w)) (h2 : Ev tb σ H (nV n)) (h3 : EvU tc σ H (L.map nV)) : EvTD (tTup (tCons ta (tCons tb (tCons tc tNil)))) σ H (w, n, L) := fun H1 e Q k =>
  h1 H1 e _ fun H2 e2 => h2 H2 (e.trans e2) _ fun H3 e3 => h3 H3 ((e.trans e2).trans e3) _ fun q H4 nq e4 hq => ⟨by show 3 ≤ sizeLine; exact sz_of (by decide), fun p hp => k p _ (fresh_back ((e2.trans e3).trans e4) hp) (((e2.trans e3).trans e4).trans (Ex.new hp)) ⟨q, upd_same, Ex.new hp q _ hq⟩⟩
theorem s_retTD {d : Str × Nat × List Nat} (h : EvTD te σ H d) (k : ∀ p H1, H p = none → Ex H H1 → TD H1 p d → D.rt (.ref p) H1) : tRet te D σ H := h H (Ex.refl H) _ k
theorem etd_is {d d' : Str × Nat × List Nat} (h : EvTD te σ H d) (e : d = d') : EvTD te σ H d' := e ▸ h
theorem ev_callVD {sp : Sp} {E : XK} {d : Str × Nat × List Nat} (h1 : Ev ta σ H x) (h2 : EvTD tb σ H d) (hs : ∀ q H1, Ex H H1 → TD H1 q d → SpV sp ([x, .ref q] ++ []) H1 z) : Ev (tCall sp [] E (tCons ta (tCons tb tNil))) σ H z := fun H1 e Q k =>
  h1 H1 e _ fun H2 e2 => h2 H2 (e.trans e2) _ fun q H3 _ e3 hq => hs q H3 ((e.trans e2).trans e3) hq H3 (Ex.refl _) Q (fun H4 e4 => k H4 ((e2.trans e3).trans e4)) E
theorem ev_callUD {sp : Sp} {E : XK} {d : Str × Nat × List Nat} (h1 : EvU ta σ H xs) (h2 : EvTD tb σ H d) (hs : ∀ p q H1, Ex H H1 → H1 p = some (.tup xs) → TD H1 q d → SpV sp ([.ref p, .ref q] ++ []) H1 z) : Ev (tCall sp [] E (tCons ta (tCons tb tNil))) σ H z := fun H1 e Q k =>
  h1 H1 e _ fun p H2 _ e2 hp => h2 H2 (e.trans e2) _ fun q H3 _ e3 hq => hs p q H3 ((e.trans e2).trans e3) (e3 p _ hp) hq H3 (Ex.refl _) Q (fun H4 e4 => k H4 ((e2.trans e3).trans e4)) E
theorem dp_tupN (h : SqT K H p (L.map nV)) : Dp K H (.ref p) (.tuple (L.map dN)) := .tup h (dp_nats L)
theorem shaped_tupN (l : List Nat) : SeqAt.shaped (.tuple (l.map dN)) = true := by
  unfold SeqAt.shaped
  have h1 : PyData.canLay0 (.tuple (l.map dN)) = true := (lay_nats l).1
  have h2 : PyData.depth (.tuple (l.map dN)) = 1 := by
    show PyData.depthAll (l.map dN) + 1 = 1
    rw [(lay_nats l).2]
  rw [h1, h2] <;> rfl
theorem rv_eqTN (h : TN H p L) (h2 : TN H q L) : RV (rEqD K) (.ref p) (.ref q) H (.bl true) := rv_eqD (dp_tupN (st_of h)) (dp_tupN (st_of h2)) (shaped_tupN L)
theorem rv_neTN (h : TN H p L) (h2 : TN H q L) : RV (rNeD K) (.ref p) (.ref q) H (.bl false) := rv_neD (dp_tupN (st_of h)) (dp_tupN (st_of h2)) (shaped_tupN L)
def dTD (d : Str × Nat × List Nat) : PyData := .tuple [.str d.1, .int (d.2.1 : Int), .tuple (d.2.2.map dN)]
theorem dp_td {d : Str × Nat × List Nat} (h : TD H p d) : Dp K H (.ref p) (dTD d) := by
  obtain ⟨q, h1, h2⟩ := h
  exact .tup (st_of h1) (.cons (.str _) (.cons (.int _) (.cons (dp_tupN (st_of h2)) .nil)))
theorem shaped_td {d : Str × Nat × List Nat} (hs : PyData.strOk d.1 = true) : SeqAt.shaped (dTD d) = true := by
  unfold SeqAt.shaped
  have h1 : PyData.canLay0 (dTD d) = true := by
    show (PyData.strOk d.1 && (PyData.canLay0 (.int (d.2.1 : Int)) && (PyData.canLayAll0 (d.2.2.map dN) && true))) = true
    rw [(lay_nats d.2.2).1, hs] <;> rfl
  have h2 : PyData.depth (dTD d) = 2 := by
    show max (PyData.depth (.str d.1)) (max (PyData.depth (.int (d.2.1 : Int))) (max (PyData.depthAll (d.2.2.map dN) + 1) 0)) + 1 = 2
    rw [(lay_nats d.2.2).2] <;> rfl
  rw [h1, h2] <;> rfl
theorem rv_eqTD {d : Str × Nat × List Nat} (h : TD H p d) (h2 : TD H q d) (hs : PyData.strOk d.1 = true) : RV (rEqD K) (.ref p) (.ref q) H (.bl true) := rv_eqD (dp_td h) (dp_td h2) (shaped_td hs)
/-- [.. for x in a tuple] of bools, all of them -/
theorem el_zT {a : Addr} {tl : TE} {j : Nat} {vs : List Nat} (h : Ev tl σ H (.ref a)) (hx : SqT K H a xs) (hz : zs.length = xs.length) (hn : xs.length ≤ 40000) (hw : ∀ x, wipe ((wipe σ vs).set j (some x)) vs = wipe σ vs)
    (he : ∀ (i : Nat) (x z : V) H1, Ex H H1 → xs[i]? = some x → zs[i]? = some z → Ev te ((wipe σ vs).set j (some x)) H1 z) : EvL (tLc (iTup K tl) (gName j) tYes te vs) σ H zs := fun H0 e Q q => h H0 e _ fun H1 e1 => ⟨a, rfl, ⟨xs, ex_t (e.trans e1) hx⟩, fun Dl hD =>
  lc_tup (xs := xs) (Cz H1 zs Dl) ⟨hD, Ex.new hD, by rw [upd_same, List.take_zero]⟩ (fun i H' _ p => ex_t ((e.trans e1).trans p.2.1) hx) (fun i x H' hi p => by
    have hl : i < zs.length := by rw [hz]; exact (List.getElem?_eq_some_iff.mp hi).1
    exact ⟨hw x, cz_turn p (List.getElem?_eq_getElem hl) (by omega) (he i x _ H1 (e.trans e1) hi (List.getElem?_eq_getElem hl))⟩) (fun H' p => q Dl H' (fresh_back e1 p.1) (e1.trans p.2.1) (by rw [p.2.2, List.take_of_length_le (by omega)]))⟩
theorem all_rep (n : Nat) : (List.replicate n true).all id = true := by
  rw [List.all_eq_true]
  intro b hb
  rw [List.eq_of_mem_replicate hb] <;> rfl
theorem ev_allR {n : Nat} (h : EvL te σ H ((List.replicate n true).map V.bl)) : Ev (tCB (rAll K) (tCons te tNil)) σ H (.bl true) := fun H1 e Q k =>
  h H1 e _ fun p H2 _ e2 hp => ⟨p, List.replicate n true, rfl, sq_of hp, by rw [all_rep]; exact k H2 e2⟩
theorem tn_get {l : List Nat} {k : Nat} (h : k < l.length) : (l.map nV)[k]? = some (nV (Py.at0 l k)) := nat_get h
theorem q_forTN {a : Addr} {tl : TE} {j : Nat} (h : Ev tl σ H (.ref a)) (hx : TN H a L) (Pv : Nat → L2.St → Hp → Prop) (h0 : ∀ H1, Ex H H1 → Pv 0 σ H1) (hE : ∀ i σ' H', Pv i σ' H' → Ex H H')
    (hs : ∀ i σ' H', i < L.length → Pv i σ' H' → tu { D with nx := Pv (i + 1), ct := Pv (i + 1), bk := tz D } (σ'.set j (some (nV (Py.at0 L i)))) H') (hd : ∀ σ' H', Pv L.length σ' H' → tz D σ' H') : tSeq (tFor (iTup K tl) (gName j) tu) tz D σ H :=
  q_forT h (st_of hx) Pv h0 (fun i σ' H' _ pv => st_of ((hE i σ' H' pv) _ _ hx)) (fun i x σ' H' hi pv => by
    obtain ⟨h1, rfl⟩ := nat_of_get hi
    exact hs i σ' H' h1 pv) (fun σ' H' pv => hd σ' H' (by rw [len_map] at pv; exact pv))
theorem q_ifAsg2 {b : Bool} {i : Nat} (h : EvT t σ H b) (h1 : Ev te σ H x) (k : b = true → ∀ H1, Ex H H1 → tz D (σ.set i (some x)) H1) (k2 : b = false → ∀ H1, Ex H H1 → tz D σ H1) : tSeq (tIfS t (tAsg te (gName i)) tNext) tz D σ H :=
  q_when h (fun hb H1 e1 => s_asg (D := { D with nx := tz D }) (h1.mono e1) fun H2 e2 => k hb H2 (e1.trans e2)) k2
theorem rv_is (h : RV r x y H z) (e : z = v) : RV r x y H v := e ▸ h
theorem dec_nat (a b : Nat) : decide (V.int (a : Int) = V.int (b : Int)) = decide (a = b) := by
  rw [Bool.eq_iff_iff, decide_eq_true_eq, decide_eq_true_eq]
  exact ⟨fun q => Int.ofNat.inj (V.int.inj q), fun q => by rw [q]⟩
theorem ev_abs {i : Int} (h : Ev ta σ H (.int i)) : Ev (tCB (fun xs H Q => ∃ i, xs = [.int i] ∧ Q (.int (if i < 0 then -i else i)) H) (tCons ta tNil)) σ H (.int (if i < 0 then -i else i)) := fun H1 e Q k =>
  h H1 e _ fun H2 e2 => ⟨i, rfl, k H2 e2⟩
theorem el_listU (ha : EvU ta σ H xs) : EvL (tCB (fun xs H Q => ∃ p ys, xs = [.ref p] ∧ (SqL K H p ys ∨ SqT K H p ys) ∧ ∀ l, H l = none → Q (.ref l) (upd H l (.lst ys))) (tCons ta tNil)) σ H xs := fun H1 e Q q =>
  ha H1 e _ fun p H2 np e2 hp => ⟨p, xs, rfl, Or.inr (st_of hp), fun l hl => q l _ (fresh_back e2 hl) (e2.trans (Ex.new hl)) upd_same⟩
theorem cut_all {n : Nat} (h : xs.length ≤ n) : cutV xs none (some (n : Int)) = xs := by
  unfold cutV
  rw [HT.sIx_none, HT.sIx_nat, Nat.min_eq_right h, Nat.sub_zero, List.drop_zero, List.take_length]
theorem eu_cut {tl th : TO} {a b : Nat} (h : Ev te σ H (.ref p)) (h1 : EvO tl σ H (some (a : Int))) (h2 : EvO th σ H (some (b : Int))) (hs : TN H p L) (hab : a ≤ b) (hb : b ≤ L.length) (hn : ¬ (a = 0 ∧ b = L.length)) : EvU (tSl (rSlT K) te tl th) σ H (((L.drop a).take (b - a)).map nV) := by
  refine eu_is (eu_sl h h1 h2 (st_of hs) ?_) ?_
  · rw [len_map, HT.sIx_nat, HT.sIx_nat]
    omega
  · rw [cut_mid hab (by rw [len_map]; exact hb), List.map_take, List.map_drop]
theorem eu_front {th : TO} {b : Nat} (h : Ev te σ H (.ref p)) (h2 : EvO th σ H (some (b : Int))) (hs : TN H p L) (hb : b < L.length) : EvU (tSl (rSlT K) te tNoPart th) σ H ((L.take b).map nV) := by
  refine eu_is (eu_sl h eo_none h2 (st_of hs) ?_) ?_
  · rw [len_map, HT.sIx_nat]
    omega
  · rw [cut_take (by rw [len_map]; omega), List.map_take]
theorem eu_back {tl : TO} {a : Nat} (h : Ev te σ H (.ref p)) (h2 : EvO tl σ H (some (a : Int))) (hs : TN H p L) (h0 : 0 < a) (hb : a ≤ L.length) : EvU (tSl (rSlT K) te tl tNoPart) σ H ((L.drop a).map nV) := by
  refine eu_is (eu_sl h h2 eo_none (st_of hs) ?_) ?_
  · rw [len_map, HT.sIx_nat]
    omega
  · unfold cutV
    rw [HT.sIx_nat, HT.sIx_none, len_map, Nat.min_eq_left hb, List.take_of_length_le (by rw [List.length_drop, len_map]; omega), List.map_drop]
end
end Mx

set_option Elab.async false
set_option linter.all false
set_option maxRecDepth 100000
set_option maxHeartbeats 4000000
namespace Se
open Py PySem
/-! ### digits, check octets, halves -/
def chk (L : List Nat) : Nat := L.sum % 256
def dgs (n w : Nat) : List Nat := ((List.range w).map fun i => n / 256 ^ i % 256).reverse
def nb (L : List Nat) : Nat := L.foldl (fun a d => a * 256 + d) 0
def front (s : Nat) (L : List Nat) : List Nat := [197, s / 65536, s / 256 % 256, s % 256] ++ L
def seald (F : List Nat) : List Nat := F ++ [chk F]
def half (s : Nat) (L : List Nat) : List Nat := seald (front s L)
def anz (L : List Nat) : Bool := L.any (· != 0)
def rot : Str × Nat × List Nat := ("rotten", 0, [])
def blk : Str × Nat × List Nat := ("blank", 0, [])
def rd (L : List Nat) : Str × Nat × List Nat :=
  if anz L = false then blk
  else if at0 L 0 ≠ 197 ∨ nb ((L.drop 1).take 3) = 0 ∨ at0 L 15 ≠ chk (L.take 15) then rot
  else ("good", nb ((L.drop 1).take 3), (L.drop 4).take 11)
theorem rd_bad {L : List Nat} (h0 : anz L = true) (h : at0 L 0 ≠ 197 ∨ nb ((L.drop 1).take 3) = 0 ∨ at0 L 15 ≠ chk (L.take 15)) : rd L = rot := by
  unfold rd
  rw [h0, if_neg (by decide), if_pos h]
theorem dgs3 {s : Nat} (h : s < 16777216) : dgs s 3 = [s / 65536, s / 256 % 256, s % 256] := by
  show [s / 256 ^ 2 % 256, s / 256 ^ 1 % 256, s / 256 ^ 0 % 256] = _
  have e1 : s / 256 ^ 2 % 256 = s / 65536 := by
    show s / 65536 % 256 = _
    omega
  have e2 : s / 256 ^ 0 % 256 = s % 256 := by
    show s / 1 % 256 = _
    omega
  rw [e1, e2] <;> rfl
theorem nb3 {s : Nat} (h : s < 16777216) : nb [s / 65536, s / 256 % 256, s % 256] = s := by
  show ((0 * 256 + s / 65536) * 256 + s / 256 % 256) * 256 + s % 256 = s
  omega
theorem front_length (s : Nat) (L : List Nat) : (front s L).length = L.length + 4 := by
  unfold front
  simp
theorem seald_length (F : List Nat) : (seald F).length = F.length + 1 := by
  unfold seald
  simp
theorem front_oct {s : Nat} {L : List Nat} (h : s < 16777216) (ho : Oc L) : Oc (front s L) := by
  unfold front
  refine Oc.append (oc_of fun c hc => ?_) ho
  simp at hc
  omega
theorem seald_oct {F : List Nat} (ho : Oc F) : Oc (seald F) := by
  unfold seald
  refine Oc.append ho (oc_of fun c hc => ?_)
  rw [List.mem_singleton.mp hc]
  exact Nat.mod_lt _ (by decide)
theorem seald_at {F : List Nat} (h : F.length = 15) : at0 (seald F) 15 = chk F ∧ (seald F).take 15 = F := by
  unfold seald
  refine ⟨at0_of ?_, ?_⟩
  · rw [List.getElem?_append_right (by omega), h] <;> rfl
  · rw [List.take_append_of_le_length (by omega), List.take_of_length_le (by omega)]
theorem half_cut {s : Nat} {L : List Nat} : ((half s L).drop 1).take 3 = [s / 65536, s / 256 % 256, s % 256] := rfl
theorem rd_good {s : Nat} {L : List Nat} (h : s < 16777216) (h0 : 0 < s) (hl : L.length = 11) : rd (half s L) = (("good" : Str), s, L) := by
  have fl : (front s L).length = 15 := by rw [front_length, hl]
  obtain ⟨a1, a2⟩ := seald_at fl
  have e1 : (half s L).drop 4 = L ++ [chk (front s L)] := rfl
  have e2 : anz (half s L) = true := rfl
  unfold rd
  rw [e2, if_neg (by decide), if_neg ?_, half_cut, nb3 h, e1, List.take_append_of_le_length (by omega), List.take_of_length_le (by omega)]
  rw [half_cut, nb3 h]
  rintro (q | q | q)
  · exact q rfl
  · omega
  · unfold half at q
    rw [a1, a2] at q
    exact q rfl
theorem sum_set : ∀ (L : List Nat) (p o : Nat), p < L.length → (L.set p o).sum + at0 L p = L.sum + o
  | [], p, o, h => absurd h (Nat.not_lt_zero _)
  | a :: L, 0, o, _ => by
    show (o :: L).sum + a = (a :: L).sum + o
    rw [List.sum_cons, List.sum_cons]
    omega
  | a :: L, p + 1, o, h => by
    have ih := sum_set L p o (by simpa using h)
    show (a :: L.set p o).sum + at0 L p = (a :: L).sum + o
    rw [List.sum_cons, List.sum_cons]
    omega
theorem anz_of {L : List Nat} {k : Nat} (h : ¬ at0 L k = 0) : anz L = true := by
  unfold anz
  rw [List.any_eq_true]
  have hk : k < L.length := by
    by_cases q : k < L.length
    · exact q
    · rw [at0_none (by omega)] at h
      exact absurd rfl h
  exact ⟨at0 L k, List.mem_of_getElem? (at0_get hk), by simpa using h⟩
theorem at0_set {L : List Nat} {p o k : Nat} (h : p < L.length) : at0 (L.set p o) k = if k = p then o else at0 L k := by
  by_cases q : k = p
  · rw [if_pos q, q]
    exact at0_of (by rw [List.getElem?_set_self h])
  · rw [if_neg q]
    unfold at0
    rw [List.getD_eq_getElem?_getD, List.getD_eq_getElem?_getD, List.getElem?_set_ne (fun z => q z.symm)]
/-- one octet of a half replaced -/
theorem rd_spoilt {s : Nat} {L : List Nat} {p o : Nat} (h : s < 16777216) (h0 : 0 < s) (hl : L.length = 11) (hL : Oc L) (hp : p < 16) (ho : o < 256) (hne : ¬ o = at0 (half s L) p) : rd ((half s L).set p o) = rot := by
  have fl : (front s L).length = 15 := by rw [front_length, hl]
  obtain ⟨a1, a2⟩ := seald_at fl
  have hh : (half s L).length = 16 := by
    unfold half
    rw [seald_length, fl]
  refine rd_bad ?_ (.inr (.inr ?_))
  · by_cases q : p = 0
    · have e : ¬ (s / 65536 = 0 ∧ s / 256 % 256 = 0 ∧ s % 256 = 0) := by omega
      by_cases z1 : s / 65536 = 0
      · by_cases z2 : s / 256 % 256 = 0
        · refine anz_of (k := 3) ?_
          rw [at0_set (by omega), if_neg (by omega)]
          show ¬ s % 256 = 0
          omega
        · refine anz_of (k := 2) ?_
          rw [at0_set (by omega), if_neg (by omega)]
          exact z2
      · refine anz_of (k := 1) ?_
        rw [at0_set (by omega), if_neg (by omega)]
        exact z1
    · refine anz_of (k := 0) ?_
      rw [at0_set (by omega), if_neg (by omega)]
      show ¬ 197 = 0
      decide
  · rw [at0_set (by omega)]
    by_cases q : p = 15
    · have e : ((half s L).set p o).take 15 = (half s L).take 15 := by rw [q, List.take_set_of_le (by omega)]
      rw [if_pos q.symm, e]
      unfold half at hne ⊢
      rw [q, a1] at hne
      rw [a2]
      exact hne
    · rw [if_neg (by omega)]
      have e : ((half s L).set p o).take 15 = (front s L).set p o := by
        rw [List.take_set]
        unfold half
        rw [a2]
      have e2 : at0 (half s L) p = at0 (front s L) p := by
        unfold half seald at0
        rw [List.getD_eq_getElem?_getD, List.getD_eq_getElem?_getD, List.getElem?_append_left (by omega)]
      rw [e]
      have ss := sum_set (front s L) p o (by omega)
      have of := front_oct h hL p
      rw [e2] at hne
      unfold half
      rw [a1]
      unfold chk
      omega
theorem set_cut {L : List Nat} {p o : Nat} (h : p < L.length) : L.take p ++ [o] ++ L.drop (p + 1) = L.set p o := by
  rw [List.set_eq_take_append_cons_drop, if_pos h, List.append_assoc] <;> rfl
/-- an octet in a blank half -/
theorem rd_speck {p v : Nat} (hp : p < 16) (h0 : 0 < v) : rd (List.replicate p 0 ++ [v] ++ List.replicate (15 - p) 0) = rot := by
  have hat : ∀ k, at0 (List.replicate p 0 ++ [v] ++ List.replicate (15 - p) 0) k = if k = p then v else 0 := by
    intro k
    by_cases c1 : k < p
    · rw [if_neg (by omega)]
      refine at0_of ?_
      rw [List.append_assoc, List.getElem?_append_left (by simpa using c1), List.getElem?_replicate, if_pos c1] <;> rfl
    · by_cases c2 : k = p
      · rw [if_pos c2]
        refine at0_of ?_
        rw [c2, List.append_assoc, List.getElem?_append_right (by simp), List.length_replicate, Nat.sub_self] <;> rfl
      · rw [if_neg c2]
        by_cases c3 : k < 16
        · refine at0_of ?_
          rw [List.getElem?_append_right (by simp; omega), List.getElem?_replicate, if_pos (by simp; omega)] <;> rfl
        · exact at0_none (by simp; omega)
  refine rd_bad (anz_of (k := p) (by rw [hat, if_pos rfl]; omega)) ?_
  by_cases q : p = 0
  · refine .inr (.inl ?_)
    rw [q] <;> rfl
  · refine .inl ?_
    rw [hat, if_neg (by omega)]
    decide
theorem rd_mark {F : List Nat} {m : Nat} {k : Nat} (h : ¬ m = 197) (hk : ¬ at0 (seald (m :: F)) k = 0) : rd (seald (m :: F)) = rot := rd_bad (anz_of hk) (.inl h)
theorem rd_nil {L : List Nat} : rd (half 0 L) = rot := rd_bad rfl (.inr (.inl rfl))
theorem rd_zero : rd (List.replicate 16 0) = blk := rfl
theorem rd_ok (L : List Nat) : PyData.strOk (rd L).1 = true := by
  unfold rd
  split
  · decide +kernel
  · split
    · decide +kernel
    · show PyData.strOk ("good" : Str) = true
      decide +kernel
theorem rd_oct {L : List Nat} (h : Oc L) : Oc (rd L).2.2 := by
  unfold rd
  split
  · exact oc_nil
  · split
    · exact oc_nil
    · exact (h.drop _).take _
theorem rd_len (L : List Nat) : (rd L).2.2.length ≤ 11 := by
  unfold rd
  split
  · decide
  · split
    · decide
    · rw [List.length_take]
      omega
end Se

set_option Elab.async false
set_option linter.all false
set_option maxRecDepth 100000
set_option maxHeartbeats 4000000
namespace Mx
open PySem PySem.Spec PyProof.Rows L2 Evl
/-! ### max(xs, default=d) of a list of ints -/
section
variable {X : Cx}
def rMaxD (K : PySem.W.Frag) : List V → List V → Hp → VK → Prop := fun vs zs H Q => ∃ (a : Addr) (ns : List Int) (d : Int), vs = [V.ref a] ∧ zs = [V.int d] ∧ SqL K H a (ns.map V.int) ∧ (ns = [] → Q (.int d) H) ∧ ∀ m ∈ ns, (∀ y ∈ ns, y ≤ m) → Q (.int m) H
theorem cr_maxD (hc : X.calm = true) : CallRK X (.builtin "max") [Str.ofString "default"] (rMaxD X.K) := by
  intro pins s σ H vs zs us ws Q I r rz h
  obtain ⟨a, ns, d, rfl, rfl, hs, q0, q1⟩ := h
  obtain ⟨its, rv, hl, _⟩ := I.list hs
  rw [Vals.ref1 r]
  obtain ⟨w1, rfl, e1⟩ := vals1 rz
  obtain ⟨t, rfl⟩ : ∃ t, w1 = .int d t := e1
  have hi := rv.ints
  have hz : its.toArray.size = ns.length := by rw [List.size_toArray, hi.length]
  refine PySem.call_max_walkD (PySem.W.iter_listW (I.ok.hd hc) hl.isList fun s₂ e2 W st hfp hw hk => ?_)
  refine ⟨_, _, _, _, _, _, _, s.heap, fun i j => decide (ns.getD i 0 > ns.getD j 0), rfl, W, st, hfp, hw, hk, fun hn s' hm => ?_, fun hn => ⟨fun i j vi vj s3 Q3 E3 _ h1 h2 h3 => CmpOf.ints_gt (P := fun i v => its.toArray[i]? = some v) (fun i => ns.getD i 0) (fun i v hv => ints_at hi (by simpa using hv)) i j vi vj s3 Q3 E3 h1 h2 h3, fun v s' hP hm => ?_⟩⟩
  · obtain ⟨h', tk, rfl, hk'⟩ := PySem.W.moved_old e2 rfl hm
    have e0 : ns = [] := List.eq_nil_of_length_eq_zero (by omega)
    exact ⟨.int d, H, I.kept hk', ⟨t, rfl⟩, q0 e0⟩
  · obtain ⟨h', tk, rfl, hk'⟩ := PySem.W.moved_old e2 rfl hm
    obtain ⟨t2, rfl⟩ := ints_at hi (i := argBest (fun i j => decide (ns.getD i 0 > ns.getD j 0)) (its.toArray.size - 1)) (by simpa using hP)
    obtain ⟨b1, b2⟩ := argBest_gt (fun i => ns.getD i 0) (its.toArray.size - 1)
    refine ⟨.int _, H, I.kept hk', ⟨t2, rfl⟩, q1 _ ?_ fun y hy => ?_⟩
    · exact PySem.getD_mem (by omega)
    · obtain ⟨j, hj, rfl⟩ := mem_getD hy
      exact b2 j (by omega)
end
/-! ### walks whose turns do anything -/
section
variable {K : PySem.W.Frag} {a : Addr} {xs : List V} {B : V → Hp → (Hp → Prop) → Prop} {H0 : Hp} {Qd : Hp → Prop}
theorem walk_l (Pv : Nat → Hp → Prop) (h0 : Pv 0 H0) (hl : ∀ i H, i ≤ xs.length → Pv i H → SqL K H a xs) (hs : ∀ i x H, xs[i]? = some x → Pv i H → B x H (Pv (i + 1))) (hd : ∀ H, Pv xs.length H → Qd H) :
    ∃ W : Nat → Nat → Hp → Prop, (∃ m, W 0 m H0) ∧ ∀ i m H, W i m H → ((Itl K a).stop i H ∧ Qd H) ∨ ((Itl K a).go i H ∧ ∃ N : Hp → Prop, (∀ H', N H' → ∃ m', m' < m ∧ W (i + 1) m' H') ∧ ∀ x H', (Itl K a).yld i H x H' → B x H' N) := by
  refine ⟨fun i m H => m = xs.length - i ∧ i ≤ xs.length ∧ Pv i H, ⟨_, rfl, Nat.zero_le _, h0⟩, fun i m H ⟨hm, hi, p⟩ => ?_⟩
  have hq := hl i H hi p
  by_cases c : i < xs.length
  · refine .inr ⟨⟨xs, xs[i], hq, List.getElem?_eq_getElem c⟩, Pv (i + 1), fun H' p' => ⟨xs.length - (i + 1), by omega, rfl, c, p'⟩, fun x H' ⟨e, hx⟩ => ?_⟩
    subst e
    exact hs i x _ (hx xs hq) p
  · obtain rfl : i = xs.length := by omega
    exact .inl ⟨⟨xs, hq, Nat.le_refl _⟩, hd H p⟩
theorem walk_t (Pv : Nat → Hp → Prop) (h0 : Pv 0 H0) (hl : ∀ i H, i ≤ xs.length → Pv i H → SqT K H a xs) (hs : ∀ i x H, xs[i]? = some x → Pv i H → B x H (Pv (i + 1))) (hd : ∀ H, Pv xs.length H → Qd H) :
    ∃ W : Nat → Nat → Hp → Prop, (∃ m, W 0 m H0) ∧ ∀ i m H, W i m H → ((Itt K a).stop i H ∧ Qd H) ∨ ((Itt K a).go i H ∧ ∃ N : Hp → Prop, (∀ H', N H' → ∃ m', m' < m ∧ W (i + 1) m' H') ∧ ∀ x H', (Itt K a).yld i H x H' → B x H' N) := by
  refine ⟨fun i m H => m = xs.length - i ∧ i ≤ xs.length ∧ Pv i H, ⟨_, rfl, Nat.zero_le _, h0⟩, fun i m H ⟨hm, hi, p⟩ => ?_⟩
  have hq := hl i H hi p
  by_cases c : i < xs.length
  · refine .inr ⟨⟨xs, xs[i], hq, List.getElem?_eq_getElem c⟩, Pv (i + 1), fun H' p' => ⟨xs.length - (i + 1), by omega, rfl, c, p'⟩, fun x H' ⟨e, hx⟩ => ?_⟩
    subst e
    exact hs i x _ (hx xs hq) p
  · obtain rfl : i = xs.length := by omega
    exact .inl ⟨⟨xs, hq, Nat.le_refl _⟩, hd H p⟩
end
/-! ### lists of tuples of numbers -/
section
variable {K : PySem.W.Frag} {σ : L2.St} {H H' H1 : Hp} {ta0 : TA} {ta tb tc te : TE} {t u : TT} {x y z v : V} {r r' : R2} {xs ys zs : List V} {p q : Addr} {D : Ends} {tu tw tz : TS} {g : TG} {L : List Nat} {vss : List (List V)} {S : List (List Nat)} {rs : List Addr}
def nss (S : List (List Nat)) : List (List V) := S.map fun s => s.map nV
theorem nss_len (S : List (List Nat)) : (nss S).length = S.length := List.length_map _
theorem TupsAt.of {k : Nat} {v : V} (h : TupsAt H rs (nss S)) (hv : (rs.map V.ref)[k]? = some v) : ∃ r, v = .ref r ∧ k < S.length ∧ TN H r (Py.at1 S k) := by
  obtain ⟨r, vs, e1, e2, e3⟩ := TupsAt.get h hv
  unfold nss at e2
  rw [List.getElem?_map] at e2
  have hk : k < S.length := by
    by_cases c : k < S.length
    · exact c
    · rw [List.getElem?_eq_none (by omega)] at e2
      cases e2
  rw [Py.at1_get hk] at e2
  exact ⟨r, e1, hk, by rw [← Option.some.inj e2] at e3; exact e3⟩
theorem tups_upd {Dl : Addr} {l ys : List V} (hD : H Dl = some (.lst ys)) : ∀ {rs : List Addr} {vss : List (List V)}, TupsAt H rs vss → TupsAt (upd H Dl (.lst l)) rs vss
  | _, _, .nil => .nil
  | _, _, .cons h t => .cons (by
      rw [upd_ne (fun z => by rw [z, hD] at h; cases h)]
      exact h) (tups_upd hD t)
/-- [u for s in a list of tuples for u in (.., ..)] -/
def C2 (H : Hp) (V0 : List (List V)) (Dl : Addr) (i : Nat) (H' : Hp) : Prop := H Dl = none ∧ Ex H H' ∧ ∃ rs : List Addr, H' Dl = some (.lst (rs.map V.ref)) ∧ TupsAt H' rs (V0.take i)
theorem c2_snoc {V0 : List (List V)} {Dl : Addr} {i : Nat} {b : Addr} {us : List V} {H4 : Hp} (p : C2 H V0 Dl i H4) (hi : V0[i]? = some us) (hz : V0.length ≤ 40000) (hb : H4 b = some (.tup us)) :
    ∃ acc, H4 Dl = some (.lst acc) ∧ acc.length < sizeLine ∧ C2 H V0 Dl (i + 1) (upd H4 Dl (.lst (acc ++ [.ref b]))) := by
  obtain ⟨p1, p2, rs, p3, p4⟩ := p
  refine ⟨_, p3, sz_lt (by rw [List.length_map, p4.len, List.length_take]; omega), p1, Ex.mut p2 p1, rs ++ [b], by rw [upd_same, List.map_append] <;> rfl, ?_⟩
  rw [List.take_add_one, hi]
  exact tups_upd p3 (TupsAt.snoc (rs := rs) p4 hb)
theorem C2.up {V0 : List (List V)} {Dl : Addr} {i : Nat} (p : C2 H V0 Dl i H') (e : Ex H' H1) : C2 H V0 Dl i H1 := by
  obtain ⟨p1, p2, rs, p3, p4⟩ := p
  exact ⟨p1, p2.trans e, rs, e _ _ p3, p4.mono e⟩
theorem two_at {α : Type} {f g : List V → α} : ∀ {vss : List (List V)} {i : Nat} {us : List V}, vss[i]? = some us → (vss.flatMap fun s => [f s, g s])[2 * i]? = some (f us) ∧ (vss.flatMap fun s => [f s, g s])[2 * i + 1]? = some (g us)
  | [], i, us, h => by simp at h
  | s :: vss, 0, us, h => by
    obtain rfl : s = us := by simpa using h
    exact ⟨rfl, rfl⟩
  | s :: vss, i + 1, us, h => by
    have ih := two_at (f := f) (g := g) (vss := vss) (i := i) (us := us) (by simpa using h)
    have e1 : 2 * (i + 1) = 2 * i + 1 + 1 := by omega
    have e2 : 2 * (i + 1) + 1 = 2 * i + 1 + 1 + 1 := by omega
    refine ⟨?_, ?_⟩
    · rw [e1]
      exact ih.1
    · rw [e2]
      exact ih.2
theorem two_len {α : Type} {f g : List V → α} (vss : List (List V)) : (vss.flatMap fun s => [f s, g s]).length = 2 * vss.length := by
  induction vss with
  | nil => rfl
  | cons s vss ih =>
    rw [List.flatMap_cons, List.length_append, ih]
    simp only [List.length_cons, List.length_nil]
    omega
theorem tyes_of {σ2 : L2.St} {H' : Hp} {A N : Hp → Prop} (h : A H') : tYes σ2 H' fun b H3 => if b = true then A H3 else N H3 := h
theorem el_two {a : Addr} {tl : TE} {j j1 : Nat} {vs vs1 : List Nat} {f g : List V → List V} (h : Ev tl σ H (.ref a)) (hT : TL H a vss) (hz : vss.length ≤ 10000)
    (hw1 : ∀ x, wipe ((wipe σ vs).set j (some x)) vs = wipe σ vs) (hw2 : ∀ x y, wipe ((wipe ((wipe σ vs).set j (some x)) vs1).set j1 (some y)) vs1 = wipe ((wipe σ vs).set j (some x)) vs1)
    (he : ∀ (i : Nat) (r : Addr) (us : List V) H1, Ex H H1 → vss[i]? = some us → H1 r = some (.tup us) → EvU ta ((wipe σ vs).set j (some (.ref r))) H1 (f us) ∧ EvU tb ((wipe σ vs).set j (some (.ref r))) H1 (g us))
    (hx : ∀ x b H2 (Q : VK), Q (.ref b) H2 → te ((wipe ((wipe σ vs).set j (some x)) vs1).set j1 (some (.ref b))) H2 Q) :
    EvTL (tLc2 (iList K tl) (gName j) tYes (iTup K (tTup (tCons ta (tCons tb tNil)))) (gName j1) tYes te vs vs1) σ H (vss.flatMap fun s => [f s, g s]) := by
  intro H0 e Q k
  obtain ⟨rs, t1, t2⟩ := hT
  have len : (rs.map V.ref).length = vss.length := by rw [List.length_map, t2.len]
  refine h H0 e _ fun H1 e1 => ⟨a, rfl, ⟨_, sq_of ((e.trans e1) _ _ t1)⟩, fun Dl hD => ?_⟩
  have V0l := two_len (f := f) (g := g) vss
  refine walk_l (K := K) (a := a) (xs := rs.map V.ref) (fun i H' => C2 H1 (vss.flatMap fun s => [f s, g s]) Dl (2 * i) H') ⟨hD, Ex.new hD, [], by rw [upd_same] <;> rfl, by rw [Nat.mul_zero, List.take_zero]; exact .nil⟩ (fun i H' _ p => sq_of (p.2.1 _ _ ((e.trans e1) _ _ t1))) (fun i x H' hx1 p => ?_) (fun H' p => ?_)
  · obtain ⟨r, us, rfl, hus, hr⟩ := (t2.mono ((e.trans e1).trans p.2.1)).get hx1
    obtain ⟨a1, a2⟩ := two_at (f := f) (g := g) hus
    refine ⟨hw1 _, ?_⟩
    obtain ⟨ev1, ev2⟩ := he i r us H' ((e.trans e1).trans p.2.1) hus hr
    refine tyes_of ?_
    refine ev1 H' (Ex.refl _) _ fun b1 H3 n1 e3 h1 => ev2 H3 e3 _ fun b2 H4 n2 e4 h2 => ⟨by show 2 ≤ sizeLine; exact sz_of (by decide), fun T hT => ?_⟩
    have eT : Ex H4 (upd H4 T (.tup [.ref b1, .ref b2])) := Ex.new hT
    refine ⟨T, rfl, ⟨_, st_of upd_same⟩, ?_⟩
    have pT := p.up ((e3.trans e4).trans eT)
    refine walk_t (K := K) (a := T) (xs := [.ref b1, .ref b2]) (fun jj H' => C2 H1 (vss.flatMap fun s => [f s, g s]) Dl (2 * i + jj) H' ∧ H' T = some (.tup [.ref b1, .ref b2]) ∧ H' b1 = some (.tup (f us)) ∧ H' b2 = some (.tup (g us))) ⟨pT, upd_same, eT _ _ (e4 _ _ h1), eT _ _ h2⟩ (fun jj H' _ q => st_of q.2.1) (fun jj y H5 hy q => ?_) (fun H' q => ?_)
    · obtain ⟨q1, q2, q3, q4⟩ := q
      refine ⟨hw2 _ _, ?_⟩
      have keep : ∀ {b : Addr} {us : List V} {l : List V}, H5 b = some (.tup us) → (upd H5 Dl (.lst l)) b = some (.tup us) := by
        intro b us l hb
        obtain ⟨_, _, rs5, p5, _⟩ := q1
        rw [upd_ne (fun z => by rw [z, p5] at hb; cases hb)]
        exact hb
      match jj, hy with
      | 0, hy =>
        obtain rfl : V.ref b1 = y := by simpa using hy
        refine tyes_of (hx _ b1 H5 _ ?_)
        obtain ⟨acc, c1, c2, c3⟩ := c2_snoc q1 a1 (by omega) q3
        exact ⟨acc, c1, c2, c3, keep q2, keep q3, keep q4⟩
      | 1, hy =>
        obtain rfl : V.ref b2 = y := by simpa using hy
        refine tyes_of (hx _ b2 H5 _ ?_)
        obtain ⟨acc, c1, c2, c3⟩ := c2_snoc q1 a2 (by omega) q4
        exact ⟨acc, c1, c2, c3, keep q2, keep q3, keep q4⟩
      | n + 2, hy => simp at hy
    · exact q.1
  · obtain ⟨p1, p2, ws, p3, p4⟩ := p
    rw [len, List.take_of_length_le (by omega)] at p4
    exact k Dl H' (fresh_back e1 p1) (e1.trans p2) ⟨ws, p3, p4⟩
theorem eat_consV {vs : List V} (h : Ev te σ H (.ref p)) (hp : H p = some (.tup vs)) (hr : EvAT ta0 σ H vss) : EvAT (tCons te ta0) σ H (vs :: vss) := fun H1 e _ k =>
  h H1 e _ fun H2 e2 => hr H2 (e.trans e2) _ fun rs H3 e3 ht => k (p :: rs) H3 (e2.trans e3) (.cons (((e.trans e2).trans e3) _ _ hp) ht)
theorem etl_lst (h : EvAT ta0 σ H vss) (hz : vss.length ≤ 1000) : EvTL (tLst ta0) σ H vss := fun H1 e Q k =>
  h H1 e _ fun rs H2 e2 ht => ⟨sz_of (by rw [List.length_map, ht.len]; omega), fun p hp => k p _ (fresh_back e2 hp) (e2.trans (Ex.new hp)) ⟨rs, upd_same, ht.mono (Ex.new hp)⟩⟩
theorem paired_app {F : Addr → List V → Prop} : ∀ {l1 l2 : List Addr} {m1 m2 : List (List V)}, Paired F l1 m1 → Paired F l2 m2 → Paired F (l1 ++ l2) (m1 ++ m2)
  | _, _, _, _, .nil, h => h
  | _, _, _, _, .cons a t, h => .cons a (paired_app t h)
theorem etl_cat {wss : List (List V)} (ha : EvTL ta σ H vss) (hb : Ev tb σ H (.ref q)) (hq : TL H q wss) (hz : vss.length + wss.length ≤ 1000) : EvTL (tOp rCat ta tb) σ H (vss ++ wss) := fun H1 e Q k =>
  ha H1 e _ fun p H2 np e2 hp => hb H2 (e.trans e2) _ fun H3 e3 => by
    obtain ⟨rs, p1, p2⟩ := hp.up e3
    obtain ⟨ss, q1, q2⟩ := hq.up ((e.trans e2).trans e3)
    refine ⟨p, q, _, _, rfl, rfl, p1, q1, sz_of (by rw [List.length_map, List.length_map, p2.len, q2.len]; omega), fun l hl => k l _ (fresh_back (e2.trans e3) hl) ((e2.trans e3).trans (Ex.new hl)) ⟨rs ++ ss, by rw [upd_same, List.map_append], ?_⟩⟩
    exact TupsAt.mono (Ex.new hl) (paired_app p2 q2)
theorem s_forTLn {a : Addr} {tl : TE} {j : Nat} (h : Ev tl σ H (.ref a)) (hT : TL H a vss) (Pv : Nat → L2.St → Hp → Prop) (h0 : ∀ H1, Ex H H1 → Pv 0 σ H1) (hE : ∀ i σ' H', Pv i σ' H' → Ex H H')
    (hs : ∀ i r us σ' H', vss[i]? = some us → H' r = some (.tup us) → Pv i σ' H' → tu { D with nx := Pv (i + 1), ct := Pv (i + 1), bk := D.nx } (σ'.set j (some (.ref r))) H') (hd : ∀ σ' H', Pv vss.length σ' H' → D.nx σ' H') : tFor (iList K tl) (gName j) tu D σ H := by
  obtain ⟨rs, h1, h2⟩ := hT
  refine s_forLn h (sq_of h1) Pv h0 (fun i σ' H' _ pv => sq_of (hE i σ' H' pv _ _ h1)) (fun i x σ' H' hx pv => ?_) (fun σ' H' pv => hd σ' H' (by rw [List.length_map, h2.len] at pv; exact pv))
  obtain ⟨r, us, rfl, hu, hr⟩ := (h2.mono (hE i σ' H' pv)).get hx
  exact hs i r us σ' H' hu hr pv
theorem q_forTLn {a : Addr} {tl : TE} {j : Nat} (h : Ev tl σ H (.ref a)) (hT : TL H a vss) (Pv : Nat → L2.St → Hp → Prop) (h0 : ∀ H1, Ex H H1 → Pv 0 σ H1) (hE : ∀ i σ' H', Pv i σ' H' → Ex H H')
    (hs : ∀ i r us σ' H', vss[i]? = some us → H' r = some (.tup us) → Pv i σ' H' → tu { D with nx := Pv (i + 1), ct := Pv (i + 1), bk := tz D } (σ'.set j (some (.ref r))) H') (hd : ∀ σ' H', Pv vss.length σ' H' → tz D σ' H') : tSeq (tFor (iList K tl) (gName j) tu) tz D σ H :=
  s_forTLn (D := { D with nx := tz D }) h hT Pv h0 hE hs hd
theorem tl_ix {k : Nat} (h : TL H p (nss S)) (hk : k < S.length) : ∃ r, TN H r (Py.at1 S k) ∧ RV (rIxL K) (.ref p) (.int (k : Int)) H (.ref r) := by
  obtain ⟨rs, h1, h2⟩ := h
  have hr : k < rs.length := by
    rw [h2.len, nss_len]
    exact hk
  have e : (rs.map V.ref)[k]? = some (.ref rs[k]) := by rw [List.getElem?_map, List.getElem?_eq_getElem hr] <;> rfl
  obtain ⟨r, e2, _, hr2⟩ := TupsAt.of h2 e
  exact ⟨r, hr2, rv_ixLN (sq_of h1) (by rw [e, e2])⟩
theorem tl_len (h : TL H p (nss S)) : ∃ rs : List Addr, SqL K H p (rs.map V.ref) ∧ rs.length = S.length := by
  obtain ⟨rs, h1, h2⟩ := h
  exact ⟨rs, sq_of h1, by rw [h2.len, nss_len]⟩
theorem el_zTLn {a : Addr} {tl : TE} {j : Nat} {vs : List Nat} {ns : List Nat} (h : Ev tl σ H (.ref a)) (hN : TL H a (nss S)) (hz : ns.length = S.length) (hn : S.length ≤ 40000) (hw : ∀ x, wipe ((wipe σ vs).set j (some x)) vs = wipe σ vs)
    (he : ∀ (i : Nat) (r : Addr) H1, Ex H H1 → i < S.length → TN H1 r (Py.at1 S i) → Ev te ((wipe σ vs).set j (some (.ref r))) H1 (nV (Py.at0 ns i))) : EvL (tLc (iList K tl) (gName j) tYes te vs) σ H (ns.map nV) := by
  obtain ⟨rs, h1, h2⟩ := hN
  refine el_zL h (sq_of h1) (by rw [List.length_map, List.length_map, h2.len, nss_len, hz]) (by rw [List.length_map, h2.len, nss_len]; exact hn) hw fun i x w H1 e hx hw => ?_
  obtain ⟨r, rfl, hi, hr⟩ := TupsAt.of (h2.mono e) hx
  rw [nat_get (by omega)] at hw
  rw [← Option.some.inj hw]
  exact he i r H1 e hi hr
/-- a tuple of numbers, new or not -/
def EvW (te : TE) (σ : L2.St) (H : Hp) (L : List Nat) : Prop := ∀ H1, Ex H H1 → ∀ Q : VK, (∀ p H2, Ex H1 H2 → TN H2 p L → Q (.ref p) H2) → te σ H1 Q
theorem ew_cat {M : List Nat} (ha : Ev ta σ H (.ref p)) (hp : TN H p L) (hb : Ev tb σ H (.ref q)) (hq : TN H q M) (hz : L.length + M.length ≤ 100000) : EvW (tOp (rCatA K) ta tb) σ H (L ++ M) := fun H1 e Q k =>
  ha H1 e _ fun H2 e2 => hb H2 (e.trans e2) _ fun H3 e3 => by
    have p3 := hp.up ((e.trans e2).trans e3)
    have q3 := hq.up ((e.trans e2).trans e3)
    refine ⟨p, q, L.map nV, M.map nV, rfl, rfl, st_of p3, st_of q3, sz_of (by rw [len_map, len_map]; omega), fun h0 => k q H3 (e2.trans e3) ?_, fun _ h0 => k p H3 (e2.trans e3) ?_, fun _ _ l hl => k l _ ((e2.trans e3).trans (Ex.new hl)) (by show upd _ _ _ l = _; rw [upd_same, List.map_append])⟩
    · obtain rfl : L = [] := List.map_eq_nil_iff.mp h0
      exact q3
    · obtain rfl : M = [] := List.map_eq_nil_iff.mp h0
      rw [List.append_nil]
      exact p3
theorem etdW {w : Str} {n : Nat} (h1 : Ev ta σ H (.str w)) (h2 : Ev tb σ H (nV n)) (h3 : EvW tc σ H L) : EvTD (tTup (tCons ta (tCons tb (tCons tc tNil)))) σ H (w, n, L) := fun H1 e Q k =>
  h1 H1 e _ fun H2 e2 => h2 H2 (e.trans e2) _ fun H3 e3 => h3 H3 ((e.trans e2).trans e3) _ fun q H4 e4 hq => ⟨by show 3 ≤ sizeLine; exact sz_of (by decide), fun p hp => k p _ (fresh_back ((e2.trans e3).trans e4) hp) (((e2.trans e3).trans e4).trans (Ex.new hp)) ⟨q, upd_same, Ex.new hp q _ hq⟩⟩
theorem etd_call {sp : Sp} {dvs vs : List V} {E : XK} {d : Str × Nat × List Nat} (h : EvA ta0 σ H vs) (hs : ∀ H1, Ex H H1 → ∀ Q : VK, (∀ p H2, H1 p = none → Ex H1 H2 → TD H2 p d → Q (.ref p) H2) → ∀ E : XK, sp (vs ++ dvs) H1 Q E) : EvTD (tCall sp dvs E ta0) σ H d := fun H1 e Q q =>
  h H1 e _ fun H2 e2 => hs H2 (e.trans e2) Q (fun p H3 n3 e3 h3 => q p H3 (fresh_back e2 n3) (e2.trans e3) h3) E
theorem etd_call1U {sp : Sp} {E : XK} {d : Str × Nat × List Nat} (h1 : EvU ta σ H xs) (hs : ∀ p H1, Ex H H1 → H1 p = some (.tup xs) → ∀ Q : VK, (∀ q H2, H1 q = none → Ex H1 H2 → TD H2 q d → Q (.ref q) H2) → ∀ E : XK, sp ([.ref p] ++ []) H1 Q E) : EvTD (tCall sp [] E (tCons ta tNil)) σ H d := fun H1 e Q k =>
  h1 H1 e _ fun p H2 _ e2 hp => hs p H2 (e.trans e2) hp Q (fun q H3 n3 e3 h3 => k q H3 (fresh_back e2 n3) (e2.trans e3) h3) E
theorem ev_td1 {d : Str × Nat × List Nat} (h : EvTD te σ H d) (h1 : ∀ H1, Ex H H1 → Ev tb σ H1 (.int 1)) : Ev (tOp (rIxT K) te tb) σ H (nV d.2.1) := fun H1 e Q k =>
  h H1 e _ fun p H2 _ e2 hp => h1 H2 (e.trans e2) H2 (Ex.refl _) _ fun H3 e3 => by
    obtain ⟨q, q1, q2⟩ := hp.up e3
    exact rv_ixTN (k := 1) (st_of q1) rfl H3 (Ex.refl _) Q fun H4 e4 => k H4 ((e2.trans e3).trans e4)
/-- a, b, c = a tuple (word, number, numbers) -/
theorem q_unTD {i j l : Nat} {d : Str × Nat × List Nat} (h : EvTD te σ H d) (k : ∀ q H1, Ex H H1 → TN H1 q d.2.2 → tz D (((σ.set i (some (.str d.1))).set j (some (nV d.2.1))).set l (some (.ref q))) H1) : tSeq (tAsg te (gTup K 3 (gCons (gName i) (gCons (gName j) (gCons (gName l) gNil))))) tz D σ H :=
  h H (Ex.refl H) _ fun p H1 _ e hp => by
    obtain ⟨q, q1, q2⟩ := hp
    exact ⟨p, _, rfl, st_of q1, rfl, _, _, rfl, _, _, rfl, _, _, rfl, rfl, k q H1 e q2⟩
theorem ev_call1TL {sp : Sp} {E : XK} (h1 : EvTL ta σ H vss) (hs : ∀ p H1, Ex H H1 → TL H1 p vss → SpV sp ([.ref p] ++ []) H1 z) : Ev (tCall sp [] E (tCons ta tNil)) σ H z := fun H1 e Q k =>
  h1 H1 e _ fun p H2 _ e2 hp => hs p H2 (e.trans e2) hp H2 (Ex.refl _) Q (fun H3 e3 => k H3 (e2.trans e3)) E
theorem ev_call2TLL {sp : Sp} {E : XK} (h1 : EvTL ta σ H vss) (h2 : EvL tb σ H ys) (hs : ∀ p q H1, Ex H H1 → TL H1 p vss → H1 q = some (.lst ys) → SpV sp ([.ref p, .ref q] ++ []) H1 z) : Ev (tCall sp [] E (tCons ta (tCons tb tNil))) σ H z := fun H1 e Q k =>
  h1 H1 e _ fun p H2 _ e2 hp => h2 H2 (e.trans e2) _ fun q H3 _ e3 hq => hs p q H3 ((e.trans e2).trans e3) (hp.up e3) hq H3 (Ex.refl _) Q (fun H4 e4 => k H4 ((e2.trans e3).trans e4)) E
theorem eu_call2VL {sp : Sp} {E : XK} (h1 : Ev ta σ H x) (h2 : EvL tb σ H ys) (hs : ∀ q H1, Ex H H1 → H1 q = some (.lst ys) → SpU sp ([x, .ref q] ++ []) H1 zs) : EvU (tCall sp [] E (tCons ta (tCons tb tNil))) σ H zs := fun H1 e Q k =>
  h1 H1 e _ fun H2 e2 => h2 H2 (e.trans e2) _ fun q H3 _ e3 hq => hs q H3 ((e.trans e2).trans e3) hq H3 (Ex.refl _) Q (fun p H4 n4 e4 h4 => k p H4 (fresh_back (e2.trans e3) n4) ((e2.trans e3).trans e4) h4) E
theorem ev_opVU2 {ys : List V} (ha : Ev ta σ H x) (hb : EvU tb σ H ys) (hr : ∀ q H1, H1 q = some (.tup ys) → Ex H H1 → RV r x (.ref q) H1 z) : Ev (tOp r ta tb) σ H z := ev_opU ha hb hr
def maxN (L : List Nat) : Nat := L.foldl max 0
theorem maxN_ge : ∀ (L : List Nat) (a : Nat), a ≤ L.foldl max a ∧ ∀ y ∈ L, y ≤ L.foldl max a
  | [], a => ⟨Nat.le_refl _, fun y h => absurd h List.not_mem_nil⟩
  | b :: L, a => by
    obtain ⟨h1, h2⟩ := maxN_ge L (max a b)
    refine ⟨by show a ≤ L.foldl max (max a b); omega, fun y hy => ?_⟩
    show y ≤ L.foldl max (max a b)
    rcases List.mem_cons.mp hy with rfl | hy
    · omega
    · exact h2 y hy
theorem maxN_mem : ∀ (L : List Nat) (a : Nat), L.foldl max a = a ∨ L.foldl max a ∈ L
  | [], a => .inl rfl
  | b :: L, a => by
    show L.foldl max (max a b) = a ∨ L.foldl max (max a b) ∈ b :: L
    rcases maxN_mem L (max a b) with h | h
    · rcases Nat.le_total a b with c | c
      · rw [h, Nat.max_eq_right c]
        exact .inr (List.mem_cons_self ..)
      · rw [h, Nat.max_eq_left c]
        exact .inl rfl
    · exact .inr (List.mem_cons_of_mem _ h)
theorem maxN_is {L : List Nat} {m : Nat} (hm : m ∈ L) (h : ∀ y ∈ L, y ≤ m) : maxN L = m := by
  have h2 := (maxN_ge L 0).2 m hm
  unfold maxN
  rcases maxN_mem L 0 with q | q
  · omega
  · have := h _ q
    omega
theorem ev_maxD {td : TE} (h : EvL te σ H (L.map nV)) (hd : ∀ H1, Ex H H1 → Ev td σ H1 (.int 0)) : Ev (tCKw (rMaxD K) (tCons te tNil) (tCons td tNil)) σ H (nV (maxN L)) := fun H1 e Q k =>
  h H1 e _ fun p H2 _ e2 hp => hd H2 (e.trans e2) H2 (Ex.refl _) _ fun H3 e3 => ⟨p, L.map fun (n : Nat) => (n : Int), 0, rfl, rfl, by rw [← map_nV]; exact sq_of (e3 _ _ hp), fun h0 => by
    obtain rfl : L = [] := List.map_eq_nil_iff.mp h0
    exact k H3 (e2.trans e3), fun m hm hy => by
    obtain ⟨n, hn, rfl⟩ := List.mem_map.mp hm
    have e0 : maxN L = n := maxN_is hn fun y hy2 => by
      have := hy (y : Int) (List.mem_map.mpr ⟨y, hy2, rfl⟩)
      omega
    rw [← e0]
    exact k H3 (e2.trans e3)⟩
theorem ev_max2 {a b : Nat} (ha : Ev ta σ H (nV a)) (hb : Ev tb σ H (nV b)) : Ev (tCB (fun xs H Q => ∃ i j, xs = [.int i, .int j] ∧ Q (.int (if j > i then j else i)) H) (tCons ta (tCons tb tNil))) σ H (nV (max a b)) := fun H1 e Q k =>
  ha H1 e _ fun H2 e2 => hb H2 (e.trans e2) _ fun H3 e3 => ⟨(a : Int), (b : Int), rfl, by
    have e0 : (if (b : Int) > (a : Int) then (b : Int) else (a : Int)) = ((max a b : Nat) : Int) := by
      split <;> omega
    rw [e0]
    exact k H3 (e2.trans e3)⟩
end
section
variable {X : Cx} {K : PySem.W.Frag}
theorem pi_tupK {tg e : Expr} {te : TE} (h : X.K = K) (he : PE X e te) : PI X tg e (iTup K te) := h ▸ pi_tup he
end
end Mx

set_option Elab.async false
set_option linter.all false
set_option maxRecDepth 100000
set_option maxHeartbeats 4000000
namespace Se
open Py PySem
/-! ### sectors -/
def torn : Str × Nat × List Nat := ("torn", 0, [])
def rds (S : List Nat) : Str × Nat × List Nat :=
  if (rd (S.take 16)).1 = "rotten" ∨ (rd (S.drop 16)).1 = "rotten" then rot
  else if ¬ (rd (S.take 16)).1 = (rd (S.drop 16)).1 ∨ ¬ (rd (S.take 16)).2.1 = (rd (S.drop 16)).2.1 then torn
  else ((rd (S.take 16)).1, (rd (S.take 16)).2.1, (rd (S.take 16)).2.2 ++ (rd (S.drop 16)).2.2)
def pad (L : List Nat) : List Nat := L ++ List.replicate (22 - L.length) 0
def sector (s : Nat) (L : List Nat) : List Nat := half s ((pad L).take 11) ++ half s ((pad L).drop 11)
theorem pad_length {L : List Nat} (h : L.length ≤ 22) : (pad L).length = 22 := by
  unfold pad
  rw [List.length_append, List.length_replicate]
  omega
theorem pad_oct {L : List Nat} (h : Oc L) : Oc (pad L) := Oc.append h (oc_zeros _)
/-- a half that is good with a stamp, or blank (stamp 0) -/
def Fine (A : List Nat) (s : Nat) : Prop := (0 < s ∧ s < 16777216 ∧ ∃ L, A = half s L ∧ L.length = 11 ∧ Oc L) ∨ (s = 0 ∧ A = List.replicate 16 0)
theorem Fine.len {A : List Nat} {s : Nat} (h : Fine A s) : A.length = 16 := by
  rcases h with ⟨_, _, L, rfl, hl, _⟩ | ⟨_, rfl⟩
  · unfold half
    rw [seald_length, front_length, hl]
  · rw [List.length_replicate]
theorem Fine.oct {A : List Nat} {s : Nat} (h : Fine A s) : Oc A := by
  rcases h with ⟨_, h2, L, rfl, _, ho⟩ | ⟨_, rfl⟩
  · exact seald_oct (front_oct h2 ho)
  · exact oc_zeros 16
theorem Fine.rd {A : List Nat} {s : Nat} (h : Fine A s) : (0 < s ∧ ∃ L, Se.rd A = (("good" : Str), s, L) ∧ Oc L) ∨ (s = 0 ∧ Se.rd A = blk) := by
  rcases h with ⟨h1, h2, L, rfl, hl, ho⟩ | ⟨h1, rfl⟩
  · exact .inl ⟨h1, L, rd_good h2 h1 hl, ho⟩
  · exact .inr ⟨h1, rd_zero⟩
theorem Fine.stamp {A : List Nat} {s : Nat} (h : Fine A s) : (Se.rd A).2.1 = s := by
  rcases h.rd with ⟨_, L, e, _⟩ | ⟨e0, e⟩
  · rw [e]
  · rw [e, e0] <;> rfl
theorem Fine.spoilt {A : List Nat} {s p o : Nat} (h : Fine A s) (hp : p < 16) (ho : o < 256) (hne : ¬ o = at0 A p) : Se.rd (A.set p o) = rot := by
  rcases h with ⟨h1, h2, L, rfl, hl, hL⟩ | ⟨_, rfl⟩
  · exact rd_spoilt h2 h1 hl hL hp ho hne
  · have e : at0 (List.replicate 16 0) p = 0 := at0_of (by rw [List.getElem?_replicate, if_pos hp])
    have e2 : (List.replicate 16 0).set p o = List.replicate p 0 ++ [o] ++ List.replicate (15 - p) 0 := by
      rw [← set_cut (by simpa using hp), List.take_replicate, List.drop_replicate, Nat.min_eq_left (by omega)]
      have e3 : 16 - (p + 1) = 15 - p := by omega
      rw [e3]
    rw [e2]
    exact rd_speck hp (by omega)
theorem sec_cut {A B : List Nat} (h : A.length = 16) : (A ++ B).take 16 = A ∧ (A ++ B).drop 16 = B := by
  rw [← h]
  exact ⟨by simp, by simp⟩
/-- a fine sector: two fine halves -/
structure FS (S : List Nat) (s t : Nat) : Prop where
  a : Fine (S.take 16) s
  b : Fine (S.drop 16) t
  len : S.length = 32
theorem fs_of {A B : List Nat} {s t : Nat} (h : Fine A s) (h2 : Fine B t) : FS (A ++ B) s t := by
  obtain ⟨e1, e2⟩ := sec_cut (B := B) h.len
  exact ⟨by rw [e1]; exact h, by rw [e2]; exact h2, by rw [List.length_append, h.len, h2.len]⟩
theorem FS.oct {S : List Nat} {s t : Nat} (h : FS S s t) : Oc S := by
  rw [← List.take_append_drop 16 S]
  exact Oc.append h.a.oct h.b.oct
theorem good_ne : ¬ ("good" : Str) = "rotten" := by decide +kernel
theorem blank_ne : ¬ ("blank" : Str) = "rotten" := by decide +kernel
theorem good_blank : ¬ ("good" : Str) = "blank" := by decide +kernel
theorem Fine.not_rot {A : List Nat} {s : Nat} (h : Fine A s) : ¬ (Se.rd A).1 = "rotten" := by
  rcases h.rd with ⟨_, L, e, _⟩ | ⟨_, e⟩
  · rw [e]
    exact good_ne
  · rw [e]
    exact blank_ne
theorem rds_torn {S : List Nat} {s t : Nat} (h : FS S s t) (hne : ¬ s = t) : rds S = torn := by
  unfold rds
  have z : ¬ (Se.rd (S.take 16)).2.1 = (Se.rd (S.drop 16)).2.1 := by
    rw [h.a.stamp, h.b.stamp]
    exact hne
  rw [if_neg (fun q => q.elim h.a.not_rot h.b.not_rot), if_pos (.inr z)]
theorem rds_rot {S : List Nat} (h : rd (S.take 16) = rot ∨ rd (S.drop 16) = rot) : rds S = rot := by
  unfold rds
  rw [if_pos]
  rcases h with h | h
  · exact .inl (by rw [h]; rfl)
  · exact .inr (by rw [h]; rfl)
theorem rds_blank : rds (List.replicate 32 0) = blk := by decide +kernel
theorem fs_spoilt {S : List Nat} {s t p o : Nat} (h : FS S s t) (hp : p < 32) (ho : o < 256) (hne : ¬ o = at0 S p) : rds (S.set p o) = rot := by
  by_cases c : p < 16
  · refine rds_rot (.inl ?_)
    rw [List.take_set]
    refine h.a.spoilt c ho ?_
    have e : at0 (S.take 16) p = at0 S p := by
      unfold at0
      rw [List.getD_eq_getElem?_getD, List.getD_eq_getElem?_getD, List.getElem?_take_of_lt c]
    rw [e]
    exact hne
  · refine rds_rot (.inr ?_)
    rw [List.drop_set, if_neg (by omega)]
    refine h.b.spoilt (by omega) ho ?_
    have e : at0 (S.drop 16) (p - 16) = at0 S p := by
      unfold at0
      rw [List.getD_eq_getElem?_getD, List.getD_eq_getElem?_getD, List.getElem?_drop]
      have e2 : 16 + (p - 16) = p := by omega
      rw [e2]
    rw [e]
    exact hne
/-- the first half spoilt -/
theorem spoilt_a {S : List Nat} {s t p o : Nat} (h : FS S s t) (hp : p < 16) (ho : o < 256) (hne : ¬ o = at0 S p) : rd ((S.set p o).take 16) = rot ∧ (S.set p o).drop 16 = S.drop 16 := by
  refine ⟨?_, ?_⟩
  · rw [List.take_set]
    refine h.a.spoilt hp ho ?_
    have e : at0 (S.take 16) p = at0 S p := by
      unfold at0
      rw [List.getD_eq_getElem?_getD, List.getD_eq_getElem?_getD, List.getElem?_take_of_lt hp]
    rw [e]
    exact hne
  · rw [List.drop_set, if_pos hp]
theorem sector_fs {s : Nat} {L : List Nat} (h : s < 16777216) (h0 : 0 < s) (hl : L.length ≤ 22) (ho : Oc L) : FS (sector s L) s s := by
  have lp := pad_length hl
  have op := pad_oct ho
  exact fs_of (.inl ⟨h0, h, _, rfl, by rw [List.length_take, lp] <;> rfl, op.take 11⟩) (.inl ⟨h0, h, _, rfl, by rw [List.length_drop, lp], op.drop 11⟩)
theorem rds_sector {s : Nat} {L : List Nat} (h : s < 16777216) (h0 : 0 < s) (hl : L.length ≤ 22) (ho : Oc L) : rds (sector s L) = (("good" : Str), s, pad L) := by
  have lp := pad_length hl
  have l1 : ((pad L).take 11).length = 11 := by rw [List.length_take, lp] <;> rfl
  have l2 : ((pad L).drop 11).length = 11 := by rw [List.length_drop, lp]
  have hh : (half s ((pad L).take 11)).length = 16 := by
    unfold half
    rw [seald_length, front_length, l1]
  obtain ⟨e1, e2⟩ := sec_cut (B := half s ((pad L).drop 11)) hh
  unfold rds sector
  rw [e1, e2, rd_good h h0 l1, rd_good h h0 l2, if_neg (fun q => q.elim good_ne good_ne), if_neg (fun q => q.elim (fun z => z rfl) fun z => z rfl)]
  show (("good" : Str), s, (pad L).take 11 ++ (pad L).drop 11) = _
  rw [List.take_append_drop]
/-- the greatest stamp of any good half -/
def stamps (Ss : List (List Nat)) : List Nat := Ss.flatMap fun S => [(rd (S.take 16)).2.1, (rd (S.drop 16)).2.1]
def newest (Ss : List (List Nat)) : Nat := Mx.maxN (stamps Ss)
theorem FS.st {S : List Nat} {s t : Nat} (h : FS S s t) : [(rd (S.take 16)).2.1, (rd (S.drop 16)).2.1] = [s, t] := by rw [h.a.stamp, h.b.stamp]
theorem st_spoilt {S : List Nat} {s t p o : Nat} (h : FS S s t) (hp : p < 16) (ho : o < 256) (hne : ¬ o = at0 S p) : [(rd ((S.set p o).take 16)).2.1, (rd ((S.set p o).drop 16)).2.1] = [0, t] := by
  obtain ⟨e1, e2⟩ := spoilt_a h hp ho hne
  rw [e1, e2, h.b.stamp] <;> rfl
theorem rds_ok (S : List Nat) : PyData.strOk (rds S).1 = true := by
  unfold rds
  split
  · decide +kernel
  · split
    · decide +kernel
    · exact rd_ok _
theorem rds_oct {S : List Nat} (h : Oc S) : Oc (rds S).2.2 := by
  unfold rds
  split
  · exact oc_nil
  · split
    · exact oc_nil
    · exact Oc.append (rd_oct (h.take 16)) (rd_oct (h.drop 16))
theorem rds_len (S : List Nat) : (rds S).2.2.length ≤ 22 := by
  unfold rds
  split
  · decide
  · split
    · decide
    · have h1 := rd_len (S.take 16)
      have h2 := rd_len (S.drop 16)
      show ((rd (S.take 16)).2.2 ++ (rd (S.drop 16)).2.2).length ≤ 22
      rw [List.length_append]
      omega
theorem other_ne {a d : Nat} (ha : a < 256) : ¬ (a + 1 + d % 255) % 256 = a := by omega
end Se

set_option Elab.async false
set_option linter.all false
set_option maxRecDepth 100000
set_option maxHeartbeats 4000000
namespace Se
open Py PySem
theorem maxN_skip (L : List Nat) : Mx.maxN (0 :: L) = Mx.maxN L := rfl
theorem maxN_app (L M : List Nat) : ∀ a, (L ++ M).foldl max a = max (L.foldl max a) (M.foldl max 0) := by
  induction L with
  | nil =>
    intro a
    show M.foldl max a = max a (M.foldl max 0)
    induction M generalizing a with
    | nil => show a = max a 0; omega
    | cons b M ih =>
      show M.foldl max (max a b) = max a (M.foldl max (max 0 b))
      rw [ih (max a b), ih (max 0 b)]
      omega
  | cons b L ih =>
    intro a
    exact ih (max a b)
theorem newest_cons (S : List Nat) (Ss : List (List Nat)) : newest (S :: Ss) = max (newest [S]) (newest Ss) := by
  unfold newest
  rw [show stamps (S :: Ss) = stamps [S] ++ stamps Ss by unfold stamps; simp]
  exact maxN_app _ _ 0
theorem newest_kept : ∀ Ss : List (List Nat), newest (Ss.filter fun S => !decide (S = List.replicate 32 0)) = newest Ss
  | [] => rfl
  | S :: Ss => by
    have ih := newest_kept Ss
    by_cases h : S = List.replicate 32 0
    · rw [List.filter_cons_of_neg (by rw [decide_eq_true h]; exact Bool.false_ne_true), ih, newest_cons S Ss]
      have e : newest [S] = 0 := by
        rw [h]
        decide +kernel
      rw [e]
      omega
    · rw [List.filter_cons_of_pos (by rw [decide_eq_false h] <;> rfl), newest_cons S Ss, newest_cons S, ih]
end Se
namespace Mx
open PySem PySem.Spec PyProof.Rows L2 Evl
section
variable {K : PySem.W.Frag} {σ : L2.St} {H H' H1 : Hp} {ta0 : TA} {ta tb tc te : TE} {t u tt : TT} {x y z v : V} {p q : Addr} {L : List Nat} {vss : List (List V)} {S : List (List Nat)}
theorem eqv_natsT : ∀ l m : List Nat, PyData.eqvAll (l.map dN) (m.map dN) = decide (l = m)
  | [], [] => rfl
  | [], _ :: _ => rfl
  | _ :: _, [] => rfl
  | a :: l, b :: m => by
    show (PyData.eqv (dN a) (dN b) && PyData.eqvAll (l.map dN) (m.map dN)) = _
    rw [eqv_natsT l m]
    show (((a : Int) == (b : Int)) && decide (l = m)) = decide (a :: l = b :: m)
    rw [Bool.eq_iff_iff, Bool.and_eq_true, beq_iff_eq, decide_eq_true_eq, decide_eq_true_eq, List.cons.injEq]
    constructor
    · exact fun h => ⟨by omega, h.2⟩
    · exact fun h => ⟨by omega, h.2⟩
theorem rv_eqTS {l m : List Nat} (h : ∀ H1, Ex H H1 → SqT K H1 p (l.map nV)) (h2 : ∀ H1, Ex H H1 → SqT K H1 q (m.map nV)) : RV (rEqD K) (.ref p) (.ref q) H (.bl (decide (l = m))) := fun H1 e Q k =>
  ⟨_, _, dp_tupN (h H1 e), dp_tupN (h2 H1 e), shaped_tupN l, shaped_tupN m, by
    show Q (.bl (PyData.eqvAll (l.map dN) (m.map dN))) H1
    rw [eqv_natsT]
    exact k H1 (Ex.refl H1)⟩
theorem rv_neTSt {l m : List Nat} (h : ∀ H1, Ex H H1 → SqT K H1 p (l.map nV)) (h2 : ∀ H1, Ex H H1 → SqT K H1 q (m.map nV)) : RV (rNeD K) (.ref p) (.ref q) H (.bl (!decide (l = m))) := fun H1 e Q k =>
  ⟨_, _, dp_tupN (h H1 e), dp_tupN (h2 H1 e), shaped_tupN l, shaped_tupN m, by
    show Q (.bl (!PyData.eqvAll (l.map dN) (m.map dN))) H1
    rw [eqv_natsT]
    exact k H1 (Ex.refl H1)⟩
/-! ### [u for s in a list of tuples if .. for u in (.., ..)] -/
theorem kept_at {α : Type} {f : α → Bool} : ∀ {xs : List α} {i : Nat} {x : α}, xs[i]? = some x → f x = true → (xs.filter f)[((xs.take i).filter f).length]? = some x
  | [], i, x, h, _ => by simp at h
  | a :: xs, 0, x, h, hf => by
    obtain rfl : a = x := by simpa using h
    rw [List.filter_cons_of_pos hf] <;> rfl
  | a :: xs, i + 1, x, h, hf => by
    have ih := kept_at (xs := xs) (i := i) (x := x) (by simpa using h) hf
    rw [List.take_succ_cons]
    by_cases c : f a = true
    · rw [List.filter_cons_of_pos c, List.filter_cons_of_pos c, List.length_cons, List.getElem?_cons_succ]
      exact ih
    · rw [List.filter_cons_of_neg c, List.filter_cons_of_neg c]
      exact ih
theorem kept_yes {α : Type} {f : α → Bool} {xs : List α} {i : Nat} {x : α} (h : xs[i]? = some x) (hf : f x = true) : ((xs.take (i + 1)).filter f).length = ((xs.take i).filter f).length + 1 := by
  rw [List.take_add_one, h, List.filter_append, List.length_append]
  show _ + ([x].filter f).length = _
  rw [List.filter_cons_of_pos hf] <;> rfl
theorem kept_no {α : Type} {f : α → Bool} {xs : List α} {i : Nat} {x : α} (h : xs[i]? = some x) (hf : f x = false) : ((xs.take (i + 1)).filter f).length = ((xs.take i).filter f).length := by
  rw [List.take_add_one, h, List.filter_append, List.length_append]
  show _ + ([x].filter f).length = _
  rw [List.filter_cons_of_neg (by rw [hf]; exact Bool.false_ne_true)] <;> rfl
theorem el_twoF {a : Addr} {tl : TE} {j j1 : Nat} {vs vs1 : List Nat} {f g : List V → List V} {kp : List V → Bool} (h : Ev tl σ H (.ref a)) (hT : TL H a vss) (hz : vss.length ≤ 10000)
    (hw1 : ∀ x, wipe ((wipe σ vs).set j (some x)) vs = wipe σ vs) (hw2 : ∀ x y, wipe ((wipe ((wipe σ vs).set j (some x)) vs1).set j1 (some y)) vs1 = wipe ((wipe σ vs).set j (some x)) vs1)
    (ht : ∀ (i : Nat) (r : Addr) (us : List V) H1, Ex H H1 → vss[i]? = some us → H1 r = some (.tup us) → EvT tt ((wipe σ vs).set j (some (.ref r))) H1 (kp us))
    (he : ∀ (i : Nat) (r : Addr) (us : List V) H1, Ex H H1 → vss[i]? = some us → H1 r = some (.tup us) → EvU ta ((wipe σ vs).set j (some (.ref r))) H1 (f us) ∧ EvU tb ((wipe σ vs).set j (some (.ref r))) H1 (g us))
    (hx : ∀ x b H2 (Q : VK), Q (.ref b) H2 → te ((wipe ((wipe σ vs).set j (some x)) vs1).set j1 (some (.ref b))) H2 Q) :
    EvTL (tLc2 (iList K tl) (gName j) tt (iTup K (tTup (tCons ta (tCons tb tNil)))) (gName j1) tYes te vs vs1) σ H ((vss.filter kp).flatMap fun s => [f s, g s]) := by
  intro H0 e Q k
  obtain ⟨rs, t1, t2⟩ := hT
  have len : (rs.map V.ref).length = vss.length := by rw [List.length_map, t2.len]
  refine h H0 e _ fun H1 e1 => ⟨a, rfl, ⟨_, sq_of ((e.trans e1) _ _ t1)⟩, fun Dl hD => ?_⟩
  have V0l := two_len (f := f) (g := g) (vss.filter kp)
  have fl := List.length_filter_le kp vss
  refine walk_l (K := K) (a := a) (xs := rs.map V.ref) (fun i H' => C2 H1 ((vss.filter kp).flatMap fun s => [f s, g s]) Dl (2 * ((vss.take i).filter kp).length) H') ⟨hD, Ex.new hD, [], by rw [upd_same] <;> rfl, by rw [List.take_zero]; exact .nil⟩ (fun i H' _ p => sq_of (p.2.1 _ _ ((e.trans e1) _ _ t1))) (fun i x H' hx1 p => ?_) (fun H' p => ?_)
  · obtain ⟨r, us, rfl, hus, hr⟩ := (t2.mono ((e.trans e1).trans p.2.1)).get hx1
    refine ⟨hw1 _, ?_⟩
    refine ht i r us H' ((e.trans e1).trans p.2.1) hus hr H' (Ex.refl _) _ fun H2 e2 => ?_
    cases hk : kp us with
    | false =>
      rw [if_neg Bool.false_ne_true]
      show C2 _ _ _ _ _
      rw [kept_no hus hk]
      exact p.up e2
    | true =>
    rw [if_pos rfl]
    obtain ⟨a1, a2⟩ := two_at (f := f) (g := g) (kept_at hus hk)
    obtain ⟨ev1, ev2⟩ := he i r us H' ((e.trans e1).trans p.2.1) hus hr
    refine ev1 H2 e2 _ fun b1 H3 n1 e3 h1 => ev2 H3 (e2.trans e3) _ fun b2 H4 n2 e4 h2 => ⟨by show 2 ≤ sizeLine; exact sz_of (by decide), fun T hT => ?_⟩
    have eT : Ex H4 (upd H4 T (.tup [.ref b1, .ref b2])) := Ex.new hT
    refine ⟨T, rfl, ⟨_, st_of upd_same⟩, ?_⟩
    have pT := p.up (((e2.trans e3).trans e4).trans eT)
    have fl2 : ((vss.take i).filter kp).length < (vss.filter kp).length := by
      have := (List.getElem?_eq_some_iff.mp (kept_at hus hk)).1
      exact this
    generalize hm : ((vss.take i).filter kp).length = m at *
    refine walk_t (K := K) (a := T) (xs := [.ref b1, .ref b2]) (fun jj H' => C2 H1 ((vss.filter kp).flatMap fun s => [f s, g s]) Dl (2 * m + jj) H' ∧ H' T = some (.tup [.ref b1, .ref b2]) ∧ H' b1 = some (.tup (f us)) ∧ H' b2 = some (.tup (g us))) ⟨pT, upd_same, eT _ _ (e4 _ _ h1), eT _ _ h2⟩ (fun jj H' _ q => st_of q.2.1) (fun jj y H5 hy q => ?_) (fun H' q => ?_)
    · obtain ⟨q1, q2, q3, q4⟩ := q
      refine ⟨hw2 _ _, ?_⟩
      have keep : ∀ {b : Addr} {us : List V} {l : List V}, H5 b = some (.tup us) → (upd H5 Dl (.lst l)) b = some (.tup us) := by
        intro b us l hb
        obtain ⟨_, _, rs5, p5, _⟩ := q1
        rw [upd_ne (fun z => by rw [z, p5] at hb; cases hb)]
        exact hb
      match jj, hy with
      | 0, hy =>
        obtain rfl : V.ref b1 = y := by simpa using hy
        refine tyes_of (hx _ b1 H5 _ ?_)
        obtain ⟨acc, c1, c2, c3⟩ := c2_snoc q1 a1 (by omega) q3
        exact ⟨acc, c1, c2, c3, keep q2, keep q3, keep q4⟩
      | 1, hy =>
        obtain rfl : V.ref b2 = y := by simpa using hy
        refine tyes_of (hx _ b2 H5 _ ?_)
        obtain ⟨acc, c1, c2, c3⟩ := c2_snoc q1 a2 (by omega) q4
        exact ⟨acc, c1, c2, c3, keep q2, keep q3, keep q4⟩
      | n + 2, hy => simp at hy
    · show C2 _ _ _ _ _
      rw [kept_yes hus hk, hm]
      exact q.1
  · obtain ⟨p1, p2, ws, p3, p4⟩ := p
    rw [len, List.take_of_length_le (Nat.le_refl vss.length), List.take_of_length_le (by omega)] at p4
    exact k Dl H' (fresh_back e1 p1) (e1.trans p2) ⟨ws, p3, p4⟩
end
end Mx

set_option Elab.async false
set_option linter.all false
set_option maxRecDepth 100000
set_option maxHeartbeats 4000000
namespace K13
open PySem PySem.Spec PyProof.Rows L2 Evl Mx
def top (i : Nat) : Stmt := PySem.Challenge.pw_cairn_k13_sealed_sectors.main.body.getD i (.Pass ⟨0, 0, 0, 0⟩)
local macro_rules | `(tactic| walk_at "oct") => `(tactic| first | assumption | decide | omega | exact Gf.gm_lt _ _ | exact Gf.gi_lt _ | exact Gf.gp_lt _ _ | exact Gf.xor_lt (by walk_at "oct") (by walk_at "oct"))
local macro_rules | `(tactic| walk_at "sq") => `(tactic| first | assumption | exact sq_of (by assumption) | exact ex_l (by assumption) (by walk_at "sq"))
local macro_rules | `(tactic| walk_at "ev") => `(tactic| first
  | (with_reducible exact ev_c)
  | ((with_reducible apply ev_var); first | rfl | assumption)
  | ((with_reducible apply et_test); walk_at "ev")
  | ((with_reducible apply et_truI); walk_at "ev")
  | ((with_reducible apply et_B); walk_at "ev")
  | ((with_reducible apply et_not); walk_at "ev")
  | ((with_reducible apply et_and); walk_at "ev"; intro _; walk_at "ev")
  | ((with_reducible apply et_or); walk_at "ev"; intro _; walk_at "ev")
  | ((with_reducible apply ev_andV); walk_at "ev"; intro _; walk_at "ev")
  | ((with_reducible apply ev_orV); walk_at "ev"; intro _; walk_at "ev")
  | ((with_reducible apply ev_notV); walk_at "ev")
  | ((with_reducible apply ev_op); walk_at "ev"; walk_at "ev"; walk_at "rv")
  | ((with_reducible apply ev_un); walk_at "ev"; exact ru_neg)
  | (with_reducible exact ea_nil)
  | ((with_reducible apply ea_cons); walk_at "ev"; walk_at "ev")
  | ((with_reducible apply ev_int); walk_at "ev")
  | ((with_reducible apply ev_lenL); walk_at "ev"; walk_at "sq")
  | ((with_reducible apply ev_isEr); walk_at "ev"; walk_at "ev"; assumption)
  | ((with_reducible apply ev_isEt); walk_at "ev"; walk_at "ev"; assumption)
  | ((with_reducible apply ev_call); walk_at "ev"; walk_at "spv")
  | ((with_reducible apply el_call); walk_at "ev"; walk_at "spv"))
local macro_rules | `(tactic| walk_at "rv") => `(tactic| first
  | (with_reducible exact rv_xor)
  | (with_reducible exact rv_addN)
  | (with_reducible exact rv_and1)
  | (with_reducible exact rv_shr1)
  | (with_reducible exact rv_I0)
  | (with_reducible exact rv_eq rfl)
  | (with_reducible exact rv_ne rfl)
  | ((with_reducible apply rv_mod); first | decide | omega)
  | ((with_reducible apply rv_fdiv); first | decide | omega)
  | ((with_reducible apply rv_mulL); decide))
abbrev s_digits_of : Stmt := top 2
abbrev N_digits_of : List Str := ["number", "width", "digits", "rest", "_"]
abbrev P_digits_of : List Str := ["number", "width"]
theorem sc_digits_of : FnScope N_digits_of P_digits_of (defScope s_digits_of) := ⟨rfl, rfl, rfl, by decide +kernel, rfl, by decide +kernel, by decide +kernel⟩
abbrev s_number_of : Stmt := top 3
abbrev N_number_of : List Str := ["digits", "number", "digit"]
abbrev P_number_of : List Str := ["digits"]
theorem sc_number_of : FnScope N_number_of P_number_of (defScope s_number_of) := ⟨rfl, rfl, rfl, by decide +kernel, rfl, by decide +kernel, by decide +kernel⟩
abbrev s_check_octet : Stmt := top 10
abbrev N_check_octet : List Str := ["octets"]
abbrev P_check_octet : List Str := ["octets"]
theorem sc_check_octet : FnScope N_check_octet P_check_octet (defScope s_check_octet) := ⟨rfl, rfl, rfl, by decide +kernel, rfl, by decide +kernel, by decide +kernel⟩
abbrev s_seal_half : Stmt := top 11
abbrev N_seal_half : List Str := ["stamp", "data", "octets"]
abbrev P_seal_half : List Str := ["stamp", "data"]
theorem sc_seal_half : FnScope N_seal_half P_seal_half (defScope s_seal_half) := ⟨rfl, rfl, rfl, by decide +kernel, rfl, by decide +kernel, by decide +kernel⟩
abbrev s_read_half : Stmt := top 12
abbrev N_read_half : List Str := ["half", "stamp"]
abbrev P_read_half : List Str := ["half"]
theorem sc_read_half : FnScope N_read_half P_read_half (defScope s_read_half) := ⟨rfl, rfl, rfl, by decide +kernel, rfl, by decide +kernel, by decide +kernel⟩
abbrev s_seal : Stmt := top 13
abbrev N_seal : List Str := ["stamp", "data", "padded"]
abbrev P_seal : List Str := ["stamp", "data"]
theorem sc_seal : FnScope N_seal P_seal (defScope s_seal) := ⟨rfl, rfl, rfl, by decide +kernel, rfl, by decide +kernel, by decide +kernel⟩
abbrev s_read_sector : Stmt := top 14
abbrev N_read_sector : List Str := ["sector", "first_kind", "first_stamp", "first_data", "second_kind", "second_stamp", "second_data"]
abbrev P_read_sector : List Str := ["sector"]
theorem sc_read_sector : FnScope N_read_sector P_read_sector (defScope s_read_sector) := ⟨rfl, rfl, rfl, by decide +kernel, rfl, by decide +kernel, by decide +kernel⟩
abbrev s_newest_stamp : Stmt := top 15
abbrev N_newest_stamp : List Str := ["sectors", "halves", "sector", "half"]
abbrev P_newest_stamp : List Str := ["sectors"]
theorem sc_newest_stamp : FnScope N_newest_stamp P_newest_stamp (defScope s_newest_stamp) := ⟨rfl, rfl, rfl, by decide +kernel, rfl, by decide +kernel, by decide +kernel⟩
abbrev s__law_draws : Stmt := top 17
abbrev N__law_draws : List Str := ["script", "many", "draws", "seed", "cell", "number", "k"]
abbrev P__law_draws : List Str := ["script", "many"]
theorem sc__law_draws : FnScope N__law_draws P__law_draws (defScope s__law_draws) := ⟨rfl, rfl, rfl, by decide +kernel, rfl, by decide +kernel, by decide +kernel⟩
abbrev s__law_is_number : Stmt := top 18
abbrev N__law_is_number : List Str := ["value"]
abbrev P__law_is_number : List Str := ["value"]
theorem sc__law_is_number : FnScope N__law_is_number P__law_is_number (defScope s__law_is_number) := ⟨rfl, rfl, rfl, by decide +kernel, rfl, by decide +kernel, by decide +kernel⟩
abbrev s__law_octets_only : Stmt := top 19
abbrev N__law_octets_only : List Str := ["values", "value"]
abbrev P__law_octets_only : List Str := ["values"]
theorem sc__law_octets_only : FnScope N__law_octets_only P__law_octets_only (defScope s__law_octets_only) := ⟨rfl, rfl, rfl, by decide +kernel, rfl, by decide +kernel, by decide +kernel⟩
abbrev s__law_half : Stmt := top 20
abbrev N__law_half : List Str := ["stamp", "data", "front"]
abbrev P__law_half : List Str := ["stamp", "data"]
theorem sc__law_half : FnScope N__law_half P__law_half (defScope s__law_half) := ⟨rfl, rfl, rfl, by decide +kernel, rfl, by decide +kernel, by decide +kernel⟩
abbrev s__law_sector : Stmt := top 21
abbrev N__law_sector : List Str := ["stamp", "data", "full"]
abbrev P__law_sector : List Str := ["stamp", "data"]
theorem sc__law_sector : FnScope N__law_sector P__law_sector (defScope s__law_sector) := ⟨rfl, rfl, rfl, by decide +kernel, rfl, by decide +kernel, by decide +kernel⟩
abbrev s__law_stamp : Stmt := top 22
abbrev N__law_stamp : List Str := ["one", "two", "stamps"]
abbrev P__law_stamp : List Str := ["one", "two"]
theorem sc__law_stamp : FnScope N__law_stamp P__law_stamp (defScope s__law_stamp) := ⟨rfl, rfl, rfl, by decide +kernel, rfl, by decide +kernel, by decide +kernel⟩
abbrev s__law_reads : Stmt := top 23
abbrev N__law_reads : List Str := ["sector", "due", "found"]
abbrev P__law_reads : List Str := ["sector", "due"]
theorem sc__law_reads : FnScope N__law_reads P__law_reads (defScope s__law_reads) := ⟨rfl, rfl, rfl, by decide +kernel, rfl, by decide +kernel, by decide +kernel⟩
abbrev s__law_spoilt : Stmt := top 24
abbrev N__law_spoilt : List Str := ["sector", "place", "draw", "octet"]
abbrev P__law_spoilt : List Str := ["sector", "place", "draw"]
theorem sc__law_spoilt : FnScope N__law_spoilt P__law_spoilt (defScope s__law_spoilt) := ⟨rfl, rfl, rfl, by decide +kernel, rfl, by decide +kernel, by decide +kernel⟩
abbrev s__law_rotten_all : Stmt := top 25
abbrev N__law_rotten_all : List Str := ["sectors", "draws", "k", "place"]
abbrev P__law_rotten_all : List Str := ["sectors", "draws"]
theorem sc__law_rotten_all : FnScope N__law_rotten_all P__law_rotten_all (defScope s__law_rotten_all) := ⟨rfl, rfl, rfl, by decide +kernel, rfl, by decide +kernel, by decide +kernel⟩
abbrev s_law : Stmt := top 26
abbrev N_law : List Str := ["script", "draws", "first", "second", "data", "k", "more", "one", "two", "blank", "torn", "sector", "spoilt"]
abbrev P_law : List Str := ["script"]
theorem sc_law : FnScope N_law P_law (defScope s_law) := ⟨rfl, rfl, rfl, by decide +kernel, rfl, by decide +kernel, by decide +kernel⟩
structure Txt (K : PySem.W.Frag) (mg : Str → Option Value) : Prop where
  F_digits_of : FnAt K "digits_of" s_digits_of
  g_digits_of : mg "digits_of" = some (.ref (He.ga K "digits_of"))
  p_digits_of : PySem.W.keepIn K (.ref (He.ga K "digits_of")) = true
  F_number_of : FnAt K "number_of" s_number_of
  g_number_of : mg "number_of" = some (.ref (He.ga K "number_of"))
  p_number_of : PySem.W.keepIn K (.ref (He.ga K "number_of")) = true
  F_check_octet : FnAt K "check_octet" s_check_octet
  g_check_octet : mg "check_octet" = some (.ref (He.ga K "check_octet"))
  p_check_octet : PySem.W.keepIn K (.ref (He.ga K "check_octet")) = true
  F_seal_half : FnAt K "seal_half" s_seal_half
  g_seal_half : mg "seal_half" = some (.ref (He.ga K "seal_half"))
  p_seal_half : PySem.W.keepIn K (.ref (He.ga K "seal_half")) = true
  F_read_half : FnAt K "read_half" s_read_half
  g_read_half : mg "read_half" = some (.ref (He.ga K "read_half"))
  p_read_half : PySem.W.keepIn K (.ref (He.ga K "read_half")) = true
  F_seal : FnAt K "seal" s_seal
  g_seal : mg "seal" = some (.ref (He.ga K "seal"))
  p_seal : PySem.W.keepIn K (.ref (He.ga K "seal")) = true
  F_read_sector : FnAt K "read_sector" s_read_sector
  g_read_sector : mg "read_sector" = some (.ref (He.ga K "read_sector"))
  p_read_sector : PySem.W.keepIn K (.ref (He.ga K "read_sector")) = true
  F_newest_stamp : FnAt K "newest_stamp" s_newest_stamp
  g_newest_stamp : mg "newest_stamp" = some (.ref (He.ga K "newest_stamp"))
  p_newest_stamp : PySem.W.keepIn K (.ref (He.ga K "newest_stamp")) = true
  F__law_draws : FnAt K "_law_draws" s__law_draws
  g__law_draws : mg "_law_draws" = some (.ref (He.ga K "_law_draws"))
  p__law_draws : PySem.W.keepIn K (.ref (He.ga K "_law_draws")) = true
  F__law_is_number : FnAt K "_law_is_number" s__law_is_number
  g__law_is_number : mg "_law_is_number" = some (.ref (He.ga K "_law_is_number"))
  p__law_is_number : PySem.W.keepIn K (.ref (He.ga K "_law_is_number")) = true
  F__law_octets_only : FnAt K "_law_octets_only" s__law_octets_only
  g__law_octets_only : mg "_law_octets_only" = some (.ref (He.ga K "_law_octets_only"))
  p__law_octets_only : PySem.W.keepIn K (.ref (He.ga K "_law_octets_only")) = true
  F__law_half : FnAt K "_law_half" s__law_half
  g__law_half : mg "_law_half" = some (.ref (He.ga K "_law_half"))
  p__law_half : PySem.W.keepIn K (.ref (He.ga K "_law_half")) = true
  F__law_sector : FnAt K "_law_sector" s__law_sector
  g__law_sector : mg "_law_sector" = some (.ref (He.ga K "_law_sector"))
  p__law_sector : PySem.W.keepIn K (.ref (He.ga K "_law_sector")) = true
  F__law_stamp : FnAt K "_law_stamp" s__law_stamp
  g__law_stamp : mg "_law_stamp" = some (.ref (He.ga K "_law_stamp"))
  p__law_stamp : PySem.W.keepIn K (.ref (He.ga K "_law_stamp")) = true
  F__law_reads : FnAt K "_law_reads" s__law_reads
  g__law_reads : mg "_law_reads" = some (.ref (He.ga K "_law_reads"))
  p__law_reads : PySem.W.keepIn K (.ref (He.ga K "_law_reads")) = true
  F__law_spoilt : FnAt K "_law_spoilt" s__law_spoilt
  g__law_spoilt : mg "_law_spoilt" = some (.ref (He.ga K "_law_spoilt"))
  p__law_spoilt : PySem.W.keepIn K (.ref (He.ga K "_law_spoilt")) = true
  F__law_rotten_all : FnAt K "_law_rotten_all" s__law_rotten_all
  g__law_rotten_all : mg "_law_rotten_all" = some (.ref (He.ga K "_law_rotten_all"))
  p__law_rotten_all : PySem.W.keepIn K (.ref (He.ga K "_law_rotten_all")) = true
  F_law : FnAt K "law" s_law
  g_law : mg "law" = some (.ref (He.ga K "law"))
  p_law : PySem.W.keepIn K (.ref (He.ga K "law")) = true
  m_abs : mg "abs" = none
  m_all : mg "all" = none
  m_any : mg "any" = none
  m_bool : mg "bool" = none
  m_int : mg "int" = none
  m_isinstance : mg "isinstance" = none
  m_len : mg "len" = none
  m_list : mg "list" = none
  m_max : mg "max" = none
  m_range : mg "range" = none
  m_sum : mg "sum" = none
  m_tuple : mg "tuple" = none
  c_BASE : mg "BASE" = some (cst mg "BASE")
  r_BASE : RelV (.int 256) (cst mg "BASE")
  c_DATA : mg "DATA" = some (cst mg "DATA")
  r_DATA : RelV (.int 22) (cst mg "DATA")
  c_HALF : mg "HALF" = some (cst mg "HALF")
  r_HALF : RelV (.int 16) (cst mg "HALF")
  c_HALF_DATA : mg "HALF_DATA" = some (cst mg "HALF_DATA")
  r_HALF_DATA : RelV (.int 11) (cst mg "HALF_DATA")
  c_MARK : mg "MARK" = some (cst mg "MARK")
  r_MARK : RelV (.int 197) (cst mg "MARK")
  c_BLANK : mg "BLANK" = some (.ref (He.ga K "BLANK"))
  r_BLANK : RelV (.ref (He.ga K "BLANK")) (.ref (He.ga K "BLANK"))
  t_BLANK : ∀ H : Hp, SqT K H (He.ga K "BLANK") ((List.replicate 32 0 : List Nat).map nV)
section
variable {P : Program} {w : World} {K : PySem.W.Frag} {mg : Str → Option Value} {base : Heap}
def sp_digits_of : Sp := fun vs H Q _ => ∃ n w : Nat, vs = [.int (n : Int), .int (w : Int)] ∧ w ≤ 1000 ∧ RetL ((Se.dgs n w).map nV) H Q
theorem spl_digits_of {n w : Nat} {H : Hp} (h : w ≤ 1000) : SpL sp_digits_of ([.int (n : Int), .int (w : Int)] ++ []) H ((Se.dgs n w).map nV) := fun H1 e Q k E => ⟨n, w, rfl, h, k⟩
theorem ok_digits_of (T : Txt K mg) : Okf P w K mg base CX0 1 "digits_of" s_digits_of P_digits_of sp_digits_of := by
  obtain ⟨fd, F⟩ := T.F_digits_of
  refine ⟨fd, F.ok sc_digits_of (fun vs H Q E h => ?_) (fun cdv A outer s H vs Q E hr h => ?_), F.bindsN fun _ _ _ _ _ _ us hl => match us, hl with | [_, _], _ => rfl, F⟩
  · obtain ⟨n, w, rfl, hw, k⟩ := h
    rfl
  · obtain ⟨n, w, rfl, hw, k⟩ := h
    refine ⟨_, PSs.nox (pss_cons (ps_set (i := 2) sc_digits_of.nd rfl (by first | exact Or.inl rfl | exact Or.inr rfl) (pe_lst pa_nil))
(pss_cons (ps_set (i := 3) sc_digits_of.nd rfl (by first | exact Or.inl rfl | exact Or.inr rfl) (pv 0))
(pss_cons (ps_for PassesOwn.never rfl (pi_range1 rfl T.m_range (pa_cons (pv 1) pa_nil)) (pg_name (i := 4) sc_digits_of.nd rfl (by first | exact Or.inl rfl | exact Or.inr rfl)) (pss_cons (ps_expr (pe_bm PySem.F.plainAttrs_list PySem.F.slot_list_append PySem.F.type_list_append mt_append (pv 2) (pa_cons (pe_op op_mod (pv 3) (pe_glob rfl T.c_BASE T.r_BASE)) pa_nil)))
(pss_one (ps_set (i := 3) sc_digits_of.nd rfl (by first | exact Or.inl rfl | exact Or.inr rfl) (pe_op op_fdiv (pv 3) (pe_glob rfl T.c_BASE T.r_BASE))))))
(pss_one (ps_ret (pe_revL (pv 2))))))), ?_⟩
    refine q_asgL (xs := ([] : List Nat).map nV) (el_lst ea_nil (by decide)) fun da H1 nd e1 hd => ?_
    refine q_asg (ev_var rfl) fun H2 e2 => ?_
    refine q_forR1 (n := (w : Int)) (ea_cons (ev_var rfl) ea_nil) (by omega) (fun i s H' => ∃ v, s = [some (.int (n : Int)), some (.int (w : Int)), some (.ref da), some (.int ((n / 256 ^ i : Nat) : Int)), v] ∧ Ex H H' ∧ LN H' da ((List.range i).map fun k => n / 256 ^ k % 256)) ?_ ?_ ?_
    · exact fun H3 e3 => ⟨none, by rw [Nat.pow_zero, Nat.div_one]; rfl, (e1.trans e2).trans e3, LN.up (LN.up hd e2) e3⟩
    · rintro i s H3 hi ⟨v, rfl, e, hda⟩
      refine q_app hda (ev_var rfl) (ev_op (ev_var rfl) ev_c (rv_modN (b := 256) (by decide))) (by simp; omega) fun H4 e4 => ?_
      refine s_asg (v := .int ((n / 256 ^ (i + 1) : Nat) : Int)) (ev_is (ev_op (ev_var rfl) ev_c (rv_fdivN (b := 256) (by decide))) (by rw [Nat.div_div_eq_div_mul, ← Nat.pow_succ])) fun H5 e5 => ⟨_, rfl, (Ex.mut (e.trans e4) nd).trans e5, ?_⟩
      refine LN.up ?_ e5
      show upd _ _ _ da = _
      rw [upd_same, List.range_succ, List.map_append, List.map_append]
      rfl
    · rintro s H3 ⟨v, rfl, e, hda⟩
      rw [Int.toNat_natCast] at hda
      refine s_retL (el_is (el_rev (ev_var rfl) (sq_of hda)) ?_) fun q H4 n4 e4 h4 => k q H4 (fresh_back e n4) (e.trans e4) h4
      unfold Se.dgs
      rw [List.map_reverse]
def sp_number_of : Sp := fun vs H Q _ => ∃ (p : Addr) (L : List Nat), vs = [.ref p] ∧ TN H p L ∧ L.length ≤ 1000 ∧ RetV (nV (Se.nb L)) H Q
theorem spv_number_of {p : Addr} {L : List Nat} {H : Hp} (h : TN H p L) (hl : L.length ≤ 1000) : SpV sp_number_of ([.ref p] ++ []) H (nV (Se.nb L)) := fun H1 e Q k E => ⟨p, L, rfl, h.up e, hl, k⟩
theorem nb_take {L : List Nat} {i : Nat} (h : i < L.length) : Se.nb (L.take (i + 1)) = Se.nb (L.take i) * 256 + Py.at0 L i := by
  unfold Se.nb
  rw [List.take_add_one, Py.at0_get h, List.foldl_append] <;> rfl
theorem ok_number_of (T : Txt K mg) : Okf P w K mg base CX0 1 "number_of" s_number_of P_number_of sp_number_of := by
  obtain ⟨fd, F⟩ := T.F_number_of
  refine ⟨fd, F.ok sc_number_of (fun vs H Q E h => ?_) (fun cdv A outer s H vs Q E hr h => ?_), F.bindsN fun _ _ _ _ _ _ us hl => match us, hl with | [_], _ => rfl, F⟩
  · obtain ⟨p, L, rfl, hp, hl, k⟩ := h
    rfl
  · obtain ⟨p, L, rfl, hp, hl, k⟩ := h
    refine ⟨_, PSs.nox (pss_cons (ps_set (i := 1) sc_number_of.nd rfl (by first | exact Or.inl rfl | exact Or.inr rfl) pe_int)
(pss_cons (ps_for PassesOwn.never rfl (pi_tupK (K := K) rfl (pv 0)) (pg_name (i := 2) sc_number_of.nd rfl (by first | exact Or.inl rfl | exact Or.inr rfl)) (pss_one (ps_set (i := 1) sc_number_of.nd rfl (by first | exact Or.inl rfl | exact Or.inr rfl) (pe_op op_add (pe_op op_mul (pv 1) (pe_glob rfl T.c_BASE T.r_BASE)) (pv 2)))))
(pss_one (ps_ret (pv 1))))), ?_⟩
    refine q_asg (v := nV (Se.nb (L.take 0))) ev_c fun H1 e1 => ?_
    refine q_forTN (ev_var rfl) (hp.up e1) (fun i s H' => ∃ v, s = [some (.ref p), some (nV (Se.nb (L.take i))), v] ∧ Ex H1 H') ?_ ?_ ?_ ?_
    · exact fun H2 e2 => ⟨none, rfl, e2⟩
    · rintro i s H2 ⟨v, rfl, e⟩
      exact e
    · rintro i s H2 hi ⟨v, rfl, e⟩
      refine s_asg (v := nV (Se.nb (L.take (i + 1)))) (ev_is (ev_op (ev_op (ev_var rfl) ev_c (rv_mulL (j := 256) (by decide))) (ev_var rfl) rv_I0) ?_) fun H3 e3 => ⟨_, rfl, e.trans e3⟩
      rw [nb_take hi]
      show V.int _ = V.int _
      rw [Int.natCast_add, Int.natCast_mul] <;> rfl
    · rintro s H2 ⟨v, rfl, e⟩
      rw [List.take_length]
      exact s_ret (ev_var rfl) fun H3 e3 => k H3 ((e1.trans e).trans e3)
def sp_check_octet (K : PySem.W.Frag) : Sp := fun vs H Q _ => ∃ (p : Addr) (L : List Nat), vs = [.ref p] ∧ SqI K H p L ∧ RetV (nV (Se.chk L)) H Q
theorem spv_check_octet {p : Addr} {L : List Nat} {H : Hp} (h : SqI K H p L) : SpV (sp_check_octet K) ([.ref p] ++ []) H (nV (Se.chk L)) := fun H1 e Q k E => ⟨p, L, rfl, h.up e, k⟩
theorem ok_check_octet (T : Txt K mg) : Okf P w K mg base CX0 1 "check_octet" s_check_octet P_check_octet (sp_check_octet K) := by
  obtain ⟨fd, F⟩ := T.F_check_octet
  refine ⟨fd, F.ok sc_check_octet (fun vs H Q E h => ?_) (fun cdv A outer s H vs Q E hr h => ?_), F.bindsN fun _ _ _ _ _ _ us hl => match us, hl with | [_], _ => rfl, F⟩
  · obtain ⟨p, L, rfl, hp, k⟩ := h
    rfl
  · obtain ⟨p, L, rfl, hp, k⟩ := h
    refine ⟨_, PSs.nox (pss_one (ps_ret (pe_op op_mod (pe_callB (cr_sumI rfl) (by rfl) T.m_sum (by decide +kernel) (pa_cons (pv 0) pa_nil)) pe_int))), ?_⟩
    exact s_ret (ev_op (ev_sum (ev_var rfl) hp) ev_c (rv_modN (b := 256) (by decide))) k
def sp__law_draws (K : PySem.W.Frag) : Sp := fun vs H Q _ => ∃ (a : Addr) (ns : List Int) (m : Nat), vs = [.ref a, .int (m : Int)] ∧ SqL K H a (ns.map V.int) ∧ ns.length ≤ 63 ∧ m ≤ 1000 ∧ ∀ D : List Nat, D.length = m → (∀ d ∈ D, d < 65521) → RetL (D.map nV) H Q
theorem nat_mod (z : Int) {m : Int} (h : 0 < m) : ∃ n : Nat, z % m = (n : Int) ∧ (n : Int) < m := by
  have h1 := Int.emod_nonneg z (show m ≠ 0 by omega)
  have h2 := Int.emod_lt_of_pos z h
  exact ⟨(z % m).toNat, by omega, by omega⟩
theorem all_snoc {D : List Nat} {n m : Nat} (h : ∀ d ∈ D, d < m) (hn : n < m) : ∀ d ∈ D ++ [n], d < m := by
  intro d hd
  rcases List.mem_append.mp hd with z | z
  · exact h d z
  · rw [List.mem_singleton.mp z]
    exact hn
theorem ok__law_draws (T : Txt K mg) : Okf P w K mg base CX0 1 "_law_draws" s__law_draws P__law_draws (sp__law_draws K) := by
  obtain ⟨fd, F⟩ := T.F__law_draws
  refine ⟨fd, F.ok sc__law_draws (fun vs H Q E h => ?_) (fun cdv A outer s H vs Q E hr h => ?_), F.bindsN fun _ _ _ _ _ _ us hl => match us, hl with | [_, _], _ => rfl, F⟩
  · obtain ⟨a, ns, m, rfl, hS, hn, hm, k⟩ := h
    rfl
  · obtain ⟨a, ns, m, rfl, hS, hn, hm, k⟩ := h
    refine ⟨_, PSs.nox (pss_cons (ps_set (i := 2) sc__law_draws.nd rfl (by first | exact Or.inl rfl | exact Or.inr rfl) (pe_lst pa_nil))
(pss_cons (ps_set (i := 3) sc__law_draws.nd rfl (by first | exact Or.inl rfl | exact Or.inr rfl) pe_int)
(pss_cons (ps_for PassesOwn.never rfl (pi_listK (K := K) rfl (pe_slice (sl_listK (K := K) rfl) (pv 0) po_none (po_some pe_int))) (pg_name (i := 4) sc__law_draws.nd rfl (by first | exact Or.inl rfl | exact Or.inr rfl)) (pss_cons (ps_set (i := 5) sc__law_draws.nd rfl (by first | exact Or.inl rfl | exact Or.inr rfl) (pe_callB call_abs (by rfl) T.m_abs (by decide +kernel) (pa_cons (pv 4) pa_nil)))
(pss_cons (ps_set (i := 3) sc__law_draws.nd rfl (by first | exact Or.inl rfl | exact Or.inr rfl) (pe_op op_mod (pe_callTy call_int1 (by rfl) T.m_int (by decide +kernel) (pa_cons (pe_op op_add (pe_op op_add (pe_op op_mul (pv 3) pe_int) (pv 5)) pe_int) pa_nil)) pe_int))
(pss_one (ps_if (pt_cmpR op_ge (pv 5) (pe_op op_pow pe_int pe_int) (nomark _)) (pss_one (ps_for PassesOwn.never rfl (pi_range1 rfl T.m_range (pa_cons pe_int pa_nil)) (pg_name (i := 6) sc__law_draws.nd rfl (by first | exact Or.inl rfl | exact Or.inr rfl)) (pss_one (ps_if (pt_cmpR op_gt (pv 5) pe_int (nomark _)) (pss_cons (ps_expr (pe_bm PySem.F.plainAttrs_list PySem.F.slot_list_append PySem.F.type_list_append mt_append (pv 2) (pa_cons (pe_op op_mod (pe_callTy call_int1 (by rfl) T.m_int (by decide +kernel) (pa_cons (pv 5) pa_nil)) pe_int) pa_nil)))
(pss_one (ps_set (i := 5) sc__law_draws.nd rfl (by first | exact Or.inl rfl | exact Or.inr rfl) (pe_op op_fdiv (pv 5) pe_int)))) pss_nil)))) (pss_one (ps_expr (pe_bm PySem.F.plainAttrs_list PySem.F.slot_list_append PySem.F.type_list_append mt_append (pv 2) (pa_cons (pe_op op_mod (pe_op op_fdiv (pe_callTy call_int1 (by rfl) T.m_int (by decide +kernel) (pa_cons (pe_op op_add (pe_op op_mul (pv 3) pe_int) pe_int) pa_nil)) pe_int) pe_int) pa_nil)))))))))
(pss_cons (ps_for PassesOwn.never rfl (pi_range1 rfl T.m_range (pa_cons (pv 1) pa_nil)) (pg_name (i := 6) sc__law_draws.nd rfl (by first | exact Or.inl rfl | exact Or.inr rfl)) (pss_one (ps_if (pt_cmpR op_lt (pe_callB (call_lenK (K := K) rfl) (by rfl) T.m_len (by decide +kernel) (pa_cons (pv 2) pa_nil)) (pv 1) (nomark _)) (pss_cons (ps_set (i := 3) sc__law_draws.nd rfl (by first | exact Or.inl rfl | exact Or.inr rfl) (pe_op op_mod (pe_callTy call_int1 (by rfl) T.m_int (by decide +kernel) (pa_cons (pe_op op_add (pe_op op_add (pe_op op_mul (pv 3) pe_int) (pv 6)) pe_int) pa_nil)) pe_int))
(pss_one (ps_expr (pe_bm PySem.F.plainAttrs_list PySem.F.slot_list_append PySem.F.type_list_append mt_append (pv 2) (pa_cons (pe_op op_mod (pe_op op_fdiv (pe_callTy call_int1 (by rfl) T.m_int (by decide +kernel) (pa_cons (pv 3) pa_nil)) pe_int) pe_int) pa_nil))))) pss_nil)))
(pss_one (ps_ret (pe_slice (sl_listK (K := K) rfl) (pv 2) po_none (po_some (pv 1))))))))), ?_⟩
    refine q_asgL (xs := ([] : List Nat).map nV) (el_lst ea_nil (by decide)) fun da H1 nd e1 hd => ?_
    refine q_asg ev_c fun H2 e2 => ?_
    have hS2 := ex_l (e1.trans e2) hS
    have hd2 : LN H2 da [] := LN.up hd e2
    have e12 := e1.trans e2
    refine q_forNLn (xs := ns.map V.int) (el_is (el_sl (ev_var rfl) eo_none (eo_some ev_c) hS2) (cut_all (n := 63) (by rw [List.length_map]; exact hn))) (fun p i s H' => ∃ sd v4 v5 v6 D, s = [some (.ref a), some (.int (m : Int)), some (.ref da), some (.int sd), v4, v5, v6] ∧ Ex H H' ∧ LN H' da D ∧ (∀ d ∈ D, d < 65521) ∧ D.length ≤ 60 * i ∧ H' p = some (.lst (ns.map V.int)) ∧ p ≠ da) ?_ ?_ ?_ ?_
    · exact fun p H3 np e3 hp => ⟨7, none, none, none, [], rfl, e12.trans e3, LN.up hd2 e3, (fun d hd => absurd hd List.not_mem_nil), Nat.zero_le _, hp, fun z => by rw [z, hd2] at np; cases np⟩
    · rintro p i s H' _ ⟨sd, v4, v5, v6, D, rfl, e, hD, hlt, hDl, hp, hne⟩
      exact sq_of hp
    · rintro p i x s H3 hx ⟨sd, v4, v5, v6, D, rfl, e, hD, hlt, hDl, hp, hne⟩
      obtain ⟨z, _, rfl⟩ := List.mem_map.mp (List.mem_of_getElem? hx)
      have hi : i < 63 := by
        have := (List.getElem?_eq_some_iff.mp hx).1
        rw [List.length_map] at this
        omega
      obtain ⟨nm, hnm⟩ : ∃ nm : Nat, (if z < 0 then -z else z) = (nm : Int) := by
        refine ⟨z.natAbs, ?_⟩
        split <;> omega
      refine q_asg (v := .int (nm : Int)) (ev_is (ev_abs (ev_var rfl)) (congrArg V.int hnm)) fun H4 e4 => ?_
      refine q_asg (ev_op (ev_int (ev_op (ev_op (ev_op (ev_var rfl) ev_c (rv_mulL (by decide))) (ev_var rfl) rv_I0) ev_c rv_I0)) ev_c (rv_mod (by decide))) fun H5 e5 => ?_
      generalize (sd * 48271 + (nm : Int) + 11) % 2147483647 = sd2
      have hD5 := (hD.up e4).up e5
      have e35 := (e.trans e4).trans e5
      have hp5 : H5 p = some (.lst (ns.map V.int)) := e5 p _ (e4 p _ hp)
      refine s_if (et_test (ev_op (ev_var rfl) (ev_op ev_c ev_c (rv_I ⟨by decide, by decide, by decide⟩)) rv_I0)) (fun h H6 e6 => ?_) (fun h H6 e6 => ?_)
      · refine s_forR1 (n := 60) (ea_cons ev_c ea_nil) (by decide) (fun j s H' => ∃ (n2 : Nat) (v6 : Option V) (D2 : List Nat), s = [some (.ref a), some (.int (m : Int)), some (.ref da), some (.int sd2), some (.int z), some (.int (n2 : Int)), v6] ∧ Ex H H' ∧ LN H' da D2 ∧ (∀ d ∈ D2, d < 65521) ∧ D2.length ≤ 60 * i + j ∧ H' p = some (.lst (ns.map V.int))) ?_ ?_ ?_
        · exact fun H7 e7 => ⟨nm, v6, D, rfl, (e35.trans e6).trans e7, (hD5.up e6).up e7, hlt, by omega, e7 p _ (e6 p _ hp5)⟩
        · rintro j s H7 hj ⟨n2, v6, D2, rfl, e7, hD7, hlt7, hl7, hp7⟩
          refine s_when (et_test (ev_op (ev_var rfl) ev_c rv_I0)) (fun h H8 e8 => ?_) (fun h H8 e8 => ?_)
          · refine q_app (hD7.up e8) (ev_var rfl) (ev_op (ev_int (ev_var rfl)) ev_c (rv_modN (b := 1009) (by decide))) (by rw [len_map]; omega) fun H9 e9 => ?_
            refine s_asg (ev_op (ev_var rfl) ev_c (rv_fdivN (b := 1009) (by decide))) fun H10 e10 => ?_
            have eX := (Ex.mut ((e7.trans e8).trans e9) nd (o := .lst (D2.map nV ++ [.int ((n2 % 1009 : Nat) : Int)])))
            refine ⟨n2 / 1009, _, D2 ++ [n2 % 1009], rfl, eX.trans e10, ?_, all_snoc hlt7 (Nat.lt_of_lt_of_le (Nat.mod_lt _ (by decide)) (by decide)), by rw [List.length_append, List.length_singleton]; omega, ?_⟩
            · refine LN.up ?_ e10
              show upd _ _ _ da = _
              rw [upd_same, List.map_append]
              rfl
            · refine e10 p _ ?_
              rw [upd_ne hne]
              exact e9 p _ (e8 p _ hp7)
          · exact ⟨n2, _, D2, rfl, e7.trans e8, hD7.up e8, hlt7, by omega, e8 p _ hp7⟩
        · rintro s H7 ⟨n2, v6, D2, rfl, e7, hD7, hlt7, hl7, hp7⟩
          have e60 : (60 : Int).toNat = 60 := rfl
          rw [e60] at hl7
          exact ⟨sd2, _, _, _, D2, rfl, e7, hD7, hlt7, by omega, hp7, hne⟩
      · obtain ⟨n2, hn2, ln2⟩ := nat_mod ((sd2 * 16807 + 5) / 3) (m := 65521) (by decide)
        refine s_app (hD5.up e6) (ev_var rfl) (v := nV n2) (ev_is (ev_op (ev_op (ev_int (ev_op (ev_op (ev_var rfl) ev_c (rv_mulL (by decide))) ev_c rv_I0)) ev_c (rv_fdiv (by decide))) ev_c (rv_mod (by decide))) (congrArg V.int hn2)) (by rw [len_map]; omega) fun H7 e7 => ?_
        refine ⟨sd2, _, _, _, D ++ [n2], rfl, Ex.mut ((e35.trans e6).trans e7) nd, ?_, all_snoc hlt (by omega), by rw [List.length_append, List.length_singleton]; omega, ?_, hne⟩
        · show upd _ _ _ da = _
          rw [upd_same, List.map_append]
          rfl
        · rw [upd_ne hne]
          exact e7 p _ (e6 p _ hp5)
    · rintro p s H3 ⟨sd, v4, v5, v6, D, rfl, e, hD, hlt, hDl, hp, hne⟩
      rw [List.length_map] at hDl
      refine q_forR1 (n := (m : Int)) (ea_cons (ev_var rfl) ea_nil) (by omega) (fun i s H' => ∃ sd v6 D, s = [some (.ref a), some (.int (m : Int)), some (.ref da), some (.int sd), v4, v5, v6] ∧ Ex H H' ∧ LN H' da D ∧ (∀ d ∈ D, d < 65521) ∧ D.length ≤ 3780 + i ∧ (i ≤ D.length ∨ m ≤ D.length)) ?_ ?_ ?_
      · exact fun H4 e4 => ⟨sd, v6, D, rfl, e.trans e4, hD.up e4, hlt, by omega, .inl (Nat.zero_le _)⟩
      · rintro i s H4 hi ⟨sd, v6, D, rfl, e, hD, hlt, hDl, hor⟩
        refine s_when (et_test (ev_op (ev_lenL (ev_var rfl) (sq_of hD)) (ev_var rfl) rv_I0)) (fun h H5 e5 => ?_) (fun h H5 e5 => ?_)
        · have h := of_decide_eq_true h
          rw [len_map] at h
          refine q_asg (ev_op (ev_int (ev_op (ev_op (ev_op (ev_var rfl) ev_c (rv_mulL (by decide))) (ev_var rfl) rv_I0) ev_c rv_I0)) ev_c (rv_mod (by decide))) fun H6 e6 => ?_
          obtain ⟨n2, hn2, ln2⟩ := nat_mod ((sd * 69621 + (i : Int) + 1) % 2147483647 / 7) (m := 65521) (by decide)
          refine s_app ((hD.up e5).up e6) (ev_var rfl) (v := nV n2) (ev_is (ev_op (ev_op (ev_int (ev_var rfl)) ev_c (rv_fdiv (by decide))) ev_c (rv_mod (by decide))) (congrArg V.int hn2)) (by rw [len_map]; omega) fun H7 e7 => ?_
          refine ⟨_, _, D ++ [n2], rfl, Ex.mut (((e.trans e5).trans e6).trans e7) nd, ?_, all_snoc hlt (by omega), by rw [List.length_append, List.length_singleton]; omega, ?_⟩
          · show upd _ _ _ da = _
            rw [upd_same, List.map_append]
            rfl
          · rw [List.length_append, List.length_singleton]
            omega
        · have h := of_decide_eq_false h
          rw [len_map] at h
          exact ⟨sd, _, D, rfl, e.trans e5, hD.up e5, hlt, by omega, .inr (by omega)⟩
      · rintro s H4 ⟨sd, v6, D, rfl, e, hD, hlt, hDl, hor⟩
        rw [Int.toNat_natCast] at hor
        have hl : m ≤ D.length := by omega
        refine s_retL (xs := (D.take m).map nV) (el_is (el_sl (ev_var rfl) eo_none (eo_some (ev_var rfl)) (sq_of hD)) (by rw [cut_take (by rw [len_map]; exact hl), List.map_take])) fun q H5 n5 e5 h5 => ?_
        exact k (D.take m) (by rw [List.length_take]; omega) (fun d hd => hlt d (List.mem_of_mem_take hd)) q H5 (fresh_back e n5) (e.trans e5) h5
def sp__law_is_number : Sp := fun vs H Q _ => ∃ (i : Int), vs = [.int i] ∧ RetV (.bl true) H Q
theorem spv__law_is_number {i : Int} {H : Hp} : SpV sp__law_is_number ([.int i] ++ []) H (.bl true) := fun H1 e Q q E => ⟨i, rfl, q⟩
local macro_rules | `(tactic| walk_at "spv") => `(tactic| with_reducible exact spv__law_is_number)
theorem ok__law_is_number (T : Txt K mg) : Okf P w K mg base CX0 1 "_law_is_number" s__law_is_number P__law_is_number sp__law_is_number := by
  obtain ⟨fd, F⟩ := T.F__law_is_number
  refine ⟨fd, F.ok sc__law_is_number (fun vs H Q E h => ?_) (fun cdv A outer s H vs Q E hr h => ?_), F.bindsN fun _ _ _ _ _ _ us hl => match us, hl with | [_], _ => rfl, F⟩
  · obtain ⟨i, rfl, k⟩ := h
    rfl
  · obtain ⟨i, rfl, k⟩ := h
    refine ⟨_, PSs.nox (pss_one (ps_ret (pe_and (pe_callB (call_isiK' (K := K) rfl) (by rfl) T.m_isinstance (by decide +kernel) (pa_cons (pv 0) (pa_cons (pe_bltn (v := .ty "int") (by rfl) T.m_int (by decide +kernel) rfl) pa_nil))) (pe_one (pe_not (pe_callB (call_isiK' (K := K) rfl) (by rfl) T.m_isinstance (by decide +kernel) (pa_cons (pv 0) (pa_cons (pe_bltn (v := .ty "bool") (by rfl) T.m_bool (by decide +kernel) rfl) pa_nil)))))))), ?_⟩
    refine s_ret (v := .bl (true && !false)) ?_ k
    exact ev_andV (ev_isiI (ev_var rfl) ev_c (by decide +kernel)) fun _ => ev_notV (ev_isiI (ev_var rfl) ev_c (by decide +kernel))
def sp__law_half : Sp := fun vs H Q _ => ∃ (s : Nat) (p : Addr) (L : List Nat), vs = [.int (s : Int), .ref p] ∧ LN H p L ∧ L.length ≤ 1000 ∧ RetU ((Se.half s L).map nV) H Q
theorem spu__law_half {s : Nat} {p : Addr} {L : List Nat} {H : Hp} (h : LN H p L) (hl : L.length ≤ 1000) : SpU sp__law_half ([.int (s : Int), .ref p] ++ []) H ((Se.half s L).map nV) := fun H1 e Q k E => ⟨s, p, L, rfl, h.up e, hl, k⟩
theorem ok__law_half (T : Txt K mg) : Okf P w K mg base CX0 1 "_law_half" s__law_half P__law_half sp__law_half := by
  obtain ⟨fd, F⟩ := T.F__law_half
  refine ⟨fd, F.ok sc__law_half (fun vs H Q E h => ?_) (fun cdv A outer s H vs Q E hr h => ?_), F.bindsN fun _ _ _ _ _ _ us hl => match us, hl with | [_, _], _ => rfl, F⟩
  · obtain ⟨st, p, L, rfl, hp, hl, k⟩ := h
    rfl
  · obtain ⟨st, p, L, rfl, hp, hl, k⟩ := h
    refine ⟨_, PSs.nox (pss_cons (ps_set (i := 2) sc__law_half.nd rfl (by first | exact Or.inl rfl | exact Or.inr rfl) (pe_op op_cat (pe_lst (pa_cons pe_int (pa_cons (pe_op op_fdiv (pv 0) pe_int) (pa_cons (pe_op op_mod (pe_callTy call_int1 (by rfl) T.m_int (by decide +kernel) (pa_cons (pe_op op_fdiv (pv 0) pe_int) pa_nil)) pe_int) (pa_cons (pe_op op_mod (pe_callTy call_int1 (by rfl) T.m_int (by decide +kernel) (pa_cons (pv 0) pa_nil)) pe_int) pa_nil))))) (pe_callTy (call_list_ofK (K := K) rfl) (by rfl) T.m_list (by decide +kernel) (pa_cons (pv 1) pa_nil))))
(pss_one (ps_ret (pe_callTy call_tuple_of (by rfl) T.m_tuple (by decide +kernel) (pa_cons (pe_op op_cat (pv 2) (pe_lst (pa_cons (pe_op op_mod (pe_callTy call_int1 (by rfl) T.m_int (by decide +kernel) (pa_cons (pe_callB (cr_sumI rfl) (by rfl) T.m_sum (by decide +kernel) (pa_cons (pv 2) pa_nil)) pa_nil)) pe_int) pa_nil))) pa_nil))))), ?_⟩
    have fl := Se.front_length st L
    refine q_asgL (xs := (Se.front st L).map nV) (el_is (el_catLL (xs := ([197, st / 65536, st / 256 % 256, st % 256] : List Nat).map nV) (el_lst (ea_cons ev_c (ea_cons (ev_op (ev_var rfl) ev_c (rv_fdivN (b := 65536) (by decide))) (ea_cons (ev_op (ev_int (ev_op (ev_var rfl) ev_c (rv_fdivN (b := 256) (by decide)))) ev_c (rv_modN (b := 256) (by decide))) (ea_cons (ev_op (ev_int (ev_var rfl)) ev_c (rv_modN (b := 256) (by decide))) ea_nil)))) (by simp)) (el_listL (ev_var rfl) (sq_of hp)) (by simp; omega)) ?_) fun oa H1 no e1 ho => ?_
    · unfold Se.front
      rw [List.map_append]
    · have ho1 : LN H1 oa (Se.front st L) := ho
      refine s_retU (eu_tupL (el_is (ys := (Se.half st L).map nV) (el_catVL (ev_var rfl) ho1 (el_lst (ea_cons (ev_op (ev_int (ev_sum (ev_var rfl) (.inl (sq_of ho1)))) ev_c (rv_modN (b := 256) (by decide))) ea_nil) (by simp)) (by rw [len_map, fl]; simp; omega)) ?_)) fun q H2 n2 e2 h2 => k q H2 (fresh_back e1 n2) (e1.trans e2) h2
      unfold Se.half Se.seald
      rw [List.map_append] <;> rfl
def sp__law_stamp : Sp := fun vs H Q _ => ∃ o t : Nat, vs = [.int (o : Int), .int (t : Int)] ∧ o < 65521 ∧ ∀ s : Nat, 0 < s → s < 16777216 → RetV (nV s) H Q
theorem ok__law_stamp (T : Txt K mg) : Okf P w K mg base CX0 1 "_law_stamp" s__law_stamp P__law_stamp sp__law_stamp := by
  obtain ⟨fd, F⟩ := T.F__law_stamp
  refine ⟨fd, F.ok sc__law_stamp (fun vs H Q E h => ?_) (fun cdv A outer s H vs Q E hr h => ?_), F.bindsN fun _ _ _ _ _ _ us hl => match us, hl with | [_, _], _ => rfl, F⟩
  · obtain ⟨o, t, rfl, ho, k⟩ := h
    rfl
  · obtain ⟨o, t, rfl, ho, k⟩ := h
    refine ⟨_, PSs.nox (pss_cons (ps_set (i := 2) sc__law_stamp.nd rfl (by first | exact Or.inl rfl | exact Or.inr rfl) (pe_lst (pa_cons pe_int (pa_cons pe_int (pa_cons pe_int (pa_cons pe_int (pa_cons pe_int (pa_cons pe_int (pa_cons pe_int (pa_cons pe_int (pa_cons (pe_op op_add pe_int (pv 0)) (pa_cons (pe_op op_add (pe_op op_add pe_int (pe_op op_mul (pv 0) pe_int)) (pe_op op_mod (pe_callTy call_int1 (by rfl) T.m_int (by decide +kernel) (pa_cons (pv 1) pa_nil)) pe_int)) pa_nil))))))))))))
(pss_one (ps_ret (pe_ix (ix_listK (K := K) rfl) (pv 2) (pe_op op_mod (pe_callTy call_int1 (by rfl) T.m_int (by decide +kernel) (pa_cons (pv 1) pa_nil)) pe_int) (fun _ _ => rfl))))), ?_⟩
    refine q_asgL (xs := ([1, 2, 255, 256, 65535, 65536, 16777215, 16777214, 1 + o, 1 + o * 256 + t % 256] : List Nat).map nV) (el_lst (ea_cons ev_c (ea_cons ev_c (ea_cons ev_c (ea_cons ev_c (ea_cons ev_c (ea_cons ev_c (ea_cons ev_c (ea_cons ev_c (ea_cons (ev_op ev_c (ev_var rfl) (rv_addN (a := 1))) (ea_cons (ev_op (ev_op ev_c (ev_op (ev_var rfl) ev_c (rv_mulN (b := 256) (by omega))) (rv_addN (a := 1))) (ev_op (ev_int (ev_var rfl)) ev_c (rv_modN (b := 256) (by decide))) rv_addN) ea_nil)))))))))) (by simp)) fun sa H1 ns e1 hs => ?_
    have hs1 : LN H1 sa [1, 2, 255, 256, 65535, 65536, 16777215, 16777214, 1 + o, 1 + o * 256 + t % 256] := hs
    have hb : ∀ x ∈ ([1, 2, 255, 256, 65535, 65536, 16777215, 16777214, 1 + o, 1 + o * 256 + t % 256] : List Nat), 0 < x ∧ x < 16777216 := by
      intro x hx
      simp only [List.mem_cons, List.not_mem_nil, or_false] at hx
      omega
    have hk : t % 10 < ([1, 2, 255, 256, 65535, 65536, 16777215, 16777214, 1 + o, 1 + o * 256 + t % 256] : List Nat).length := Nat.mod_lt _ (by decide)
    have hx := hb _ (List.mem_of_getElem? (Py.at0_get hk))
    refine s_ret (ev_op (ev_var rfl) (ev_op (ev_int (ev_var rfl)) ev_c (rv_modN (b := 10) (by decide))) (rv_ixLN (sq_of hs1) (nat_get hk))) fun H2 e2 => k _ hx.1 hx.2 H2 (e1.trans e2)
def spo (S : List Nat) (p d : Nat) : List Nat := S.set p ((Py.at0 S p + 1 + d % 255) % 256)
def sp__law_spoilt : Sp := fun vs H Q _ => ∃ (a : Addr) (S : List Nat) (p d : Nat), vs = [.ref a, .int (p : Int), .int (d : Int)] ∧ TN H a S ∧ S.length = 32 ∧ p < 32 ∧ RetU ((spo S p d).map nV) H Q
theorem spu__law_spoilt {a : Addr} {S : List Nat} {p d : Nat} {H : Hp} (h : TN H a S) (hl : S.length = 32) (hp : p < 32) : SpU sp__law_spoilt ([.ref a, .int (p : Int), .int (d : Int)] ++ []) H ((spo S p d).map nV) := fun H1 e Q k E => ⟨a, S, p, d, rfl, h.up e, hl, hp, k⟩
theorem ok__law_spoilt (T : Txt K mg) : Okf P w K mg base CX0 1 "_law_spoilt" s__law_spoilt P__law_spoilt sp__law_spoilt := by
  obtain ⟨fd, F⟩ := T.F__law_spoilt
  refine ⟨fd, F.ok sc__law_spoilt (fun vs H Q E h => ?_) (fun cdv A outer s H vs Q E hr h => ?_), F.bindsN fun _ _ _ _ _ _ us hl => match us, hl with | [_, _, _], _ => rfl, F⟩
  · obtain ⟨a, S, p, d, rfl, ha, hl, hp, k⟩ := h
    rfl
  · obtain ⟨a, S, p, d, rfl, ha, hl, hp, k⟩ := h
    refine ⟨_, PSs.nox (pss_cons (ps_set (i := 3) sc__law_spoilt.nd rfl (by first | exact Or.inl rfl | exact Or.inr rfl) (pe_op op_mod (pe_callTy call_int1 (by rfl) T.m_int (by decide +kernel) (pa_cons (pe_op op_add (pe_op op_add (pe_ix (ix_tupK (K := K) rfl) (pv 0) (pv 1) (fun _ _ => rfl)) pe_int) (pe_op op_mod (pe_callTy call_int1 (by rfl) T.m_int (by decide +kernel) (pa_cons (pv 2) pa_nil)) pe_int)) pa_nil)) pe_int))
(pss_one (ps_ret (pe_op op_catA (pe_op op_catA (pe_slice (sl_tupK (K := K) rfl) (pv 0) po_none (po_some (pv 1))) (pe_tup (pa_cons (pv 3) pa_nil))) (pe_slice (sl_tupK (K := K) rfl) (pv 0) (po_some (pe_op op_add (pv 1) pe_int)) po_none))))), ?_⟩
    refine q_asg (v := nV ((Py.at0 S p + 1 + d % 255) % 256)) (ev_op (ev_int (ev_op (ev_op (ev_op (ev_var rfl) (ev_var rfl) (rv_ixTN (st_of ha) (tn_get (by omega)))) ev_c (rv_addN (b := 1))) (ev_op (ev_int (ev_var rfl)) ev_c (rv_modN (b := 255) (by decide))) rv_addN)) ev_c (rv_modN (b := 256) (by decide))) fun H1 e1 => ?_
    have ha1 := ha.up e1
    refine s_retU (xs := (spo S p d).map nV) (eu_is (eu_catUU (eu_catUU (eu_front (ev_var rfl) (eo_some (ev_var rfl)) ha1 (by omega)) (eu_tup (vs := ([(Py.at0 S p + 1 + d % 255) % 256] : List Nat).map nV) (ea_cons (ev_var rfl) ea_nil) (by simp)) (by simp; omega)) (eu_back (a := p + 1) (ev_var rfl) (eo_some (ev_op (ev_var rfl) ev_c (rv_addN (b := 1)))) ha1 (by omega) (by omega)) (by simp; omega)) ?_) fun q H2 n2 e2 h2 => k q H2 (fresh_back e1 n2) (e1.trans e2) h2
    unfold spo
    rw [← List.map_append, ← List.map_append, Se.set_cut (by omega)]
def sp_seal_half (K : PySem.W.Frag) : Sp := fun vs H Q _ => ∃ (s : Nat) (p : Addr) (L : List Nat), vs = [.int (s : Int), .ref p] ∧ s < 16777216 ∧ SqI K H p L ∧ L.length ≤ 1000 ∧ RetU ((Se.half s L).map nV) H Q
theorem spu_seal_half {s : Nat} {p : Addr} {L : List Nat} {H : Hp} (hs : s < 16777216) (h : SqI K H p L) (hl : L.length ≤ 1000) : SpU (sp_seal_half K) ([.int (s : Int), .ref p] ++ []) H ((Se.half s L).map nV) := fun H1 e Q k E => ⟨s, p, L, rfl, hs, h.up e, hl, k⟩
theorem ok_seal_half (T : Txt K mg) : Okf P w K mg base CX0 2 "seal_half" s_seal_half P_seal_half (sp_seal_half K) := by
  obtain ⟨fd_check_octet, G_check_octet, B_check_octet, _⟩ := ok_check_octet (P := P) (w := w) (base := base) T
  obtain ⟨fd_digits_of, G_digits_of, B_digits_of, _⟩ := ok_digits_of (P := P) (w := w) (base := base) T
  obtain ⟨fd, F⟩ := T.F_seal_half
  refine ⟨fd, F.ok sc_seal_half (fun vs H Q E h => ?_) (fun cdv A outer s H vs Q E hr h => ?_), F.bindsN fun _ _ _ _ _ _ us hl => match us, hl with | [_, _], _ => rfl, F⟩
  · obtain ⟨st, p, L, rfl, hs, hp, hl, k⟩ := h
    rfl
  · obtain ⟨st, p, L, rfl, hs, hp, hl, k⟩ := h
    refine ⟨_, PSs.nox (pss_cons (ps_set (i := 2) sc_seal_half.nd rfl (by first | exact Or.inl rfl | exact Or.inr rfl) (pe_op op_cat (pe_op op_cat (pe_lst (pa_cons (pe_glob rfl T.c_MARK T.r_MARK) pa_nil)) (pe_call G_digits_of (hr.mono (by decide)) rfl T.g_digits_of T.p_digits_of B_digits_of .nil pass0 (pa_cons (pv 0) (pa_cons pe_int pa_nil)))) (pe_callTy (call_list_ofK (K := K) rfl) (by rfl) T.m_list (by decide +kernel) (pa_cons (pv 1) pa_nil))))
(pss_one (ps_ret (pe_callTy call_tuple_of (by rfl) T.m_tuple (by decide +kernel) (pa_cons (pe_op op_cat (pv 2) (pe_lst (pa_cons (pe_call G_check_octet (hr.mono (by decide)) rfl T.g_check_octet T.p_check_octet B_check_octet .nil pass0 (pa_cons (pv 2) pa_nil)) pa_nil))) pa_nil))))), ?_⟩
    have fl := Se.front_length st L
    refine q_asgL (xs := (Se.front st L).map nV) (el_is (el_catLL (el_catLL (xs := ([197] : List Nat).map nV) (ys := ([st / 65536, st / 256 % 256, st % 256] : List Nat).map nV) (el_lst (ea_cons ev_c ea_nil) (by decide)) (el_is (el_call (ea_cons (ev_var rfl) (ea_cons ev_c ea_nil)) (spl_digits_of (n := st) (w := 3) (by decide))) (by rw [Se.dgs3 hs])) (by simp)) (el_listI (ev_var rfl) hp) (by simp; omega)) ?_) fun oa H1 no e1 ho => ?_
    · unfold Se.front
      rw [List.map_append] <;> rfl
    · have ho1 : LN H1 oa (Se.front st L) := ho
      refine s_retU (eu_tupL (el_is (ys := (Se.half st L).map nV) (el_catVL (ev_var rfl) ho1 (el_lst (ea_cons (ev_call (ea_cons (ev_var rfl) ea_nil) (spv_check_octet (.inl (sq_of ho1)))) ea_nil) (by simp)) (by rw [len_map, fl]; simp; omega)) ?_)) fun q H2 n2 e2 h2 => k q H2 (fresh_back e1 n2) (e1.trans e2) h2
      unfold Se.half Se.seald
      rw [List.map_append] <;> rfl
def sp_read_half : Sp := fun vs H Q _ => ∃ (p : Addr) (L : List Nat), vs = [.ref p] ∧ TN H p L ∧ L.length = 16 ∧ ∀ q H', H q = none → Ex H H' → TD H' q (Se.rd L) → Q (.ref q) H'
theorem cut_midT {xs : List V} {a b : Nat} (h : a ≤ b) (h2 : b ≤ xs.length) : cutV xs (some (a : Int)) (some (b : Int)) = (xs.drop a).take (b - a) := cut_mid h h2
theorem ok_read_half (T : Txt K mg) : Okf P w K mg base CX0 2 "read_half" s_read_half P_read_half sp_read_half := by
  obtain ⟨fd_check_octet, G_check_octet, B_check_octet, _⟩ := ok_check_octet (P := P) (w := w) (base := base) T
  obtain ⟨fd_number_of, G_number_of, B_number_of, _⟩ := ok_number_of (P := P) (w := w) (base := base) T
  obtain ⟨fd, F⟩ := T.F_read_half
  refine ⟨fd, F.ok sc_read_half (fun vs H Q E h => ?_) (fun cdv A outer s H vs Q E hr h => ?_), F.bindsN fun _ _ _ _ _ _ us hl => match us, hl with | [_], _ => rfl, F⟩
  · obtain ⟨p, L, rfl, hp, hl, k⟩ := h
    rfl
  · obtain ⟨p, L, rfl, hp, hl, k⟩ := h
    refine ⟨_, PSs.nox (pss_cons (ps_if (pt_not (pt_val (pe_callB (cr_anyI rfl) (by rfl) T.m_any (by decide +kernel) (pa_cons (pv 0) pa_nil)))) (pss_one (ps_ret (pe_tup (pa_cons pe_str (pa_cons pe_int (pa_cons (pe_tup pa_nil) pa_nil)))))) pss_nil)
(pss_cons (ps_set (i := 1) sc_read_half.nd rfl (by first | exact Or.inl rfl | exact Or.inr rfl) (pe_call G_number_of (hr.mono (by decide)) rfl T.g_number_of T.p_number_of B_number_of .nil pass0 (pa_cons (pe_slice (sl_tupK (K := K) rfl) (pv 0) (po_some pe_int) (po_some pe_int)) pa_nil)))
(pss_cons (ps_if (PW.pt (pw_or (pt_cmpR op_ne (pe_ix (ix_tupK (K := K) rfl) (pv 0) pe_int (fun _ _ => rfl)) (pe_glob rfl T.c_MARK T.r_MARK) (nomark _)) (pw_or (pt_cmpR op_eq (pv 1) pe_int (nomark _)) (pw_or1 (pt_cmpR op_ne (pe_ix (ix_tupK (K := K) rfl) (pv 0) pe_int (fun _ _ => rfl)) (pe_call G_check_octet (hr.mono (by decide)) rfl T.g_check_octet T.p_check_octet B_check_octet .nil pass0 (pa_cons (pe_slice (sl_tupK (K := K) rfl) (pv 0) po_none (po_some pe_int)) pa_nil)) (nomark _)))))) (pss_one (ps_ret (pe_tup (pa_cons pe_str (pa_cons pe_int (pa_cons (pe_tup pa_nil) pa_nil)))))) pss_nil)
(pss_one (ps_ret (pe_tup (pa_cons pe_str (pa_cons (pv 1) (pa_cons (pe_callTy call_tuple_of (by rfl) T.m_tuple (by decide +kernel) (pa_cons (pe_slice (sl_tupK (K := K) rfl) (pv 0) (po_some pe_int) (po_some pe_int)) pa_nil)) pa_nil))))))))), ?_⟩
    have lm : (L.map nV).length = 16 := by rw [len_map, hl]
    have sl : ∀ (a b : Nat) (H' : Hp), Ex H H' → a ≤ b → b ≤ 16 → ¬ (a = 0 ∧ b = 16) → ∀ (te : TE) (σ : L2.St) (tl th : TO), Ev te σ H' (.ref p) → EvO tl σ H' (some (a : Int)) → EvO th σ H' (some (b : Int)) → EvU (tSl (rSlT K) te tl th) σ H' (((L.drop a).take (b - a)).map nV) := by
      intro a b H' e h1 h2 h3 te σ tl th h4 h5 h6
      refine eu_is (eu_sl h4 h5 h6 (st_of (hp.up e)) ?_) ?_
      · rw [lm, HT.sIx_nat, HT.sIx_nat]
        omega
      · rw [cut_mid h1 (by omega), List.map_take, List.map_drop]
    have sl0 : ∀ (b : Nat) (H' : Hp), Ex H H' → b < 16 → ∀ (te : TE) (σ : L2.St) (th : TO), Ev te σ H' (.ref p) → EvO th σ H' (some (b : Int)) → EvU (tSl (rSlT K) te tNoPart th) σ H' ((L.take b).map nV) := by
      intro b H' e h1 te σ th h4 h6
      refine eu_is (eu_sl h4 eo_none h6 (st_of (hp.up e)) ?_) ?_
      · rw [lm, HT.sIx_nat]
        omega
      · rw [cut_take (by omega), List.map_take]
    refine q_when (et_not (et_B (ev_any (ev_var rfl) (.inr (st_of hp))))) (fun h0 H1 e1 => ?_) (fun h0 H1 e1 => ?_)
    · have z : Se.rd L = Se.blk := by
        unfold Se.rd Se.anz
        rw [if_pos (by simpa using h0)]
      rw [z] at k
      exact s_retTD (etd (w := "blank") (n := 0) (L := []) ev_c ev_c (eu_tup ea_nil (by decide))) fun q H2 n2 e2 h2 => k q H2 (fresh_back e1 n2) (e1.trans e2) h2
    · have z0 : Se.anz L = true := by
        unfold Se.anz
        simpa using h0
      refine q_asg (ev_call1U (sl 1 4 H1 e1 (by decide) (by decide) (by decide) _ _ _ _ (ev_var rfl) (eo_some ev_c) (eo_some ev_c)) fun q H2 e2 hq => spv_number_of hq (by simp; omega)) fun H2 e2 => ?_
      have e12 := e1.trans e2
      refine q_when (b := decide (Py.at0 L 0 ≠ 197 ∨ Se.nb ((L.drop 1).take 3) = 0 ∨ Py.at0 L 15 ≠ Se.chk (L.take 15))) (et_is (et_or (et_test (ev_op (ev_op (ev_var rfl) ev_c (rv_ixTN (k := 0) (st_of (hp.up e12)) (tn_get (by omega)))) ev_c (rv_ne rfl))) fun _ => et_or (et_test (ev_op (ev_var rfl) ev_c (rv_eq rfl))) fun _ => et_test (ev_op (ev_op (ev_var rfl) ev_c (rv_ixTN (k := 15) (st_of (hp.up e12)) (tn_get (by omega)))) (ev_call1U (sl0 15 H2 e12 (by decide) _ _ _ (ev_var rfl) (eo_some ev_c)) fun q H3 e3 hq => spv_check_octet (.inr (st_of hq))) (rv_ne rfl))) ?_) (fun h1 H3 e3 => ?_) (fun h1 H3 e3 => ?_)
      · show ((!decide (V.int ((Py.at0 L 0 : Nat) : Int) = V.int ((197 : Nat) : Int))) || (decide (V.int ((Se.nb ((L.drop 1).take 3) : Nat) : Int) = V.int ((0 : Nat) : Int)) || !decide (V.int ((Py.at0 L 15 : Nat) : Int) = V.int ((Se.chk (L.take 15) : Nat) : Int)))) = _
        rw [dec_nat, dec_nat, dec_nat, Bool.eq_iff_iff]
        simp
      · have z := Se.rd_bad z0 (of_decide_eq_true h1)
        rw [z] at k
        exact s_retTD (etd (w := "rotten") (n := 0) (L := []) ev_c ev_c (eu_tup ea_nil (by decide))) fun q H4 n4 e4 h4 => k q H4 (fresh_back (e12.trans e3) n4) ((e12.trans e3).trans e4) h4
      · have z : Se.rd L = (("good" : Str), Se.nb ((L.drop 1).take 3), (L.drop 4).take 11) := by
          unfold Se.rd
          rw [z0, if_neg (by decide), if_neg (of_decide_eq_false h1)]
        rw [z] at k
        exact s_retTD (etd (w := "good") (n := Se.nb ((L.drop 1).take 3)) (L := (L.drop 4).take 11) ev_c (ev_var rfl) (eu_tupU (sl 4 15 H3 (e12.trans e3) (by decide) (by decide) (by decide) _ _ _ _ (ev_var rfl) (eo_some ev_c) (eo_some ev_c)))) fun q H4 n4 e4 h4 => k q H4 (fresh_back (e12.trans e3) n4) ((e12.trans e3).trans e4) h4
def sp__law_octets_only : Sp := fun vs H Q _ => ∃ (p : Addr) (L : List Nat), vs = [.ref p] ∧ TN H p L ∧ Py.Oc L ∧ L.length ≤ 1000 ∧ RetV (.bl true) H Q
theorem spv__law_octets_only {p : Addr} {L : List Nat} {H : Hp} (h : TN H p L) (ho : Py.Oc L) (hl : L.length ≤ 1000) : SpV sp__law_octets_only ([.ref p] ++ []) H (.bl true) := fun H1 e Q k E => ⟨p, L, rfl, h.up e, ho, hl, k⟩
theorem ok__law_octets_only (T : Txt K mg) : Okf P w K mg base CX0 2 "_law_octets_only" s__law_octets_only P__law_octets_only sp__law_octets_only := by
  obtain ⟨fd__law_is_number, G__law_is_number, B__law_is_number, _⟩ := ok__law_is_number (P := P) (w := w) (base := base) T
  obtain ⟨fd, F⟩ := T.F__law_octets_only
  refine ⟨fd, F.ok sc__law_octets_only (fun vs H Q E h => ?_) (fun cdv A outer s H vs Q E hr h => ?_), F.bindsN fun _ _ _ _ _ _ us hl => match us, hl with | [_], _ => rfl, F⟩
  · obtain ⟨p, L, rfl, hp, ho, hl, k⟩ := h
    rfl
  · obtain ⟨p, L, rfl, hp, ho, hl, k⟩ := h
    refine ⟨_, PSs.nox (pss_one (ps_ret (pe_callB (cr_all rfl) (by rfl) T.m_all (by decide +kernel) (pa_cons (pe_lc (own := [("value", 1)]) (g := gName 1) (tt := tYes) (by rfl) sc__law_octets_only.nd (pi_tupK (K := K) rfl (pv 0)) (blkOk_by (own := [("value", 1)]) (N := N__law_octets_only) (sc := defScope s__law_octets_only) (by decide +kernel)) (fun _ _ _ _ _ => (pg_name (i := 1) sc__law_octets_only.nd rfl (by first | exact Or.inl rfl | exact Or.inr rfl))) (fun _ _ _ _ _ => pts_nil) (fun _ _ _ _ _ => (pe_and (pe_call G__law_is_number (hr.mono (by decide)) rfl T.g__law_is_number T.p__law_is_number B__law_is_number .nil pass0 (pa_cons (pv 1) pa_nil)) (pe_one (pe_chain op_le op_le pe_int (pv 1) pe_int))))) pa_nil)))), ?_⟩
    refine s_ret (ev_allR (n := L.length) (el_zT (ev_var rfl) (st_of hp) (by simp) (by rw [len_map]; omega) (fun x => rfl) fun i x w H1 e1 hx hw => ?_)) k
    obtain ⟨hi, rfl⟩ := nat_of_get hx
    have hw2 : w = .bl true := by
      rw [List.getElem?_map, List.getElem?_replicate, if_pos hi] at hw
      exact (Option.some.inj hw).symm
    rw [hw2]
    have hb := ho i
    refine ev_is (v := .bl (true && true)) (ev_andV (ev_call (ea_cons (ev_var rfl) ea_nil) spv__law_is_number) fun _ => ev_chain ev_c (ev_var rfl) (rv_is rv_I0 (congrArg V.bl (decide_eq_true (by omega)))) ev_c (rv_is rv_I0 (congrArg V.bl (decide_eq_true (by omega))))) rfl
def sp__law_sector : Sp := fun vs H Q _ => ∃ (s : Nat) (p : Addr) (L : List Nat), vs = [.int (s : Int), .ref p] ∧ LN H p L ∧ L.length ≤ 22 ∧ RetU ((Se.sector s L).map nV) H Q
theorem spu__law_sector {s : Nat} {p : Addr} {L : List Nat} {H : Hp} (h : LN H p L) (hl : L.length ≤ 22) : SpU sp__law_sector ([.int (s : Int), .ref p] ++ []) H ((Se.sector s L).map nV) := fun H1 e Q k E => ⟨s, p, L, rfl, h.up e, hl, k⟩
theorem ok__law_sector (T : Txt K mg) : Okf P w K mg base CX0 2 "_law_sector" s__law_sector P__law_sector sp__law_sector := by
  obtain ⟨fd__law_half, G__law_half, B__law_half, _⟩ := ok__law_half (P := P) (w := w) (base := base) T
  obtain ⟨fd, F⟩ := T.F__law_sector
  refine ⟨fd, F.ok sc__law_sector (fun vs H Q E h => ?_) (fun cdv A outer s H vs Q E hr h => ?_), F.bindsN fun _ _ _ _ _ _ us hl => match us, hl with | [_, _], _ => rfl, F⟩
  · obtain ⟨st, p, L, rfl, hp, hl, k⟩ := h
    rfl
  · obtain ⟨st, p, L, rfl, hp, hl, k⟩ := h
    refine ⟨_, PSs.nox (pss_cons (ps_set (i := 2) sc__law_sector.nd rfl (by first | exact Or.inl rfl | exact Or.inr rfl) (pe_op op_cat (pe_callTy (call_list_ofK (K := K) rfl) (by rfl) T.m_list (by decide +kernel) (pa_cons (pv 1) pa_nil)) (pe_op op_rep (pe_lst (pa_cons pe_int pa_nil)) (pe_op op_sub pe_int (pe_callB (call_lenK (K := K) rfl) (by rfl) T.m_len (by decide +kernel) (pa_cons (pv 1) pa_nil))))))
(pss_one (ps_ret (pe_op op_catA (pe_call G__law_half (hr.mono (by decide)) rfl T.g__law_half T.p__law_half B__law_half .nil pass0 (pa_cons (pv 0) (pa_cons (pe_slice (sl_listK (K := K) rfl) (pv 2) po_none (po_some pe_int)) pa_nil))) (pe_call G__law_half (hr.mono (by decide)) rfl T.g__law_half T.p__law_half B__law_half .nil pass0 (pa_cons (pv 0) (pa_cons (pe_slice (sl_listK (K := K) rfl) (pv 2) (po_some pe_int) po_none) pa_nil))))))), ?_⟩
    have lp := Se.pad_length hl
    refine q_asgL (xs := (Se.pad L).map nV) (el_is (el_catLL (el_listL (ev_var rfl) (sq_of hp)) (el_rep (n := 22 - L.length) (el_lst (ea_cons ev_c ea_nil) (by decide)) (ev_op ev_c (ev_is (ev_lenL (ev_var rfl) (sq_of hp)) (by rw [len_map])) (rv_subN (a := 22) hl)) (by omega)) (by rw [len_map, List.length_replicate]; omega)) ?_) fun pa H1 np e1 hpa => ?_
    · unfold Se.pad
      rw [map_rep, List.map_append]
    · have hp1 : LN H1 pa (Se.pad L) := hpa
      refine s_retU (eu_is (eu_catUU (eu_call2VL (ys := ((Se.pad L).take 11).map nV) (ev_var rfl) (el_is (el_sl (ev_var rfl) eo_none (eo_some ev_c) (sq_of hp1)) ((cut_take (n := 11) (by rw [len_map, lp]; decide)).trans List.map_take.symm)) fun q H' e' hq => spu__law_half hq (by rw [List.length_take, lp]; decide)) (eu_call2VL (ys := ((Se.pad L).drop 11).map nV) (ev_var rfl) (el_is (el_sl (ev_var rfl) (eo_some ev_c) eo_none (sq_of hp1)) ?_) fun q H' e' hq => spu__law_half hq (by rw [List.length_drop, lp]; decide)) ?_) ?_) fun q H2 n2 e2 h2 => k q H2 (fresh_back e1 n2) (e1.trans e2) h2
      · unfold cutV
        rw [show (11 : Int) = ((11 : Nat) : Int) from rfl, HT.sIx_nat, HT.sIx_none, len_map, lp, List.take_of_length_le (by rw [List.length_drop, len_map, lp]; decide), List.map_drop]
        rfl
      · rw [len_map, len_map]
        unfold Se.half
        rw [Se.seald_length, Se.seald_length, Se.front_length, Se.front_length, List.length_take, List.length_drop, lp]
        decide
      · unfold Se.sector
        rw [List.map_append]
def sp_seal (K : PySem.W.Frag) : Sp := fun vs H Q _ => ∃ (s : Nat) (p : Addr) (L : List Nat), vs = [.int (s : Int), .ref p] ∧ s < 16777216 ∧ SqI K H p L ∧ L.length ≤ 22 ∧ RetU ((Se.sector s L).map nV) H Q
theorem spu_seal {s : Nat} {p : Addr} {L : List Nat} {H : Hp} (hs : s < 16777216) (h : SqI K H p L) (hl : L.length ≤ 22) : SpU (sp_seal K) ([.int (s : Int), .ref p] ++ []) H ((Se.sector s L).map nV) := fun H1 e Q k E => ⟨s, p, L, rfl, hs, h.up e, hl, k⟩
theorem ok_seal (T : Txt K mg) : Okf P w K mg base CX0 3 "seal" s_seal P_seal (sp_seal K) := by
  obtain ⟨fd_seal_half, G_seal_half, B_seal_half, _⟩ := ok_seal_half (P := P) (w := w) (base := base) T
  obtain ⟨fd, F⟩ := T.F_seal
  refine ⟨fd, F.ok sc_seal (fun vs H Q E h => ?_) (fun cdv A outer s H vs Q E hr h => ?_), F.bindsN fun _ _ _ _ _ _ us hl => match us, hl with | [_, _], _ => rfl, F⟩
  · obtain ⟨st, p, L, rfl, hs, hp, hl, k⟩ := h
    rfl
  · obtain ⟨st, p, L, rfl, hs, hp, hl, k⟩ := h
    refine ⟨_, PSs.nox (pss_cons (ps_set (i := 2) sc_seal.nd rfl (by first | exact Or.inl rfl | exact Or.inr rfl) (pe_op op_cat (pe_callTy (call_list_ofK (K := K) rfl) (by rfl) T.m_list (by decide +kernel) (pa_cons (pv 1) pa_nil)) (pe_op op_rep (pe_lst (pa_cons pe_int pa_nil)) (pe_op op_sub (pe_glob rfl T.c_DATA T.r_DATA) (pe_callB (call_lenK (K := K) rfl) (by rfl) T.m_len (by decide +kernel) (pa_cons (pv 1) pa_nil))))))
(pss_one (ps_ret (pe_op op_catA (pe_call G_seal_half (hr.mono (by decide)) rfl T.g_seal_half T.p_seal_half B_seal_half .nil pass0 (pa_cons (pv 0) (pa_cons (pe_slice (sl_listK (K := K) rfl) (pv 2) po_none (po_some (pe_glob rfl T.c_HALF_DATA T.r_HALF_DATA))) pa_nil))) (pe_call G_seal_half (hr.mono (by decide)) rfl T.g_seal_half T.p_seal_half B_seal_half .nil pass0 (pa_cons (pv 0) (pa_cons (pe_slice (sl_listK (K := K) rfl) (pv 2) (po_some (pe_glob rfl T.c_HALF_DATA T.r_HALF_DATA)) po_none) pa_nil))))))), ?_⟩
    have lp := Se.pad_length hl
    have hlen : ∀ (te : TE) (σ : L2.St) (H' : Hp), Ex H H' → Ev te σ H' (.ref p) → Ev (tCB (fun xs H Q => ∃ p ys, xs = [.ref p] ∧ (SqL K H p ys ∨ SqT K H p ys) ∧ Q (.int ys.length) H) (tCons te tNil)) σ H' (nV L.length) := by
      intro te σ H' e h
      rcases hp with q | q
      · exact ev_is (ev_lenL h (ex_l e q)) (by rw [len_map])
      · exact ev_is (ev_lenT h (ex_t e q)) (by rw [len_map])
    refine q_asgL (xs := (Se.pad L).map nV) (el_is (el_catLL (el_listI (ev_var rfl) hp) (el_rep (n := 22 - L.length) (el_lst (ea_cons ev_c ea_nil) (by decide)) (ev_op ev_c (hlen _ _ H (Ex.refl _) (ev_var rfl)) (rv_subN (a := 22) hl)) (by omega)) (by rw [len_map, List.length_replicate]; omega)) ?_) fun pa H1 np e1 hpa => ?_
    · unfold Se.pad
      rw [map_rep, List.map_append]
    · have hp1 : LN H1 pa (Se.pad L) := hpa
      refine s_retU (eu_is (eu_catUU (eu_call2VL (ys := ((Se.pad L).take 11).map nV) (ev_var rfl) (el_is (el_sl (ev_var rfl) eo_none (eo_some ev_c) (sq_of hp1)) ((cut_take (n := 11) (by rw [len_map, lp]; decide)).trans List.map_take.symm)) fun q H' e' hq => spu_seal_half hs (.inl (sq_of hq)) (by rw [List.length_take, lp]; decide)) (eu_call2VL (ys := ((Se.pad L).drop 11).map nV) (ev_var rfl) (el_is (el_sl (ev_var rfl) (eo_some ev_c) eo_none (sq_of hp1)) ?_) fun q H' e' hq => spu_seal_half hs (.inl (sq_of hq)) (by rw [List.length_drop, lp]; decide)) ?_) ?_) fun q H2 n2 e2 h2 => k q H2 (fresh_back e1 n2) (e1.trans e2) h2
      · unfold cutV
        rw [show (11 : Int) = ((11 : Nat) : Int) from rfl, HT.sIx_nat, HT.sIx_none, len_map, lp, List.take_of_length_le (by rw [List.length_drop, len_map, lp]; decide), List.map_drop]
        rfl
      · rw [len_map, len_map]
        unfold Se.half
        rw [Se.seald_length, Se.seald_length, Se.front_length, Se.front_length, List.length_take, List.length_drop, lp]
        decide
      · unfold Se.sector
        rw [List.map_append]
def sp_read_sector : Sp := fun vs H Q _ => ∃ (p : Addr) (S : List Nat), vs = [.ref p] ∧ TN H p S ∧ S.length = 32 ∧ ∀ q H', H q = none → Ex H H' → TD H' q (Se.rds S) → Q (.ref q) H'
theorem dec_str (a b : Str) : decide (V.str a = V.str b) = decide (a = b) := by
  rw [Bool.eq_iff_iff, decide_eq_true_eq, decide_eq_true_eq]
  exact ⟨fun q => V.str.inj q, fun q => by rw [q]⟩
theorem ok_read_sector (T : Txt K mg) : Okf P w K mg base CX0 3 "read_sector" s_read_sector P_read_sector sp_read_sector := by
  obtain ⟨fd_read_half, G_read_half, B_read_half, _⟩ := ok_read_half (P := P) (w := w) (base := base) T
  obtain ⟨fd, F⟩ := T.F_read_sector
  refine ⟨fd, F.ok sc_read_sector (fun vs H Q E h => ?_) (fun cdv A outer s H vs Q E hr h => ?_), F.bindsN fun _ _ _ _ _ _ us hl => match us, hl with | [_], _ => rfl, F⟩
  · obtain ⟨p, S, rfl, hp, hl, k⟩ := h
    rfl
  · obtain ⟨p, S, rfl, hp, hl, k⟩ := h
    refine ⟨_, PSs.nox (pss_cons (ps_if (pt_cmpR (op_eqDK (K := K) rfl hr.units) (pv 0) (pe_glob rfl T.c_BLANK T.r_BLANK) (nomark _)) (pss_one (ps_ret (pe_tup (pa_cons pe_str (pa_cons pe_int (pa_cons (pe_tup pa_nil) pa_nil)))))) pss_nil)
(pss_cons (ps_asg (pe_call G_read_half (hr.mono (by decide)) rfl T.g_read_half T.p_read_half B_read_half .nil pass0 (pa_cons (pe_slice (sl_tupK (K := K) rfl) (pv 0) po_none (po_some (pe_glob rfl T.c_HALF T.r_HALF))) pa_nil)) (pg_tupK (K := K) (n := 3) rfl rfl (pgs_cons (pg_name (i := 1) sc_read_sector.nd rfl (by first | exact Or.inl rfl | exact Or.inr rfl)) (pgs_cons (pg_name (i := 2) sc_read_sector.nd rfl (by first | exact Or.inl rfl | exact Or.inr rfl)) (pgs_cons (pg_name (i := 3) sc_read_sector.nd rfl (by first | exact Or.inl rfl | exact Or.inr rfl)) pgs_nil)))))
(pss_cons (ps_asg (pe_call G_read_half (hr.mono (by decide)) rfl T.g_read_half T.p_read_half B_read_half .nil pass0 (pa_cons (pe_slice (sl_tupK (K := K) rfl) (pv 0) (po_some (pe_glob rfl T.c_HALF T.r_HALF)) po_none) pa_nil)) (pg_tupK (K := K) (n := 3) rfl rfl (pgs_cons (pg_name (i := 4) sc_read_sector.nd rfl (by first | exact Or.inl rfl | exact Or.inr rfl)) (pgs_cons (pg_name (i := 5) sc_read_sector.nd rfl (by first | exact Or.inl rfl | exact Or.inr rfl)) (pgs_cons (pg_name (i := 6) sc_read_sector.nd rfl (by first | exact Or.inl rfl | exact Or.inr rfl)) pgs_nil)))))
(pss_cons (ps_if (PW.pt (pw_or (pt_cmpR op_eq (pv 1) pe_str (nomark _)) (pw_or1 (pt_cmpR op_eq (pv 4) pe_str (nomark _))))) (pss_one (ps_ret (pe_tup (pa_cons pe_str (pa_cons pe_int (pa_cons (pe_tup pa_nil) pa_nil)))))) pss_nil)
(pss_cons (ps_if (PW.pt (pw_or (pt_cmpR op_ne (pv 1) (pv 4) (nomark _)) (pw_or1 (pt_cmpR op_ne (pv 2) (pv 5) (nomark _))))) (pss_one (ps_ret (pe_tup (pa_cons pe_str (pa_cons pe_int (pa_cons (pe_tup pa_nil) pa_nil)))))) pss_nil)
(pss_one (ps_ret (pe_tup (pa_cons (pv 1) (pa_cons (pv 2) (pa_cons (pe_op op_catA (pv 3) (pv 6)) pa_nil))))))))))), ?_⟩
    refine q_when (b := decide (S = List.replicate 32 0)) (et_test (ev_op (ev_var rfl) ev_c (rv_eqTS (fun H1 e => st_of (hp.up e)) fun H1 e => T.t_BLANK H1))) (fun g H1 e1 => ?_) fun g H1 e0 => ?_
    · have z : Se.rds S = Se.blk := by
        rw [of_decide_eq_true g]
        exact Se.rds_blank
      rw [z] at k
      exact s_retTD (etd (w := "blank") (n := 0) (L := []) ev_c ev_c (eu_tup ea_nil (by decide))) fun q H4 n4 e4 h4 => k q H4 (fresh_back e1 n4) (e1.trans e4) h4
    replace hp := hp.up e0
    replace k : ∀ q H', H1 q = none → Ex H1 H' → TD H' q (Se.rds S) → Q (.ref q) H' := fun q H' n e h => k q H' (fresh_back e0 n) (e0.trans e) h
    clear e0 g
    generalize H1 = H at *
    refine q_unTD (etd_call1U (d := Se.rd (S.take 16)) (eu_front (b := 16) (ev_var rfl) (eo_some ev_c) hp (by omega)) fun q H1 e1 hq Q kk E => ⟨q, S.take 16, rfl, hq, by rw [List.length_take, hl]; rfl, kk⟩) fun a1 H1 e1 h1 => ?_
    refine q_unTD (etd_call1U (d := Se.rd (S.drop 16)) (eu_back (a := 16) (ev_var rfl) (eo_some ev_c) (hp.up e1) (by decide) (by omega)) fun q H2 e2 hq Q kk E => ⟨q, S.drop 16, rfl, hq, by rw [List.length_drop, hl], kk⟩) fun a2 H2 e2 h2 => ?_
    have e12 := e1.trans e2
    have h12 := h1.up e2
    refine q_when (b := decide ((Se.rd (S.take 16)).1 = "rotten" ∨ (Se.rd (S.drop 16)).1 = "rotten")) (et_is (et_or (et_test (ev_op (ev_var rfl) ev_c (rv_eq rfl))) fun _ => et_test (ev_op (ev_var rfl) ev_c (rv_eq rfl))) (by rw [dec_str, dec_str, Bool.eq_iff_iff]; simp)) (fun g H3 e3 => ?_) (fun g H3 e3 => ?_)
    · have z : Se.rds S = Se.rot := by
        unfold Se.rds
        rw [if_pos (of_decide_eq_true g)]
      rw [z] at k
      exact s_retTD (etd (w := "rotten") (n := 0) (L := []) ev_c ev_c (eu_tup ea_nil (by decide))) fun q H4 n4 e4 h4 => k q H4 (fresh_back (e12.trans e3) n4) ((e12.trans e3).trans e4) h4
    · refine q_when (b := decide (¬ (Se.rd (S.take 16)).1 = (Se.rd (S.drop 16)).1 ∨ ¬ (Se.rd (S.take 16)).2.1 = (Se.rd (S.drop 16)).2.1)) (et_is (et_or (et_test (ev_op (ev_var rfl) (ev_var rfl) (rv_ne rfl))) fun _ => et_test (ev_op (ev_var rfl) (ev_var rfl) (rv_ne rfl))) (by rw [dec_str, dec_nat, Bool.eq_iff_iff]; simp)) (fun g2 H4 e4 => ?_) (fun g2 H4 e4 => ?_)
      · have z : Se.rds S = Se.torn := by
          unfold Se.rds
          rw [if_neg (of_decide_eq_false g), if_pos (of_decide_eq_true g2)]
        rw [z] at k
        exact s_retTD (etd (w := "torn") (n := 0) (L := []) ev_c ev_c (eu_tup ea_nil (by decide))) fun q H5 n5 e5 h5 => k q H5 (fresh_back ((e12.trans e3).trans e4) n5) (((e12.trans e3).trans e4).trans e5) h5
      · have z : Se.rds S = ((Se.rd (S.take 16)).1, (Se.rd (S.take 16)).2.1, (Se.rd (S.take 16)).2.2 ++ (Se.rd (S.drop 16)).2.2) := by
          unfold Se.rds
          rw [if_neg (of_decide_eq_false g), if_neg (of_decide_eq_false g2)]
        rw [z] at k
        have b1 := Se.rd_len (S.take 16)
        have b2 := Se.rd_len (S.drop 16)
        exact s_retTD (etdW (ev_var rfl) (ev_var rfl) (ew_cat (ev_var rfl) ((h12.up e3).up e4) (ev_var rfl) ((h2.up e3).up e4) (by omega))) fun q H5 n5 e5 h5 => k q H5 (fresh_back ((e12.trans e3).trans e4) n5) (((e12.trans e3).trans e4).trans e5) h5
def sp_newest_stamp : Sp := fun vs H Q _ => ∃ (p : Addr) (S : List (List Nat)), vs = [.ref p] ∧ TL H p (nss S) ∧ (∀ s ∈ S, s.length = 32) ∧ S.length ≤ 1000 ∧ RetV (nV (Se.newest S)) H Q
theorem spv_newest_stamp {p : Addr} {S : List (List Nat)} {H : Hp} (h : TL H p (nss S)) (h2 : ∀ s ∈ S, s.length = 32) (hl : S.length ≤ 1000) : SpV sp_newest_stamp ([.ref p] ++ []) H (nV (Se.newest S)) := fun H1 e Q k E => ⟨p, S, rfl, h.up e, h2, hl, k⟩
def hvs (S : List (List Nat)) : List (List Nat) := S.flatMap fun s => [s.take 16, s.drop 16]
theorem hvs_nss : ∀ S : List (List Nat), ((nss S).flatMap fun s => [s.take 16, s.drop 16]) = nss (hvs S)
  | [] => rfl
  | s :: S => by
    have ih := hvs_nss S
    unfold nss hvs at *
    rw [List.map_cons, List.flatMap_cons, List.flatMap_cons, List.map_append, ih, List.map_cons, List.map_cons, List.map_take, List.map_drop] <;> rfl
theorem hvs_len : ∀ S : List (List Nat), (hvs S).length = 2 * S.length
  | [] => rfl
  | s :: S => by
    have ih := hvs_len S
    unfold hvs at *
    rw [List.flatMap_cons, List.length_append, ih]
    simp only [List.length_cons, List.length_nil]
    omega
theorem hvs_16 {S : List (List Nat)} (h : ∀ s ∈ S, s.length = 32) : ∀ x ∈ hvs S, x.length = 16 := by
  intro x hx
  unfold hvs at hx
  obtain ⟨s, hs, hx⟩ := List.mem_flatMap.mp hx
  have hl := h s hs
  simp only [List.mem_cons, List.not_mem_nil, or_false] at hx
  rcases hx with rfl | rfl
  · rw [List.length_take, hl] <;> rfl
  · rw [List.length_drop, hl]
theorem stamps_hvs : ∀ S : List (List Nat), Se.stamps S = (hvs S).map fun x => (Se.rd x).2.1
  | [] => rfl
  | s :: S => by
    have ih := stamps_hvs S
    unfold Se.stamps hvs at *
    rw [List.flatMap_cons, List.flatMap_cons, List.map_append, ih] <;> rfl
theorem natMap_inj {l m : List Nat} (h : l.map nV = m.map nV) : l = m := by
  have := congrArg (List.map fun v : V => match v with | .int i => i.toNat | _ => 0) h
  simpa [List.map_map, Function.comp_def] using this
theorem ok_newest_stamp (T : Txt K mg) : Okf P w K mg base CX0 3 "newest_stamp" s_newest_stamp P_newest_stamp sp_newest_stamp := by
  obtain ⟨fd_read_half, G_read_half, B_read_half, _⟩ := ok_read_half (P := P) (w := w) (base := base) T
  obtain ⟨fd, F⟩ := T.F_newest_stamp
  refine ⟨fd, F.ok sc_newest_stamp (fun vs H Q E h => ?_) (fun cdv A outer s H vs Q E hr h => ?_), F.bindsN fun _ _ _ _ _ _ us hl => match us, hl with | [_], _ => rfl, F⟩
  · obtain ⟨p, S, rfl, hp, h32, hl, k⟩ := h
    rfl
  · obtain ⟨p, S, rfl, hp, h32, hl, k⟩ := h
    refine ⟨_, PSs.nox (pss_cons (ps_setLc2 (i := 1) (own := [("sector", 2), ("half", 3)]) (vs1 := [3]) (g := gName 2) (tt := _) (g1 := gName 3) (tt1 := tYes) (by rfl) sc_newest_stamp.nd rfl rfl (sw_true rfl rfl rfl (by decide +kernel)) (pi_listK (K := K) rfl (pv 0)) (blkOk_by (own := [("sector", 2), ("half", 3)]) (N := N_newest_stamp) (sc := defScope s_newest_stamp) (by decide +kernel)) (by decide) (fun _ _ _ _ _ => (pg_name (i := 2) sc_newest_stamp.nd rfl (by first | exact Or.inl rfl | exact Or.inr rfl))) (fun _ _ _ _ _ => (pts_one (pt_cmpR (op_neDK (K := K) rfl hr.units) (pv 2) (pe_glob rfl T.c_BLANK T.r_BLANK) (nomark _)))) (fun _ _ _ _ _ => (pi_tupK (K := K) rfl (pe_tup (pa_cons (pe_slice (sl_tupK (K := K) rfl) (pv 2) po_none (po_some (pe_glob rfl T.c_HALF T.r_HALF))) (pa_cons (pe_slice (sl_tupK (K := K) rfl) (pv 2) (po_some (pe_glob rfl T.c_HALF T.r_HALF)) po_none) pa_nil))))) (fun _ _ _ _ _ => (pg_name (i := 3) sc_newest_stamp.nd rfl (by first | exact Or.inl rfl | exact Or.inr rfl))) (fun _ _ _ _ _ => pts_nil) (fun _ _ _ _ _ => (pv 3)))
(pss_one (ps_ret (pe_callBK (cr_maxD rfl) (by rfl) T.m_max (by decide +kernel) (pa_cons (pe_lc (own := [("half", 3)]) (g := gName 3) (tt := tYes) (by rfl) sc_newest_stamp.nd (pi_listK (K := K) rfl (pv 1)) (blkOk_by (own := [("half", 3)]) (N := N_newest_stamp) (sc := defScope s_newest_stamp) (by decide +kernel)) (fun _ _ _ _ _ => (pg_name (i := 3) sc_newest_stamp.nd rfl (by first | exact Or.inl rfl | exact Or.inr rfl))) (fun _ _ _ _ _ => pts_nil) (fun _ _ _ _ _ => (pe_ix (ix_tupK (K := K) rfl) (pe_call G_read_half (hr.mono (by decide)) rfl T.g_read_half T.p_read_half B_read_half .nil pass0 (pa_cons (pv 3) pa_nil)) pe_int (fun _ _ => rfl)))) pa_nil) (pk_cons pe_int pk_nil))))), ?_⟩
    have kf : ((nss S).filter fun us => !decide (us = (List.replicate 32 0).map nV)) = nss (S.filter fun s => !decide (s = List.replicate 32 0)) := by
      unfold nss
      rw [List.filter_map]
      congr 1
      refine List.filter_congr fun s _ => ?_
      show (!decide (s.map nV = (List.replicate 32 0).map nV)) = _
      congr 1
      rw [Bool.eq_iff_iff, decide_eq_true_eq, decide_eq_true_eq]
      exact ⟨fun h => natMap_inj h, fun h => by rw [h]⟩
    refine q_asgTL (el_twoF (K := K) (f := fun s => s.take 16) (g := fun s => s.drop 16) (kp := fun us => !decide (us = (List.replicate 32 0).map nV)) (ev_var rfl) hp (by rw [nss_len]; omega) (fun x => rfl) (fun x y => rfl) (fun i r us H1 e1 hus hr => ?_) (fun i r us H1 e1 hus hr => ?_) (fun x b H2 Q q => ⟨_, rfl, q⟩)) fun ha H1 nh e1 hh => ?_
    · obtain ⟨s, hs, rfl⟩ := List.mem_map.mp (List.mem_of_getElem? hus)
      refine et_is (et_test (ev_op (ev_var rfl) ev_c (rv_neTSt (l := s) (m := List.replicate 32 0) (fun H2 e => st_of (TN.up hr e)) fun H2 e => T.t_BLANK H2))) ?_
      congr 1
      rw [Bool.eq_iff_iff, decide_eq_true_eq, decide_eq_true_eq]
      exact ⟨fun h => by rw [h], fun h => natMap_inj h⟩
    · obtain ⟨s, hs, rfl⟩ := List.mem_map.mp (List.mem_of_getElem? hus)
      have hs2 := h32 s hs
      have hr2 : TN H1 r s := hr
      refine ⟨?_, ?_⟩
      · show EvU _ _ _ ((s.map nV).take 16)
        rw [← List.map_take]
        exact eu_front (b := 16) (ev_var rfl) (eo_some ev_c) hr2 (by omega)
      · show EvU _ _ _ ((s.map nV).drop 16)
        rw [← List.map_drop]
        exact eu_back (a := 16) (ev_var rfl) (eo_some ev_c) hr2 (by decide) (by omega)
    · rw [kf] at hh
      have sl := List.length_filter_le (fun s : List Nat => !decide (s = List.replicate 32 0)) S
      have hS : ∀ s ∈ S.filter fun s => !decide (s = List.replicate 32 0), s.length = 32 := fun s hs => h32 s (List.mem_filter.mp hs).1
      rw [← Se.newest_kept] at k
      generalize (S.filter fun s => !decide (s = List.replicate 32 0)) = S at *
      have lh := hvs_len S
      rw [hvs_nss] at hh
      refine s_ret (v := nV (Se.newest S)) (ev_maxD (L := Se.stamps S) (el_zTLn (ev_var rfl) hh (by rw [stamps_hvs, List.length_map]) (by omega) (fun x => rfl) fun i r H2 e2 hi hr => ?_) (fun H' e' => ev_c)) fun H2 e2 => k H2 (e1.trans e2)
      rw [stamps_hvs, Py.at0_of (v := (Se.rd (Py.at1 (hvs S) i)).2.1) (by rw [List.getElem?_map, Py.at1_get hi]; rfl)]
      exact ev_td1 (etd_call (ea_cons (ev_var rfl) ea_nil) fun H3 e3 Q kk E => ⟨r, _, rfl, hr.up e3, hvs_16 hS _ (List.mem_of_getElem? (Py.at1_get hi)), kk⟩) (fun H' e' => ev_c)
def sp__law_reads : Sp := fun vs H Q _ => ∃ (p q : Addr) (S : List Nat), vs = [.ref p, .ref q] ∧ TN H p S ∧ S.length = 32 ∧ TD H q (Se.rds S) ∧ Py.Oc (Se.rds S).2.2 ∧ RetV (.bl true) H Q
theorem spv__law_reads {p q : Addr} {S : List Nat} {d : Str × Nat × List Nat} {H : Hp} (h : TN H p S) (hl : S.length = 32) (hq : TD H q d) (hd : Se.rds S = d) (ho : Py.Oc d.2.2) : SpV sp__law_reads ([.ref p, .ref q] ++ []) H (.bl true) := fun H1 e Q k E => ⟨p, q, S, rfl, h.up e, hl, by rw [hd]; exact hq.up e, by rw [hd]; exact ho, k⟩
theorem ok__law_reads (T : Txt K mg) : Okf P w K mg base CX0 4 "_law_reads" s__law_reads P__law_reads sp__law_reads := by
  obtain ⟨fd__law_is_number, G__law_is_number, B__law_is_number, _⟩ := ok__law_is_number (P := P) (w := w) (base := base) T
  obtain ⟨fd__law_octets_only, G__law_octets_only, B__law_octets_only, _⟩ := ok__law_octets_only (P := P) (w := w) (base := base) T
  obtain ⟨fd_read_sector, G_read_sector, B_read_sector, _⟩ := ok_read_sector (P := P) (w := w) (base := base) T
  obtain ⟨fd, F⟩ := T.F__law_reads
  refine ⟨fd, F.ok sc__law_reads (fun vs H Q E h => ?_) (fun cdv A outer s H vs Q E hr h => ?_), F.bindsN fun _ _ _ _ _ _ us hl => match us, hl with | [_, _], _ => rfl, F⟩
  · obtain ⟨p, q, S, rfl, hp, hl, hq, ho, k⟩ := h
    rfl
  · obtain ⟨p, q, S, rfl, hp, hl, hq, ho, k⟩ := h
    refine ⟨_, PSs.nox (pss_cons (ps_set (i := 2) sc__law_reads.nd rfl (by first | exact Or.inl rfl | exact Or.inr rfl) (pe_call G_read_sector (hr.mono (by decide)) rfl T.g_read_sector T.p_read_sector B_read_sector .nil pass0 (pa_cons (pv 0) pa_nil)))
(pss_cons (ps_if (PW.pt (pw_or (pt_not (pt_val (pe_callB (call_isiK' (K := K) rfl) (by rfl) T.m_isinstance (by decide +kernel) (pa_cons (pv 2) (pa_cons (pe_bltn (v := .ty "tuple") (by rfl) T.m_tuple (by decide +kernel) rfl) pa_nil))))) (pw_or (pt_cmpR op_ne (pe_callB (call_lenK (K := K) rfl) (by rfl) T.m_len (by decide +kernel) (pa_cons (pv 2) pa_nil)) pe_int (nomark _)) (pw_or1 (pt_not (pt_val (pe_callB (call_isiK' (K := K) rfl) (by rfl) T.m_isinstance (by decide +kernel) (pa_cons (pe_ix (ix_tupK (K := K) rfl) (pv 2) pe_int (fun _ _ => rfl)) (pa_cons (pe_bltn (v := .ty "tuple") (by rfl) T.m_tuple (by decide +kernel) rfl) pa_nil))))))))) (pss_one (ps_ret pe_bl)) pss_nil)
(pss_one (ps_ret (pe_and (pe_cmpR (op_eqDK (K := K) rfl hr.units) (pv 2) (pv 1) (nomark _)) (pe_and (pe_call G__law_is_number (hr.mono (by decide)) rfl T.g__law_is_number T.p__law_is_number B__law_is_number .nil pass0 (pa_cons (pe_ix (ix_tupK (K := K) rfl) (pv 2) pe_int (fun _ _ => rfl)) pa_nil)) (pe_one (pe_call G__law_octets_only (hr.mono (by decide)) rfl T.g__law_octets_only T.p__law_octets_only B__law_octets_only .nil pass0 (pa_cons (pe_ix (ix_tupK (K := K) rfl) (pv 2) pe_int (fun _ _ => rfl)) pa_nil))))))))), ?_⟩
    refine q_asg_raw (ea_cons (ev_var rfl) ea_nil) fun H1 e1 => ⟨p, S, rfl, hp.up e1, hl, fun f H2 nf e2 hf => ?_⟩
    have hf0 := hf
    obtain ⟨g, h1, h2⟩ := hf
    refine q_when (b := false) (et_is (et_or (et_not (et_B (ev_isiT (b := true) (ev_var rfl) h1 ev_c (by decide +kernel)))) fun _ => et_or (et_test (ev_op (ev_lenT (ev_var rfl) (st_of h1)) ev_c (rv_ne rfl))) fun _ => et_not (et_B (ev_isiT (b := true) (ev_op (ev_var rfl) ev_c (rv_ixTN (k := 2) (st_of h1) rfl)) h2 ev_c (by decide +kernel)))) (by simp)) (fun z => absurd z Bool.false_ne_true) fun _ H3 e3 => ?_
    have h13 := e3 _ _ h1
    have h23 : TN H3 g (Se.rds S).2.2 := e3 _ _ h2
    exact s_ret (v := .bl (true && (true && true))) (ev_andV (ev_op (ev_var rfl) (ev_var rfl) (rv_eqTD (hf0.up e3) (hq.up ((e1.trans e2).trans e3)) (Se.rds_ok S))) fun _ => ev_andV (ev_call (ea_cons (ev_op (ev_var rfl) ev_c (rv_ixTN (k := 1) (st_of h13) rfl)) ea_nil) spv__law_is_number) fun _ => ev_call (ea_cons (ev_op (ev_var rfl) ev_c (rv_ixTN (k := 2) (st_of h13) rfl)) ea_nil) (spv__law_octets_only h23 ho (Nat.le_trans (Se.rds_len S) (by decide)))) fun H4 e4 => k H4 (((e1.trans e2).trans e3).trans e4)
def sp__law_rotten_all : Sp := fun vs H Q _ => ∃ (p q : Addr) (S : List (List Nat)) (D : List Nat), vs = [.ref p, .ref q] ∧ TL H p (nss S) ∧ LN H q D ∧ (∀ s ∈ S, ∃ a b, Se.FS s a b) ∧ S.length + 8 ≤ D.length ∧ S.length ≤ 100 ∧ RetV (.bl true) H Q
theorem spv__law_rotten_all {p q : Addr} {S : List (List Nat)} {D : List Nat} {H : Hp} (h : TL H p (nss S)) (h2 : LN H q D) (h3 : ∀ s ∈ S, ∃ a b, Se.FS s a b) (h4 : S.length + 8 ≤ D.length) (h5 : S.length ≤ 100) : SpV sp__law_rotten_all ([.ref p, .ref q] ++ []) H (.bl true) := fun H1 e Q k E => ⟨p, q, S, D, rfl, h.up e, h2.up e, h3, h4, h5, k⟩
theorem ok__law_rotten_all (T : Txt K mg) : Okf P w K mg base CX0 5 "_law_rotten_all" s__law_rotten_all P__law_rotten_all sp__law_rotten_all := by
  obtain ⟨fd__law_reads, G__law_reads, B__law_reads, _⟩ := ok__law_reads (P := P) (w := w) (base := base) T
  obtain ⟨fd__law_spoilt, G__law_spoilt, B__law_spoilt, _⟩ := ok__law_spoilt (P := P) (w := w) (base := base) T
  obtain ⟨fd, F⟩ := T.F__law_rotten_all
  refine ⟨fd, F.ok sc__law_rotten_all (fun vs H Q E h => ?_) (fun cdv A outer s H vs Q E hr h => ?_), F.bindsN fun _ _ _ _ _ _ us hl => match us, hl with | [_, _], _ => rfl, F⟩
  · obtain ⟨p, q, S, D, rfl, hp, hq, hF, hl, hz, k⟩ := h
    rfl
  · obtain ⟨p, q, S, D, rfl, hp, hq, hF, hl, hz, k⟩ := h
    refine ⟨_, PSs.nox (pss_cons (ps_for PassesOwn.never rfl (pi_range1 rfl T.m_range (pa_cons (pe_callB (call_lenK (K := K) rfl) (by rfl) T.m_len (by decide +kernel) (pa_cons (pv 0) pa_nil)) pa_nil)) (pg_name (i := 2) sc__law_rotten_all.nd rfl (by first | exact Or.inl rfl | exact Or.inr rfl)) (pss_cons (ps_set (i := 3) sc__law_rotten_all.nd rfl (by first | exact Or.inl rfl | exact Or.inr rfl) (pe_op op_mod (pe_callTy call_int1 (by rfl) T.m_int (by decide +kernel) (pa_cons (pe_ix (ix_listK (K := K) rfl) (pv 1) (pv 2) (fun _ _ => rfl)) pa_nil)) pe_int))
(pss_one (ps_if (pt_not (pt_val (pe_call G__law_reads (hr.mono (by decide)) rfl T.g__law_reads T.p__law_reads B__law_reads .nil pass0 (pa_cons (pe_call G__law_spoilt (hr.mono (by decide)) rfl T.g__law_spoilt T.p__law_spoilt B__law_spoilt .nil pass0 (pa_cons (pe_ix (ix_listK (K := K) rfl) (pv 0) (pv 2) (fun _ _ => rfl)) (pa_cons (pv 3) (pa_cons (pe_ix (ix_listK (K := K) rfl) (pv 1) (pe_op op_add (pv 2) pe_int) (fun _ _ => rfl)) pa_nil)))) (pa_cons (pe_tup (pa_cons pe_str (pa_cons pe_int (pa_cons (pe_tup pa_nil) pa_nil)))) pa_nil))))) (pss_one (ps_ret pe_bl)) pss_nil))))
(pss_one (ps_ret pe_bl))), ?_⟩
    obtain ⟨rs, hs, hsl⟩ := tl_len (K := K) hp
    refine q_forR1 (n := (S.length : Int)) (ea_cons (ev_is (ev_lenL (ev_var rfl) hs) (by rw [List.length_map, hsl])) ea_nil) (by omega) (fun i s H' => ∃ v2 v3, s = [some (.ref p), some (.ref q), v2, v3] ∧ Ex H H') ?_ ?_ ?_
    · exact fun H1 e1 => ⟨none, none, rfl, e1⟩
    · rintro i s H1 hi ⟨v2, v3, rfl, e⟩
      have hi2 : i < S.length := by omega
      obtain ⟨a, b, fs⟩ := hF _ (List.mem_of_getElem? (Py.at1_get hi2))
      refine q_asg (v := nV (Py.at0 D i % 32)) (ev_op (ev_int (ev_op (ev_var rfl) (ev_var rfl) (rv_ixLN (sq_of (hq.up e)) (nat_get (by omega))))) ev_c (rv_modN (b := 32) (by decide))) fun H2 e2 => ?_
      have hp2 := (hp.up e).up e2
      have hq2 := (hq.up e).up e2
      obtain ⟨r, hr, hv⟩ := tl_ix (K := K) hp2 hi2
      have hpl : Py.at0 D i % 32 < 32 := Nat.mod_lt _ (by decide)
      refine s_when (b := false) (et_is (et_not (et_B (ev_callUD (xs := (spo (Py.at1 S i) (Py.at0 D i % 32) (Py.at0 D (i + 8))).map nV) (eu_call (ea_cons (ev_op (ev_var rfl) (ev_var rfl) hv) (ea_cons (ev_var rfl) (ea_cons (ev_op (ev_var rfl) (ev_op (ev_var rfl) ev_c (rv_addN (b := 8))) (rv_ixLN (sq_of hq2) (nat_get (by omega)))) ea_nil))) (spu__law_spoilt hr fs.len hpl)) (etd (w := "rotten") (n := 0) (L := []) ev_c ev_c (eu_tup ea_nil (by decide))) fun x y H' e' hx hy => spv__law_reads hx (by unfold spo; rw [List.length_set, fs.len]) hy ?_ Py.oc_nil))) rfl) (fun z => absurd z Bool.false_ne_true) fun _ H3 e3 => ⟨_, _, rfl, (e.trans e2).trans e3⟩
      exact Se.fs_spoilt fs hpl (Nat.mod_lt _ (by decide)) (Se.other_ne (fs.oct _))
    · rintro s H1 ⟨v2, v3, rfl, e⟩
      exact s_ret ev_c fun H2 e2 => k H2 (e.trans e2)
def sp_law (K : PySem.W.Frag) : Sp := fun vs H Q _ => ∃ (a : Addr) (ns : List Int), vs = [.ref a] ∧ SqL K H a (ns.map V.int) ∧ ns.length ≤ 63 ∧ ∀ H', Q (.bl true) H'
theorem stamps_cons (S : List Nat) (Ss : List (List Nat)) : Se.stamps (S :: Ss) = [(Se.rd (S.take 16)).2.1, (Se.rd (S.drop 16)).2.1] ++ Se.stamps Ss := List.flatMap_cons
theorem stamps_nil : Se.stamps [] = [] := rfl
theorem ok_law (T : Txt K mg) : Okf P w K mg base CX0 6 "law" s_law P_law (sp_law K) := by
  obtain ⟨fd__law_draws, G__law_draws, B__law_draws, _⟩ := ok__law_draws (P := P) (w := w) (base := base) T
  obtain ⟨fd__law_is_number, G__law_is_number, B__law_is_number, _⟩ := ok__law_is_number (P := P) (w := w) (base := base) T
  obtain ⟨fd__law_octets_only, G__law_octets_only, B__law_octets_only, _⟩ := ok__law_octets_only (P := P) (w := w) (base := base) T
  obtain ⟨fd__law_reads, G__law_reads, B__law_reads, _⟩ := ok__law_reads (P := P) (w := w) (base := base) T
  obtain ⟨fd__law_rotten_all, G__law_rotten_all, B__law_rotten_all, _⟩ := ok__law_rotten_all (P := P) (w := w) (base := base) T
  obtain ⟨fd__law_sector, G__law_sector, B__law_sector, _⟩ := ok__law_sector (P := P) (w := w) (base := base) T
  obtain ⟨fd__law_spoilt, G__law_spoilt, B__law_spoilt, _⟩ := ok__law_spoilt (P := P) (w := w) (base := base) T
  obtain ⟨fd__law_stamp, G__law_stamp, B__law_stamp, _⟩ := ok__law_stamp (P := P) (w := w) (base := base) T
  obtain ⟨fd_newest_stamp, G_newest_stamp, B_newest_stamp, _⟩ := ok_newest_stamp (P := P) (w := w) (base := base) T
  obtain ⟨fd_seal, G_seal, B_seal, _⟩ := ok_seal (P := P) (w := w) (base := base) T
  obtain ⟨fd, F⟩ := T.F_law
  refine ⟨fd, F.ok sc_law (fun vs H Q E h => ?_) (fun cdv A outer s H vs Q E hr h => ?_), F.bindsN fun _ _ _ _ _ _ us hl => match us, hl with | [_], _ => rfl, F⟩
  · obtain ⟨a, ns, rfl, hS, hl, k⟩ := h
    rfl
  · obtain ⟨a, ns, rfl, hS, hl, k⟩ := h
    refine ⟨_, PSs.nox (pss_cons (ps_set (i := 1) sc_law.nd rfl (by first | exact Or.inl rfl | exact Or.inr rfl) (pe_call G__law_draws (hr.mono (by decide)) rfl T.g__law_draws T.p__law_draws B__law_draws .nil pass0 (pa_cons (pv 0) (pa_cons pe_int pa_nil))))
(pss_cons (ps_set (i := 2) sc_law.nd rfl (by first | exact Or.inl rfl | exact Or.inr rfl) (pe_call G__law_stamp (hr.mono (by decide)) rfl T.g__law_stamp T.p__law_stamp B__law_stamp .nil pass0 (pa_cons (pe_ix (ix_listK (K := K) rfl) (pv 1) pe_int (fun _ _ => rfl)) (pa_cons (pe_ix (ix_listK (K := K) rfl) (pv 1) pe_int (fun _ _ => rfl)) pa_nil))))
(pss_cons (ps_set (i := 3) sc_law.nd rfl (by first | exact Or.inl rfl | exact Or.inr rfl) (pe_call G__law_stamp (hr.mono (by decide)) rfl T.g__law_stamp T.p__law_stamp B__law_stamp .nil pass0 (pa_cons (pe_ix (ix_listK (K := K) rfl) (pv 1) pe_int (fun _ _ => rfl)) (pa_cons (pe_ix (ix_listK (K := K) rfl) (pv 1) pe_int (fun _ _ => rfl)) pa_nil))))
(pss_cons (ps_if (pt_cmpR op_eq (pv 3) (pv 2) (nomark _)) (pss_one (ps_set (i := 3) sc_law.nd rfl (by first | exact Or.inl rfl | exact Or.inr rfl) (pe_op op_add pe_int (pe_op op_mod (pe_callTy call_int1 (by rfl) T.m_int (by decide +kernel) (pa_cons (pv 2) pa_nil)) pe_int)))) pss_nil)
(pss_cons (ps_setLc (i := 4) (own := [("k", 5)]) (g := gName 5) (tt := tYes) (by rfl) sc_law.nd rfl rfl (sw_true rfl rfl rfl (by decide +kernel)) (pi_range1 rfl T.m_range (pa_cons (pe_op op_mod (pe_callTy call_int1 (by rfl) T.m_int (by decide +kernel) (pa_cons (pe_ix (ix_listK (K := K) rfl) (pv 1) pe_int (fun _ _ => rfl)) pa_nil)) pe_int) pa_nil)) (blkOk_by (own := [("k", 5)]) (N := N_law) (sc := defScope s_law) (by decide +kernel)) (fun _ _ _ _ _ => (pg_name (i := 5) sc_law.nd rfl (by first | exact Or.inl rfl | exact Or.inr rfl))) (fun _ _ _ _ _ => pts_nil) (fun _ _ _ _ _ => (pe_op op_mod (pe_callTy call_int1 (by rfl) T.m_int (by decide +kernel) (pa_cons (pe_ix (ix_listK (K := K) rfl) (pv 1) (pe_op op_add pe_int (pv 5)) (fun _ _ => rfl)) pa_nil)) pe_int)))
(pss_cons (ps_setLc (i := 6) (own := [("k", 5)]) (g := gName 5) (tt := tYes) (by rfl) sc_law.nd rfl rfl (sw_true rfl rfl rfl (by decide +kernel)) (pi_range1 rfl T.m_range (pa_cons (pe_op op_mod (pe_callTy call_int1 (by rfl) T.m_int (by decide +kernel) (pa_cons (pe_ix (ix_listK (K := K) rfl) (pv 1) pe_int (fun _ _ => rfl)) pa_nil)) pe_int) pa_nil)) (blkOk_by (own := [("k", 5)]) (N := N_law) (sc := defScope s_law) (by decide +kernel)) (fun _ _ _ _ _ => (pg_name (i := 5) sc_law.nd rfl (by first | exact Or.inl rfl | exact Or.inr rfl))) (fun _ _ _ _ _ => pts_nil) (fun _ _ _ _ _ => (pe_op op_mod (pe_callTy call_int1 (by rfl) T.m_int (by decide +kernel) (pa_cons (pe_ix (ix_listK (K := K) rfl) (pv 1) (pe_op op_add pe_int (pv 5)) (fun _ _ => rfl)) pa_nil)) pe_int)))
(pss_cons (ps_set (i := 7) sc_law.nd rfl (by first | exact Or.inl rfl | exact Or.inr rfl) (pe_call G_seal (hr.mono (by decide)) rfl T.g_seal T.p_seal B_seal .nil pass0 (pa_cons (pv 2) (pa_cons (pe_callTy (call_list_ofK (K := K) rfl) (by rfl) T.m_list (by decide +kernel) (pa_cons (pv 4) pa_nil)) pa_nil))))
(pss_cons (ps_set (i := 8) sc_law.nd rfl (by first | exact Or.inl rfl | exact Or.inr rfl) (pe_call G_seal (hr.mono (by decide)) rfl T.g_seal T.p_seal B_seal .nil pass0 (pa_cons (pv 3) (pa_cons (pe_callTy call_tuple_of (by rfl) T.m_tuple (by decide +kernel) (pa_cons (pv 6) pa_nil)) pa_nil))))
(pss_cons (ps_if (PW.pt (pw_or (pt_not (pt_val (pe_callB (call_isiK' (K := K) rfl) (by rfl) T.m_isinstance (by decide +kernel) (pa_cons (pv 7) (pa_cons (pe_bltn (v := .ty "tuple") (by rfl) T.m_tuple (by decide +kernel) rfl) pa_nil))))) (pw_or1 (pt_not (pt_val (pe_call G__law_octets_only (hr.mono (by decide)) rfl T.g__law_octets_only T.p__law_octets_only B__law_octets_only .nil pass0 (pa_cons (pv 7) pa_nil))))))) (pss_one (ps_ret pe_bl)) pss_nil)
(pss_cons (ps_if (PW.pt (pw_or (pt_cmpR (op_neDK (K := K) rfl hr.units) (pv 7) (pe_call G__law_sector (hr.mono (by decide)) rfl T.g__law_sector T.p__law_sector B__law_sector .nil pass0 (pa_cons (pv 2) (pa_cons (pv 4) pa_nil))) (nomark _)) (pw_or1 (pt_cmpR (op_neDK (K := K) rfl hr.units) (pv 8) (pe_call G__law_sector (hr.mono (by decide)) rfl T.g__law_sector T.p__law_sector B__law_sector .nil pass0 (pa_cons (pv 3) (pa_cons (pv 6) pa_nil))) (nomark _))))) (pss_one (ps_ret pe_bl)) pss_nil)
(pss_cons (ps_if (pt_not (pt_val (pe_call G__law_reads (hr.mono (by decide)) rfl T.g__law_reads T.p__law_reads B__law_reads .nil pass0 (pa_cons (pv 7) (pa_cons (pe_tup (pa_cons pe_str (pa_cons (pv 2) (pa_cons (pe_callTy call_tuple_of (by rfl) T.m_tuple (by decide +kernel) (pa_cons (pe_op op_cat (pv 4) (pe_op op_rep (pe_lst (pa_cons pe_int pa_nil)) (pe_op op_sub pe_int (pe_callB (call_lenK (K := K) rfl) (by rfl) T.m_len (by decide +kernel) (pa_cons (pv 4) pa_nil))))) pa_nil)) pa_nil)))) pa_nil))))) (pss_one (ps_ret pe_bl)) pss_nil)
(pss_cons (ps_set (i := 9) sc_law.nd rfl (by first | exact Or.inl rfl | exact Or.inr rfl) (pe_callTy call_tuple_of (by rfl) T.m_tuple (by decide +kernel) (pa_cons (pe_op op_rep (pe_lst (pa_cons pe_int pa_nil)) pe_int) pa_nil)))
(pss_cons (ps_set (i := 10) sc_law.nd rfl (by first | exact Or.inl rfl | exact Or.inr rfl) (pe_lst (pa_cons (pe_op op_catA (pe_slice (sl_tupK (K := K) rfl) (pv 8) po_none (po_some pe_int)) (pe_slice (sl_tupK (K := K) rfl) (pv 7) (po_some pe_int) po_none)) (pa_cons (pe_op op_catA (pe_slice (sl_tupK (K := K) rfl) (pv 7) po_none (po_some pe_int)) (pe_slice (sl_tupK (K := K) rfl) (pv 8) (po_some pe_int) po_none)) (pa_cons (pe_op op_catA (pe_slice (sl_tupK (K := K) rfl) (pv 7) po_none (po_some pe_int)) (pe_slice (sl_tupK (K := K) rfl) (pv 9) (po_some pe_int) po_none)) (pa_cons (pe_op op_catA (pe_slice (sl_tupK (K := K) rfl) (pv 9) po_none (po_some pe_int)) (pe_slice (sl_tupK (K := K) rfl) (pv 7) (po_some pe_int) po_none)) pa_nil))))))
(pss_cons (ps_for PassesOwn.never rfl (pi_listK (K := K) rfl (pv 10)) (pg_name (i := 11) sc_law.nd rfl (by first | exact Or.inl rfl | exact Or.inr rfl)) (pss_one (ps_if (pt_not (pt_val (pe_call G__law_reads (hr.mono (by decide)) rfl T.g__law_reads T.p__law_reads B__law_reads .nil pass0 (pa_cons (pv 11) (pa_cons (pe_tup (pa_cons pe_str (pa_cons pe_int (pa_cons (pe_tup pa_nil) pa_nil)))) pa_nil))))) (pss_one (ps_ret pe_bl)) pss_nil)))
(pss_cons (ps_if (PW.pt (pw_or (pt_not (pt_val (pe_call G__law_reads (hr.mono (by decide)) rfl T.g__law_reads T.p__law_reads B__law_reads .nil pass0 (pa_cons (pv 9) (pa_cons (pe_tup (pa_cons pe_str (pa_cons pe_int (pa_cons (pe_tup pa_nil) pa_nil)))) pa_nil))))) (pw_or1 (pt_not (pt_val (pe_call G__law_rotten_all (hr.mono (by decide)) rfl T.g__law_rotten_all T.p__law_rotten_all B__law_rotten_all .nil pass0 (pa_cons (pe_op op_cat (pe_lst (pa_cons (pv 7) (pa_cons (pv 8) (pa_cons (pv 9) pa_nil)))) (pv 10)) (pa_cons (pe_slice (sl_listK (K := K) rfl) (pv 1) (po_some pe_int) po_none) pa_nil)))))))) (pss_one (ps_ret pe_bl)) pss_nil)
(pss_cons (ps_if (PW.pt (pw_or (pt_cmpR op_ne (pe_call G_newest_stamp (hr.mono (by decide)) rfl T.g_newest_stamp T.p_newest_stamp B_newest_stamp .nil pass0 (pa_cons (pe_lst pa_nil) pa_nil)) pe_int (nomark _)) (pw_or1 (pt_cmpR op_ne (pe_call G_newest_stamp (hr.mono (by decide)) rfl T.g_newest_stamp T.p_newest_stamp B_newest_stamp .nil pass0 (pa_cons (pe_lst (pa_cons (pv 9) (pa_cons (pv 9) pa_nil))) pa_nil)) pe_int (nomark _))))) (pss_one (ps_ret pe_bl)) pss_nil)
(pss_cons (ps_if (PW.pt (pw_or (pt_cmpR op_ne (pe_call G_newest_stamp (hr.mono (by decide)) rfl T.g_newest_stamp T.p_newest_stamp B_newest_stamp .nil pass0 (pa_cons (pe_lst (pa_cons (pv 9) (pa_cons (pv 7) (pa_cons (pv 8) pa_nil)))) pa_nil)) (pe_callB (call_max2 rfl) (by rfl) T.m_max (by decide +kernel) (pa_cons (pv 2) (pa_cons (pv 3) pa_nil))) (nomark _)) (pw_or1 (pt_cmpR op_ne (pe_call G_newest_stamp (hr.mono (by decide)) rfl T.g_newest_stamp T.p_newest_stamp B_newest_stamp .nil pass0 (pa_cons (pe_lst (pa_cons (pe_ix (ix_listK (K := K) rfl) (pv 10) pe_int (fun _ _ => rfl)) pa_nil)) pa_nil)) (pv 2) (nomark _))))) (pss_one (ps_ret pe_bl)) pss_nil)
(pss_cons (ps_if (pt_cmpR op_ne (pe_call G_newest_stamp (hr.mono (by decide)) rfl T.g_newest_stamp T.p_newest_stamp B_newest_stamp .nil pass0 (pa_cons (pe_lst (pa_cons (pe_call G__law_spoilt (hr.mono (by decide)) rfl T.g__law_spoilt T.p__law_spoilt B__law_spoilt .nil pass0 (pa_cons (pv 8) (pa_cons (pe_op op_mod (pe_callTy call_int1 (by rfl) T.m_int (by decide +kernel) (pa_cons (pe_ix (ix_listK (K := K) rfl) (pv 1) pe_int (fun _ _ => rfl)) pa_nil)) pe_int) (pa_cons (pe_ix (ix_listK (K := K) rfl) (pv 1) pe_int (fun _ _ => rfl)) pa_nil)))) (pa_cons (pe_ix (ix_listK (K := K) rfl) (pv 10) pe_int (fun _ _ => rfl)) pa_nil))) pa_nil)) (pe_callB (call_max2 rfl) (by rfl) T.m_max (by decide +kernel) (pa_cons (pv 2) (pa_cons (pv 3) pa_nil))) (nomark _)) (pss_one (ps_ret pe_bl)) pss_nil)
(pss_cons (ps_set (i := 12) sc_law.nd rfl (by first | exact Or.inl rfl | exact Or.inr rfl) (pe_call G__law_spoilt (hr.mono (by decide)) rfl T.g__law_spoilt T.p__law_spoilt B__law_spoilt .nil pass0 (pa_cons (pe_ix (ix_listK (K := K) rfl) (pv 10) pe_int (fun _ _ => rfl)) (pa_cons (pe_op op_mod (pe_callTy call_int1 (by rfl) T.m_int (by decide +kernel) (pa_cons (pe_ix (ix_listK (K := K) rfl) (pv 1) pe_int (fun _ _ => rfl)) pa_nil)) pe_int) (pa_cons (pe_ix (ix_listK (K := K) rfl) (pv 1) pe_int (fun _ _ => rfl)) pa_nil)))))
(pss_one (ps_ret (pe_and (pe_cmpR op_eq (pe_call G_newest_stamp (hr.mono (by decide)) rfl T.g_newest_stamp T.p_newest_stamp B_newest_stamp .nil pass0 (pa_cons (pe_lst (pa_cons (pv 12) (pa_cons (pv 9) pa_nil))) pa_nil)) pe_int (nomark _)) (pe_one (pe_call G__law_is_number (hr.mono (by decide)) rfl T.g__law_is_number T.p__law_is_number B__law_is_number .nil pass0 (pa_cons (pe_call G_newest_stamp (hr.mono (by decide)) rfl T.g_newest_stamp T.p_newest_stamp B_newest_stamp .nil pass0 (pa_cons (pe_lst (pa_cons (pv 8) (pa_cons (pv 12) (pa_cons (pe_ix (ix_listK (K := K) rfl) (pv 10) pe_int (fun _ _ => rfl)) pa_nil)))) pa_nil)) pa_nil))))))))))))))))))))))))), ?_⟩
    refine q_asg_raw (ea_cons (ev_var rfl) (ea_cons ev_c ea_nil)) fun H1 e1 => ⟨a, ns, 90, rfl, ex_l e1 hS, hl, by decide, fun D hDl hDlt da H2 nd e2 hD => ?_⟩
    have hD2 : LN H2 da D := hD
    have dl : ∀ j, j < 90 → j < D.length := fun j hj => by omega
    have dlt : ∀ j, Py.at0 D j < 65521 := fun j => by
      by_cases c : j < D.length
      · exact hDlt _ (List.mem_of_getElem? (Py.at0_get c))
      · rw [Py.at0_none (by omega)]
        decide
    refine q_asg_raw (ea_cons (ev_op (ev_var rfl) ev_c (rv_ixLN (k := 0) (sq_of hD2) (nat_get (dl _ (by decide))))) (ea_cons (ev_op (ev_var rfl) ev_c (rv_ixLN (k := 1) (sq_of hD2) (nat_get (dl _ (by decide))))) ea_nil)) fun H3 e3 => ⟨Py.at0 D 0, Py.at0 D 1, rfl, dlt _, fun f f0 f1 H4 e4 => ?_⟩
    have hD4 := (hD2.up e3).up e4
    refine q_asg_raw (ea_cons (ev_op (ev_var rfl) ev_c (rv_ixLN (k := 2) (sq_of hD4) (nat_get (dl _ (by decide))))) (ea_cons (ev_op (ev_var rfl) ev_c (rv_ixLN (k := 3) (sq_of hD4) (nat_get (dl _ (by decide))))) ea_nil)) fun H5 e5 => ⟨Py.at0 D 2, Py.at0 D 3, rfl, dlt _, fun g0 g1 g2 H6 e6 => ?_⟩
    have hD6 := (hD4.up e5).up e6
    obtain ⟨g, hg0, hg1, hgf, eg⟩ : ∃ g : Nat, 0 < g ∧ g < 16777216 ∧ ¬ g = f ∧ g = if decide (V.int (g0 : Int) = V.int (f : Int)) = true then 1 + f % 16777215 else g0 := by
      refine ⟨_, ?_, ?_, ?_, rfl⟩ <;> rw [dec_nat] <;> by_cases c : g0 = f
      · rw [if_pos (decide_eq_true c)]; omega
      · rw [if_neg (by simpa using c)]; omega
      · rw [if_pos (decide_eq_true c)]; omega
      · rw [if_neg (by simpa using c)]; omega
      · rw [if_pos (decide_eq_true c)]; omega
      · rw [if_neg (by simpa using c)]; omega
    refine q_ifAsg (v := .int (g : Int)) (et_test (ev_op (ev_var rfl) (ev_var rfl) (rv_eq rfl))) (fun hh => ?_) (fun hh => ?_) fun H7 e7 => ?_
    · rw [eg, if_pos hh]
      exact ev_op ev_c (ev_op (ev_int (ev_var rfl)) ev_c (rv_modN (b := 16777215) (by decide))) (rv_addN (a := 1))
    · rw [eg, hh, if_neg Bool.false_ne_true]
      rfl
    have hD7 := hD6.up e7
    clear eg hS hD
    change tSeq _ _ _ [some (.ref a), some (.ref da), some (.int (f : Int)), some (.int (g : Int)), none, none, none, none, none, none, none, none, none] _
    -- data, more
    refine q_asgL (xs := ((List.range (Py.at0 D 4 % 23)).map fun j => Py.at0 D (10 + j) % 256).map nV) (el_zRN (n := Py.at0 D 4 % 23) (ea_cons (ev_op (ev_int (ev_op (ev_var rfl) ev_c (rv_ixLN (k := 4) (sq_of hD7) (nat_get (dl _ (by decide)))))) ev_c (rv_modN (b := 23) (by decide))) ea_nil) (by simp) (by omega) (fun x => rfl) fun i H' e hi => ?_) fun pa H8 np e8 hp => ?_
    · rw [Py.at0_map, if_pos hi]
      exact ev_op (ev_int (ev_op (ev_var rfl) (ev_op ev_c (ev_var rfl) (rv_addN (a := 10))) (rv_ixLN (sq_of (hD7.up e)) (nat_get (dl _ (by omega)))))) ev_c (rv_modN (b := 256) (by decide))
    have oP : Py.Oc ((List.range (Py.at0 D 4 % 23)).map fun j => Py.at0 D (10 + j) % 256) := Py.oc_map (fun j => Nat.mod_lt _ (by decide)) _
    have lP : ((List.range (Py.at0 D 4 % 23)).map fun j => Py.at0 D (10 + j) % 256).length ≤ 22 := by
      rw [List.length_map, List.length_range]
      omega
    generalize ((List.range (Py.at0 D 4 % 23)).map fun j => Py.at0 D (10 + j) % 256) = P at hp oP lP
    have hP8 : LN H8 pa P := hp
    have hD8 := hD7.up e8
    refine q_asgL (xs := ((List.range (Py.at0 D 5 % 23)).map fun j => Py.at0 D (34 + j) % 256).map nV) (el_zRN (n := Py.at0 D 5 % 23) (ea_cons (ev_op (ev_int (ev_op (ev_var rfl) ev_c (rv_ixLN (k := 5) (sq_of hD8) (nat_get (dl _ (by decide)))))) ev_c (rv_modN (b := 23) (by decide))) ea_nil) (by simp) (by omega) (fun x => rfl) fun i H' e hi => ?_) fun ma H9 nm e9 hm => ?_
    · rw [Py.at0_map, if_pos hi]
      exact ev_op (ev_int (ev_op (ev_var rfl) (ev_op ev_c (ev_var rfl) (rv_addN (a := 34))) (rv_ixLN (sq_of (hD8.up e)) (nat_get (dl _ (by omega)))))) ev_c (rv_modN (b := 256) (by decide))
    have oM : Py.Oc ((List.range (Py.at0 D 5 % 23)).map fun j => Py.at0 D (34 + j) % 256) := Py.oc_map (fun j => Nat.mod_lt _ (by decide)) _
    have lM : ((List.range (Py.at0 D 5 % 23)).map fun j => Py.at0 D (34 + j) % 256).length ≤ 22 := by
      rw [List.length_map, List.length_range]
      omega
    generalize ((List.range (Py.at0 D 5 % 23)).map fun j => Py.at0 D (34 + j) % 256) = M at hm oM lM
    have hM9 : LN H9 ma M := hm
    have hP9 := hP8.up e9
    have hD9 := hD8.up e9
    -- one, two
    refine q_asgU (eu_call2VL (ev_var rfl) (el_listL (ev_var rfl) (sq_of hP9)) fun q H' e hq => spu_seal f1 (.inl (sq_of hq)) lP) fun oa H10 no e10 ho => ?_
    have hO10 : TN H10 oa (Se.sector f P) := ho
    have hM10 := hM9.up e10
    refine q_asgU (eu_call2VU (ev_var rfl) (eu_tupV (ev_var rfl) (sq_of hM10)) fun q H' e hq => spu_seal hg1 (.inr (st_of hq)) lM) fun ta H11 nt e11 ht => ?_
    have hT11 : TN H11 ta (Se.sector g M) := ht
    have hO11 := hO10.up e11
    have hM11 := hM10.up e11
    have hP11 := (hP9.up e10).up e11
    have hD11 := (hD9.up e10).up e11
    have fO := Se.sector_fs f1 f0 lP oP
    have fT := Se.sector_fs hg1 hg0 lM oM
    have rO := Se.rds_sector f1 f0 lP oP
    clear hp hm ho ht
    change tSeq _ _ _ [some (.ref a), some (.ref da), some (.int (f : Int)), some (.int (g : Int)), some (.ref pa), none, some (.ref ma), some (.ref oa), some (.ref ta), none, none, none, none] _
    refine q_when (b := false) (et_is (et_or (et_not (et_B (ev_isiT (b := true) (ev_var rfl) hO11 ev_c (by decide +kernel)))) fun _ => et_not (et_B (ev_call (ea_cons (ev_var rfl) ea_nil) (spv__law_octets_only hO11 fO.oct (by rw [fO.len]; decide))))) rfl) (fun z => absurd z Bool.false_ne_true) fun _ H12 e12 => ?_
    have hO12 := hO11.up e12
    have hT12 := hT11.up e12
    have hM12 := hM11.up e12
    have hP12 := hP11.up e12
    refine q_when (b := false) (et_is (et_or (et_test (ev_opVU2 (ev_var rfl) (eu_call (ea_cons (ev_var rfl) (ea_cons (ev_var rfl) ea_nil)) (spu__law_sector hP12 lP)) fun q H' hq e => rv_neTN (hO12.up e) hq)) fun _ => et_test (ev_opVU2 (ev_var rfl) (eu_call (ea_cons (ev_var rfl) (ea_cons (ev_var rfl) ea_nil)) (spu__law_sector hM12 lM)) fun q H' hq e => rv_neTN (hT12.up e) hq)) rfl) (fun z => absurd z Bool.false_ne_true) fun _ H13 e13 => ?_
    have hO13 := hO12.up e13
    have hT13 := hT12.up e13
    have hP13 := hP12.up e13
    have hD13 := (hD11.up e12).up e13
    refine q_when (b := false) (et_is (et_not (et_B (ev_callVD (ev_var rfl) (etd (w := "good") (n := f) (L := Se.pad P) ev_c (ev_var rfl) (eu_tupL (el_is (el_catVL (ev_var rfl) hP13 (el_rep (n := 22 - P.length) (el_lst (ea_cons ev_c ea_nil) (by decide)) (ev_op ev_c (ev_is (ev_lenL (ev_var rfl) (sq_of hP13)) (by rw [len_map])) (rv_subN (a := 22) lP)) (by omega)) (by rw [len_map, List.length_replicate]; omega)) (by unfold Se.pad; rw [map_rep, List.map_append])))) fun q H' e' hq => spv__law_reads (hO13.up e') fO.len hq rO (Se.pad_oct oP)))) rfl) (fun z => absurd z Bool.false_ne_true) fun _ H14 e14 => ?_
    refine q_asgU (xs := (List.replicate 32 0).map nV) (eu_tupL (el_is (el_rep (n := 32) (el_lst (ea_cons ev_c ea_nil) (by decide)) ev_c (by decide)) map_rep)) fun ba H15 nb e15 hb => ?_
    have hB15 : TN H15 ba (List.replicate 32 0) := hb
    have hO15 := (hO13.up e14).up e15
    have hT15 := (hT13.up e14).up e15
    have hD15 := (hD13.up e14).up e15
    have fB : Se.FS (List.replicate 32 0) 0 0 := ⟨.inr ⟨rfl, rfl⟩, .inr ⟨rfl, rfl⟩, by decide⟩
    clear hb
    generalize hO : Se.sector f P = O at hO15 fO rO
    generalize hT : Se.sector g M = T2 at hT15 fT
    generalize hB : List.replicate 32 0 = B at hB15 fB
    have bl : Se.rds B = Se.blk := by rw [← hB]; exact Se.rds_blank
    clear hO10 hO11 hO12 hO13 hT11 hT12 hT13 hP8 hP9 hP11 hP12 hP13 hM9 hM10 hM11 hM12 hD2 hD4 hD6 hD7 hD8 hD9 hD11 hD13 hO hT hB
    have lO := fO.len
    have lT := fT.len
    have lB := fB.len
    have F1 : Se.FS (T2.take 16 ++ O.drop 16) g f := Se.fs_of fT.a fO.b
    have F2 : Se.FS (O.take 16 ++ T2.drop 16) f g := Se.fs_of fO.a fT.b
    have F3 : Se.FS (O.take 16 ++ B.drop 16) f 0 := Se.fs_of fO.a fB.b
    have F4 : Se.FS (B.take 16 ++ O.drop 16) 0 f := Se.fs_of fB.a fO.b
    have mk : ∀ (X Y : List Nat) (x y : Addr) (t1 t2 : TE) (o1 o2 : TO) (σ : L2.St), TN H15 x X → TN H15 y Y → X.length = 32 → Y.length = 32 → Ev t1 σ H15 (.ref x) → Ev t2 σ H15 (.ref y) → EvO o1 σ H15 (some ((16 : Nat) : Int)) → EvO o2 σ H15 (some ((16 : Nat) : Int)) → EvU (tOp (rCatA K) (tSl (rSlT K) t1 tNoPart o1) (tSl (rSlT K) t2 o2 tNoPart)) σ H15 ((X.take 16 ++ Y.drop 16).map nV) := by
      intro X Y x y t1 t2 o1 o2 σ hx hy lx ly v1 v2 w1 w2
      refine eu_is (eu_catUU (eu_front v1 w1 hx (by omega)) (eu_back v2 w2 hy (by decide) (by omega)) (by simp; omega)) ?_
      rw [List.map_append]
    change tSeq _ _ _ [some (.ref a), some (.ref da), some (.int (f : Int)), some (.int (g : Int)), some (.ref pa), none, some (.ref ma), some (.ref oa), some (.ref ta), some (.ref ba), none, none, none] _
    refine q_asgTL (vss := nss [T2.take 16 ++ O.drop 16, O.take 16 ++ T2.drop 16, O.take 16 ++ B.drop 16, B.take 16 ++ O.drop 16]) (etl_lst (eat_cons (mk _ _ _ _ _ _ _ _ _ hT15 hO15 lT lO (ev_var rfl) (ev_var rfl) (eo_some ev_c) (eo_some ev_c)) (eat_cons (mk _ _ _ _ _ _ _ _ _ hO15 hT15 lO lT (ev_var rfl) (ev_var rfl) (eo_some ev_c) (eo_some ev_c)) (eat_cons (mk _ _ _ _ _ _ _ _ _ hO15 hB15 lO lB (ev_var rfl) (ev_var rfl) (eo_some ev_c) (eo_some ev_c)) (eat_cons (mk _ _ _ _ _ _ _ _ _ hB15 hO15 lB lO (ev_var rfl) (ev_var rfl) (eo_some ev_c) (eo_some ev_c)) eat_nil)))) (by simp [nss])) fun xa H16 nx e16 hX => ?_
    have hO16 := hO15.up e16
    have hT16 := hT15.up e16
    have hB16 := hB15.up e16
    have hD16 := hD15.up e16
    have FX : ∀ t ∈ [T2.take 16 ++ O.drop 16, O.take 16 ++ T2.drop 16, O.take 16 ++ B.drop 16, B.take 16 ++ O.drop 16], ∃ x y, Se.FS t x y ∧ ¬ x = y := by
      intro t ht
      simp only [List.mem_cons, List.not_mem_nil, or_false] at ht
      rcases ht with rfl | rfl | rfl | rfl
      · exact ⟨_, _, F1, hgf⟩
      · exact ⟨_, _, F2, fun z => hgf z.symm⟩
      · exact ⟨_, _, F3, by omega⟩
      · exact ⟨_, _, F4, by omega⟩
    generalize hXs : [T2.take 16 ++ O.drop 16, O.take 16 ++ T2.drop 16, O.take 16 ++ B.drop 16, B.take 16 ++ O.drop 16] = Xs at hX FX
    have lX : Xs.length = 4 := by rw [← hXs]; rfl
    have X2 : Py.at1 Xs 2 = O.take 16 ++ B.drop 16 := by rw [← hXs]; rfl
    have X3 : Py.at1 Xs 3 = B.take 16 ++ O.drop 16 := by rw [← hXs]; rfl
    refine q_forTLn (ev_var rfl) hX (fun i s H' => ∃ v11, s = [some (.ref a), some (.ref da), some (.int (f : Int)), some (.int (g : Int)), some (.ref pa), none, some (.ref ma), some (.ref oa), some (.ref ta), some (.ref ba), some (.ref xa), v11, none] ∧ Ex H16 H') ?_ ?_ ?_ ?_
    · exact fun H17 e17 => ⟨none, rfl, e17⟩
    · rintro i s H' ⟨v11, rfl, e⟩
      exact e
    · rintro i r us s H' hus hr ⟨v11, rfl, e⟩
      obtain ⟨t, ht, rfl⟩ := List.mem_map.mp (List.mem_of_getElem? hus)
      obtain ⟨x, y, fs, hne⟩ := FX t ht
      exact s_when (b := false) (et_is (et_not (et_B (ev_callVD (ev_var rfl) (etd (w := "torn") (n := 0) (L := []) ev_c ev_c (eu_tup ea_nil (by decide))) fun q H2 e2 hq => spv__law_reads (TN.up hr e2) fs.len hq (Se.rds_torn fs hne) Py.oc_nil))) rfl) (fun z => absurd z Bool.false_ne_true) fun _ H2 e2 => ⟨_, rfl, e.trans e2⟩
    · rintro s H17 ⟨v11, rfl, e17⟩
      have hO17 := hO16.up e17
      have hT17 := hT16.up e17
      have hB17 := hB16.up e17
      have hD17 := hD16.up e17
      have hX17 := hX.up e17
      refine q_when (b := false) (et_is (et_or (et_not (et_B (ev_callVD (ev_var rfl) (etd (w := "blank") (n := 0) (L := []) ev_c ev_c (eu_tup ea_nil (by decide))) fun q H2 e2 hq => spv__law_reads (hB17.up e2) lB hq bl Py.oc_nil))) fun _ => et_not (et_B (ev_call2TLL (vss := nss [O, T2, B] ++ nss Xs) (ys := (D.drop 58).map nV) (etl_cat (vss := nss [O, T2, B]) (etl_lst (eat_consV (ev_var rfl) hO17 (eat_consV (ev_var rfl) hT17 (eat_consV (ev_var rfl) hB17 eat_nil))) (by simp [nss])) (ev_var rfl) hX17 (by rw [nss_len, nss_len, lX]; simp)) (el_is (el_sl (ev_var rfl) (eo_some ev_c) eo_none (sq_of hD17)) ?_) fun p q H2 e2 hp hq => spv__law_rotten_all (S := [O, T2, B] ++ Xs) (D := D.drop 58) (by unfold nss at hp ⊢; rw [List.map_append]; exact hp) hq ?_ ?_ ?_))) rfl) (fun z => absurd z Bool.false_ne_true) fun _ H18 e18 => ?_
      · unfold cutV
        rw [show (58 : Int) = ((58 : Nat) : Int) from rfl, HT.sIx_nat, HT.sIx_none, len_map, hDl, List.take_of_length_le (by rw [List.length_drop, len_map, hDl]; decide), List.map_drop]
        rfl
      · intro t ht
        rcases List.mem_append.mp ht with ht | ht
        · simp only [List.mem_cons, List.not_mem_nil, or_false] at ht
          rcases ht with rfl | rfl | rfl
          · exact ⟨_, _, fO⟩
          · exact ⟨_, _, fT⟩
          · exact ⟨_, _, fB⟩
        · obtain ⟨x, y, fs, _⟩ := FX t ht
          exact ⟨_, _, fs⟩
      · rw [List.length_append, lX, List.length_drop, hDl]
        simp
      · rw [List.length_append, lX]
        simp
      have hO18 := hO17.up e18
      have hT18 := hT17.up e18
      have hB18 := hB17.up e18
      have hD18 := hD17.up e18
      have hX18 := hX17.up e18
      have n1 : Se.newest [] = 0 := rfl
      have n2 : Se.newest [B, B] = 0 := by
        unfold Se.newest
        rw [stamps_cons, stamps_cons, stamps_nil, fB.st] <;> rfl
      refine q_when (b := false) (et_is (et_or (et_test (ev_op (ev_call1TL (vss := nss []) (etl_lst eat_nil (by simp [nss])) fun q H2 e2 hq => spv_newest_stamp (S := []) hq (fun s hs => absurd hs List.not_mem_nil) (by decide)) ev_c (rv_ne rfl))) fun _ => et_test (ev_op (ev_call1TL (vss := nss [B, B]) (etl_lst (eat_consV (ev_var rfl) hB18 (eat_consV (ev_var rfl) hB18 eat_nil)) (by simp [nss])) fun q H2 e2 hq => spv_newest_stamp (S := [B, B]) hq (fun s hs => by simp only [List.mem_cons, List.not_mem_nil, or_false] at hs; rcases hs with rfl | rfl <;> exact lB) (by simp)) ev_c (rv_ne rfl))) (by rw [n1, n2]; rfl)) (fun z => absurd z Bool.false_ne_true) fun _ H19 e19 => ?_
      have hO19 := hO18.up e19
      have hT19 := hT18.up e19
      have hB19 := hB18.up e19
      have hD19 := hD18.up e19
      have hX19 := hX18.up e19
      have n3 : Se.newest [B, O, T2] = max f g := by
        unfold Se.newest
        rw [stamps_cons, stamps_cons, stamps_cons, stamps_nil, fB.st, fO.st, fT.st]
        show max (max (max (max (max (max 0 0) 0) f) f) g) g = max f g
        omega
      have n4 : Se.newest [Py.at1 Xs 2] = f := by
        unfold Se.newest
        rw [stamps_cons, stamps_nil, X2, F3.st]
        show max (max 0 f) 0 = f
        omega
      obtain ⟨x2, hx2, hv2⟩ := tl_ix (K := K) (k := 2) hX19 (by omega)
      have l2 : (Py.at1 Xs 2).length = 32 := by rw [X2]; exact F3.len
      have l3 : (Py.at1 Xs 3).length = 32 := by rw [X3]; exact F4.len
      refine q_when (b := false) (et_is (et_or (et_test (ev_op (ev_call1TL (vss := nss [B, O, T2]) (etl_lst (eat_consV (ev_var rfl) hB19 (eat_consV (ev_var rfl) hO19 (eat_consV (ev_var rfl) hT19 eat_nil))) (by simp [nss])) fun q H2 e2 hq => spv_newest_stamp (S := [B, O, T2]) hq (fun s hs => by simp only [List.mem_cons, List.not_mem_nil, or_false] at hs; rcases hs with rfl | rfl | rfl <;> assumption) (by simp)) (Mx.ev_max2 (ev_var rfl) (ev_var rfl)) (rv_ne rfl))) fun _ => et_test (ev_op (ev_call1TL (vss := nss [Py.at1 Xs 2]) (etl_lst (eat_consV (ev_op (ev_var rfl) ev_c hv2) hx2 eat_nil) (by simp [nss])) fun q H2 e2 hq => spv_newest_stamp (S := [Py.at1 Xs 2]) hq (fun s hs => by rw [List.mem_singleton.mp hs]; exact l2) (by simp)) (ev_var rfl) (rv_ne rfl))) (by rw [n3, n4]; simp)) (fun z => absurd z Bool.false_ne_true) fun _ H20 e20 => ?_
      have hO20 := hO19.up e20
      have hT20 := hT19.up e20
      have hB20 := hB19.up e20
      have hD20 := hD19.up e20
      have hX20 := hX19.up e20
      obtain ⟨x3, hx3, hv3⟩ := tl_ix (K := K) (k := 3) hX20 (by omega)
      have p16 : ∀ d : Nat, d % 16 < 16 := fun d => Nat.mod_lt _ (by decide)
      have n5 : Se.newest [spo T2 (Py.at0 D 6 % 16) (Py.at0 D 7), Py.at1 Xs 3] = max f g := by
        unfold Se.newest spo
        rw [stamps_cons, stamps_cons, stamps_nil, Se.st_spoilt fT (p16 _) (Nat.mod_lt _ (by decide)) (Se.other_ne (fT.oct _)), X3, F4.st]
        show max (max (max (max 0 0) g) 0) f = max f g
        omega
      refine q_when (b := false) (et_is (et_test (ev_op (ev_call1TL (vss := nss [spo T2 (Py.at0 D 6 % 16) (Py.at0 D 7), Py.at1 Xs 3]) (etl_lst (eat_cons (eu_call (ea_cons (ev_var rfl) (ea_cons (ev_op (ev_int (ev_op (ev_var rfl) ev_c (rv_ixLN (k := 6) (sq_of hD20) (nat_get (dl _ (by decide)))))) ev_c (rv_modN (b := 16) (by decide))) (ea_cons (ev_op (ev_var rfl) ev_c (rv_ixLN (k := 7) (sq_of hD20) (nat_get (dl _ (by decide))))) ea_nil))) (spu__law_spoilt hT20 lT (Nat.lt_of_lt_of_le (p16 _) (by decide)))) (eat_consV (ev_op (ev_var rfl) ev_c hv3) hx3 eat_nil)) (by simp [nss])) fun q H2 e2 hq => spv_newest_stamp (S := [spo T2 (Py.at0 D 6 % 16) (Py.at0 D 7), Py.at1 Xs 3]) hq (fun s hs => by simp only [List.mem_cons, List.not_mem_nil, or_false] at hs; rcases hs with rfl | rfl <;> first | exact l3 | (unfold spo; rw [List.length_set, lT])) (by simp)) (Mx.ev_max2 (ev_var rfl) (ev_var rfl)) (rv_ne rfl))) (by rw [n5]; simp)) (fun z => absurd z Bool.false_ne_true) fun _ H21 e21 => ?_
      have hD21 := hD20.up e21
      obtain ⟨x4, hx4, hv4⟩ := tl_ix (K := K) (k := 2) (hX20.up e21) (by omega)
      refine q_asgU (xs := (spo (Py.at1 Xs 2) (Py.at0 D 8 % 16) (Py.at0 D 9)).map nV) (eu_call (ea_cons (ev_op (ev_var rfl) ev_c hv4) (ea_cons (ev_op (ev_int (ev_op (ev_var rfl) ev_c (rv_ixLN (k := 8) (sq_of hD21) (nat_get (dl _ (by decide)))))) ev_c (rv_modN (b := 16) (by decide))) (ea_cons (ev_op (ev_var rfl) ev_c (rv_ixLN (k := 9) (sq_of hD21) (nat_get (dl _ (by decide))))) ea_nil))) (spu__law_spoilt hx4 l2 (Nat.lt_of_lt_of_le (p16 _) (by decide)))) fun sa H22 ns e22 hs => ?_
      have hS22 : TN H22 sa (spo (Py.at1 Xs 2) (Py.at0 D 8 % 16) (Py.at0 D 9)) := hs
      have lS : (spo (Py.at1 Xs 2) (Py.at0 D 8 % 16) (Py.at0 D 9)).length = 32 := by unfold spo; rw [List.length_set, l2]
      have hT22 := (hT20.up e21).up e22
      have hB22 := (hB20.up e21).up e22
      obtain ⟨x5, hx5, hv5⟩ := tl_ix (K := K) (k := 3) ((hX20.up e21).up e22) (by omega)
      have n6 : Se.newest [spo (Py.at1 Xs 2) (Py.at0 D 8 % 16) (Py.at0 D 9), B] = 0 := by
        have F3' : Se.FS (Py.at1 Xs 2) f 0 := by rw [X2]; exact F3
        unfold Se.newest spo
        rw [stamps_cons, stamps_cons, stamps_nil, Se.st_spoilt F3' (p16 _) (Nat.mod_lt _ (by decide)) (Se.other_ne (F3'.oct _)), fB.st] <;> rfl
      generalize spo (Py.at1 Xs 2) (Py.at0 D 8 % 16) (Py.at0 D 9) = Sp at hS22 lS n6
      refine s_ret (v := .bl (true && true)) (ev_andV (ev_is (ev_op (ev_call1TL (vss := nss [Sp, B]) (etl_lst (eat_consV (ev_var rfl) hS22 (eat_consV (ev_var rfl) hB22 eat_nil)) (by simp [nss])) fun q H2 e2 hq => spv_newest_stamp (S := [Sp, B]) hq (fun s hs => by simp only [List.mem_cons, List.not_mem_nil, or_false] at hs; rcases hs with rfl | rfl <;> assumption) (by simp)) ev_c (rv_eq rfl)) (by rw [n6]; rfl)) fun _ => ev_call (ea_cons (ev_call1TL (vss := nss [T2, Sp, Py.at1 Xs 3]) (etl_lst (eat_consV (ev_var rfl) hT22 (eat_consV (ev_var rfl) hS22 (eat_consV (ev_op (ev_var rfl) ev_c hv5) hx5 eat_nil))) (by simp [nss])) fun q H2 e2 hq => spv_newest_stamp (S := [T2, Sp, Py.at1 Xs 3]) hq (fun s hs => by simp only [List.mem_cons, List.not_mem_nil, or_false] at hs; rcases hs with rfl | rfl | rfl <;> assumption) (by simp)) ea_nil) spv__law_is_number) fun H23 e23 => k H23
end
def dd_digits_of : He.DefD := ⟨("digits_of", none), "digits_of", "digits_of", defArgs s_digits_of, defBody s_digits_of, defScope s_digits_of, [], []⟩
def dd_number_of : He.DefD := ⟨("number_of", none), "number_of", "number_of", defArgs s_number_of, defBody s_number_of, defScope s_number_of, [], []⟩
def dd_check_octet : He.DefD := ⟨("check_octet", none), "check_octet", "check_octet", defArgs s_check_octet, defBody s_check_octet, defScope s_check_octet, [], []⟩
def dd_seal_half : He.DefD := ⟨("seal_half", none), "seal_half", "seal_half", defArgs s_seal_half, defBody s_seal_half, defScope s_seal_half, [], []⟩
def dd_read_half : He.DefD := ⟨("read_half", none), "read_half", "read_half", defArgs s_read_half, defBody s_read_half, defScope s_read_half, [], []⟩
def dd_seal : He.DefD := ⟨("seal", none), "seal", "seal", defArgs s_seal, defBody s_seal, defScope s_seal, [], []⟩
def dd_read_sector : He.DefD := ⟨("read_sector", none), "read_sector", "read_sector", defArgs s_read_sector, defBody s_read_sector, defScope s_read_sector, [], []⟩
def dd_newest_stamp : He.DefD := ⟨("newest_stamp", none), "newest_stamp", "newest_stamp", defArgs s_newest_stamp, defBody s_newest_stamp, defScope s_newest_stamp, [], []⟩
def dd__law_draws : He.DefD := ⟨("_law_draws", none), "_law_draws", "_law_draws", defArgs s__law_draws, defBody s__law_draws, defScope s__law_draws, [], []⟩
def dd__law_is_number : He.DefD := ⟨("_law_is_number", none), "_law_is_number", "_law_is_number", defArgs s__law_is_number, defBody s__law_is_number, defScope s__law_is_number, [], []⟩
def dd__law_octets_only : He.DefD := ⟨("_law_octets_only", none), "_law_octets_only", "_law_octets_only", defArgs s__law_octets_only, defBody s__law_octets_only, defScope s__law_octets_only, [], []⟩
def dd__law_half : He.DefD := ⟨("_law_half", none), "_law_half", "_law_half", defArgs s__law_half, defBody s__law_half, defScope s__law_half, [], []⟩
def dd__law_sector : He.DefD := ⟨("_law_sector", none), "_law_sector", "_law_sector", defArgs s__law_sector, defBody s__law_sector, defScope s__law_sector, [], []⟩
def dd__law_stamp : He.DefD := ⟨("_law_stamp", none), "_law_stamp", "_law_stamp", defArgs s__law_stamp, defBody s__law_stamp, defScope s__law_stamp, [], []⟩
def dd__law_reads : He.DefD := ⟨("_law_reads", none), "_law_reads", "_law_reads", defArgs s__law_reads, defBody s__law_reads, defScope s__law_reads, [], []⟩
def dd__law_spoilt : He.DefD := ⟨("_law_spoilt", none), "_law_spoilt", "_law_spoilt", defArgs s__law_spoilt, defBody s__law_spoilt, defScope s__law_spoilt, [], []⟩
def dd__law_rotten_all : He.DefD := ⟨("_law_rotten_all", none), "_law_rotten_all", "_law_rotten_all", defArgs s__law_rotten_all, defBody s__law_rotten_all, defScope s__law_rotten_all, [], []⟩
def dd_law : He.DefD := ⟨("law", none), "law", "law", defArgs s_law, defBody s_law, defScope s_law, [], []⟩
def fn : List He.DefD := [dd_digits_of, dd_number_of, dd_check_octet, dd_seal_half, dd_read_half, dd_seal, dd_read_sector, dd_newest_stamp, dd__law_draws, dd__law_is_number, dd__law_octets_only, dd__law_half, dd__law_sector, dd__law_stamp, dd__law_reads, dd__law_spoilt, dd__law_rotten_all, dd_law]
def fa : List He.Fa := [.glo "digits_of", .glo "number_of", .glo "check_octet", .glo "seal_half", .glo "read_half", .glo "seal", .glo "read_sector", .glo "newest_stamp", .glo "_law_draws", .glo "_law_is_number", .glo "_law_octets_only", .glo "_law_half", .glo "_law_sector", .glo "_law_stamp", .glo "_law_reads", .glo "_law_spoilt", .glo "_law_rotten_all", .glo "law", .free "abs", .free "all", .free "any", .free "bool", .free "int", .free "isinstance", .free "len", .free "list", .free "max", .free "range", .free "sum", .free "tuple", .int "BASE" 256, .int "DATA" 22, .int "HALF" 16, .int "HALF_DATA" 11, .int "MARK" 197, .glo "BLANK"]
def exs (K : PySem.W.Frag) : List Bool := [He.tupB K "BLANK" ((List.replicate 32 0 : List Nat).map fun (n : Nat) => He.Dv.int (n : Int))]
def exB (K : PySem.W.Frag) : Bool := (exs K).all id
abbrev R : PySem.W.OpenRow := PySem.W.OpenLaw.row PySem.Challenge.rw_cairn_k13_sealed_sectors
def names : List PySem.Str := "BASE" :: "digits_of" :: "number_of" :: "MARK" :: "HALF" :: "HALF_DATA" :: "DATA" :: "BLANK" :: "check_octet" :: "seal_half" :: "read_half" :: "seal" :: "read_sector" :: "newest_stamp" :: "_law_draws" :: "_law_is_number" :: "_law_octets_only" :: "_law_half" :: "_law_sector" :: "_law_stamp" :: "_law_reads" :: "_law_spoilt" :: "_law_rotten_all" :: []
abbrev hk : PySem.W.Hook := He.hookX 5 fa fn [] [] exB
def ob (s : PySem.W.SharedT) : He.AlX := He.obsX 5 fa fn [] [] exB (HandSHeadRun.getT s)
theorem ob_eq (s : PySem.W.SharedT) : ob s = hk.obs s.abs := He.obsX_eq (HandSHeadRun.getT_eq s)
theorem run (w : World) : HandSHeadRun.RunEq R (PySem.W.view R.prog [26]) hk ob 3000 names w := by
  intro os
  kernel_rfl
theorem txt_of {w : World} {K : PySem.W.Frag} {h h2 : Heap} {mg : Str → Option Value} (X : K.In h) (G : h.Ns mainGlobals mg) (c : He.SaysX fa fn [] [] exB w h2 K) : Txt K mg :=
  ⟨(by obtain ⟨fd, F⟩ := c.t.d.def_ 0 (d := dd_digits_of) rfl; exact ⟨fd, F⟩),
   (He.glo_ok X G (c.t.d.fact 0 (f := .glo "digits_of") rfl)),
   (by obtain ⟨fd, F⟩ := c.t.d.def_ 0 (d := dd_digits_of) rfl; exact F.kp),
   (by obtain ⟨fd, F⟩ := c.t.d.def_ 1 (d := dd_number_of) rfl; exact ⟨fd, F⟩),
   (He.glo_ok X G (c.t.d.fact 1 (f := .glo "number_of") rfl)),
   (by obtain ⟨fd, F⟩ := c.t.d.def_ 1 (d := dd_number_of) rfl; exact F.kp),
   (by obtain ⟨fd, F⟩ := c.t.d.def_ 2 (d := dd_check_octet) rfl; exact ⟨fd, F⟩),
   (He.glo_ok X G (c.t.d.fact 2 (f := .glo "check_octet") rfl)),
   (by obtain ⟨fd, F⟩ := c.t.d.def_ 2 (d := dd_check_octet) rfl; exact F.kp),
   (by obtain ⟨fd, F⟩ := c.t.d.def_ 3 (d := dd_seal_half) rfl; exact ⟨fd, F⟩),
   (He.glo_ok X G (c.t.d.fact 3 (f := .glo "seal_half") rfl)),
   (by obtain ⟨fd, F⟩ := c.t.d.def_ 3 (d := dd_seal_half) rfl; exact F.kp),
   (by obtain ⟨fd, F⟩ := c.t.d.def_ 4 (d := dd_read_half) rfl; exact ⟨fd, F⟩),
   (He.glo_ok X G (c.t.d.fact 4 (f := .glo "read_half") rfl)),
   (by obtain ⟨fd, F⟩ := c.t.d.def_ 4 (d := dd_read_half) rfl; exact F.kp),
   (by obtain ⟨fd, F⟩ := c.t.d.def_ 5 (d := dd_seal) rfl; exact ⟨fd, F⟩),
   (He.glo_ok X G (c.t.d.fact 5 (f := .glo "seal") rfl)),
   (by obtain ⟨fd, F⟩ := c.t.d.def_ 5 (d := dd_seal) rfl; exact F.kp),
   (by obtain ⟨fd, F⟩ := c.t.d.def_ 6 (d := dd_read_sector) rfl; exact ⟨fd, F⟩),
   (He.glo_ok X G (c.t.d.fact 6 (f := .glo "read_sector") rfl)),
   (by obtain ⟨fd, F⟩ := c.t.d.def_ 6 (d := dd_read_sector) rfl; exact F.kp),
   (by obtain ⟨fd, F⟩ := c.t.d.def_ 7 (d := dd_newest_stamp) rfl; exact ⟨fd, F⟩),
   (He.glo_ok X G (c.t.d.fact 7 (f := .glo "newest_stamp") rfl)),
   (by obtain ⟨fd, F⟩ := c.t.d.def_ 7 (d := dd_newest_stamp) rfl; exact F.kp),
   (by obtain ⟨fd, F⟩ := c.t.d.def_ 8 (d := dd__law_draws) rfl; exact ⟨fd, F⟩),
   (He.glo_ok X G (c.t.d.fact 8 (f := .glo "_law_draws") rfl)),
   (by obtain ⟨fd, F⟩ := c.t.d.def_ 8 (d := dd__law_draws) rfl; exact F.kp),
   (by obtain ⟨fd, F⟩ := c.t.d.def_ 9 (d := dd__law_is_number) rfl; exact ⟨fd, F⟩),
   (He.glo_ok X G (c.t.d.fact 9 (f := .glo "_law_is_number") rfl)),
   (by obtain ⟨fd, F⟩ := c.t.d.def_ 9 (d := dd__law_is_number) rfl; exact F.kp),
   (by obtain ⟨fd, F⟩ := c.t.d.def_ 10 (d := dd__law_octets_only) rfl; exact ⟨fd, F⟩),
   (He.glo_ok X G (c.t.d.fact 10 (f := .glo "_law_octets_only") rfl)),
   (by obtain ⟨fd, F⟩ := c.t.d.def_ 10 (d := dd__law_octets_only) rfl; exact F.kp),
   (by obtain ⟨fd, F⟩ := c.t.d.def_ 11 (d := dd__law_half) rfl; exact ⟨fd, F⟩),
   (He.glo_ok X G (c.t.d.fact 11 (f := .glo "_law_half") rfl)),
   (by obtain ⟨fd, F⟩ := c.t.d.def_ 11 (d := dd__law_half) rfl; exact F.kp),
   (by obtain ⟨fd, F⟩ := c.t.d.def_ 12 (d := dd__law_sector) rfl; exact ⟨fd, F⟩),
   (He.glo_ok X G (c.t.d.fact 12 (f := .glo "_law_sector") rfl)),
   (by obtain ⟨fd, F⟩ := c.t.d.def_ 12 (d := dd__law_sector) rfl; exact F.kp),
   (by obtain ⟨fd, F⟩ := c.t.d.def_ 13 (d := dd__law_stamp) rfl; exact ⟨fd, F⟩),
   (He.glo_ok X G (c.t.d.fact 13 (f := .glo "_law_stamp") rfl)),
   (by obtain ⟨fd, F⟩ := c.t.d.def_ 13 (d := dd__law_stamp) rfl; exact F.kp),
   (by obtain ⟨fd, F⟩ := c.t.d.def_ 14 (d := dd__law_reads) rfl; exact ⟨fd, F⟩),
   (He.glo_ok X G (c.t.d.fact 14 (f := .glo "_law_reads") rfl)),
   (by obtain ⟨fd, F⟩ := c.t.d.def_ 14 (d := dd__law_reads) rfl; exact F.kp),
   (by obtain ⟨fd, F⟩ := c.t.d.def_ 15 (d := dd__law_spoilt) rfl; exact ⟨fd, F⟩),
   (He.glo_ok X G (c.t.d.fact 15 (f := .glo "_law_spoilt") rfl)),
   (by obtain ⟨fd, F⟩ := c.t.d.def_ 15 (d := dd__law_spoilt) rfl; exact F.kp),
   (by obtain ⟨fd, F⟩ := c.t.d.def_ 16 (d := dd__law_rotten_all) rfl; exact ⟨fd, F⟩),
   (He.glo_ok X G (c.t.d.fact 16 (f := .glo "_law_rotten_all") rfl)),
   (by obtain ⟨fd, F⟩ := c.t.d.def_ 16 (d := dd__law_rotten_all) rfl; exact F.kp),
   (by obtain ⟨fd, F⟩ := c.t.d.def_ 17 (d := dd_law) rfl; exact ⟨fd, F⟩),
   (He.glo_ok X G (c.t.d.fact 17 (f := .glo "law") rfl)),
   (by obtain ⟨fd, F⟩ := c.t.d.def_ 17 (d := dd_law) rfl; exact F.kp),
   (He.free_ok X G (c.t.d.fact 18 (f := .free "abs") rfl)),
   (He.free_ok X G (c.t.d.fact 19 (f := .free "all") rfl)),
   (He.free_ok X G (c.t.d.fact 20 (f := .free "any") rfl)),
   (He.free_ok X G (c.t.d.fact 21 (f := .free "bool") rfl)),
   (He.free_ok X G (c.t.d.fact 22 (f := .free "int") rfl)),
   (He.free_ok X G (c.t.d.fact 23 (f := .free "isinstance") rfl)),
   (He.free_ok X G (c.t.d.fact 24 (f := .free "len") rfl)),
   (He.free_ok X G (c.t.d.fact 25 (f := .free "list") rfl)),
   (He.free_ok X G (c.t.d.fact 26 (f := .free "max") rfl)),
   (He.free_ok X G (c.t.d.fact 27 (f := .free "range") rfl)),
   (He.free_ok X G (c.t.d.fact 28 (f := .free "sum") rfl)),
   (He.free_ok X G (c.t.d.fact 29 (f := .free "tuple") rfl)),
   (cst_int (He.int_ok X G (c.t.d.fact 30 (f := .int "BASE" 256) rfl))).1,
   (cst_int (He.int_ok X G (c.t.d.fact 30 (f := .int "BASE" 256) rfl))).2,
   (cst_int (He.int_ok X G (c.t.d.fact 31 (f := .int "DATA" 22) rfl))).1,
   (cst_int (He.int_ok X G (c.t.d.fact 31 (f := .int "DATA" 22) rfl))).2,
   (cst_int (He.int_ok X G (c.t.d.fact 32 (f := .int "HALF" 16) rfl))).1,
   (cst_int (He.int_ok X G (c.t.d.fact 32 (f := .int "HALF" 16) rfl))).2,
   (cst_int (He.int_ok X G (c.t.d.fact 33 (f := .int "HALF_DATA" 11) rfl))).1,
   (cst_int (He.int_ok X G (c.t.d.fact 33 (f := .int "HALF_DATA" 11) rfl))).2,
   (cst_int (He.int_ok X G (c.t.d.fact 34 (f := .int "MARK" 197) rfl))).1,
   (cst_int (He.int_ok X G (c.t.d.fact 34 (f := .int "MARK" 197) rfl))).2,
   (He.glo_ok X G (c.t.d.fact 35 (f := .glo "BLANK") rfl)),
   rfl,
   (fun H => tup_ok (all_at c.more 0 rfl) H)⟩
end K13
open PySem PySem.W PySem.Calls PyProof.Rows
theorem PySem.Challenge.cw_cairn_k13_sealed_sectors_holds : PySem.Challenge.rw_cairn_k13_sealed_sectors.Holds := by
  w_on; o_law
  refine HandSHeadRun.head_any (r := OpenLaw.row PySem.Challenge.rw_cairn_k13_sealed_sectors) (q := view (OpenLaw.row PySem.Challenge.rw_cairn_k13_sealed_sectors).prog [26]) (H := K13.hk) (ob := K13.ob) (M := 3000) (loose := K13.names) (d := HandSHeadRun.topDef (OpenLaw.row PySem.Challenge.rw_cairn_k13_sealed_sectors).prog 26) (kwd := []) K13.ob_eq
    (by kernel_rfl) (fun s => by kernel_rfl) K13.run (by kernel_rfl) (by kernel_rfl) (by kernel_rfl) (by rfl) (by first | assumption | decide +kernel) (by decide +kernel) ⟨rfl, rfl, rfl, rfl, rfl, by decide +kernel⟩ ?hw ?hc
  case hw => w_witness2
  case hc =>
    refine L2.walk_ofE (l := PySem.Challenge.rw_cairn_k13_sealed_sectors) (n := 63) (k := 6) (x := "script") (CX := L2.CX0) rfl (by decide) (by kernel_rfl) ⟨rfl, by decide, by decide⟩ ?F (fun _ _ _ _ z => z)
    intro w mg fa h Y G hmg0
    obtain ⟨K, KX, c⟩ := Y
    have hmg : mg ("law" : PySem.Str) = some (.ref fa) := by
      have e : (HandSHeadRun.topDef (OpenLaw.row PySem.Challenge.rw_cairn_k13_sealed_sectors).prog 26).name = ("law" : PySem.Str) := by kernel_rfl
      rw [← e]
      exact hmg0
    have T := K13.txt_of KX G c
    have e : He.ga K "law" = fa := Value.ref.inj (Option.some.inj (T.g_law.symm.trans hmg))
    subst e
    obtain ⟨fd, F⟩ := T.F_law
    refine ⟨K, fd, K13.sp_law K, KX, fun s u => ?_, fun H a ns hl _ hS => ⟨a, ns, rfl, hS, hl, fun _ => rfl⟩, fun base KB GB => ?_⟩
    · exact L2.FunD.bindsA (ps := ["script"]) F (fun _ _ _ _ _ _ us hl => match us, hl with | [_], _ => rfl) s [u] rfl
    · obtain ⟨fd2, G2, _, F2⟩ := K13.ok_law (P := (PySem.Challenge.rw_cairn_k13_sealed_sectors).prog) (w := w) (base := base) T
      obtain rfl : fd2 = fd := Mx.fnat_eq F2 F
      exact G2
