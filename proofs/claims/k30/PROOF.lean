import PyProof.Rows.All
import Wide.All
import OpenK.AllK
import Wide.FinOn
import Lean
import HandS.ForMost
import HandS.ForExc
import HandS.Evl
import HandS.IsInst
import HandS.ExcIs
import HandS.NoneIn
import HandS.Defaults
import HandS.Head0
import HandS.Head1
import HandS.Head2
import HandS.HeadEnd
import HandS.HeadHook1
import HandS.HeadHook2
import HandS.HeadHook3
import HandS.HeadHook4
import HandS.Walk
import HandS.Rev
import HandS.Zip
import HandS.Conv
import HandS.RevRange
import HandS.FStr
import HandS.RaiseMore
import HandS.Style
import HandS.TupAny
import PyProof.SumWalkG
import PyProof.WalksMore
import PyProof.WalkInts
import HandS.SortKw
import KE.DataMinMax
import HandS.AnyAll
import HandS.JoinGen
import HandS.HeadWalk
import HandS.ForDict
import HandS.More
import HandS.Iter
import KE.KDictList
import PyProof.FitsInt
import PyProof.StrLaws
import HandS.DictComp
import HandS.HotCalls
import HandS.Strs
import KE.KEqNest
import PySem.Challenge.RW_cairn_k30_ballots_and_tallies

set_option Elab.async false
namespace Gf
/-- the powers and the exponents as one number each -/
def pn : Nat := 70160881166704368827218703435136616750530459438269794890424969378298545675077208731798828898087927652446353395360628748027273188182808436399538186061104243134188885576122562338679313492324190829158544377810568631194580132524405266702234305646236648896994794467054525044798919765581988418950285252905306116225263236585714808161311289784028762024137133735135393922581566890382566480334369299400480864790538739986285574563168380416343369614948461817839620668187777978661530364712890858126432457562886306102556561631759900551331094983229723298224611133722330829711659991602983068895685602467964643306841827719562658305
def ln : Nat := 22135253156888987530748098150270024343632497605293634117281264061560962248099620766229961468867162294233796152347975563017024165690400661622462404646302566225833645086064538892198543335321514950294300187779610338557442029018619797274438901674641748676613670242915365385819254959901651105240253464034662486586186382979728982817772067067513442677601938078891989292316012868233806586592927239821351197800766822366321181463280924672822998103315976779850880337712374790938628529953751181886374687897611504386983350015558142994211516619836411558782076806704747441947939324473761869443721989389604670425385080942269787340800
def pw (k : Nat) : Nat := (pn >>> (8 * k)) % 256
def lg (a : Nat) : Nat := (ln >>> (8 * a)) % 256
def gm (a b : Nat) : Nat := if a = 0 then 0 else if b = 0 then 0 else pw ((lg a + lg b) % 255)
def xt (a : Nat) : Nat := if a * 2 > 255 then (a * 2) ^^^ 285 else a * 2
/-- one turn of the product by shifts: product, a, b -/
def ps (s : Nat × Nat × Nat) : Nat × Nat × Nat := (if s.2.2 % 2 = 0 then s.1 else s.1 ^^^ s.2.1, xt s.2.1, s.2.2 / 2)
def pn8 : Nat → Nat × Nat × Nat → Nat × Nat × Nat
  | 0, s => s
  | n + 1, s => ps (pn8 n s)
def pm (a b : Nat) : Nat := (pn8 8 (0, a, b)).1
def alln (f : Nat → Bool) : Nat → Bool
  | 0 => true
  | n + 1 => f n && alln f n
theorem alln_at {f : Nat → Bool} : ∀ {n : Nat}, alln f n = true → ∀ i, i < n → f i = true
  | 0, _, i, h => absurd h (Nat.not_lt_zero _)
  | n + 1, e, i, h => by
    unfold alln at e
    have e2 := Bool.and_eq_true_iff.mp e
    by_cases q : i = n
    · rw [q]; exact e2.1
    · exact alln_at e2.2 i (by omega)
theorem tab1 : alln (fun a => Nat.beq (pw (lg a)) a || Nat.beq a 0) 256 = true := by decide +kernel
theorem tab2 : alln (fun k => Nat.beq (lg (pw k)) k && Nat.ble 1 (pw k) && Nat.ble (pw k) 255) 255 = true := by decide +kernel
theorem tab3 : alln (fun a => Nat.ble (lg a) 254) 256 = true := by decide +kernel
theorem tab5 : alln (fun a => Nat.blt (xt a) 256) 256 = true := by decide +kernel
theorem pw_lg {a : Nat} (h : a < 256) (h0 : ¬ a = 0) : pw (lg a) = a := by
  have e := alln_at tab1 a h
  rcases Bool.or_eq_true_iff.mp e with e | e
  · exact Nat.eq_of_beq_eq_true e
  · exact absurd (Nat.eq_of_beq_eq_true e) h0
theorem tab2_at {k : Nat} (h : k < 255) : lg (pw k) = k ∧ 1 ≤ pw k ∧ pw k ≤ 255 := by
  have e := alln_at tab2 k h
  obtain ⟨e1, e2⟩ := Bool.and_eq_true_iff.mp e
  obtain ⟨e3, e4⟩ := Bool.and_eq_true_iff.mp e1
  exact ⟨Nat.eq_of_beq_eq_true e3, Nat.le_of_ble_eq_true e4, Nat.le_of_ble_eq_true e2⟩
theorem lg_lt {a : Nat} (h : a < 256) : lg a < 255 := by
  have e := Nat.le_of_ble_eq_true (alln_at tab3 a h)
  omega
theorem xt_lt {a : Nat} (h : a < 256) : xt a < 256 := Nat.le_of_ble_eq_true (alln_at tab5 a h)
theorem pn8_lt {a b : Nat} (h : a < 256) : ∀ n, (pn8 n (0, a, b)).2.1 < 256
  | 0 => h
  | n + 1 => xt_lt (pn8_lt h n)
theorem gm_zero {a b : Nat} (h : a = 0 ∨ b = 0) : gm a b = 0 := by
  unfold gm
  rcases h with h | h
  · rw [if_pos h]
  · by_cases q : a = 0
    · rw [if_pos q]
    · rw [if_neg q, if_pos h]
theorem gm_pos {a b : Nat} (h : ¬ a = 0) (h2 : ¬ b = 0) : gm a b = pw ((lg a + lg b) % 255) := by
  unfold gm
  rw [if_neg h, if_neg h2]
theorem pw_lt (k : Nat) : pw k < 256 := Nat.mod_lt _ (by decide)
theorem gm_lt (a b : Nat) : gm a b < 256 := by
  unfold gm
  split
  · decide
  · split
    · decide
    · exact pw_lt _
def gi (a : Nat) : Nat := pw ((255 - lg a) % 255)
theorem gi_lt (a : Nat) : gi a < 256 := pw_lt _
theorem gi_ne (a : Nat) : ¬ gi a = 0 := by
  have := (tab2_at (Nat.mod_lt (255 - lg a) (by decide : 0 < 255))).2.1
  unfold gi
  omega
theorem lg_gi (a : Nat) : lg (gi a) = (255 - lg a) % 255 := (tab2_at (Nat.mod_lt (255 - lg a) (by decide : 0 < 255))).1
theorem pw_zero : pw 0 = 1 := by decide +kernel
theorem gm_gi {a : Nat} (h : a < 256) (h0 : ¬ a = 0) : gm a (gi a) = 1 := by
  rw [gm_pos h0 (gi_ne a), lg_gi]
  have := lg_lt h
  have e : (lg a + (255 - lg a) % 255) % 255 = 0 := by omega
  rw [e, pw_zero]
theorem gm_comm (a b : Nat) : gm a b = gm b a := by
  by_cases h : a = 0
  · rw [gm_zero (.inl h), gm_zero (.inr h)]
  · by_cases h2 : b = 0
    · rw [gm_zero (.inr h2), gm_zero (.inl h2)]
    · rw [gm_pos h h2, gm_pos h2 h, Nat.add_comm]
theorem gm_ne {a b : Nat} (h : ¬ a = 0) (h2 : ¬ b = 0) : ¬ gm a b = 0 := by
  rw [gm_pos h h2]
  have := (tab2_at (Nat.mod_lt (lg a + lg b) (by decide : 0 < 255))).2.1
  omega
theorem lg_gm {a b : Nat} (h : ¬ a = 0) (h2 : ¬ b = 0) : lg (gm a b) = (lg a + lg b) % 255 := by
  rw [gm_pos h h2]
  exact (tab2_at (Nat.mod_lt (lg a + lg b) (by decide : 0 < 255))).1
theorem gm_assoc (a b c : Nat) : gm (gm a b) c = gm a (gm b c) := by
  by_cases h : a = 0
  · rw [gm_zero (.inl h), gm_zero (.inl rfl), gm_zero (.inl h)]
  · by_cases h2 : b = 0
    · rw [gm_zero (.inr h2), gm_zero (.inl rfl), gm_zero (a := b) (.inl h2), gm_zero (.inr rfl)]
    · by_cases h3 : c = 0
      · rw [gm_zero (.inr h3), gm_zero (a := b) (.inr h3), gm_zero (.inr rfl)]
      · rw [gm_pos (gm_ne h h2) h3, gm_pos h (gm_ne h2 h3), lg_gm h h2, lg_gm h2 h3]
        have e : ((lg a + lg b) % 255 + lg c) % 255 = (lg a + (lg b + lg c) % 255) % 255 := by omega
        rw [e]
theorem lg_one : lg 1 = 0 := by decide +kernel
theorem gm_one {a : Nat} (h : a < 256) : gm a 1 = a := by
  by_cases h0 : a = 0
  · rw [gm_zero (.inl h0), h0]
  · rw [gm_pos h0 (by decide), lg_one, Nat.add_zero, Nat.mod_eq_of_lt (lg_lt h), pw_lg h h0]
theorem tab6 : alln (fun k => Nat.beq (pw ((k + 1) % 255)) (xt (pw k))) 255 = true := by decide +kernel
theorem tab7 : alln (fun n => alln (fun b => Nat.beq (b % 2 ^ (n + 1)) (if (b / 2 ^ n) % 2 = 0 then b % 2 ^ n else (b % 2 ^ n) ^^^ 2 ^ n)) 256) 8 = true := by decide +kernel
theorem tab8 : alln (fun n => Nat.beq (pw n) (2 ^ n)) 8 = true := by decide +kernel
theorem xor_lt {x y : Nat} (hx : x < 256) (hy : y < 256) : x ^^^ y < 256 := Nat.xor_lt_two_pow (n := 8) hx hy
theorem xt_xor {x y : Nat} (hx : x < 256) (hy : y < 256) : xt (x ^^^ y) = xt x ^^^ xt y := by
  have e : ∀ {z : Nat}, z < 256 → xt z = (z * 2) ^^^ (if z / 128 = 0 then 0 else 285) := fun {z} hz => by
    unfold xt
    by_cases h : z * 2 > 255
    · rw [if_pos h, if_neg (by omega)]
    · rw [if_neg h, if_pos (by omega), Nat.xor_zero]
  have d : (x ^^^ y) / 128 = x / 128 ^^^ y / 128 := by
    have q := Nat.shiftRight_xor_distrib (a := x) (b := y) (i := 7)
    rw [Nat.shiftRight_eq_div_pow, Nat.shiftRight_eq_div_pow, Nat.shiftRight_eq_div_pow] at q
    exact q
  have m : (x ^^^ y) * 2 = x * 2 ^^^ y * 2 := by
    have q := Nat.shiftLeft_xor_distrib (a := x) (b := y) (i := 1)
    rw [Nat.shiftLeft_eq, Nat.shiftLeft_eq, Nat.shiftLeft_eq] at q
    exact q
  rw [e (xor_lt hx hy), e hx, e hy, d, m]
  have h1 : x / 128 = 0 ∨ x / 128 = 1 := by omega
  have h2 : y / 128 = 0 ∨ y / 128 = 1 := by omega
  have ac : ∀ p q r s : Nat, (p ^^^ r) ^^^ (q ^^^ s) = (p ^^^ q) ^^^ (r ^^^ s) := fun p q r s => by
    rw [Nat.xor_assoc, Nat.xor_assoc, ← Nat.xor_assoc r, Nat.xor_comm r q, Nat.xor_assoc q]
  rw [ac]
  rcases h1 with h1 | h1 <;> rcases h2 with h2 | h2 <;> rw [h1, h2] <;> rfl
def xtn : Nat → Nat → Nat
  | 0, a => a
  | n + 1, a => xt (xtn n a)
theorem xtn_lt {a : Nat} (h : a < 256) : ∀ n, xtn n a < 256
  | 0 => h
  | n + 1 => xt_lt (xtn_lt h n)
theorem xtn_xor {x y : Nat} (hx : x < 256) (hy : y < 256) : ∀ n, xtn n (x ^^^ y) = xtn n x ^^^ xtn n y
  | 0 => rfl
  | n + 1 => by
    show xt (xtn n (x ^^^ y)) = xt (xtn n x) ^^^ xt (xtn n y)
    rw [xtn_xor hx hy n, xt_xor (xtn_lt hx n) (xtn_lt hy n)]
theorem xtn_zero : ∀ n, xtn n 0 = 0
  | 0 => rfl
  | n + 1 => by
    show xt (xtn n 0) = 0
    rw [xtn_zero n]
    rfl
theorem xtn_pw {j : Nat} (h : j < 255) : ∀ n, xtn n (pw j) = pw ((j + n) % 255)
  | 0 => by
    show pw j = _
    rw [Nat.add_zero, Nat.mod_eq_of_lt h]
  | n + 1 => by
    show xt (xtn n (pw j)) = _
    rw [xtn_pw h n]
    have e := Nat.eq_of_beq_eq_true (alln_at tab6 ((j + n) % 255) (Nat.mod_lt _ (by decide)))
    rw [← e]
    congr 1
    omega
theorem gm_xtn {a b : Nat} (h : ¬ a = 0) (hb : b < 256) : gm a b = xtn (lg a) b := by
  by_cases h0 : b = 0
  · rw [gm_zero (.inr h0), h0, xtn_zero]
  · have e : xtn (lg a) b = xtn (lg a) (pw (lg b)) := by rw [pw_lg hb h0]
    rw [e, xtn_pw (lg_lt hb), gm_pos h h0, Nat.add_comm]
/-- the product distributes over the sum -/
theorem gm_xor {a b c : Nat} (hb : b < 256) (hc : c < 256) : gm a (b ^^^ c) = gm a b ^^^ gm a c := by
  by_cases h : a = 0
  · rw [gm_zero (.inl h), gm_zero (.inl h), gm_zero (.inl h)]
    rfl
  · rw [gm_xtn h (xor_lt hb hc), gm_xtn h hb, gm_xtn h hc, xtn_xor hb hc]
theorem xor_gm {a b c : Nat} (hb : b < 256) (hc : c < 256) : gm (b ^^^ c) a = gm b a ^^^ gm c a := by
  rw [gm_comm, gm_xor hb hc, gm_comm a b, gm_comm a c]
theorem gm_pow {a n : Nat} (ha : a < 256) (hn : n < 8) : gm a (2 ^ n) = xtn n a := by
  have e := Nat.eq_of_beq_eq_true (alln_at tab8 n hn)
  have l := (tab2_at (show n < 255 by omega)).1
  rw [gm_comm, ← e, gm_xtn (by have := (tab2_at (show n < 255 by omega)).2.1; omega) ha, l]
theorem pn8_eq {a b : Nat} (ha : a < 256) (hb : b < 256) : ∀ n, n ≤ 8 → pn8 n (0, a, b) = (gm a (b % 2 ^ n), xtn n a, b / 2 ^ n)
  | 0, _ => by
    show (0, a, b) = _
    rw [Nat.pow_zero, Nat.mod_one, Nat.div_one, gm_zero (.inr rfl)]
    rfl
  | n + 1, h => by
    show ps (pn8 n (0, a, b)) = _
    rw [pn8_eq ha hb n (by omega)]
    have e := Nat.eq_of_beq_eq_true (alln_at (alln_at tab7 n (by omega)) b hb)
    have d : b / 2 ^ n / 2 = b / 2 ^ (n + 1) := by rw [Nat.div_div_eq_div_mul, Nat.pow_succ]
    have l1 : b % 2 ^ n < 256 := Nat.lt_of_le_of_lt (Nat.mod_le _ _) hb
    have l2 : 2 ^ n < 256 := Nat.pow_lt_pow_right (by decide) (show n < 8 by omega)
    show (if b / 2 ^ n % 2 = 0 then gm a (b % 2 ^ n) else gm a (b % 2 ^ n) ^^^ xtn n a, xt (xtn n a), b / 2 ^ n / 2) = _
    rw [d, e]
    by_cases q : b / 2 ^ n % 2 = 0
    · rw [if_pos q, if_pos q]
      rfl
    · rw [if_neg q, if_neg q, gm_xor l1 l2, gm_pow ha (by omega)]
      rfl
theorem pm_eq {a b : Nat} (ha : a < 256) (hb : b < 256) : (pn8 8 (0, a, b)).1 = gm a b := by
  rw [pn8_eq ha hb 8 (Nat.le_refl _)]
  show gm a (b % 256) = gm a b
  rw [Nat.mod_eq_of_lt hb]
def gp (a n : Nat) : Nat := if n = 0 then 1 else if a = 0 then 0 else pw (lg a * n % 255)
theorem gp_none (a : Nat) : gp a 0 = 1 := if_pos rfl
theorem gp_zero {n : Nat} (h : ¬ n = 0) : gp 0 n = 0 := by
  unfold gp
  rw [if_neg h, if_pos rfl]
theorem gp_pos {a n : Nat} (h : ¬ a = 0) (h2 : ¬ n = 0) : gp a n = pw (lg a * n % 255) := by
  unfold gp
  rw [if_neg h2, if_neg h]
theorem gp_lt (a n : Nat) : gp a n < 256 := by
  unfold gp
  split
  · decide
  · split
    · decide
    · exact pw_lt _
theorem gp_succ {a : Nat} (ha : a < 256) (n : Nat) : gp a (n + 1) = gm (gp a n) a := by
  by_cases h : a = 0
  · subst h
    rw [gp_zero (by omega), gm_zero (.inr rfl)]
  · by_cases hn : n = 0
    · subst hn
      rw [gp_pos h (by omega), gp_none, gm_comm, gm_one ha, Nat.zero_add, Nat.mul_one, Nat.mod_eq_of_lt (lg_lt ha), pw_lg ha h]
    · have e := tab2_at (Nat.mod_lt (lg a * n) (by decide : 0 < 255))
      rw [gp_pos h (by omega), gp_pos h hn, gm_pos (by omega) h, e.1, Nat.mul_add, Nat.mul_one]
      congr 1
      omega
def mixed (c k : Int) : Int := ((c * 48271 + k * 69621 + 11) % 2147483647 * 16807 + (k + 3) * 40692 + 5) % 2147483563 / 5
def mixd (c : Int) (m j : Nat) : Nat := (mixed c (j : Int) % (m : Int)).toNat
theorem mixd_eq {m : Nat} (h : 0 < m) (c : Int) (j : Nat) : ((mixd c m j : Nat) : Int) = mixed c (j : Int) % (m : Int) := by
  unfold mixd
  exact Int.toNat_of_nonneg (Int.emod_nonneg _ (by omega))
def divn (m : Nat) : Nat → Int → Int
  | 0, c => c
  | n + 1, c => divn m n c / (m : Int)
def digd (c : Int) (m j : Nat) : Nat := (divn m j c % (m : Int)).toNat
theorem digd_eq {m : Nat} (h : 0 < m) (c : Int) (j : Nat) : ((digd c m j : Nat) : Int) = divn m j c % (m : Int) := by
  unfold digd
  exact Int.toNat_of_nonneg (Int.emod_nonneg _ (by omega))
def digits (c : Int) (n m : Nat) : List Nat := if c < 10 ^ 18 then (List.range n).map fun j => mixd c m j else (List.range n).map fun j => digd c m j
theorem digits_low {c : Int} {n m : Nat} (h : c < 10 ^ 18) : digits c n m = (List.range n).map fun j => mixd c m j := if_pos h
theorem digits_high {c : Int} {n m : Nat} (h : ¬ c < 10 ^ 18) : digits c n m = (List.range n).map fun j => digd c m j := if_neg h
theorem digits_length (c : Int) (n m : Nat) : (digits c n m).length = n := by
  unfold digits
  split <;> simp
theorem digits_lt {c : Int} {n m : Nat} (h : 0 < m) : ∀ d ∈ digits c n m, d < m := by
  intro d hd
  have key : ∀ z : Int, (z % (m : Int)).toNat < m := fun z => by
    have h1 := Int.emod_nonneg z (show (m : Int) ≠ 0 by omega)
    have h2 := Int.emod_lt_of_pos z (show (0 : Int) < (m : Int) by omega)
    omega
  unfold digits at hd
  split at hd
  · obtain ⟨j, _, rfl⟩ := List.mem_map.mp hd
    exact key _
  · obtain ⟨j, _, rfl⟩ := List.mem_map.mp hd
    exact key _
def powL : List Nat := (List.range 255).map pw
def logL : List Nat := (List.range 256).map lg
theorem range_at {f : Nat → Nat} {n k : Nat} (h : k < n) : ((List.range n).map f)[k]? = some (f k) := by
  rw [List.getElem?_map, List.getElem?_range h]
  rfl
end Gf

set_option Elab.async false
set_option linter.all false
set_option maxRecDepth 100000
set_option maxHeartbeats 4000000
namespace Mx
open PySem PySem.Spec PyProof.Rows L2 Evl
/-! ### more of what evaluates to what -/
section
variable {K : PySem.W.Frag} {σ : L2.St} {H H' : Hp} {ta tb te tx : TE} {t u : TT} {x y z v : V} {r : R2}
theorem rv_xor {a b : Nat} : RV (rI0 fun i j => .int (Builtin.bitXor i j)) (.int (a : Int)) (.int (b : Int)) H (.int ((a ^^^ b : Nat) : Int)) := fun H1 _ Q q => ⟨_, _, rfl, rfl, by
  show Q (.int (Builtin.bitXor (a : Int) (b : Int))) H1
  rw [Bits.bitXor_pp (Int.natCast_nonneg a) (Int.natCast_nonneg b), Int.toNat_natCast, Int.toNat_natCast]
  exact q H1 (Ex.refl H1)⟩
theorem rv_addN {a b : Nat} : RV (rI0 fun i j => .int (i + j)) (.int (a : Int)) (.int (b : Int)) H (.int ((a + b : Nat) : Int)) := fun H1 _ Q q => ⟨_, _, rfl, rfl, by
  show Q (.int ((a : Int) + (b : Int))) H1
  rw [← Int.natCast_add]
  exact q H1 (Ex.refl H1)⟩
theorem rv_mod {i j : Int} (h : 0 < j) : RV (rI (fun _ j => 0 < j) fun i j => .int (i % j)) (.int i) (.int j) H (.int (i % j)) := rv_I h
theorem rv_fdiv {i j : Int} (h : 0 < j ∧ j < 1073741824) : RV (rI CDiv fun i j => .int (i / j)) (.int i) (.int j) H (.int (i / j)) := rv_I h
theorem ev_int {i : Int} (h : Ev ta σ H (.int i)) : Ev (tCB (fun xs H Q => (∃ i, xs = [.int i] ∧ Q (.int i) H) ∨ ∃ k, xs = [.bl k] ∧ Q (.int (if k then 1 else 0)) H) (tCons ta tNil)) σ H (.int i) := fun H1 e Q q =>
  h H1 e _ fun H2 e2 => Or.inl ⟨i, rfl, q H2 e2⟩
theorem ev_intB {k : Bool} (h : Ev ta σ H (.bl k)) : Ev (tCB (fun xs H Q => (∃ i, xs = [.int i] ∧ Q (.int i) H) ∨ ∃ k, xs = [.bl k] ∧ Q (.int (if k then 1 else 0)) H) (tCons ta tNil)) σ H (.int (if k then 1 else 0)) := fun H1 e Q q =>
  h H1 e _ fun H2 e2 => Or.inr ⟨k, rfl, q H2 e2⟩
theorem ev_lenL {p : Addr} {xs : List V} (ha : Ev ta σ H (.ref p)) (h : SqL K H p xs) : Ev (tCB (fun xs H Q => ∃ p ys, xs = [.ref p] ∧ (SqL K H p ys ∨ SqT K H p ys) ∧ Q (.int ys.length) H) (tCons ta tNil)) σ H (.int (xs.length : Int)) := ev_len ha h
theorem ev_lenT {p : Addr} {xs : List V} (ha : Ev ta σ H (.ref p)) (h : SqT K H p xs) : Ev (tCB (fun xs H Q => ∃ p ys, xs = [.ref p] ∧ (SqL K H p ys ∨ SqT K H p ys) ∧ Q (.int ys.length) H) (tCons ta tNil)) σ H (.int (xs.length : Int)) := fun H1 e Q q =>
  ha H1 e _ fun H2 e2 => ⟨p, xs, rfl, Or.inr (ex_t (e.trans e2) h), q H2 e2⟩
theorem ev_isi {x c : V} {t u : Value} {b : Bool} (ha : Ev ta σ H x) (hb : Ev tb σ H c) (hc : ClsV c u) (ht : ∀ H1, Ex H H1 → TyX K H1 x t) (h : PySem.W.kitOne K t u = some b) :
    Ev (tCB (rIsi K) (tCons ta (tCons tb tNil))) σ H (.bl b) := fun H1 e Q q =>
  ha H1 e _ fun H2 e2 => hb H2 (e.trans e2) _ fun H3 e3 => ⟨x, c, t, u, b, rfl, hc, ht H3 ((e.trans e2).trans e3), h, q H3 (e2.trans e3)⟩
theorem ev_isiI {n : String} {i : Int} {b : Bool} (ha : Ev ta σ H (.int i)) (hb : Ev tb σ H (.ty n)) (h : kitB "int" n = some b) : Ev (tCB (rIsi K) (tCons ta (tCons tb tNil))) σ H (.bl b) :=
  ev_isi ha hb (ClsV.ty n) (fun _ _ => .base (.int i)) (kit_ty h)
theorem et_truI {i : Int} (h : Ev te σ H (.int i)) : EvT (fun σ H Q => te σ H fun x H1 => ∃ k, TruV K x H1 k ∧ Q k H1) σ H (i != 0) := fun H1 e Q q =>
  h H1 e _ fun H2 e2 => ⟨_, rfl, q H2 e2⟩
theorem given_yes {p : Prop} {X : Cx} {st : List Stmt} {t : TS} (h : p → PSs X st t) : PSs X st (fun D σ H => p ∧ t D σ H) := ⟨fun pins s σ H D I h' => (h h'.1).run pins s σ H D I h'.2⟩
end
/-- a number from nought as a value -/
abbrev nV (n : Nat) : V := .int (n : Int)
/-- a list from outside, changed by nobody meanwhile -/
theorem pow_at {k : Nat} (h : k < 255) : (Gf.powL.map nV)[k]? = some (.int ((Gf.pw k : Nat) : Int)) := by
  unfold Gf.powL
  rw [List.getElem?_map, Gf.range_at h]
  rfl
theorem log_at {k : Nat} (h : k < 256) : (Gf.logL.map nV)[k]? = some (.int ((Gf.lg k : Nat) : Int)) := by
  unfold Gf.logL
  rw [List.getElem?_map, Gf.range_at h]
  rfl
section
variable {K : PySem.W.Frag} {σ : L2.St} {H H' : Hp} {ta tb te tx : TE} {t u : TT} {x y z v : V} {r : R2}
theorem rv_ixTN {p : Addr} {xs : List V} {k : Nat} (h : SqT K H p xs) (ha : xs[k]? = some v) : RV (rIxT K) (.ref p) (.int (k : Int)) H v := rv_ixT h (atI_nat ha)
theorem rv_ixLN {p : Addr} {xs : List V} {k : Nat} (h : SqL K H p xs) (ha : xs[k]? = some v) : RV (rIxL K) (.ref p) (.int (k : Int)) H v := rv_ixL h (atI_nat ha)
theorem rv_modN {a b : Nat} (h : 0 < b) : RV (rI (fun _ j => 0 < j) fun i j => .int (i % j)) (.int (a : Int)) (.int (b : Int)) H (.int ((a % b : Nat) : Int)) := by
  have e : (.int ((a % b : Nat) : Int) : V) = .int ((a : Int) % (b : Int)) := by rw [Int.natCast_emod]
  rw [e]
  exact rv_I (by omega)
theorem rv_subN {a b : Nat} (h : b ≤ a) : RV (rI0 fun i j => .int (i - j)) (.int (a : Int)) (.int (b : Int)) H (.int ((a - b : Nat) : Int)) := by
  have e : (.int ((a - b : Nat) : Int) : V) = .int ((a : Int) - (b : Int)) := by rw [Int.natCast_sub h]
  rw [e]
  exact rv_I0
theorem rv_mulN {a b : Nat} (h : a < 18446744073709551616) : RV (rI CMul fun i j => .int (i * j)) (.int (a : Int)) (.int (b : Int)) H (.int ((a * b : Nat) : Int)) := by
  have e : (.int ((a * b : Nat) : Int) : V) = .int ((a : Int) * (b : Int)) := by rw [Int.natCast_mul]
  rw [e]
  exact rv_I (Or.inl ⟨by omega, by omega⟩)
theorem rv_mulL {i j : Int} (h : -(2 ^ 64) < j ∧ j < 2 ^ 64) : RV (rI CMul fun i j => .int (i * j)) (.int i) (.int j) H (.int (i * j)) := rv_I (Or.inr h)
theorem rv_and1 {b : Nat} : RV (rI0 fun i j => .int (Builtin.bitAnd i j)) (.int (b : Int)) (.int 1) H (.int ((b % 2 : Nat) : Int)) := by
  have e : (.int ((b % 2 : Nat) : Int) : V) = .int (Builtin.bitAnd (b : Int) 1) := by rw [bitAnd_m1, Int.natCast_emod] <;> rfl
  rw [e]
  exact rv_I0
theorem rv_shr1 {b : Nat} : RV (rI (fun _ j => 0 ≤ j) fun i j => .int (i / 2 ^ j.toNat)) (.int (b : Int)) (.int 1) H (.int ((b / 2 : Nat) : Int)) := by
  have e : (.int ((b / 2 : Nat) : Int) : V) = .int ((b : Int) / 2 ^ (1 : Int).toNat) := by rw [Int.natCast_ediv] <;> rfl
  rw [e]
  exact rv_I (C := fun _ j => 0 ≤ j) (by decide)
theorem rv_shl1 {a : Nat} (h : a < 18446744073709551616) : RV (rI CPow fun i j => .int (i * 2 ^ j.toNat)) (.int (a : Int)) (.int 1) H (.int ((a * 2 : Nat) : Int)) := by
  have e : (.int ((a * 2 : Nat) : Int) : V) = .int ((a : Int) * 2 ^ (1 : Int).toNat) := by rw [Int.natCast_mul] <;> rfl
  rw [e]
  exact rv_I (C := CPow) ⟨by decide, by decide, by omega⟩
end
section
variable {K : PySem.W.Frag} {σ : L2.St} {H H' : Hp} {ta tb te tx : TE} {t u : TT} {x y z v : V} {r : R2} {D : Ends} {tu tw tz : TS} {g : TG}
theorem ev_isE {Z a : Addr} {c : V} {cv : Value} {b : Bool} (ha : Ev ta σ H (.ref a)) (hb : Ev tb σ H c) (hc : ∀ w, RelV c w → w = cv) (h : PySem.W.kitOne K (.ref Z) cv = some b) :
    Ev (tCB (rIsE K Z a) (tCons ta (tCons tb tNil))) σ H (.bl b) := fun H1 e Q q =>
  ha H1 e _ fun H2 e2 => hb H2 (e.trans e2) _ fun H3 e3 => ⟨c, cv, b, rfl, hc, h, q H3 (e2.trans e3)⟩
theorem ev_isEr {Z a C : Addr} {b : Bool} (ha : Ev ta σ H (.ref a)) (hb : Ev tb σ H (.ref C)) (h : PySem.W.kitOne K (.ref Z) (.ref C) = some b) :
    Ev (tCB (rIsE K Z a) (tCons ta (tCons tb tNil))) σ H (.bl b) := ev_isE ha hb (fun _ e => e) h
theorem ev_isEt {Z a : Addr} {n : String} {b : Bool} (ha : Ev ta σ H (.ref a)) (hb : Ev tb σ H (.ty n)) (h : PySem.W.kitOne K (.ref Z) (.type n) = some b) :
    Ev (tCB (rIsE K Z a) (tCons ta (tCons tb tNil))) σ H (.bl b) := ev_isE ha hb (fun _ e => e) h
theorem s_unlL {n : Nat} {tg : TGs} {xs : List V} (h : EvL te σ H xs) (hl : xs.length = n) (k : ∀ p H1, H p = none → Ex H H1 → H1 p = some (.lst xs) → tg xs σ H1 D.nx) : tAsg te (gUnl K n tg) D σ H :=
  h H (Ex.refl H) _ fun p H1 np e hp => ⟨p, xs, rfl, sq_of hp, hl, k p H1 np e hp⟩
theorem q_unlL {n : Nat} {tg : TGs} {xs : List V} (h : EvL te σ H xs) (hl : xs.length = n) (k : ∀ p H1, H p = none → Ex H H1 → H1 p = some (.lst xs) → tg xs σ H1 (tz D)) : tSeq (tAsg te (gUnl K n tg)) tz D σ H := s_unlL (D := { D with nx := tz D }) h hl k
end
/-! ### lists of tuples that are written, and a loop over them -/
section
variable {K : PySem.W.Frag} {σ : L2.St} {H H' : Hp} {ta tb te tx : TE} {t u : TT} {x y z v : V} {r : R2} {D : Ends} {tu tw tz : TS} {g : TG}
def TupsAt (H : Hp) (rs : List Addr) (vss : List (List V)) : Prop := Paired (fun r vs => H r = some (.tup vs)) rs vss
theorem TupsAt.mono {H H' : Hp} (e : Ex H H') : ∀ {rs : List Addr} {vss : List (List V)}, TupsAt H rs vss → TupsAt H' rs vss
  | _, _, .nil => .nil
  | _, _, .cons h t => .cons (e _ _ h) (TupsAt.mono e t)
theorem TupsAt.get {H : Hp} : ∀ {rs : List Addr} {vss : List (List V)} {i : Nat} {x : V}, TupsAt H rs vss → (rs.map V.ref)[i]? = some x → ∃ r vs, x = .ref r ∧ vss[i]? = some vs ∧ H r = some (.tup vs)
  | _, _, _, _, .nil, e => by simp at e
  | _, _, 0, x, .cons h t, e => by
    simp at e
    exact ⟨_, _, e.symm, rfl, h⟩
  | _, _, i + 1, x, .cons h t, e => by
    have e2 := TupsAt.get (i := i) (x := x) t (by simpa using e)
    obtain ⟨r, vs, h1, h2, h3⟩ := e2
    exact ⟨r, vs, h1, by simpa using h2, h3⟩
theorem TupsAt.len {H : Hp} {rs : List Addr} {vss : List (List V)} (h : TupsAt H rs vss) : rs.length = vss.length := Paired.length h
def EvAT (ta : TA) (σ : L2.St) (H : Hp) (vss : List (List V)) : Prop := ∀ H1, Ex H H1 → ∀ Q : List V → Hp → Prop, (∀ rs H2, Ex H1 H2 → TupsAt H2 rs vss → Q (rs.map V.ref) H2) → ta σ H1 Q
theorem eat_nil : EvAT tNil σ H [] := fun H1 _ _ q => q [] H1 (Ex.refl H1) .nil
theorem eat_cons {tr : TA} {vs : List V} {vss : List (List V)} (h : EvU te σ H vs) (hr : EvAT tr σ H vss) : EvAT (tCons te tr) σ H (vs :: vss) := fun H1 e _ q =>
  h H1 e _ fun p H2 _ e2 hp => hr H2 (e.trans e2) _ fun rs H3 e3 ht => q (p :: rs) H3 (e2.trans e3) (.cons (e3 _ _ hp) ht)
/-- for a, b in [(..), (..)] where the turns leave what stood as it was -/
theorem s_forLT {ta : TA} {n : Nat} {tg : TGs} {vss : List (List V)} (h : EvAT ta σ H vss) (hz : vss.length ≤ 1000) (hn : ∀ vs ∈ vss, vs.length = n) (Pv : Nat → L2.St → Prop) (h0 : Pv 0 σ)
    (hs : ∀ i vs σ' H' (N : L2.St → Hp → Prop), vss[i]? = some vs → Pv i σ' → Ex H H' → (∀ σ3 H3, Pv (i + 1) σ3 → Ex H' H3 → N σ3 H3) → tg vs σ' H' fun σ2 H2 => tu { D with nx := N, ct := N, bk := D.nx } σ2 H2)
    (hd : ∀ σ' H', Pv vss.length σ' → Ex H H' → D.nx σ' H') : tFor (iList K (tLst ta)) (gTup K n tg) tu D σ H :=
  h H (Ex.refl H) _ fun rs H1 e1 ht => ⟨sz_of (by rw [List.length_map, ht.len]; omega), fun p np =>
    have e2 : Ex H1 (upd H1 p (.lst (rs.map V.ref))) := Ex.new np
    ⟨p, rfl, ⟨_, sq_of upd_same⟩, for_list (K := K) (a := p) (xs := rs.map V.ref) (fun i σ' H' => Pv i σ' ∧ Ex (upd H1 p (.lst (rs.map V.ref))) H') ⟨h0, Ex.refl _⟩ (fun i σ' H' _ q => sq_of (q.2 _ _ upd_same))
      (fun i x σ' H' hi q => by
        obtain ⟨a, vs, rfl, hv, ha⟩ := (ht.mono (e2.trans q.2)).get hi
        refine ⟨a, vs, rfl, st_of ha, hn vs (List.mem_of_getElem? hv), ?_⟩
        exact hs i vs σ' H' _ hv q.1 ((e1.trans e2).trans q.2) fun σ3 H3 p3 e3 => ⟨p3, q.2.trans e3⟩)
      (fun σ' H' q => hd σ' H' (by rw [List.length_map, ht.len] at q; exact q.1) ((e1.trans e2).trans q.2))⟩⟩
theorem q_forLT {ta : TA} {n : Nat} {tg : TGs} {vss : List (List V)} (h : EvAT ta σ H vss) (hz : vss.length ≤ 1000) (hn : ∀ vs ∈ vss, vs.length = n) (Pv : Nat → L2.St → Prop) (h0 : Pv 0 σ)
    (hs : ∀ i vs σ' H' (N : L2.St → Hp → Prop), vss[i]? = some vs → Pv i σ' → Ex H H' → (∀ σ3 H3, Pv (i + 1) σ3 → Ex H' H3 → N σ3 H3) → tg vs σ' H' fun σ2 H2 => tu { D with nx := N, ct := N, bk := tz D } σ2 H2)
    (hd : ∀ σ' H', Pv vss.length σ' → Ex H H' → tz D σ' H') : tSeq (tFor (iList K (tLst ta)) (gTup K n tg) tu) tz D σ H := s_forLT (D := { D with nx := tz D }) h hz hn Pv h0 hs hd
theorem rv_fdivN {a b : Nat} (h : 0 < b ∧ b < 1073741824) : RV (rI CDiv fun i j => .int (i / j)) (.int (a : Int)) (.int (b : Int)) H (.int ((a / b : Nat) : Int)) := by
  have e : (.int ((a / b : Nat) : Int) : V) = .int ((a : Int) / (b : Int)) := by rw [Int.natCast_ediv]
  rw [e]
  exact rv_I (C := CDiv) ⟨by omega, by omega⟩
theorem dec_ne {a b : Int} (h : a = b) : (!decide (V.int a = V.int b)) = false := by rw [h]; simp
end
/-! ### facts of the top -/
def cst (mg : Str → Option Value) (x : Str) : Value := (mg x).getD .none
theorem cst_int {mg : Str → Option Value} {x : Str} {i : Int} (h : ∃ t, mg x = some (.int i t)) : mg x = some (cst mg x) ∧ RelV (.int i) (cst mg x) := by
  obtain ⟨t, e⟩ := h
  have e2 : cst mg x = .int i t := by
    unfold cst
    rw [e] <;> rfl
  rw [e2]
  exact ⟨e, t, rfl⟩
theorem tup_ok {K : PySem.W.Frag} {x : Str} {l : List Nat} (h : He.tupB K x (l.map fun (n : Nat) => He.Dv.int (n : Int)) = true) (H : Hp) : SqT K H (He.ga K x) (l.map nV) := by
  have z := He.tupB_ok h H
  rw [List.map_map] at z
  exact z
def exc_b (K : PySem.W.Frag) (D : Addr) : Bool := He.eqO (PySem.W.findIn K (.ref D) "__getattribute__") (some (some (.builtin "BaseException.__getattribute__"))) && (He.eqO (PySem.W.findIn K (.ref D) "__getattr__") (some none) &&
  (decide (PySem.W.subIn K (.ref D) (.type "BaseException") = some true) && (PySem.W.hasDictIn K D && (He.eqO (PySem.W.findIn K (.ref D) "__class__") (some (some (.builtin "object.__class__"))) &&
  (He.eqO (PySem.W.specialIn K (.builtin "object.__class__") "__get__") (some (some (.builtin "getset_descriptor.__get__"))) && (decide (PySem.W.takesIn K (.builtin "object.__class__") = some true) && decide (PySem.W.mroIn K D (.type "object") = some true)))))))
theorem exc_bk {K : PySem.W.Frag} {D : Addr} (h : exc_b K D = true) : ExcC K D := by
  obtain ⟨h1, h⟩ := He.ba h
  obtain ⟨h2, h⟩ := He.ba h
  obtain ⟨h3, h⟩ := He.ba h
  obtain ⟨h4, h⟩ := He.ba h
  obtain ⟨h5, h⟩ := He.ba h
  obtain ⟨h6, h⟩ := He.ba h
  obtain ⟨h7, h8⟩ := He.ba h
  exact ⟨He.eqO_ok h1, He.eqO_ok h2, of_decide_eq_true h3, h4, He.eqO_ok h5, He.eqO_ok h6, of_decide_eq_true h7, of_decide_eq_true h8⟩
theorem all_at {l : List Bool} (h : l.all id = true) (i : Nat) {b : Bool} (e : l[i]? = some b) : b = true := List.all_eq_true.mp h b (List.mem_of_getElem? e)
/-- the def of that name stands there -/
abbrev FnA (K : PySem.W.Frag) (x : Str) (st : Stmt) (fd : FuncData) : Prop := FunD K x x (defArgs st) (defBody st) (defScope st) [] [] (He.ga K x) fd
def FnAt (K : PySem.W.Frag) (x : Str) (st : Stmt) : Prop := ∃ fd, FnA K x st fd
theorem fnat_eq {K : PySem.W.Frag} {x : Str} {st : Stmt} {fd fd2 : FuncData} (F : FnA K x st fd) (F2 : FnA K x st fd2) : fd = fd2 := by
  obtain ⟨oc, od, dV, kV, doc, pm, an, cdv, ct, osl, _, lk, _⟩ := F.ex
  obtain ⟨oc2, od2, dV2, kV2, doc2, pm2, an2, cdv2, ct2, osl2, _, lk2, _⟩ := F2.ex
  rw [lk] at lk2
  have e := Option.some.inj lk2
  injection e with e1 e2 e3 e4
  injection e3
/-- a def at a global's name keeps its promise and takes its arguments by place -/
def Okf (P : Program) (w : World) (K : PySem.W.Frag) (mg : Str → Option Value) (base : Heap) (CX : CXT) (k : Nat) (x : Str) (st : Stmt) (ps : List Str) (sp : Sp) : Prop :=
  ∃ fd, FnOk P w K mg base CX k (He.ga K x) fd ps sp ∧ Binds K fd ps [] ∧ FnA K x st fd
end Mx

set_option Elab.async false
set_option linter.all false
namespace Py
open Gf
/-- the item at a place, 0 beyond -/
abbrev at0 (p : List Nat) (k : Nat) : Nat := p.getD k 0
def Oc (p : List Nat) : Prop := ∀ k, at0 p k < 256
theorem at0_get {p : List Nat} {k : Nat} (h : k < p.length) : p[k]? = some (at0 p k) := by
  unfold at0
  rw [List.getD_eq_getElem?_getD, List.getElem?_eq_getElem h] <;> rfl
theorem at0_none {p : List Nat} {k : Nat} (h : p.length ≤ k) : at0 p k = 0 := by
  unfold at0
  rw [List.getD_eq_getElem?_getD, List.getElem?_eq_none h] <;> rfl
theorem at0_of {p : List Nat} {k v : Nat} (h : p[k]? = some v) : at0 p k = v := by
  unfold at0
  rw [List.getD_eq_getElem?_getD, h] <;> rfl
theorem oc_of {p : List Nat} (h : ∀ c ∈ p, c < 256) : Oc p := fun k => by
  by_cases q : k < p.length
  · exact h _ (List.mem_of_getElem? (at0_get q))
  · rw [at0_none (by omega)]
    decide
theorem Oc.mem {p : List Nat} (h : Oc p) : ∀ c ∈ p, c < 256 := fun c hc => by
  obtain ⟨k, hk, e⟩ := List.mem_iff_getElem.mp hc
  have := h k
  rw [at0_of (List.getElem?_eq_getElem hk), e] at this
  exact this
theorem oc_nil : Oc [] := fun k => by
  rw [at0_none (Nat.zero_le _)]
  decide
theorem Oc.append {p q : List Nat} (h : Oc p) (h2 : Oc q) : Oc (p ++ q) := oc_of fun c hc => by
  rcases List.mem_append.mp hc with z | z
  · exact h.mem c z
  · exact h2.mem c z
theorem Oc.take {p : List Nat} (h : Oc p) (n : Nat) : Oc (p.take n) := oc_of fun c hc => h.mem c (List.mem_of_mem_take hc)
theorem oc_zeros (n : Nat) : Oc (List.replicate n 0) := oc_of fun c hc => by
  rw [List.eq_of_mem_replicate hc]
  decide
theorem oc_map {f : Nat → Nat} (h : ∀ k, f k < 256) (n : Nat) : Oc ((List.range n).map f) := oc_of fun c hc => by
  obtain ⟨j, _, e⟩ := List.mem_map.mp hc
  rw [← e]
  exact h j
theorem at0_map {f : Nat → Nat} {n k : Nat} : at0 ((List.range n).map f) k = if k < n then f k else 0 := by
  by_cases h : k < n
  · rw [if_pos h, at0_of (Gf.range_at h)]
  · rw [if_neg h, at0_none (by simpa using h)]
/-- two lists of one length that agree at every place -/
theorem ext0 {p q : List Nat} (hl : p.length = q.length) (h : ∀ k, k < p.length → at0 p k = at0 q k) : p = q := by
  refine List.ext_getElem? fun k => ?_
  by_cases hk : k < p.length
  · rw [at0_get hk, at0_get (hl ▸ hk), h k hk]
  · rw [List.getElem?_eq_none (by omega), List.getElem?_eq_none (by omega)]
theorem self_map (p : List Nat) : p = (List.range p.length).map (at0 p) := ext0 (by simp) fun k hk => by rw [at0_map, if_pos hk]
/-! ### the length without the zeros at the end -/
def tlen : List Nat → Nat
  | [] => 0
  | c :: p => if tlen p = 0 then (if c = 0 then 0 else 1) else tlen p + 1
def trim (p : List Nat) : List Nat := p.take (tlen p)
theorem tlen_le : ∀ p, tlen p ≤ p.length
  | [] => Nat.le_refl _
  | c :: p => by
    have := tlen_le p
    unfold tlen
    split
    · split
      · exact Nat.zero_le _
      · simp
    · simp
      omega
theorem tlen_zero : ∀ (p : List Nat) (k : Nat), tlen p ≤ k → at0 p k = 0
  | [], k, _ => at0_none (Nat.zero_le _)
  | c :: p, k, h => by
    unfold tlen at h
    by_cases q : tlen p = 0
    · rw [if_pos q] at h
      cases k with
      | zero =>
        by_cases z : c = 0
        · exact z
        · rw [if_neg z] at h
          omega
      | succ k => exact tlen_zero p k (by omega)
    · rw [if_neg q] at h
      cases k with
      | zero => omega
      | succ k => exact tlen_zero p k (by omega)
theorem tlen_last : ∀ p : List Nat, tlen p = 0 ∨ ¬ at0 p (tlen p - 1) = 0
  | [] => .inl rfl
  | c :: p => by
    by_cases q : tlen p = 0
    · by_cases z : c = 0
      · exact .inl (by unfold tlen; rw [if_pos q, if_pos z])
      · refine .inr ?_
        have e : tlen (c :: p) = 1 := by
          unfold tlen
          rw [if_pos q, if_neg z]
        rw [e]
        exact z
    · refine .inr ?_
      have e : tlen (c :: p) = tlen p + 1 := by
        show (if tlen p = 0 then _ else _) = _
        rw [if_neg q]
      rw [e]
      have h := (tlen_last p).resolve_left q
      have e2 : tlen p + 1 - 1 = (tlen p - 1) + 1 := by omega
      rw [e2]
      exact h
theorem tlen_eq {p : List Nat} {m : Nat} (h : ∀ k, m ≤ k → at0 p k = 0) (h2 : m = 0 ∨ ¬ at0 p (m - 1) = 0) : tlen p = m := by
  have a : tlen p ≤ m := by
    rcases tlen_last p with q | q
    · omega
    · by_cases z : tlen p ≤ m
      · exact z
      · exact absurd (h _ (by omega)) q
  have b : m ≤ tlen p := by
    rcases h2 with q | q
    · omega
    · by_cases z : m ≤ tlen p
      · exact z
      · exact absurd (tlen_zero p _ (by omega)) q
  omega
theorem trim_length (p : List Nat) : (trim p).length = tlen p := by
  unfold trim
  rw [List.length_take]
  have := tlen_le p
  omega
/-! ### the value at a place -/
def horner (x : Nat) : List Nat → Nat
  | [] => 0
  | c :: p => gm (horner x p) x ^^^ c
theorem horner_lt {x : Nat} : ∀ {p : List Nat}, Oc p → horner x p < 256
  | [], _ => show (0 : Nat) < 256 by decide
  | c :: p, h => xor_lt (gm_lt _ _) (h 0)
theorem Oc.tail {c : Nat} {p : List Nat} (h : Oc (c :: p)) : Oc p := fun k => h (k + 1)
theorem Oc.drop {p : List Nat} (h : Oc p) (n : Nat) : Oc (p.drop n) := oc_of fun c hc => h.mem c (List.mem_of_mem_drop hc)
def vstep (x : Nat) (s : Nat × Nat) (c : Nat) : Nat × Nat := (s.1 ^^^ gm c s.2, gm s.2 x)
theorem vfold {x : Nat} (hx : x < 256) : ∀ (p : List Nat) (s : Nat × Nat), Oc p → s.2 < 256 → (p.foldl (vstep x) s).1 = s.1 ^^^ gm s.2 (horner x p)
  | [], s, _, _ => by
    show s.1 = s.1 ^^^ gm s.2 0
    rw [gm_zero (.inr rfl), Nat.xor_zero]
  | c :: p, s, h, hs => by
    show (p.foldl (vstep x) (vstep x s c)).1 = _
    rw [vfold hx p _ h.tail (gm_lt _ _)]
    show (s.1 ^^^ gm c s.2) ^^^ gm (gm s.2 x) (horner x p) = s.1 ^^^ gm s.2 (gm (horner x p) x ^^^ c)
    rw [gm_xor (b := gm (horner x p) x) (c := c) (gm_lt _ _) (h 0), gm_assoc, gm_comm x, gm_comm c, Nat.xor_assoc, Nat.xor_comm (gm s.2 c)]
theorem vfold_eq {x : Nat} (hx : x < 256) {p : List Nat} (h : Oc p) : (p.foldl (vstep x) (0, 1)).1 = horner x p := by
  rw [vfold hx p _ h (by decide)]
  show 0 ^^^ gm 1 (horner x p) = _
  rw [Nat.zero_xor, gm_comm, gm_one (horner_lt h)]
theorem vfold_lt {x : Nat} : ∀ (p : List Nat) (s : Nat × Nat), s.1 < 256 → s.2 < 256 → (p.foldl (vstep x) s).1 < 256 ∧ (p.foldl (vstep x) s).2 < 256
  | [], s, h1, h2 => ⟨h1, h2⟩
  | c :: p, s, h1, h2 => vfold_lt p _ (xor_lt h1 (gm_lt _ _)) (gm_lt _ _)
/-! ### sums and products -/
def mx (a b : Nat) : Nat := if b > a then b else a
def sumL (p q : List Nat) : List Nat := (List.range (mx p.length q.length)).map fun k => at0 p k ^^^ at0 q k
def acc (p q : List Nat) : Nat → Nat → Nat
  | 0, _ => 0
  | j + 1, k => acc p q j k ^^^ (if j ≤ k then gm (at0 p j) (at0 q (k - j)) else 0)
theorem acc_lt (p q : List Nat) : ∀ j k, acc p q j k < 256
  | 0, _ => show (0 : Nat) < 256 by decide
  | j + 1, k => by
    unfold acc
    refine xor_lt (acc_lt p q j k) ?_
    split
    · exact gm_lt _ _
    · decide
def prodL (p q : List Nat) : List Nat := (List.range (p.length + q.length)).map (acc p q p.length)
theorem set_map {f : Nat → Nat} {n k v : Nat} : ((List.range n).map f).set k v = (List.range n).map fun t => if t = k then v else f t := by
  refine List.ext_getElem? fun t => ?_
  rw [List.getElem?_set, List.length_map, List.length_range, List.getElem?_map, List.getElem?_map]
  by_cases h : t < n
  · rw [List.getElem?_range h]
    by_cases q : k = t
    · subst q
      rw [if_pos rfl, if_pos h]
      simp
    · rw [if_neg q]
      simp [show ¬ t = k from fun z => q z.symm]
  · rw [List.getElem?_eq_none (l := List.range n) (by simpa using h)]
    by_cases q : k = t
    · subst q
      rw [if_pos rfl, if_neg h]
      rfl
    · rw [if_neg q]
      rfl
theorem slice_map {f : Nat → Nat} {n a w : Nat} {ys : List Nat} (hy : ys.length = w) (h : a + w ≤ n) :
    ((List.range n).map f).take a ++ ys ++ ((List.range n).map f).drop (a + w) = (List.range n).map fun t => if a ≤ t ∧ t < a + w then at0 ys (t - a) else f t := by
  refine ext0 (by simp; omega) fun t ht => ?_
  have hn : t < n := by
    simp at ht
    omega
  rw [at0_map, if_pos hn]
  by_cases h1 : t < a
  · rw [if_neg (by omega)]
    refine at0_of ?_
    rw [List.append_assoc, List.getElem?_append_left (by simp; omega), List.getElem?_take_of_lt h1]
    exact Gf.range_at hn
  · by_cases h2 : t < a + w
    · rw [if_pos (by omega)]
      refine at0_of ?_
      rw [List.getElem?_append_left (by simp; omega), List.getElem?_append_right (by simp; omega)]
      have e : t - ((List.range n).map f |>.take a).length = t - a := by simp; omega
      rw [e]
      exact at0_get (by omega)
    · rw [if_neg (by omega)]
      refine at0_of ?_
      rw [List.getElem?_append_right (by simp; omega), List.getElem?_drop]
      have e : a + w + (t - (((List.range n).map f |>.take a) ++ ys).length) = t := by simp; omega
      rw [e]
      exact Gf.range_at hn
/-! ### the product's sum, turned round -/
def xs (f : Nat → Nat) : Nat → Nat
  | 0 => 0
  | n + 1 => xs f n ^^^ f n
theorem acc_xs (p q : List Nat) (k : Nat) : ∀ n, acc p q n k = xs (fun j => if j ≤ k then gm (at0 p j) (at0 q (k - j)) else 0) n
  | 0 => rfl
  | n + 1 => by
    show acc p q n k ^^^ _ = xs _ n ^^^ _
    rw [acc_xs p q k n]
theorem xs_more {f : Nat → Nat} {n : Nat} (h : ∀ j, n ≤ j → f j = 0) : ∀ d, xs f (n + d) = xs f n
  | 0 => rfl
  | d + 1 => by
    show xs f (n + d) ^^^ f (n + d) = _
    rw [xs_more h d, h _ (by omega), Nat.xor_zero]
theorem xs_congr {f g : Nat → Nat} : ∀ {n : Nat}, (∀ j, j < n → f j = g j) → xs f n = xs g n
  | 0, _ => rfl
  | n + 1, h => by
    show xs f n ^^^ f n = xs g n ^^^ g n
    rw [xs_congr fun j hj => h j (by omega), h n (by omega)]
theorem xs_front (f : Nat → Nat) : ∀ n, xs f (n + 1) = f 0 ^^^ xs (fun j => f (j + 1)) n
  | 0 => by
    show 0 ^^^ f 0 = f 0 ^^^ 0
    rw [Nat.zero_xor, Nat.xor_zero]
  | n + 1 => by
    show xs f (n + 1) ^^^ f (n + 1) = f 0 ^^^ (xs (fun j => f (j + 1)) n ^^^ f (n + 1))
    rw [xs_front f n, Nat.xor_assoc]
theorem xs_rev : ∀ (n : Nat) (f : Nat → Nat), xs (fun j => f (n - j)) (n + 1) = xs f (n + 1)
  | 0, _ => rfl
  | n + 1, f => by
    show xs (fun j => f (n + 1 - j)) (n + 1) ^^^ f (n + 1 - (n + 1)) = _
    rw [Nat.sub_self, xs_front f (n + 1), ← xs_rev n fun j => f (j + 1), Nat.xor_comm]
    congr 1
    exact xs_congr fun j hj => by
      have e : n + 1 - j = n - j + 1 := by omega
      rw [e]
theorem acc_full (p q : List Nat) (k : Nat) : acc p q p.length k = xs (fun j => gm (at0 p j) (at0 q (k - j))) (k + 1) := by
  rw [acc_xs]
  have e : xs (fun j => gm (at0 p j) (at0 q (k - j))) (k + 1) = xs (fun j => if j ≤ k then gm (at0 p j) (at0 q (k - j)) else 0) (k + 1) := xs_congr fun j hj => by rw [if_pos (by omega)]
  rw [e]
  by_cases h : p.length ≤ k + 1
  · have z : k + 1 = p.length + (k + 1 - p.length) := by omega
    rw [z]
    refine (xs_more (fun j hj => ?_) _).symm
    rw [at0_none hj, gm_zero (.inl rfl)]
    split <;> rfl
  · have z : p.length = k + 1 + (p.length - (k + 1)) := by omega
    rw [z]
    refine xs_more (fun j hj => ?_) _
    rw [if_neg (by omega)]
theorem acc_comm (p q : List Nat) (k : Nat) : acc p q p.length k = acc q p q.length k := by
  rw [acc_full, acc_full, ← xs_rev]
  exact xs_congr fun j hj => by
    have e : k - (k - j) = j := by omega
    rw [e, gm_comm]
theorem prod_comm (p q : List Nat) : prodL p q = prodL q p := by
  unfold prodL
  rw [Nat.add_comm p.length]
  exact List.map_congr_left fun k _ => acc_comm p q k
theorem oc_trim {p : List Nat} (h : Oc p) : Oc (trim p) := h.take _
theorem oc_sum {p q : List Nat} (h : Oc p) (h2 : Oc q) : Oc (sumL p q) := oc_map (fun k => xor_lt (h k) (h2 k)) _
theorem oc_prod (p q : List Nat) : Oc (prodL p q) := oc_map (fun k => acc_lt p q _ k) _
end Py

set_option Elab.async false
set_option linter.all false
set_option maxRecDepth 100000
set_option maxHeartbeats 4000000
namespace Mx
open PySem PySem.Spec PyProof.Rows L2 Evl
section
variable {X : Cx}
theorem op_mul_bb : OpR X (binaryOp .Mult) (fun x y H Q => ∃ a b : Bool, x = .bl a ∧ y = .bl b ∧ Q (.int (b2i a * b2i b)) H) := by
  intro pins s σ H x y v u Q I rx ry h
  obtain ⟨a, b, rfl, rfl, q⟩ := h
  cases rx
  cases ry
  exact mul_bool ⟨.int (b2i a * b2i b), H, I.tok _, ⟨_, rfl⟩, q⟩
theorem op_mul_bi : OpR X (binaryOp .Mult) (fun x y H Q => ∃ (a : Bool) (b : Int), x = .bl a ∧ y = .int b ∧ Q (.int (b2i a * b)) H) := by
  intro pins s σ H x y v u Q I rx ry h
  obtain ⟨a, b, rfl, rfl, q⟩ := h
  cases rx
  obtain ⟨t, rfl⟩ := ry
  exact PySem.IntBool.mul_bool_int ⟨.int (b2i a * b), H, I.tok _, ⟨_, rfl⟩, q⟩
section
variable {K : PySem.W.Frag}
/-! the rules that name the written part, with its name given: within a comprehension's block the context is another one, the part is not -/
theorem pt_truthK {a : Expr} {ta : TE} (h : X.K = K) (ha : PE X a ta) (he : ∀ whole, isTrue a X.env whole = (do let v ← whole; standAt a.pos; holding [v] (truthy v))) :
    PT X a (fun σ H Q => ta σ H fun x H' => ∃ k, TruV K x H' k ∧ Q k H') := h ▸ pt_truth ha he
theorem pg_tupK {es : List Expr} {k : Nat} {t : TGs} {n : Nat} {pos : Pos} (hK : X.K = K) (hc : X.calm = true) (h : PGs X es t)
    (hn : (assignEach es X.env).length = n := by rfl) (hst : (assignEach es X.env).findIdx? (·.1) = none := by rfl) : PG X (.Tuple es k pos) (gTup K n t) := hK ▸ pg_tup hc h hn hst
theorem ix_tupK (h : X.K = K) : IxR X (rIxT K) := h ▸ ix_tup
theorem ix_listK (h : X.K = K) : IxR X (rIxL K) := h ▸ ix_list
theorem sl_listK (h : X.K = K) : SlR X (rSlL K) := h ▸ sl_list
theorem sl_tupK (h : X.K = K) : SlR X (rSlT K) := h ▸ sl_tup
theorem call_isiK' (h : X.K = K) : CallR X (.builtin "isinstance") (rIsi K) := h ▸ call_isi
theorem call_lenK (h : X.K = K) : CallR X (.builtin "len") (fun xs H Q => ∃ p ys, xs = [.ref p] ∧ (SqL K H p ys ∨ SqT K H p ys) ∧ Q (.int ys.length) H) := h ▸ call_len_seq
theorem call_list_ofK (h : X.K = K) : CallR X (.type "list") (fun xs H Q => ∃ p ys, xs = [.ref p] ∧ (SqL K H p ys ∨ SqT K H p ys) ∧ ∀ l, H l = none → Q (.ref l) (upd H l (.lst ys))) := h ▸ call_list_of
theorem op_eqDK (h : X.K = K) (hu : X.A.units + 64 < cLine) : OpR X (compareOp .Eq) (rEqD K) := h ▸ op_eqD hu
theorem op_neDK (h : X.K = K) (hu : X.A.units + 64 < cLine) : OpR X (compareOp .NotEq) (rNeD K) := h ▸ op_neD hu
end
/-- o[lo:hi] = another list, within the bounds -/
def gSetSl (to : TE) (tl th : TO) : TG := fun v σ H Q => to σ H fun o H1 => tl σ H1 fun l H2 => th σ H2 fun u H3 => ∃ (p b : Addr) (xs ys : List V) (a c : Int), o = .ref p ∧ v = .ref b ∧ l = some a ∧ u = some c ∧
  H3 p = some (.lst xs) ∧ H3 b = some (.lst ys) ∧ p ≠ b ∧ 0 ≤ a ∧ a ≤ c ∧ c ≤ xs.length ∧ xs.length + ys.length ≤ sizeLine ∧ Q σ (upd H3 p (.lst (xs.take a.toNat ++ ys ++ xs.drop c.toNat)))
theorem pg_setSl {o : Expr} {lo hi : Option Expr} {to : TE} {tl th : TO} {p2 pos : Pos} (ho : PE X o to) (hl : PO X lo tl) (hu : PO X hi th)
    (ha : ∀ v, assign (.Subscript o (.Slice lo hi none p2) pos) X.env v = (do
      let ov ← holding [v] (eval o X.env)
      let iv ← holding [v, ov] (eval (.Slice lo hi none p2) X.env)
      standAt pos
      holding [v, ov, iv] (setItem ov iv v)
      release [iv, v, ov] []) := by intro _; rfl) : PG X (.Subscript o (.Slice lo hi none p2) pos) (gSetSl to tl th) := by
  refine ⟨fun pins s σ H v u Q I r h => ?_⟩
  rw [ha]
  refine wpAny_bind (wpAny_holding (thn (ho.run pins s σ H _ I h) fun ov s1 ⟨x, H1, I1, r1, q1⟩ => ?_))
  refine wpAny_bind (wpAny_holding ?_)
  refine wpAny_Slice (thn (hl.run pins s1 σ H1 _ I1 q1) fun vl s2 ⟨l, H2, I2, pl, q2⟩ => thn (hu.run pins s2 σ H2 _ I2 q2) fun vu s3 ⟨w, H3, I3, pu, q3⟩ => ?_)
  rw [evalPart_none]
  refine wpAny_pure ?_
  have I4 : Inv X pins σ H3 { s3 with heap := s3.heap.push { cls := .type "slice", data := .fields #[vl, vu, .none] } } := I3.kept (t' := s3.toks) fun b ob q => Heap.get?_push_of_some _ q
  obtain ⟨p, b, xs, ys, a, c, rfl, rfl, rfl, rfl, hp, hb, hne, h0, hac, hc, hz, q4⟩ := q3
  cases r1
  cases r
  cases pl with
  | int i t =>
    cases pu with
    | int j t2 =>
      refine wpAny_bind (wpAny_standAt (wpAny_bind (wpAny_holding (set_slice I4 hp hb hne (Heap.IsSliceOf.new ..) ⟨t, rfl⟩ ⟨t2, rfl⟩ h0 hac hc hz fun s' I' => ?_))))
      exact wpAny_release ⟨σ, _, I', q4⟩
end
/-! ### more of what evaluates to what: lists -/
section
variable {K : PySem.W.Frag} {σ : L2.St} {H H' : Hp} {ta tb te tx : TE} {t u : TT} {x y z v : V} {r : R2} {xs ys zs : List V} {p q : Addr}
theorem rv_bb {a b : Bool} : RV (fun x y H Q => ∃ a b : Bool, x = .bl a ∧ y = .bl b ∧ Q (.int (b2i a * b2i b)) H) (.bl a) (.bl b) H (.int (b2i a * b2i b)) := fun H1 _ _ q => ⟨a, b, rfl, rfl, q H1 (Ex.refl H1)⟩
theorem rv_bi {a : Bool} {b : Int} : RV (fun x y H Q => ∃ (a : Bool) (b : Int), x = .bl a ∧ y = .int b ∧ Q (.int (b2i a * b)) H) (.bl a) (.int b) H (.int (b2i a * b)) := fun H1 _ _ q => ⟨a, b, rfl, rfl, q H1 (Ex.refl H1)⟩
/-- list(a list) -/
theorem el_listL (ha : Ev ta σ H (.ref p)) (h : SqL K H p xs) : EvL (tCB (fun xs H Q => ∃ p ys, xs = [.ref p] ∧ (SqL K H p ys ∨ SqT K H p ys) ∧ ∀ l, H l = none → Q (.ref l) (upd H l (.lst ys))) (tCons ta tNil)) σ H xs := el_list ha h
theorem el_listT (ha : Ev ta σ H (.ref p)) (h : SqT K H p xs) : EvL (tCB (fun xs H Q => ∃ p ys, xs = [.ref p] ∧ (SqL K H p ys ∨ SqT K H p ys) ∧ ∀ l, H l = none → Q (.ref l) (upd H l (.lst ys))) (tCons ta tNil)) σ H xs := fun H1 e Q q =>
  ha H1 e _ fun H2 e2 => ⟨p, xs, rfl, Or.inr (ex_t (e.trans e2) h), fun l hl => q l _ (fresh_back e2 hl) (e2.trans (Ex.new hl)) upd_same⟩
theorem el_listN (ha : EvL ta σ H xs) : EvL (tCB (fun xs H Q => ∃ p ys, xs = [.ref p] ∧ (SqL K H p ys ∨ SqT K H p ys) ∧ ∀ l, H l = none → Q (.ref l) (upd H l (.lst ys))) (tCons ta tNil)) σ H xs := fun H1 e Q q =>
  ha H1 e _ fun p H2 np e2 hp => ⟨p, xs, rfl, Or.inl (sq_of hp), fun l hl => q l _ (fresh_back e2 hl) (e2.trans (Ex.new hl)) upd_same⟩
theorem ev_lenN2 (ha : EvL ta σ H xs) : Ev (tCB (fun xs H Q => ∃ p ys, xs = [.ref p] ∧ (SqL K H p ys ∨ SqT K H p ys) ∧ Q (.int ys.length) H) (tCons ta tNil)) σ H (.int (xs.length : Int)) := ev_lenN ha
/-- a new list + a new list, a list that stands + a new one -/
theorem el_catLL (ha : EvL ta σ H xs) (hb : EvL tb σ H ys) (hz : xs.length + ys.length ≤ 100000) : EvL (tOp rCat ta tb) σ H (xs ++ ys) := fun H1 e Q k =>
  ha H1 e _ fun p H2 np e2 hp => hb H2 (e.trans e2) _ fun q H3 nq e3 hq => ⟨p, q, xs, ys, rfl, rfl, e3 p _ hp, hq, sz_of hz, fun l hl => k l _ (fresh_back (e2.trans e3) hl) ((e2.trans e3).trans (Ex.new hl)) upd_same⟩
theorem el_catVL (ha : Ev ta σ H (.ref p)) (h : H p = some (.lst xs)) (hb : EvL tb σ H ys) (hz : xs.length + ys.length ≤ 100000) : EvL (tOp rCat ta tb) σ H (xs ++ ys) := fun H1 e Q k =>
  ha H1 e _ fun H2 e2 => hb H2 (e.trans e2) _ fun q H3 nq e3 hq => ⟨p, q, xs, ys, rfl, rfl, e3 p _ (e2 p _ (e p _ h)), hq, sz_of hz, fun l hl => k l _ (fresh_back (e2.trans e3) hl) ((e2.trans e3).trans (Ex.new hl)) upd_same⟩
theorem el_catLV (ha : EvL ta σ H xs) (hb : Ev tb σ H (.ref q)) (h : H q = some (.lst ys)) (hz : xs.length + ys.length ≤ 100000) : EvL (tOp rCat ta tb) σ H (xs ++ ys) := fun H1 e Q k =>
  ha H1 e _ fun p H2 np e2 hp => hb H2 (e.trans e2) _ fun H3 e3 => ⟨p, q, xs, ys, rfl, rfl, e3 p _ hp, e3 q _ (e2 q _ (e q _ h)), sz_of hz, fun l hl => k l _ (fresh_back (e2.trans e3) hl) ((e2.trans e3).trans (Ex.new hl)) upd_same⟩
theorem el_catVV (ha : Ev ta σ H (.ref p)) (h : H p = some (.lst xs)) (hb : Ev tb σ H (.ref q)) (h2 : H q = some (.lst ys)) (hz : xs.length + ys.length ≤ 100000) : EvL (tOp rCat ta tb) σ H (xs ++ ys) := fun H1 e Q k =>
  ha H1 e _ fun H2 e2 => hb H2 (e.trans e2) _ fun H3 e3 => ⟨p, q, xs, ys, rfl, rfl, e3 p _ (e2 p _ (e p _ h)), e3 q _ (e2 q _ (e q _ h2)), sz_of hz, fun l hl => k l _ (fresh_back (e2.trans e3) hl) ((e2.trans e3).trans (Ex.new hl)) upd_same⟩
theorem el_is (h : EvL te σ H xs) (e : xs = ys) : EvL te σ H ys := e ▸ h
theorem flat_one (n : Nat) : (List.replicate n [v]).flatten = List.replicate n v := by
  induction n with
  | zero => rfl
  | succ n ih => rw [List.replicate_succ, List.flatten_cons, ih, List.replicate_succ] <;> rfl
/-- [c] * n -/
theorem el_rep {n : Nat} (ha : EvL ta σ H [v]) (hb : Ev tb σ H (.int (n : Int))) (hz : n ≤ 100000) : EvL (tOp rRep ta tb) σ H (List.replicate n v) := fun H1 e Q k =>
  ha H1 e _ fun p H2 np e2 hp => hb H2 (e.trans e2) _ fun H3 e3 => ⟨p, (n : Int), [v], rfl, rfl, e3 p _ hp, by omega, by omega, by rw [Int.toNat_natCast]; show 1 * n ≤ sizeLine; rw [Nat.one_mul]; exact sz_of hz, fun l hl => by
    rw [Int.toNat_natCast, flat_one]
    exact k l _ (fresh_back (e2.trans e3) hl) ((e2.trans e3).trans (Ex.new hl)) upd_same⟩
theorem map_rep {n : Nat} : List.replicate n (V.int 0) = (List.replicate n 0).map nV := by rw [List.map_replicate] <;> rfl
/-- xs[:n] -/
theorem cut_take {n : Nat} (h : n ≤ xs.length) : cutV xs none (some (n : Int)) = xs.take n := by
  unfold cutV
  rw [HT.sIx_none, HT.sIx_nat, Nat.sub_zero, List.drop_zero, Nat.min_eq_left h]
/-- xs[a:b] -/
theorem cut_mid {a b : Nat} (h : a ≤ b) (h2 : b ≤ xs.length) : cutV xs (some (a : Int)) (some (b : Int)) = (xs.drop a).take (b - a) := by
  unfold cutV
  rw [HT.sIx_nat, HT.sIx_nat, Nat.min_eq_left h2, Nat.min_eq_left (by omega)]
theorem ev_isiL {n : String} {b : Bool} (ha : Ev ta σ H (.ref p)) (hp : H p = some (.lst xs)) (hb : Ev tb σ H (.ty n)) (h : kitB "list" n = some b) : Ev (tCB (rIsi K) (tCons ta (tCons tb tNil))) σ H (.bl b) :=
  ev_isi ha hb (ClsV.ty n) (fun H1 e => .base (.lst (e _ _ hp))) (kit_ty h)
theorem ev_isiT {n : String} {b : Bool} (ha : Ev ta σ H (.ref p)) (hp : H p = some (.tup xs)) (hb : Ev tb σ H (.ty n)) (h : kitB "tuple" n = some b) : Ev (tCB (rIsi K) (tCons ta (tCons tb tNil))) σ H (.bl b) :=
  ev_isi ha hb (ClsV.ty n) (fun H1 e => .base (.tup (e _ _ hp))) (kit_ty h)
/-! ### two data that are one -/
mutual
theorem dp_mono (e : Ex H H') : ∀ (d : PyData) (v : V), Dp K H v d → Dp K H' v d
  | _, _, .non => .non
  | _, _, .bl b => .bl b
  | _, _, .int i => .int i
  | _, _, .str x => .str x
  | .list ds, _, .lst h a => .lst (ex_l e h) (dp_monoAll e ds _ a)
  | .tuple ds, _, .tup h a => .tup (ex_t e h) (dp_monoAll e ds _ a)
theorem dp_monoAll (e : Ex H H') : ∀ (ds : List PyData) (vs : List V), DpAll K H vs ds → DpAll K H' vs ds
  | _, _, .nil => .nil
  | d :: ds, v :: vs, .cons h a => .cons (dp_mono e d v h) (dp_monoAll e ds vs a)
end
theorem shaped_can {d : PyData} (h : SeqAt.shaped d = true) : PyData.eqv d d = true := SeqAt.eqv_refl d (SeqAt.canLay_of_shaped h)
theorem rv_eqD {d : PyData} (h : Dp K H x d) (h2 : Dp K H y d) (hs : SeqAt.shaped d = true) : RV (rEqD K) x y H (.bl true) := fun H1 e Q q =>
  ⟨d, d, dp_mono e _ _ h, dp_mono e _ _ h2, hs, hs, by rw [shaped_can hs]; exact q H1 (Ex.refl H1)⟩
theorem rv_neD {d : PyData} (h : Dp K H x d) (h2 : Dp K H y d) (hs : SeqAt.shaped d = true) : RV (rNeD K) x y H (.bl false) := fun H1 e Q q =>
  ⟨d, d, dp_mono e _ _ h, dp_mono e _ _ h2, hs, hs, by rw [shaped_can hs]; exact q H1 (Ex.refl H1)⟩
def dN (n : Nat) : PyData := .int (n : Int)
theorem dp_nats : ∀ l : List Nat, DpAll K H (l.map nV) (l.map dN)
  | [] => .nil
  | n :: l => .cons (.int (n : Int)) (dp_nats l)
theorem dp_list {l : List Nat} (h : SqL K H p (l.map nV)) : Dp K H (.ref p) (.list (l.map dN)) := .lst h (dp_nats l)
theorem lay_nats : ∀ l : List Nat, PyData.canLayAll0 (l.map dN) = true ∧ PyData.depthAll (l.map dN) = 0
  | [] => ⟨rfl, rfl⟩
  | n :: l => by
    have ih := lay_nats l
    refine ⟨?_, ?_⟩
    · show (PyData.canLay0 (dN n) && PyData.canLayAll0 (l.map dN)) = true
      rw [ih.1] <;> rfl
    · show max (PyData.depth (dN n)) (PyData.depthAll (l.map dN)) = 0
      rw [ih.2] <;> rfl
theorem shaped_nats (l : List Nat) : SeqAt.shaped (.list (l.map dN)) = true := by
  unfold SeqAt.shaped
  have h1 : PyData.canLay0 (.list (l.map dN)) = true := (lay_nats l).1
  have h2 : PyData.depth (.list (l.map dN)) = 1 := by
    show PyData.depthAll (l.map dN) + 1 = 1
    rw [(lay_nats l).2]
  rw [h1, h2] <;> rfl
theorem rv_eqN {l : List Nat} (h : SqL K H p (l.map nV)) (h2 : SqL K H q (l.map nV)) : RV (rEqD K) (.ref p) (.ref q) H (.bl true) := rv_eqD (dp_list h) (dp_list h2) (shaped_nats l)
theorem rv_neN {l : List Nat} (h : SqL K H p (l.map nV)) (h2 : SqL K H q (l.map nV)) : RV (rNeD K) (.ref p) (.ref q) H (.bl false) := rv_neD (dp_list h) (dp_list h2) (shaped_nats l)
/-! ### comprehensions without a test: the list that comes is told by its items -/
def Cz (H : Hp) (zs : List V) (Dl : Addr) (i : Nat) (H' : Hp) : Prop := H Dl = none ∧ Ex H H' ∧ H' Dl = some (.lst (zs.take i))
theorem cz_turn {σ2 : L2.St} {Dl : Addr} {i : Nat} (hp : Cz H zs Dl i H') (hi : zs[i]? = some z) (hz : zs.length ≤ 40000) (he : Ev te σ2 H z) :
    tYes σ2 H' fun b H3 => if b = true then te σ2 H3 fun y H4 => ∃ acc, H4 Dl = some (.lst acc) ∧ acc.length < sizeLine ∧ Cz H zs Dl (i + 1) (upd H4 Dl (.lst (acc ++ [y]))) else Cz H zs Dl (i + 1) H3 := by
  obtain ⟨p1, p2, p3⟩ := hp
  show te σ2 H' fun y H4 => ∃ acc, H4 Dl = some (.lst acc) ∧ acc.length < sizeLine ∧ Cz H zs Dl (i + 1) (upd H4 Dl (.lst (acc ++ [y])))
  refine he H' p2 _ fun H4 e4 => ⟨zs.take i, e4 Dl _ p3, sz_lt (by rw [List.length_take]; omega), p1, Ex.mut (p2.trans e4) p1, ?_⟩
  rw [upd_same, List.take_add_one, hi] <;> rfl
theorem el_zR {ta : TA} {j : Nat} {vs : List Nat} {n : Nat} (h : EvA ta σ H [.int (n : Int)]) (hz : zs.length = n) (hn : n ≤ 40000) (hw : ∀ x, wipe ((wipe σ vs).set j (some x)) vs = wipe σ vs)
    (he : ∀ (i : Nat) (z : V) H1, Ex H H1 → zs[i]? = some z → Ev te ((wipe σ vs).set j (some (.int (i : Int)))) H1 z) : EvL (tLc (iRng1 ta) (gName j) tYes te vs) σ H zs := fun H0 e Q q => h H0 e _ fun H1 e1 => ⟨(n : Int), rfl, by omega, by omega, fun Dl hD =>
  lc_range (lo := 0) (n := (n : Int).toNat) (Cz H1 zs Dl) ⟨hD, Ex.new hD, by rw [upd_same, List.take_zero]⟩ (fun i H' hi p => by
    have e0 : (0 : Int) + (i : Int) = (i : Int) := Int.zero_add _
    have hl : i < zs.length := by omega
    show wipe ((wipe σ vs).set j (some (.int ((0 : Int) + (i : Int))))) vs = wipe σ vs ∧ tYes ((wipe σ vs).set j (some (.int ((0 : Int) + (i : Int))))) H' fun b H3 => if b = true then te ((wipe σ vs).set j (some (.int ((0 : Int) + (i : Int))))) H3 fun y H4 => ∃ acc, H4 Dl = some (.lst acc) ∧ acc.length < sizeLine ∧ Cz H1 zs Dl (i + 1) (upd H4 Dl (.lst (acc ++ [y]))) else Cz H1 zs Dl (i + 1) H3
    rw [e0]
    exact ⟨hw _, cz_turn p (List.getElem?_eq_getElem hl) (by omega) (he i _ H1 (e.trans e1) (List.getElem?_eq_getElem hl))⟩) (fun H' p => q Dl H' (fresh_back e1 p.1) (e1.trans p.2.1) (by rw [p.2.2, List.take_of_length_le (by omega)]))⟩
theorem el_zL {a : Addr} {tl : TE} {j : Nat} {vs : List Nat} (h : Ev tl σ H (.ref a)) (hx : SqL K H a xs) (hz : zs.length = xs.length) (hn : xs.length ≤ 40000) (hw : ∀ x, wipe ((wipe σ vs).set j (some x)) vs = wipe σ vs)
    (he : ∀ (i : Nat) (x z : V) H1, Ex H H1 → xs[i]? = some x → zs[i]? = some z → Ev te ((wipe σ vs).set j (some x)) H1 z) : EvL (tLc (iList K tl) (gName j) tYes te vs) σ H zs := fun H0 e Q q => h H0 e _ fun H1 e1 => ⟨a, rfl, ⟨xs, ex_l (e.trans e1) hx⟩, fun Dl hD =>
  lc_list (xs := xs) (Cz H1 zs Dl) ⟨hD, Ex.new hD, by rw [upd_same, List.take_zero]⟩ (fun i H' _ p => ex_l ((e.trans e1).trans p.2.1) hx) (fun i x H' hi p => by
    have hl : i < zs.length := by rw [hz]; exact (List.getElem?_eq_some_iff.mp hi).1
    exact ⟨hw x, cz_turn p (List.getElem?_eq_getElem hl) (by omega) (he i x _ H1 (e.trans e1) hi (List.getElem?_eq_getElem hl))⟩) (fun H' p => q Dl H' (fresh_back e1 p.1) (e1.trans p.2.1) (by rw [p.2.2, List.take_of_length_le (by omega)]))⟩
theorem el_zNL {tl : TE} {j : Nat} {vs : List Nat} (h : EvL tl σ H xs) (hz : zs.length = xs.length) (hn : xs.length ≤ 40000) (hw : ∀ x, wipe ((wipe σ vs).set j (some x)) vs = wipe σ vs)
    (he : ∀ (i : Nat) (x z : V) H1, Ex H H1 → xs[i]? = some x → zs[i]? = some z → Ev te ((wipe σ vs).set j (some x)) H1 z) : EvL (tLc (iList K tl) (gName j) tYes te vs) σ H zs := fun H0 e Q q => h H0 e _ fun a H1 na e1 hx => ⟨a, rfl, ⟨xs, sq_of hx⟩, fun Dl hD =>
  lc_list (xs := xs) (Cz H1 zs Dl) ⟨hD, Ex.new hD, by rw [upd_same, List.take_zero]⟩ (fun i H' _ p => ex_l p.2.1 (sq_of hx)) (fun i x H' hi p => by
    have hl : i < zs.length := by rw [hz]; exact (List.getElem?_eq_some_iff.mp hi).1
    exact ⟨hw x, cz_turn p (List.getElem?_eq_getElem hl) (by omega) (he i x _ H1 (e.trans e1) hi (List.getElem?_eq_getElem hl))⟩) (fun H' p => q Dl H' (fresh_back e1 p.1) (e1.trans p.2.1) (by rw [p.2.2, List.take_of_length_le (by omega)]))⟩
/-- two lists as a call's arguments -/
def Ev2 (K : PySem.W.Frag) (ta : TA) (σ : L2.St) (H : Hp) (xs ys : List V) : Prop := ∀ H1, Ex H H1 → ∀ Q : List V → Hp → Prop, (∀ a b H2, Ex H1 H2 → SqL K H2 a xs → SqL K H2 b ys → Q [.ref a, .ref b] H2) → ta σ H1 Q
theorem ev2_VV (ha : Ev ta σ H (.ref p)) (h : SqL K H p xs) (hb : Ev tb σ H (.ref q)) (h2 : SqL K H q ys) : Ev2 K (tCons ta (tCons tb tNil)) σ H xs ys := fun H1 e _ k =>
  ha H1 e _ fun H2 e2 => hb H2 (e.trans e2) _ fun H3 e3 => k _ _ H3 (e2.trans e3) (ex_l ((e.trans e2).trans e3) h) (ex_l ((e.trans e2).trans e3) h2)
theorem ev2_VL (ha : Ev ta σ H (.ref p)) (h : SqL K H p xs) (hb : EvL tb σ H ys) : Ev2 K (tCons ta (tCons tb tNil)) σ H xs ys := fun H1 e _ k =>
  ha H1 e _ fun H2 e2 => hb H2 (e.trans e2) _ fun q H3 _ e3 hq => k _ _ H3 (e2.trans e3) (ex_l ((e.trans e2).trans e3) h) (sq_of hq)
theorem el_zZ {ta : TA} {j1 j2 : Nat} {vs : List Nat} (h : Ev2 K ta σ H xs ys) (hz : zs.length = min xs.length ys.length) (hn : zs.length ≤ 40000) (hw : ∀ x y, wipe (((wipe σ vs).set j1 (some x)).set j2 (some y)) vs = wipe σ vs)
    (he : ∀ (i : Nat) (x y z : V) H1, Ex H H1 → xs[i]? = some x → ys[i]? = some y → zs[i]? = some z → Ev te (((wipe σ vs).set j1 (some x)).set j2 (some y)) H1 z) :
    EvL (tLc (iZip K ta) (gTup K 2 (gCons (gName j1) (gCons (gName j2) gNil))) tYes te vs) σ H zs := fun H0 e Q q => h H0 e _ fun a b H1 e1 ha hb => ⟨a, b, xs, ys, rfl, ha, hb, fun Dl hD =>
  lc_it (walk_zip (xs := xs) (ys := ys) hz) (Cz H1 zs Dl) ⟨hD, Ex.new hD, by rw [upd_same, List.take_zero]⟩ (fun i H' _ p => ⟨ex_l p.2.1 ha, ex_l p.2.1 hb⟩) (fun i v H' H2 hi p yy => by
    obtain ⟨T, x, y, rfl, hT, rfl, hx, hy⟩ := yy
    refine ⟨T, [x, y], rfl, st_of upd_same, rfl, x, [y], rfl, y, [], rfl, rfl, ?_⟩
    have p2 : Cz H1 zs Dl i (upd H' T (.tup [x, y])) := ⟨p.1, p.2.1.trans (Ex.new hT), by rw [upd_ne (ne_of_none p.2.2 hT)]; exact p.2.2⟩
    exact ⟨hw x y, cz_turn p2 (List.getElem?_eq_getElem hi) hn (he i x y _ H1 (e.trans e1) hx hy (List.getElem?_eq_getElem hi))⟩) (fun H' p => q Dl H' (fresh_back e1 p.1) (e1.trans p.2.1) (by rw [p.2.2, List.take_of_length_le (by omega)]))⟩
/-! ### loops over enumerate, reversed -/
variable {D : Ends} {tu tw tz : TS} {g : TG}
theorem s_forEn {ta : TA} {a : Addr} {j1 j2 : Nat} (h : EvA ta σ H [.ref a]) (hx : SqL K H a xs) (Pv : Nat → L2.St → Hp → Prop) (h0 : ∀ H1, Ex H H1 → Pv 0 σ H1) (hl : ∀ i σ' H', i ≤ xs.length → Pv i σ' H' → SqL K H' a xs)
    (hs : ∀ (i : Nat) x σ' H' H2, xs[i]? = some x → Pv i σ' H' → Ex H' H2 → tu { D with nx := Pv (i + 1), ct := Pv (i + 1), bk := D.nx } ((σ'.set j1 (some (.int (i : Int)))).set j2 (some x)) H2) (hd : ∀ σ' H', Pv xs.length σ' H' → D.nx σ' H') :
    tFor (iEnum K ta) (gTup K 2 (gCons (gName j1) (gCons (gName j2) gNil))) tu D σ H :=
  h H (Ex.refl H) _ fun H1 e => ⟨a, xs, rfl, ex_l e hx, for_it (walk_enum (xs := xs)) Pv (h0 H1 e) hl (fun i v σ' H' H2 hi p yy => by
    obtain ⟨T, x, y, rfl, hT, rfl, hx2, hy⟩ := yy
    obtain rfl : (.int (i : Int) : V) = x := Option.some.inj hx2
    exact ⟨T, [_, y], rfl, st_of upd_same, rfl, _, [y], rfl, y, [], rfl, rfl, hs i y σ' H' _ hy p (Ex.new hT)⟩) hd⟩
theorem s_forRev {ta : TA} {a : Addr} {j : Nat} (h : EvA ta σ H [.ref a]) (hx : SqL K H a xs) (Pv : Nat → L2.St → Hp → Prop) (h0 : ∀ H1, Ex H H1 → Pv 0 σ H1) (hl : ∀ i σ' H', Pv i σ' H' → SqL K H' a xs)
    (hs : ∀ (i : Nat) x σ' H', i < xs.length → xs[xs.length - 1 - i]? = some x → Pv i σ' H' → tu { D with nx := Pv (i + 1), ct := Pv (i + 1), bk := D.nx } (σ'.set j (some x)) H') (hd : ∀ σ' H', Pv xs.length σ' H' → D.nx σ' H') :
    tFor (iRev K ta) (gName j) tu D σ H :=
  h H (Ex.refl H) _ fun H1 e => ⟨a, xs, rfl, ex_l e hx, RT.for_Itv Pv (h0 H1 e) hl (fun i x σ' H' hi hx2 p => hs i x σ' H' hi hx2 p) hd⟩
theorem q_forEn {ta : TA} {a : Addr} {j1 j2 : Nat} (h : EvA ta σ H [.ref a]) (hx : SqL K H a xs) (Pv : Nat → L2.St → Hp → Prop) (h0 : ∀ H1, Ex H H1 → Pv 0 σ H1) (hl : ∀ i σ' H', i ≤ xs.length → Pv i σ' H' → SqL K H' a xs)
    (hs : ∀ (i : Nat) x σ' H' H2, xs[i]? = some x → Pv i σ' H' → Ex H' H2 → tu { D with nx := Pv (i + 1), ct := Pv (i + 1), bk := tz D } ((σ'.set j1 (some (.int (i : Int)))).set j2 (some x)) H2) (hd : ∀ σ' H', Pv xs.length σ' H' → tz D σ' H') :
    tSeq (tFor (iEnum K ta) (gTup K 2 (gCons (gName j1) (gCons (gName j2) gNil))) tu) tz D σ H := s_forEn (D := { D with nx := tz D }) h hx Pv h0 hl hs hd
theorem q_forRev {ta : TA} {a : Addr} {j : Nat} (h : EvA ta σ H [.ref a]) (hx : SqL K H a xs) (Pv : Nat → L2.St → Hp → Prop) (h0 : ∀ H1, Ex H H1 → Pv 0 σ H1) (hl : ∀ i σ' H', Pv i σ' H' → SqL K H' a xs)
    (hs : ∀ (i : Nat) x σ' H', i < xs.length → xs[xs.length - 1 - i]? = some x → Pv i σ' H' → tu { D with nx := Pv (i + 1), ct := Pv (i + 1), bk := tz D } (σ'.set j (some x)) H') (hd : ∀ σ' H', Pv xs.length σ' H' → tz D σ' H') :
    tSeq (tFor (iRev K ta) (gName j) tu) tz D σ H := s_forRev (D := { D with nx := tz D }) h hx Pv h0 hl hs hd
/-- xs[lo:hi] = a new list -/
theorem s_setSl {l : Addr} {tl th : TO} {a c : Nat} (hl : H l = some (.lst xs)) (h : EvL te σ H ys) (ho : Ev ta σ H (.ref l)) (h1 : EvO tl σ H (some (a : Int))) (h2 : EvO th σ H (some (c : Int))) (hac : a ≤ c) (hc : c ≤ xs.length) (hz : xs.length + ys.length ≤ 100000)
    (k : ∀ p H1, H p = none → Ex H H1 → D.nx σ (upd H1 l (.lst (xs.take a ++ ys ++ xs.drop c)))) : tAsg te (gSetSl ta tl th) D σ H := h H (Ex.refl H) _ fun p H1 np e1 hp =>
  ho H1 e1 _ fun H2 e2 => h1 H2 (e1.trans e2) _ fun H3 e3 => h2 H3 ((e1.trans e2).trans e3) _ fun H4 e4 => ⟨l, p, xs, ys, (a : Int), (c : Int), rfl, rfl, rfl, rfl, (((e1.trans e2).trans e3).trans e4) l _ hl, (e4 p _ (e3 p _ (e2 p _ hp))),
    (ne_of_none hl np), by omega, by omega, by omega, sz_of hz, by
    rw [Int.toNat_natCast, Int.toNat_natCast]
    exact k p H4 np (((e1.trans e2).trans e3).trans e4)⟩
/-! ### calls whose arguments are new lists -/
theorem ev_call1L {sp : Sp} {E : XK} (h1 : EvL ta σ H xs) (hs : ∀ p H1, Ex H H1 → H1 p = some (.lst xs) → SpV sp ([.ref p] ++ []) H1 z) : Ev (tCall sp [] E (tCons ta tNil)) σ H z := fun H1 e Q k =>
  h1 H1 e _ fun p H2 _ e2 hp => hs p H2 (e.trans e2) hp H2 (Ex.refl _) Q (fun H3 e3 => k H3 (e2.trans e3)) E
theorem el_call1L {sp : Sp} {E : XK} (h1 : EvL ta σ H xs) (hs : ∀ p H1, Ex H H1 → H1 p = some (.lst xs) → SpL sp ([.ref p] ++ []) H1 zs) : EvL (tCall sp [] E (tCons ta tNil)) σ H zs := fun H1 e Q k =>
  h1 H1 e _ fun p H2 _ e2 hp => hs p H2 (e.trans e2) hp H2 (Ex.refl _) Q (fun p2 H3 n3 e3 h3 => k p2 H3 (fresh_back e2 n3) (e2.trans e3) h3) E
theorem ev_call2LL {sp : Sp} {E : XK} (h1 : EvL ta σ H xs) (h2 : EvL tb σ H ys) (hs : ∀ p q H1, Ex H H1 → H1 p = some (.lst xs) → H1 q = some (.lst ys) → SpV sp ([.ref p, .ref q] ++ []) H1 z) : Ev (tCall sp [] E (tCons ta (tCons tb tNil))) σ H z := fun H1 e Q k =>
  h1 H1 e _ fun p H2 _ e2 hp => h2 H2 (e.trans e2) _ fun q H3 _ e3 hq => hs p q H3 ((e.trans e2).trans e3) (e3 p _ hp) hq H3 (Ex.refl _) Q (fun H4 e4 => k H4 ((e2.trans e3).trans e4)) E
theorem ev_call2VL {sp : Sp} {E : XK} (h1 : Ev ta σ H x) (h2 : EvL tb σ H ys) (hs : ∀ q H1, Ex H H1 → H1 q = some (.lst ys) → SpV sp ([x, .ref q] ++ []) H1 z) : Ev (tCall sp [] E (tCons ta (tCons tb tNil))) σ H z := fun H1 e Q k =>
  h1 H1 e _ fun H2 e2 => h2 H2 (e.trans e2) _ fun q H3 _ e3 hq => hs q H3 ((e.trans e2).trans e3) hq H3 (Ex.refl _) Q (fun H4 e4 => k H4 ((e2.trans e3).trans e4)) E
theorem el_call3LVV {tc : TE} {sp : Sp} {E : XK} (h1 : EvL ta σ H xs) (h2 : Ev tb σ H x) (h3 : Ev tc σ H y) (hs : ∀ p H1, Ex H H1 → H1 p = some (.lst xs) → SpL sp ([.ref p, x, y] ++ []) H1 zs) : EvL (tCall sp [] E (tCons ta (tCons tb (tCons tc tNil)))) σ H zs := fun H1 e Q k =>
  h1 H1 e _ fun p H2 _ e2 hp => h2 H2 (e.trans e2) _ fun H3 e3 => h3 H3 ((e.trans e2).trans e3) _ fun H4 e4 => hs p H4 (((e.trans e2).trans e3).trans e4) (e4 p _ (e3 p _ hp)) H4 (Ex.refl _) Q (fun p2 H5 n5 e5 h5 => k p2 H5 (fresh_back ((e2.trans e3).trans e4) n5) (((e2.trans e3).trans e4).trans e5) h5) E
/-- a list of numbers that is tracked -/
abbrev LN (H : Hp) (p : Addr) (l : List Nat) : Prop := H p = some (.lst (l.map nV))
theorem LN.up {l : List Nat} (h : LN H p l) (e : Ex H H') : LN H' p l := e p _ h
theorem nat_get {l : List Nat} {k : Nat} (h : k < l.length) : (l.map nV)[k]? = some (.int ((Py.at0 l k : Nat) : Int)) := by rw [List.getElem?_map, Py.at0_get h] <;> rfl
theorem nat_of_get {l : List Nat} {k : Nat} {v : V} (h : (l.map nV)[k]? = some v) : k < l.length ∧ v = .int ((Py.at0 l k : Nat) : Int) := by
  have hk : k < l.length := by simpa using (List.getElem?_eq_some_iff.mp h).1
  rw [nat_get hk] at h
  exact ⟨hk, (Option.some.inj h).symm⟩
theorem len_map {l : List Nat} : (l.map nV).length = l.length := List.length_map _
theorem set_nat {l : List Nat} {k n : Nat} : (l.map nV).set k (.int (n : Int)) = (l.set k n).map nV := by rw [List.map_set]
theorem dec_self {x : V} : (!decide (x = x)) = false := by simp
theorem q_parLL {i j : Nat} (h1 : EvL ta σ H xs) (h2 : EvL tb σ H ys) (k : ∀ p q H1, H p = none → H q = none → Ex H H1 → H1 p = some (.lst xs) → H1 q = some (.lst ys) → tz D ((σ.set i (some (.ref p))).set j (some (.ref q))) H1) :
    tSeq (tPar i j (tCons ta (tCons tb tNil))) tz D σ H := h1 H (Ex.refl H) _ fun p H1 np e1 hp => h2 H1 e1 _ fun q H2 nq e2 hq => ⟨_, _, rfl, k p q H2 np (fresh_back e1 nq) (e1.trans e2) (e2 p _ hp) hq⟩
theorem splice_nat {l m : List Nat} {a c : Nat} : (l.map nV).take a ++ m.map nV ++ (l.map nV).drop c = (l.take a ++ m ++ l.drop c).map nV := by rw [List.map_append, List.map_append, List.map_take, List.map_drop]
theorem b2i_or (b : Bool) : b2i b = 0 ∨ b2i b = 1 := by cases b <;> simp [b2i]
end
end Mx

set_option Elab.async false
set_option linter.all false
namespace Py
open Gf
theorem at0_set {q : List Nat} {s f k : Nat} (h : s < q.length) : at0 (q.set s f) k = if k = s then f else at0 q k := by
  unfold at0
  rw [List.getD_eq_getElem?_getD, List.getD_eq_getElem?_getD, List.getElem?_set]
  by_cases e : s = k
  · subst e
    rw [if_pos rfl, if_pos h, if_pos rfl] <;> rfl
  · rw [if_neg e, if_neg (fun z => e z.symm)]
theorem at0_app {a b : List Nat} {k : Nat} : at0 (a ++ b) k = if k < a.length then at0 a k else at0 b (k - a.length) := by
  unfold at0
  rw [List.getD_eq_getElem?_getD]
  by_cases h : k < a.length
  · rw [if_pos h, List.getElem?_append_left h, List.getD_eq_getElem?_getD]
  · rw [if_neg h, List.getElem?_append_right (by omega), List.getD_eq_getElem?_getD]
theorem at0_take {a : List Nat} {n k : Nat} : at0 (a.take n) k = if k < n then at0 a k else 0 := by
  unfold at0
  rw [List.getD_eq_getElem?_getD, List.getD_eq_getElem?_getD]
  by_cases h : k < n
  · rw [if_pos h, List.getElem?_take_of_lt h]
  · rw [if_neg h, List.getElem?_eq_none (by rw [List.length_take]; omega)] <;> rfl
theorem at0_drop {a : List Nat} {n k : Nat} : at0 (a.drop n) k = at0 a (n + k) := by
  unfold at0
  rw [List.getD_eq_getElem?_getD, List.getD_eq_getElem?_getD, List.getElem?_drop]
theorem at0_trim (p : List Nat) (k : Nat) : at0 (trim p) k = at0 p k := by
  unfold trim
  rw [at0_take]
  by_cases h : k < tlen p
  · rw [if_pos h]
  · rw [if_neg h, tlen_zero p k (by omega)]
theorem at0_zip {a d : List Nat} {f k : Nat} (h : a.length = d.length) : at0 (List.zipWith (fun x y => x ^^^ gm f y) a d) k = at0 a k ^^^ gm f (at0 d k) := by
  by_cases hk : k < a.length
  · refine at0_of ?_
    rw [List.getElem?_zipWith, at0_get hk, at0_get (h ▸ hk)] <;> rfl
  · rw [at0_none (by rw [List.length_zipWith]; omega), at0_none (show a.length ≤ k by omega), at0_none (show d.length ≤ k by omega), gm_zero (.inr rfl)] <;> rfl
/-- what a step of the division leaves of the rest -/
theorem at0_splice {r d : List Nat} {s f k : Nat} (h : s + d.length ≤ r.length) :
    at0 (r.take s ++ List.zipWith (fun x y => x ^^^ gm f y) ((r.drop s).take d.length) d ++ r.drop (s + d.length)) k = at0 r k ^^^ (if s ≤ k then gm f (at0 d (k - s)) else 0) := by
  have l1 : (r.take s).length = s := by
    rw [List.length_take]
    omega
  have l2 : ((r.drop s).take d.length).length = d.length := by
    rw [List.length_take, List.length_drop]
    omega
  have l3 : (r.take s ++ List.zipWith (fun x y => x ^^^ gm f y) ((r.drop s).take d.length) d).length = s + d.length := by
    rw [List.length_append, l1, List.length_zipWith, l2, Nat.min_self]
  rw [at0_app, l3]
  by_cases c : k < s + d.length
  · rw [if_pos c, at0_app, l1]
    by_cases c2 : k < s
    · rw [if_pos c2, at0_take, if_pos c2, if_neg (by omega), Nat.xor_zero]
    · rw [if_neg c2, at0_zip l2, at0_take, if_pos (by omega), at0_drop, if_pos (by omega)]
      have e : s + (k - s) = k := by omega
      rw [e]
  · rw [if_neg c, at0_drop, if_pos (by omega), at0_none (show d.length ≤ k - s by omega), gm_zero (.inr rfl), Nat.xor_zero]
    have e : s + d.length + (k - (s + d.length)) = k := by omega
    rw [e]
theorem splice_len {r d : List Nat} {s f : Nat} (h : s + d.length ≤ r.length) :
    (r.take s ++ List.zipWith (fun x y => x ^^^ gm f y) ((r.drop s).take d.length) d ++ r.drop (s + d.length)).length = r.length := by
  simp
  omega
theorem acc_set {q d : List Nat} {s f : Nat} (h : s < q.length) (h0 : at0 q s = 0) (k : Nat) : ∀ n, acc (q.set s f) d n k = acc q d n k ^^^ (if s < n ∧ s ≤ k then gm f (at0 d (k - s)) else 0)
  | 0 => by
    rw [if_neg (by omega), Nat.xor_zero]
    rfl
  | n + 1 => by
    show acc (q.set s f) d n k ^^^ (if n ≤ k then gm (at0 (q.set s f) n) (at0 d (k - n)) else 0) = (acc q d n k ^^^ (if n ≤ k then gm (at0 q n) (at0 d (k - n)) else 0)) ^^^ _
    rw [acc_set h h0 k n, at0_set h]
    by_cases e : n = s
    · subst e
      rw [if_neg (show ¬ (n < n ∧ n ≤ k) by omega), if_pos rfl, h0, Nat.xor_zero]
      by_cases c : n ≤ k
      · rw [if_pos c, if_pos c, if_pos (show n < n + 1 ∧ n ≤ k from ⟨by omega, c⟩), gm_zero (a := 0) (.inl rfl), Nat.xor_zero]
      · rw [if_neg c, if_neg c, if_neg (show ¬ (n < n + 1 ∧ n ≤ k) from fun z => c z.2), Nat.xor_zero, Nat.xor_zero]
    · rw [if_neg e]
      by_cases c : s < n ∧ s ≤ k
      · rw [if_pos c, if_pos (show s < n + 1 ∧ s ≤ k from ⟨by omega, c.2⟩), Nat.xor_assoc, Nat.xor_comm (gm f _), Nat.xor_assoc]
      · rw [if_neg c, if_neg (show ¬ (s < n + 1 ∧ s ≤ k) by omega), Nat.xor_zero, Nat.xor_zero]
theorem acc_len {p q : List Nat} {n : Nat} (h : p.length ≤ n) (k : Nat) : acc p q n k = acc p q p.length k := by
  rw [acc_xs, acc_xs]
  have e : n = p.length + (n - p.length) := by omega
  rw [e]
  refine xs_more (fun j hj => ?_) _
  rw [at0_none hj, gm_zero (.inl rfl)]
  split <;> rfl
theorem acc_congr {p q p' q' : List Nat} (h : ∀ j, at0 p j = at0 p' j) (h2 : ∀ j, at0 q j = at0 q' j) (k : Nat) : ∀ n, acc p q n k = acc p' q' n k
  | 0 => rfl
  | n + 1 => by
    show acc p q n k ^^^ _ = acc p' q' n k ^^^ _
    rw [acc_congr h h2 k n, h, h2]
theorem acc_trim {p q : List Nat} (k : Nat) : acc (trim p) q (trim p).length k = acc p q p.length k := by
  rw [← acc_len (p := trim p) (n := p.length) (by rw [trim_length]; exact tlen_le p)]
  exact acc_congr (at0_trim p) (fun _ => rfl) k _
/-- the state of the division: n steps in all, i done -/
structure DivInv (l d : List Nat) (n i : Nat) (q r : List Nat) : Prop where
  ql : q.length = n
  rl : r.length = tlen l
  oq : Oc q
  or : Oc r
  eq : ∀ k, at0 l k = acc q d n k ^^^ at0 r k
  rz : ∀ k, n - i + d.length ≤ k + 1 → at0 r k = 0
  qz : ∀ j, j < n - i → at0 q j = 0
theorem div_start {l d : List Nat} {n : Nat} (ho : Oc l) (hd : 0 < d.length) (hn : (n : Int) = if (0 : Int) < (tlen l : Int) - d.length + 1 then (tlen l : Int) - d.length + 1 else 0) : DivInv l d n 0 (List.replicate n 0) (trim l) := by
  refine ⟨List.length_replicate, trim_length l, oc_zeros n, ho.take _, fun k => ?_, fun k hk => ?_, fun j _ => ?_⟩
  · have e : ∀ m, acc (List.replicate n 0) d m k = 0 := fun m => by
      induction m with
      | zero => rfl
      | succ m ih =>
        show acc _ d m k ^^^ _ = 0
        have z : at0 (List.replicate n 0) m = 0 := by
          unfold at0
          rw [List.getD_eq_getElem?_getD, List.getElem?_replicate]
          split <;> rfl
        rw [ih, z, gm_zero (.inl rfl)]
        split <;> rfl
    rw [e, Nat.zero_xor, at0_trim]
  · rw [at0_trim]
    refine tlen_zero l k ?_
    split at hn <;> omega
  · unfold at0
    rw [List.getD_eq_getElem?_getD, List.getElem?_replicate]
    split <;> rfl
theorem div_step {l d q r : List Nat} {n i : Nat} (h : DivInv l d n i q r) (hi : i < n) (od : Oc d) (hd : 0 < d.length) (hl : ¬ at0 d (d.length - 1) = 0) (hr : n - 1 - i + d.length ≤ r.length) :
    DivInv l d n (i + 1) (q.set (n - 1 - i) (gm (at0 r (n - 1 - i + d.length - 1)) (gi (at0 d (d.length - 1)))))
      (r.take (n - 1 - i) ++ List.zipWith (fun x y => x ^^^ gm (gm (at0 r (n - 1 - i + d.length - 1)) (gi (at0 d (d.length - 1)))) y) ((r.drop (n - 1 - i)).take d.length) d ++ r.drop (n - 1 - i + d.length)) := by
  have hs : n - 1 - i < q.length := by
    rw [h.ql]
    omega
  have hq0 : at0 q (n - 1 - i) = 0 := h.qz _ (by omega)
  refine ⟨by rw [List.length_set, h.ql], by rw [splice_len hr, h.rl], oc_of fun c hc => ?_, fun k => ?_, fun k => ?_, fun k hk => ?_, fun j hj => ?_⟩
  · rcases List.mem_or_eq_of_mem_set hc with z | z
    · exact h.oq.mem c z
    · rw [z]
      exact gm_lt _ _
  · rw [at0_splice hr]
    refine xor_lt (h.or k) ?_
    split
    · exact gm_lt _ _
    · decide
  · rw [at0_splice hr, acc_set hs hq0, h.eq k]
    have e : (n - 1 - i < n ∧ n - 1 - i ≤ k) = (n - 1 - i ≤ k) := by
      apply propext
      constructor
      · exact fun z => z.2
      · exact fun z => ⟨by omega, z⟩
    simp only [e]
    rw [Nat.xor_assoc, Nat.xor_comm (at0 r k), ← Nat.xor_assoc (ite _ _ _), Nat.xor_self, Nat.zero_xor]
  · rw [at0_splice hr]
    by_cases c : k = n - 1 - i + d.length - 1
    · have e : k - (n - 1 - i) = d.length - 1 := by omega
      rw [if_pos (by omega), e, ← c, gm_assoc, gm_comm (gi _), gm_gi (od _) hl, gm_one (h.or k), Nat.xor_self]
    · rw [h.rz k (by omega), if_pos (by omega), at0_none (show d.length ≤ k - (n - 1 - i) by omega), gm_zero (.inr rfl)]
      rfl
  · rw [at0_set hs, if_neg (by omega)]
    exact h.qz j (by omega)
/-- what the division gives -/
structure DivEnd (l m x y : List Nat) : Prop where
  ox : Oc x
  oy : Oc y
  tx : tlen x = x.length
  ty : tlen y = y.length
  lx : x.length ≤ l.length
  ly : y.length ≤ l.length
  lt : y.length + 1 ≤ tlen m
  eq : ∀ k, at0 l k = acc x m x.length k ^^^ at0 y k
theorem tlen_trim (p : List Nat) : tlen (trim p) = (trim p).length := by
  rw [trim_length]
  refine tlen_eq (fun k hk => ?_) ?_
  · rw [at0_trim]
    exact tlen_zero p k hk
  · rw [at0_trim]
    exact tlen_last p
theorem div_end {l m q r : List Nat} {n : Nat} (h : DivInv l (trim m) n n q r) (hm : ¬ tlen m = 0) (hn : n ≤ l.length) : DivEnd l m (trim q) (trim r) := by
  refine ⟨oc_trim h.oq, oc_trim h.or, tlen_trim _, tlen_trim _, ?_, ?_, ?_, fun k => ?_⟩
  · rw [trim_length]
    have := tlen_le q
    have := h.ql
    omega
  · rw [trim_length]
    have := tlen_le r
    have := h.rl
    have := tlen_le l
    omega
  · rw [trim_length]
    rcases tlen_last r with z | z
    · omega
    · by_cases c : tlen r + 1 ≤ tlen m
      · exact c
      · exact absurd (h.rz (tlen r - 1) (by rw [Nat.sub_self, trim_length]; omega)) z
  · rw [acc_trim, at0_trim, h.eq k, h.ql]
    congr 1
    exact acc_congr (fun _ => rfl) (at0_trim m) k n
end Py

set_option Elab.async false
set_option linter.all false
set_option maxRecDepth 100000
set_option maxHeartbeats 4000000
namespace Mx
open PySem PySem.Spec PyProof.Rows L2 Evl
section
variable {K : PySem.W.Frag} {σ : L2.St} {H H' : Hp} {ta tb te tx : TE} {t u : TT} {x y z v : V} {r : R2} {xs ys zs : List V} {p q : Addr} {D : Ends} {tu tw tz : TS} {g : TG}
theorem et_truL (h : Ev te σ H (.ref p)) (hs : SqL K H p xs) : EvT (fun σ H Q => te σ H fun x H1 => ∃ k, TruV K x H1 k ∧ Q k H1) σ H (!xs.isEmpty) := fun H1 e Q q =>
  h H1 e _ fun H2 e2 => ⟨_, .inl ⟨xs, ex_l (e.trans e2) hs, rfl⟩, q H2 e2⟩
/-- return (a new list, a new list) -/
theorem s_retTLL (h1 : EvL ta σ H xs) (h2 : EvL tb σ H ys) (k : ∀ t p q H1, H t = none → Ex H H1 → H1 t = some (.tup [.ref p, .ref q]) → H1 p = some (.lst xs) → H1 q = some (.lst ys) → D.rt (.ref t) H1) : tRet (tTup (tCons ta (tCons tb tNil))) D σ H :=
  h1 H (Ex.refl H) _ fun p H1 np e1 hp => h2 H1 e1 _ fun q H2 nq e2 hq => ⟨by show 2 ≤ sizeLine; decide, fun t ht => k t p q _ (fresh_back (e1.trans e2) ht) ((e1.trans e2).trans (Ex.new ht)) upd_same (Ex.new ht p _ (e2 p _ hp)) (Ex.new ht q _ hq)⟩
/-- for i in reversed(range(n)) -/
theorem s_forRevR {j n : Nat} (h : Ev te σ H (.int (n : Int))) (hn : n ≤ 100000) (Pv : Nat → L2.St → Hp → Prop) (h0 : ∀ H1, Ex H H1 → Pv 0 σ H1)
    (hs : ∀ (i : Nat) σ' H', i < n → Pv i σ' H' → tu { D with nx := Pv (i + 1), ct := Pv (i + 1), bk := D.nx } (σ'.set j (some (.int ((n - 1 - i : Nat) : Int)))) H') (hd : ∀ σ' H', Pv n σ' H' → D.nx σ' H') :
    tFor (iRevR (tRg1 te)) (gName j) tu D σ H :=
  h H (Ex.refl H) _ fun H1 e => ⟨(n : Int), rfl, by omega, by omega, by omega, by omega, by
    have e0 : ((n : Int) - 0).toNat = n := by omega
    rw [e0]
    exact for_it walk_rangeC Pv (h0 H1 e) (fun _ _ _ _ _ => trivial) (fun i x σ' H' H2 hi p yy => by
      obtain ⟨rfl, rfl⟩ := yy
      have e1 : (0 : Int) + ((n : Nat) : Int) - 1 + ((i : Nat) : Int) * (-1) = ((n - 1 - i : Nat) : Int) := by omega
      show tu _ (σ'.set j (some (.int ((0 : Int) + ((n : Nat) : Int) - 1 + ((i : Nat) : Int) * (-1))))) _
      rw [e1]
      exact hs i σ' _ hi p) hd⟩
theorem q_forRevR {j n : Nat} (h : Ev te σ H (.int (n : Int))) (hn : n ≤ 100000) (Pv : Nat → L2.St → Hp → Prop) (h0 : ∀ H1, Ex H H1 → Pv 0 σ H1)
    (hs : ∀ (i : Nat) σ' H', i < n → Pv i σ' H' → tu { D with nx := Pv (i + 1), ct := Pv (i + 1), bk := tz D } (σ'.set j (some (.int ((n - 1 - i : Nat) : Int)))) H') (hd : ∀ σ' H', Pv n σ' H' → tz D σ' H') :
    tSeq (tFor (iRevR (tRg1 te)) (gName j) tu) tz D σ H := s_forRevR (D := { D with nx := tz D }) h hn Pv h0 hs hd
theorem q_setL2 {l : Addr} {l2 : List Nat} {j n : Nat} (hl : H l = some (.lst (l2.map nV))) (h : Ev te σ H (.int (n : Int))) (ho : Ev ta σ H (.ref l)) (hi : Ev tb σ H (.int (j : Int))) (hj : j < l2.length) (k : ∀ H1, Ex H H1 → tz D σ (upd H1 l (.lst ((l2.set j n).map nV)))) :
    tSeq (tAsg te (gSub ta tb rSetL)) tz D σ H := q_setL hl h ho hi (by rw [len_map]; exact hj) (by rw [set_nat]; exact k)
theorem last_neg {l : List Nat} (h : 0 < l.length) : atI (l.map nV) (-1) = some (.int ((Py.at0 l (l.length - 1) : Nat) : Int)) := by
  have e : l = l.take (l.length - 1) ++ [Py.at0 l (l.length - 1)] := by
    refine Py.ext0 (by rw [List.length_append, List.length_take, List.length_singleton]; omega) fun k hk => ?_
    rw [Py.at0_app, List.length_take, Py.at0_take]
    by_cases c : k < l.length - 1
    · rw [if_pos (by omega), if_pos c]
    · have ek : k = l.length - 1 := by omega
      rw [if_neg (by omega), ek]
      have e0 : l.length - 1 - min (l.length - 1) l.length = 0 := by omega
      rw [e0]
      rfl
  rw [e, List.map_append]
  rw [← e]
  exact atI_last _ _
end
end Mx

set_option Elab.async false
set_option linter.all false
namespace Py
open Gf
/-! ### the value as a sum of powers -/
theorem gp_add {x : Nat} (hx : x < 256) (n : Nat) : gm (gp x n) x = gp x (n + 1) := (gp_succ hx n).symm
theorem xs_lt {f : Nat → Nat} (h : ∀ k, f k < 256) : ∀ n, xs f n < 256
  | 0 => show (0 : Nat) < 256 by decide
  | n + 1 => xor_lt (xs_lt h n) (h n)
theorem xs_gm {f : Nat → Nat} {c : Nat} (h : ∀ k, f k < 256) : ∀ n, xs (fun k => gm (f k) c) n = gm (xs f n) c
  | 0 => (gm_zero (.inl rfl)).symm
  | n + 1 => by
    show xs (fun k => gm (f k) c) n ^^^ gm (f n) c = gm (xs f n ^^^ f n) c
    rw [xs_gm h n, xor_gm (xs_lt h n) (h n)]
theorem xs_xor (f g : Nat → Nat) : ∀ n, xs (fun k => f k ^^^ g k) n = xs f n ^^^ xs g n
  | 0 => (Nat.zero_xor 0).symm
  | n + 1 => by
    show xs (fun k => f k ^^^ g k) n ^^^ (f n ^^^ g n) = (xs f n ^^^ f n) ^^^ (xs g n ^^^ g n)
    rw [xs_xor f g n, Nat.xor_assoc, Nat.xor_assoc, ← Nat.xor_assoc (xs g n), Nat.xor_comm (xs g n) (f n), Nat.xor_assoc (f n)]
def ev (x : Nat) (p : List Nat) (n : Nat) : Nat := xs (fun k => gm (at0 p k) (gp x k)) n
theorem ev_cons {x c : Nat} {p : List Nat} (hx : x < 256) (h : Oc (c :: p)) (n : Nat) : ev x (c :: p) (n + 1) = gm (ev x p n) x ^^^ c := by
  unfold ev
  rw [xs_front]
  show gm c (gp x 0) ^^^ xs (fun j => gm (at0 p j) (gp x (j + 1))) n = _
  rw [gp_none, gm_one (show c < 256 from h 0), Nat.xor_comm]
  congr 1
  rw [← xs_gm (fun k => gm_lt _ _)]
  exact xs_congr fun j _ => by rw [gm_assoc, gp_add hx]
theorem horner_ev {x : Nat} (hx : x < 256) : ∀ {p : List Nat}, Oc p → horner x p = ev x p p.length
  | [], _ => rfl
  | c :: p, h => by
    show gm (horner x p) x ^^^ c = ev x (c :: p) (p.length + 1)
    rw [ev_cons hx h, horner_ev hx h.tail]
theorem ev_more {x n : Nat} {p : List Nat} (h : ∀ j, n ≤ j → at0 p j = 0) (d : Nat) : ev x p (n + d) = ev x p n := by
  refine xs_more (fun j hj => ?_) d
  rw [h j hj, gm_zero (.inl rfl)]
theorem horner_any {x n : Nat} (hx : x < 256) {p : List Nat} (ho : Oc p) (h : ∀ j, n ≤ j → at0 p j = 0) : horner x p = ev x p n := by
  rw [horner_ev hx ho]
  by_cases c : n ≤ p.length
  · have e : p.length = n + (p.length - n) := by omega
    rw [e]
    exact ev_more h _
  · have e : n = p.length + (n - p.length) := by omega
    rw [e]
    exact (ev_more (fun j hj => at0_none hj) _).symm
theorem ev_congr {x n : Nat} {p q : List Nat} (h : ∀ j, at0 p j = at0 q j) : ev x p n = ev x q n := xs_congr fun j _ => by rw [h]
theorem horner_trim {x : Nat} (hx : x < 256) {p : List Nat} (ho : Oc p) : horner x (trim p) = horner x p := by
  rw [horner_any (n := tlen p) hx (oc_trim ho) (fun j hj => by rw [at0_trim]; exact tlen_zero p j hj), horner_any (n := tlen p) hx ho (fun j hj => tlen_zero p j hj)]
  exact ev_congr (at0_trim p)
theorem at0_sum (p q : List Nat) (k : Nat) : at0 (sumL p q) k = at0 p k ^^^ at0 q k := by
  unfold sumL
  rw [at0_map]
  by_cases c : k < mx p.length q.length
  · rw [if_pos c]
  · rw [if_neg c]
    have h : p.length ≤ k ∧ q.length ≤ k := by
      unfold mx at c
      split at c <;> omega
    rw [at0_none h.1, at0_none h.2]
    rfl
theorem horner_sum {x : Nat} (hx : x < 256) {p q : List Nat} (hp : Oc p) (hq : Oc q) : horner x (sumL p q) = horner x p ^^^ horner x q := by
  have h1 : ∀ j, p.length + q.length ≤ j → at0 p j = 0 := fun j hj => at0_none (by omega)
  have h2 : ∀ j, p.length + q.length ≤ j → at0 q j = 0 := fun j hj => at0_none (by omega)
  rw [horner_any hx hp h1, horner_any hx hq h2, horner_any hx (oc_sum hp hq) (n := p.length + q.length) (fun j hj => by rw [at0_sum, h1 j hj, h2 j hj]; rfl)]
  unfold ev
  rw [← xs_xor]
  exact xs_congr fun j _ => by rw [at0_sum, xor_gm (hp j) (hq j)]
theorem at0_scale {c k : Nat} (p : List Nat) : at0 (p.map (gm c)) k = gm c (at0 p k) := by
  by_cases h : k < p.length
  · refine at0_of ?_
    rw [List.getElem?_map, at0_get h] <;> rfl
  · rw [at0_none (by rw [List.length_map]; omega), at0_none (show p.length ≤ k by omega), gm_zero (.inr rfl)]
theorem oc_scale (c : Nat) (p : List Nat) : Oc (p.map (gm c)) := fun k => by
  rw [at0_scale]
  exact gm_lt _ _
theorem horner_scale {x c : Nat} (hx : x < 256) {p : List Nat} (hp : Oc p) : horner x (p.map (gm c)) = gm c (horner x p) := by
  rw [horner_any (n := p.length) hx (oc_scale c p) (fun j hj => by rw [at0_scale, at0_none hj, gm_zero (.inr rfl)]), horner_any (n := p.length) hx hp (fun j hj => at0_none hj), gm_comm c]
  unfold ev
  rw [← xs_gm (fun k => gm_lt _ _)]
  exact xs_congr fun j _ => by rw [at0_scale, gm_comm c, gm_assoc, gm_comm c, ← gm_assoc]
theorem at0_prod {p q : List Nat} {k : Nat} : at0 (prodL p q) k = acc p q p.length k := by
  unfold prodL
  rw [at0_map]
  by_cases c : k < p.length + q.length
  · rw [if_pos c]
  · rw [if_neg c, acc_xs]
    have e : ∀ n, n ≤ p.length → xs (fun j => if j ≤ k then gm (at0 p j) (at0 q (k - j)) else 0) n = 0 := fun n => by
      induction n with
      | zero => intro _; rfl
      | succ n ih =>
        intro hn
        show xs _ n ^^^ _ = 0
        rw [ih (by omega)]
        show 0 ^^^ (if n ≤ k then gm (at0 p n) (at0 q (k - n)) else 0) = 0
        rw [if_pos (by omega), at0_none (show q.length ≤ k - n by omega), gm_zero (.inr rfl)]
        rfl
    exact (e _ (Nat.le_refl _)).symm
/-- times (c + x) -/
theorem at0_lin {p : List Nat} {c k : Nat} (hp : Oc p) : at0 (prodL p [c, 1]) k = gm c (at0 p k) ^^^ (if 1 ≤ k then at0 p (k - 1) else 0) := by
  rw [prod_comm, at0_prod]
  show (0 ^^^ (if 0 ≤ k then gm c (at0 p (k - 0)) else 0)) ^^^ (if 1 ≤ k then gm 1 (at0 p (k - 1)) else 0) = _
  rw [if_pos (Nat.zero_le _), Nat.zero_xor, Nat.sub_zero]
  by_cases h : 1 ≤ k
  · rw [if_pos h, if_pos h, gm_comm 1, gm_one (hp _)]
  · rw [if_neg h, if_neg h]
theorem horner_lin {p : List Nat} {c x : Nat} (hx : x < 256) (hc : c < 256) (hp : Oc p) : horner x (prodL p [c, 1]) = gm (horner x p) (c ^^^ x) := by
  have z : ∀ j, p.length ≤ j → at0 p j = 0 := fun j hj => at0_none hj
  rw [horner_any (n := p.length + 1) hx (oc_prod p [c, 1]) (fun j hj => by rw [at0_lin hp, z j (by omega), if_pos (by omega), z (j - 1) (by omega), gm_zero (.inr rfl)]; rfl), gm_xor hc hx]
  have e1 : ev x (prodL p [c, 1]) (p.length + 1) = xs (fun k => gm (gm c (at0 p k)) (gp x k)) (p.length + 1) ^^^ xs (fun k => gm (if 1 ≤ k then at0 p (k - 1) else 0) (gp x k)) (p.length + 1) := by
    rw [← xs_xor]
    unfold ev
    refine xs_congr fun j _ => ?_
    rw [at0_lin hp, xor_gm (gm_lt _ _) ?_]
    split
    · exact hp _
    · decide
  rw [e1]
  congr 1
  · have e2 : xs (fun k => gm (gm c (at0 p k)) (gp x k)) (p.length + 1) = xs (fun k => gm (gm (at0 p k) (gp x k)) c) (p.length + 1) := xs_congr fun j _ => by rw [gm_assoc, gm_comm c]
    rw [e2, xs_gm (fun k => gm_lt _ _), horner_any (n := p.length + 1) hx hp (fun j hj => z j (by omega))]
    rfl
  · rw [xs_front]
    show gm 0 (gp x 0) ^^^ xs (fun j => gm (if 1 ≤ j + 1 then at0 p (j + 1 - 1) else 0) (gp x (j + 1))) p.length = _
    rw [gm_zero (.inl rfl), Nat.zero_xor, horner_any (n := p.length) hx hp z]
    unfold ev
    rw [← xs_gm (fun k => gm_lt _ _)]
    exact xs_congr fun j _ => by
      rw [if_pos (by omega), Nat.add_sub_cancel, gm_assoc, gp_add hx]
theorem tlen_le_of {p : List Nat} {n : Nat} (h : ∀ k, n ≤ k → at0 p k = 0) : tlen p ≤ n := by
  rcases tlen_last p with z | z
  · omega
  · by_cases c : tlen p ≤ n
    · exact c
    · exact absurd (h _ (by omega)) z
theorem xor_zero_iff {a b : Nat} : a ^^^ b = 0 ↔ a = b := by
  constructor
  · intro h
    have e : (a ^^^ b) ^^^ b = 0 ^^^ b := by rw [h]
    rw [Nat.xor_assoc, Nat.xor_self, Nat.xor_zero, Nat.zero_xor] at e
    exact e
  · intro h
    rw [h, Nat.xor_self]
/-- the state behind some points -/
structure Ip (ps : List (Nat × Nat)) (r v : List Nat) : Prop where
  orr : Oc r
  ov : Oc v
  tr : tlen r = r.length
  lr : r.length ≤ ps.length
  lv : v.length ≤ ps.length + 1
  val : ∀ q ∈ ps, horner q.1 r = q.2
  van : ∀ x, x < 256 → (horner x v = 0 ↔ ∃ q ∈ ps, q.1 = x)
theorem ip_start : Ip [] [] [1] := by
  refine ⟨oc_nil, oc_of fun c hc => ?_, rfl, Nat.le_refl _, Nat.le_refl _, fun q hq => (by cases hq), fun x hx => ?_⟩
  · simp at hc
    omega
  · constructor
    · intro h
      have e : horner x [1] = 1 := by
        show gm 0 x ^^^ 1 = 1
        rw [gm_zero (.inl rfl)]
        rfl
      omega
    · rintro ⟨q, hq, _⟩
      cases hq
theorem ip_step {ps : List (Nat × Nat)} {r v : List Nat} {x y : Nat} (h : Ip ps r v) (hp : ∀ q ∈ ps, q.1 < 256) (hx : x < 256) (hy : y < 256) (hn : ¬ horner x v = 0) :
    Ip (ps ++ [(x, y)]) (trim (sumL r (v.map (gm (gm (y ^^^ horner x r) (gi (horner x v))))))) (trim (prodL v [x, 1])) := by
  have hv := horner_lt (x := x) h.ov
  have hr := horner_lt (x := x) h.orr
  generalize hf : gm (y ^^^ horner x r) (gi (horner x v)) = f
  refine ⟨oc_trim (oc_sum h.orr (oc_scale f v)), oc_trim (oc_prod _ _), tlen_trim _, ?_, ?_, fun q hq => ?_, fun z hz => ?_⟩
  · rw [trim_length, List.length_append, List.length_singleton]
    refine tlen_le_of fun k hk => ?_
    have := h.lr
    have := h.lv
    rw [at0_sum, at0_scale, at0_none (show r.length ≤ k by omega), at0_none (show v.length ≤ k by omega), gm_zero (.inr rfl)]
    rfl
  · rw [trim_length, List.length_append, List.length_singleton]
    refine tlen_le_of fun k hk => ?_
    have := h.lv
    rw [at0_lin h.ov, at0_none (show v.length ≤ k by omega), if_pos (by omega), at0_none (show v.length ≤ k - 1 by omega), gm_zero (.inr rfl)]
    rfl
  · rcases List.mem_append.mp hq with m | m
    · have q1 := hp q m
      rw [horner_trim q1 (oc_sum h.orr (oc_scale f v)), horner_sum q1 h.orr (oc_scale f v), horner_scale q1 h.ov, (h.van q.1 q1).mpr ⟨q, m, rfl⟩, gm_zero (.inr rfl), Nat.xor_zero]
      exact h.val q m
    · have e : q = (x, y) := by simpa using m
      rw [e]
      show horner x _ = y
      rw [horner_trim hx (oc_sum h.orr (oc_scale f v)), horner_sum hx h.orr (oc_scale f v), horner_scale hx h.ov, ← hf, gm_assoc, gm_comm (gi _), gm_gi hv hn, gm_one (xor_lt hy hr), Nat.xor_comm y, ← Nat.xor_assoc, Nat.xor_self, Nat.zero_xor]
  · rw [horner_trim hz (oc_prod _ _), horner_lin hz hx h.ov]
    constructor
    · intro e
      by_cases c : horner z v = 0
      · obtain ⟨q, hq, e2⟩ := (h.van z hz).mp c
        exact ⟨q, List.mem_append_left _ hq, e2⟩
      · by_cases c2 : x ^^^ z = 0
        · exact ⟨(x, y), by simp, xor_zero_iff.mp c2⟩
        · exact absurd e (gm_ne c c2)
    · rintro ⟨q, hq, e⟩
      rcases List.mem_append.mp hq with m | m
      · rw [(h.van z hz).mpr ⟨q, m, e⟩, gm_zero (.inl rfl)]
      · have e2 : q = (x, y) := by simpa using m
        rw [e2] at e
        have e3 : x = z := e
        rw [e3, Nat.xor_self, gm_zero (.inr rfl)]
end Py

set_option Elab.async false
set_option linter.all false
set_option maxRecDepth 100000
set_option maxHeartbeats 4000000
namespace Mx
open PySem PySem.Spec PyProof.Rows L2 Evl
theorem erase_perm : ∀ (l : List Nat) (i : Nat) (h : i < l.length), (Py.at0 l i :: l.eraseIdx i).Perm l
  | [], i, h => absurd h (Nat.not_lt_zero _)
  | a :: l, 0, _ => List.Perm.refl _
  | a :: l, i + 1, h => by
    have ih := erase_perm l i (by simpa using h)
    show (Py.at0 l i :: a :: l.eraseIdx i).Perm (a :: l)
    exact (List.Perm.swap _ _ _).trans (ih.cons a)
section
variable {K : PySem.W.Frag} {σ : L2.St} {H H' : Hp} {ta tb te tx : TE} {t u : TT} {x y z v : V} {r : R2} {xs ys zs : List V} {p q : Addr} {D : Ends} {tu tw tz : TS} {g : TG} {vss : List (List V)}
theorem el_call2VL {sp : Sp} {E : XK} (h1 : Ev ta σ H x) (h2 : EvL tb σ H ys) (hs : ∀ q H1, Ex H H1 → H1 q = some (.lst ys) → SpL sp ([x, .ref q] ++ []) H1 zs) : EvL (tCall sp [] E (tCons ta (tCons tb tNil))) σ H zs := fun H1 e Q k =>
  h1 H1 e _ fun H2 e2 => h2 H2 (e.trans e2) _ fun q H3 _ e3 hq => hs q H3 ((e.trans e2).trans e3) hq H3 (Ex.refl _) Q (fun p2 H4 n4 e4 h4 => k p2 H4 (fresh_back (e2.trans e3) n4) ((e2.trans e3).trans e4) h4) E
/-- a list of tuples -/
def TL (H : Hp) (p : Addr) (vss : List (List V)) : Prop := ∃ rs : List Addr, H p = some (.lst (rs.map V.ref)) ∧ TupsAt H rs vss
theorem TL.up (h : TL H p vss) (e : Ex H H') : TL H' p vss := by
  obtain ⟨rs, h1, h2⟩ := h
  exact ⟨rs, e _ _ h1, h2.mono e⟩
def EvTL (te : TE) (σ : L2.St) (H : Hp) (vss : List (List V)) : Prop := ∀ H1, Ex H H1 → ∀ Q : VK, (∀ p H2, H1 p = none → Ex H1 H2 → TL H2 p vss → Q (.ref p) H2) → te σ H1 Q
theorem q_asgTL {i : Nat} (h : EvTL te σ H vss) (k : ∀ p H1, H p = none → Ex H H1 → TL H1 p vss → tz D (σ.set i (some (.ref p))) H1) : tSeq (tAsg te (gName i)) tz D σ H := h H (Ex.refl H) _ k
theorem TupsAt.snoc {rs : List Addr} {a : Addr} {vs : List V} : ∀ {rs : List Addr} {vss : List (List V)}, TupsAt H rs vss → H a = some (.tup vs) → TupsAt H (rs ++ [a]) (vss ++ [vs])
  | _, _, .nil, h => .cons h .nil
  | _, _, .cons h t, h2 => .cons h (TupsAt.snoc (rs := rs) t h2)
def Ct (H : Hp) (vss : List (List V)) (Dl : Addr) (i : Nat) (H' : Hp) : Prop := H Dl = none ∧ Ex H H' ∧ ∃ rs : List Addr, H' Dl = some (.lst (rs.map V.ref)) ∧ TupsAt H' rs (vss.take i)
theorem ct_turn {σ2 : L2.St} {Dl : Addr} {i : Nat} {vs : List V} (hp : Ct H vss Dl i H') (hi : vss[i]? = some vs) (hz : vss.length ≤ 40000) (he : EvU te σ2 H vs) :
    tYes σ2 H' fun b H3 => if b = true then te σ2 H3 fun y H4 => ∃ acc, H4 Dl = some (.lst acc) ∧ acc.length < sizeLine ∧ Ct H vss Dl (i + 1) (upd H4 Dl (.lst (acc ++ [y]))) else Ct H vss Dl (i + 1) H3 := by
  obtain ⟨p1, p2, rs, p3, p4⟩ := hp
  show te σ2 H' fun y H4 => ∃ acc, H4 Dl = some (.lst acc) ∧ acc.length < sizeLine ∧ Ct H vss Dl (i + 1) (upd H4 Dl (.lst (acc ++ [y])))
  refine he H' p2 _ fun a H4 na e4 ha => ⟨_, e4 Dl _ p3, sz_lt (by rw [List.length_map, p4.len, List.length_take]; omega), p1, Ex.mut (p2.trans e4) p1, rs ++ [a], ?_, ?_⟩
  · rw [upd_same, List.map_append] <;> rfl
  · have hne : a ≠ Dl := (ne_of_none p3 na).symm
    have k : ∀ b us, H4 b = some (.tup us) → (upd H4 Dl (.lst (rs.map V.ref ++ [.ref a]))) b = some (.tup us) := fun b us hb => by
      have hb2 : b ≠ Dl := fun z => by
        rw [z, e4 Dl _ p3] at hb
        cases hb
      rw [upd_ne hb2]
      exact hb
    have k3 : ∀ (l : List V) {rs2 : List Addr} {wss : List (List V)}, TupsAt H4 rs2 wss → TupsAt (upd H4 Dl (.lst l)) rs2 wss := fun l => by
      intro rs2 wss h
      induction h with
      | nil => exact .nil
      | cons h1 _ ih =>
        refine .cons ?_ ih
        have hb2 : ∀ b us, H4 b = some (.tup us) → b ≠ Dl := fun b us hb z => by
          rw [z, e4 Dl _ p3] at hb
          cases hb
        rw [upd_ne (hb2 _ _ h1)]
        exact h1
    rw [List.take_add_one, hi]
    exact k3 _ ((p4.mono e4).snoc (rs := rs) ha)
theorem et_zR {ta : TA} {j : Nat} {vs : List Nat} {n : Nat} (h : EvA ta σ H [.int (n : Int)]) (hz : vss.length = n) (hn : n ≤ 40000) (hw : ∀ x, wipe ((wipe σ vs).set j (some x)) vs = wipe σ vs)
    (he : ∀ (i : Nat) (us : List V) H1, Ex H H1 → vss[i]? = some us → EvU te ((wipe σ vs).set j (some (.int (i : Int)))) H1 us) : EvTL (tLc (iRng1 ta) (gName j) tYes te vs) σ H vss := fun H0 e Q q => h H0 e _ fun H1 e1 => ⟨(n : Int), rfl, by omega, by omega, fun Dl hD =>
  lc_range (lo := 0) (n := (n : Int).toNat) (Ct H1 vss Dl) ⟨hD, Ex.new hD, [], by rw [upd_same] <;> rfl, by rw [List.take_zero]; exact .nil⟩ (fun i H' hi p => by
    have e0 : (0 : Int) + (i : Int) = (i : Int) := Int.zero_add _
    have hl : i < vss.length := by omega
    show wipe ((wipe σ vs).set j (some (.int ((0 : Int) + (i : Int))))) vs = wipe σ vs ∧ tYes ((wipe σ vs).set j (some (.int ((0 : Int) + (i : Int))))) H' fun b H3 => if b = true then te ((wipe σ vs).set j (some (.int ((0 : Int) + (i : Int))))) H3 fun y H4 => ∃ acc, H4 Dl = some (.lst acc) ∧ acc.length < sizeLine ∧ Ct H1 vss Dl (i + 1) (upd H4 Dl (.lst (acc ++ [y]))) else Ct H1 vss Dl (i + 1) H3
    rw [e0]
    exact ⟨hw _, ct_turn p (List.getElem?_eq_getElem hl) (by omega) (he i _ H1 (e.trans e1) (List.getElem?_eq_getElem hl))⟩) (fun H' p => by
      obtain ⟨p1, p2, rs, p3, p4⟩ := p
      exact q Dl H' (fresh_back e1 p1) (e1.trans p2) ⟨rs, p3, by rw [List.take_of_length_le (by omega)] at p4; exact p4⟩)⟩
/-- list(a list of tuples) -/
theorem et_list (ha : Ev ta σ H (.ref p)) (h : TL H p vss) : EvTL (tCB (fun xs H Q => ∃ p ys, xs = [.ref p] ∧ (SqL K H p ys ∨ SqT K H p ys) ∧ ∀ l, H l = none → Q (.ref l) (upd H l (.lst ys))) (tCons ta tNil)) σ H vss := fun H1 e Q k => by
  obtain ⟨rs, h1, h2⟩ := h
  exact ha H1 e _ fun H2 e2 => ⟨p, _, rfl, Or.inl (sq_of (e2 _ _ (e _ _ h1))), fun l hl => k l _ (fresh_back e2 hl) (e2.trans (Ex.new hl)) ⟨rs, upd_same, h2.mono ((e.trans e2).trans (Ex.new hl))⟩⟩
/-- a loop over a list of tuples that the turns leave -/
theorem q_forTL {n : Nat} {tg : TGs} (h : Ev te σ H (.ref p)) (hT : TL H p vss) (hn : ∀ vs ∈ vss, vs.length = n) (Pv : Nat → L2.St → Hp → Prop) (h0 : ∀ H1, Ex H H1 → Pv 0 σ H1) (hE : ∀ i σ' H', Pv i σ' H' → Ex H H')
    (hs : ∀ i vs σ' H', vss[i]? = some vs → Pv i σ' H' → tg vs σ' H' fun σ2 H2 => tu { D with nx := Pv (i + 1), ct := Pv (i + 1), bk := tz D } σ2 H2) (hd : ∀ σ' H', Pv vss.length σ' H' → tz D σ' H') :
    tSeq (tFor (iList K te) (gTup K n tg) tu) tz D σ H := by
  obtain ⟨rs, h1, h2⟩ := hT
  refine q_forL h (sq_of h1) Pv h0 (fun i σ' H' _ pv => sq_of (hE i σ' H' pv _ _ h1)) (fun i x σ' H' hi pv => ?_) (fun σ' H' pv => hd σ' H' (by rw [List.length_map, h2.len] at pv; exact pv))
  obtain ⟨a, vs, rfl, hv, ha⟩ := (h2.mono (hE i σ' H' pv)).get hi
  exact ⟨a, vs, rfl, st_of ha, hn vs (List.mem_of_getElem? hv), hs i vs σ' H' hv pv⟩
/-- points as values -/
def tv (ps : List (Nat × Nat)) : List (List V) := ps.map fun q => [nV q.1, nV q.2]
def dT (q : Nat × Nat) : PyData := .tuple [.int (q.1 : Int), .int (q.2 : Int)]
theorem dp_tups : ∀ {rs : List Addr} {ps : List (Nat × Nat)}, TupsAt H rs (tv ps) → DpAll K H (rs.map V.ref) (ps.map dT)
  | [], [], _ => .nil
  | [], _ :: _, h => by cases h
  | _ :: _, [], h => by cases h
  | r :: rs, q :: ps, h => by
    cases h with
    | cons h1 h2 => exact .cons (.tup (st_of h1) (.cons (.int _) (.cons (.int _) .nil))) (dp_tups h2)
theorem lay_tups : ∀ ps : List (Nat × Nat), PyData.canLayAll0 (ps.map dT) = true ∧ PyData.depthAll (ps.map dT) ≤ 1
  | [] => ⟨rfl, Nat.zero_le _⟩
  | q :: ps => by
    have ih := lay_tups ps
    refine ⟨?_, ?_⟩
    · show (PyData.canLay0 (dT q) && PyData.canLayAll0 (ps.map dT)) = true
      rw [ih.1] <;> rfl
    · show max (PyData.depth (dT q)) (PyData.depthAll (ps.map dT)) ≤ 1
      have : PyData.depth (dT q) = 1 := rfl
      omega
theorem shaped_tups (ps : List (Nat × Nat)) : SeqAt.shaped (.list (ps.map dT)) = true := by
  unfold SeqAt.shaped
  have h1 : PyData.canLay0 (.list (ps.map dT)) = true := (lay_tups ps).1
  have h2 : PyData.depth (.list (ps.map dT)) ≤ 2 := by
    show PyData.depthAll (ps.map dT) + 1 ≤ 2
    have := (lay_tups ps).2
    omega
  rw [h1, decide_eq_true (show PyData.depth (.list (ps.map dT)) ≤ 64 by omega)] <;> rfl
theorem rv_eqTL {ps : List (Nat × Nat)} (h : TL H p (tv ps)) (h2 : TL H q (tv ps)) : RV (rEqD K) (.ref p) (.ref q) H (.bl true) := by
  obtain ⟨rs, a1, a2⟩ := h
  obtain ⟨ss, b1, b2⟩ := h2
  exact rv_eqD (d := .list (ps.map dT)) (.lst (sq_of a1) (dp_tups a2)) (.lst (sq_of b1) (dp_tups b2)) (shaped_tups ps)
/-- xs[j] = (a, b) -/
theorem q_setT {j : Nat} {vs : List V} (hT : TL H p vss) (h : EvU te σ H vs) (ho : Ev ta σ H (.ref p)) (hi : Ev tb σ H (.int (j : Int))) (hj : j < vss.length) (k : ∀ H1 H2, Ex H H1 → (∀ l, H2 = upd H1 p l → TL H2 p (vss.set j vs) → tz D σ H2)) :
    tSeq (tAsg te (gSub ta tb rSetL)) tz D σ H := h H (Ex.refl H) _ fun a H1 na e1 ha => ho H1 e1 _ fun H2 e2 => hi H2 (e1.trans e2) _ fun H3 e3 => by
  obtain ⟨rs, h1, h2⟩ := hT
  have e13 := (e1.trans e2).trans e3
  have hj2 : j < (rs.map V.ref).length := by rw [List.length_map, h2.len]; exact hj
  refine ⟨p, _, (j : Int), j, rfl, rfl, e13 _ _ h1, ixN_nat hj2, ?_⟩
  refine k H3 _ e13 _ rfl ⟨rs.set j a, by rw [upd_same, List.map_set], ?_⟩
  have h3 := h2.mono e13
  have ha3 : H3 a = some (.tup vs) := e3 _ _ (e2 _ _ ha)
  have k3 : ∀ (l : List V) {rs2 : List Addr} {wss : List (List V)}, TupsAt H3 rs2 wss → TupsAt (upd H3 p (.lst l)) rs2 wss := fun l => by
    intro rs2 wss h
    induction h with
    | nil => exact .nil
    | cons h1' _ ih =>
      refine .cons ?_ ih
      have hb2 : ∀ b us, H3 b = some (.tup us) → b ≠ p := fun b us hb z => by
        rw [z, e13 _ _ h1] at hb
        cases hb
      rw [upd_ne (hb2 _ _ h1')]
      exact h1'
  have st : ∀ {rs : List Addr} {wss : List (List V)} (j : Nat), TupsAt H3 rs wss → TupsAt H3 (rs.set j a) (wss.set j vs) := by
    intro rs wss j h
    induction h generalizing j with
    | nil => exact .nil
    | cons h1' t ih =>
      cases j with
      | zero => exact .cons ha3 t
      | succ j => exact .cons h1' (ih j)
  exact k3 _ (st j h3)
/-- name = a call, told by what the callee promises -/
theorem q_asg_raw {i : Nat} {sp : Sp} {vs : List V} {E : XK} {ta : TA} (h : EvA ta σ H vs) (k : ∀ H1, Ex H H1 → sp (vs ++ []) H1 (fun v H2 => tz D (σ.set i (some v)) H2) E) : tSeq (tAsg (tCall sp [] E ta) (gName i)) tz D σ H := h H (Ex.refl H) _ fun H1 e1 => k H1 e1
theorem q_drop1T {sp : Sp} {E : XK} (h : EvTL te σ H vss) (k : ∀ p H1, H p = none → Ex H H1 → TL H1 p vss → sp ([.ref p] ++ []) H1 (fun _ H2 => D.nx σ H2) E) : tDrop (tCall sp [] E (tCons te tNil)) D σ H := h H (Ex.refl H) _ k
end
end Mx

set_option Elab.async false
set_option linter.all false
namespace Py
open Gf
theorem range_get {α : Type} {f : Nat → α} {n k : Nat} (h : k < n) : ((List.range n).map f)[k]? = some (f k) := by
  rw [List.getElem?_map, List.getElem?_range h] <;> rfl
/-! ### matrices: lists of rows -/
abbrev at1 (M : List (List Nat)) (j : Nat) : List Nat := M.getD j []
theorem at1_get {M : List (List Nat)} {j : Nat} (h : j < M.length) : M[j]? = some (at1 M j) := by
  unfold at1
  rw [List.getD_eq_getElem?_getD, List.getElem?_eq_getElem h] <;> rfl
theorem at1_of {M : List (List Nat)} {j : Nat} {r : List Nat} (h : M[j]? = some r) : at1 M j = r := by
  unfold at1
  rw [List.getD_eq_getElem?_getD, h] <;> rfl
/-- a matrix with so many rows and columns -/
structure Mt (M : List (List Nat)) (r c : Nat) : Prop where
  rows : M.length = r
  cols : ∀ l ∈ M, l.length = c
  oct : ∀ l ∈ M, Oc l
theorem Mt.at {M : List (List Nat)} {r c j : Nat} (h : Mt M r c) (hj : j < r) : (at1 M j).length = c ∧ Oc (at1 M j) := by
  have hm : at1 M j ∈ M := List.mem_of_getElem? (at1_get (by rw [h.rows]; exact hj))
  exact ⟨h.cols _ hm, h.oct _ hm⟩
/-- the rows of a list of digits -/
def rowsOf (D : List Nat) (r c : Nat) : List (List Nat) := (List.range r).map fun j => (D.drop (j * c)).take c
theorem rowsOf_mt {D : List Nat} {r c : Nat} (hl : D.length = r * c) (ho : Oc D) : Mt (rowsOf D r c) r c := by
  unfold rowsOf
  refine ⟨by simp, fun l hl2 => ?_, fun l hl2 => ?_⟩
  · obtain ⟨j, hj, rfl⟩ := List.mem_map.mp hl2
    have hj := List.mem_range.mp hj
    rw [List.length_take, List.length_drop, hl]
    have : (j + 1) * c ≤ r * c := Nat.mul_le_mul_right c hj
    have e : (j + 1) * c = j * c + c := by rw [Nat.add_mul, Nat.one_mul]
    omega
  · obtain ⟨j, hj, rfl⟩ := List.mem_map.mp hl2
    exact (ho.drop _).take _
/-- a sum of multiples of rows -/
def combN (fs : List Nat) (M : List (List Nat)) (w n : Nat) : List Nat := (List.range w).map fun k => xs (fun j => gm (at0 fs j) (at0 (at1 M j) k)) n
def comb (fs : List Nat) (M : List (List Nat)) (w : Nat) : List Nat := combN fs M w fs.length
theorem combN_zero (fs : List Nat) (M : List (List Nat)) (w : Nat) : combN fs M w 0 = List.replicate w 0 := by
  refine ext0 (by unfold combN; simp) fun k hk => ?_
  unfold combN at *
  rw [List.length_map, List.length_range] at hk
  rw [at0_map, if_pos hk]
  refine (at0_of ?_).symm
  rw [List.getElem?_replicate, if_pos hk] <;> rfl
theorem combN_length (fs : List Nat) (M : List (List Nat)) (w n : Nat) : (combN fs M w n).length = w := by
  unfold combN
  simp
theorem combN_oct (fs : List Nat) (M : List (List Nat)) (w n : Nat) : Oc (combN fs M w n) := oc_map (fun k => xs_lt (fun j => gm_lt _ _) n) w
theorem combN_skip {fs : List Nat} {M : List (List Nat)} {w n : Nat} (h : at0 fs n = 0) : combN fs M w (n + 1) = combN fs M w n := by
  unfold combN
  refine List.map_congr_left fun k _ => ?_
  show xs _ n ^^^ gm (at0 fs n) _ = xs _ n
  rw [gm_zero (.inl h), Nat.xor_zero]
theorem combN_next {fs : List Nat} {M : List (List Nat)} {w n : Nat} (hl : (at1 M n).length = w) : combN fs M w (n + 1) = List.zipWith (fun a b => a ^^^ gm (at0 fs n) b) (combN fs M w n) (at1 M n) := by
  refine ext0 (by rw [combN_length, List.length_zipWith, combN_length, hl, Nat.min_self]) fun k hk => ?_
  rw [combN_length] at hk
  refine (at0_of (v := at0 (combN fs M w (n + 1)) k) ?_).symm
  rw [List.getElem?_zipWith, at0_get (by rw [combN_length]; exact hk), at0_get (by rw [hl]; exact hk)]
  show some _ = some _
  congr 1
  unfold combN
  rw [at0_map, at0_map, if_pos hk, if_pos hk]
  rfl
/-- the product of a row and a column -/
def dot (a b : List Nat) : Nat := xs (fun k => gm (at0 a k) (at0 b k)) a.length
theorem dot_lt (a b : List Nat) : dot a b < 256 := xs_lt (fun k => gm_lt _ _) _
def colsOf (M : List (List Nat)) (w : Nat) : List (List Nat) := (List.range w).map fun k => M.map fun r => at0 r k
theorem dot_col {a : List Nat} {M : List (List Nat)} {k : Nat} (h : a.length = M.length) : dot a (M.map fun r => at0 r k) = xs (fun j => gm (at0 a j) (at0 (at1 M j) k)) a.length := by
  unfold dot
  refine xs_congr fun j hj => ?_
  congr 1
  refine at0_of ?_
  rw [List.getElem?_map, at1_get (by omega)] <;> rfl
def times (A M : List (List Nat)) (w : Nat) : List (List Nat) := A.map fun r => (colsOf M w).map fun c => dot r c
theorem times_eq {A M : List (List Nat)} {h n w : Nat} (hA : Mt A h n) (hM : M.length = n) : times A M w = A.map fun r => comb r M w := by
  unfold times
  refine List.map_congr_left fun r hr => ?_
  unfold colsOf comb combN
  rw [List.map_map]
  refine List.map_congr_left fun k _ => ?_
  exact dot_col (by rw [hA.cols r hr, hM])
theorem prod_mt {A M : List (List Nat)} {h n w : Nat} (hA : Mt A h n) : Mt (A.map fun r => comb r M w) h w := by
  refine ⟨by rw [List.length_map, hA.rows], fun l hl => ?_, fun l hl => ?_⟩
  · obtain ⟨r, _, rfl⟩ := List.mem_map.mp hl
    exact combN_length _ _ _ _
  · obtain ⟨r, _, rfl⟩ := List.mem_map.mp hl
    exact combN_oct _ _ _ _
/-- a column as a matrix -/
def colM (v : List Nat) : List (List Nat) := v.map fun x => [x]
theorem comb_col {r v : List Nat} (h : r.length = v.length) : at0 (comb r (colM v) 1) 0 = dot r v := by
  unfold comb combN dot
  rw [at0_map, if_pos (by decide)]
  refine xs_congr fun j hj => ?_
  congr 1
  unfold colM
  rw [at1_of (r := [at0 v j]) (by rw [List.getElem?_map, at0_get (by omega)]; rfl)]
  rfl
def unit (n : Nat) : List (List Nat) := (List.range n).map fun i => (List.range n).map fun j => if i = j then 1 else 0
theorem unit_mt (n : Nat) : Mt (unit n) n n := by
  unfold unit
  refine ⟨by simp, fun l hl => ?_, fun l hl => ?_⟩
  · obtain ⟨i, _, rfl⟩ := List.mem_map.mp hl
    simp
  · obtain ⟨i, _, rfl⟩ := List.mem_map.mp hl
    refine oc_map (fun k => ?_) n
    split <;> decide
def vand (xs : List Nat) (w : Nat) : List (List Nat) := xs.map fun x => (List.range w).map fun k => gp x k
theorem vand_mt (xs : List Nat) (w : Nat) : Mt (vand xs w) xs.length w := by
  unfold vand
  refine ⟨by simp, fun l hl => ?_, fun l hl => ?_⟩
  · obtain ⟨x, _, rfl⟩ := List.mem_map.mp hl
    simp
  · obtain ⟨x, _, rfl⟩ := List.mem_map.mp hl
    exact oc_map (fun k => gp_lt _ _) w
end Py

set_option Elab.async false
set_option linter.all false
set_option maxRecDepth 100000
set_option maxHeartbeats 4000000
namespace Mx
open PySem PySem.Spec PyProof.Rows L2 Evl
section
variable {K : PySem.W.Frag} {σ : L2.St} {H H0 H' : Hp} {ta0 : TA} {ta tb tc te tx : TE} {t u : TT} {x y z v : V} {r : R2} {xs ys zs : List V} {p q : Addr} {D : Ends} {tu tw tz : TS} {g : TG} {M N : List (List Nat)} {rs : List Addr}
/-! ### lists of lists of numbers -/
def LR (H : Hp) (rs : List Addr) (M : List (List Nat)) : Prop := Paired (fun r l => LN H r l) rs M
theorem LR.mono (e : Ex H H') (h : LR H rs M) : LR H' rs M := Paired.mono (fun _ _ q => LN.up q e) h
theorem LR.len (h : LR H rs M) : rs.length = M.length := Paired.length h
theorem LR.at : ∀ {rs : List Addr} {M : List (List Nat)} {k : Nat}, LR H rs M → k < M.length → ∃ r, rs[k]? = some r ∧ LN H r (Py.at1 M k)
  | _, _, _, .nil, h => absurd h (Nat.not_lt_zero _)
  | _, _, 0, .cons h _, _ => ⟨_, rfl, h⟩
  | _, _, k + 1, .cons _ t, h => LR.at (k := k) t (by simpa using h)
theorem LR.of {k : Nat} {v : V} (h : LR H rs M) (hv : (rs.map V.ref)[k]? = some v) : ∃ r, v = .ref r ∧ k < M.length ∧ LN H r (Py.at1 M k) := by
  have hk : k < M.length := by
    rw [← h.len]
    simpa using (List.getElem?_eq_some_iff.mp hv).1
  obtain ⟨r, h1, h2⟩ := h.at hk
  rw [List.getElem?_map, h1] at hv
  exact ⟨r, (Option.some.inj hv).symm, hk, h2⟩
def MN (H : Hp) (p : Addr) (M : List (List Nat)) : Prop := ∃ rs : List Addr, H p = some (.lst (rs.map V.ref)) ∧ LR H rs M
theorem MN.up (h : MN H p M) (e : Ex H H') : MN H' p M := by
  obtain ⟨rs, h1, h2⟩ := h
  exact ⟨rs, e _ _ h1, h2.mono e⟩
/-- .. whose rows are new ones -/
def MF (H0 H : Hp) (p : Addr) (M : List (List Nat)) : Prop := ∃ rs : List Addr, H p = some (.lst (rs.map V.ref)) ∧ LR H rs M ∧ ∀ r ∈ rs, H0 r = none
theorem MF.mn (h : MF H0 H p M) : MN H p M := by
  obtain ⟨rs, h1, h2, _⟩ := h
  exact ⟨rs, h1, h2⟩
theorem MF.back (h : MF H0 H p M) (e : Ex H' H0) : MF H' H p M := by
  obtain ⟨rs, h1, h2, h3⟩ := h
  exact ⟨rs, h1, h2, fun r hr => fresh_back e (h3 r hr)⟩
theorem MF.up (h : MF H0 H p M) (e : Ex H H') : MF H0 H' p M := by
  obtain ⟨rs, h1, h2, h3⟩ := h
  exact ⟨rs, e _ _ h1, h2.mono e, h3⟩
def EvM (te : TE) (σ : L2.St) (H : Hp) (M : List (List Nat)) : Prop := ∀ H1, Ex H H1 → ∀ Q : VK, (∀ p H2, H1 p = none → Ex H1 H2 → MF H1 H2 p M → Q (.ref p) H2) → te σ H1 Q
def RetM (M : List (List Nat)) (H : Hp) (Q : VK) : Prop := ∀ p H', H p = none → Ex H H' → MF H H' p M → Q (.ref p) H'
def SpM (sp : Sp) (vs : List V) (H : Hp) (M : List (List Nat)) : Prop := ∀ H1, Ex H H1 → ∀ Q : VK, (∀ p H2, H1 p = none → Ex H1 H2 → MF H1 H2 p M → Q (.ref p) H2) → ∀ E : XK, sp vs H1 Q E
theorem em_call {sp : Sp} {dvs vs : List V} {E : XK} {ta : TA} (h : EvA ta σ H vs) (hs : SpM sp (vs ++ dvs) H M) : EvM (tCall sp dvs E ta) σ H M := fun H1 e Q q =>
  h H1 e _ fun H2 e2 => hs H2 (e.trans e2) Q (fun p H3 n3 e3 h3 => q p H3 (fresh_back e2 n3) (e2.trans e3) (h3.back e2)) E
theorem s_retM (h : EvM te σ H M) (k : ∀ p H1, H p = none → Ex H H1 → MF H H1 p M → D.rt (.ref p) H1) : tRet te D σ H := h H (Ex.refl H) _ k
theorem q_asgM {i : Nat} (h : EvM te σ H M) (k : ∀ p H1, H p = none → Ex H H1 → MF H H1 p M → tz D (σ.set i (some (.ref p))) H1) : tSeq (tAsg te (gName i)) tz D σ H := h H (Ex.refl H) _ k
theorem em_is (h : EvM te σ H M) (e : M = N) : EvM te σ H N := e ▸ h
/-! comprehensions of lists -/
def Cm (H : Hp) (M : List (List Nat)) (Dl : Addr) (i : Nat) (H' : Hp) : Prop := H Dl = none ∧ Ex H H' ∧ ∃ rs : List Addr, H' Dl = some (.lst (rs.map V.ref)) ∧ LR H' rs (M.take i) ∧ ∀ r ∈ rs, H r = none ∧ r ≠ Dl
theorem lr_upd {Dl : Addr} {o : HO} : ∀ {rs : List Addr} {M : List (List Nat)}, LR H rs M → (∀ r ∈ rs, r ≠ Dl) → LR (upd H Dl o) rs M
  | _, _, .nil, _ => .nil
  | _, _, .cons h t, n => .cons (by
      show upd H Dl o _ = _
      rw [upd_ne (n _ (List.mem_cons_self ..))]
      exact h) (lr_upd t fun r hr => n r (List.mem_cons_of_mem _ hr))
theorem cm_turn {σ2 : L2.St} {Dl : Addr} {i : Nat} {l : List Nat} (hp : Cm H M Dl i H') (hi : M[i]? = some l) (hz : M.length ≤ 40000) (he : EvL te σ2 H (l.map nV)) :
    tYes σ2 H' fun b H3 => if b = true then te σ2 H3 fun y H4 => ∃ acc, H4 Dl = some (.lst acc) ∧ acc.length < sizeLine ∧ Cm H M Dl (i + 1) (upd H4 Dl (.lst (acc ++ [y]))) else Cm H M Dl (i + 1) H3 := by
  obtain ⟨p1, p2, rs, p3, p4, p5⟩ := hp
  show te σ2 H' fun y H4 => ∃ acc, H4 Dl = some (.lst acc) ∧ acc.length < sizeLine ∧ Cm H M Dl (i + 1) (upd H4 Dl (.lst (acc ++ [y])))
  refine he H' p2 _ fun a H4 na e4 ha => ⟨_, e4 Dl _ p3, sz_lt (by rw [List.length_map, p4.len, List.length_take]; omega), p1, Ex.mut (p2.trans e4) p1, rs ++ [a], ?_, ?_, ?_⟩
  · rw [upd_same, List.map_append] <;> rfl
  · have hne : a ≠ Dl := (ne_of_none p3 na).symm
    rw [List.take_add_one, hi]
    refine Paired.snoc (lr_upd (p4.mono e4) fun r hr => (p5 r hr).2) ?_
    show upd H4 Dl _ a = _
    rw [upd_ne hne]
    exact ha
  · intro r hr
    rcases List.mem_append.mp hr with h | h
    · exact p5 r h
    · rw [List.mem_singleton.mp h]
      exact ⟨fresh_back p2 na, (ne_of_none p3 na).symm⟩
theorem cm_zero {Dl : Addr} (hD : H Dl = none) : Cm H M Dl 0 (upd H Dl (.lst [])) := ⟨hD, Ex.new hD, [], by rw [upd_same] <;> rfl, by rw [List.take_zero]; exact .nil, fun r hr => nomatch hr⟩
theorem cm_end {Dl : Addr} {H1 : Hp} (e1 : Ex H H1) (h : Cm H1 M Dl M.length H') : H Dl = none ∧ Ex H H' ∧ MF H H' Dl M := by
  obtain ⟨p1, p2, rs, p3, p4, p5⟩ := h
  rw [List.take_length] at p4
  exact ⟨fresh_back e1 p1, e1.trans p2, rs, p3, p4, fun r hr => fresh_back e1 (p5 r hr).1⟩
theorem em_zR {ta : TA} {j : Nat} {vs : List Nat} {n : Nat} (h : EvA ta σ H [.int (n : Int)]) (hz : M.length = n) (hn : n ≤ 40000) (hw : ∀ x, wipe ((wipe σ vs).set j (some x)) vs = wipe σ vs)
    (he : ∀ (i : Nat) (l : List Nat) H1, Ex H H1 → M[i]? = some l → EvL te ((wipe σ vs).set j (some (.int (i : Int)))) H1 (l.map nV)) : EvM (tLc (iRng1 ta) (gName j) tYes te vs) σ H M := fun H0 e Q q => h H0 e _ fun H1 e1 => ⟨(n : Int), rfl, by omega, by omega, fun Dl hD =>
  lc_range (lo := 0) (n := (n : Int).toNat) (Cm H1 M Dl) (cm_zero hD) (fun i H' hi p => by
    have e0 : (0 : Int) + (i : Int) = (i : Int) := Int.zero_add _
    have hl : i < M.length := by omega
    show wipe ((wipe σ vs).set j (some (.int ((0 : Int) + (i : Int))))) vs = wipe σ vs ∧ tYes ((wipe σ vs).set j (some (.int ((0 : Int) + (i : Int))))) H' fun b H3 => if b = true then te ((wipe σ vs).set j (some (.int ((0 : Int) + (i : Int))))) H3 fun y H4 => ∃ acc, H4 Dl = some (.lst acc) ∧ acc.length < sizeLine ∧ Cm H1 M Dl (i + 1) (upd H4 Dl (.lst (acc ++ [y]))) else Cm H1 M Dl (i + 1) H3
    rw [e0]
    exact ⟨hw _, cm_turn p (List.getElem?_eq_getElem hl) (by omega) (he i _ H1 (e.trans e1) (List.getElem?_eq_getElem hl))⟩) (fun H' p => by
      have e2 : (n : Int).toNat = M.length := by omega
      rw [e2] at p
      obtain ⟨a, b, c⟩ := cm_end e1 p
      exact q Dl H' a b c)⟩
theorem em_zL {a : Addr} {tl : TE} {j : Nat} {vs : List Nat} (h : Ev tl σ H (.ref a)) (hx : SqL K H a xs) (hz : M.length = xs.length) (hn : xs.length ≤ 40000) (hw : ∀ x, wipe ((wipe σ vs).set j (some x)) vs = wipe σ vs)
    (he : ∀ (i : Nat) (x : V) (l : List Nat) H1, Ex H H1 → xs[i]? = some x → M[i]? = some l → EvL te ((wipe σ vs).set j (some x)) H1 (l.map nV)) : EvM (tLc (iList K tl) (gName j) tYes te vs) σ H M := fun H0 e Q q => h H0 e _ fun H1 e1 => ⟨a, rfl, ⟨xs, ex_l (e.trans e1) hx⟩, fun Dl hD =>
  lc_list (xs := xs) (Cm H1 M Dl) (cm_zero hD) (fun i H' _ p => ex_l ((e.trans e1).trans p.2.1) hx) (fun i x H' hi p => by
    have hl : i < M.length := by rw [hz]; exact (List.getElem?_eq_some_iff.mp hi).1
    exact ⟨hw x, cm_turn p (List.getElem?_eq_getElem hl) (by omega) (he i x _ H1 (e.trans e1) hi (List.getElem?_eq_getElem hl))⟩) (fun H' p => by
      rw [← hz] at p
      obtain ⟨a, b, c⟩ := cm_end e1 p
      exact q Dl H' a b c)⟩
theorem em_zM {a : Addr} {tl : TE} {j : Nat} {vs : List Nat} (h : Ev tl σ H (.ref a)) (hN : MN H a N) (hz : M.length = N.length) (hn : N.length ≤ 40000) (hw : ∀ x, wipe ((wipe σ vs).set j (some x)) vs = wipe σ vs)
    (he : ∀ (i : Nat) (r : Addr) H1, Ex H H1 → i < N.length → LN H1 r (Py.at1 N i) → EvL te ((wipe σ vs).set j (some (.ref r))) H1 ((Py.at1 M i).map nV)) : EvM (tLc (iList K tl) (gName j) tYes te vs) σ H M := by
  obtain ⟨rs, h1, h2⟩ := hN
  refine em_zL h (sq_of h1) (by rw [List.length_map, h2.len, hz]) (by rw [List.length_map, h2.len]; exact hn) hw fun i x l H1 e hx hl => ?_
  obtain ⟨r, rfl, hi, hr⟩ := (h2.mono e).of hx
  rw [← Py.at1_of hl]
  exact he i r H1 e hi hr
/-- values over a matrix's rows -/
theorem el_zM {a : Addr} {tl : TE} {j : Nat} {vs : List Nat} {ns : List Nat} (h : Ev tl σ H (.ref a)) (hN : MN H a N) (hz : ns.length = N.length) (hn : N.length ≤ 40000) (hw : ∀ x, wipe ((wipe σ vs).set j (some x)) vs = wipe σ vs)
    (he : ∀ (i : Nat) (r : Addr) H1, Ex H H1 → i < N.length → LN H1 r (Py.at1 N i) → Ev te ((wipe σ vs).set j (some (.ref r))) H1 (nV (Py.at0 ns i))) : EvL (tLc (iList K tl) (gName j) tYes te vs) σ H (ns.map nV) := by
  obtain ⟨rs, h1, h2⟩ := hN
  refine el_zL h (sq_of h1) (by rw [List.length_map, List.length_map, h2.len, hz]) (by rw [List.length_map, h2.len]; exact hn) hw fun i x w H1 e hx hw => ?_
  obtain ⟨r, rfl, hi, hr⟩ := (h2.mono e).of hx
  rw [nat_get (by omega)] at hw
  rw [← Option.some.inj hw]
  exact he i r H1 e hi hr
/-- values over a range -/
theorem el_zRN {ta : TA} {j : Nat} {vs : List Nat} {n : Nat} {ns : List Nat} (h : EvA ta σ H [.int (n : Int)]) (hz : ns.length = n) (hn : n ≤ 40000) (hw : ∀ x, wipe ((wipe σ vs).set j (some x)) vs = wipe σ vs)
    (he : ∀ (i : Nat) H1, Ex H H1 → i < n → Ev te ((wipe σ vs).set j (some (.int (i : Int)))) H1 (nV (Py.at0 ns i))) : EvL (tLc (iRng1 ta) (gName j) tYes te vs) σ H (ns.map nV) := by
  refine el_zR h (by rw [List.length_map, hz]) hn hw fun i w H1 e hw => ?_
  have hi : i < n := by
    rw [← hz]
    simpa using (List.getElem?_eq_some_iff.mp hw).1
  rw [nat_get (by omega)] at hw
  rw [← Option.some.inj hw]
  exact he i H1 e hi
theorem el_zLN {a : Addr} {tl : TE} {j : Nat} {vs : List Nat} {ms ns : List Nat} (h : Ev tl σ H (.ref a)) (hN : LN H a ms) (hz : ns.length = ms.length) (hn : ms.length ≤ 40000) (hw : ∀ x, wipe ((wipe σ vs).set j (some x)) vs = wipe σ vs)
    (he : ∀ (i : Nat) H1, Ex H H1 → i < ms.length → Ev te ((wipe σ vs).set j (some (nV (Py.at0 ms i)))) H1 (nV (Py.at0 ns i))) : EvL (tLc (iList K tl) (gName j) tYes te vs) σ H (ns.map nV) := by
  refine el_zL h (sq_of hN) (by rw [len_map, len_map, hz]) (by rw [len_map]; exact hn) hw fun i x w H1 e hx hw => ?_
  obtain ⟨hi, rfl⟩ := nat_of_get hx
  rw [nat_get (by omega)] at hw
  rw [← Option.some.inj hw]
  exact he i H1 e hi
/-! loops over rows, over two lists at once -/
theorem s_forM {a : Addr} {tl : TE} {j : Nat} (h : Ev tl σ H (.ref a)) (hM : MN H a M) (Pv : Nat → L2.St → Hp → Prop) (h0 : ∀ H1, Ex H H1 → Pv 0 σ H1) (hE : ∀ i σ' H', Pv i σ' H' → Ex H H')
    (hs : ∀ i r σ' H', i < M.length → LN H' r (Py.at1 M i) → Pv i σ' H' → tu { D with nx := Pv (i + 1), ct := Pv (i + 1), bk := D.nx } (σ'.set j (some (.ref r))) H') (hd : ∀ σ' H', Pv M.length σ' H' → D.nx σ' H') : tFor (iList K tl) (gName j) tu D σ H := by
  obtain ⟨rs, h1, h2⟩ := hM
  refine s_forLn h (sq_of h1) Pv h0 (fun i σ' H' _ pv => sq_of (hE i σ' H' pv _ _ h1)) (fun i x σ' H' hx pv => ?_) (fun σ' H' pv => hd σ' H' (by rw [List.length_map, h2.len] at pv; exact pv))
  obtain ⟨r, rfl, hi, hr⟩ := (h2.mono (hE i σ' H' pv)).of hx
  exact hs i r σ' H' hi hr pv
theorem q_forM {a : Addr} {tl : TE} {j : Nat} (h : Ev tl σ H (.ref a)) (hM : MN H a M) (Pv : Nat → L2.St → Hp → Prop) (h0 : ∀ H1, Ex H H1 → Pv 0 σ H1) (hE : ∀ i σ' H', Pv i σ' H' → Ex H H')
    (hs : ∀ i r σ' H', i < M.length → LN H' r (Py.at1 M i) → Pv i σ' H' → tu { D with nx := Pv (i + 1), ct := Pv (i + 1), bk := tz D } (σ'.set j (some (.ref r))) H') (hd : ∀ σ' H', Pv M.length σ' H' → tz D σ' H') : tSeq (tFor (iList K tl) (gName j) tu) tz D σ H :=
  s_forM (D := { D with nx := tz D }) h hM Pv h0 hE hs hd
theorem q_forZip {ta : TA} {a b : Addr} {j1 j2 : Nat} (h : EvA ta σ H [.ref a, .ref b]) (hx : SqL K H a xs) (hy : SqL K H b ys) (Pv : Nat → L2.St → Hp → Prop) (h0 : ∀ H1, Ex H H1 → Pv 0 σ H1) (hl : ∀ i σ' H', Pv i σ' H' → SqL K H' a xs ∧ SqL K H' b ys)
    (hs : ∀ (i : Nat) x y σ' H' H2, xs[i]? = some x → ys[i]? = some y → Pv i σ' H' → Ex H' H2 → tu { D with nx := Pv (i + 1), ct := Pv (i + 1), bk := tz D } ((σ'.set j1 (some x)).set j2 (some y)) H2) (hd : ∀ σ' H', Pv (min xs.length ys.length) σ' H' → tz D σ' H') :
    tSeq (tFor (iZip K ta) (gTup K 2 (gCons (gName j1) (gCons (gName j2) gNil))) tu) tz D σ H :=
  h H (Ex.refl H) _ fun H1 e => ⟨a, b, xs, ys, rfl, ex_l e hx, ex_l e hy, for_it (D := { D with nx := tz D }) (walk_zip (xs := xs) (ys := ys) rfl) Pv (h0 H1 e) (fun i σ' H' _ p => hl i σ' H' p) (fun i v σ' H' H2 hi p yy => by
    obtain ⟨T, x, y, rfl, hT, rfl, hx2, hy2⟩ := yy
    exact ⟨T, [x, y], rfl, st_of upd_same, rfl, x, [y], rfl, y, [], rfl, rfl, hs i x y σ' H' _ hx2 hy2 p (Ex.new hT)⟩) hd⟩
/-! three names at once -/
theorem q_par3 {ta : TA} {i j l : Nat} (h : EvA ta σ H [x, y, z]) (k : ∀ H1, Ex H H1 → tz D (((σ.set i (some x)).set j (some y)).set l (some z)) H1) : tSeq (tPar3 i j l ta) tz D σ H := h H (Ex.refl H) _ fun H1 e => ⟨x, y, z, rfl, k H1 e⟩
theorem q_ifPar3 {b : Bool} {ta : TA} {i j l : Nat} (h : EvT t σ H b) (h1 : b = true → EvA ta σ H [x, y, z]) (h2 : b = false → ((σ.set i (some x)).set j (some y)).set l (some z) = σ) (k : ∀ H1, Ex H H1 → tz D (((σ.set i (some x)).set j (some y)).set l (some z)) H1) : tSeq (tIfS t (tPar3 i j l ta) tNext) tz D σ H :=
  q_when h (fun hb H1 e1 => h1 hb H1 e1 _ fun H2 e2 => ⟨x, y, z, rfl, k H2 (e1.trans e2)⟩) (fun hb H1 e1 => by
    have g := k H1 e1
    rw [h2 hb] at g
    exact g)
theorem q_par3MML {i j l : Nat} (h1 : EvM ta σ H M) (h2 : EvM tb σ H N) (h3 : EvL tc σ H xs) (k : ∀ p q r H1, H p = none → H q = none → H r = none → Ex H H1 → MF H H1 p M → MF H H1 q N → H1 r = some (.lst xs) → tz D (((σ.set i (some (.ref p))).set j (some (.ref q))).set l (some (.ref r))) H1) :
    tSeq (tPar3 i j l (tCons ta (tCons tb (tCons tc tNil)))) tz D σ H := h1 H (Ex.refl H) _ fun p H1 np e1 hp => h2 H1 e1 _ fun q H2 nq e2 hq => h3 H2 (e1.trans e2) _ fun r H3 nr e3 hr =>
  ⟨_, _, _, rfl, k p q r H3 np (fresh_back e1 nq) (fresh_back (e1.trans e2) nr) ((e1.trans e2).trans e3) ((hp.up e2).up e3) ((hq.back e1).up e3) hr⟩
/-! comparisons -/
def dM (M : List (List Nat)) : PyData := .list (M.map fun l => .list (l.map dN))
theorem dp_rows : ∀ {rs : List Addr} {M : List (List Nat)}, LR H rs M → DpAll K H (rs.map V.ref) (M.map fun l => .list (l.map dN))
  | _, _, .nil => .nil
  | _, _, .cons h t => .cons (dp_list (sq_of h)) (dp_rows t)
theorem dp_mat (h : MN H p M) : Dp K H (.ref p) (dM M) := by
  obtain ⟨rs, h1, h2⟩ := h
  exact .lst (sq_of h1) (dp_rows h2)
theorem lay_rows : ∀ M : List (List Nat), PyData.canLayAll0 (M.map fun l => .list (l.map dN)) = true ∧ PyData.depthAll (M.map fun l => .list (l.map dN)) ≤ 1
  | [] => ⟨rfl, Nat.zero_le _⟩
  | l :: M => by
    have ih := lay_rows M
    refine ⟨?_, ?_⟩
    · show (PyData.canLayAll0 (l.map dN) && PyData.canLayAll0 (M.map fun l => .list (l.map dN))) = true
      rw [ih.1, (lay_nats l).1] <;> rfl
    · show max (PyData.depthAll (l.map dN) + 1) (PyData.depthAll (M.map fun l => .list (l.map dN))) ≤ 1
      rw [(lay_nats l).2]
      omega
theorem shaped_mat (M : List (List Nat)) : SeqAt.shaped (dM M) = true := by
  unfold SeqAt.shaped
  have h1 : PyData.canLay0 (dM M) = true := (lay_rows M).1
  have h2 : PyData.depth (dM M) ≤ 2 := by
    show PyData.depthAll _ + 1 ≤ 2
    have := (lay_rows M).2
    omega
  rw [h1, decide_eq_true (show PyData.depth (dM M) ≤ 64 by omega)] <;> rfl
theorem rv_eqM (h : MN H p M) (h2 : MN H q M) : RV (rEqD K) (.ref p) (.ref q) H (.bl true) := rv_eqD (dp_mat h) (dp_mat h2) (shaped_mat M)
theorem rv_neM (h : MN H p M) (h2 : MN H q M) : RV (rNeD K) (.ref p) (.ref q) H (.bl false) := rv_neD (dp_mat h) (dp_mat h2) (shaped_mat M)
theorem ev_opVM (ha : Ev ta σ H x) (hb : EvM tb σ H M) (hr : ∀ q H1, MN H1 q M → Ex H H1 → RV r x (.ref q) H1 z) : Ev (tOp r ta tb) σ H z := fun H1 e Q k =>
  ha H1 e _ fun H2 e2 => hb H2 (e.trans e2) _ fun q H3 _ e3 hq => hr q H3 hq.mn ((e.trans e2).trans e3) H3 (Ex.refl _) Q fun H4 e4 => k H4 ((e2.trans e3).trans e4)
/-- m[i] of a matrix -/
theorem mn_ix {k : Nat} (h : MN H p M) (hk : k < M.length) : ∃ r, LN H r (Py.at1 M k) ∧ RV (rIxL K) (.ref p) (.int (k : Int)) H (.ref r) := by
  obtain ⟨rs, h1, h2⟩ := h
  obtain ⟨r, h3, h4⟩ := h2.at hk
  exact ⟨r, h4, rv_ixLN (sq_of h1) (by rw [List.getElem?_map, h3] <;> rfl)⟩
theorem mf_ix {k : Nat} (h : MF H0 H p M) (hk : k < M.length) : ∃ r, LN H r (Py.at1 M k) ∧ H0 r = none ∧ RV (rIxL K) (.ref p) (.int (k : Int)) H (.ref r) := by
  obtain ⟨rs, h1, h2, h5⟩ := h
  obtain ⟨r, h3, h4⟩ := h2.at hk
  exact ⟨r, h4, h5 r (List.mem_of_getElem? h3), rv_ixLN (sq_of h1) (by rw [List.getElem?_map, h3] <;> rfl)⟩
theorem ev_ix2 {i j : Nat} (h : EvM te σ H M) (h1 : ∀ H1, Ex H H1 → Ev ta σ H1 (.int (i : Int))) (h2 : ∀ H1, Ex H H1 → Ev tb σ H1 (.int (j : Int))) (hi : i < M.length) (hj : j < (Py.at1 M i).length) : Ev (tOp (rIxL K) (tOp (rIxL K) te ta) tb) σ H (nV (Py.at0 (Py.at1 M i) j)) := fun H1 e Q k =>
  h H1 e _ fun p H2 _ e2 hp => by
    obtain ⟨r, hr, hv⟩ := mn_ix (K := K) hp.mn hi
    exact h1 H2 (e.trans e2) H2 (Ex.refl _) _ fun H3 e3 => hv H3 e3 _ fun H4 e4 => h2 H2 (e.trans e2) H4 (e3.trans e4) _ fun H5 e5 => rv_ixLN (sq_of (hr.up ((e3.trans e4).trans e5))) (nat_get hj) H5 (Ex.refl _) Q fun H6 e6 => k H6 ((((e2.trans e3).trans e4).trans e5).trans e6)
/-- two small numbers in a message -/
theorem num_len : Gf.alln (fun n => Nat.ble ((toString (n : Int) : Str).length) 10 && Nat.ble ((n : Int).natAbs.log2) 100) 256 = true := by decide +kernel
theorem js2 {R : Str → Hp → Prop} {td : TE} {c1 c2 : Str} {a b : Nat} (ha : Ev ta σ H (nV a)) (hc : Ev tc σ H (.str c1)) (hb : Ev tb σ H (nV b)) (hd : Ev td σ H (.str c2)) (h1 : a < 256) (h2 : b < 256) (l1 : c1.length ≤ 1000) (l2 : c2.length ≤ 1000)
    (k : ∀ s H1, Ex H H1 → R s H1) : tJs [tFmt ta, tc, tFmt tb, td] Str.empty σ H R := by
  obtain ⟨a1, a2⟩ := Bool.and_eq_true_iff.mp (Gf.alln_at num_len a h1)
  obtain ⟨b1, b2⟩ := Bool.and_eq_true_iff.mp (Gf.alln_at num_len b h2)
  have a1 : (toString ((a : Nat) : Int) : Str).length ≤ 10 := Nat.le_of_ble_eq_true a1
  have b1 : (toString ((b : Nat) : Int) : Str).length ≤ 10 := Nat.le_of_ble_eq_true b1
  have a2 := Nat.le_of_ble_eq_true a2
  have b2 := Nat.le_of_ble_eq_true b2
  have z0 : (Str.empty : Str).length = 0 := by decide
  have z1 : (Str.empty ++ (toString ((a : Nat) : Int) : Str)).length ≤ 10 := by
    rw [strLen_append]
    omega
  have z2 : (Str.empty ++ (toString ((a : Nat) : Int) : Str) ++ c1).length ≤ 1010 := by
    rw [strLen_append]
    omega
  have z3 : (Str.empty ++ (toString ((a : Nat) : Int) : Str) ++ c1 ++ (toString ((b : Nat) : Int) : Str)).length ≤ 1020 := by
    rw [strLen_append]
    omega
  have z4 : (Str.empty ++ (toString ((a : Nat) : Int) : Str) ++ c1 ++ (toString ((b : Nat) : Int) : Str) ++ c2).length ≤ 2020 := by
    rw [strLen_append]
    omega
  refine ha H (Ex.refl H) _ fun H1 e1 => Or.inr ⟨_, rfl, Nat.lt_of_le_of_lt a2 (by decide), _, rfl, sz_of (by omega), ?_⟩
  refine hc H1 e1 _ fun H2 e2 => ⟨_, rfl, sz_of (by omega), ?_⟩
  refine hb H2 (e1.trans e2) _ fun H3 e3 => Or.inr ⟨_, rfl, Nat.lt_of_le_of_lt b2 (by decide), _, rfl, sz_of (by omega), ?_⟩
  refine hd H3 ((e1.trans e2).trans e3) _ fun H4 e4 => ⟨_, rfl, sz_of (by omega), ?_⟩
  exact k _ H4 (((e1.trans e2).trans e3).trans e4)
theorem s_dropC {sp : Sp} {E : XK} {vs : List V} (h : EvA ta0 σ H vs) (k : ∀ H1, Ex H H1 → sp (vs ++ []) H1 (fun _ H2 => D.nx σ H2) E) : tDrop (tCall sp [] E ta0) D σ H := h H (Ex.refl H) _ k
theorem rv_up (h : RV r x y H z) (e : Ex H H') : RV r x y H' z := fun H1 e1 => h H1 (e.trans e1)
theorem dne_t {a b : Nat} (h : (!decide (V.int (a : Int) = V.int (b : Int))) = true) : ¬ a = b := by
  intro q
  rw [q] at h
  simp at h
theorem dne_f {a b : Nat} (h : (!decide (V.int (a : Int) = V.int (b : Int))) = false) : a = b := by
  have q := of_decide_eq_true (show decide (V.int (a : Int) = V.int (b : Int)) = true by simpa using h)
  have := V.int.inj q
  omega
end
section
variable {X : Cx} {K : PySem.W.Frag}
theorem pi_listK {tg e : Expr} {te : TE} (h : X.K = K) (he : PE X e te) : PI X tg e (iList K te) := h ▸ pi_list he
end
end Mx

set_option Elab.async false
set_option linter.all false
set_option maxRecDepth 100000
set_option maxHeartbeats 4000000
namespace Mx
open PySem PySem.Spec PyProof.Rows L2 Evl
/-! ### any, sum of lists and tuples of ints -/
section
variable {prog : Program} {w : World} {A : Around} {E : Value → Shared → Prop} {s : Shared} {l : Addr} {its : List Value} {ns : List Int} {Q : Value → Shared → Prop}
theorem iter_tup {items : Array Value} (hl : s.heap.IsTuple l items)
    (h : ∀ s₂ : Shared, s₂ = { s with heap := s.heap.push { cls := .type "tuple_iterator", data := .fields #[.ref l, .int 0 0] } } →
      (s₂.heap.IsTupleIter s.heap.objs.size l 0 ∧ s₂.heap.IsTuple l items) → (∀ b ∈ [s.heap.objs.size, l], b < s₂.heap.objs.size) → l ≠ s.heap.objs.size → Q (.ref s.heap.objs.size) s₂) : wpAny (model prog w) A (pyIter (.ref l)) Q E s := by
  have hlt : l < s.heap.objs.size := by obtain ⟨_, e, _⟩ := hl; exact Heap.lt_size e
  refine wpAny_pyIter_tuple hl (h _ rfl ⟨⟨_, Heap.get?_push_size _ rfl, rfl, rfl⟩, hl.push _⟩ (fun b hb => ?_) (Nat.ne_of_lt hlt))
  show b < (s.heap.push _).objs.size
  rw [Heap.size_push]
  rcases List.mem_cons.mp hb with rfl | hb
  · exact Nat.lt_succ_self _
  · rcases List.mem_cons.mp hb with rfl | hb
    · exact Nat.lt_succ_of_lt hlt
    · cases hb
theorem ints_at (hi : IntsAre its ns) : ∀ {i : Nat} {v : Value}, its[i]? = some v → ∃ t, v = .int (ns.getD i 0) t := by
  induction hi with
  | nil =>
    intro i v h
    simp at h
  | cons a t hi ih =>
    intro i v h
    cases i with
    | zero => exact ⟨t, by simpa using h.symm⟩
    | succ i =>
      obtain ⟨t2, e⟩ := ih (i := i) (v := v) (by simpa using h)
      exact ⟨t2, by rw [e]; rfl⟩
theorem truth_ints (hi : IntsAre its ns) : TruthOf prog w A (fun i v => its.toArray[i]? = some v) (fun i => ns.getD i 0 != 0) := fun i v s Q E hv hq => by
  obtain ⟨t, rfl⟩ := ints_at hi (i := i) (v := v) (by simpa using hv)
  exact PySem.P.truthy_int hq
theorem any_getD : ∀ ns : List Int, (List.range ns.length).any (fun i => ns.getD i 0 != 0) = ns.any (· != 0)
  | [] => rfl
  | n :: ns => by
    rw [List.length_cons, List.range_succ_eq_map, List.any_cons, List.any_map, List.any_cons, ← any_getD ns] <;> rfl
end
section
variable {X : Cx}
def rAnyI (K : PySem.W.Frag) : List V → Hp → VK → Prop := fun vs H Q => ∃ (a : Addr) (ns : List Int), vs = [V.ref a] ∧ (SqL K H a (ns.map V.int) ∨ SqT K H a (ns.map V.int)) ∧ Q (.bl (ns.any (· != 0))) H
def rSumI (K : PySem.W.Frag) : List V → Hp → VK → Prop := fun vs H Q => ∃ (a : Addr) (ns : List Int), vs = [V.ref a] ∧ (SqL K H a (ns.map V.int) ∨ SqT K H a (ns.map V.int)) ∧ Q (.int ns.sum) H
theorem cr_anyI (hc : X.calm = true) : CallR X (.builtin "any") (rAnyI X.K) := by
  intro pins s σ H vs us Q I r h
  obtain ⟨a, ns, rfl, hs, q⟩ := h
  rw [Vals.ref1 r]
  have fin : ∀ (its : List Value) (h' : Heap) (tk : Nat) (s₂ : Shared) (o : Obj), IntsAre its ns → s₂ = { s with heap := s.heap.push o } → (∀ b ob, b ∉ [s.heap.objs.size] → s₂.heap.get? b = some ob → h'.get? b = some ob) →
      ∃ v H', Inv X pins σ H' { s₂ with heap := h', toks := tk } ∧ RelV v (.bool ((List.range its.toArray.size).any fun i => ns.getD i 0 != 0)) ∧ Q v H' := by
    intro its h' tk s₂ o hi e2 hk
    subst e2
    refine ⟨.bl _, H, I.kept fun b ob eo => hk b ob (fun hmem => ?_) (Heap.get?_push_of_some _ eo), ?_, q⟩
    · exact absurd (List.mem_singleton.mp hmem ▸ Heap.lt_size eo) (Nat.lt_irrefl _)
    · show Value.bool _ = Value.bool _
      rw [← any_getD, List.size_toArray, hi.length]
  rcases hs with hs | hs
  · obtain ⟨its, rv, hl, _⟩ := I.list hs
    have hi := rv.ints
    refine call_any_walk (iter_any hl.isList fun s₂ e2 st hne => ?_)
    subst e2
    exact ⟨_, _, _, _, _, _, _, rfl, Walks.list (A := X.A.in1) (I.ok.hd hc) _ a hne its.toArray, st, truth_ints hi, fun h' tk hk => fin its h' tk _ _ hi rfl hk⟩
  · obtain ⟨its, rv, hl, _⟩ := I.tuple hs
    have hi := rv.ints
    refine call_any_walk (iter_tup hl fun s₂ e2 st _ hne => ?_)
    subst e2
    exact ⟨_, _, _, _, _, _, _, rfl, Walks.tuple (A := X.A.in1) (I.ok.hd hc) _ a hne its.toArray, st, truth_ints hi, fun h' tk hk => fin its h' tk _ _ hi rfl hk⟩
theorem cr_sumI (hc : X.calm = true) : CallR X (.builtin "sum") (rSumI X.K) := by
  intro pins s σ H vs us Q I r h
  obtain ⟨a, ns, rfl, hs, q⟩ := h
  rcases hs with hs | hs
  · obtain ⟨its, rv, hl, _⟩ := I.list hs
    rw [Vals.ref1 r]
    exact sum_raw (I.ok.hd hc) hl.isList rv.ints fun h' tk t' hk => ⟨.int _, H, I.kept hk, ⟨_, rfl⟩, q⟩
  · obtain ⟨its, rv, hl, _⟩ := I.tuple hs
    rw [Vals.ref1 r]
    have hi := rv.ints
    refine call_sum_walkG (iter_tup hl fun s₂ e2 st hfp hne => ?_)
    subst e2
    refine ⟨_, _, _, _, _, _, fun i => ns.getD i 0, rfl, Walks.tuple (A := X.A.in1) (I.ok.hd hc) _ a hne its.toArray, st, hfp, (fun i v hv => ints_at hi (by simpa using hv)), fun h' tk t' hk => ?_⟩
    refine ⟨.int _, H, I.kept fun b ob eo => hk b ob (fun hmem => ?_) (Heap.get?_push_of_some _ eo), ⟨t', ?_⟩, q⟩
    · exact absurd (List.mem_singleton.mp hmem ▸ Heap.lt_size eo) (Nat.lt_irrefl _)
    · rw [List.size_toArray, hi.length]
      have ps : ∀ (l : List Int) (n : Nat), preSum (fun i => l.getD i 0) n = (l.take n).sum := by
        intro l n
        induction n with
        | zero => simp [preSum]
        | succ n ih =>
          show preSum _ n + l.getD n 0 = _
          rw [ih, List.take_add_one, List.sum_append, List.getD_eq_getElem?_getD]
          cases l[n]? <;> simp
      rw [ps, List.take_length]
end
section
variable {K : PySem.W.Frag} {σ : L2.St} {H H' : Hp} {ta0 : TA} {ta tb tc te : TE} {t u : TT} {x y z v : V} {r r' : R2} {xs ys zs : List V} {p q : Addr} {D : Ends} {tu tw tz : TS} {g : TG} {L M : List Nat}
theorem map_nV (l : List Nat) : l.map nV = (l.map fun (n : Nat) => (n : Int)).map V.int := by rw [List.map_map] <;> rfl
theorem sum_nV : ∀ l : List Nat, (l.map fun (n : Nat) => (n : Int)).sum = ((l.sum : Nat) : Int)
  | [] => rfl
  | n :: l => by
    rw [List.map_cons, List.sum_cons, List.sum_cons, sum_nV l, Int.natCast_add]
theorem any_nV : ∀ l : List Nat, (l.map fun (n : Nat) => (n : Int)).any (· != 0) = l.any (· != 0)
  | [] => rfl
  | n :: l => by
    rw [List.map_cons, List.any_cons, List.any_cons, any_nV l]
    congr 1
    rw [Bool.eq_iff_iff]
    simp
/-- a list or a tuple of numbers -/
def SqI (K : PySem.W.Frag) (H : Hp) (p : Addr) (l : List Nat) : Prop := SqL K H p (l.map nV) ∨ SqT K H p (l.map nV)
theorem SqI.up (h : SqI K H p L) (e : Ex H H') : SqI K H' p L := h.elim (fun q => .inl (ex_l e q)) fun q => .inr (ex_t e q)
abbrev TN (H : Hp) (p : Addr) (l : List Nat) : Prop := H p = some (.tup (l.map nV))
theorem TN.up (h : TN H p L) (e : Ex H H') : TN H' p L := e p _ h
theorem ev_sum (ha : Ev ta σ H (.ref p)) (h : SqI K H p L) : Ev (tCB (rSumI K) (tCons ta tNil)) σ H (nV L.sum) := fun H1 e Q k =>
  ha H1 e _ fun H2 e2 => ⟨p, L.map fun (n : Nat) => (n : Int), rfl, by rw [← map_nV]; exact h.up (e.trans e2), by rw [sum_nV]; exact k H2 e2⟩
theorem ev_any (ha : Ev ta σ H (.ref p)) (h : SqI K H p L) : Ev (tCB (rAnyI K) (tCons ta tNil)) σ H (.bl (L.any (· != 0))) := fun H1 e Q k =>
  ha H1 e _ fun H2 e2 => ⟨p, L.map fun (n : Nat) => (n : Int), rfl, by rw [← map_nV]; exact h.up (e.trans e2), by rw [any_nV]; exact k H2 e2⟩
theorem el_rev (ha : Ev ta σ H (.ref p)) (h : SqL K H p xs) : EvL (tRevL K ta) σ H xs.reverse := fun H1 e Q k =>
  ha H1 e _ fun H2 e2 => ⟨p, xs, rfl, ex_l (e.trans e2) h, fun l hl => k l _ (fresh_back e2 hl) (e2.trans (Ex.new hl)) upd_same⟩
theorem el_listI (ha : Ev ta σ H (.ref p)) (h : SqI K H p L) : EvL (tCB (fun xs H Q => ∃ p ys, xs = [.ref p] ∧ (SqL K H p ys ∨ SqT K H p ys) ∧ ∀ l, H l = none → Q (.ref l) (upd H l (.lst ys))) (tCons ta tNil)) σ H (L.map nV) := h.elim (el_listL ha) (el_listT ha)
def rTup (K : PySem.W.Frag) : List V → Hp → VK → Prop := fun xs H Q => ∃ p ys, xs = [.ref p] ∧ ((SqL K H p ys ∧ ∀ l, H l = none → Q (.ref l) (upd H l (.tup ys))) ∨ (SqT K H p ys ∧ Q (.ref p) H))
/-- tuple(a new list), tuple(a list), tuple(a new tuple), tuple(a tuple) -/
theorem eu_tupL (ha : EvL ta σ H xs) : EvU (tCB (fun xs H Q => ∃ p ys, xs = [.ref p] ∧ ((SqL K H p ys ∧ ∀ l, H l = none → Q (.ref l) (upd H l (.tup ys))) ∨ (SqT K H p ys ∧ Q (.ref p) H))) (tCons ta tNil)) σ H xs := fun H1 e Q k =>
  ha H1 e _ fun p H2 np e2 hp => ⟨p, xs, rfl, .inl ⟨sq_of hp, fun l hl => k l _ (fresh_back e2 hl) (e2.trans (Ex.new hl)) upd_same⟩⟩
theorem eu_tupV (ha : Ev ta σ H (.ref p)) (h : SqL K H p xs) : EvU (tCB (fun xs H Q => ∃ p ys, xs = [.ref p] ∧ ((SqL K H p ys ∧ ∀ l, H l = none → Q (.ref l) (upd H l (.tup ys))) ∨ (SqT K H p ys ∧ Q (.ref p) H))) (tCons ta tNil)) σ H xs := fun H1 e Q k =>
  ha H1 e _ fun H2 e2 => ⟨p, xs, rfl, .inl ⟨ex_l (e.trans e2) h, fun l hl => k l _ (fresh_back e2 hl) (e2.trans (Ex.new hl)) upd_same⟩⟩
theorem eu_tupU (ha : EvU ta σ H xs) : EvU (tCB (fun xs H Q => ∃ p ys, xs = [.ref p] ∧ ((SqL K H p ys ∧ ∀ l, H l = none → Q (.ref l) (upd H l (.tup ys))) ∨ (SqT K H p ys ∧ Q (.ref p) H))) (tCons ta tNil)) σ H xs := fun H1 e Q k =>
  ha H1 e _ fun p H2 np e2 hp => ⟨p, xs, rfl, .inr ⟨st_of hp, k p H2 np e2 hp⟩⟩
theorem eu_is (h : EvU te σ H xs) (e : xs = ys) : EvU te σ H ys := e ▸ h
/-- t[lo:hi], not the whole -/
theorem eu_sl {tl th : TO} {lo hi : Option Int} (h : Ev te σ H (.ref p)) (h1 : EvO tl σ H lo) (h2 : EvO th σ H hi) (hs : SqT K H p xs) (hn : ¬ (HT.sIx xs.length 0 lo = 0 ∧ HT.sIx xs.length xs.length hi = xs.length)) : EvU (tSl (rSlT K) te tl th) σ H (cutV xs lo hi) := fun H1 e Q k =>
  h H1 e _ fun H2 e2 => h1 H2 (e.trans e2) _ fun H3 e3 => h2 H3 ((e.trans e2).trans e3) _ fun H4 e4 => ⟨p, xs, rfl, ex_t (((e.trans e2).trans e3).trans e4) hs, hn, fun l hl => k l _ (fresh_back ((e2.trans e3).trans e4) hl) (((e2.trans e3).trans e4).trans (Ex.new hl)) upd_same⟩
theorem eu_catUU (ha : EvU ta σ H xs) (hb : EvU tb σ H ys) (hz : xs.length + ys.length ≤ 100000) : EvU (tOp (rCatA K) ta tb) σ H (xs ++ ys) := fun H1 e Q k =>
  ha H1 e _ fun p H2 np e2 hp => hb H2 (e.trans e2) _ fun q H3 nq e3 hq => ⟨p, q, xs, ys, rfl, rfl, st_of (e3 p _ hp), st_of hq, sz_of hz, fun h0 => k q H3 (fresh_back e2 nq) (e2.trans e3) (by rw [h0]; exact hq), fun _ h0 => k p H3 np (e2.trans e3) (by rw [h0, List.append_nil]; exact e3 p _ hp), fun _ _ l hl => k l _ (fresh_back (e2.trans e3) hl) ((e2.trans e3).trans (Ex.new hl)) upd_same⟩
theorem eu_call {sp : Sp} {dvs vs : List V} {E : XK} (h : EvA ta0 σ H vs) (hs : ∀ H1, Ex H H1 → ∀ Q : VK, (∀ p H2, H1 p = none → Ex H1 H2 → H2 p = some (.tup xs) → Q (.ref p) H2) → ∀ E : XK, sp (vs ++ dvs) H1 Q E) : EvU (tCall sp dvs E ta0) σ H xs := fun H1 e Q q =>
  h H1 e _ fun H2 e2 => hs H2 (e.trans e2) Q (fun p H3 n3 e3 h3 => q p H3 (fresh_back e2 n3) (e2.trans e3) h3) E
def SpU (sp : Sp) (vs : List V) (H : Hp) (xs : List V) : Prop := ∀ H1, Ex H H1 → ∀ Q : VK, (∀ p H2, H1 p = none → Ex H1 H2 → H2 p = some (.tup xs) → Q (.ref p) H2) → ∀ E : XK, sp vs H1 Q E
def RetU (xs : List V) (H : Hp) (Q : VK) : Prop := ∀ p H', H p = none → Ex H H' → H' p = some (.tup xs) → Q (.ref p) H'
theorem eu_call2VU {sp : Sp} {E : XK} (h1 : Ev ta σ H x) (h2 : EvU tb σ H ys) (hs : ∀ q H1, Ex H H1 → H1 q = some (.tup ys) → SpU sp ([x, .ref q] ++ []) H1 zs) : EvU (tCall sp [] E (tCons ta (tCons tb tNil))) σ H zs := fun H1 e Q k =>
  h1 H1 e _ fun H2 e2 => h2 H2 (e.trans e2) _ fun q H3 _ e3 hq => hs q H3 ((e.trans e2).trans e3) hq H3 (Ex.refl _) Q (fun p H4 n4 e4 h4 => k p H4 (fresh_back (e2.trans e3) n4) ((e2.trans e3).trans e4) h4) E
theorem ev_call1U {sp : Sp} {E : XK} (h1 : EvU ta σ H xs) (hs : ∀ p H1, Ex H H1 → H1 p = some (.tup xs) → SpV sp ([.ref p] ++ []) H1 z) : Ev (tCall sp [] E (tCons ta tNil)) σ H z := fun H1 e Q k =>
  h1 H1 e _ fun p H2 _ e2 hp => hs p H2 (e.trans e2) hp H2 (Ex.refl _) Q (fun H3 e3 => k H3 (e2.trans e3)) E
theorem ev_opUV (ha : EvU ta σ H xs) (hb : ∀ H1, Ex H H1 → Ev tb σ H1 y) (hr : ∀ p H1, H1 p = some (.tup xs) → Ex H H1 → RV r (.ref p) y H1 z) : Ev (tOp r ta tb) σ H z := fun H1 e Q k =>
  ha H1 e _ fun p H2 _ e2 hp => hb H2 (e.trans e2) H2 (Ex.refl _) _ fun H3 e3 => hr p H3 (e3 p _ hp) ((e.trans e2).trans e3) H3 (Ex.refl _) Q fun H4 e4 => k H4 ((e2.trans e3).trans e4)
theorem ev_chain (ha : Ev ta σ H x) (hb : Ev tb σ H y) (hr : RV r x y H (.bl true)) (hc : Ev tc σ H v) (hr2 : RV r' y v H z) : Ev (tChain r r' ta tb tc) σ H z := fun H1 e Q k =>
  ha H1 e _ fun H2 e2 => hb H2 (e.trans e2) _ fun H3 e3 => hr H3 ((e.trans e2).trans e3) _ fun H4 e4 => ⟨true, rfl, hc H4 (((e.trans e2).trans e3).trans e4) _ fun H5 e5 => hr2 H5 ((((e.trans e2).trans e3).trans e4).trans e5) Q fun H6 e6 => k H6 ((((e2.trans e3).trans e4).trans e5).trans e6)⟩
/-! tuples (word, number, tuple of numbers) -/
def TD (H : Hp) (p : Addr) (d : Str × Nat × List Nat) : Prop := ∃ q, H p = some (.tup [.str d.1, nV d.2.1, .ref q]) ∧ H q = some (.tup (d.2.2.map nV))
theorem TD.up {d : Str × Nat × List Nat} (h : TD H p d) (e : Ex H H') : TD H' p d := by
  obtain ⟨q, h1, h2⟩ := h
  exact ⟨q, e _ _ h1, e _ _ h2⟩
def EvTD (te : TE) (σ : L2.St) (H : Hp) (d : Str × Nat × List Nat) : Prop := ∀ H1, Ex H H1 → ∀ Q : VK, (∀ p H2, H1 p = none → Ex H1 H2 → TD H2 p d → Q (.ref p) H2) → te σ H1 Q
theorem etd {w : Str} {n : Nat} (h1 : Ev ta σ H (.str w)) (h2 : Ev tb σ H (nV n)) (h3 : EvU tc σ H (L.map nV)) : EvTD (tTup (tCons ta (tCons tb (tCons tc tNil)))) σ H (w, n, L) := fun H1 e Q k =>
  h1 H1 e _ fun H2 e2 => h2 H2 (e.trans e2) _ fun H3 e3 => h3 H3 ((e.trans e2).trans e3) _ fun q H4 nq e4 hq => ⟨by show 3 ≤ sizeLine; exact sz_of (by decide), fun p hp => k p _ (fresh_back ((e2.trans e3).trans e4) hp) (((e2.trans e3).trans e4).trans (Ex.new hp)) ⟨q, upd_same, Ex.new hp q _ hq⟩⟩
theorem s_retTD {d : Str × Nat × List Nat} (h : EvTD te σ H d) (k : ∀ p H1, H p = none → Ex H H1 → TD H1 p d → D.rt (.ref p) H1) : tRet te D σ H := h H (Ex.refl H) _ k
theorem etd_is {d d' : Str × Nat × List Nat} (h : EvTD te σ H d) (e : d = d') : EvTD te σ H d' := e ▸ h
theorem ev_callVD {sp : Sp} {E : XK} {d : Str × Nat × List Nat} (h1 : Ev ta σ H x) (h2 : EvTD tb σ H d) (hs : ∀ q H1, Ex H H1 → TD H1 q d → SpV sp ([x, .ref q] ++ []) H1 z) : Ev (tCall sp [] E (tCons ta (tCons tb tNil))) σ H z := fun H1 e Q k =>
  h1 H1 e _ fun H2 e2 => h2 H2 (e.trans e2) _ fun q H3 _ e3 hq => hs q H3 ((e.trans e2).trans e3) hq H3 (Ex.refl _) Q (fun H4 e4 => k H4 ((e2.trans e3).trans e4)) E
theorem ev_callUD {sp : Sp} {E : XK} {d : Str × Nat × List Nat} (h1 : EvU ta σ H xs) (h2 : EvTD tb σ H d) (hs : ∀ p q H1, Ex H H1 → H1 p = some (.tup xs) → TD H1 q d → SpV sp ([.ref p, .ref q] ++ []) H1 z) : Ev (tCall sp [] E (tCons ta (tCons tb tNil))) σ H z := fun H1 e Q k =>
  h1 H1 e _ fun p H2 _ e2 hp => h2 H2 (e.trans e2) _ fun q H3 _ e3 hq => hs p q H3 ((e.trans e2).trans e3) (e3 p _ hp) hq H3 (Ex.refl _) Q (fun H4 e4 => k H4 ((e2.trans e3).trans e4)) E
theorem dp_tupN (h : SqT K H p (L.map nV)) : Dp K H (.ref p) (.tuple (L.map dN)) := .tup h (dp_nats L)
theorem shaped_tupN (l : List Nat) : SeqAt.shaped (.tuple (l.map dN)) = true := by
  unfold SeqAt.shaped
  have h1 : PyData.canLay0 (.tuple (l.map dN)) = true := (lay_nats l).1
  have h2 : PyData.depth (.tuple (l.map dN)) = 1 := by
    show PyData.depthAll (l.map dN) + 1 = 1
    rw [(lay_nats l).2]
  rw [h1, h2] <;> rfl
theorem rv_eqTN (h : TN H p L) (h2 : TN H q L) : RV (rEqD K) (.ref p) (.ref q) H (.bl true) := rv_eqD (dp_tupN (st_of h)) (dp_tupN (st_of h2)) (shaped_tupN L)
theorem rv_neTN (h : TN H p L) (h2 : TN H q L) : RV (rNeD K) (.ref p) (.ref q) H (.bl false) := rv_neD (dp_tupN (st_of h)) (dp_tupN (st_of h2)) (shaped_tupN L)
def dTD (d : Str × Nat × List Nat) : PyData := .tuple [.str d.1, .int (d.2.1 : Int), .tuple (d.2.2.map dN)]
theorem dp_td {d : Str × Nat × List Nat} (h : TD H p d) : Dp K H (.ref p) (dTD d) := by
  obtain ⟨q, h1, h2⟩ := h
  exact .tup (st_of h1) (.cons (.str _) (.cons (.int _) (.cons (dp_tupN (st_of h2)) .nil)))
theorem shaped_td {d : Str × Nat × List Nat} (hs : PyData.strOk d.1 = true) : SeqAt.shaped (dTD d) = true := by
  unfold SeqAt.shaped
  have h1 : PyData.canLay0 (dTD d) = true := by
    show (PyData.strOk d.1 && (PyData.canLay0 (.int (d.2.1 : Int)) && (PyData.canLayAll0 (d.2.2.map dN) && true))) = true
    rw [(lay_nats d.2.2).1, hs] <;> rfl
  have h2 : PyData.depth (dTD d) = 2 := by
    show max (PyData.depth (.str d.1)) (max (PyData.depth (.int (d.2.1 : Int))) (max (PyData.depthAll (d.2.2.map dN) + 1) 0)) + 1 = 2
    rw [(lay_nats d.2.2).2] <;> rfl
  rw [h1, h2] <;> rfl
theorem rv_eqTD {d : Str × Nat × List Nat} (h : TD H p d) (h2 : TD H q d) (hs : PyData.strOk d.1 = true) : RV (rEqD K) (.ref p) (.ref q) H (.bl true) := rv_eqD (dp_td h) (dp_td h2) (shaped_td hs)
/-- [.. for x in a tuple] of bools, all of them -/
theorem el_zT {a : Addr} {tl : TE} {j : Nat} {vs : List Nat} (h : Ev tl σ H (.ref a)) (hx : SqT K H a xs) (hz : zs.length = xs.length) (hn : xs.length ≤ 40000) (hw : ∀ x, wipe ((wipe σ vs).set j (some x)) vs = wipe σ vs)
    (he : ∀ (i : Nat) (x z : V) H1, Ex H H1 → xs[i]? = some x → zs[i]? = some z → Ev te ((wipe σ vs).set j (some x)) H1 z) : EvL (tLc (iTup K tl) (gName j) tYes te vs) σ H zs := fun H0 e Q q => h H0 e _ fun H1 e1 => ⟨a, rfl, ⟨xs, ex_t (e.trans e1) hx⟩, fun Dl hD =>
  lc_tup (xs := xs) (Cz H1 zs Dl) ⟨hD, Ex.new hD, by rw [upd_same, List.take_zero]⟩ (fun i H' _ p => ex_t ((e.trans e1).trans p.2.1) hx) (fun i x H' hi p => by
    have hl : i < zs.length := by rw [hz]; exact (List.getElem?_eq_some_iff.mp hi).1
    exact ⟨hw x, cz_turn p (List.getElem?_eq_getElem hl) (by omega) (he i x _ H1 (e.trans e1) hi (List.getElem?_eq_getElem hl))⟩) (fun H' p => q Dl H' (fresh_back e1 p.1) (e1.trans p.2.1) (by rw [p.2.2, List.take_of_length_le (by omega)]))⟩
theorem all_rep (n : Nat) : (List.replicate n true).all id = true := by
  rw [List.all_eq_true]
  intro b hb
  rw [List.eq_of_mem_replicate hb] <;> rfl
theorem ev_allR {n : Nat} (h : EvL te σ H ((List.replicate n true).map V.bl)) : Ev (tCB (rAll K) (tCons te tNil)) σ H (.bl true) := fun H1 e Q k =>
  h H1 e _ fun p H2 _ e2 hp => ⟨p, List.replicate n true, rfl, sq_of hp, by rw [all_rep]; exact k H2 e2⟩
theorem tn_get {l : List Nat} {k : Nat} (h : k < l.length) : (l.map nV)[k]? = some (nV (Py.at0 l k)) := nat_get h
theorem q_forTN {a : Addr} {tl : TE} {j : Nat} (h : Ev tl σ H (.ref a)) (hx : TN H a L) (Pv : Nat → L2.St → Hp → Prop) (h0 : ∀ H1, Ex H H1 → Pv 0 σ H1) (hE : ∀ i σ' H', Pv i σ' H' → Ex H H')
    (hs : ∀ i σ' H', i < L.length → Pv i σ' H' → tu { D with nx := Pv (i + 1), ct := Pv (i + 1), bk := tz D } (σ'.set j (some (nV (Py.at0 L i)))) H') (hd : ∀ σ' H', Pv L.length σ' H' → tz D σ' H') : tSeq (tFor (iTup K tl) (gName j) tu) tz D σ H :=
  q_forT h (st_of hx) Pv h0 (fun i σ' H' _ pv => st_of ((hE i σ' H' pv) _ _ hx)) (fun i x σ' H' hi pv => by
    obtain ⟨h1, rfl⟩ := nat_of_get hi
    exact hs i σ' H' h1 pv) (fun σ' H' pv => hd σ' H' (by rw [len_map] at pv; exact pv))
theorem q_ifAsg2 {b : Bool} {i : Nat} (h : EvT t σ H b) (h1 : Ev te σ H x) (k : b = true → ∀ H1, Ex H H1 → tz D (σ.set i (some x)) H1) (k2 : b = false → ∀ H1, Ex H H1 → tz D σ H1) : tSeq (tIfS t (tAsg te (gName i)) tNext) tz D σ H :=
  q_when h (fun hb H1 e1 => s_asg (D := { D with nx := tz D }) (h1.mono e1) fun H2 e2 => k hb H2 (e1.trans e2)) k2
theorem rv_is (h : RV r x y H z) (e : z = v) : RV r x y H v := e ▸ h
theorem dec_nat (a b : Nat) : decide (V.int (a : Int) = V.int (b : Int)) = decide (a = b) := by
  rw [Bool.eq_iff_iff, decide_eq_true_eq, decide_eq_true_eq]
  exact ⟨fun q => Int.ofNat.inj (V.int.inj q), fun q => by rw [q]⟩
theorem ev_abs {i : Int} (h : Ev ta σ H (.int i)) : Ev (tCB (fun xs H Q => ∃ i, xs = [.int i] ∧ Q (.int (if i < 0 then -i else i)) H) (tCons ta tNil)) σ H (.int (if i < 0 then -i else i)) := fun H1 e Q k =>
  h H1 e _ fun H2 e2 => ⟨i, rfl, k H2 e2⟩
theorem el_listU (ha : EvU ta σ H xs) : EvL (tCB (fun xs H Q => ∃ p ys, xs = [.ref p] ∧ (SqL K H p ys ∨ SqT K H p ys) ∧ ∀ l, H l = none → Q (.ref l) (upd H l (.lst ys))) (tCons ta tNil)) σ H xs := fun H1 e Q q =>
  ha H1 e _ fun p H2 np e2 hp => ⟨p, xs, rfl, Or.inr (st_of hp), fun l hl => q l _ (fresh_back e2 hl) (e2.trans (Ex.new hl)) upd_same⟩
theorem cut_all {n : Nat} (h : xs.length ≤ n) : cutV xs none (some (n : Int)) = xs := by
  unfold cutV
  rw [HT.sIx_none, HT.sIx_nat, Nat.min_eq_right h, Nat.sub_zero, List.drop_zero, List.take_length]
theorem eu_cut {tl th : TO} {a b : Nat} (h : Ev te σ H (.ref p)) (h1 : EvO tl σ H (some (a : Int))) (h2 : EvO th σ H (some (b : Int))) (hs : TN H p L) (hab : a ≤ b) (hb : b ≤ L.length) (hn : ¬ (a = 0 ∧ b = L.length)) : EvU (tSl (rSlT K) te tl th) σ H (((L.drop a).take (b - a)).map nV) := by
  refine eu_is (eu_sl h h1 h2 (st_of hs) ?_) ?_
  · rw [len_map, HT.sIx_nat, HT.sIx_nat]
    omega
  · rw [cut_mid hab (by rw [len_map]; exact hb), List.map_take, List.map_drop]
theorem eu_front {th : TO} {b : Nat} (h : Ev te σ H (.ref p)) (h2 : EvO th σ H (some (b : Int))) (hs : TN H p L) (hb : b < L.length) : EvU (tSl (rSlT K) te tNoPart th) σ H ((L.take b).map nV) := by
  refine eu_is (eu_sl h eo_none h2 (st_of hs) ?_) ?_
  · rw [len_map, HT.sIx_nat]
    omega
  · rw [cut_take (by rw [len_map]; omega), List.map_take]
theorem eu_back {tl : TO} {a : Nat} (h : Ev te σ H (.ref p)) (h2 : EvO tl σ H (some (a : Int))) (hs : TN H p L) (h0 : 0 < a) (hb : a ≤ L.length) : EvU (tSl (rSlT K) te tl tNoPart) σ H ((L.drop a).map nV) := by
  refine eu_is (eu_sl h h2 eo_none (st_of hs) ?_) ?_
  · rw [len_map, HT.sIx_nat]
    omega
  · unfold cutV
    rw [HT.sIx_nat, HT.sIx_none, len_map, Nat.min_eq_left hb, List.take_of_length_le (by rw [List.length_drop, len_map]; omega), List.map_drop]
end
end Mx

set_option Elab.async false
set_option linter.all false
set_option maxRecDepth 100000
set_option maxHeartbeats 4000000
namespace Se
open Py PySem
/-! ### digits, check octets, halves -/
def chk (L : List Nat) : Nat := L.sum % 256
def dgs (n w : Nat) : List Nat := ((List.range w).map fun i => n / 256 ^ i % 256).reverse
def nb (L : List Nat) : Nat := L.foldl (fun a d => a * 256 + d) 0
def front (s : Nat) (L : List Nat) : List Nat := [197, s / 65536, s / 256 % 256, s % 256] ++ L
def seald (F : List Nat) : List Nat := F ++ [chk F]
def half (s : Nat) (L : List Nat) : List Nat := seald (front s L)
def anz (L : List Nat) : Bool := L.any (· != 0)
def rot : Str × Nat × List Nat := ("rotten", 0, [])
def blk : Str × Nat × List Nat := ("blank", 0, [])
def rd (L : List Nat) : Str × Nat × List Nat :=
  if anz L = false then blk
  else if at0 L 0 ≠ 197 ∨ nb ((L.drop 1).take 3) = 0 ∨ at0 L 15 ≠ chk (L.take 15) then rot
  else ("good", nb ((L.drop 1).take 3), (L.drop 4).take 11)
theorem rd_bad {L : List Nat} (h0 : anz L = true) (h : at0 L 0 ≠ 197 ∨ nb ((L.drop 1).take 3) = 0 ∨ at0 L 15 ≠ chk (L.take 15)) : rd L = rot := by
  unfold rd
  rw [h0, if_neg (by decide), if_pos h]
theorem dgs3 {s : Nat} (h : s < 16777216) : dgs s 3 = [s / 65536, s / 256 % 256, s % 256] := by
  show [s / 256 ^ 2 % 256, s / 256 ^ 1 % 256, s / 256 ^ 0 % 256] = _
  have e1 : s / 256 ^ 2 % 256 = s / 65536 := by
    show s / 65536 % 256 = _
    omega
  have e2 : s / 256 ^ 0 % 256 = s % 256 := by
    show s / 1 % 256 = _
    omega
  rw [e1, e2] <;> rfl
theorem nb3 {s : Nat} (h : s < 16777216) : nb [s / 65536, s / 256 % 256, s % 256] = s := by
  show ((0 * 256 + s / 65536) * 256 + s / 256 % 256) * 256 + s % 256 = s
  omega
theorem front_length (s : Nat) (L : List Nat) : (front s L).length = L.length + 4 := by
  unfold front
  simp
theorem seald_length (F : List Nat) : (seald F).length = F.length + 1 := by
  unfold seald
  simp
theorem front_oct {s : Nat} {L : List Nat} (h : s < 16777216) (ho : Oc L) : Oc (front s L) := by
  unfold front
  refine Oc.append (oc_of fun c hc => ?_) ho
  simp at hc
  omega
theorem seald_oct {F : List Nat} (ho : Oc F) : Oc (seald F) := by
  unfold seald
  refine Oc.append ho (oc_of fun c hc => ?_)
  rw [List.mem_singleton.mp hc]
  exact Nat.mod_lt _ (by decide)
theorem seald_at {F : List Nat} (h : F.length = 15) : at0 (seald F) 15 = chk F ∧ (seald F).take 15 = F := by
  unfold seald
  refine ⟨at0_of ?_, ?_⟩
  · rw [List.getElem?_append_right (by omega), h] <;> rfl
  · rw [List.take_append_of_le_length (by omega), List.take_of_length_le (by omega)]
theorem half_cut {s : Nat} {L : List Nat} : ((half s L).drop 1).take 3 = [s / 65536, s / 256 % 256, s % 256] := rfl
theorem rd_good {s : Nat} {L : List Nat} (h : s < 16777216) (h0 : 0 < s) (hl : L.length = 11) : rd (half s L) = (("good" : Str), s, L) := by
  have fl : (front s L).length = 15 := by rw [front_length, hl]
  obtain ⟨a1, a2⟩ := seald_at fl
  have e1 : (half s L).drop 4 = L ++ [chk (front s L)] := rfl
  have e2 : anz (half s L) = true := rfl
  unfold rd
  rw [e2, if_neg (by decide), if_neg ?_, half_cut, nb3 h, e1, List.take_append_of_le_length (by omega), List.take_of_length_le (by omega)]
  rw [half_cut, nb3 h]
  rintro (q | q | q)
  · exact q rfl
  · omega
  · unfold half at q
    rw [a1, a2] at q
    exact q rfl
theorem sum_set : ∀ (L : List Nat) (p o : Nat), p < L.length → (L.set p o).sum + at0 L p = L.sum + o
  | [], p, o, h => absurd h (Nat.not_lt_zero _)
  | a :: L, 0, o, _ => by
    show (o :: L).sum + a = (a :: L).sum + o
    rw [List.sum_cons, List.sum_cons]
    omega
  | a :: L, p + 1, o, h => by
    have ih := sum_set L p o (by simpa using h)
    show (a :: L.set p o).sum + at0 L p = (a :: L).sum + o
    rw [List.sum_cons, List.sum_cons]
    omega
theorem anz_of {L : List Nat} {k : Nat} (h : ¬ at0 L k = 0) : anz L = true := by
  unfold anz
  rw [List.any_eq_true]
  have hk : k < L.length := by
    by_cases q : k < L.length
    · exact q
    · rw [at0_none (by omega)] at h
      exact absurd rfl h
  exact ⟨at0 L k, List.mem_of_getElem? (at0_get hk), by simpa using h⟩
theorem at0_set {L : List Nat} {p o k : Nat} (h : p < L.length) : at0 (L.set p o) k = if k = p then o else at0 L k := by
  by_cases q : k = p
  · rw [if_pos q, q]
    exact at0_of (by rw [List.getElem?_set_self h])
  · rw [if_neg q]
    unfold at0
    rw [List.getD_eq_getElem?_getD, List.getD_eq_getElem?_getD, List.getElem?_set_ne (fun z => q z.symm)]
/-- one octet of a half replaced -/
theorem rd_spoilt {s : Nat} {L : List Nat} {p o : Nat} (h : s < 16777216) (h0 : 0 < s) (hl : L.length = 11) (hL : Oc L) (hp : p < 16) (ho : o < 256) (hne : ¬ o = at0 (half s L) p) : rd ((half s L).set p o) = rot := by
  have fl : (front s L).length = 15 := by rw [front_length, hl]
  obtain ⟨a1, a2⟩ := seald_at fl
  have hh : (half s L).length = 16 := by
    unfold half
    rw [seald_length, fl]
  refine rd_bad ?_ (.inr (.inr ?_))
  · by_cases q : p = 0
    · have e : ¬ (s / 65536 = 0 ∧ s / 256 % 256 = 0 ∧ s % 256 = 0) := by omega
      by_cases z1 : s / 65536 = 0
      · by_cases z2 : s / 256 % 256 = 0
        · refine anz_of (k := 3) ?_
          rw [at0_set (by omega), if_neg (by omega)]
          show ¬ s % 256 = 0
          omega
        · refine anz_of (k := 2) ?_
          rw [at0_set (by omega), if_neg (by omega)]
          exact z2
      · refine anz_of (k := 1) ?_
        rw [at0_set (by omega), if_neg (by omega)]
        exact z1
    · refine anz_of (k := 0) ?_
      rw [at0_set (by omega), if_neg (by omega)]
      show ¬ 197 = 0
      decide
  · rw [at0_set (by omega)]
    by_cases q : p = 15
    · have e : ((half s L).set p o).take 15 = (half s L).take 15 := by rw [q, List.take_set_of_le (by omega)]
      rw [if_pos q.symm, e]
      unfold half at hne ⊢
      rw [q, a1] at hne
      rw [a2]
      exact hne
    · rw [if_neg (by omega)]
      have e : ((half s L).set p o).take 15 = (front s L).set p o := by
        rw [List.take_set]
        unfold half
        rw [a2]
      have e2 : at0 (half s L) p = at0 (front s L) p := by
        unfold half seald at0
        rw [List.getD_eq_getElem?_getD, List.getD_eq_getElem?_getD, List.getElem?_append_left (by omega)]
      rw [e]
      have ss := sum_set (front s L) p o (by omega)
      have of := front_oct h hL p
      rw [e2] at hne
      unfold half
      rw [a1]
      unfold chk
      omega
theorem set_cut {L : List Nat} {p o : Nat} (h : p < L.length) : L.take p ++ [o] ++ L.drop (p + 1) = L.set p o := by
  rw [List.set_eq_take_append_cons_drop, if_pos h, List.append_assoc] <;> rfl
/-- an octet in a blank half -/
theorem rd_speck {p v : Nat} (hp : p < 16) (h0 : 0 < v) : rd (List.replicate p 0 ++ [v] ++ List.replicate (15 - p) 0) = rot := by
  have hat : ∀ k, at0 (List.replicate p 0 ++ [v] ++ List.replicate (15 - p) 0) k = if k = p then v else 0 := by
    intro k
    by_cases c1 : k < p
    · rw [if_neg (by omega)]
      refine at0_of ?_
      rw [List.append_assoc, List.getElem?_append_left (by simpa using c1), List.getElem?_replicate, if_pos c1] <;> rfl
    · by_cases c2 : k = p
      · rw [if_pos c2]
        refine at0_of ?_
        rw [c2, List.append_assoc, List.getElem?_append_right (by simp), List.length_replicate, Nat.sub_self] <;> rfl
      · rw [if_neg c2]
        by_cases c3 : k < 16
        · refine at0_of ?_
          rw [List.getElem?_append_right (by simp; omega), List.getElem?_replicate, if_pos (by simp; omega)] <;> rfl
        · exact at0_none (by simp; omega)
  refine rd_bad (anz_of (k := p) (by rw [hat, if_pos rfl]; omega)) ?_
  by_cases q : p = 0
  · refine .inr (.inl ?_)
    rw [q] <;> rfl
  · refine .inl ?_
    rw [hat, if_neg (by omega)]
    decide
theorem rd_mark {F : List Nat} {m : Nat} {k : Nat} (h : ¬ m = 197) (hk : ¬ at0 (seald (m :: F)) k = 0) : rd (seald (m :: F)) = rot := rd_bad (anz_of hk) (.inl h)
theorem rd_nil {L : List Nat} : rd (half 0 L) = rot := rd_bad rfl (.inr (.inl rfl))
theorem rd_zero : rd (List.replicate 16 0) = blk := rfl
theorem rd_ok (L : List Nat) : PyData.strOk (rd L).1 = true := by
  unfold rd
  split
  · decide +kernel
  · split
    · decide +kernel
    · show PyData.strOk ("good" : Str) = true
      decide +kernel
theorem rd_oct {L : List Nat} (h : Oc L) : Oc (rd L).2.2 := by
  unfold rd
  split
  · exact oc_nil
  · split
    · exact oc_nil
    · exact (h.drop _).take _
theorem rd_len (L : List Nat) : (rd L).2.2.length ≤ 11 := by
  unfold rd
  split
  · decide
  · split
    · decide
    · rw [List.length_take]
      omega
end Se

set_option Elab.async false
set_option linter.all false
set_option maxRecDepth 100000
set_option maxHeartbeats 4000000
namespace Mx
open PySem PySem.Spec PyProof.Rows L2 Evl
/-! ### max(xs, default=d) of a list of ints -/
section
variable {X : Cx}
def rMaxD (K : PySem.W.Frag) : List V → List V → Hp → VK → Prop := fun vs zs H Q => ∃ (a : Addr) (ns : List Int) (d : Int), vs = [V.ref a] ∧ zs = [V.int d] ∧ SqL K H a (ns.map V.int) ∧ (ns = [] → Q (.int d) H) ∧ ∀ m ∈ ns, (∀ y ∈ ns, y ≤ m) → Q (.int m) H
theorem cr_maxD (hc : X.calm = true) : CallRK X (.builtin "max") [Str.ofString "default"] (rMaxD X.K) := by
  intro pins s σ H vs zs us ws Q I r rz h
  obtain ⟨a, ns, d, rfl, rfl, hs, q0, q1⟩ := h
  obtain ⟨its, rv, hl, _⟩ := I.list hs
  rw [Vals.ref1 r]
  obtain ⟨w1, rfl, e1⟩ := vals1 rz
  obtain ⟨t, rfl⟩ : ∃ t, w1 = .int d t := e1
  have hi := rv.ints
  have hz : its.toArray.size = ns.length := by rw [List.size_toArray, hi.length]
  refine PySem.call_max_walkD (PySem.W.iter_listW (I.ok.hd hc) hl.isList fun s₂ e2 W st hfp hw hk => ?_)
  refine ⟨_, _, _, _, _, _, _, s.heap, fun i j => decide (ns.getD i 0 > ns.getD j 0), rfl, W, st, hfp, hw, hk, fun hn s' hm => ?_, fun hn => ⟨fun i j vi vj s3 Q3 E3 _ h1 h2 h3 => CmpOf.ints_gt (P := fun i v => its.toArray[i]? = some v) (fun i => ns.getD i 0) (fun i v hv => ints_at hi (by simpa using hv)) i j vi vj s3 Q3 E3 h1 h2 h3, fun v s' hP hm => ?_⟩⟩
  · obtain ⟨h', tk, rfl, hk'⟩ := PySem.W.moved_old e2 rfl hm
    have e0 : ns = [] := List.eq_nil_of_length_eq_zero (by omega)
    exact ⟨.int d, H, I.kept hk', ⟨t, rfl⟩, q0 e0⟩
  · obtain ⟨h', tk, rfl, hk'⟩ := PySem.W.moved_old e2 rfl hm
    obtain ⟨t2, rfl⟩ := ints_at hi (i := argBest (fun i j => decide (ns.getD i 0 > ns.getD j 0)) (its.toArray.size - 1)) (by simpa using hP)
    obtain ⟨b1, b2⟩ := argBest_gt (fun i => ns.getD i 0) (its.toArray.size - 1)
    refine ⟨.int _, H, I.kept hk', ⟨t2, rfl⟩, q1 _ ?_ fun y hy => ?_⟩
    · exact PySem.getD_mem (by omega)
    · obtain ⟨j, hj, rfl⟩ := mem_getD hy
      exact b2 j (by omega)
end
/-! ### walks whose turns do anything -/
section
variable {K : PySem.W.Frag} {a : Addr} {xs : List V} {B : V → Hp → (Hp → Prop) → Prop} {H0 : Hp} {Qd : Hp → Prop}
theorem walk_l (Pv : Nat → Hp → Prop) (h0 : Pv 0 H0) (hl : ∀ i H, i ≤ xs.length → Pv i H → SqL K H a xs) (hs : ∀ i x H, xs[i]? = some x → Pv i H → B x H (Pv (i + 1))) (hd : ∀ H, Pv xs.length H → Qd H) :
    ∃ W : Nat → Nat → Hp → Prop, (∃ m, W 0 m H0) ∧ ∀ i m H, W i m H → ((Itl K a).stop i H ∧ Qd H) ∨ ((Itl K a).go i H ∧ ∃ N : Hp → Prop, (∀ H', N H' → ∃ m', m' < m ∧ W (i + 1) m' H') ∧ ∀ x H', (Itl K a).yld i H x H' → B x H' N) := by
  refine ⟨fun i m H => m = xs.length - i ∧ i ≤ xs.length ∧ Pv i H, ⟨_, rfl, Nat.zero_le _, h0⟩, fun i m H ⟨hm, hi, p⟩ => ?_⟩
  have hq := hl i H hi p
  by_cases c : i < xs.length
  · refine .inr ⟨⟨xs, xs[i], hq, List.getElem?_eq_getElem c⟩, Pv (i + 1), fun H' p' => ⟨xs.length - (i + 1), by omega, rfl, c, p'⟩, fun x H' ⟨e, hx⟩ => ?_⟩
    subst e
    exact hs i x _ (hx xs hq) p
  · obtain rfl : i = xs.length := by omega
    exact .inl ⟨⟨xs, hq, Nat.le_refl _⟩, hd H p⟩
theorem walk_t (Pv : Nat → Hp → Prop) (h0 : Pv 0 H0) (hl : ∀ i H, i ≤ xs.length → Pv i H → SqT K H a xs) (hs : ∀ i x H, xs[i]? = some x → Pv i H → B x H (Pv (i + 1))) (hd : ∀ H, Pv xs.length H → Qd H) :
    ∃ W : Nat → Nat → Hp → Prop, (∃ m, W 0 m H0) ∧ ∀ i m H, W i m H → ((Itt K a).stop i H ∧ Qd H) ∨ ((Itt K a).go i H ∧ ∃ N : Hp → Prop, (∀ H', N H' → ∃ m', m' < m ∧ W (i + 1) m' H') ∧ ∀ x H', (Itt K a).yld i H x H' → B x H' N) := by
  refine ⟨fun i m H => m = xs.length - i ∧ i ≤ xs.length ∧ Pv i H, ⟨_, rfl, Nat.zero_le _, h0⟩, fun i m H ⟨hm, hi, p⟩ => ?_⟩
  have hq := hl i H hi p
  by_cases c : i < xs.length
  · refine .inr ⟨⟨xs, xs[i], hq, List.getElem?_eq_getElem c⟩, Pv (i + 1), fun H' p' => ⟨xs.length - (i + 1), by omega, rfl, c, p'⟩, fun x H' ⟨e, hx⟩ => ?_⟩
    subst e
    exact hs i x _ (hx xs hq) p
  · obtain rfl : i = xs.length := by omega
    exact .inl ⟨⟨xs, hq, Nat.le_refl _⟩, hd H p⟩
end
/-! ### lists of tuples of numbers -/
section
variable {K : PySem.W.Frag} {σ : L2.St} {H H' H1 : Hp} {ta0 : TA} {ta tb tc te : TE} {t u : TT} {x y z v : V} {r r' : R2} {xs ys zs : List V} {p q : Addr} {D : Ends} {tu tw tz : TS} {g : TG} {L : List Nat} {vss : List (List V)} {S : List (List Nat)} {rs : List Addr}
def nss (S : List (List Nat)) : List (List V) := S.map fun s => s.map nV
theorem nss_len (S : List (List Nat)) : (nss S).length = S.length := List.length_map _
theorem TupsAt.of {k : Nat} {v : V} (h : TupsAt H rs (nss S)) (hv : (rs.map V.ref)[k]? = some v) : ∃ r, v = .ref r ∧ k < S.length ∧ TN H r (Py.at1 S k) := by
  obtain ⟨r, vs, e1, e2, e3⟩ := TupsAt.get h hv
  unfold nss at e2
  rw [List.getElem?_map] at e2
  have hk : k < S.length := by
    by_cases c : k < S.length
    · exact c
    · rw [List.getElem?_eq_none (by omega)] at e2
      cases e2
  rw [Py.at1_get hk] at e2
  exact ⟨r, e1, hk, by rw [← Option.some.inj e2] at e3; exact e3⟩
theorem tups_upd {Dl : Addr} {l ys : List V} (hD : H Dl = some (.lst ys)) : ∀ {rs : List Addr} {vss : List (List V)}, TupsAt H rs vss → TupsAt (upd H Dl (.lst l)) rs vss
  | _, _, .nil => .nil
  | _, _, .cons h t => .cons (by
      rw [upd_ne (fun z => by rw [z, hD] at h; cases h)]
      exact h) (tups_upd hD t)
/-- [u for s in a list of tuples for u in (.., ..)] -/
def C2 (H : Hp) (V0 : List (List V)) (Dl : Addr) (i : Nat) (H' : Hp) : Prop := H Dl = none ∧ Ex H H' ∧ ∃ rs : List Addr, H' Dl = some (.lst (rs.map V.ref)) ∧ TupsAt H' rs (V0.take i)
theorem c2_snoc {V0 : List (List V)} {Dl : Addr} {i : Nat} {b : Addr} {us : List V} {H4 : Hp} (p : C2 H V0 Dl i H4) (hi : V0[i]? = some us) (hz : V0.length ≤ 40000) (hb : H4 b = some (.tup us)) :
    ∃ acc, H4 Dl = some (.lst acc) ∧ acc.length < sizeLine ∧ C2 H V0 Dl (i + 1) (upd H4 Dl (.lst (acc ++ [.ref b]))) := by
  obtain ⟨p1, p2, rs, p3, p4⟩ := p
  refine ⟨_, p3, sz_lt (by rw [List.length_map, p4.len, List.length_take]; omega), p1, Ex.mut p2 p1, rs ++ [b], by rw [upd_same, List.map_append] <;> rfl, ?_⟩
  rw [List.take_add_one, hi]
  exact tups_upd p3 (TupsAt.snoc (rs := rs) p4 hb)
theorem C2.up {V0 : List (List V)} {Dl : Addr} {i : Nat} (p : C2 H V0 Dl i H') (e : Ex H' H1) : C2 H V0 Dl i H1 := by
  obtain ⟨p1, p2, rs, p3, p4⟩ := p
  exact ⟨p1, p2.trans e, rs, e _ _ p3, p4.mono e⟩
theorem two_at {α : Type} {f g : List V → α} : ∀ {vss : List (List V)} {i : Nat} {us : List V}, vss[i]? = some us → (vss.flatMap fun s => [f s, g s])[2 * i]? = some (f us) ∧ (vss.flatMap fun s => [f s, g s])[2 * i + 1]? = some (g us)
  | [], i, us, h => by simp at h
  | s :: vss, 0, us, h => by
    obtain rfl : s = us := by simpa using h
    exact ⟨rfl, rfl⟩
  | s :: vss, i + 1, us, h => by
    have ih := two_at (f := f) (g := g) (vss := vss) (i := i) (us := us) (by simpa using h)
    have e1 : 2 * (i + 1) = 2 * i + 1 + 1 := by omega
    have e2 : 2 * (i + 1) + 1 = 2 * i + 1 + 1 + 1 := by omega
    refine ⟨?_, ?_⟩
    · rw [e1]
      exact ih.1
    · rw [e2]
      exact ih.2
theorem two_len {α : Type} {f g : List V → α} (vss : List (List V)) : (vss.flatMap fun s => [f s, g s]).length = 2 * vss.length := by
  induction vss with
  | nil => rfl
  | cons s vss ih =>
    rw [List.flatMap_cons, List.length_append, ih]
    simp only [List.length_cons, List.length_nil]
    omega
theorem tyes_of {σ2 : L2.St} {H' : Hp} {A N : Hp → Prop} (h : A H') : tYes σ2 H' fun b H3 => if b = true then A H3 else N H3 := h
theorem el_two {a : Addr} {tl : TE} {j j1 : Nat} {vs vs1 : List Nat} {f g : List V → List V} (h : Ev tl σ H (.ref a)) (hT : TL H a vss) (hz : vss.length ≤ 10000)
    (hw1 : ∀ x, wipe ((wipe σ vs).set j (some x)) vs = wipe σ vs) (hw2 : ∀ x y, wipe ((wipe ((wipe σ vs).set j (some x)) vs1).set j1 (some y)) vs1 = wipe ((wipe σ vs).set j (some x)) vs1)
    (he : ∀ (i : Nat) (r : Addr) (us : List V) H1, Ex H H1 → vss[i]? = some us → H1 r = some (.tup us) → EvU ta ((wipe σ vs).set j (some (.ref r))) H1 (f us) ∧ EvU tb ((wipe σ vs).set j (some (.ref r))) H1 (g us))
    (hx : ∀ x b H2 (Q : VK), Q (.ref b) H2 → te ((wipe ((wipe σ vs).set j (some x)) vs1).set j1 (some (.ref b))) H2 Q) :
    EvTL (tLc2 (iList K tl) (gName j) tYes (iTup K (tTup (tCons ta (tCons tb tNil)))) (gName j1) tYes te vs vs1) σ H (vss.flatMap fun s => [f s, g s]) := by
  intro H0 e Q k
  obtain ⟨rs, t1, t2⟩ := hT
  have len : (rs.map V.ref).length = vss.length := by rw [List.length_map, t2.len]
  refine h H0 e _ fun H1 e1 => ⟨a, rfl, ⟨_, sq_of ((e.trans e1) _ _ t1)⟩, fun Dl hD => ?_⟩
  have V0l := two_len (f := f) (g := g) vss
  refine walk_l (K := K) (a := a) (xs := rs.map V.ref) (fun i H' => C2 H1 (vss.flatMap fun s => [f s, g s]) Dl (2 * i) H') ⟨hD, Ex.new hD, [], by rw [upd_same] <;> rfl, by rw [Nat.mul_zero, List.take_zero]; exact .nil⟩ (fun i H' _ p => sq_of (p.2.1 _ _ ((e.trans e1) _ _ t1))) (fun i x H' hx1 p => ?_) (fun H' p => ?_)
  · obtain ⟨r, us, rfl, hus, hr⟩ := (t2.mono ((e.trans e1).trans p.2.1)).get hx1
    obtain ⟨a1, a2⟩ := two_at (f := f) (g := g) hus
    refine ⟨hw1 _, ?_⟩
    obtain ⟨ev1, ev2⟩ := he i r us H' ((e.trans e1).trans p.2.1) hus hr
    refine tyes_of ?_
    refine ev1 H' (Ex.refl _) _ fun b1 H3 n1 e3 h1 => ev2 H3 e3 _ fun b2 H4 n2 e4 h2 => ⟨by show 2 ≤ sizeLine; exact sz_of (by decide), fun T hT => ?_⟩
    have eT : Ex H4 (upd H4 T (.tup [.ref b1, .ref b2])) := Ex.new hT
    refine ⟨T, rfl, ⟨_, st_of upd_same⟩, ?_⟩
    have pT := p.up ((e3.trans e4).trans eT)
    refine walk_t (K := K) (a := T) (xs := [.ref b1, .ref b2]) (fun jj H' => C2 H1 (vss.flatMap fun s => [f s, g s]) Dl (2 * i + jj) H' ∧ H' T = some (.tup [.ref b1, .ref b2]) ∧ H' b1 = some (.tup (f us)) ∧ H' b2 = some (.tup (g us))) ⟨pT, upd_same, eT _ _ (e4 _ _ h1), eT _ _ h2⟩ (fun jj H' _ q => st_of q.2.1) (fun jj y H5 hy q => ?_) (fun H' q => ?_)
    · obtain ⟨q1, q2, q3, q4⟩ := q
      refine ⟨hw2 _ _, ?_⟩
      have keep : ∀ {b : Addr} {us : List V} {l : List V}, H5 b = some (.tup us) → (upd H5 Dl (.lst l)) b = some (.tup us) := by
        intro b us l hb
        obtain ⟨_, _, rs5, p5, _⟩ := q1
        rw [upd_ne (fun z => by rw [z, p5] at hb; cases hb)]
        exact hb
      match jj, hy with
      | 0, hy =>
        obtain rfl : V.ref b1 = y := by simpa using hy
        refine tyes_of (hx _ b1 H5 _ ?_)
        obtain ⟨acc, c1, c2, c3⟩ := c2_snoc q1 a1 (by omega) q3
        exact ⟨acc, c1, c2, c3, keep q2, keep q3, keep q4⟩
      | 1, hy =>
        obtain rfl : V.ref b2 = y := by simpa using hy
        refine tyes_of (hx _ b2 H5 _ ?_)
        obtain ⟨acc, c1, c2, c3⟩ := c2_snoc q1 a2 (by omega) q4
        exact ⟨acc, c1, c2, c3, keep q2, keep q3, keep q4⟩
      | n + 2, hy => simp at hy
    · exact q.1
  · obtain ⟨p1, p2, ws, p3, p4⟩ := p
    rw [len, List.take_of_length_le (by omega)] at p4
    exact k Dl H' (fresh_back e1 p1) (e1.trans p2) ⟨ws, p3, p4⟩
theorem eat_consV {vs : List V} (h : Ev te σ H (.ref p)) (hp : H p = some (.tup vs)) (hr : EvAT ta0 σ H vss) : EvAT (tCons te ta0) σ H (vs :: vss) := fun H1 e _ k =>
  h H1 e _ fun H2 e2 => hr H2 (e.trans e2) _ fun rs H3 e3 ht => k (p :: rs) H3 (e2.trans e3) (.cons (((e.trans e2).trans e3) _ _ hp) ht)
theorem etl_lst (h : EvAT ta0 σ H vss) (hz : vss.length ≤ 1000) : EvTL (tLst ta0) σ H vss := fun H1 e Q k =>
  h H1 e _ fun rs H2 e2 ht => ⟨sz_of (by rw [List.length_map, ht.len]; omega), fun p hp => k p _ (fresh_back e2 hp) (e2.trans (Ex.new hp)) ⟨rs, upd_same, ht.mono (Ex.new hp)⟩⟩
theorem paired_app {F : Addr → List V → Prop} : ∀ {l1 l2 : List Addr} {m1 m2 : List (List V)}, Paired F l1 m1 → Paired F l2 m2 → Paired F (l1 ++ l2) (m1 ++ m2)
  | _, _, _, _, .nil, h => h
  | _, _, _, _, .cons a t, h => .cons a (paired_app t h)
theorem etl_cat {wss : List (List V)} (ha : EvTL ta σ H vss) (hb : Ev tb σ H (.ref q)) (hq : TL H q wss) (hz : vss.length + wss.length ≤ 1000) : EvTL (tOp rCat ta tb) σ H (vss ++ wss) := fun H1 e Q k =>
  ha H1 e _ fun p H2 np e2 hp => hb H2 (e.trans e2) _ fun H3 e3 => by
    obtain ⟨rs, p1, p2⟩ := hp.up e3
    obtain ⟨ss, q1, q2⟩ := hq.up ((e.trans e2).trans e3)
    refine ⟨p, q, _, _, rfl, rfl, p1, q1, sz_of (by rw [List.length_map, List.length_map, p2.len, q2.len]; omega), fun l hl => k l _ (fresh_back (e2.trans e3) hl) ((e2.trans e3).trans (Ex.new hl)) ⟨rs ++ ss, by rw [upd_same, List.map_append], ?_⟩⟩
    exact TupsAt.mono (Ex.new hl) (paired_app p2 q2)
theorem s_forTLn {a : Addr} {tl : TE} {j : Nat} (h : Ev tl σ H (.ref a)) (hT : TL H a vss) (Pv : Nat → L2.St → Hp → Prop) (h0 : ∀ H1, Ex H H1 → Pv 0 σ H1) (hE : ∀ i σ' H', Pv i σ' H' → Ex H H')
    (hs : ∀ i r us σ' H', vss[i]? = some us → H' r = some (.tup us) → Pv i σ' H' → tu { D with nx := Pv (i + 1), ct := Pv (i + 1), bk := D.nx } (σ'.set j (some (.ref r))) H') (hd : ∀ σ' H', Pv vss.length σ' H' → D.nx σ' H') : tFor (iList K tl) (gName j) tu D σ H := by
  obtain ⟨rs, h1, h2⟩ := hT
  refine s_forLn h (sq_of h1) Pv h0 (fun i σ' H' _ pv => sq_of (hE i σ' H' pv _ _ h1)) (fun i x σ' H' hx pv => ?_) (fun σ' H' pv => hd σ' H' (by rw [List.length_map, h2.len] at pv; exact pv))
  obtain ⟨r, us, rfl, hu, hr⟩ := (h2.mono (hE i σ' H' pv)).get hx
  exact hs i r us σ' H' hu hr pv
theorem q_forTLn {a : Addr} {tl : TE} {j : Nat} (h : Ev tl σ H (.ref a)) (hT : TL H a vss) (Pv : Nat → L2.St → Hp → Prop) (h0 : ∀ H1, Ex H H1 → Pv 0 σ H1) (hE : ∀ i σ' H', Pv i σ' H' → Ex H H')
    (hs : ∀ i r us σ' H', vss[i]? = some us → H' r = some (.tup us) → Pv i σ' H' → tu { D with nx := Pv (i + 1), ct := Pv (i + 1), bk := tz D } (σ'.set j (some (.ref r))) H') (hd : ∀ σ' H', Pv vss.length σ' H' → tz D σ' H') : tSeq (tFor (iList K tl) (gName j) tu) tz D σ H :=
  s_forTLn (D := { D with nx := tz D }) h hT Pv h0 hE hs hd
theorem tl_ix {k : Nat} (h : TL H p (nss S)) (hk : k < S.length) : ∃ r, TN H r (Py.at1 S k) ∧ RV (rIxL K) (.ref p) (.int (k : Int)) H (.ref r) := by
  obtain ⟨rs, h1, h2⟩ := h
  have hr : k < rs.length := by
    rw [h2.len, nss_len]
    exact hk
  have e : (rs.map V.ref)[k]? = some (.ref rs[k]) := by rw [List.getElem?_map, List.getElem?_eq_getElem hr] <;> rfl
  obtain ⟨r, e2, _, hr2⟩ := TupsAt.of h2 e
  exact ⟨r, hr2, rv_ixLN (sq_of h1) (by rw [e, e2])⟩
theorem tl_len (h : TL H p (nss S)) : ∃ rs : List Addr, SqL K H p (rs.map V.ref) ∧ rs.length = S.length := by
  obtain ⟨rs, h1, h2⟩ := h
  exact ⟨rs, sq_of h1, by rw [h2.len, nss_len]⟩
theorem el_zTLn {a : Addr} {tl : TE} {j : Nat} {vs : List Nat} {ns : List Nat} (h : Ev tl σ H (.ref a)) (hN : TL H a (nss S)) (hz : ns.length = S.length) (hn : S.length ≤ 40000) (hw : ∀ x, wipe ((wipe σ vs).set j (some x)) vs = wipe σ vs)
    (he : ∀ (i : Nat) (r : Addr) H1, Ex H H1 → i < S.length → TN H1 r (Py.at1 S i) → Ev te ((wipe σ vs).set j (some (.ref r))) H1 (nV (Py.at0 ns i))) : EvL (tLc (iList K tl) (gName j) tYes te vs) σ H (ns.map nV) := by
  obtain ⟨rs, h1, h2⟩ := hN
  refine el_zL h (sq_of h1) (by rw [List.length_map, List.length_map, h2.len, nss_len, hz]) (by rw [List.length_map, h2.len, nss_len]; exact hn) hw fun i x w H1 e hx hw => ?_
  obtain ⟨r, rfl, hi, hr⟩ := TupsAt.of (h2.mono e) hx
  rw [nat_get (by omega)] at hw
  rw [← Option.some.inj hw]
  exact he i r H1 e hi hr
/-- a tuple of numbers, new or not -/
def EvW (te : TE) (σ : L2.St) (H : Hp) (L : List Nat) : Prop := ∀ H1, Ex H H1 → ∀ Q : VK, (∀ p H2, Ex H1 H2 → TN H2 p L → Q (.ref p) H2) → te σ H1 Q
theorem ew_cat {M : List Nat} (ha : Ev ta σ H (.ref p)) (hp : TN H p L) (hb : Ev tb σ H (.ref q)) (hq : TN H q M) (hz : L.length + M.length ≤ 100000) : EvW (tOp (rCatA K) ta tb) σ H (L ++ M) := fun H1 e Q k =>
  ha H1 e _ fun H2 e2 => hb H2 (e.trans e2) _ fun H3 e3 => by
    have p3 := hp.up ((e.trans e2).trans e3)
    have q3 := hq.up ((e.trans e2).trans e3)
    refine ⟨p, q, L.map nV, M.map nV, rfl, rfl, st_of p3, st_of q3, sz_of (by rw [len_map, len_map]; omega), fun h0 => k q H3 (e2.trans e3) ?_, fun _ h0 => k p H3 (e2.trans e3) ?_, fun _ _ l hl => k l _ ((e2.trans e3).trans (Ex.new hl)) (by show upd _ _ _ l = _; rw [upd_same, List.map_append])⟩
    · obtain rfl : L = [] := List.map_eq_nil_iff.mp h0
      exact q3
    · obtain rfl : M = [] := List.map_eq_nil_iff.mp h0
      rw [List.append_nil]
      exact p3
theorem etdW {w : Str} {n : Nat} (h1 : Ev ta σ H (.str w)) (h2 : Ev tb σ H (nV n)) (h3 : EvW tc σ H L) : EvTD (tTup (tCons ta (tCons tb (tCons tc tNil)))) σ H (w, n, L) := fun H1 e Q k =>
  h1 H1 e _ fun H2 e2 => h2 H2 (e.trans e2) _ fun H3 e3 => h3 H3 ((e.trans e2).trans e3) _ fun q H4 e4 hq => ⟨by show 3 ≤ sizeLine; exact sz_of (by decide), fun p hp => k p _ (fresh_back ((e2.trans e3).trans e4) hp) (((e2.trans e3).trans e4).trans (Ex.new hp)) ⟨q, upd_same, Ex.new hp q _ hq⟩⟩
theorem etd_call {sp : Sp} {dvs vs : List V} {E : XK} {d : Str × Nat × List Nat} (h : EvA ta0 σ H vs) (hs : ∀ H1, Ex H H1 → ∀ Q : VK, (∀ p H2, H1 p = none → Ex H1 H2 → TD H2 p d → Q (.ref p) H2) → ∀ E : XK, sp (vs ++ dvs) H1 Q E) : EvTD (tCall sp dvs E ta0) σ H d := fun H1 e Q q =>
  h H1 e _ fun H2 e2 => hs H2 (e.trans e2) Q (fun p H3 n3 e3 h3 => q p H3 (fresh_back e2 n3) (e2.trans e3) h3) E
theorem etd_call1U {sp : Sp} {E : XK} {d : Str × Nat × List Nat} (h1 : EvU ta σ H xs) (hs : ∀ p H1, Ex H H1 → H1 p = some (.tup xs) → ∀ Q : VK, (∀ q H2, H1 q = none → Ex H1 H2 → TD H2 q d → Q (.ref q) H2) → ∀ E : XK, sp ([.ref p] ++ []) H1 Q E) : EvTD (tCall sp [] E (tCons ta tNil)) σ H d := fun H1 e Q k =>
  h1 H1 e _ fun p H2 _ e2 hp => hs p H2 (e.trans e2) hp Q (fun q H3 n3 e3 h3 => k q H3 (fresh_back e2 n3) (e2.trans e3) h3) E
theorem ev_td1 {d : Str × Nat × List Nat} (h : EvTD te σ H d) (h1 : ∀ H1, Ex H H1 → Ev tb σ H1 (.int 1)) : Ev (tOp (rIxT K) te tb) σ H (nV d.2.1) := fun H1 e Q k =>
  h H1 e _ fun p H2 _ e2 hp => h1 H2 (e.trans e2) H2 (Ex.refl _) _ fun H3 e3 => by
    obtain ⟨q, q1, q2⟩ := hp.up e3
    exact rv_ixTN (k := 1) (st_of q1) rfl H3 (Ex.refl _) Q fun H4 e4 => k H4 ((e2.trans e3).trans e4)
/-- a, b, c = a tuple (word, number, numbers) -/
theorem q_unTD {i j l : Nat} {d : Str × Nat × List Nat} (h : EvTD te σ H d) (k : ∀ q H1, Ex H H1 → TN H1 q d.2.2 → tz D (((σ.set i (some (.str d.1))).set j (some (nV d.2.1))).set l (some (.ref q))) H1) : tSeq (tAsg te (gTup K 3 (gCons (gName i) (gCons (gName j) (gCons (gName l) gNil))))) tz D σ H :=
  h H (Ex.refl H) _ fun p H1 _ e hp => by
    obtain ⟨q, q1, q2⟩ := hp
    exact ⟨p, _, rfl, st_of q1, rfl, _, _, rfl, _, _, rfl, _, _, rfl, rfl, k q H1 e q2⟩
theorem ev_call1TL {sp : Sp} {E : XK} (h1 : EvTL ta σ H vss) (hs : ∀ p H1, Ex H H1 → TL H1 p vss → SpV sp ([.ref p] ++ []) H1 z) : Ev (tCall sp [] E (tCons ta tNil)) σ H z := fun H1 e Q k =>
  h1 H1 e _ fun p H2 _ e2 hp => hs p H2 (e.trans e2) hp H2 (Ex.refl _) Q (fun H3 e3 => k H3 (e2.trans e3)) E
theorem ev_call2TLL {sp : Sp} {E : XK} (h1 : EvTL ta σ H vss) (h2 : EvL tb σ H ys) (hs : ∀ p q H1, Ex H H1 → TL H1 p vss → H1 q = some (.lst ys) → SpV sp ([.ref p, .ref q] ++ []) H1 z) : Ev (tCall sp [] E (tCons ta (tCons tb tNil))) σ H z := fun H1 e Q k =>
  h1 H1 e _ fun p H2 _ e2 hp => h2 H2 (e.trans e2) _ fun q H3 _ e3 hq => hs p q H3 ((e.trans e2).trans e3) (hp.up e3) hq H3 (Ex.refl _) Q (fun H4 e4 => k H4 ((e2.trans e3).trans e4)) E
theorem eu_call2VL {sp : Sp} {E : XK} (h1 : Ev ta σ H x) (h2 : EvL tb σ H ys) (hs : ∀ q H1, Ex H H1 → H1 q = some (.lst ys) → SpU sp ([x, .ref q] ++ []) H1 zs) : EvU (tCall sp [] E (tCons ta (tCons tb tNil))) σ H zs := fun H1 e Q k =>
  h1 H1 e _ fun H2 e2 => h2 H2 (e.trans e2) _ fun q H3 _ e3 hq => hs q H3 ((e.trans e2).trans e3) hq H3 (Ex.refl _) Q (fun p H4 n4 e4 h4 => k p H4 (fresh_back (e2.trans e3) n4) ((e2.trans e3).trans e4) h4) E
theorem ev_opVU2 {ys : List V} (ha : Ev ta σ H x) (hb : EvU tb σ H ys) (hr : ∀ q H1, H1 q = some (.tup ys) → Ex H H1 → RV r x (.ref q) H1 z) : Ev (tOp r ta tb) σ H z := ev_opU ha hb hr
def maxN (L : List Nat) : Nat := L.foldl max 0
theorem maxN_ge : ∀ (L : List Nat) (a : Nat), a ≤ L.foldl max a ∧ ∀ y ∈ L, y ≤ L.foldl max a
  | [], a => ⟨Nat.le_refl _, fun y h => absurd h List.not_mem_nil⟩
  | b :: L, a => by
    obtain ⟨h1, h2⟩ := maxN_ge L (max a b)
    refine ⟨by show a ≤ L.foldl max (max a b); omega, fun y hy => ?_⟩
    show y ≤ L.foldl max (max a b)
    rcases List.mem_cons.mp hy with rfl | hy
    · omega
    · exact h2 y hy
theorem maxN_mem : ∀ (L : List Nat) (a : Nat), L.foldl max a = a ∨ L.foldl max a ∈ L
  | [], a => .inl rfl
  | b :: L, a => by
    show L.foldl max (max a b) = a ∨ L.foldl max (max a b) ∈ b :: L
    rcases maxN_mem L (max a b) with h | h
    · rcases Nat.le_total a b with c | c
      · rw [h, Nat.max_eq_right c]
        exact .inr (List.mem_cons_self ..)
      · rw [h, Nat.max_eq_left c]
        exact .inl rfl
    · exact .inr (List.mem_cons_of_mem _ h)
theorem maxN_is {L : List Nat} {m : Nat} (hm : m ∈ L) (h : ∀ y ∈ L, y ≤ m) : maxN L = m := by
  have h2 := (maxN_ge L 0).2 m hm
  unfold maxN
  rcases maxN_mem L 0 with q | q
  · omega
  · have := h _ q
    omega
theorem ev_maxD {td : TE} (h : EvL te σ H (L.map nV)) (hd : ∀ H1, Ex H H1 → Ev td σ H1 (.int 0)) : Ev (tCKw (rMaxD K) (tCons te tNil) (tCons td tNil)) σ H (nV (maxN L)) := fun H1 e Q k =>
  h H1 e _ fun p H2 _ e2 hp => hd H2 (e.trans e2) H2 (Ex.refl _) _ fun H3 e3 => ⟨p, L.map fun (n : Nat) => (n : Int), 0, rfl, rfl, by rw [← map_nV]; exact sq_of (e3 _ _ hp), fun h0 => by
    obtain rfl : L = [] := List.map_eq_nil_iff.mp h0
    exact k H3 (e2.trans e3), fun m hm hy => by
    obtain ⟨n, hn, rfl⟩ := List.mem_map.mp hm
    have e0 : maxN L = n := maxN_is hn fun y hy2 => by
      have := hy (y : Int) (List.mem_map.mpr ⟨y, hy2, rfl⟩)
      omega
    rw [← e0]
    exact k H3 (e2.trans e3)⟩
theorem ev_max2 {a b : Nat} (ha : Ev ta σ H (nV a)) (hb : Ev tb σ H (nV b)) : Ev (tCB (fun xs H Q => ∃ i j, xs = [.int i, .int j] ∧ Q (.int (if j > i then j else i)) H) (tCons ta (tCons tb tNil))) σ H (nV (max a b)) := fun H1 e Q k =>
  ha H1 e _ fun H2 e2 => hb H2 (e.trans e2) _ fun H3 e3 => ⟨(a : Int), (b : Int), rfl, by
    have e0 : (if (b : Int) > (a : Int) then (b : Int) else (a : Int)) = ((max a b : Nat) : Int) := by
      split <;> omega
    rw [e0]
    exact k H3 (e2.trans e3)⟩
end
section
variable {X : Cx} {K : PySem.W.Frag}
theorem pi_tupK {tg e : Expr} {te : TE} (h : X.K = K) (he : PE X e te) : PI X tg e (iTup K te) := h ▸ pi_tup he
end
end Mx

set_option Elab.async false
set_option linter.all false
namespace Py
open Gf
/-! ### elimination -/
abbrev en (M : List (List Nat)) (k j : Nat) : Nat := at0 (at1 M k) j
/-- the rows' places before two of them changed theirs -/
def swi (t u k : Nat) : Nat := if k = u then t else k
def mixl (f : Nat) (l m : List Nat) : List Nat := List.zipWith (fun a b => a ^^^ gm f b) l m
/-- one step at column c, the row u coming to the place t, told from the row lo on -/
structure Stp (R R' : List (List Nat)) (r w t u c lo : Nat) : Prop where
  top : ∀ j, j < w → en R' t j = gm (gi (en R u c)) (en R u j)
  oth : ∀ k, lo ≤ k → k < r → ¬ k = t → ∀ j, j < w → en R' k j = en R (swi t u k) j ^^^ gm (en R (swi t u k) c) (gm (gi (en R u c)) (en R u j))
/-- the rows from t on that have something in column c -/
def usb (R : List (List Nat)) (r t c : Nat) : List Nat := ((List.range (r - t)).map (t + ·)).filter fun i => en R i c != 0
theorem usb_cons {R : List (List Nat)} {r t c u : Nat} {l : List Nat} (h : usb R r t c = u :: l) : t ≤ u ∧ u < r ∧ ¬ en R u c = 0 := by
  have hm : u ∈ usb R r t c := by rw [h]; exact List.mem_cons_self ..
  unfold usb at hm
  obtain ⟨h1, h2⟩ := List.mem_filter.mp hm
  obtain ⟨k, hk, rfl⟩ := List.mem_map.mp h1
  have := List.mem_range.mp hk
  exact ⟨by omega, by omega, by simpa using h2⟩
theorem usb_nil {R : List (List Nat)} {r t c : Nat} (h : usb R r t c = []) : ∀ i, t ≤ i → i < r → en R i c = 0 := by
  intro i h1 h2
  by_cases q : en R i c = 0
  · exact q
  · have hm : i ∈ usb R r t c := by
      unfold usb
      refine List.mem_filter.mpr ⟨List.mem_map.mpr ⟨i - t, List.mem_range.mpr (by omega), by omega⟩, by simpa using q⟩
    rw [h] at hm
    exact absurd hm List.not_mem_nil
theorem usb_congr {R L : List (List Nat)} {r t c : Nat} (h : ∀ i, t ≤ i → i < r → en R i c = en L i c) : usb R r t c = usb L r t c := by
  unfold usb
  refine List.filter_congr fun i hi => ?_
  obtain ⟨k, hk, rfl⟩ := List.mem_map.mp hi
  have := List.mem_range.mp hk
  rw [h _ (by omega) (by omega)]
/-- two courses that agree from the row t on go on so -/
theorem low_step {R L R' L' : List (List Nat)} {r w t u c : Nat} (hc : c < w) (hu : t ≤ u ∧ u < r) (h : ∀ k, t ≤ k → k < r → ∀ j, j < w → en R k j = en L k j) (h1 : Stp R R' r w t u c 0) (h2 : Stp L L' r w t u c t) :
    ∀ k, t + 1 ≤ k → k < r → ∀ j, j < w → en R' k j = en L' k j := by
  intro k hk hr j hj
  have hs : t ≤ swi t u k ∧ swi t u k < r := by
    unfold swi
    split <;> omega
  rw [h1.oth k (by omega) hr (by omega) j hj, h2.oth k (by omega) hr (by omega) j hj, h _ hs.1 hs.2 j hj, h _ hs.1 hs.2 c hc, h u hu.1 hu.2 c hc, h u hu.1 hu.2 j hj]
/-- the product of a row and a column -/
def dt (l : List Nat) (z : Nat → Nat) (w : Nat) : Nat := xs (fun j => gm (at0 l j) (z j)) w
theorem dt_lt (l : List Nat) (z : Nat → Nat) (w : Nat) : dt l z w < 256 := xs_lt (fun _ => gm_lt _ _) w
theorem xs_scale {g : Nat → Nat} (h : ∀ k, g k < 256) (f n : Nat) : xs (fun k => gm f (g k)) n = gm f (xs g n) := by
  rw [gm_comm f, ← xs_gm h n]
  exact xs_congr fun j _ => gm_comm _ _
theorem dt_mix {l l1 l2 : List Nat} {z : Nat → Nat} {w f : Nat} (o1 : Oc l1) (h : ∀ j, j < w → at0 l j = at0 l1 j ^^^ gm f (at0 l2 j)) : dt l z w = dt l1 z w ^^^ gm f (dt l2 z w) := by
  unfold dt
  rw [← xs_scale (fun _ => gm_lt _ _), ← xs_xor]
  refine xs_congr fun j hj => ?_
  rw [h j hj, xor_gm (o1 j) (gm_lt _ _), gm_assoc]
theorem dt_scale {l l2 : List Nat} {z : Nat → Nat} {w f : Nat} (h : ∀ j, j < w → at0 l j = gm f (at0 l2 j)) : dt l z w = gm f (dt l2 z w) := by
  unfold dt
  rw [← xs_scale (fun _ => gm_lt _ _)]
  refine xs_congr fun j hj => ?_
  rw [h j hj, gm_assoc]
theorem gm_null {a b : Nat} (h : gm a b = 0) (ha : ¬ a = 0) : b = 0 := by
  by_cases q : b = 0
  · exact q
  · exact absurd h (gm_ne ha q)
/-- what holds behind the first c columns -/
structure EI (A : List (List Nat)) (r w c : Nat) (R : List (List Nat)) (P : List Nat) : Prop where
  mt : Mt R r w
  len : P.length ≤ c
  rows : P.length ≤ r
  full : P.length = c → ∀ i, i < c → at0 P i = i
  lt : ∀ i, i < P.length → at0 P i < c
  inc : ∀ i j, i < j → j < P.length → at0 P i < at0 P j
  piv : ∀ i, i < P.length → ∀ k, k < r → en R k (at0 P i) = if k = i then 1 else 0
  zero : ∀ k, P.length ≤ k → k < r → ∀ j, j < c → en R k j = 0
  null : ∀ z : Nat → Nat, (∀ k, k < r → dt (at1 R k) z w = 0) ↔ ∀ k, k < r → dt (at1 A k) z w = 0
theorem ei_start {A : List (List Nat)} {r w : Nat} (h : Mt A r w) : EI A r w 0 A [] :=
  ⟨h, Nat.le_refl _, Nat.zero_le _, fun _ i hi => absurd hi (Nat.not_lt_zero _), fun i hi => absurd hi (Nat.not_lt_zero _), fun i j _ hj => absurd hj (Nat.not_lt_zero _), fun i hi => absurd hi (Nat.not_lt_zero _), fun k _ _ j hj => absurd hj (Nat.not_lt_zero _), fun z => Iff.rfl⟩
theorem ei_skip {A R : List (List Nat)} {r w c : Nat} {P : List Nat} (h : EI A r w c R P) (hn : ∀ i, P.length ≤ i → i < r → en R i c = 0) : EI A r w (c + 1) R P := by
  refine ⟨h.mt, by have := h.len; omega, h.rows, fun q => absurd h.len (by omega), fun i hi => by have := h.lt i hi; omega, h.inc, h.piv, fun k h1 h2 j hj => ?_, h.null⟩
  by_cases q : j = c
  · rw [q]
    exact hn k h1 h2
  · exact h.zero k h1 h2 j (by omega)
theorem at0_snoc {P : List Nat} {c i : Nat} (h : i < (P ++ [c]).length) : (i < P.length ∧ at0 (P ++ [c]) i = at0 P i) ∨ (i = P.length ∧ at0 (P ++ [c]) i = c) := by
  rw [List.length_append, List.length_singleton] at h
  rw [at0_app]
  by_cases q : i < P.length
  · exact .inl ⟨q, by rw [if_pos q]⟩
  · have e : i = P.length := by omega
    refine .inr ⟨e, ?_⟩
    rw [if_neg q, e, Nat.sub_self] <;> rfl
theorem ei_step {A R R' : List (List Nat)} {r w c u : Nat} {P : List Nat} (h : EI A r w c R P) (hc : c < w) (hu : P.length ≤ u ∧ u < r ∧ ¬ en R u c = 0) (hm : Mt R' r w) (S : Stp R R' r w P.length u c 0) : EI A r w (c + 1) R' (P ++ [c]) := by
  have oR : ∀ k, k < r → Oc (at1 R k) := fun k hk => (h.mt.at hk).2
  have hw : ∀ i, i < P.length → at0 P i < w := fun i hi => by have := h.lt i hi; omega
  have gc : gm (gi (en R u c)) (en R u c) = 1 := by
    rw [gm_comm]
    exact gm_gi (oR u hu.2.1 c) hu.2.2
  have hs : ∀ k, k < r → ¬ k = P.length → swi P.length u k < r := fun k hk _ => by
    unfold swi
    split <;> omega
  have lenS : (P ++ [c]).length = P.length + 1 := by rw [List.length_append, List.length_singleton]
  refine ⟨hm, by rw [lenS]; have := h.len; omega, by rw [lenS]; omega, fun q i hi => ?_, fun i hi => ?_, fun i j hij hj => ?_, fun i hi k hk => ?_, fun k h1 h2 j hj => ?_, fun z => (Iff.trans ?_ (h.null z))⟩
  · rw [lenS] at q
    rcases at0_snoc (P := P) (c := c) (i := i) (by rw [lenS]; omega) with ⟨q1, q2⟩ | ⟨q1, q2⟩
    · rw [q2]
      exact h.full (by omega) i (by omega)
    · rw [q2]
      omega
  · rcases at0_snoc hi with ⟨q1, q2⟩ | ⟨q1, q2⟩
    · rw [q2]
      have := h.lt i q1
      omega
    · rw [q2]
      omega
  · rcases at0_snoc (P := P) (c := c) (i := i) (by omega) with ⟨q1, q2⟩ | ⟨q1, q2⟩
    · rcases at0_snoc hj with ⟨q3, q4⟩ | ⟨q3, q4⟩
      · rw [q2, q4]
        exact h.inc i j hij q3
      · rw [q2, q4]
        exact h.lt i q1
    · rw [lenS] at hj
      omega
  · rcases at0_snoc hi with ⟨q1, q2⟩ | ⟨q1, q2⟩
    · rw [q2]
      have pu := h.piv i q1 u hu.2.1
      rw [if_neg (by omega)] at pu
      by_cases qk : k = P.length
      · rw [qk, S.top _ (hw i q1), pu, gm_zero (.inr rfl), if_neg (by omega)]
      · rw [S.oth k (Nat.zero_le _) hk qk _ (hw i q1), pu, gm_zero (a := gi _) (.inr rfl), gm_zero (.inr rfl), Nat.xor_zero, h.piv i q1 _ (hs k hk qk)]
        unfold swi
        by_cases qu : k = u
        · rw [if_pos qu, if_neg (by omega), if_neg (by omega)]
        · rw [if_neg qu]
    · rw [q2]
      by_cases qk : k = P.length
      · rw [qk, S.top _ hc, gc, if_pos q1.symm]
      · rw [S.oth k (Nat.zero_le _) hk qk _ hc, gc, gm_one (oR _ (hs k hk qk) c), Nat.xor_self, if_neg (by omega)]
  · rw [lenS] at h1
    have qk : ¬ k = P.length := by omega
    rw [S.oth k (Nat.zero_le _) h2 qk j (by omega)]
    by_cases qc : j = c
    · rw [qc, gc, gm_one (oR _ (hs k h2 qk) c), Nat.xor_self]
    · have z1 : en R (swi P.length u k) j = 0 := by
        refine h.zero _ ?_ (hs k h2 qk) j (by omega)
        unfold swi
        split <;> omega
      rw [z1, h.zero u hu.1 hu.2.1 j (by omega), gm_zero (a := gi _) (.inr rfl), gm_zero (.inr rfl)] <;> rfl
  · have dtop : dt (at1 R' P.length) z w = gm (gi (en R u c)) (dt (at1 R u) z w) := dt_scale fun j hj => S.top j hj
    have doth : ∀ k, k < r → ¬ k = P.length → dt (at1 R' k) z w = dt (at1 R (swi P.length u k)) z w ^^^ gm (en R (swi P.length u k) c) (dt (at1 R' P.length) z w) := fun k hk qk =>
      dt_mix (oR _ (hs k hk qk)) fun j hj => by
        have e1 := S.oth k (Nat.zero_le _) hk qk j hj
        have e2 := S.top j hj
        rw [← e2] at e1
        exact e1
    constructor
    · intro hz m hm2
      have t0 := hz P.length (by omega)
      have u0 : dt (at1 R u) z w = 0 := by
        rw [dtop] at t0
        exact gm_null t0 (gi_ne _)
      by_cases qm : m = u
      · rw [qm]
        exact u0
      · have key : ∀ k, k < r → ¬ k = P.length → swi P.length u k = m → dt (at1 R m) z w = 0 := fun k hk qk e => by
          have q := doth k hk qk
          rw [hz k hk, t0, gm_zero (.inr rfl), Nat.xor_zero, e] at q
          exact q.symm
        by_cases qt : m = P.length
        · exact key u hu.2.1 (by omega) (by unfold swi; rw [if_pos rfl, qt])
        · exact key m hm2 qt (by unfold swi; rw [if_neg qm])
    · intro hz k hk
      have t0 : dt (at1 R' P.length) z w = 0 := by rw [dtop, hz u hu.2.1, gm_zero (.inr rfl)]
      by_cases qk : k = P.length
      · rw [qk]
        exact t0
      · rw [doth k hk qk, hz _ (hs k hk qk), t0, gm_zero (.inr rfl)] <;> rfl
/-! ### the steps as they are written -/
def swp (R : List (List Nat)) (t u : Nat) : List (List Nat) := (R.set t (at1 R u)).set u (at1 R t)
theorem at1_set {R : List (List Nat)} {t k : Nat} {l : List Nat} (h : t < R.length) : at1 (R.set t l) k = if k = t then l else at1 R k := by
  unfold at1
  rw [List.getD_eq_getElem?_getD, List.getD_eq_getElem?_getD, List.getElem?_set]
  by_cases e : t = k
  · subst e
    rw [if_pos rfl, if_pos h, if_pos rfl] <;> rfl
  · rw [if_neg e, if_neg (fun z => e z.symm)]
theorem swp_at {R : List (List Nat)} {r t u k : Nat} (hr : R.length = r) (ht : t < r) (hu : u < r) : at1 (swp R t u) k = if k = t then at1 R u else at1 R (swi t u k) := by
  unfold swp swi
  rw [at1_set (by rw [List.length_set]; omega), at1_set (by omega)]
  by_cases q1 : k = u
  · rw [if_pos q1, if_pos q1]
    by_cases q2 : k = t
    · rw [if_pos q2, ← q1, q2]
    · rw [if_neg q2]
  · rw [if_neg q1, if_neg q1]
theorem Mt.set {R : List (List Nat)} {r w t : Nat} {l : List Nat} (h : Mt R r w) (hl : l.length = w) (ho : Oc l) : Mt (R.set t l) r w := by
  refine ⟨by rw [List.length_set, h.rows], fun m hm => ?_, fun m hm => ?_⟩
  · rcases List.mem_or_eq_of_mem_set hm with q | q
    · exact h.cols m q
    · rw [q]; exact hl
  · rcases List.mem_or_eq_of_mem_set hm with q | q
    · exact h.oct m q
    · rw [q]; exact ho
theorem swp_mt {R : List (List Nat)} {r w t u : Nat} (h : Mt R r w) (ht : t < r) (hu : u < r) : Mt (swp R t u) r w :=
  (h.set (h.at hu).1 (h.at hu).2).set (h.at ht).1 (h.at ht).2
theorem mixl_at {f k : Nat} {l m : List Nat} (h : l.length = m.length) : at0 (mixl f l m) k = at0 l k ^^^ gm f (at0 m k) := at0_zip h
theorem mixl_len {f : Nat} {l m : List Nat} (h : l.length = m.length) : (mixl f l m).length = l.length := by
  unfold mixl
  rw [List.length_zipWith]
  omega
theorem mixl_oct {f : Nat} {l m : List Nat} (h : l.length = m.length) (ho : Oc l) : Oc (mixl f l m) := fun k => by
  rw [mixl_at h]
  exact xor_lt (ho k) (gm_lt _ _)
/-- the row that is scaled -/
def pvt (S : List (List Nat)) (t c : Nat) : List Nat := (at1 S t).map (gm (gi (en S t c)))
def othr (S : List (List Nat)) (t c : Nat) : List (List Nat) := S.map fun l => if at0 l c = 0 then l else mixl (at0 l c) l (pvt S t c)
def clr (S : List (List Nat)) (t c : Nat) : List (List Nat) := (othr S t c).set t (pvt S t c)
theorem clr_mt {S : List (List Nat)} {r w t c : Nat} (h : Mt S r w) (ht : t < r) : Mt (pvt S t c :: othr S t c) (r + 1) w ∧ Mt (clr S t c) r w ∧ Mt (othr S t c) r w := by
  have hp : (pvt S t c).length = w ∧ Oc (pvt S t c) := by
    unfold pvt
    exact ⟨by rw [List.length_map, (h.at ht).1], oc_scale _ _⟩
  have ho : Mt (othr S t c) r w := by
    unfold othr
    refine ⟨by rw [List.length_map, h.rows], fun l hl => ?_, fun l hl => ?_⟩
    · obtain ⟨m, hm, rfl⟩ := List.mem_map.mp hl
      have hm2 := h.cols m hm
      split
      · exact hm2
      · rw [mixl_len (by rw [hm2, hp.1]), hm2]
    · obtain ⟨m, hm, rfl⟩ := List.mem_map.mp hl
      have hm2 := h.cols m hm
      split
      · exact h.oct m hm
      · exact mixl_oct (by rw [hm2, hp.1]) (h.oct m hm)
  refine ⟨⟨by rw [List.length_cons, ho.rows], fun l hl => ?_, fun l hl => ?_⟩, ho.set hp.1 hp.2, ho⟩
  · rcases List.mem_cons.mp hl with rfl | q
    · exact hp.1
    · exact ho.cols l q
  · rcases List.mem_cons.mp hl with rfl | q
    · exact hp.2
    · exact ho.oct l q
theorem pvt_at {S : List (List Nat)} {t c j : Nat} : at0 (pvt S t c) j = gm (gi (en S t c)) (en S t j) := at0_scale _
theorem othr_at {S : List (List Nat)} {r w t c k j : Nat} (h : Mt S r w) (ht : t < r) (hk : k < r) : en (othr S t c) k j = en S k j ^^^ gm (en S k c) (gm (gi (en S t c)) (en S t j)) := by
  have e : at1 (othr S t c) k = if en S k c = 0 then at1 S k else mixl (en S k c) (at1 S k) (pvt S t c) := by
    unfold othr
    exact at1_of (by rw [List.getElem?_map, at1_get (by rw [h.rows]; exact hk)] <;> rfl)
  show at0 (at1 (othr S t c) k) j = _
  rw [e]
  by_cases q : en S k c = 0
  · rw [if_pos q, q, gm_zero (a := 0) (.inl rfl), Nat.xor_zero]
  · rw [if_neg q, mixl_at (by unfold pvt; rw [List.length_map, (h.at hk).1, (h.at ht).1]), pvt_at]
theorem clr_stp {R : List (List Nat)} {r w t u c : Nat} (h : Mt R r w) (ht : t < r) (hu : u < r) (hc : c < w) : Stp R (clr (swp R t u) t c) r w t u c 0 := by
  have hS := swp_mt h ht hu
  have hO := (clr_mt (c := c) hS ht).2.2
  have et : at1 (swp R t u) t = at1 R u := by rw [swp_at h.rows ht hu, if_pos rfl]
  refine ⟨fun j hj => ?_, fun k _ hk qk j hj => ?_⟩
  · show at0 (at1 (clr (swp R t u) t c) t) j = _
    unfold clr
    rw [at1_set (by rw [hO.rows]; exact ht), if_pos rfl, pvt_at]
    show gm (gi (at0 (at1 (swp R t u) t) c)) (at0 (at1 (swp R t u) t) j) = _
    rw [et]
  · show at0 (at1 (clr (swp R t u) t c) k) j = _
    unfold clr
    rw [at1_set (by rw [hO.rows]; exact ht), if_neg qk]
    have e := othr_at (c := c) (j := j) hS ht hk
    have ek : at1 (swp R t u) k = at1 R (swi t u k) := by rw [swp_at h.rows ht hu, if_neg qk]
    rw [show at0 (at1 (othr (swp R t u) t c) k) j = en (othr (swp R t u) t c) k j from rfl, e]
    show at0 (at1 (swp R t u) k) j ^^^ gm (at0 (at1 (swp R t u) k) c) (gm (gi (at0 (at1 (swp R t u) t) c)) (at0 (at1 (swp R t u) t) j)) = _
    rw [et, ek]
/-- the whole course of the columns -/
def estep (s : List (List Nat) × List Nat) (r c : Nat) : List (List Nat) × List Nat :=
  match usb s.1 r s.2.length c with
  | [] => s
  | u :: _ => (clr (swp s.1 s.2.length u) s.2.length c, s.2 ++ [c])
def elim (R : List (List Nat)) (r : Nat) : Nat → List (List Nat) × List Nat
  | 0 => (R, [])
  | c + 1 => estep (elim R r c) r c
theorem elim_ok {A : List (List Nat)} {r w : Nat} (h : Mt A r w) : ∀ c, c ≤ w → EI A r w c (elim A r c).1 (elim A r c).2
  | 0, _ => ei_start h
  | c + 1, hc => by
    have ih := elim_ok h c (by omega)
    show EI A r w (c + 1) (estep (elim A r c) r c).1 (estep (elim A r c) r c).2
    unfold estep
    split
    · rename_i q
      exact ei_skip ih (usb_nil q)
    · rename_i u l q
      have hu := usb_cons q
      exact ei_step ih (by omega) hu (clr_mt (swp_mt ih.mt (by omega) hu.2.1) (by omega)).2.1 (clr_stp ih.mt (by omega) hu.2.1 (by omega))
/-! ### the law's own course -/
def lin (B : List (List Nat)) (t c : Nat) : Nat → List (List Nat)
  | 0 => B
  | i + 1 => (lin B t c i).set (t + 1 + i) (mixl (en (lin B t c i) (t + 1 + i) c) (at1 (lin B t c i) (t + 1 + i)) (at1 (lin B t c i) t))
theorem lin_len (B : List (List Nat)) (t c : Nat) : ∀ i, (lin B t c i).length = B.length
  | 0 => rfl
  | i + 1 => by
    show ((lin B t c i).set _ _).length = _
    rw [List.length_set, lin_len B t c i]
theorem lin_at {B : List (List Nat)} {t c : Nat} : ∀ i, t + 1 + i ≤ B.length → ∀ k, at1 (lin B t c i) k = if t < k ∧ k < t + 1 + i then mixl (en B k c) (at1 B k) (at1 B t) else at1 B k
  | 0, _, k => by
    rw [if_neg (by omega)] <;> rfl
  | i + 1, h, k => by
    have ih := lin_at (B := B) (t := t) (c := c) i (by omega)
    show at1 ((lin B t c i).set _ _) k = _
    have e1 := ih (t + 1 + i)
    rw [if_neg (by omega)] at e1
    have e2 := ih t
    rw [if_neg (by omega)] at e2
    rw [at1_set (by rw [lin_len]; omega), e2]
    show (if k = t + 1 + i then mixl (at0 (at1 (lin B t c i) (t + 1 + i)) c) _ _ else _) = _
    rw [e1]
    by_cases q : k = t + 1 + i
    · rw [if_pos q, if_pos (by omega), q]
    · rw [if_neg q, ih k]
      by_cases q2 : t < k ∧ k < t + 1 + i
      · rw [if_pos q2, if_pos (by omega)]
      · rw [if_neg q2, if_neg (by omega)]
def lpv (R : List (List Nat)) (u c : Nat) : List Nat := (at1 R u).map (gm (gi (en R u c)))
def lbs (R : List (List Nat)) (t u c : Nat) : List (List Nat) := (R.set u (at1 R t)).set t (lpv R u c)
def lnx (R : List (List Nat)) (r t u c : Nat) : List (List Nat) := lin (lbs R t u c) t c (r - (t + 1))
theorem lpv_ok {R : List (List Nat)} {r w u c : Nat} (h : Mt R r w) (hu : u < r) : (lpv R u c).length = w ∧ Oc (lpv R u c) := by
  unfold lpv
  exact ⟨by rw [List.length_map, (h.at hu).1], oc_scale _ _⟩
theorem lbs_mt {R : List (List Nat)} {r w t u c : Nat} (h : Mt R r w) (ht : t < r) (hu : u < r) : Mt (lbs R t u c) r w := (h.set (h.at ht).1 (h.at ht).2).set (lpv_ok h hu).1 (lpv_ok h hu).2
theorem lbs_at {R : List (List Nat)} {r t u c k : Nat} (hr : R.length = r) (ht : t < r) (hu : u < r) : at1 (lbs R t u c) k = if k = t then lpv R u c else at1 R (swi t u k) := by
  unfold lbs swi
  rw [at1_set (by rw [List.length_set]; omega), at1_set (by omega)]
  by_cases q : k = t
  · rw [if_pos q, if_pos q]
  · rw [if_neg q, if_neg q]
    by_cases q1 : k = u
    · rw [if_pos q1, if_pos q1]
    · rw [if_neg q1, if_neg q1]
theorem lin_mt {B : List (List Nat)} {r w t c : Nat} (h : Mt B r w) (ht : t < r) : ∀ i, t + 1 + i ≤ r → Mt (lin B t c i) r w
  | 0, _ => h
  | i + 1, hi => by
    have ih := lin_mt (c := c) h ht i (by omega)
    have h1 := ih.at (j := t + 1 + i) (by omega)
    have h2 := ih.at ht
    exact ih.set (by rw [mixl_len (by rw [h1.1, h2.1]), h1.1]) (mixl_oct (by rw [h1.1, h2.1]) h1.2)
theorem lnx_stp {R : List (List Nat)} {r w t u c : Nat} (h : Mt R r w) (ht : t < r) (hu : u < r) (hc : c < w) : Mt (lnx R r t u c) r w ∧ Stp R (lnx R r t u c) r w t u c t := by
  have hB := lbs_mt (c := c) h ht hu
  have hl := lpv_ok (c := c) h hu
  refine ⟨lin_mt hB ht _ (by omega), ⟨fun j hj => ?_, fun k hk1 hk qk j hj => ?_⟩⟩
  · show at0 (at1 (lin _ t c _) t) j = _
    rw [lin_at _ (by rw [hB.rows]; omega), if_neg (by omega), lbs_at h.rows ht hu, if_pos rfl]
    exact at0_scale _
  · show at0 (at1 (lin _ t c _) k) j = _
    have eB : at1 (lbs R t u c) k = at1 R (swi t u k) := by rw [lbs_at h.rows ht hu, if_neg qk]
    have eT : at1 (lbs R t u c) t = lpv R u c := by rw [lbs_at h.rows ht hu, if_pos rfl]
    have hs : swi t u k < r := by
      unfold swi
      split <;> omega
    rw [lin_at _ (by rw [hB.rows]; omega), if_pos (by omega), eT, mixl_at (by rw [eB, (h.at hs).1, hl.1])]
    show at0 (at1 (lbs R t u c) k) j ^^^ gm (at0 (at1 (lbs R t u c) k) c) (at0 (lpv R u c) j) = _
    rw [eB]
    unfold lpv
    rw [at0_scale]
def lestep (s : List (List Nat) × List Nat) (r c : Nat) : List (List Nat) × List Nat :=
  match usb s.1 r s.2.length c with
  | [] => s
  | u :: _ => (lnx s.1 r s.2.length u c, s.2 ++ [c])
def lelim (R : List (List Nat)) (r : Nat) : Nat → List (List Nat) × List Nat
  | 0 => (R, [])
  | c + 1 => lestep (lelim R r c) r c
/-- both courses choose alike -/
theorem same_pivots {R L : List (List Nat)} {r w w' w0 : Nat} (hR : Mt R r w) (hL : Mt L r w') (h1 : w0 ≤ w) (h2 : w0 ≤ w') (h : ∀ k, k < r → ∀ j, j < w0 → en R k j = en L k j) :
    ∀ c, c ≤ w0 → (lelim L r c).2 = (elim R r c).2 ∧ Mt (lelim L r c).1 r w' ∧ ∀ k, (elim R r c).2.length ≤ k → k < r → ∀ j, j < w0 → en (elim R r c).1 k j = en (lelim L r c).1 k j
  | 0, _ => ⟨rfl, hL, fun k _ hk j hj => h k hk j hj⟩
  | c + 1, hc => by
    obtain ⟨i1, i2, i3⟩ := same_pivots hR hL h1 h2 h c (by omega)
    have ei := elim_ok hR c (by omega)
    have eu : usb (elim R r c).1 r (elim R r c).2.length c = usb (lelim L r c).1 r (elim R r c).2.length c := usb_congr fun i h1 h2 => i3 i h1 h2 c (by omega)
    show (lestep (lelim L r c) r c).2 = (estep (elim R r c) r c).2 ∧ Mt (lestep (lelim L r c) r c).1 r w' ∧ ∀ k, (estep (elim R r c) r c).2.length ≤ k → k < r → ∀ j, j < w0 → en (estep (elim R r c) r c).1 k j = en (lestep (lelim L r c) r c).1 k j
    unfold lestep estep
    rw [i1, eu]
    cases q : usb (lelim L r c).1 r (elim R r c).2.length c with
    | nil => exact ⟨i1, i2, i3⟩
    | cons u l =>
      have hu := usb_cons (eu.trans q)
      have hl := lnx_stp (c := c) i2 (t := (elim R r c).2.length) (u := u) (by omega) hu.2.1 (by omega)
      refine ⟨rfl, hl.1, fun k hk hr j hj => ?_⟩
      have hk2 : (elim R r c).2.length + 1 ≤ k := by
        have : ((elim R r c).2 ++ [c]).length ≤ k := hk
        rw [List.length_append, List.length_singleton] at this
        exact this
      have s1 := clr_stp (t := (elim R r c).2.length) (c := c) ei.mt (by omega) hu.2.1 (by omega)
      refine low_step (w := w0) (by omega) ⟨hu.1, hu.2.1⟩ i3 ⟨fun j hj => s1.top j (by omega), fun k h1 h2 h3 j hj => s1.oth k h1 h2 h3 j (by omega)⟩ ⟨fun j hj => hl.2.top j (by omega), fun k h1 h2 h3 j hj => hl.2.oth k h1 h2 h3 j (by omega)⟩ k hk2 hr j hj
/-! ### sums -/
theorem xs_add (f : Nat → Nat) (n : Nat) : ∀ m, xs f (n + m) = xs f n ^^^ xs (fun j => f (n + j)) m
  | 0 => (Nat.xor_zero _).symm
  | m + 1 => by
    show xs f (n + m) ^^^ f (n + m) = xs f n ^^^ (xs (fun j => f (n + j)) m ^^^ f (n + m))
    rw [xs_add f n m, Nat.xor_assoc]
theorem xs_zero {f : Nat → Nat} : ∀ {n : Nat}, (∀ j, j < n → f j = 0) → xs f n = 0
  | 0, _ => rfl
  | n + 1, h => by
    show xs f n ^^^ f n = 0
    rw [xs_zero fun j hj => h j (by omega), h n (by omega)] <;> rfl
theorem xs_only {f : Nat → Nat} {k : Nat} : ∀ {n : Nat}, k < n → (∀ j, j < n → ¬ j = k → f j = 0) → xs f n = f k
  | 0, hk, _ => absurd hk (Nat.not_lt_zero _)
  | n + 1, hk, h => by
    show xs f n ^^^ f n = f k
    by_cases q : k = n
    · rw [xs_zero fun j hj => h j (by omega) (by omega), Nat.zero_xor, q]
    · rw [xs_only (by omega) fun j hj hn => h j (by omega) hn, h n (by omega) (fun z => q z.symm), Nat.xor_zero]
theorem dt_unit {l : List Nat} {k n : Nat} (hk : k < n) (ho : Oc l) : dt l (fun j => if j = k then 1 else 0) n = at0 l k := by
  unfold dt
  have e := xs_only (f := fun j => gm (at0 l j) (if j = k then 1 else 0)) hk fun j _ hn => by
    show gm (at0 l j) (if j = k then 1 else 0) = 0
    rw [if_neg hn, gm_zero (.inr rfl)]
  rw [if_pos rfl, gm_one (ho k)] at e
  exact e
theorem dt_left {l : List Nat} {z : Nat → Nat} {k n : Nat} (hk : k < n) (h : ∀ j, j < n → at0 l j = if j = k then 1 else 0) (hz : z k < 256) : dt l z n = z k := by
  unfold dt
  rw [xs_only hk fun j hj hn => by rw [h j hj, if_neg hn, gm_zero (.inl rfl)], h k hk, if_pos rfl, gm_comm, gm_one hz]
theorem dt_congr {l : List Nat} {y z : Nat → Nat} {n : Nat} (h : ∀ j, j < n → y j = z j) : dt l y n = dt l z n := xs_congr fun j hj => by rw [h j hj]
theorem dt_app {l1 l2 : List Nat} {z : Nat → Nat} {n m : Nat} (h : l1.length = n) : dt (l1 ++ l2) z (n + m) = dt l1 z n ^^^ dt l2 (fun j => z (n + j)) m := by
  unfold dt
  rw [xs_add]
  congr 1
  · refine xs_congr fun j hj => ?_
    rw [at0_app, if_pos (by omega)]
  · refine xs_congr fun j _ => ?_
    rw [at0_app, if_neg (by omega), h, Nat.add_sub_cancel_left]
theorem dt_cut {l : List Nat} {z : Nat → Nat} {n m : Nat} : dt l z (n + m) = dt l z n ^^^ dt (l.drop n) (fun j => z (n + j)) m := by
  unfold dt
  rw [xs_add]
  congr 1
  refine xs_congr fun j _ => ?_
  rw [at0_drop]
/-! ### the inverse -/
theorem unit_at {n k j : Nat} (hk : k < n) (hj : j < n) : en (unit n) k j = if k = j then 1 else 0 := by
  have e : at1 (unit n) k = (List.range n).map fun j => if k = j then 1 else 0 := at1_of (range_get hk)
  show at0 (at1 (unit n) k) j = _
  rw [e, at0_map, if_pos hj]
def widen (A : List (List Nat)) (n : Nat) : List (List Nat) := (List.range n).map fun k => at1 A k ++ at1 (unit n) k
theorem widen_at {A : List (List Nat)} {n k : Nat} (hk : k < n) : at1 (widen A n) k = at1 A k ++ at1 (unit n) k := at1_of (range_get hk)
theorem widen_mt {A : List (List Nat)} {n w : Nat} (h : Mt A n w) : Mt (widen A n) n (w + n) := by
  refine ⟨by unfold widen; simp, fun l hl => ?_, fun l hl => ?_⟩
  · obtain ⟨k, hk, rfl⟩ := List.mem_map.mp hl
    have hk := List.mem_range.mp hk
    rw [List.length_append, (h.at hk).1, ((unit_mt n).at hk).1]
  · obtain ⟨k, hk, rfl⟩ := List.mem_map.mp hl
    have hk := List.mem_range.mp hk
    exact (h.at hk).2.append ((unit_mt n).at hk).2
def invM (A : List (List Nat)) (n : Nat) : List (List Nat) := (elim (widen A n) n n).1.map fun l => l.drop n
theorem mat_ext {M N : List (List Nat)} {r c : Nat} (h1 : Mt M r c) (h2 : Mt N r c) (h : ∀ i, i < r → ∀ j, j < c → en M i j = en N i j) : M = N := by
  refine List.ext_getElem? fun i => ?_
  by_cases hi : i < r
  · rw [at1_get (by rw [h1.rows]; exact hi), at1_get (by rw [h2.rows]; exact hi)]
    congr 1
    refine ext0 (by rw [(h1.at hi).1, (h2.at hi).1]) fun j hj => h i hi j (by rw [(h1.at hi).1] at hj; exact hj)
  · rw [List.getElem?_eq_none (by rw [h1.rows]; omega), List.getElem?_eq_none (by rw [h2.rows]; omega)]
theorem times_mt {A M : List (List Nat)} {h n w : Nat} (hA : Mt A h n) (hM : M.length = n) : Mt (times A M w) h w := by
  rw [times_eq hA hM]
  exact prod_mt hA
theorem times_at {A M : List (List Nat)} {h n w i j : Nat} (hA : Mt A h n) (hM : M.length = n) (hi : i < h) (hj : j < w) : en (times A M w) i j = dt (at1 A i) (fun k => en M k j) n := by
  have e : at1 (times A M w) i = (colsOf M w).map fun c => dot (at1 A i) c := at1_of (by unfold times; rw [List.getElem?_map, at1_get (by rw [hA.rows]; exact hi)] <;> rfl)
  show at0 (at1 (times A M w) i) j = _
  rw [e]
  have hc : (colsOf M w)[j]? = some (M.map fun r => at0 r j) := by
    unfold colsOf
    exact range_get hj
  rw [at0_of (v := dot (at1 A i) (M.map fun r => at0 r j)) (by rw [List.getElem?_map, hc] <;> rfl), dot_col (by rw [(hA.at hi).1, hM]), (hA.at hi).1] <;> rfl
theorem inv_ok {A : List (List Nat)} {n : Nat} (hA : Mt A n n) (hP : (elim (widen A n) n n).2.length = n) : Mt (invM A n) n n ∧ times A (invM A n) n = unit n ∧ times (invM A n) A n = unit n := by
  have hW := widen_mt hA
  have ei := elim_ok hW n (by omega)
  have hB : Mt (invM A n) n n := by
    unfold invM
    refine ⟨by rw [List.length_map, ei.mt.rows], fun l hl => ?_, fun l hl => ?_⟩
    · obtain ⟨m, hm, rfl⟩ := List.mem_map.mp hl
      rw [List.length_drop, ei.mt.cols m hm]
      omega
    · obtain ⟨m, hm, rfl⟩ := List.mem_map.mp hl
      exact (ei.mt.oct m hm).drop _
  have bat : ∀ k, k < n → at1 (invM A n) k = (at1 (elim (widen A n) n n).1 k).drop n := fun k hk => at1_of (by unfold invM; rw [List.getElem?_map, at1_get (by rw [ei.mt.rows]; exact hk)] <;> rfl)
  have left : ∀ k, k < n → ∀ j, j < n → en (elim (widen A n) n n).1 k j = if j = k then 1 else 0 := fun k hk j hj => by
    have p := ei.piv j (by omega) k hk
    rw [ei.full hP j hj] at p
    rw [p]
    by_cases q : k = j
    · rw [if_pos q, if_pos q.symm]
    · rw [if_neg q, if_neg fun z => q z.symm]
  have rsum : ∀ (z : Nat → Nat) k, k < n → (∀ j, z j < 256) → dt (at1 (elim (widen A n) n n).1 k) z (n + n) = z k ^^^ dt (at1 (invM A n) k) (fun j => z (n + j)) n := fun z k hk hz => by
    rw [dt_cut, dt_left hk (left k hk) (hz k), bat k hk]
  have wsum : ∀ (z : Nat → Nat) k, k < n → (∀ j, z j < 256) → dt (at1 (widen A n) k) z (n + n) = dt (at1 A k) z n ^^^ z (n + k) := fun z k hk hz => by
    rw [widen_at hk, dt_app (hA.at hk).1, dt_left (l := at1 (unit n) k) (z := fun j => z (n + j)) hk (fun j hj => by
      have u := unit_at hk hj
      rw [show at0 (at1 (unit n) k) j = en (unit n) k j from rfl, u]
      by_cases q : k = j
      · rw [if_pos q, if_pos q.symm]
      · rw [if_neg q, if_neg fun z => q z.symm]) (hz _)]
  refine ⟨hB, mat_ext (times_mt hA hB.rows) (unit_mt n) fun i hi j hj => ?_, mat_ext (times_mt hB hA.rows) (unit_mt n) fun i hi j hj => ?_⟩
  · rw [times_at hA hB.rows hi hj, unit_at hi hj]
    let z : Nat → Nat := fun x => if x < n then en (invM A n) x j else if x = n + j then 1 else 0
    have hz : ∀ x, z x < 256 := fun x => by
      show (if x < n then en (invM A n) x j else if x = n + j then 1 else 0) < 256
      by_cases q : x < n
      · rw [if_pos q]
        exact (hB.at q).2 j
      · rw [if_neg q]
        split <;> decide
    have key := (ei.null z).mp (fun k hk => by
      rw [rsum z k hk hz]
      have e1 : z k = en (invM A n) k j := if_pos hk
      have e2 : dt (at1 (invM A n) k) (fun y => z (n + y)) n = at0 (at1 (invM A n) k) j := by
        rw [← dt_unit hj (hB.at hk).2]
        refine dt_congr fun y hy => ?_
        show (if n + y < n then _ else if n + y = n + j then 1 else 0) = if y = j then 1 else 0
        rw [if_neg (by omega)]
        by_cases q : y = j
        · rw [if_pos q, if_pos (by omega)]
        · rw [if_neg q, if_neg (by omega)]
      rw [e1, e2, Nat.xor_self]) i hi
    rw [wsum z i hi hz] at key
    have e3 : dt (at1 A i) z n = dt (at1 A i) (fun k => en (invM A n) k j) n := dt_congr fun y hy => if_pos hy
    have e4 : z (n + i) = if i = j then 1 else 0 := by
      show (if n + i < n then _ else if n + i = n + j then 1 else 0) = _
      rw [if_neg (by omega)]
      by_cases q : i = j
      · rw [if_pos q, if_pos (by omega)]
      · rw [if_neg q, if_neg (by omega)]
    rw [e3, e4] at key
    exact xor_zero_iff.mp key
  · rw [times_at hB hA.rows hi hj, unit_at hi hj]
    let z : Nat → Nat := fun x => if x < n then (if x = j then 1 else 0) else en A (x - n) j
    have hz : ∀ x, z x < 256 := fun x => by
      show (if x < n then (if x = j then 1 else 0) else en A (x - n) j) < 256
      by_cases q : x < n
      · rw [if_pos q]
        split <;> decide
      · rw [if_neg q]
        by_cases q2 : x - n < n
        · exact (hA.at q2).2 j
        · have e : at1 A (x - n) = [] := by
            unfold at1
            rw [List.getD_eq_getElem?_getD, List.getElem?_eq_none (by rw [hA.rows]; omega)] <;> rfl
          show at0 (at1 A (x - n)) j < 256
          rw [e, at0_none (Nat.zero_le _)]
          decide
    have key := (ei.null z).mpr (fun k hk => by
      rw [wsum z k hk hz]
      have e1 : z (n + k) = en A k j := by
        show (if n + k < n then _ else en A (n + k - n) j) = _
        rw [if_neg (by omega), Nat.add_sub_cancel_left]
      have e2 : dt (at1 A k) z n = at0 (at1 A k) j := by
        rw [← dt_unit hj (hA.at hk).2]
        exact dt_congr fun y hy => if_pos hy
      rw [e1, e2, Nat.xor_self]) i hi
    rw [rsum z i hi hz] at key
    have e3 : dt (at1 (invM A n) i) (fun y => z (n + y)) n = dt (at1 (invM A n) i) (fun k => en A k j) n := dt_congr fun y hy => by
      show (if n + y < n then _ else en A (n + y - n) j) = _
      rw [if_neg (by omega), Nat.add_sub_cancel_left]
    have e4 : z i = if i = j then 1 else 0 := if_pos hi
    rw [e3, e4] at key
    exact (xor_zero_iff.mp key).symm
/-! ### equations -/
def addc (A : List (List Nat)) (v : List Nat) (r : Nat) : List (List Nat) := (List.range r).map fun k => at1 A k ++ [at0 v k]
theorem addc_at {A : List (List Nat)} {v : List Nat} {r k : Nat} (hk : k < r) : at1 (addc A v r) k = at1 A k ++ [at0 v k] := at1_of (range_get hk)
theorem addc_mt {A : List (List Nat)} {v : List Nat} {r w : Nat} (h : Mt A r w) (ho : Oc v) : Mt (addc A v r) r (w + 1) := by
  refine ⟨by unfold addc; simp, fun l hl => ?_, fun l hl => ?_⟩
  · obtain ⟨k, hk, rfl⟩ := List.mem_map.mp hl
    rw [List.length_append, (h.at (List.mem_range.mp hk)).1] <;> rfl
  · obtain ⟨k, hk, rfl⟩ := List.mem_map.mp hl
    refine (h.at (List.mem_range.mp hk)).2.append (oc_of fun c hc => ?_)
    rw [List.mem_singleton.mp hc]
    exact ho k
/-- the solution, made place by place -/
def sol (R : List (List Nat)) (P : List Nat) (w : Nat) : Nat → List Nat
  | 0 => List.replicate w 0
  | m + 1 => (sol R P w m).set (at0 P m) (en R m w)
theorem sol_len (R : List (List Nat)) (P : List Nat) (w : Nat) : ∀ m, (sol R P w m).length = w
  | 0 => List.length_replicate
  | m + 1 => by
    show ((sol R P w m).set _ _).length = w
    rw [List.length_set, sol_len R P w m]
theorem sol_zero {R : List (List Nat)} {P : List Nat} {w : Nat} (hP : ∀ i, i < P.length → at0 P i < w) : ∀ m, m ≤ P.length → ∀ j, (∀ i, i < m → ¬ at0 P i = j) → at0 (sol R P w m) j = 0
  | 0, _, j, _ => by
    show at0 (List.replicate w 0) j = 0
    by_cases q : j < w
    · exact at0_of (by rw [List.getElem?_replicate, if_pos q])
    · exact at0_none (by rw [List.length_replicate]; omega)
  | m + 1, hm, j, h => by
    show at0 ((sol R P w m).set (at0 P m) (en R m w)) j = 0
    rw [at0_set (by rw [sol_len]; exact hP m (by omega)), if_neg fun z => h m (by omega) z.symm]
    exact sol_zero hP m (by omega) j fun i hi => h i (by omega)
theorem sol_oct {R : List (List Nat)} {r w : Nat} {P : List Nat} (hR : Mt R r (w + 1)) (hP : ∀ i, i < P.length → at0 P i < w) (hr : P.length ≤ r) : ∀ m, m ≤ P.length → Oc (sol R P w m)
  | 0, _ => oc_zeros w
  | m + 1, hm => fun j => by
    show at0 ((sol R P w m).set (at0 P m) (en R m w)) j < 256
    rw [at0_set (by rw [sol_len]; exact hP m (by omega))]
    split
    · exact (hR.at (j := m) (by omega)).2 w
    · exact sol_oct hR hP hr m (by omega) j
theorem xs_set {l x : List Nat} {p v w : Nat} (hp : p < w) (hl : x.length = w) (h0 : at0 x p = 0) : dt l (at0 (x.set p v)) w = dt l (at0 x) w ^^^ gm (at0 l p) v := by
  have e : dt l (at0 (x.set p v)) w = dt l (at0 x) w ^^^ xs (fun j => if j = p then gm (at0 l p) v else 0) w := by
    unfold dt
    rw [← xs_xor]
    refine xs_congr fun j hj => ?_
    rw [at0_set (by omega)]
    by_cases q : j = p
    · rw [if_pos q, if_pos q, q, h0, gm_zero (b := 0) (.inr rfl), Nat.zero_xor]
    · rw [if_neg q, if_neg q, Nat.xor_zero]
  rw [e, xs_only (k := p) hp fun j _ hn => if_neg hn, if_pos rfl]
theorem sol_sum {A R : List (List Nat)} {r w : Nat} {P : List Nat} (h : EI A r (w + 1) w R P) {k : Nat} (hk : k < r) : ∀ m, m ≤ P.length → dt (at1 R k) (at0 (sol R P w m)) w = if k < m then en R k w else 0
  | 0, _ => by
    rw [if_neg (Nat.not_lt_zero _)]
    refine xs_zero fun j hj => ?_
    rw [show at0 (sol R P w 0) j = 0 from at0_of (by show (List.replicate w 0)[j]? = _; rw [List.getElem?_replicate, if_pos hj]), gm_zero (.inr rfl)]
  | m + 1, hm => by
    show dt (at1 R k) (at0 ((sol R P w m).set (at0 P m) (en R m w))) w = _
    have hlt := h.lt
    rw [xs_set (hlt m (by omega)) (sol_len R P w m) (sol_zero hlt m (by omega) _ fun i hi z => by
      have := h.inc i m hi (by omega)
      omega), sol_sum h hk m (by omega)]
    have p := h.piv m (by omega) k hk
    rw [show at0 (at1 R k) (at0 P m) = en R k (at0 P m) from rfl, p]
    by_cases q : k = m
    · rw [if_pos q, if_neg (by omega), if_pos (by omega), gm_comm, gm_one ((h.mt.at (j := m) (by have := h.rows; omega)).2 w), Nat.zero_xor, q]
    · rw [if_neg q, gm_zero (.inl rfl), Nat.xor_zero]
      by_cases q2 : k < m
      · rw [if_pos q2, if_pos (by omega)]
      · rw [if_neg q2, if_neg (by omega)]
theorem sol_ok {A : List (List Nat)} {v : List Nat} {r w : Nat} (hA : Mt A r w) (hv : Oc v) {R : List (List Nat)} {P : List Nat} (h : EI (addc A v r) r (w + 1) w R P) (hz : ∀ k, P.length ≤ k → k < r → en R k w = 0) :
    ∀ k, k < r → dt (at1 A k) (at0 (sol R P w P.length)) w = at0 v k := by
  intro k hk
  have ho := sol_oct (P := P) h.mt h.lt h.rows P.length (Nat.le_refl _)
  let z : Nat → Nat := fun x => if x < w then at0 (sol R P w P.length) x else 1
  have e0 : ∀ (l : List Nat), dt l z w = dt l (at0 (sol R P w P.length)) w := fun l => dt_congr fun y hy => if_pos hy
  have ew : z (w + 0) = 1 := if_neg (by omega)
  have one : ∀ (l : List Nat), Oc l → dt l (fun j => z (w + j)) 1 = at0 l 0 := fun l hl => by
    show 0 ^^^ gm (at0 l 0) (z (w + 0)) = _
    rw [ew, gm_one (hl 0), Nat.zero_xor]
  have key := (h.null z).mp (fun m hm => by
    rw [dt_cut, e0, sol_sum h hm P.length (Nat.le_refl _), one _ ((h.mt.at hm).2.drop _), at0_drop, Nat.add_zero]
    by_cases q : m < P.length
    · rw [if_pos q]
      exact Nat.xor_self _
    · rw [if_neg q, show at0 (at1 R m) w = en R m w from rfl, hz m (by omega) hm] <;> rfl) k hk
  rw [addc_at hk, dt_app (hA.at hk).1, e0, one _ (oc_of fun c hc => by rw [List.mem_singleton.mp hc]; exact hv k)] at key
  exact xor_zero_iff.mp key
/-! ### the inverse of an octet by squares -/
def ivs (s : Nat × Nat) : Nat × Nat := (gm s.1 s.1, gm s.2 (gm s.1 s.1))
def liv (a : Nat) : Nat → Nat × Nat
  | 0 => (a, 1)
  | i + 1 => ivs (liv a i)
theorem gm_pw {x y : Nat} (hx : x < 255) (hy : y < 255) : gm (pw x) (pw y) = pw ((x + y) % 255) := by
  have h1 := tab2_at hx
  have h2 := tab2_at hy
  rw [gm_pos (by omega) (by omega), h1.1, h2.1]
theorem liv_eq {a : Nat} (ha : a < 256) (h0 : ¬ a = 0) : ∀ i, liv a i = (pw (2 ^ i * lg a % 255), pw ((2 ^ (i + 1) - 2) * lg a % 255))
  | 0 => by
    show (a, 1) = _
    rw [Nat.pow_zero, Nat.one_mul, Nat.mod_eq_of_lt (lg_lt ha), pw_lg ha h0]
    show _ = (a, pw (0 * lg a % 255))
    rw [Nat.zero_mul, Nat.zero_mod, pw_zero]
  | i + 1 => by
    show ivs (liv a i) = _
    rw [liv_eq ha h0 i]
    unfold ivs
    have m : ∀ n : Nat, n % 255 < 255 := fun n => Nat.mod_lt _ (by decide)
    have e1 : gm (pw (2 ^ i * lg a % 255)) (pw (2 ^ i * lg a % 255)) = pw (2 ^ (i + 1) * lg a % 255) := by
      rw [gm_pw (m _) (m _), ← Nat.add_mod, Nat.pow_succ, Nat.mul_assoc, Nat.mul_comm 2, ← Nat.mul_assoc, Nat.mul_two]
    show (gm _ _, gm _ (gm _ _)) = _
    rw [e1, gm_pw (m _) (m _), ← Nat.add_mod, ← Nat.add_mul]
    have e2 : 2 ^ (i + 1) - 2 + 2 ^ (i + 1) = 2 ^ (i + 1 + 1) - 2 := by
      have h2 : 2 ^ (i + 1 + 1) = 2 ^ (i + 1) * 2 := Nat.pow_succ ..
      have h3 : 2 ^ (i + 1) = 2 ^ i * 2 := Nat.pow_succ ..
      have h4 : 0 < 2 ^ i := Nat.pow_pos (by decide)
      omega
    rw [e2]
theorem liv_inv {a : Nat} (ha : a < 256) (h0 : ¬ a = 0) : (liv a 7).2 = gi a := by
  rw [liv_eq ha h0]
  show pw ((2 ^ 8 - 2) * lg a % 255) = pw ((255 - lg a) % 255)
  have := lg_lt ha
  congr 1
  have e : (2 ^ 8 - 2 : Nat) = 254 := by decide
  rw [e]
  omega
theorem liv_lt {a : Nat} (ha : a < 256) : ∀ i, (liv a i).1 < 256 ∧ (liv a i).2 < 256
  | 0 => ⟨ha, by show (1 : Nat) < 256; decide⟩
  | i + 1 => ⟨gm_lt _ _, gm_lt _ _⟩
/-- the pivots of a widened matrix -/
theorem widen_pivots {A : List (List Nat)} {n : Nat} (hA : Mt A n n) : (elim (widen A n) n n).2 = (lelim A n n).2 :=
  (same_pivots (widen_mt hA) hA (w0 := n) (by omega) (Nat.le_refl _) (fun k hk j hj => by
    show at0 (at1 (widen A n) k) j = _
    rw [widen_at hk, at0_app, if_pos (by rw [(hA.at hk).1]; exact hj)]) n (Nat.le_refl _)).1.symm
/-! ### the widened system -/
theorem addc_en {A : List (List Nat)} {v : List Nat} {r w k j : Nat} (hA : Mt A r w) (hk : k < r) (hj : j < w) : en (addc A v r) k j = en A k j := by
  show at0 (at1 (addc A v r) k) j = _
  rw [addc_at hk, at0_app, if_pos (by rw [(hA.at hk).1]; exact hj)]
theorem piv_add {A : List (List Nat)} {v : List Nat} {r w : Nat} (hA : Mt A r w) (hv : Oc v) : (lelim A r w).2 = (elim (addc A v r) r w).2 :=
  (same_pivots (addc_mt hA hv) hA (w0 := w) (by omega) (Nat.le_refl _) (fun k hk j hj => addc_en hA hk hj) w (Nat.le_refl _)).1
theorem ext_len {A : List (List Nat)} {v : List Nat} {r w : Nat} (hA : Mt A r w) (hv : Oc v) :
    (lelim (addc A v r) r (w + 1)).2.length = (elim (addc A v r) r w).2.length + if usb (elim (addc A v r) r w).1 r (elim (addc A v r) r w).2.length w = [] then 0 else 1 := by
  have hm := addc_mt hA hv
  obtain ⟨e1, _, e3⟩ := same_pivots hm hm (w0 := w + 1) (Nat.le_refl _) (Nat.le_refl _) (fun _ _ _ _ => rfl) w (by omega)
  have hu : usb (lelim (addc A v r) r w).1 r (elim (addc A v r) r w).2.length w = usb (elim (addc A v r) r w).1 r (elim (addc A v r) r w).2.length w := usb_congr fun i h1 h2 => (e3 i h1 h2 w (by omega)).symm
  show (lestep (lelim (addc A v r) r w) r w).2.length = _
  unfold lestep
  rw [e1, hu]
  cases q : usb (elim (addc A v r) r w).1 r (elim (addc A v r) r w).2.length w with
  | nil =>
    show (lelim (addc A v r) r w).2.length = _
    rw [e1, if_pos rfl] <;> rfl
  | cons u us =>
    show ((elim (addc A v r) r w).2 ++ [w]).length = _
    rw [if_neg (by simp), List.length_append] <;> rfl
end Py

set_option Elab.async false
set_option linter.all false
set_option maxRecDepth 100000
set_option maxHeartbeats 4000000
namespace Mx
open PySem PySem.Spec PyProof.Rows L2 Evl
section
variable {K : PySem.W.Frag} {σ : L2.St} {H H0 H' : Hp} {ta0 : TA} {ta tb tc te tx : TE} {t u : TT} {x y z v : V} {r : R2} {xs ys zs : List V} {p q : Addr} {D : Ends} {tu tw tz : TS} {g : TG} {M N : List (List Nat)} {rs : List Addr} {l : List Nat}
/-! ### matrices whose rows need not be new -/
/-- .. none of which stands at av -/
def MV (H : Hp) (p : Addr) (M : List (List Nat)) (av : Addr) : Prop := ∃ rs : List Addr, H p = some (.lst (rs.map V.ref)) ∧ LR H rs M ∧ ∀ r ∈ rs, r ≠ av
theorem MV.up {av : Addr} (h : MV H p M av) (e : Ex H H') : MV H' p M av := by
  obtain ⟨rs, h1, h2, h3⟩ := h
  exact ⟨rs, e _ _ h1, h2.mono e, h3⟩
theorem MV.mn {av : Addr} (h : MV H p M av) : MN H p M := by
  obtain ⟨rs, h1, h2, _⟩ := h
  exact ⟨rs, h1, h2⟩
theorem MN.mv {av : Addr} (h : MN H p M) (ha : H av = none) : MV H p M av := by
  obtain ⟨rs, h1, h2⟩ := h
  refine ⟨rs, h1, h2, fun r hr => ?_⟩
  have : ∀ {rs : List Addr} {M : List (List Nat)}, LR H rs M → ∀ r ∈ rs, r ≠ av := by
    intro rs M h
    induction h with
    | nil => exact fun r hr => absurd hr List.not_mem_nil
    | cons h1 _ ih =>
      intro r hr
      rcases List.mem_cons.mp hr with z | z
      · rw [z]; exact ne_of_none h1 ha
      · exact ih r z
  exact this h2 r hr
theorem mv_ix {av : Addr} {k : Nat} (h : MV H p M av) (hk : k < M.length) : ∃ r, r ≠ av ∧ LN H r (Py.at1 M k) ∧ RV (rIxL K) (.ref p) (.int (k : Int)) H (.ref r) := by
  obtain ⟨rs, h1, h2, h3⟩ := h
  obtain ⟨r, h4, h5⟩ := h2.at hk
  exact ⟨r, h3 r (List.mem_of_getElem? h4), h5, rv_ixLN (sq_of h1) (by rw [List.getElem?_map, h4] <;> rfl)⟩
def EvN (te : TE) (σ : L2.St) (H : Hp) (M : List (List Nat)) (av : Addr) : Prop := ∀ H1, Ex H H1 → ∀ Q : VK, (∀ p H2, H1 p = none → Ex H1 H2 → MV H2 p M av → Q (.ref p) H2) → te σ H1 Q
def RetN (M : List (List Nat)) (av : Addr) (H : Hp) (Q : VK) : Prop := ∀ p H', H p = none → Ex H H' → MV H' p M av → Q (.ref p) H'
def SpN (sp : Sp) (vs : List V) (H : Hp) (M : List (List Nat)) (av : Addr) : Prop := ∀ H1, Ex H H1 → ∀ Q : VK, (∀ p H2, H1 p = none → Ex H1 H2 → MV H2 p M av → Q (.ref p) H2) → ∀ E : XK, sp vs H1 Q E
theorem en_call {av : Addr} {sp : Sp} {dvs vs : List V} {E : XK} {ta : TA} (h : EvA ta σ H vs) (hs : SpN sp (vs ++ dvs) H M av) : EvN (tCall sp dvs E ta) σ H M av := fun H1 e Q q =>
  h H1 e _ fun H2 e2 => hs H2 (e.trans e2) Q (fun p H3 n3 e3 h3 => q p H3 (fresh_back e2 n3) (e2.trans e3) h3) E
theorem q_asgN {av : Addr} {i : Nat} (h : EvN te σ H M av) (k : ∀ p H1, H p = none → Ex H H1 → MV H1 p M av → tz D (σ.set i (some (.ref p))) H1) : tSeq (tAsg te (gName i)) tz D σ H := h H (Ex.refl H) _ k
/-- a row: a new one or one that stands -/
def EvR (te : TE) (σ : L2.St) (H : Hp) (l : List Nat) (av : Addr) : Prop := ∀ H1, Ex H H1 → ∀ Q : VK, (∀ r H2, Ex H1 H2 → LN H2 r l → r ≠ av → Q (.ref r) H2) → te σ H1 Q
theorem er_el {av : Addr} {o : HO} (ho : H av = some o) (h : EvL te σ H (l.map nV)) : EvR te σ H l av := fun H1 e Q k => h H1 e Q fun p H2 np e2 hp => k p H2 e2 hp (ne_of_none (e _ _ ho) np).symm
theorem er_ev {av : Addr} (h : Ev te σ H (.ref p)) (hp : LN H p l) (ha : p ≠ av) : EvR te σ H l av := fun H1 e Q k => h H1 e Q fun H2 e2 => k p H2 e2 (hp.up (e.trans e2)) ha
theorem er_if {av : Addr} {b : Bool} (h : EvT t σ H b) (h1 : b = true → EvR ta σ H l av) (h2 : b = false → EvR tb σ H l av) : EvR (tIf t ta tb) σ H l av := fun H1 e Q q => h H1 e _ fun H2 e2 => by
  cases b with
  | true =>
    show ta σ H2 Q
    exact h1 rfl H2 (e.trans e2) Q fun r H3 e3 hr ha => q r H3 (e2.trans e3) hr ha
  | false =>
    show tb σ H2 Q
    exact h2 rfl H2 (e.trans e2) Q fun r H3 e3 hr ha => q r H3 (e2.trans e3) hr ha
theorem er_is {av : Addr} {m : List Nat} (h : EvR te σ H l av) (e : l = m) : EvR te σ H m av := e ▸ h
theorem row_ne {Dl : Addr} {rs : List Addr} {r : Addr} (hD : H Dl = some (.lst (rs.map V.ref))) (hr : LN H r l) (hl : 0 < l.length) : r ≠ Dl := fun z => by
  rw [z, LN, hD] at hr
  have e : rs.map V.ref = l.map nV := by
    have := Option.some.inj hr
    exact HO.lst.inj this
  cases rs with
  | nil =>
    have := congrArg List.length e
    simp at this
    omega
  | cons a rs =>
    cases l with
    | nil => simp at hl
    | cons n l => simp at e
theorem lr_upd2 {Dl : Addr} {o : HO} {ss : List Addr} (hD : H Dl = some (.lst (ss.map V.ref))) : ∀ {rs : List Addr} {M : List (List Nat)}, LR H rs M → (∀ m ∈ M, 0 < m.length) → LR (upd H Dl o) rs M
  | _, _, .nil, _ => .nil
  | _, _, .cons h t, n => .cons (by
      show upd H Dl o _ = _
      rw [upd_ne (row_ne hD h (n _ (List.mem_cons_self ..)))]
      exact h) (lr_upd2 hD t fun m hm => n m (List.mem_cons_of_mem _ hm))
def Cr (H : Hp) (M : List (List Nat)) (av : Addr) (Dl : Addr) (i : Nat) (H' : Hp) : Prop := H Dl = none ∧ Ex H H' ∧ ∃ rs : List Addr, H' Dl = some (.lst (rs.map V.ref)) ∧ LR H' rs (M.take i) ∧ ∀ r ∈ rs, r ≠ av
theorem cr_turn {σ2 : L2.St} {av Dl : Addr} {i : Nat} {l : List Nat} (hM : ∀ m ∈ M, 0 < m.length) (hp : Cr H M av Dl i H') (hi : M[i]? = some l) (hz : M.length ≤ 40000) (he : EvR te σ2 H l av) :
    tYes σ2 H' fun b H3 => if b = true then te σ2 H3 fun y H4 => ∃ acc, H4 Dl = some (.lst acc) ∧ acc.length < sizeLine ∧ Cr H M av Dl (i + 1) (upd H4 Dl (.lst (acc ++ [y]))) else Cr H M av Dl (i + 1) H3 := by
  obtain ⟨p1, p2, rs, p3, p4, p5⟩ := hp
  show te σ2 H' fun y H4 => ∃ acc, H4 Dl = some (.lst acc) ∧ acc.length < sizeLine ∧ Cr H M av Dl (i + 1) (upd H4 Dl (.lst (acc ++ [y])))
  refine he H' p2 _ fun a H4 e4 ha hav => ⟨_, e4 Dl _ p3, sz_lt (by rw [List.length_map, p4.len, List.length_take]; omega), p1, Ex.mut (p2.trans e4) p1, rs ++ [a], ?_, ?_, fun r hr => ?_⟩
  · rw [upd_same, List.map_append] <;> rfl
  rotate_left
  · rcases List.mem_append.mp hr with z | z
    · exact p5 r z
    · rw [List.mem_singleton.mp z]; exact hav
  · have hl : 0 < l.length := hM l (List.mem_of_getElem? hi)
    rw [List.take_add_one, hi]
    refine Paired.snoc (lr_upd2 (e4 Dl _ p3) (p4.mono e4) fun m hm => hM m (List.mem_of_mem_take hm)) ?_
    show upd H4 Dl _ a = _
    rw [upd_ne (row_ne (e4 Dl _ p3) ha hl)]
    exact ha
theorem cr_zero {av Dl : Addr} (hD : H Dl = none) : Cr H M av Dl 0 (upd H Dl (.lst [])) := ⟨hD, Ex.new hD, [], by rw [upd_same] <;> rfl, by rw [List.take_zero]; exact .nil, fun r hr => absurd hr List.not_mem_nil⟩
/-- rows over a matrix's rows -/
theorem en_zM {av a : Addr} {tl : TE} {j : Nat} {vs : List Nat} (h : Ev tl σ H (.ref a)) (hN : MV H a N av) (hM : ∀ m ∈ M, 0 < m.length) (hz : M.length = N.length) (hn : N.length ≤ 40000) (hw : ∀ x, wipe ((wipe σ vs).set j (some x)) vs = wipe σ vs)
    (he : ∀ (i : Nat) (r : Addr) H1, Ex H H1 → i < N.length → LN H1 r (Py.at1 N i) → r ≠ av → EvR te ((wipe σ vs).set j (some (.ref r))) H1 (Py.at1 M i) av) : EvN (tLc (iList K tl) (gName j) tYes te vs) σ H M av := by
  obtain ⟨rs, h1, h2, h3⟩ := hN
  refine fun H0 e Q q => h H0 e _ fun H1 e1 => ⟨a, rfl, ⟨_, sq_of ((e.trans e1) _ _ h1)⟩, fun Dl hD =>
    lc_list (xs := rs.map V.ref) (Cr H1 M av Dl) (cr_zero hD) (fun i H' _ p => sq_of (((e.trans e1).trans p.2.1) _ _ h1)) (fun i x H' hi p => ?_) (fun H' p => ?_)⟩
  · obtain ⟨r, rfl, hi2, hr⟩ := (h2.mono ((e.trans e1))).of hi
    have hl : i < M.length := by omega
    have hav : r ≠ av := by
      obtain ⟨r2, q1, q2⟩ := List.mem_map.mp (List.mem_of_getElem? hi)
      rw [← V.ref.inj q2]
      exact h3 r2 q1
    exact ⟨hw _, cr_turn hM p (Py.at1_get hl) (by omega) (he i r H1 (e.trans e1) hi2 hr hav)⟩
  · rw [List.length_map, h2.len, ← hz] at p
    obtain ⟨p1, p2, ss, p3, p4, p5⟩ := p
    rw [List.take_length] at p4
    exact q Dl H' (fresh_back e1 p1) (e1.trans p2) ⟨ss, p3, p4, p5⟩
/-- the places of a range that pass a test -/
theorem el_fR2 {ta : TA} {j : Nat} {vs : List Nat} {R : List (List Nat)} {rr tp c : Nat} (h : EvA ta σ H [.int (tp : Int), .int (rr : Int)]) (hn : tp ≤ 10000 ∧ rr ≤ 10000) (hw : ∀ x, wipe ((wipe σ vs).set j (some x)) vs = wipe σ vs)
    (ht : ∀ (i : Nat) H1, Ex H H1 → tp ≤ i → i < rr → EvT t ((wipe σ vs).set j (some (nV i))) H1 (Py.en R i c != 0)) (he : ∀ (i : Nat) H1, Ex H H1 → Ev te ((wipe σ vs).set j (some (nV i))) H1 (nV i)) :
    EvL (tLc (iRng2 ta) (gName j) t te vs) σ H ((Py.usb R rr tp c).map nV) := fun H0 e Q q => h H0 e _ fun H1 e1 => ⟨(tp : Int), (rr : Int), rfl, ⟨by omega, by omega, by omega, by omega⟩, fun Dl hD =>
  lc_range (lo := (tp : Int)) (n := ((rr : Int) - (tp : Int)).toNat) (Cw H1 (fun i => Py.en R (tp + i) c != 0) (fun i => nV (tp + i)) Dl) ⟨hD, Ex.new hD, upd_same⟩ (fun i H' hi p => by
    have e0 : (tp : Int) + (i : Int) = ((tp + i : Nat) : Int) := by omega
    show wipe ((wipe σ vs).set j (some (.int ((tp : Int) + (i : Int))))) vs = wipe σ vs ∧ t ((wipe σ vs).set j (some (.int ((tp : Int) + (i : Int))))) H' fun b H3 => if b = true then te ((wipe σ vs).set j (some (.int ((tp : Int) + (i : Int))))) H3 fun y H4 => ∃ acc, H4 Dl = some (.lst acc) ∧ acc.length < sizeLine ∧ Cw H1 (fun i => Py.en R (tp + i) c != 0) (fun i => nV (tp + i)) Dl (i + 1) (upd H4 Dl (.lst (acc ++ [y]))) else Cw H1 (fun i => Py.en R (tp + i) c != 0) (fun i => nV (tp + i)) Dl (i + 1) H3
    rw [e0]
    exact ⟨hw _, cw_turn p (by omega) (ht (tp + i) H1 (e.trans e1) (by omega) (by omega)) (fun _ => he (tp + i) H1 (e.trans e1))⟩) (fun H' p => by
      refine q Dl H' (fresh_back e1 p.1) (e1.trans p.2.1) ?_
      rw [p.2.2]
      have e2 : ((rr : Int) - (tp : Int)).toNat = rr - tp := by omega
      rw [e2]
      unfold Evl.given Py.usb
      rw [List.filter_map, List.map_map]
      rfl)⟩
/-- zip of a matrix that stands and a new one -/
theorem em_zZ {j1 j2 : Nat} {vs : List Nat} {A B : List (List Nat)} {a : Addr} (ha : Ev ta σ H (.ref a)) (hA : MN H a A) (hb : EvM tb σ H B) (hl : M.length = A.length) (hl2 : M.length = B.length) (hn : M.length ≤ 40000) (hw : ∀ x y, wipe (((wipe σ vs).set j1 (some x)).set j2 (some y)) vs = wipe σ vs)
    (he : ∀ (i : Nat) (r s : Addr) H1, Ex H H1 → i < M.length → LN H1 r (Py.at1 A i) → LN H1 s (Py.at1 B i) → EvL te (((wipe σ vs).set j1 (some (.ref r))).set j2 (some (.ref s))) H1 ((Py.at1 M i).map nV)) :
    EvM (tLc (iZip K (tCons ta (tCons tb tNil))) (gTup K 2 (gCons (gName j1) (gCons (gName j2) gNil))) tYes te vs) σ H M := by
  obtain ⟨rs, h1, h2⟩ := hA
  refine fun H0 e Q q => ha H0 e _ fun Ha ea => hb Ha (e.trans ea) _ fun b H1 nb eb hB => ?_
  obtain ⟨ss, b1, b2⟩ := hB.mn
  have e1 := e.trans (ea.trans eb)
  have hA1 := h2.mono e1
  refine ⟨a, b, rs.map V.ref, ss.map V.ref, rfl, sq_of (e1 _ _ h1), sq_of b1, fun Dl hD => ?_⟩
  have hmin : M.length = min (rs.map V.ref).length (ss.map V.ref).length := by rw [List.length_map, List.length_map, h2.len, b2.len]; omega
  refine lc_it (walk_zip (xs := rs.map V.ref) (ys := ss.map V.ref) hmin) (Cm H1 M Dl) (cm_zero hD) (fun i H' _ p => ⟨sq_of (p.2.1 _ _ (e1 _ _ h1)), sq_of (p.2.1 _ _ b1)⟩) (fun i v H' H2 hi p yy => ?_) (fun H' p => ?_)
  · obtain ⟨T, x, y, rfl, hT, rfl, hx, hy⟩ := yy
    obtain ⟨r, rfl, _, hr⟩ := hA1.of hx
    obtain ⟨s, rfl, _, hs⟩ := b2.of hy
    refine ⟨T, [.ref r, .ref s], rfl, st_of upd_same, rfl, .ref r, [.ref s], rfl, .ref s, [], rfl, rfl, ?_⟩
    have p2 : Cm H1 M Dl i (upd H' T (.tup [.ref r, .ref s])) := by
      obtain ⟨q1, q2, qs, q3, q4, q5⟩ := p
      refine ⟨q1, q2.trans (Ex.new hT), qs, by rw [upd_ne (ne_of_none q3 hT)]; exact q3, q4.mono (Ex.new hT), q5⟩
    exact ⟨hw _ _, cm_turn p2 (Py.at1_get hi) hn (he i r s H1 e1 hi hr hs)⟩
  · obtain ⟨c1, c2, c3⟩ := cm_end (ea.trans eb) p
    exact q Dl H' c1 c2 c3
/-- zip of a matrix and a list of numbers -/
theorem em_zV {j1 j2 : Nat} {vs : List Nat} {A : List (List Nat)} {a b : Addr} {w : List Nat} (ha : Ev ta σ H (.ref a)) (hA : MN H a A) (hb : Ev tb σ H (.ref b)) (hB : LN H b w) (hl : M.length = A.length) (hl2 : M.length = w.length) (hn : M.length ≤ 40000) (hw : ∀ x y, wipe (((wipe σ vs).set j1 (some x)).set j2 (some y)) vs = wipe σ vs)
    (he : ∀ (i : Nat) (r : Addr) H1, Ex H H1 → i < M.length → LN H1 r (Py.at1 A i) → EvL te (((wipe σ vs).set j1 (some (.ref r))).set j2 (some (nV (Py.at0 w i)))) H1 ((Py.at1 M i).map nV)) :
    EvM (tLc (iZip K (tCons ta (tCons tb tNil))) (gTup K 2 (gCons (gName j1) (gCons (gName j2) gNil))) tYes te vs) σ H M := by
  obtain ⟨rs, h1, h2⟩ := hA
  refine fun H0 e Q q => ha H0 e _ fun Ha ea => hb Ha (e.trans ea) _ fun H1 eb => ?_
  have e1 := e.trans (ea.trans eb)
  have hA1 := h2.mono e1
  have hB1 := hB.up e1
  refine ⟨a, b, rs.map V.ref, w.map nV, rfl, sq_of (e1 _ _ h1), sq_of hB1, fun Dl hD => ?_⟩
  have hmin : M.length = min (rs.map V.ref).length (w.map nV).length := by rw [List.length_map, List.length_map, h2.len]; omega
  refine lc_it (walk_zip (xs := rs.map V.ref) (ys := w.map nV) hmin) (Cm H1 M Dl) (cm_zero hD) (fun i H' _ p => ⟨sq_of (p.2.1 _ _ (e1 _ _ h1)), sq_of (p.2.1 _ _ hB1)⟩) (fun i v H' H2 hi p yy => ?_) (fun H' p => ?_)
  · obtain ⟨T, x, y, rfl, hT, rfl, hx, hy⟩ := yy
    obtain ⟨r, rfl, _, hr⟩ := hA1.of hx
    obtain ⟨_, rfl⟩ := nat_of_get hy
    refine ⟨T, [.ref r, nV (Py.at0 w i)], rfl, st_of upd_same, rfl, .ref r, [nV (Py.at0 w i)], rfl, nV (Py.at0 w i), [], rfl, rfl, ?_⟩
    have p2 : Cm H1 M Dl i (upd H' T (.tup [.ref r, nV (Py.at0 w i)])) := by
      obtain ⟨q1, q2, qs, q3, q4, q5⟩ := p
      refine ⟨q1, q2.trans (Ex.new hT), qs, by rw [upd_ne (ne_of_none q3 hT)]; exact q3, q4.mono (Ex.new hT), q5⟩
    exact ⟨hw _ _, cm_turn p2 (Py.at1_get hi) hn (he i r H1 e1 hi hr)⟩
  · obtain ⟨c1, c2, c3⟩ := cm_end (ea.trans eb) p
    exact q Dl H' c1 c2 c3
/-! ### rows that are put elsewhere -/
theorem LR.set {k : Nat} {a : Addr} : ∀ {rs : List Addr} {M : List (List Nat)} {k : Nat}, LR H rs M → LN H a l → LR H (rs.set k a) (M.set k l)
  | _, _, _, .nil, _ => .nil
  | _, _, 0, .cons _ t, ha => .cons ha t
  | _, _, k + 1, .cons h t, ha => .cons h (LR.set (k := k) t ha)
theorem LR.snoc' {a : Addr} (h : LR H rs M) (ha : LN H a l) : LR H (rs ++ [a]) (M ++ [l]) := Paired.snoc h ha
/-- all but what stands at one place stays -/
def Xb (ra : Addr) (H H' : Hp) : Prop := ∀ a o, a ≠ ra → H a = some o → H' a = some o
theorem Xb.ln {ra : Addr} (e : Xb ra H H') (h : LN H p l) (hp : p ≠ ra) : LN H' p l := e _ _ hp h
theorem Xb.of {ra : Addr} (e : Ex H H') : Xb ra H H' := fun a o _ h => e a o h
theorem Xb.trans {ra : Addr} {H1 : Hp} (e : Xb ra H H1) (e2 : Xb ra H1 H') : Xb ra H H' := fun a o h1 h => e2 a o h1 (e a o h1 h)
theorem Xb.mut {ra : Addr} {o : HO} (e : Xb ra H H') : Xb ra H (upd H' ra o) := fun a u h1 h => by
  rw [upd_ne h1]
  exact e a u h1 h
theorem lr_xb {ra : Addr} {ss : List Addr} (e : Xb ra H H') (hD : H ra = some (.lst (ss.map V.ref))) : ∀ {rs : List Addr} {M : List (List Nat)}, LR H rs M → (∀ m ∈ M, 0 < m.length) → LR H' rs M
  | _, _, .nil, _ => .nil
  | _, _, .cons h t, n => .cons (e.ln h (row_ne hD h (n _ (List.mem_cons_self ..)))) (lr_xb e hD t fun m hm => n m (List.mem_cons_of_mem _ hm))
/-- xs[i], xs[j] = a, b -/
theorem q_swap {to ti to2 ti2 : TE} {vs : List V} {a b : V} {ra : Addr} {i j : Nat} (h : EvU te σ H [a, b]) (h1 : Ev to σ H (.ref ra)) (hi : Ev ti σ H (nV i)) (hra : H ra = some (.lst vs)) (il : i < vs.length) (jl : j < vs.length)
    (h2 : ∀ H1, Xb ra H H1 → H1 ra = some (.lst (vs.set i a)) → Ev to2 σ H1 (.ref ra)) (hj : ∀ H1, Xb ra H H1 → Ev ti2 σ H1 (nV j))
    (k : ∀ H1, Xb ra H H1 → H1 ra = some (.lst ((vs.set i a).set j b)) → tz D σ H1) : tSeq (tAsg te (gTup K 2 (gCons (gSub to ti rSetL) (gCons (gSub to2 ti2 rSetL) gNil)))) tz D σ H :=
  h H (Ex.refl H) _ fun t H1 nt e1 ht => ⟨t, [a, b], rfl, st_of ht, rfl, a, [b], rfl, h1 H1 e1 _ fun H2 e2 => hi H2 (e1.trans e2) _ fun H3 e3 => ⟨ra, vs, (i : Int), i, rfl, rfl, ((e1.trans e2).trans e3) _ _ hra, ixN_nat il,
    b, [], rfl, by
      have x3 : Xb ra H (upd H3 ra (.lst (vs.set i a))) := Xb.mut (Xb.of ((e1.trans e2).trans e3))
      refine h2 _ x3 upd_same _ (Ex.refl _) _ fun H4 e4 => hj _ (x3.trans (Xb.of e4)) _ (Ex.refl _) _ fun H5 e5 => ?_
      have h5 : H5 ra = some (.lst (vs.set i a)) := e5 _ _ (e4 _ _ upd_same)
      refine ⟨ra, vs.set i a, (j : Int), j, rfl, rfl, h5, ixN_nat (by rw [List.length_set]; exact jl), rfl, ?_⟩
      exact k _ (Xb.mut ((x3.trans (Xb.of e4)).trans (Xb.of e5))) upd_same⟩⟩
theorem cut_drop {a : Nat} (h : a ≤ xs.length) : cutV xs (some (a : Int)) none = xs.drop a := by
  unfold cutV
  rw [HT.sIx_nat, HT.sIx_none, Nat.min_eq_left h, List.take_of_length_le (by rw [List.length_drop]; exact Nat.le_refl _)]
theorem set_parts {α : Type} {L : List α} {k : Nat} {o : α} (h : k < L.length) : L.take k ++ [o] ++ L.drop (k + 1) = L.set k o := by
  rw [List.set_eq_take_append_cons_drop, if_pos h, List.append_assoc] <;> rfl
theorem nz_nat (n : Nat) : ((n : Int) != 0) = (n != 0) := by
  cases n with
  | zero => rfl
  | succ n =>
    have h1 : ((n + 1 : Nat) : Int) ≠ 0 := by omega
    have h2 : n + 1 ≠ 0 := by omega
    rw [bne_iff_ne.mpr h1, bne_iff_ne.mpr h2]
/-- a pair of a matrix and a list of numbers -/
def RetRP (R : List (List Nat)) (P : List Nat) (H : Hp) (Q : VK) : Prop := ∀ t a b H', Ex H H' → H' t = some (.tup [.ref a, .ref b]) → MN H' a R → LN H' b P → Q (.ref t) H'
def EvRP (te : TE) (σ : L2.St) (H : Hp) (R : List (List Nat)) (P : List Nat) : Prop := ∀ H1, Ex H H1 → ∀ Q : VK, RetRP R P H1 Q → te σ H1 Q
def SpRP (sp : Sp) (vs : List V) (H : Hp) (R : List (List Nat)) (P : List Nat) : Prop := ∀ H1, Ex H H1 → ∀ Q : VK, RetRP R P H1 Q → ∀ E : XK, sp vs H1 Q E
theorem erp_call {sp : Sp} {dvs vs : List V} {E : XK} {ta : TA} {P : List Nat} (h : EvA ta σ H vs) (hs : SpRP sp (vs ++ dvs) H M P) : EvRP (tCall sp dvs E ta) σ H M P := fun H1 e Q q =>
  h H1 e _ fun H2 e2 => hs H2 (e.trans e2) Q (fun t a b H3 e3 h3 h4 h5 => q t a b H3 (e2.trans e3) h3 h4 h5) E
theorem erp_callM {sp : Sp} {E : XK} {P : List Nat} (h1 : EvM ta σ H N) (h2 : ∀ H1, Ex H H1 → Ev tb σ H1 x) (hs : ∀ p H1, Ex H H1 → MN H1 p N → SpRP sp ([.ref p, x] ++ []) H1 M P) : EvRP (tCall sp [] E (tCons ta (tCons tb tNil))) σ H M P := fun H1 e Q k =>
  h1 H1 e _ fun p H2 _ e2 hp => h2 H2 (e.trans e2) H2 (Ex.refl _) _ fun H3 e3 => hs p H3 ((e.trans e2).trans e3) (hp.mn.up e3) H3 (Ex.refl _) Q (fun t a b H4 e4 h3 h4 h5 => k t a b H4 ((e2.trans e3).trans e4) h3 h4 h5) E
theorem q_unRP {i j : Nat} {P : List Nat} (h : EvRP te σ H M P) (k : ∀ a b H1, Ex H H1 → MN H1 a M → LN H1 b P → tz D ((σ.set i (some (.ref a))).set j (some (.ref b))) H1) : tSeq (tAsg te (gTup K 2 (gCons (gName i) (gCons (gName j) gNil)))) tz D σ H :=
  h H (Ex.refl H) _ fun t a b H1 e1 ht ha hb => ⟨t, [.ref a, .ref b], rfl, st_of ht, rfl, .ref a, [.ref b], rfl, .ref b, [], rfl, rfl, k a b H1 e1 ha hb⟩
theorem lr_av {av : Addr} {o : HO} : ∀ {rs : List Addr} {M : List (List Nat)}, LR H rs M → (∀ r ∈ rs, r ≠ av) → LR (upd H av o) rs M
  | _, _, .nil, _ => .nil
  | _, _, .cons h t, n => .cons (by
      show upd H av o _ = _
      rw [upd_ne (n _ (List.mem_cons_self ..))]
      exact h) (lr_av t fun r hr => n r (List.mem_cons_of_mem _ hr))
theorem s_retPP {a b : Addr} {P : List Nat} (ha : MN H a M) (hb : LN H b P) (h1 : Ev ta σ H (.ref a)) (h2 : Ev tb σ H (.ref b)) (k : ∀ t H1, Ex H H1 → H1 t = some (.tup [.ref a, .ref b]) → D.rt (.ref t) H1) : tRet (tTup (tCons ta (tCons tb tNil))) D σ H :=
  h1 H (Ex.refl H) _ fun H1 e1 => h2 H1 e1 _ fun H2 e2 => ⟨by show 2 ≤ sizeLine; decide, fun t ht => k t _ ((e1.trans e2).trans (Ex.new ht)) upd_same⟩
/-- name = (a matrix, a list)[1] -/
theorem q_asgR {i : Nat} {P : List Nat} (h : EvRP te σ H M P) (k : ∀ b H1, Ex H H1 → LN H1 b P → tz D (σ.set i (some (.ref b))) H1) : tSeq (tAsg (tOp (rIxT K) te (tC (.int 1))) (gName i)) tz D σ H :=
  h H (Ex.refl H) _ fun t a b H1 e1 ht ha hb => ⟨t, _, 1, .ref b, rfl, rfl, st_of ht, rfl, k b H1 e1 hb⟩
/-- xs[j] = a row -/
theorem mv_set {av : Addr} {k : Nat} {a : Addr} {rs : List Addr} (h1 : H p = some (.lst (rs.map V.ref))) (h2 : LR H rs M) (h3 : ∀ r ∈ rs, r ≠ av) (ha : LN H a l) (hav : a ≠ av) (hl : 0 < l.length) (hM : ∀ m ∈ M, 0 < m.length) : MV (upd H p (.lst ((rs.map V.ref).set k (.ref a)))) p (M.set k l) av := by
  refine ⟨rs.set k a, by rw [upd_same, List.map_set], lr_upd2 h1 (LR.set (k := k) h2 ha) fun m hm => ?_, fun r hr => ?_⟩
  · rcases List.mem_or_eq_of_mem_set hm with z | z
    · exact hM m z
    · rw [z]; exact hl
  · rcases List.mem_or_eq_of_mem_set hr with z | z
    · exact h3 r z
    · rw [z]; exact hav
theorem s_setLL {lst : Addr} {vs ys : List V} {j : Nat} (hl : H lst = some (.lst vs)) (h : EvL te σ H ys) (ho : Ev ta σ H (.ref lst)) (hi : Ev tb σ H (.int (j : Int))) (hj : j < vs.length) (k : ∀ a H1, H a = none → Ex H H1 → H1 a = some (.lst ys) → D.nx σ (upd H1 lst (.lst (vs.set j (.ref a))))) :
    tAsg te (gSub ta tb rSetL) D σ H := h H (Ex.refl H) _ fun a H1 na e1 ha => ho H1 e1 _ fun H2 e2 => hi H2 (e1.trans e2) _ fun H3 e3 =>
  ⟨lst, vs, (j : Int), j, rfl, rfl, ((e1.trans e2).trans e3) lst _ hl, ixN_nat hj, k a H3 na ((e1.trans e2).trans e3) (e3 _ _ (e2 _ _ ha))⟩
theorem q_setLL {lst : Addr} {vs ys : List V} {j : Nat} (hl : H lst = some (.lst vs)) (h : EvL te σ H ys) (ho : Ev ta σ H (.ref lst)) (hi : Ev tb σ H (.int (j : Int))) (hj : j < vs.length) (k : ∀ a H1, H a = none → Ex H H1 → H1 a = some (.lst ys) → tz D σ (upd H1 lst (.lst (vs.set j (.ref a))))) :
    tSeq (tAsg te (gSub ta tb rSetL)) tz D σ H := s_setLL (D := { D with nx := tz D }) hl h ho hi hj k
theorem ne_int (n : Nat) : (!decide (V.int (n : Int) = V.int 0)) = (n != 0) := by
  by_cases z : n = 0
  · subst z; rfl
  · have h1 : ¬ V.int (n : Int) = V.int 0 := fun q => by
      have := V.int.inj q
      omega
    rw [decide_eq_false h1, bne_iff_ne.mpr z] <;> rfl
/-- two small numbers in a message that begins with a text -/
theorem js3 {R : Str → Hp → Prop} {tc0 td : TE} {c0 c1 c2 : Str} {a b : Nat} (h0 : Ev tc0 σ H (.str c0)) (ha : Ev ta σ H (nV a)) (hc : Ev tc σ H (.str c1)) (hb : Ev tb σ H (nV b)) (hd : Ev td σ H (.str c2)) (h1 : a < 256) (h2 : b < 256) (l0 : c0.length ≤ 1000) (l1 : c1.length ≤ 1000) (l2 : c2.length ≤ 1000)
    (k : ∀ s H1, Ex H H1 → R s H1) : tJs [tc0, tFmt ta, tc, tFmt tb, td] Str.empty σ H R := by
  obtain ⟨a1, a2⟩ := Bool.and_eq_true_iff.mp (Gf.alln_at num_len a h1)
  obtain ⟨b1, b2⟩ := Bool.and_eq_true_iff.mp (Gf.alln_at num_len b h2)
  have a1 : (toString ((a : Nat) : Int) : Str).length ≤ 10 := Nat.le_of_ble_eq_true a1
  have b1 : (toString ((b : Nat) : Int) : Str).length ≤ 10 := Nat.le_of_ble_eq_true b1
  have a2 := Nat.le_of_ble_eq_true a2
  have b2 := Nat.le_of_ble_eq_true b2
  have z0 : (Str.empty : Str).length = 0 := by decide
  have y0 : (Str.empty ++ c0).length ≤ 1000 := by
    rw [strLen_append]
    omega
  have y1 : (Str.empty ++ c0 ++ (toString ((a : Nat) : Int) : Str)).length ≤ 1010 := by
    rw [strLen_append]
    omega
  have y2 : (Str.empty ++ c0 ++ (toString ((a : Nat) : Int) : Str) ++ c1).length ≤ 2010 := by
    rw [strLen_append]
    omega
  have y3 : (Str.empty ++ c0 ++ (toString ((a : Nat) : Int) : Str) ++ c1 ++ (toString ((b : Nat) : Int) : Str)).length ≤ 2020 := by
    rw [strLen_append]
    omega
  have y4 : (Str.empty ++ c0 ++ (toString ((a : Nat) : Int) : Str) ++ c1 ++ (toString ((b : Nat) : Int) : Str) ++ c2).length ≤ 3020 := by
    rw [strLen_append]
    omega
  refine h0 H (Ex.refl H) _ fun Hz ez => ⟨_, rfl, sz_of (by omega), ?_⟩
  refine ha Hz ez _ fun H1 e1 => Or.inr ⟨_, rfl, Nat.lt_of_le_of_lt a2 (by decide), _, rfl, sz_of (by omega), ?_⟩
  refine hc H1 (ez.trans e1) _ fun H2 e2 => ⟨_, rfl, sz_of (by omega), ?_⟩
  refine hb H2 ((ez.trans e1).trans e2) _ fun H3 e3 => Or.inr ⟨_, rfl, Nat.lt_of_le_of_lt b2 (by decide), _, rfl, sz_of (by omega), ?_⟩
  refine hd H3 (((ez.trans e1).trans e2).trans e3) _ fun H4 e4 => ⟨_, rfl, sz_of (by omega), ?_⟩
  exact k _ H4 ((((ez.trans e1).trans e2).trans e3).trans e4)
theorem mn_set {k : Nat} {a : Addr} {rs : List Addr} (h1 : H p = some (.lst (rs.map V.ref))) (h2 : LR H rs M) (ha : LN H a l) (hl : 0 < l.length) (hM : ∀ m ∈ M, 0 < m.length) : MN (upd H p (.lst ((rs.map V.ref).set k (.ref a)))) p (M.set k l) :=
  ⟨rs.set k a, by rw [upd_same, List.map_set], lr_upd2 h1 (LR.set (k := k) h2 ha) fun m hm => by
    rcases List.mem_or_eq_of_mem_set hm with z | z
    · exact hM m z
    · rw [z]; exact hl⟩
/-- an if after which one thing is known -/
theorem q_whenP {b : Bool} {Pk : L2.St → Hp → Prop} (h : EvT t σ H b) (hP : ∀ σ' H', Pk σ' H' → tz D σ' H') (h1 : b = true → ∀ H1, Ex H H1 → (∀ σ' H', Pk σ' H' → tz D σ' H') → tu { D with nx := tz D } σ H1) (h2 : b = false → ∀ H1, Ex H H1 → Pk σ H1) : tSeq (tIfS t tu tNext) tz D σ H :=
  q_when h (fun hb H1 e => h1 hb H1 e hP) fun hb H1 e => hP σ H1 (h2 hb H1 e)
/-- two names at once, two new lists -/
theorem q_tupLL {i j : Nat} (h1 : EvL ta σ H xs) (h2 : EvL tb σ H ys) (k : ∀ p q H1, Ex H H1 → H1 p = some (.lst xs) → H1 q = some (.lst ys) → tz D ((σ.set i (some (.ref p))).set j (some (.ref q))) H1) : tSeq (tAsg (tTup (tCons ta (tCons tb tNil))) (gTup K 2 (gCons (gName i) (gCons (gName j) gNil)))) tz D σ H :=
  h1 H (Ex.refl H) _ fun p H1 np e1 hp => h2 H1 e1 _ fun q H2 nq e2 hq => ⟨by show 2 ≤ sizeLine; decide, fun t ht => ⟨t, [.ref p, .ref q], rfl, st_of upd_same, rfl, .ref p, [.ref q], rfl, .ref q, [], rfl, rfl, k p q _ ((e1.trans e2).trans (Ex.new ht)) (Ex.new ht _ _ (e2 _ _ hp)) (Ex.new ht _ _ hq)⟩⟩
end
end Mx

set_option Elab.async false
set_option linter.all false
set_option maxRecDepth 100000
set_option maxHeartbeats 4000000
namespace Mx
open PySem PySem.Spec PyProof.Rows L2 Evl
open GxR (TabB TabG Tabbed GenS)
/-! ### any(row[y] for row in rows), y a name of the def -/
section
variable {X : Cx} {pins : List (Addr × Obj)} {σ : L2.St} {H : Hp} {s : Shared}
/-- the number at place k of a row that stands in h -/
def RowAt (h : Heap) (k : Nat) (n : Nat) (u : Value) : Prop := ∃ (r : Addr) (its : List Value) (t : Tok), u = .ref r ∧ h.IsList r its.toArray ∧ its[k]? = some (.int (n : Int) t)
/-- row[y] where both names are seen -/
theorem elt_row {prog : Program} {w : World} {A : Around} {E : Value → Shared → Prop} {cenv : Env} {x y : Str} {p1 p2 p3 : Pos} {s2 : Shared} {m2 : Str → Option Value} {c : Addr} {k n : Nat} {t : Tok} {u : Value}
    (hk : cenv.scope.kind = .function) (hx : cenv.scope.names.lookup x = some .local) (hy : cenv.scope.names.lookup y = some .free) (hc : cenv.cells.lookup y = some c) (hv : s2.heap.IsCell c (some (.int (k : Int) t)))
    (hn : s2.heap.Ns cenv.locals m2) (hm : m2 x = some u) (hr : RowAt s2.heap k n u) (hk2 : k < 1000000)
    (d1 : (x == ("__debug__" : Str)) = false := by decide) (d2 : (y == ("__debug__" : Str)) = false := by decide) (d3 : (y == ("__classdict__" : Str)) = false := by decide) :
    wpAny (model prog w) A (eval (.Subscript (.Name x p1) (.Name y p2) p3) cenv) (fun v s3 => (∃ t, v = .int (n : Int) t) ∧ Keeps s2 s3) E s2 := by
  obtain ⟨r, its, t2, rfl, hl, hi⟩ := hr
  refine Subscript_Name ?_
  refine wpAny_Name (wpAny_loadName_local hk hx hn hm ?_) d1
  refine wpAny_Name (wpAny_loadName_free hk hy hc hv ?_ d3) d2
  exact ⟨"list", _, slot_list_getitem.lookup, hl.typeIs, wpAny_getItem_list hl (by omega) (by omega) (by simpa using hi) ⟨⟨t2, rfl⟩, GxR.keeps_refl _⟩⟩
/-- the numbers at place k -/
def colOf (M : List (List Nat)) (k : Nat) : List Nat := M.map fun m => Py.at0 m k
def tAnyR (K : PySem.W.Frag) (P : Addr) (i : Nat) (te : TE) : TE := fun σ H Q => te σ H fun v H1 => ∃ (yl : Addr) (rs : List Addr) (M : List (List Nat)) (k : Nat), v = .ref yl ∧ H1 yl = some (.lst (rs.map V.ref)) ∧ LR H1 rs M ∧ k < 1000000 ∧ (∀ m ∈ M, k < m.length) ∧ TabG H1 P ∧ σ[i]? = some (some (nV k)) ∧
  ∀ H2, Tabbed P H1 H2 → Q (.bl ((colOf M k).any fun n => n != 0)) H2
def ReadyR (X : Cx) (pins : List (Addr × Obj)) (σ : L2.St) (H1 : Hp) (P : Addr) (l : List Nat) (g : Addr) (s5 : Shared) : Prop :=
  ∃ (fp wr : List Addr) (G : Array GenState → Array GenState → Prop) (F : Nat → Value → Prop) (St : Nat → Shared → Prop),
    WalksS X.prog X.w X.A.in1 g fp wr G l.length F St ∧ St 0 s5 ∧ TruthOf X.prog X.w X.A.in1 F (GxR.trF (fun n => n != 0) l) ∧
    ∀ s', Moved wr G s5 s' → ∃ H2, Tabbed P H1 H2 ∧ Inv X pins σ H2 s'
theorem gen_rows {c P : Addr} {iter : Expr} {x y : Str} {px p1 p2 p3 gpos : Pos} {scope : Scope} {te : TE} {i k0 : Nat} {Q' : Value → Shared → Prop} {R : List Nat → Hp → Prop}
    (hr : Room k0 X.A) (TB : TabB X.base X.mg c P) (hcode : X.env.code = .ref c) (S : GenS X.env scope x) (hi : PE X iter te)
    (hN : X.N[i]? = some y) (hy : X.env.scope.names.lookup y = some .cell) (hyf : scope.names.lookup y = some .free) (hcl : ∀ a, X.env.cells.lookup y = some a → (cloFrom X.env.cells scope.names []).lookup y = some a)
    (d1 : (x == ("__debug__" : Str)) = false) (d2 : (y == ("__debug__" : Str)) = false) (d3 : (y == ("__classdict__" : Str)) = false)
    (hs : ∀ v, genFold iter X.env v = pure v) (I : Inv X pins σ H s)
    (h : te σ H fun v H1 => ∃ (yl : Addr) (rs : List Addr) (M : List (List Nat)) (k : Nat), v = .ref yl ∧ H1 yl = some (.lst (rs.map V.ref)) ∧ LR H1 rs M ∧ k < 1000000 ∧ (∀ m ∈ M, k < m.length) ∧ TabG H1 P ∧ σ[i]? = some (some (nV k)) ∧ R (colOf M k) H1)
    (hQ : ∀ l H1 g s5, R l H1 → ReadyR X pins σ H1 P l g s5 → Q' (.ref g) s5) :
    wpAny (model X.prog X.w) X.A (eval (.GeneratorExp (.Subscript (.Name x p1) (.Name y p2) p3) [⟨.Name x px, iter, [], 0⟩] scope gpos) X.env) Q' X.xe s := by
  refine wpAny_GeneratorExp_walksQ hr.hd S.co (closure_ok S.free) S.cell S.dot S.loc S.kind (by have := hr.dp; omega) ?_ hs
  refine thn (hi.run pins s σ H _ I h) fun xv s1 ⟨v, H1, I1, r1, q1⟩ => ?_
  obtain ⟨yl, rs, M, k, rfl, hyl, hLR, hk, hM, ⟨ps, hP, ht⟩, hσ, q1⟩ := q1
  obtain rfl : xv = Value.ref yl := r1
  obtain ⟨its, rv, hl, hz⟩ := I1.list (sq_of hyl)
  have hIL := hl.isList
  have hlen : its.length = M.length := by rw [← rv.length, List.length_map, hLR.len]
  -- the cell
  obtain ⟨cc, tw, ecc, hcell⟩ : ∃ (cc : Addr) (tw : Tok), X.env.cells.lookup y = some cc ∧ s1.heap.IsCell cc (some (.int (k : Int) tw)) := by
    obtain ⟨m, _, look⟩ := I1.loc
    obtain ⟨u, ru, lk⟩ := look i y _ hN hσ (.inr (.inl hy))
    obtain ⟨tw, rfl⟩ := (show ∃ t, u = Value.int (k : Int) t from ru)
    rcases lk with ⟨z, _⟩ | ⟨_, cc, e1, e2⟩
    · have z2 : X.env.scope.names.lookup y = some .local := z
      rw [hy] at z2
      cases z2
    · exact ⟨cc, tw, e1, e2⟩
  -- the rows
  have hat : ∀ (i : Nat) (v : Value), its.toArray[i]? = some v → ∃ n, (colOf M k)[i]? = some n ∧ RowAt s1.heap k n v := fun i v hv => by
    have hv2 : its[i]? = some v := by simpa using hv
    have hi2 : i < its.length := (List.getElem?_eq_some_iff.mp hv2).1
    have hiM : i < M.length := by omega
    obtain ⟨r, h1, h2⟩ := hLR.at hiM
    have hb : (rs.map V.ref)[i]? = some (V.ref r) := by rw [List.getElem?_map, h1] <;> rfl
    obtain ⟨u, hu, ru⟩ := rv.get hb
    rw [hv2] at hu
    cases hu
    obtain rfl : v = Value.ref r := ru
    refine ⟨Py.at0 (Py.at1 M i) k, by unfold colOf; rw [List.getElem?_map, Py.at1_get hiM] <;> rfl, ?_⟩
    obtain ⟨ri, rw', rl, _⟩ := I1.list (sq_of h2)
    obtain ⟨u2, hu2, ru2⟩ := rw'.get (nat_get (hM _ (List.mem_of_getElem? (Py.at1_get hiM))))
    obtain ⟨t2, rfl⟩ := (show ∃ t, u2 = Value.int ((Py.at0 (Py.at1 M i) k : Nat) : Int) t from ru2)
    exact ⟨r, ri, t2, rfl, rl.isList, hu2⟩
  refine wpAny_pyIter_list hIL ?_
  generalize ho : ({ cls := .type "list_iterator", data := .fields #[.ref yl, .int 0 0] } : Obj) = o
  have hitr : (s1.heap.push o).IsListIter s1.heap.objs.size yl 0 := by
    subst ho
    exact ⟨_, Heap.get?_push_size _ rfl, rfl, rfl⟩
  have hylt : yl < s1.heap.objs.size := by
    obtain ⟨_, e, _⟩ := _root_.id hIL
    exact Heap.lt_size e
  have hPs : s1.heap.get? P = some { cls := .none, data := .fields ps } := I1.hok P _ hP
  have hPlt : P < s1.heap.objs.size := Heap.lt_size hPs
  have hP2 : (s1.heap.push o).get? P = some { cls := .none, data := .fields ps } := Heap.get?_push_of_some _ hPs
  have cd : PySem.W.CodeHd (s1.heap.push o) c P := TB.code.keeps fun b u e => Heap.get?_push_of_some _ (I1.bk b u e)
  have lim2 : (s1.heap.push o).NoLimit := I1.nolimit.push o
  have cont : ∀ (code : Value) (h3 : Heap) (tk : Nat) (ps' : Array Value), Heap.ExtBut P (s1.heap.push o) h3 → (s1.heap.push o).objs.size ≤ h3.objs.size → h3.get? P = some { cls := .none, data := .fields ps' } → (∃ more, ps' = ps ++ more) → TriplesOk ps'.toList →
      wpAny (model X.prog X.w) X.A (builtinsFor X.env.globals X.env.builtins) (fun bi s₄ =>
        ∃ Ia fp wr n₀ Pf St₀ pz F, Value.ref s1.heap.objs.size = .ref Ia ∧ (∀ A' : Around, A'.handled = none → Walks X.prog X.w A' Ia fp wr n₀ Pf St₀) ∧ St₀ 0 s₄.heap ∧ (∀ b ∈ fp, b < s₄.heap.objs.size) ∧ s₄.heap.NoLimit ∧ cStatics ∉ wr ∧
          (∀ href : Heap, (∀ b o, s₄.heap.get? b = some o → href.get? b = some o) →
            QuietGen X.prog X.w (genEnv scope (cloFrom X.env.cells scope.names []) s₄.heap.objs.size code bi X.env) x [] (.Subscript (.Name x p1) (.Name y p2) p3) (List.range s₄.heap.objs.size) wr Pf pz F href) ∧
          (∀ a h₅ tk gs, gs.bare = true → s₄.heap.objs.size < a → h₅.objs.size = a + 1 → (∀ b o, s₄.heap.get? b = some o → h₅.get? b = some o) →
            WalksS X.prog X.w X.A.in4 a (a :: s₄.heap.objs.size :: List.range s₄.heap.objs.size) (s₄.heap.objs.size :: wr) (GenOnlyQ s₄.gens.size) (passing pz n₀ 0).length
              (fun j y => ∃ i, (passing pz n₀ 0)[j]? = some i ∧ F i y) (GenAt X.prog X.w X.A.in4 a s₄.gens.size s₄.heap.objs.size (List.range s₄.heap.objs.size) wr pz n₀ F) →
            GenAt X.prog X.w X.A.in4 a s₄.gens.size s₄.heap.objs.size (List.range s₄.heap.objs.size) wr pz n₀ F 0 { s₄ with gens := s₄.gens.push gs, toks := tk, heap := h₅ } →
            Q' (.ref a) { s₄ with gens := s₄.gens.push gs, toks := tk, heap := h₅ })) X.xe { s1 with heap := h3, toks := tk } := by
    intro code h3 tk ps' hx hsz hP3 hmore ht3
    obtain ⟨bm, ob, e1, e2, e3, e4, e5, e6, e7, e8⟩ := TB.bm
    have hcP : cStatics ≠ P := fun e => by
      obtain ⟨_, hns, _⟩ := I1.nolimit
      obtain ⟨o', es, ep, ho, hd, _⟩ := hns
      rw [e, hPs] at ho
      cases ho
      cases hd
    have hcl' : cStatics < s1.heap.objs.size := let ⟨_, hns, _⟩ := I1.nolimit; hns.lt
    have sz2 : (s1.heap.push o).objs.size = s1.heap.objs.size + 1 := Heap.size_push ..
    have keep3 : ∀ b u, b ≠ P → s1.heap.get? b = some u → h3.get? b = some u := fun b u hb e => hx b u hb (Heap.get?_push_of_some _ e)
    refine wpAny_builtinsFor (m := X.mg) (by rw [I1.ok.glob]; exact ((I1.mod.glob.keeps I1.bk).push o).extBut hx TB.gP) e1 e2 (keep3 _ _ e4 (I1.bk _ _ e5)) e6 e7 e8 ?_
    have listP : ∀ {b : Addr} {xs : Array Value}, s1.heap.IsList b xs → b ≠ P := fun {b xs} hb z => by
      obtain ⟨_, e, hc1, _, hd1⟩ := _root_.id hb
      rw [z, hPs] at e
      cases e
      cases hd1
    have hylP : yl ≠ P := listP hIL
    have hIL3 : h3.IsList yl its.toArray := by
      obtain ⟨ob, e, r⟩ := _root_.id hIL
      exact ⟨ob, keep3 _ _ hylP e, r⟩
    have hItr3 : h3.IsListIter s1.heap.objs.size yl 0 := hitr.at fun u e => hx _ u (Nat.ne_of_gt hPlt) e
    refine ⟨s1.heap.objs.size, [s1.heap.objs.size, yl], [s1.heap.objs.size], its.toArray.size, (fun i v => its.toArray[i]? = some v), (fun i h => h.IsListIter s1.heap.objs.size yl i ∧ h.IsList yl its.toArray), (fun _ => true),
      (fun i y => ∃ (n : Nat) (t : Tok), (colOf M k)[i]? = some n ∧ y = .int (n : Int) t), rfl, (fun A' hA => Walks.list hA _ _ (Nat.ne_of_lt hylt) _), ⟨hItr3, hIL3⟩, ?_, lim2.extBut hx hcP, ?_, ?_, ?_⟩
    · intro b hb
      rcases List.mem_cons.mp hb with z | z
      · rw [z]
        show s1.heap.objs.size < h3.objs.size
        omega
      · rcases List.mem_cons.mp z with z | z
        · rw [z]
          have e9 : s1.heap.objs.size ≤ h3.objs.size := by omega
          exact Nat.lt_of_lt_of_le hylt e9
        · cases z
    · intro z
      rcases List.mem_cons.mp z with z | z
      · exact Nat.ne_of_lt hcl' z
      · cases z
    · intro href hhref
      have back : ∀ {s₂ : Shared}, (∀ b ∈ List.range h3.objs.size, b ∉ [s1.heap.objs.size] → ∀ o, href.get? b = some o → s₂.heap.get? b = some o) → ∀ b u, b ≠ P → s1.heap.get? b = some u → s₂.heap.get? b = some u := fun {s₂} kp b u nb e => by
        have hb := Heap.lt_size e
        have e9 : s1.heap.objs.size ≤ h3.objs.size := by omega
        refine kp b (List.mem_range.mpr (Nat.lt_of_lt_of_le hb e9)) (fun z => ?_) u (hhref _ _ (keep3 b u nb e))
        rw [List.mem_singleton.mp z] at hb
        exact Nat.lt_irrefl _ hb
      refine ⟨fun A' E' i v s₂ m₂ hA hPv hn hm hk => ?_, fun A' E' i v s₂ m₂ hA hPv hp hn hm kp => ?_⟩
      · simp only [List.forIn_nil]
        exact wpAny_pure ⟨rfl, GxR.keeps_refl _⟩
      · obtain ⟨n, hn2, r, ri, t2, rfl, rl, re⟩ := hat i v hPv
        have nc : cc ≠ P := fun z => by
          obtain ⟨o9, e9, d9⟩ := _root_.id hcell
          rw [z, hPs] at e9
          cases e9
          cases d9
        have hv2 : s₂.heap.IsCell cc (some (.int (k : Int) tw)) := by
          obtain ⟨o9, e9, d9⟩ := _root_.id hcell
          exact ⟨o9, back kp cc o9 nc e9, d9⟩
        have rl2 : s₂.heap.IsList r ri.toArray := by
          obtain ⟨o9, e9, d9⟩ := _root_.id rl
          exact ⟨o9, back kp r o9 (listP rl) e9, d9⟩
        refine wpAny_mono (elt_row (cenv := genEnv scope (cloFrom X.env.cells scope.names []) h3.objs.size code _ X.env) S.kind S.loc hyf (hcl cc ecc) hv2 hn hm ⟨r, ri, t2, rfl, rl2, re⟩ hk d1 d2 d3) (fun y s3 r => ?_) fun _ _ e => e
        obtain ⟨⟨t, e⟩, kp⟩ := r
        exact ⟨⟨n, t, hn2, e⟩, kp⟩
    · intro g h5 tk5 gs hgb hag hsz5 hk5 W5 hgat
      simp only [GxR.passing_true, List.length_range] at W5
      have hn5 : its.toArray.size = (colOf M k).length := by rw [List.size_toArray, hlen]; unfold colOf; rw [List.length_map]
      rw [hn5] at W5 hgat
      refine hQ (colOf M k) H1 g _ q1 ⟨_, _, _, _, _, W5.in4_1, hgat, ?_, fun s' hm => ?_⟩
      · intro j y sj Qj Ej hy2 hQj
        obtain ⟨i2, hij, n, t, hn2, rfl⟩ := hy2
        obtain ⟨hj, ej⟩ := List.getElem?_eq_some_iff.mp hij
        rw [List.getElem_range] at ej
        subst ej
        have hQ2 : Qj (GxR.trF (fun n => n != 0) (colOf M k) j) sj := hQj
        rw [GxR.trF_some hn2, ← nz_nat] at hQ2
        exact PySem.P.truthy_int hQ2
      · obtain ⟨more, em⟩ := hmore
        have nwr : ∀ b u, s1.heap.get? b = some u → b ∉ h3.objs.size :: [s1.heap.objs.size] := fun b u e hb => by
          have hl := Heap.lt_size e
          rcases List.mem_cons.mp hb with z | z
          · rw [z] at hl
            have h9 : (h3.objs.size : Nat) < s1.heap.objs.size := hl
            omega
          · rcases List.mem_cons.mp z with z | z
            · rw [z] at hl
              exact Nat.lt_irrefl _ hl
            · cases z
        have J := GxR.inv_tab (more := more) (h' := s'.heap) (g' := s'.gens) (d' := s'.drawn) (t' := s'.toks) I1 hP (fun b u hb e => hm.heap b u (nwr b u e) (hk5 b u (keep3 b u hb e)))
          (by rw [← em]; exact hm.heap P _ (nwr P _ hPs) (hk5 P _ hP3)) (AllBare.movedS (I1.bare.push hgb) hm)
        rw [GxR.sh_eta s1 s' hm.os] at J
        refine ⟨upd H1 P (.tbl (ps ++ more)), ⟨⟨ps ++ more, upd_same, by rw [← em]; exact ht3⟩, fun b hb => upd_ne hb⟩, J⟩
  refine ⟨lim2, ?_⟩
  cases hf : codeAmong gpos ps.toList with
  | none =>
    refine wpAny_genexprCodeX hcode (cd.code hP2 ht) (cd.tab hP2) hf fun c' h' tk hx hge hlt hco' _ htab' _ => ?_
    obtain ⟨o1, vs, f1, tf, fl, tg, inF, tx, tt, op, _, _, _, _, _, _, _, _, _, htr, _⟩ := hco'
    exact cont _ h' tk _ hx (Nat.le_trans hge (Nat.le_of_lt hlt)) htab'.2 ⟨_, rfl⟩ htr
  | some cv =>
    refine wpAny_genexprCode_hit hcode (cd.code hP2 ht) hf ?_
    exact cont cv (s1.heap.push o) s1.toks ps (Heap.ExtBut.refl _ _) (Nat.le_refl _) hP2 ⟨#[], by simp⟩ ht
theorem pe_anyR {K : PySem.W.Frag} {c P : Addr} {iter : Expr} {x y : Str} {px p1 p2 p3 p pos gpos : Pos} {scope : Scope} {te : TE} {i k0 : Nat}
    (hr : Room k0 X.A) (hg : Gl X "any") (hm : X.mg "any" = none) (TB : TabB X.base X.mg c P) (hcode : X.env.code = .ref c) (S : GenS X.env scope x) (hi : PE X iter te)
    (hN : X.N[i]? = some y) (hy : X.env.scope.names.lookup y = some .cell) (hyf : scope.names.lookup y = some .free) (hcl : ∀ a, X.env.cells.lookup y = some a → (cloFrom X.env.cells scope.names []).lookup y = some a)
    (hs : ∀ v, genFold iter X.env v = pure v)
    (d1 : (x == ("__debug__" : Str)) = false := by decide) (d2 : (y == ("__debug__" : Str)) = false := by decide) (d3 : (y == ("__classdict__" : Str)) = false := by decide)
    (he : starEach [.GeneratorExp (.Subscript (.Name x p1) (.Name y p2) p3) [⟨.Name x px, iter, [], 0⟩] scope gpos] X.env = (false, eval (.GeneratorExp (.Subscript (.Name x p1) (.Name y p2) p3) [⟨.Name x px, iter, [], 0⟩] scope gpos) X.env) :: starEach [] X.env := by rfl) :
    PE X (.Call (.Name "any" p) [.GeneratorExp (.Subscript (.Name x p1) (.Name y p2) p3) [⟨.Name x px, iter, [], 0⟩] scope gpos] [] pos) (tAnyR K P i te) := by
  refine ⟨fun pins s σ H Q I h => ?_⟩
  refine wpAny_Call_Name_kw (ld_blt I hg hm boot_any ?_)
  refine PyProof.Rows.callWith_builtin1 ?_ he (by rfl)
  rw [he]
  show wpAny _ _ (spliced ((false, eval (.GeneratorExp (.Subscript (.Name x p1) (.Name y p2) p3) [⟨.Name x px, iter, [], 0⟩] scope gpos) X.env) :: backTo pos (starEach [] X.env))) _ _ s
  refine Calls.spliced_cons (gen_rows (R := fun l H1 => ∀ H2, Tabbed P H1 H2 → Q (.bl (l.any fun n => n != 0)) H2) hr TB hcode S hi hN hy hyf hcl d1 d2 d3 hs I h fun l H1 g s5 hR hG => ?_)
  obtain ⟨fp, wr, G, F, St, W, hst, htr, hI⟩ := hG
  refine Calls.spliced_nil ?_
  refine call_any_walkS (W.self 0 _ _ _ hst ⟨g, fp, wr, G, _, F, St, _, rfl, W, hst, htr, fun s' hmv => ?_⟩)
  obtain ⟨H2, hT, J⟩ := hI s' hmv
  refine ⟨.bl _, H2, J, rfl, ?_⟩
  rw [GxR.any_trF]
  exact hR H2 hT
end
/-! ### what such a def asks -/
theorem gen_free {sc : Scope} {names : List (Str × NameKind)} {n : Nat} (h : names.all (fun y => !decide (y.2 = .free) || decide (sc.names.lookup y.1 = some .cell)) = true) : ∀ y ∈ names, y.2 = .free → ∃ c, (PySem.cellsFrom n sc.names []).lookup y.1 = some c := fun y hy hf => by
  have h1 := List.all_eq_true.mp h y hy
  have h2 : sc.names.lookup y.1 = some .cell := by simpa [hf] using h1
  exact Option.isSome_iff_exists.mp (PySem.W.cellsFrom_some _ _ _ (.inl h2))
theorem clo_at {cells : List (Str × Addr)} {y : Str} {a : Addr} (h : cells.lookup y = some a) : ∀ (names : List (Str × NameKind)) (acc : List (Str × Addr)), (names.lookup y = some .free ∨ acc.lookup y = some a) → (cloFrom cells names acc).lookup y = some a
  | [], acc, e => e.elim (fun z => by cases z) id
  | (n, k) :: r, acc, e => by
    unfold cloFrom
    by_cases q : y = n
    · subst q
      by_cases z : (k == .free) = true
      · rw [if_pos z]
        refine clo_at h r _ (.inr ?_)
        rw [List.lookup_cons_self, h]
        rfl
      · rw [if_neg z]
        refine clo_at h r _ (.inr ?_)
        rcases e with e | e
        · rw [List.lookup_cons_self] at e
          have := Option.some.inj e
          rw [this] at z
          exact absurd rfl z
        · exact e
    · have q2 : (y == n) = false := by simpa using q
      rw [List.lookup_cons, q2] at e
      by_cases z : (k == .free) = true
      · rw [if_pos z]
        refine clo_at h r _ (e.imp id fun e => ?_)
        rw [List.lookup_cons, q2]
        exact e
      · rw [if_neg z]
        exact clo_at h r _ e
theorem code_of {K : PySem.W.Frag} {x : Str} {st : Stmt} {fd : FuncData} {cdv : Value} {oc : Value} {od : Option Addr} {osl : Array (Option Value)} (lk : K.lookup (He.ga K x) = some ⟨oc, od, .func fd, osl⟩) (e : fd.code = cdv) (hcd : PySem.W.codeIn K cdv x = true) : cdv = .ref (He.codeOf K (x, none)) := by
  obtain ⟨c, rfl⟩ := He.codeIn_ref hcd
  rw [He.codeOf_eq (p := (x, none)) lk e]
/-- the rule for a def whose own code object is named -/
theorem okC {P : Program} {w : World} {K : PySem.W.Frag} {mg : Str → Option Value} {base : Heap} {x : Str} {st : Stmt} {fd : FuncData} {CX : CXT} {N ps : List Str} {k : Nat} {sp : Sp} (F : FnA K x st fd) (S : FnScope N ps (defScope st)) (len : ∀ vs H Q E, sp vs H Q E → vs.length = ps.length)
    (hbody : ∀ (cdv : Value) (A : Around) (outer : List Env) (s : Shared) (H : Hp) (vs : List V) (Q : VK) (E : XK), cdv = .ref (He.codeOf K (x, none)) → Room k (A.deeper (envOfC x (defScope st) s.heap.objs.size (He.ga K x) cdv)) → sp vs H Q E →
      ∃ t, PSs (cxOf CX P w K mg base N x (defScope st) (He.ga K x) cdv A outer s H E) (defBody st) t ∧ t { nx := fun _ H' => Q .non H', rt := Q } (start N vs) H) : FnOk P w K mg base CX (k + 1) (He.ga K x) fd ps sp := by
  obtain ⟨oc, od, dV, kV, doc, pm, an, cdv, ct, osl, rfl, lk, hcd, _, _⟩ := F.ex
  have e := code_of (st := st) lk rfl hcd
  exact fn_of lk hcd S len fun A outer s H vs Q E hr hsp => hbody cdv A outer s H vs Q E e hr hsp
/-! ### all but tables stays -/
section
variable {K : PySem.W.Frag} {σ : L2.St} {H H0 H' H1 : Hp} {ta te : TE} {p q P : Addr} {D : Ends} {tu tz : TS} {M : List (List Nat)} {rs : List Addr} {l : List Nat} {xs : List V}
def Xt (H H' : Hp) : Prop := ∀ a o, (∀ q, o ≠ .tbl q) → H a = some o → H' a = some o
theorem Xt.of (e : Ex H H') : Xt H H' := fun a o _ h => e a o h
theorem Xt.trans (e : Xt H H') (e2 : Xt H' H1) : Xt H H1 := fun a o n h => e2 a o n (e a o n h)
theorem Xt.ln (e : Xt H H') (h : LN H p l) : LN H' p l := e _ _ (fun _ z => nomatch z) h
theorem Xt.lr (e : Xt H H') : ∀ {rs : List Addr} {M : List (List Nat)}, LR H rs M → LR H' rs M
  | _, _, .nil => .nil
  | _, _, .cons h t => .cons (e.ln h) (Xt.lr e t)
theorem Xt.mn (e : Xt H H') (h : MN H p M) : MN H' p M := by
  obtain ⟨rs, h1, h2⟩ := h
  exact ⟨rs, e _ _ (fun _ z => nomatch z) h1, e.lr h2⟩
theorem Xt.sq (e : Xt H H') (h : SqL K H p xs) : SqL K H' p xs := by
  rcases h with h | h
  · rcases h with h | ⟨o, h⟩
    · exact .inl (.inl (e _ _ (fun _ z => nomatch z) h))
    · exact .inl (.inr ⟨o, e _ _ (fun _ z => nomatch z) h⟩)
  · exact .inr h
theorem xt_tab (hT : TabG H P) (h : Tabbed P H H') : Xt H H' := fun a o n e => by
  obtain ⟨ps, hP, _⟩ := hT
  have na : a ≠ P := fun z => by
    rw [z, hP] at e
    exact n ps (Option.some.inj e).symm
  rw [h.2 a na]
  exact e
theorem tab_up (h : TabG H P) (e : Ex H H') : TabG H' P := by
  obtain ⟨ps, h1, h2⟩ := h
  exact ⟨ps, e _ _ h1, h2⟩
theorem lr_drop : ∀ {n : Nat} {rs : List Addr} {M : List (List Nat)}, LR H rs M → LR H (rs.drop n) (M.drop n)
  | 0, _, _, h => h
  | _ + 1, _, _, .nil => .nil
  | n + 1, _, _, .cons _ t => lr_drop (n := n) t
/-- if any(row[y] for row in rows) -/
theorem q_whenR {i k : Nat} {b : Bool} (h : EvL te σ H (rs.map V.ref)) (hM : LR H rs M) (hk : k < 1000000) (hl : ∀ m ∈ M, k < m.length) (hT : TabG H P) (hσ : σ[i]? = some (some (nV k))) (hb : (colOf M k).any (fun n => n != 0) = b)
    (h1 : b = true → ∀ H1, Xt H H1 → TabG H1 P → tu { D with nx := tz D } σ H1) (h2 : b = false → ∀ H1, Xt H H1 → TabG H1 P → tz D σ H1) : tSeq (tIfS (tB (tAnyR K P i te)) tu tNext) tz D σ H :=
  h H (Ex.refl H) _ fun q H1 nq e1 hq => ⟨q, rs, M, k, rfl, hq, hM.mono e1, hk, hl, tab_up hT e1, hσ, fun H2 hT2 => ⟨_, rfl, by
    have x := (Xt.of e1).trans (xt_tab (tab_up hT e1) hT2)
    rw [hb]
    cases b with
    | true =>
      show tu _ σ H2
      exact h1 rfl H2 x hT2.1
    | false => exact h2 rfl H2 x hT2.1⟩⟩
end
theorem any_usb {R : List (List Nat)} {r t w : Nat} (hR : R.length = r) : (colOf (R.drop t) w).any (fun n => n != 0) = !decide (Py.usb R r t w = []) := by
  have mem : ∀ x, x ∈ colOf (R.drop t) w ↔ ∃ i, t ≤ i ∧ i < r ∧ x = Py.en R i w := fun x => by
    unfold colOf
    rw [List.mem_map]
    constructor
    · rintro ⟨m, hm, rfl⟩
      obtain ⟨i, hi, e⟩ := List.mem_iff_getElem.mp hm
      rw [List.length_drop] at hi
      refine ⟨t + i, by omega, by omega, ?_⟩
      rw [List.getElem_drop] at e
      show _ = Py.at0 (Py.at1 R (t + i)) w
      rw [Py.at1_of (r := m) (by rw [List.getElem?_eq_getElem (by omega), e])]
    · rintro ⟨i, h1, h2, rfl⟩
      refine ⟨Py.at1 R i, List.mem_iff_getElem?.mpr ⟨i - t, ?_⟩, rfl⟩
      rw [List.getElem?_drop, show t + (i - t) = i by omega]
      exact Py.at1_get (by omega)
  cases q : Py.usb R r t w with
  | nil =>
    have hz := Py.usb_nil q
    rw [decide_eq_true rfl]
    refine List.any_eq_false.mpr fun x hx => ?_
    obtain ⟨i, h1, h2, rfl⟩ := (mem x).mp hx
    rw [hz i h1 h2]
    decide
  | cons u us =>
    have hu := Py.usb_cons q
    rw [decide_eq_false (by simp)]
    exact List.any_eq_true.mpr ⟨_, (mem _).mpr ⟨u, hu.1, hu.2.1, rfl⟩, by simpa using hu.2.2⟩
theorem given_or {X : Cx} {st : List Stmt} {t u : TS} (h1 : PSs X st t) (h2 : PSs X st u) : PSs X st (fun D σ H => t D σ H ∨ u D σ H) := ⟨fun pins s σ H D I h => h.elim (fun h => h1.run pins s σ H D I h) fun h => h2.run pins s σ H D I h⟩
section
variable {K : PySem.W.Frag} {σ : L2.St} {H H0 H' H1 : Hp} {ta0 : TA} {ta tb tc te : TE} {p q P : Addr} {x y z v : V} {r : R2} {D : Ends} {tu tz : TS} {M : List (List Nat)} {rs : List Addr} {l : List Nat} {xs ys : List V}
theorem ev_callVVL {sp : Sp} {E : XK} (h1 : Ev ta σ H x) (h2 : Ev tb σ H y) (h3 : EvL tc σ H ys) (hs : ∀ q H1, Ex H H1 → H1 q = some (.lst ys) → SpV sp ([x, y, .ref q] ++ []) H1 z) : Ev (tCall sp [] E (tCons ta (tCons tb (tCons tc tNil)))) σ H z := fun H1 e Q k =>
  h1 H1 e _ fun H2 e2 => h2 H2 (e.trans e2) _ fun H3 e3 => h3 H3 ((e.trans e2).trans e3) _ fun q H4 _ e4 hq => hs q H4 (((e.trans e2).trans e3).trans e4) hq H4 (Ex.refl _) Q (fun H5 e5 => k H5 (((e2.trans e3).trans e4).trans e5)) E
theorem ev_opMV (ha : EvM ta σ H M) (hb : ∀ H1, Ex H H1 → Ev tb σ H1 y) (hr : ∀ p H1, MN H1 p M → Ex H H1 → RV r (.ref p) y H1 z) : Ev (tOp r ta tb) σ H z := fun H1 e Q k =>
  ha H1 e _ fun p H2 _ e2 hp => hb H2 (e.trans e2) H2 (Ex.refl _) _ fun H3 e3 => hr p H3 (hp.mn.up e3) ((e.trans e2).trans e3) H3 (Ex.refl _) Q (fun H4 e4 => k H4 ((e2.trans e3).trans e4))
/-! ### where a table grows -/
def EvXt (P : Addr) (te : TE) (σ : L2.St) (H : Hp) (v : V) : Prop := ∀ Q : VK, (∀ H', Xt H H' → TabG H' P → Q v H') → te σ H Q
theorem ex_call {sp : Sp} {dvs vs : List V} {E : XK} (h : EvA ta0 σ H vs) (hs : ∀ H1, Ex H H1 → ∀ Q : VK, (∀ H', Xt H1 H' → TabG H' P → Q v H') → sp (vs ++ dvs) H1 Q E) : EvXt P (tCall sp dvs E ta0) σ H v := fun Q k =>
  h H (Ex.refl H) _ fun H1 e1 => hs H1 e1 Q fun H' x t => k H' ((Xt.of e1).trans x) t
theorem ex_op (h : EvXt P ta σ H x) (hb : ∀ H', Xt H H' → TabG H' P → Ev tb σ H' y) (hr : ∀ H', Xt H H' → RV r x y H' z) : EvXt P (tOp r ta tb) σ H z := fun Q k =>
  h _ fun H1 x1 t1 => hb H1 x1 t1 H1 (Ex.refl _) _ fun H2 e2 => hr H2 (x1.trans (Xt.of e2)) H2 (Ex.refl _) Q fun H3 e3 => k H3 (x1.trans (Xt.of (e2.trans e3))) (tab_up t1 (e2.trans e3))
theorem ex_and {b : Bool} (h : EvXt P ta σ H (.bl true)) (hb : ∀ H', Xt H H' → TabG H' P → Ev tb σ H' (.bl b)) : EvXt P (tAndV ta tb) σ H (.bl b) := fun Q k =>
  h _ fun H1 x1 t1 => ⟨true, rfl, by
    show tb σ H1 Q
    exact hb H1 x1 t1 H1 (Ex.refl _) Q fun H2 e2 => k H2 (x1.trans (Xt.of e2)) (tab_up t1 e2)⟩
theorem ex_is (h : EvXt P te σ H x) (e : x = y) : EvXt P te σ H y := e ▸ h
theorem s_retX (h : EvXt P te σ H v) (k : ∀ H', Xt H H' → TabG H' P → D.rt v H') : tRet te D σ H := h _ k
theorem not_in {l : List Nat} {j : Nat} (h : (!inV (nV j) (l.map nV)) = true) : ∀ i, i < l.length → ¬ Py.at0 l i = j := fun i hi z => by
  have h1 : inV (nV j) (l.map nV) = true := by
    unfold inV
    refine List.any_eq_true.mpr ⟨nV j, List.mem_map.mpr ⟨j, ?_, rfl⟩, ?_⟩
    · rw [← z]
      exact List.mem_of_getElem? (Py.at0_get hi)
    · simp [eqV]
  rw [h1] at h
  cases h
theorem flat_nats (l : List Nat) : (l.map nV).all flatV = true := by
  rw [List.all_map]
  exact List.all_eq_true.mpr fun _ _ => rfl
theorem el_call1M {sp : Sp} {E : XK} (h : EvM ta σ H M) (hs : ∀ p H1, Ex H H1 → MN H1 p M → SpL sp ([.ref p] ++ []) H1 xs) : EvL (tCall sp [] E (tCons ta tNil)) σ H xs := fun H1 e Q k =>
  h H1 e _ fun p H2 _ e2 hp => hs p H2 (e.trans e2) hp.mn H2 (Ex.refl _) Q (fun q H3 nq e3 hq => k q H3 (fresh_back e2 nq) (e2.trans e3) hq) E
/-- name = call, a list, behind which a table has grown -/
theorem q_asgX {i : Nat} {sp : Sp} {E : XK} {vs : List V} (h : EvA ta0 σ H vs) (hs : ∀ H1, Ex H H1 → ∀ Q : VK, (∀ x H', Xt H1 H' → TabG H' P → LN H' x l → Q (.ref x) H') → sp (vs ++ []) H1 Q E) (k : ∀ x H', Xt H H' → TabG H' P → LN H' x l → tz D (σ.set i (some (.ref x))) H') : tSeq (tAsg (tCall sp [] E ta0) (gName i)) tz D σ H :=
  h H (Ex.refl H) _ fun H1 e1 => hs H1 e1 _ fun x H' x1 t hx => k x H' ((Xt.of e1).trans x1) t hx
end
section
variable {K : PySem.W.Frag} {σ : L2.St} {H H0 H' H1 : Hp} {ta0 : TA} {ta tb tc te : TE} {p q P : Addr} {x y z v : V} {D : Ends} {tu tz : TS}
theorem q_asgC {i : Nat} {sp : Sp} {E : XK} {vs : List V} (h : EvA ta0 σ H vs) (hs : ∀ H1, Ex H H1 → sp (vs ++ []) H1 (fun v H' => tz D (σ.set i (some v)) H') E) : tSeq (tAsg (tCall sp [] E ta0) (gName i)) tz D σ H :=
  h H (Ex.refl H) _ fun H1 e1 => hs H1 e1
/-- if not this or not that, which both are -/
theorem q_orX (h1 : Ev ta σ H (.bl true)) (h2 : ∀ H1, Ex H H1 → EvXt P tb σ H1 (.bl true)) (k : ∀ H', Xt H H' → TabG H' P → tz D σ H') : tSeq (tIfS (tOr (tNot (tB ta)) (tNot (tB tb))) tu tNext) tz D σ H :=
  h1 H (Ex.refl H) _ fun H1 e1 => ⟨true, rfl, by
    show (if (!true) = true then _ else tNot (tB tb) σ H1 _)
    rw [if_neg (by decide)]
    exact h2 H1 e1 _ fun H' x t => ⟨true, rfl, k H' ((Xt.of e1).trans x) t⟩⟩
end
end Mx

set_option Elab.async false
set_option linter.all false
namespace Py
open Gf
/-! ### a polynomial with more zeros than its degree -/
/-- divided by what is zero at r -/
def sdv (r : Nat) : List Nat → List Nat
  | [] => []
  | [_] => []
  | _ :: c :: p => horner r (c :: p) :: sdv r (c :: p)
theorem sdv_len (r : Nat) : ∀ p : List Nat, (sdv r p).length = p.length - 1
  | [] => rfl
  | [_] => rfl
  | _ :: c :: p => by
    show (sdv r (c :: p)).length + 1 = _
    rw [sdv_len r (c :: p)]
    simp
theorem sdv_oc {r : Nat} : ∀ {p : List Nat}, Oc p → Oc (sdv r p)
  | [], _ => oc_nil
  | [_], _ => oc_nil
  | _ :: c :: p, h => oc_of fun v hv => by
    rcases List.mem_cons.mp hv with z | z
    · rw [z]
      exact horner_lt h.tail
    · exact (sdv_oc h.tail).mem v z
theorem horner_cons (x c : Nat) (p : List Nat) : horner x (c :: p) = gm (horner x p) x ^^^ c := rfl
theorem sdv_at {x r : Nat} (hx : x < 256) (hr : r < 256) : ∀ {p : List Nat}, Oc p → horner x p = gm (horner x (sdv r p)) (x ^^^ r) ^^^ horner r p
  | [], _ => by
    show 0 = gm 0 _ ^^^ 0
    rw [gm_zero (.inl rfl)] <;> rfl
  | [c], h => by
    show gm 0 x ^^^ c = gm 0 (x ^^^ r) ^^^ (gm 0 r ^^^ c)
    rw [gm_zero (.inl rfl), gm_zero (.inl rfl), gm_zero (.inl rfl), Nat.zero_xor, Nat.zero_xor]
  | c :: d :: p, h => by
    have ih := sdv_at hx hr h.tail
    show gm (horner x (d :: p)) x ^^^ c = gm (gm (horner x (sdv r (d :: p))) x ^^^ horner r (d :: p)) (x ^^^ r) ^^^ (gm (horner r (d :: p)) r ^^^ c)
    generalize horner x (sdv r (d :: p)) = a at ih
    have hb := horner_lt (x := r) h.tail
    generalize horner r (d :: p) = b at ih hb
    rw [ih, xor_gm (gm_lt _ _) hb, xor_gm (gm_lt _ _) hb, gm_assoc a (x ^^^ r) x, gm_comm (x ^^^ r) x, ← gm_assoc a x, gm_xor hx hr (a := b), Nat.xor_assoc, Nat.xor_assoc, Nat.xor_assoc, ← Nat.xor_assoc (gm b r) (gm b r), Nat.xor_self, Nat.zero_xor]
theorem sdv_zero {r : Nat} : ∀ {p : List Nat}, (∀ c ∈ sdv r p, c = 0) → horner r p = 0 → ∀ c ∈ p, c = 0
  | [], _, _ => fun c hc => absurd hc List.not_mem_nil
  | [a], _, h => fun c hc => by
    rw [List.mem_singleton.mp hc]
    have e : gm 0 r ^^^ a = 0 := h
    rw [gm_zero (.inl rfl), Nat.zero_xor] at e
    exact e
  | a :: d :: p, hz, h => fun c hc => by
    have h1 : horner r (d :: p) = 0 := hz _ (List.mem_cons_self ..)
    have h2 := sdv_zero (fun c hc => hz c (List.mem_cons_of_mem _ hc)) h1
    rcases List.mem_cons.mp hc with z | z
    · rw [z]
      have e : gm (horner r (d :: p)) r ^^^ a = 0 := h
      rw [h1, gm_zero (.inl rfl), Nat.zero_xor] at e
      exact e
    · exact h2 c z
theorem roots {n : Nat} : ∀ {p xs : List Nat}, p.length = n → Oc p → xs.length = n → xs.Nodup → (∀ x ∈ xs, x < 256) → (∀ x ∈ xs, horner x p = 0) → ∀ c ∈ p, c = 0 := by
  induction n with
  | zero =>
    intro p xs hp _ _ _ _ _ c hc
    rw [List.length_eq_zero_iff.mp hp] at hc
    exact absurd hc List.not_mem_nil
  | succ n ih =>
    intro p xs hp ho hx hd hb hz
    match xs, hx with
    | r :: ys, hx =>
      have hr := hb r (List.mem_cons_self ..)
      have zr := hz r (List.mem_cons_self ..)
      have nd := List.nodup_cons.mp hd
      refine sdv_zero (ih (p := sdv r p) (xs := ys) (by rw [sdv_len, hp]; omega) (sdv_oc ho) (by simpa using hx) nd.2 (fun x hx => hb x (List.mem_cons_of_mem _ hx)) fun x hx => ?_) zr
      have e := sdv_at (hb x (List.mem_cons_of_mem _ hx)) hr ho
      rw [hz x (List.mem_cons_of_mem _ hx), zr, Nat.xor_zero, gm_comm] at e
      refine gm_null e.symm fun z => ?_
      have := xor_zero_iff.mp z
      rw [this] at hx
      exact nd.1 hx
/-! ### the basis of Lagrange at the places 0 .. n - 1 -/
/-- the product of i + k over the places k < m but j -/
def ovr (i j : Nat) : Nat → Nat
  | 0 => 1
  | k + 1 => if k = j then ovr i j k else gm (ovr i j k) (i ^^^ k)
theorem ovr_lt (i j : Nat) : ∀ m, ovr i j m < 256
  | 0 => show (1 : Nat) < 256 by decide
  | k + 1 => by
    show (if k = j then ovr i j k else gm (ovr i j k) (i ^^^ k)) < 256
    split
    · exact ovr_lt i j k
    · exact gm_lt _ _
theorem ovr_ne {i j : Nat} : ∀ {m : Nat}, (∀ k, k < m → ¬ k = j → ¬ i = k) → ¬ ovr i j m = 0
  | 0, _ => by show ¬ (1 : Nat) = 0; decide
  | k + 1, h => by
    show ¬ (if k = j then ovr i j k else gm (ovr i j k) (i ^^^ k)) = 0
    have ih := ovr_ne (i := i) (j := j) (m := k) fun q hq => h q (by omega)
    split
    · exact ih
    · rename_i q
      exact gm_ne ih fun z => h k (by omega) q (xor_zero_iff.mp z)
theorem ovr_zero {i j : Nat} : ∀ {m : Nat}, i < m → ¬ i = j → ovr i j m = 0
  | 0, h, _ => absurd h (Nat.not_lt_zero _)
  | k + 1, h, hn => by
    show (if k = j then ovr i j k else gm (ovr i j k) (i ^^^ k)) = 0
    by_cases q : i = k
    · rw [if_neg (by omega), q, Nat.xor_self, gm_zero (.inr rfl)]
    · have ih := ovr_zero (j := j) (m := k) (by omega) hn
      rw [ih, gm_zero (.inl rfl)]
      split <;> rfl
/-- the number of the law at row i, column j -/
def lag (i n j : Nat) : Nat := gm (ovr i j n) (gi (ovr j j n))
theorem lag_lt (i n j : Nat) : lag i n j < 256 := gm_lt _ _
theorem lag_unit {i j n : Nat} (hi : i < n) : lag i n j = if i = j then 1 else 0 := by
  unfold lag
  by_cases q : i = j
  · rw [if_pos q, q]
    exact gm_gi (ovr_lt _ _ _) (ovr_ne fun k _ h z => h z.symm)
  · rw [if_neg q, ovr_zero hi q, gm_zero (.inl rfl)]
def mulx (r : Nat) (p : List Nat) : List Nat := sumL (p.map (gm r)) (0 :: p)
theorem mulx_len (r : Nat) (p : List Nat) : (mulx r p).length = p.length + 1 := by
  unfold mulx sumL mx
  simp
theorem oc_zc {p : List Nat} (h : Oc p) : Oc (0 :: p) := oc_of fun c hc => by
  rcases List.mem_cons.mp hc with z | z
  · rw [z]; decide
  · exact h.mem c z
theorem mulx_oc (r : Nat) {p : List Nat} (h : Oc p) : Oc (mulx r p) := oc_sum (oc_scale _ _) (oc_zc h)
theorem mulx_at {r x : Nat} (hx : x < 256) (hr : r < 256) {p : List Nat} (h : Oc p) : horner x (mulx r p) = gm (horner x p) (x ^^^ r) := by
  unfold mulx
  rw [horner_sum hx (oc_scale _ _) (oc_zc h), horner_scale hx h, horner_cons, Nat.xor_zero, gm_xor hx hr, gm_comm r, Nat.xor_comm]
def bpl (j : Nat) : Nat → List Nat
  | 0 => [1]
  | k + 1 => if k = j then bpl j k else mulx k (bpl j k)
theorem bpl_len (j : Nat) : ∀ m, (bpl j m).length = if j < m then m else m + 1
  | 0 => rfl
  | k + 1 => by
    show (if k = j then bpl j k else mulx k (bpl j k)).length = _
    have ih := bpl_len j k
    by_cases q : k = j
    · rw [if_pos q, ih, if_neg (by omega), if_pos (by omega)]
    · rw [if_neg q, mulx_len, ih]
      by_cases q2 : j < k
      · rw [if_pos q2, if_pos (by omega)]
      · rw [if_neg q2, if_neg (by omega)]
theorem bpl_oc (j : Nat) : ∀ m, Oc (bpl j m)
  | 0 => oc_of fun c hc => by rw [List.mem_singleton.mp hc]; decide
  | k + 1 => by
    show Oc (if k = j then bpl j k else mulx k (bpl j k))
    split
    · exact bpl_oc j k
    · exact mulx_oc _ (bpl_oc j k)
theorem bpl_at {x j : Nat} (hx : x < 256) : ∀ {m : Nat}, m ≤ 256 → horner x (bpl j m) = ovr x j m
  | 0, _ => by
    show gm 0 x ^^^ 1 = 1
    rw [gm_zero (.inl rfl), Nat.zero_xor]
  | k + 1, hm => by
    show horner x (if k = j then bpl j k else mulx k (bpl j k)) = if k = j then ovr x j k else gm (ovr x j k) (x ^^^ k)
    split
    · exact bpl_at hx (by omega)
    · rw [mulx_at hx (by omega) (bpl_oc j k), bpl_at hx (by omega)]
def pzl (z : Nat → Nat) (n : Nat) : Nat → List Nat
  | 0 => List.replicate n 0
  | j + 1 => sumL (pzl z n j) ((bpl j n).map (gm (gm (z j) (gi (ovr j j n)))))
theorem pzl_ok {z : Nat → Nat} {n x : Nat} (hx : x < 256) (hn : n ≤ 256) : ∀ m, m ≤ n → (pzl z n m).length = n ∧ Oc (pzl z n m) ∧ horner x (pzl z n m) = xs (fun j => gm (lag x n j) (z j)) m
  | 0, _ => by
    refine ⟨List.length_replicate, oc_zeros n, ?_⟩
    show horner x (List.replicate n 0) = 0
    have : ∀ n : Nat, horner x (List.replicate n 0) = 0 := by
      intro n
      induction n with
      | zero => rfl
      | succ n ih =>
        show gm (horner x (List.replicate n 0)) x ^^^ 0 = 0
        rw [ih, gm_zero (.inl rfl)] <;> rfl
    exact this n
  | j + 1, hj => by
    obtain ⟨h1, h2, h3⟩ := pzl_ok (z := z) hx hn j (by omega)
    have hb := bpl_len j n
    rw [if_pos (by omega)] at hb
    refine ⟨?_, oc_sum h2 (oc_scale _ _), ?_⟩
    · show (sumL _ _).length = n
      unfold sumL mx
      rw [List.length_map, List.length_range, List.length_map, h1, hb, if_neg (by omega)]
    · show horner x (sumL _ _) = xs _ j ^^^ gm (lag x n j) (z j)
      rw [horner_sum hx h2 (oc_scale _ _), h3, horner_scale hx (bpl_oc j n), bpl_at hx hn]
      congr 1
      unfold lag
      rw [gm_assoc (z j), gm_comm (gi _), gm_comm (z j)]
/-- what is zero at n places is zero -/
theorem lag_null {z : Nat → Nat} {n : Nat} {ys : List Nat} (hn : n ≤ 256) (hz : ∀ j, z j < 256) (hl : ys.length = n) (hd : ys.Nodup) (hb : ∀ x ∈ ys, x < 256) (h : ∀ x ∈ ys, xs (fun j => gm (lag x n j) (z j)) n = 0) : ∀ i, i < n → z i = 0 := by
  intro i hi
  have h0 := pzl_ok (z := z) (x := i) (by omega) hn n (Nat.le_refl _)
  have hr := roots h0.1 h0.2.1 hl hd hb fun x hx => by
    rw [(pzl_ok (z := z) (hb x hx) hn n (Nat.le_refl _)).2.2]
    exact h x hx
  have e : horner i (pzl z n n) = 0 := by
    have : ∀ p : List Nat, (∀ c ∈ p, c = 0) → horner i p = 0 := by
      intro p
      induction p with
      | nil => exact fun _ => rfl
      | cons c p ih =>
        intro h
        rw [horner_cons, ih fun c hc => h c (List.mem_cons_of_mem _ hc), h c (List.mem_cons_self ..), gm_zero (.inl rfl)] <;> rfl
    exact this _ hr
  rw [h0.2.2, xs_only hi fun j hj hn => by rw [lag_unit hi, if_neg (fun q => hn q.symm), gm_zero (.inl rfl)], lag_unit hi, if_pos rfl, gm_comm, gm_one (hz i)] at e
  exact e
/-! ### a matrix that takes nothing but zero to zero has all its pivots -/
theorem piv_all {A : List (List Nat)} {n : Nat} (hA : Mt A n n) (h : ∀ z : Nat → Nat, (∀ j, z j < 256) → (∀ k, k < n → dt (at1 A k) z n = 0) → ∀ i, i < n → z i = 0) : ∀ c, c ≤ n → (elim A n c).2.length = c
  | 0, _ => rfl
  | c + 1, hc => by
    have ih := piv_all hA h c (by omega)
    have ei := elim_ok hA c (by omega)
    show (estep (elim A n c) n c).2.length = c + 1
    unfold estep
    generalize hP : elim A n c = RP at ih ei
    obtain ⟨R, P⟩ := RP
    replace ih : P.length = c := ih
    cases q : usb R n P.length c with
    | cons u us =>
      show (P ++ [c]).length = c + 1
      rw [List.length_append, ih] <;> rfl
    | nil =>
      exfalso
      have hz := usb_nil q
      have full := ei.full ih
      have piv : ∀ i, i < c → ∀ k, k < n → en R k i = if k = i then 1 else 0 := fun i hi k hk => by
        have := ei.piv i (by show i < P.length; omega) k hk
        rw [full i hi] at this
        exact this
      let z : Nat → Nat := fun j => if j < c then en R j c else if j = c then 1 else 0
      have zl : ∀ j, z j < 256 := fun j => by
        show (if j < c then en R j c else if j = c then 1 else 0) < 256
        split
        · exact (ei.mt.at (j := j) (by omega)).2 c
        · split <;> decide
      have key := h z zl ((ei.null z).mp fun k hk => ?_) c (by omega)
      · have e : (if c < c then en R c c else if c = c then 1 else 0) = 0 := key
        rw [if_neg (Nat.lt_irrefl _), if_pos rfl] at e
        exact absurd e (by decide)
      · show xs (fun j => gm (at0 (at1 R k) j) (z j)) n = 0
        have e1 : n = (c + 1) + (n - (c + 1)) := by omega
        rw [e1, xs_add, xs_zero (n := n - (c + 1)) fun j _ => by
          show gm _ (if c + 1 + j < c then _ else if c + 1 + j = c then 1 else 0) = 0
          rw [if_neg (by omega), if_neg (by omega), gm_zero (.inr rfl)], Nat.xor_zero]
        show xs _ c ^^^ gm (at0 (at1 R k) c) (if c < c then en R c c else if c = c then 1 else 0) = 0
        rw [if_neg (Nat.lt_irrefl _), if_pos rfl, gm_one ((ei.mt.at hk).2 c)]
        by_cases hk2 : k < c
        · rw [xs_only hk2 fun j hj hn => by
            rw [show at0 (at1 R k) j = en R k j from rfl, piv j hj k hk, if_neg (fun q => hn q.symm), gm_zero (.inl rfl)], show at0 (at1 R k) k = en R k k from rfl, piv k hk2 k hk, if_pos rfl, gm_comm]
          show gm (if k < c then en R k c else if k = c then 1 else 0) 1 ^^^ _ = 0
          rw [if_pos hk2, gm_one ((ei.mt.at hk).2 c)]
          exact Nat.xor_self _
        · rw [xs_zero fun j hj => by rw [show at0 (at1 R k) j = en R k j from rfl, piv j hj k hk, if_neg (by omega), gm_zero (.inl rfl)], Nat.zero_xor]
          exact hz k (by omega) hk
/-! ### the program's way to the rows -/
def pd (l : List Nat) : Nat := l.foldl gm 1
theorem pd_snoc (l : List Nat) (x : Nat) : pd (l ++ [x]) = gm (pd l) x := by
  unfold pd
  rw [List.foldl_append] <;> rfl
theorem pd_lt (l : List Nat) : pd l < 256 := by
  have : ∀ (l : List Nat) (a : Nat), a < 256 → l.foldl gm a < 256 := by
    intro l
    induction l with
    | nil => exact fun a h => h
    | cons x l ih => exact fun a _ => ih _ (gm_lt _ _)
  exact this l 1 (by decide)
def others (i j m : Nat) : List Nat := ((List.range m).filter fun k => k != j).map fun k => i ^^^ k
theorem pd_others (i j : Nat) : ∀ m, pd (others i j m) = ovr i j m
  | 0 => rfl
  | k + 1 => by
    unfold others
    rw [List.range_succ, List.filter_append, List.map_append]
    show pd (others i j k ++ (([k].filter fun k => k != j).map fun k => i ^^^ k)) = if k = j then ovr i j k else gm (ovr i j k) (i ^^^ k)
    by_cases q : k = j
    · have e : ([k].filter fun k => k != j) = [] := by simp [q]
      rw [if_pos q, e, List.map_nil, List.append_nil, pd_others i j k]
    · have e : ([k].filter fun k => k != j) = [k] := by simp [q]
      rw [if_neg q, e, List.map_cons, List.map_nil, pd_snoc, pd_others i j k]
def wh (i m : Nat) : Nat := pd ((List.range m).map fun k => i ^^^ k)
theorem wh_succ (i k : Nat) : wh i (k + 1) = gm (wh i k) (i ^^^ k) := by
  unfold wh
  rw [List.range_succ, List.map_append, List.map_cons, List.map_nil, pd_snoc]
theorem wh_low (i j : Nat) (hij : i < 256 ∧ j < 256) : ∀ m, m ≤ j → wh i m = ovr i j m
  | 0, _ => rfl
  | k + 1, h => by
    rw [wh_succ, wh_low i j hij k (by omega)]
    show _ = if k = j then ovr i j k else gm (ovr i j k) (i ^^^ k)
    rw [if_neg (by omega)]
theorem wh_ovr (i j : Nat) (hij : i < 256 ∧ j < 256) : ∀ m, j < m → wh i m = gm (ovr i j m) (i ^^^ j)
  | 0, h => absurd h (Nat.not_lt_zero _)
  | k + 1, h => by
    rw [wh_succ]
    show _ = gm (if k = j then ovr i j k else gm (ovr i j k) (i ^^^ k)) (i ^^^ j)
    by_cases q : k = j
    · rw [if_pos q, wh_low i j hij k (by omega), q]
    · rw [if_neg q, wh_ovr i j hij k (by omega), gm_assoc, gm_comm (i ^^^ j), ← gm_assoc]
theorem frow_eq {i j d : Nat} (hj : j < d) (hi : d ≤ i) (hi2 : i < 256) : gm (wh i d) (gi (gm (i ^^^ j) (ovr j j d))) = lag i d j := by
  have hc : ¬ i ^^^ j = 0 := fun z => by have := xor_zero_iff.mp z; omega
  have hcl : i ^^^ j < 256 := xor_lt hi2 (by omega)
  have hh : ¬ ovr j j d = 0 := ovr_ne fun k _ h z => h z.symm
  have hhl := ovr_lt j j d
  rw [wh_ovr i j ⟨hi2, by omega⟩ d hj]
  unfold lag
  generalize ovr j j d = h at hh hhl
  generalize i ^^^ j = c at hc hcl
  generalize ovr i j d = o
  have hy := gm_gi (gm_lt c h) (gm_ne hc hh)
  generalize gi (gm c h) = y at hy
  have hz := gm_gi hhl hh
  have hzl := gi_lt h
  rw [gm_assoc]
  congr 1
  generalize gi h = z at hz hzl
  have e1 : gm h (gm c y) = 1 := by rw [← gm_assoc, gm_comm h c]; exact hy
  have e2 : gm (gm z h) (gm c y) = gm z 1 := by rw [gm_assoc, e1]
  rw [gm_comm z h, hz, gm_comm 1, gm_one (gm_lt _ _), gm_one hzl] at e2
  exact e2
/-- a block is what its own row gives -/
theorem comb_unit {M : List (List Nat)} {n s i : Nat} (hM : Mt M n s) (hi : i < n) : comb ((List.range n).map (lag i n)) M s = at1 M i := by
  have hi2 := hM.at hi
  refine ext0 (by show (combN _ _ _ _).length = _; rw [combN_length, hi2.1]) fun k hk => ?_
  have hk2 : k < s := by
    have : (combN ((List.range n).map (lag i n)) M s ((List.range n).map (lag i n)).length).length = s := combN_length _ _ _ _
    show k < s
    rw [← this]
    exact hk
  unfold comb combN
  rw [at0_map, if_pos hk2, List.length_map, List.length_range, xs_only hi fun j hj hn => by rw [at0_map, if_pos hj, lag_unit hi, if_neg (fun q => hn q.symm), gm_zero (.inl rfl)], at0_map, if_pos hi, lag_unit hi, if_pos rfl, gm_comm, gm_one (hi2.2 k)]
/-! ### the blocks come back -/
theorem xs_swap (f : Nat → Nat → Nat) (m : Nat) : ∀ n, xs (fun k => xs (fun j => f k j) m) n = xs (fun j => xs (fun k => f k j) n) m
  | 0 => (xs_zero fun _ _ => rfl).symm
  | n + 1 => by
    show xs (fun k => xs (fun j => f k j) m) n ^^^ xs (fun j => f n j) m = xs (fun j => xs (fun k => f k j) n ^^^ f n j) m
    rw [xs_swap f m n, xs_xor]
theorem comb_mt {A M : List (List Nat)} {h n s : Nat} (hA : Mt A h n) : Mt (A.map fun r => comb r M s) h s := by
  refine ⟨by rw [List.length_map, hA.rows], fun l hl => ?_, fun l hl => ?_⟩
  · obtain ⟨r, _, rfl⟩ := List.mem_map.mp hl
    exact combN_length _ _ _ _
  · obtain ⟨r, _, rfl⟩ := List.mem_map.mp hl
    exact combN_oct _ _ _ _
theorem comb_at {l : List Nat} {M : List (List Nat)} {n s c : Nat} (hl : l.length = n) (hc : c < s) : at0 (comb l M s) c = xs (fun j => gm (at0 l j) (en M j c)) n := by
  unfold comb combN
  rw [at0_map, if_pos hc, hl]
theorem back_ok {A B N I : List (List Nat)} {n s : Nat} (hA : Mt A n n) (hB : Mt B n s) (hI : Mt I n n) (hT : times I A n = unit n) (hN : ∀ k, k < n → at1 N k = comb (at1 A k) B s) : (I.map fun r => comb r N s) = B := by
  refine mat_ext (comb_mt hI) hB fun i hi c hc => ?_
  show at0 (at1 (I.map fun r => comb r N s) i) c = at0 (at1 B i) c
  rw [at1_of (r := comb (at1 I i) N s) (by rw [List.getElem?_map, at1_get (by rw [hI.rows]; exact hi)] <;> rfl), comb_at (hI.at hi).1 hc]
  rw [xs_congr (g := fun k => xs (fun j => gm (gm (en I i k) (en A k j)) (en B j c)) n) fun k hk => by
    show gm (at0 (at1 I i) k) (at0 (at1 N k) c) = _
    rw [hN k hk, comb_at (hA.at hk).1 hc, gm_comm, ← xs_gm fun j => gm_lt _ _]
    exact xs_congr fun j _ => by
      show gm (gm (at0 (at1 A k) j) (en B j c)) (at0 (at1 I i) k) = gm (gm (at0 (at1 I i) k) (at0 (at1 A k) j)) (en B j c)
      rw [gm_comm _ (at0 (at1 I i) k), ← gm_assoc], xs_swap]
  rw [xs_congr (g := fun j => gm (if i = j then 1 else 0) (en B j c)) fun j hj => by
    show xs (fun k => gm (gm (en I i k) (en A k j)) (en B j c)) n = _
    rw [xs_gm fun k => gm_lt _ _]
    congr 1
    have e := times_at hI hA.rows hi hj
    rw [hT, unit_at hi hj] at e
    exact e.symm, xs_only hi fun j hj hn => by rw [if_neg (fun q => hn q.symm), gm_zero (.inl rfl)], if_pos rfl, gm_comm, gm_one ((hB.at hi).2 c)]
theorem inc_range {C : List Nat} {d : Nat} (hl : C.length = d) (hs : ∀ i j, i < j → j < d → at0 C i < at0 C j) (hd : 0 < d) (hb : at0 C (d - 1) < d) : ∀ i, i < d → at0 C i = i := by
  have lo : ∀ i, i < d → i ≤ at0 C i := by
    intro i
    induction i with
    | zero => exact fun _ => Nat.zero_le _
    | succ i ih =>
      intro hi
      have := ih (by omega)
      have := hs i (i + 1) (by omega) hi
      omega
  have up : ∀ k, k < d → at0 C (d - 1 - k) + k < d := by
    intro k
    induction k with
    | zero => exact fun _ => by simpa using hb
    | succ k ih =>
      intro hk
      have h1 := ih (by omega)
      have h2 := hs (d - 1 - (k + 1)) (d - 1 - k) (by omega) (by omega)
      omega
  intro i hi
  have h1 := lo i hi
  have h2 := up (d - 1 - i) (by omega)
  have e : d - 1 - (d - 1 - i) = i := by omega
  rw [e] at h2
  omega
/-- chosen rows can be inverted -/
theorem chosen_piv {C : List Nat} {d : Nat} (hl : C.length = d) (hn : C.Nodup) (hd : d ≤ 256) (hb : ∀ x ∈ C, x < 256) {A : List (List Nat)} (hA : Mt A d d) (hr : ∀ k, k < d → at1 A k = (List.range d).map (lag (at0 C k) d)) : (lelim A d d).2.length = d := by
  rw [(same_pivots hA hA (Nat.le_refl _) (Nat.le_refl _) (fun _ _ _ _ => rfl) d (Nat.le_refl _)).1]
  refine piv_all hA (fun z hz h => lag_null hd hz hl hn hb fun x hx => ?_) d (Nat.le_refl _)
  obtain ⟨k, hk, e⟩ := List.mem_iff_getElem.mp hx
  have e2 : at0 C k = x := at0_of (by rw [List.getElem?_eq_getElem hk, e])
  have h1 := h k (by omega)
  rw [hr k (by omega), e2] at h1
  rw [← h1]
  unfold dt
  exact xs_congr fun j hj => by rw [at0_map, if_pos hj]
end Py

set_option Elab.async false
set_option linter.all false
set_option maxRecDepth 100000
set_option maxHeartbeats 4000000
namespace Mx
open PySem PySem.Spec PyProof.Rows L2 Evl
/-! ### a class of the program -/
abbrev FnM (K : PySem.W.Frag) (C m q : Str) (st : Stmt) (fd : FuncData) : Prop := FunD K m q (defArgs st) (defBody st) (defScope st) [] [] (He.fAd K (C, some m)) fd
def OkM (P : Program) (w : World) (K : PySem.W.Frag) (mg : Str → Option Value) (base : Heap) (CX : CXT) (k : Nat) (C m q : Str) (st : Stmt) (ps : List Str) (sp : Sp) : Prop :=
  ∃ fd, FnOk P w K mg base CX k (He.fAd K (C, some m)) fd ps sp ∧ Binds K fd ps [] ∧ FnM K C m q st fd
section
variable {K : PySem.W.Frag} {σ : L2.St} {H H0 H' H1 : Hp} {ta0 : TA} {ta tb tc te tv : TE} {p q a C : Addr} {dx : Addr} {fs : List (Str × V)} {f m : Str} {x y z v : V} {r : R2} {D : Ends} {tu tz : TS} {M : List (List Nat)} {rs : List Addr} {l : List Nat} {xs ys : List V} {sp : Sp} {dvs vs : List V} {E : XK}
theorem ev_fld (h : Ev ta σ H (.ref a)) (ho : H a = some (.ins C dx fs)) (c : Cls K C) (n : NoAttr K C f) (hl : fs.lookup f = some v) : Ev (tFld K ta f) σ H v := fun H1 e Q k =>
  h H1 e _ fun H2 e2 => ⟨a, C, dx, fs, v, rfl, e2 _ _ (e _ _ ho), c, n, hl, k H2 e2⟩
theorem q_fld (h : Ev tv σ H v) (h2 : Ev ta σ H (.ref a)) (ho : H a = some (.ins C dx fs)) (c : Cls K C) (n : NoAttr K C f) (hl : fs.length < 1000) (k : ∀ H1, Ex H H1 → tz D σ (upd H1 a (.ins C dx (putF f v fs)))) : tSeq (sFld K ta tv f) tz D σ H :=
  h H (Ex.refl H) _ fun H1 e1 => h2 H1 e1 _ fun H2 e2 => ⟨a, C, dx, fs, rfl, (e1.trans e2) _ _ ho, c, n, hl, k H2 (e1.trans e2)⟩
theorem s_fldM (h : EvM tv σ H M) (h2 : Ev ta σ H (.ref a)) (ho : H a = some (.ins C dx fs)) (c : Cls K C) (n : NoAttr K C f) (hl : fs.length < 1000) (k : ∀ p H1, H p = none → Ex H H1 → MF H H1 p M → D.nx σ (upd H1 a (.ins C dx (putF f (.ref p) fs)))) : sFld K ta tv f D σ H :=
  h H (Ex.refl H) _ fun p H1 np e1 hp => h2 H1 e1 _ fun H2 e2 => ⟨a, C, dx, fs, rfl, (e1.trans e2) _ _ ho, c, n, hl, k p H2 np (e1.trans e2) (hp.up e2)⟩
theorem ev_meth (ho : Ev ta σ H (.ref a)) (hi : H a = some (.ins C dx fs)) (hm : fs.lookup m = none) (h : EvA ta0 σ H vs) (hs : SpV sp (.ref a :: (vs ++ dvs)) H z) : Ev (tMeth C m sp dvs E ta ta0) σ H z := fun H1 e Q k =>
  ho H1 e _ fun H2 e2 => ⟨a, dx, fs, rfl, e2 _ _ (e _ _ hi), hm, h H2 (e.trans e2) _ fun H3 e3 => hs H3 ((e.trans e2).trans e3) Q (fun H4 e4 => k H4 ((e2.trans e3).trans e4)) E⟩
theorem el_meth (ho : Ev ta σ H (.ref a)) (hi : H a = some (.ins C dx fs)) (hm : fs.lookup m = none) (h : EvA ta0 σ H vs) (hs : SpL sp (.ref a :: (vs ++ dvs)) H xs) : EvL (tMeth C m sp dvs E ta ta0) σ H xs := fun H1 e Q k =>
  ho H1 e _ fun H2 e2 => ⟨a, dx, fs, rfl, e2 _ _ (e _ _ hi), hm, h H2 (e.trans e2) _ fun H3 e3 => hs H3 ((e.trans e2).trans e3) Q (fun p H4 np e4 hp => k p H4 (fresh_back (e2.trans e3) np) ((e2.trans e3).trans e4) hp) E⟩
theorem em_meth (ho : Ev ta σ H (.ref a)) (hi : H a = some (.ins C dx fs)) (hm : fs.lookup m = none) (h : EvA ta0 σ H vs) (hs : SpM sp (.ref a :: (vs ++ dvs)) H M) : EvM (tMeth C m sp dvs E ta ta0) σ H M := fun H1 e Q k =>
  ho H1 e _ fun H2 e2 => ⟨a, dx, fs, rfl, e2 _ _ (e _ _ hi), hm, h H2 (e.trans e2) _ fun H3 e3 => hs H3 ((e.trans e2).trans e3) Q (fun p H4 np e4 hp => k p H4 (fresh_back (e2.trans e3) np) ((e2.trans e3).trans e4) (hp.back (e2.trans e3))) E⟩
/-- a method's call as a statement, for its checks alone -/
theorem q_dropMeth (ho : Ev ta σ H (.ref a)) (hi : H a = some (.ins C dx fs)) (hm : fs.lookup m = none) (h : EvA ta0 σ H vs) (hs : ∀ H1, Ex H H1 → sp (.ref a :: (vs ++ dvs)) H1 (fun _ H2 => tz D σ H2) E) : tSeq (tDrop (tMeth C m sp dvs E ta ta0)) tz D σ H :=
  ho H (Ex.refl H) _ fun H2 e2 => ⟨a, dx, fs, rfl, e2 _ _ hi, hm, h H2 e2 _ fun H3 e3 => hs H3 (e2.trans e3)⟩
/-- name = a new instance -/
theorem q_make {i : Nat} (h : EvA ta0 σ H vs) (hs : ∀ H1, Ex H H1 → ∀ x dx, H1 x = none → H1 dx = none → dx ≠ x → sp (.ref x :: (vs ++ dvs)) (upd (upd H1 dx (.own x)) x (.ins C dx [])) (fun v H2 => v = .non ∧ tz D (σ.set i (some (.ref x))) H2) E) : tSeq (tAsg (tMake C sp dvs E ta0) (gName i)) tz D σ H :=
  h H (Ex.refl H) _ fun H1 e1 x dx h1 h2 h3 => hs H1 e1 x dx h1 h2 h3
end
theorem pe_fldK {X : Cx} {K : PySem.W.Frag} {e : Expr} {f : Str} {ta : TE} {pos : Pos} (h : X.K = K) (he : PE X e ta) (hb : attributeBase e f X.env (eval e X.env) = eval e X.env) : PE X (.Attribute e f pos) (tFld K ta f) := h ▸ pe_fld he hb
/-! ### the code -/
/-- what stands at a code's address -/
def flds (d t : Nat) (ra : Addr) : List (Str × V) := [("data", nV d), ("total", nV t), ("_rows", .ref ra)]
def codeR (d t : Nat) : List (List Nat) := (List.range t).map fun i => (List.range d).map (Py.lag i d)
theorem codeR_mt (d t : Nat) : Py.Mt (codeR d t) t d := by
  refine ⟨by unfold codeR; simp, fun l hl => ?_, fun l hl => ?_⟩
  · obtain ⟨i, _, rfl⟩ := List.mem_map.mp hl
    simp
  · obtain ⟨i, _, rfl⟩ := List.mem_map.mp hl
    exact Py.oc_map (fun j => Py.lag_lt _ _ _) _
theorem codeR_at {d t i : Nat} (h : i < t) : Py.at1 (codeR d t) i = (List.range d).map (Py.lag i d) := Py.at1_of (Py.range_get h)
def CodeAt (K : PySem.W.Frag) (H : Hp) (p : Addr) (d t : Nat) : Prop := ∃ dx ra, H p = some (.ins (He.ga K "Code") dx (flds d t ra)) ∧ MN H ra (codeR d t)
theorem CodeAt.up {K : PySem.W.Frag} {H H' : Hp} {p : Addr} {d t : Nat} (h : CodeAt K H p d t) (e : Ex H H') : CodeAt K H' p d t := by
  obtain ⟨dx, ra, h1, h2⟩ := h
  exact ⟨dx, ra, e _ _ h1, h2.up e⟩
theorem fl_data {d t : Nat} {ra : Addr} : (flds d t ra).lookup ("data" : Str) = some (nV d) := by unfold flds; rfl
theorem fl_total {d t : Nat} {ra : Addr} : (flds d t ra).lookup ("total" : Str) = some (nV t) := by unfold flds; rfl
theorem fl_rows {d t : Nat} {ra : Addr} : (flds d t ra).lookup ("_rows" : Str) = some (.ref ra) := by unfold flds; rfl
theorem fl_no {d t : Nat} {ra : Addr} {m : Str} (h1 : (m == ("data" : Str)) = false) (h2 : (m == ("total" : Str)) = false) (h3 : (m == ("_rows" : Str)) = false) : (flds d t ra).lookup m = none := by
  unfold flds
  rw [List.lookup_cons, h1, List.lookup_cons, h2, List.lookup_cons, h3] <;> rfl
theorem fl_len2 {d t : Nat} : (putF "total" (nV t) (putF "data" (nV d) [])).length < 1000 := by
  have k1 : ¬ (("data" : Str) = "total") := by decide +kernel
  show (if ("data" : Str) = "total" then [(("data" : Str), nV t)] else (("data" : Str), nV d) :: putF "total" (nV t) []).length < 1000
  rw [if_neg k1]
  show 2 < 1000
  decide
theorem fl_put {d t : Nat} {ra : Addr} : putF "_rows" (.ref ra) (putF "total" (nV t) (putF "data" (nV d) [])) = flds d t ra := by
  have k1 : ¬ (("data" : Str) = "total") := by decide +kernel
  have k2 : ¬ (("data" : Str) = "_rows") := by decide +kernel
  have k3 : ¬ (("total" : Str) = "_rows") := by decide +kernel
  show (putF "_rows" (V.ref ra) (if ("data" : Str) = "total" then [(("data" : Str), nV t)] else (("data" : Str), nV d) :: putF "total" (nV t) [])) = flds d t ra
  rw [if_neg k1]
  show (if ("data" : Str) = "_rows" then _ else (("data" : Str), nV d) :: (if ("total" : Str) = "_rows" then _ else (("total" : Str), nV t) :: putF "_rows" (V.ref ra) [])) = flds d t ra
  rw [if_neg k2, if_neg k3] <;> rfl
section
variable {K : PySem.W.Frag} {σ : L2.St} {H H0 H' H1 : Hp} {ta tb tc te tx : TE} {t u : TT} {x y z v : V} {xs ys zs : List V} {p q : Addr} {D : Ends} {tu tw tz : TS} {M N : List (List Nat)} {rs : List Addr} {l : List Nat}
/-- the numbers of a range that pass a test -/
theorem el_fR1 {ta : TA} {j n : Nat} {vs : List Nat} {g : Nat → Bool} {f : Nat → Nat} (h : EvA ta σ H [.int (n : Int)]) (hn : n ≤ 10000) (hw : ∀ x, wipe ((wipe σ vs).set j (some x)) vs = wipe σ vs)
    (ht : ∀ (i : Nat) H1, Ex H H1 → i < n → EvT t ((wipe σ vs).set j (some (nV i))) H1 (g i)) (he : ∀ (i : Nat) H1, Ex H H1 → i < n → Ev te ((wipe σ vs).set j (some (nV i))) H1 (nV (f i))) :
    EvL (tLc (iRng1 ta) (gName j) t te vs) σ H ((((List.range n).filter g).map f).map nV) := fun H0 e Q q => h H0 e _ fun H1 e1 => ⟨(n : Int), rfl, by omega, by omega, fun Dl hD =>
  lc_range (lo := 0) (n := (n : Int).toNat) (Cw H1 (fun i => g i) (fun i => nV (f i)) Dl) ⟨hD, Ex.new hD, upd_same⟩ (fun i H' hi p => by
    have e0 : (0 : Int) + (i : Int) = (i : Int) := Int.zero_add _
    show wipe ((wipe σ vs).set j (some (.int ((0 : Int) + (i : Int))))) vs = wipe σ vs ∧ t ((wipe σ vs).set j (some (.int ((0 : Int) + (i : Int))))) H' fun b H3 => if b = true then te ((wipe σ vs).set j (some (.int ((0 : Int) + (i : Int))))) H3 fun y H4 => ∃ acc, H4 Dl = some (.lst acc) ∧ acc.length < sizeLine ∧ Cw H1 (fun i => g i) (fun i => nV (f i)) Dl (i + 1) (upd H4 Dl (.lst (acc ++ [y]))) else Cw H1 (fun i => g i) (fun i => nV (f i)) Dl (i + 1) H3
    rw [e0]
    exact ⟨hw _, cw_turn p (by omega) (ht i H1 (e.trans e1) (by omega)) (fun _ => he i H1 (e.trans e1) (by omega))⟩) (fun H' p => by
      refine q Dl H' (fresh_back e1 p.1) (e1.trans p.2.1) ?_
      rw [p.2.2]
      have e2 : (n : Int).toNat = n := Int.toNat_natCast n
      rw [e2]
      unfold Evl.given
      rw [List.map_map]
      rfl)⟩
/-- the least, the greatest number of a list -/
theorem ev_minE {s : Nat} (ha : Ev ta σ H (.ref p)) (h : LN H p l) (h0 : 0 < l.length) (hs : ∀ x ∈ l, x = s) : Ev (tCB (rMin K) (tCons ta tNil)) σ H (nV s) := fun H1 e Q k =>
  ha H1 e _ fun H2 e2 => ⟨p, l.map fun n : Nat => (n : Int), rfl, by
    have := sq_of (K := K) (h.up (e.trans e2))
    rw [List.map_map]
    exact this, by rw [List.length_map]; exact h0, fun m hm _ => by
      obtain ⟨n, hn, e3⟩ := List.mem_map.mp hm
      rw [hs n hn] at e3
      rw [← e3]
      exact k H2 e2⟩
theorem ev_maxE {s : Nat} (ha : Ev ta σ H (.ref p)) (h : LN H p l) (h0 : 0 < l.length) (hs : ∀ x ∈ l, x = s) : Ev (tCB (rMax K) (tCons ta tNil)) σ H (nV s) := fun H1 e Q k =>
  ha H1 e _ fun H2 e2 => ⟨p, l.map fun n : Nat => (n : Int), rfl, by
    have := sq_of (K := K) (h.up (e.trans e2))
    rw [List.map_map]
    exact this, by rw [List.length_map]; exact h0, fun m hm _ => by
      obtain ⟨n, hn, e3⟩ := List.mem_map.mp hm
      rw [hs n hn] at e3
      rw [← e3]
      exact k H2 e2⟩
theorem cr_minK {X : Cx} (h : X.K = K) (hc : X.calm = true) : CallR X (.builtin "min") (rMin K) := h ▸ cr_min hc
theorem cr_maxK {X : Cx} (h : X.K = K) (hc : X.calm = true) : CallR X (.builtin "max") (rMax K) := h ▸ cr_max hc
end
section
variable {K : PySem.W.Frag} {σ : L2.St} {H H0 H' H1 : Hp} {ta0 : TA} {ta tb tc te tv : TE} {p q a C : Addr} {dx : Addr} {fs : List (Str × V)} {f : Str} {D : Ends} {tu tz : TS} {M : List (List Nat)} {rs : List Addr} {l : List Nat} {xs : List V} {vs : List V} {z : V}
def RetMN (M : List (List Nat)) (H : Hp) (Q : VK) : Prop := ∀ p H', H p = none → Ex H H' → MN H' p M → Q (.ref p) H'
theorem s_fldC {sp : Sp} {E : XK} (h : EvA ta0 σ H vs) (hs : ∀ H1, Ex H H1 → ∀ Q : VK, RetMN M H1 Q → sp (vs ++ []) H1 Q E) (h2 : Ev ta σ H (.ref a)) (ho : H a = some (.ins C dx fs)) (c : Cls K C) (n : NoAttr K C f) (hl : fs.length < 1000) (k : ∀ p H1, H p = none → Ex H H1 → MN H1 p M → D.nx σ (upd H1 a (.ins C dx (putF f (.ref p) fs)))) : sFld K ta (tCall sp [] E ta0) f D σ H :=
  h H (Ex.refl H) _ fun H1 e1 => hs H1 e1 _ fun p H2 np e2 hp => h2 H2 (e1.trans e2) _ fun H3 e3 => ⟨a, C, dx, fs, rfl, ((e1.trans e2).trans e3) _ _ ho, c, n, hl, k p H3 (fresh_back e1 np) ((e1.trans e2).trans e3) (hp.up e3)⟩
theorem mn_app {rs : List Addr} {a : Addr} (h1 : H p = some (.lst (rs.map V.ref))) (h2 : LR H rs M) (ha : LN H a l) (hl : 0 < l.length) (hM : ∀ m ∈ M, 0 < m.length) : MN (upd H p (.lst (rs.map V.ref ++ [.ref a]))) p (M ++ [l]) := by
  refine ⟨rs ++ [a], by rw [upd_same, List.map_append] <;> rfl, Paired.snoc (lr_upd2 h1 h2 hM) ?_⟩
  show upd H p _ a = _
  rw [upd_ne (row_ne h1 ha hl)]
  exact ha
theorem codeR_unit (d : Nat) : Py.unit d = codeR d d := Py.mat_ext (Py.unit_mt d) (codeR_mt d d) fun i hi j hj => by
  rw [Py.unit_at hi hj]
  show _ = Py.at0 (Py.at1 (codeR d d) i) j
  rw [codeR_at hi, Py.at0_map, if_pos hj, Py.lag_unit hi]
theorem codeR_succ (d t : Nat) : codeR d (t + 1) = codeR d t ++ [(List.range d).map (Py.lag t d)] := by
  unfold codeR
  rw [List.range_succ, List.map_append] <;> rfl
end
end Mx

set_option Elab.async false
set_option linter.all false
set_option maxRecDepth 100000
set_option maxHeartbeats 4000000
namespace Mx
open PySem PySem.Spec PyProof.Rows L2 Evl
/-! ### list(d.values()) -/
def tListV (td : TE) : TE := fun σ H Q => td σ H fun x H1 => ∃ (d : Addr) (kvs : List (Key × V)), x = .ref d ∧ Rd H1 d (.dK kvs) ∧ ∀ l, H1 l = none → Q (.ref l) (upd H1 l (.lst (kvs.map (·.2))))
theorem kv_vals : ∀ {kvs : List (Key × V)} {vs : List (Key × Value)}, KV kvs vs → Vals (kvs.map (·.2)) (vs.map (·.2))
  | _, _, .nil => .nil
  | _, _, .cons h t => .cons h.2 (kv_vals t)
theorem pe_listVals {X : Cx} {e : Expr} {td : TE} {p apos cpos pos : Pos} (hg : Gl X "list") (hm : X.mg "list" = none) (hc : X.calm = true) (he : PE X e td)
    (hbase : attributeBase e "values" X.env (eval e X.env) = eval e X.env := by rfl) (hline : (apos.endLine == cpos.line) = true := by rfl)
    (hst : starEach [.Call (.Attribute e "values" apos) [] [] cpos] X.env = (false, eval (.Call (.Attribute e "values" apos) [] [] cpos) X.env) :: starEach [] X.env := by rfl) :
    PE X (.Call (.Name "list" p) [.Call (.Attribute e "values" apos) [] [] cpos] [] pos) (tListV td) := by
  refine ⟨fun pins s σ H Q I h => ?_⟩
  refine wpAny_Call_Name_kw (ld_blt (u := .type "list") I hg hm (by decide +kernel) ?_ (by decide) (by decide))
  refine PyProof.Rows.callWith_type1 ?_ hst (by rfl)
  rw [hst]
  show wpAny _ _ (spliced ((false, eval (.Call (.Attribute e "values" apos) [] [] cpos) X.env) :: backTo pos (starEach [] X.env))) _ _ s
  refine Calls.spliced_cons (wpAny_Call_method (T := "dict") (id := "dict.values") hbase rfl hline F.plainAttrs_dict F.slot_dict_values F.type_dict_values (thn (he.run pins s σ H _ I h) fun u s1 ⟨x, H1, I1, rx, d, kvs, ex, hd, q⟩ => ?_))
  subst ex
  obtain rfl : u = Value.ref d := rx
  obtain ⟨z, lo, vs, rel, dd⟩ := dk_rd I1.hok hd
  obtain ⟨ep, hat⟩ := dd.dictAt
  have hl : kvs.length = vs.length := Paired.length rel
  refine ⟨hat.dictOf.typeIs, hat.dictOf.mapOf.noDict, ?_⟩
  have I2 : Inv X pins σ H1 { s1 with heap := s1.heap.push { cls := .type "dict_values", data := .fields #[.ref d] } } := I1.kept (t' := s1.toks) fun b ob q => Heap.get?_push_of_some _ q
  show wpAny _ _ (callWith cpos (.builtin "dict.values") [.ref d] [] []) _ X.xe s1
  refine method_meetsIn F.slot_dict_values F.entry_dict_values rfl (PySem.evalArgs_none ⟨rfl, hat.dictOf.typeIs, F.args_dict_values_1 _, _, meets_dict_values (mixKind X.prog X.w) d lo, ⟨vs, hat.dictOf⟩, ?_⟩)
  refine Calls.spliced_nil ?_
  refine PySem.W.kdl_call (PySem.W.kdl_values (r := s1.heap.objs.size) (d := d) (knd := mixKind X.prog X.w) (kvs := vs) (ep := ep)) (I.ok.hd hc) ⟨⟨_, Heap.get?_push_size _ rfl, rfl, rfl⟩, hat.push _⟩ (by rw [← hl]; exact z) fun h' tk acc c' hk hD hacc => ?_
  have ea : acc.toList = vs.map (·.2) := PySem.W.kdl_vals_eq acc.toList (by rw [Array.length_toList]; exact hacc.1) fun j v e => hacc.2 j v (by rw [← Array.getElem?_toList]; exact e)
  refine ⟨.ref _, upd H1 _ (.lst (kvs.map (·.2))), I2.laid (t' := tk) hk (Nat.le_refl _)
    (show ObjOk X.prog X.w _ _ _ (.lst (kvs.map (·.2))) from ⟨by rw [List.length_map]; exact z, acc.toList, c', by rw [ea]; exact kv_vals rel, by rw [Array.toArray_toList]; exact hD⟩), rfl, q _ (I2.hok.fresh (Nat.le_refl _))⟩
/-! ### pieces: a dict from numbers to lists of numbers -/
def pk (S : List Nat) (rs : List Addr) : List (Key × V) := List.zipWith (fun (i : Nat) (r : Addr) => ((Sum.inl (i : Int) : Key), V.ref r)) S rs
def PcAt (H : Hp) (d : Addr) (S : List Nat) (W : List (List Nat)) : Prop := ∃ rs, H d = some (.dK (pk S rs)) ∧ LR H rs (S.map (Py.at1 W))
section
variable {K : PySem.W.Frag} {σ : L2.St} {H H0 H' H1 : Hp} {ta tb tc te td tn : TE} {t u : TT} {x y z v : V} {xs ys zs : List V} {p q d : Addr} {D : Ends} {tu tw tz : TS} {M N W : List (List Nat)} {rs : List Addr} {l S : List Nat} {kvs : List (Key × V)}
theorem PcAt.up (h : PcAt H d S W) (e : Ex H H') : PcAt H' d S W := by
  obtain ⟨rs, h1, h2⟩ := h
  exact ⟨rs, e _ _ h1, h2.mono e⟩
theorem pk_len (h : rs.length = S.length) : (pk S rs).length = S.length := by
  unfold pk
  rw [List.length_zipWith, h, Nat.min_self]
theorem pk_cons (s : Nat) (S : List Nat) (r : Addr) (rs : List Addr) : pk (s :: S) (r :: rs) = ((Sum.inl (s : Int) : Key), V.ref r) :: pk S rs := by
  unfold pk
  rw [List.zipWith_cons_cons]
theorem pk_keys : ∀ {S : List Nat} {rs : List Addr}, rs.length = S.length → (pk S rs).map (·.1) = (S.map fun n : Nat => (n : Int)).map Sum.inl
  | [], [], _ => rfl
  | i :: S, r :: rs, h => by
    rw [pk_cons, List.map_cons, pk_keys (by simpa using h)] <;> rfl
  | [], _ :: _, h => by simp at h
  | _ :: _, [], h => by simp at h
theorem pk_vals : ∀ {S : List Nat} {rs : List Addr}, rs.length = S.length → (pk S rs).map (·.2) = rs.map V.ref
  | [], [], _ => rfl
  | i :: S, r :: rs, h => by
    rw [pk_cons, List.map_cons, pk_vals (by simpa using h)] <;> rfl
  | [], _ :: _, h => by simp at h
  | _ :: _, [], h => by simp at h
theorem pk_at : ∀ {S : List Nat} {rs : List Addr} {i : Nat} {k : Key} {v : V}, (pk S rs)[i]? = some (k, v) → ∃ n, S[i]? = some n ∧ k = Sum.inl (n : Int)
  | [], rs, i, k, v, h => by
    rw [show pk [] rs = [] by unfold pk; rfl] at h
    cases i <;> cases h
  | s :: S, [], i, k, v, h => by
    rw [show pk (s :: S) [] = [] by unfold pk; rfl] at h
    cases i <;> cases h
  | s :: S, r :: rs, 0, k, v, h => by
    rw [pk_cons] at h
    have e : ((Sum.inl (s : Int) : Key), V.ref r) = (k, v) := Option.some.inj h
    exact ⟨s, rfl, (congrArg Prod.fst e).symm⟩
  | s :: S, r :: rs, i + 1, k, v, h => by
    rw [pk_cons] at h
    exact pk_at (S := S) (rs := rs) (i := i) h
theorem pk_get : ∀ {S : List Nat} {rs : List Addr} {i : Nat}, LR H rs (S.map (Py.at1 W)) → i ∈ S → ∃ r, valV (pk S rs) (Sum.inl (i : Int)) = some (.ref r) ∧ LN H r (Py.at1 W i)
  | [], _, _, _, h => absurd h List.not_mem_nil
  | s :: S, r :: rs, i, .cons h1 t, h => by
    by_cases q : s = i
    · subst q
      refine ⟨r, ?_, h1⟩
      unfold valV pk
      rw [List.zipWith_cons_cons, List.find?_cons, decide_eq_true rfl] <;> rfl
    · obtain ⟨r2, e1, e2⟩ := pk_get t ((List.mem_cons.mp h).resolve_left fun z => q z.symm)
      refine ⟨r2, ?_, e2⟩
      have n : ¬ ((Sum.inl (s : Int) : Key) = Sum.inl (i : Int)) := fun z => q (Int.ofNat.inj (Sum.inl.inj z))
      unfold valV pk at e1 ⊢
      rw [List.zipWith_cons_cons, List.find?_cons, decide_eq_false n]
      exact e1
theorem ev_dget (ha : Ev td σ H (.ref d)) (hb : Ev tb σ H y) (h : ∀ H1, Ex H H1 → DGet H1 d y (some v)) : Ev (tDGet td tb) σ H v := fun H1 e Q k =>
  ha H1 e _ fun H2 e2 => hb H2 (e.trans e2) _ fun H3 e3 => ⟨d, v, rfl, h H3 ((e.trans e2).trans e3), k H3 (e2.trans e3)⟩
theorem rd_up {u : HO} (h : Rd H d u) (e : Ex H H1) : Rd H1 d u := h.imp (fun h => e _ _ h) fun ⟨o, h⟩ => ⟨o, e _ _ h⟩
theorem dget_pc {i : Nat} {r : Addr} {kvs : List (Key × V)} (h : Rd H d (.dK kvs)) (hv : valV kvs (Sum.inl (i : Int)) = some (.ref r)) : DGet H d (nV i) (some (.ref r)) := .inl ⟨kvs, Sum.inl (i : Int), h, rfl, hv.symm⟩
theorem xd_ln (x : Xb d H H1) (hd : H d = some (.dK kvs)) (h : LN H p l) : LN H1 p l := x _ _ (fun z => by rw [z, LN, hd] at h; cases h) h
theorem xd_lr (x : Xb d H H1) (hd : H d = some (.dK kvs)) : ∀ {rs : List Addr} {M : List (List Nat)}, LR H rs M → LR H1 rs M
  | _, _, .nil => .nil
  | _, _, .cons h t => .cons (xd_ln x hd h) (xd_lr x hd t)
theorem xd_mn (x : Xb d H H1) (hd : H d = some (.dK kvs)) (h : MN H p M) : MN H1 p M := by
  obtain ⟨rs, h1, h2⟩ := h
  exact ⟨rs, x _ _ (fun z => by rw [z, hd] at h1; cases h1) h1, xd_lr x hd h2⟩
theorem xd_code {a b : Nat} (x : Xb d H H1) (hd : H d = some (.dK kvs)) (h : CodeAt K H p a b) : CodeAt K H1 p a b := by
  obtain ⟨dx, ra, h1, h2⟩ := h
  exact ⟨dx, ra, x _ _ (fun z => by rw [z, hd] at h1; cases h1) h1, xd_mn x hd h2⟩
theorem xb_lock {o : HO} : Xb d H (upd H d o) := fun a u h1 h => by
  rw [upd_ne h1]
  exact h
/-- for k in d: .., d stays as it is -/
theorem q_forKeys {j : Nat} (hd : H d = some (.dK kvs)) (hv : ∀ H1, Ev td σ H1 (.ref d)) (Pv : Obj → Nat → L2.St → Hp → Prop) (h0 : ∀ od H1, Ex (upd H d (.frz od (.dK kvs))) H1 → Pv od 0 σ H1) (hl : ∀ od i σ' H', Pv od i σ' H' → H' d = some (.frz od (.dK kvs)))
    (hs : ∀ od (D2 : Ends) i k v σ' H', kvs[i]? = some (k, v) → Pv od i σ' H' → tu { D2 with nx := Pv od (i + 1), ct := Pv od (i + 1) } (σ'.set j (some (kV k))) H') (hk : ∀ od σ' H', Pv od kvs.length σ' H' → tz D σ' (upd H' d (.dK kvs))) : tSeq (tLock (tFor (iKeys td) (gName j) tu)) tz D σ H := by
  refine ⟨d, .dK kvs, hd, trivial, fun od => ?_⟩
  refine hv _ _ (Ex.refl _) _ fun H1 e1 => ⟨d, od, rfl, .inl ⟨kvs, e1 _ _ upd_same, ?_⟩⟩
  refine for_it (walk_keys (kvs := kvs)) (Pv od) (h0 od H1 e1) (fun i σ' H' _ p => hl od i σ' H' p) (fun i v σ' H' H2 hi p yy => ?_) fun σ' H' p => ⟨hl od _ _ _ p, hk od σ' H' p⟩
  obtain ⟨rfl, k, w, hkv, rfl⟩ := yy
  exact hs od ⟨fun _ _ => False, _, _, fun _ _ => False⟩ i k w σ' _ hkv p
/-- a comprehension over the keys, d stays as it is -/
theorem el_keys {j : Nat} {vs : List Nat} (hd : H d = some (.dK kvs)) (hv : ∀ H1, Ev td σ H1 (.ref d)) (hz : zs.length = kvs.length) (hn : kvs.length ≤ 40000) (hw : ∀ x, wipe ((wipe σ vs).set j (some x)) vs = wipe σ vs)
    (he : ∀ (i : Nat) (k : Key) (v z : V) od H1, Xb d H H1 → H1 d = some (.frz od (.dK kvs)) → kvs[i]? = some (k, v) → zs[i]? = some z → Ev te ((wipe σ vs).set j (some (kV k))) H1 z) : EvL (tLockE (tLc (iKeys td) (gName j) tYes te vs)) σ H zs := fun H0 e Q q => by
  refine ⟨d, .dK kvs, e _ _ hd, trivial, fun od => ?_⟩
  refine hv _ _ (Ex.refl _) _ fun H1 e1 => ⟨d, od, rfl, .inl ⟨kvs, e1 _ _ upd_same, fun Dl hD => ?_⟩⟩
  have d1 : H1 d = some (.frz od (.dK kvs)) := e1 _ _ upd_same
  have x1 : Xb d H H1 := fun a u ha hu => e1 _ _ (by rw [upd_ne ha]; exact e _ _ hu)
  refine lc_it (walk_keys (kvs := kvs)) (Cz H1 zs Dl) ⟨hD, Ex.new hD, by rw [upd_same, List.take_zero]⟩ (fun i H' _ p => p.2.1 _ _ d1) (fun i v H' H2 hi p yy => ?_) (fun H' p => ?_)
  · obtain ⟨rfl, k, w, hkv, rfl⟩ := yy
    exact ⟨hw _, cz_turn p (List.getElem?_eq_getElem (by omega)) (by omega) (he i k w _ od H1 x1 d1 hkv (List.getElem?_eq_getElem (by omega)))⟩
  · obtain ⟨p1, p2, p3⟩ := p
    have nDl : Dl ≠ d := (ne_of_none d1 p1).symm
    refine ⟨p2 _ _ d1, q Dl (upd H' d (.dK kvs)) ?_ (fun a u hu => ?_) ?_⟩
    · cases h : H0 Dl with
      | none => rfl
      | some u =>
        have := e1 Dl u (by rw [upd_ne nDl]; exact h)
        rw [p1] at this
        cases this
    · by_cases ha : a = d
      · rw [ha, upd_same]
        rw [ha, e _ _ hd] at hu
        exact hu
      · rw [upd_ne ha]
        exact p2 _ _ (e1 _ _ (by rw [upd_ne ha]; exact hu))
    · rw [upd_ne nDl, p3, List.take_of_length_le (by omega)]
/-! ### some list of which one thing is known -/
def EvSo (te : TE) (σ : L2.St) (H : Hp) (G : List V → Prop) : Prop := ∀ H1, Ex H H1 → ∀ Q : VK, (∀ xs p H2, G xs → H1 p = none → Ex H1 H2 → H2 p = some (.lst xs) → Q (.ref p) H2) → te σ H1 Q
def rSrtD : List V → Hp → VK → Prop := fun xs H Q => ∃ (a : Addr) (kvs : List (Key × V)) (ks : List Int), xs = [.ref a] ∧ Rd H a (.dK kvs) ∧ kvs.map (·.1) = ks.map Sum.inl ∧ ks.length < 64 ∧ ∀ (ys : List Int) (p : Addr), ys.Perm ks → ys.Pairwise (· ≤ ·) → H p = none → Q (.ref p) (upd H p (.lst (ys.map V.int)))
theorem call_srtD {X : Cx} (hc : X.calm = true) : CallR X (.builtin "sorted") rSrtD := call_sortedDI hc
theorem eso_sorted {ks : List Int} (h : Ev ta σ H (.ref d)) (hd : Rd H d (.dK kvs)) (hk : kvs.map (·.1) = ks.map Sum.inl) (hl : ks.length < 64) : EvSo (tCB rSrtD (tCons ta tNil)) σ H (fun xs => ∃ ys : List Int, xs = ys.map V.int ∧ ys.Perm ks ∧ ys.Pairwise (· ≤ ·)) := fun H1 e Q k =>
  h H1 e _ fun H2 e2 => ⟨d, kvs, ks, rfl, rd_up hd (e.trans e2), hk, hl, fun ys p h1 h2 np => k _ p _ ⟨ys, rfl, h1, h2⟩ (fresh_back e2 np) (e2.trans (Ex.new np)) upd_same⟩
theorem eso_front {G : List V → Prop} {n : Nat} {th : TO} (h : EvSo te σ H G) (h2 : EvO th σ H (some (n : Int))) : EvSo (tSl (rSlL K) te tNoPart th) σ H (fun xs => ∃ ys, G ys ∧ xs = cutV ys none (some (n : Int))) := fun H1 e Q k =>
  h H1 e _ fun ys p H2 g np e2 hp => el_sl (te := fun _ H Q => Q (.ref p) H) (K := K) (fun H3 e3 Q3 k3 => k3 H3 (Ex.refl _)) eo_none (fun H3 e3 Q3 k3 => h2 H3 ((e.trans e2).trans e3) Q3 k3) (sq_of hp) H2 (Ex.refl _) Q fun q H3 nq e3 hq => k _ q H3 ⟨ys, g, rfl⟩ (fresh_back e2 nq) (e2.trans e3) hq
theorem q_asgSo {i : Nat} {G : List V → Prop} (h : EvSo te σ H G) (k : ∀ xs p H1, G xs → H p = none → Ex H H1 → H1 p = some (.lst xs) → tz D (σ.set i (some (.ref p))) H1) : tSeq (tAsg te (gName i)) tz D σ H := h H (Ex.refl H) _ k
theorem el_vals (h : Ev td σ H (.ref d)) (hd : Rd H d (.dK kvs)) : EvL (tListV td) σ H (kvs.map (·.2)) := fun H1 e Q k =>
  h H1 e _ fun H2 e2 => ⟨d, kvs, rfl, rd_up hd (e.trans e2), fun l hl => k l _ (fresh_back e2 hl) (e2.trans (Ex.new hl)) upd_same⟩
def rLenD : List V → Hp → VK → Prop := fun xs H Q => ∃ (a : Addr) (kvs : List (Key × V)), xs = [.ref a] ∧ Rd H a (.dK kvs) ∧ Q (.int kvs.length) H
theorem cr_lenD {X : Cx} : CallR X (.builtin "len") rLenD := by
  intro pins s σ H vs us Q I r h
  obtain ⟨a, kvs, rfl, hd, q⟩ := h
  obtain ⟨u, rfl, rx⟩ := vals1 r
  cases rx
  exact d_len I hd fun t s' I' => ⟨.int _, H, I', ⟨t, rfl⟩, q⟩
theorem ev_lenD (h : Ev ta σ H (.ref d)) (hd : Rd H d (.dK kvs)) : Ev (tCB rLenD (tCons ta tNil)) σ H (.int (kvs.length : Int)) := fun H1 e Q k =>
  h H1 e _ fun H2 e2 => ⟨d, kvs, rfl, rd_up hd (e.trans e2), k H2 e2⟩
end
theorem ex_unlock {d : Addr} {kvs : List (Key × V)} {H H' : Hp} (x : Xb d H H') (hd : H d = some (.dK kvs)) : Ex H (upd H' d (.dK kvs)) := fun a u hu => by
  by_cases ha : a = d
  · rw [ha, upd_same]
    rw [ha, hd] at hu
    exact hu
  · rw [upd_ne ha]
    exact x _ _ ha hu
/-- sorted keys, told as numbers -/
theorem srt_nat {S : List Nat} {ys : List Int} (hp : ys.Perm (S.map fun n : Nat => (n : Int))) (hs : ys.Pairwise (· ≤ ·)) (hn : S.Nodup) : ∃ T : List Nat, ys = T.map (fun n : Nat => (n : Int)) ∧ T.Perm S ∧ ∀ i j, i < j → j < T.length → Py.at0 T i < Py.at0 T j := by
  have e : ys = (ys.map Int.toNat).map (fun n : Nat => (n : Int)) := by
    rw [List.map_map]
    refine (List.map_id' (α := Int) ys).symm.trans (List.map_congr_left fun y hy => ?_)
    obtain ⟨n, _, rfl⟩ := List.mem_map.mp (hp.mem_iff.mp hy)
    rfl
  have hT : (ys.map Int.toNat).Perm S := by
    have h1 := hp.map Int.toNat
    rw [List.map_map] at h1
    have h2 : (S.map (Int.toNat ∘ fun n : Nat => (n : Int))) = S := by
      refine (List.map_congr_left fun n _ => ?_).trans (List.map_id' S)
      rfl
    rw [h2] at h1
    exact h1
  obtain ⟨T, hTe⟩ : ∃ T, ys.map Int.toNat = T := ⟨_, rfl⟩
  rw [hTe] at e hT
  refine ⟨T, e, hT, fun i j hij hj => ?_⟩
  have nd := hT.nodup_iff.mpr hn
  have hi' : i < T.length := by omega
  have hle : Py.at0 T i ≤ Py.at0 T j := by
    rw [e] at hs
    have h0 := List.pairwise_iff_getElem.mp hs i j (by rw [List.length_map]; exact hi') (by rw [List.length_map]; exact hj) hij
    rw [List.getElem_map, List.getElem_map] at h0
    rw [Py.at0_of (List.getElem?_eq_getElem hi'), Py.at0_of (List.getElem?_eq_getElem hj)]
    exact Int.ofNat_le.mp h0
  have hne : ¬ Py.at0 T i = Py.at0 T j := by
    rw [Py.at0_of (List.getElem?_eq_getElem hi'), Py.at0_of (List.getElem?_eq_getElem hj)]
    exact List.pairwise_iff_getElem.mp nd i j hi' hj hij
  omega
theorem em_call1L {σ : L2.St} {H : Hp} {ta : TE} {xs : List V} {M : List (List Nat)} {sp : Sp} {E : XK} (h : EvL ta σ H xs) (hs : ∀ q H1, Ex H H1 → H1 q = some (.lst xs) → SpM sp ([.ref q] ++ []) H1 M) : EvM (tCall sp [] E (tCons ta tNil)) σ H M := fun H1 e Q k =>
  h H1 e _ fun q H2 nq e2 hq => hs q H2 (e.trans e2) hq H2 (Ex.refl _) Q (fun p H3 np e3 h3 => k p H3 (fresh_back e2 np) (e2.trans e3) (h3.back e2)) E
/-- a method with a new matrix and a number -/
theorem el_methML {σ : L2.St} {H : Hp} {ta tb tc : TE} {a C dx : Addr} {fs : List (Str × V)} {m : Str} {y : V} {xs : List V} {M : List (List Nat)} {sp : Sp} {E : XK} (ho : Ev ta σ H (.ref a)) (hi : H a = some (.ins C dx fs)) (hm : fs.lookup m = none) (h1 : EvM tb σ H M) (h2 : ∀ H1, Ex H H1 → Ev tc σ H1 y)
    (hs : ∀ q H1, Ex H H1 → MN H1 q M → SpL sp (.ref a :: ([.ref q, y] ++ [])) H1 xs) : EvL (tMeth C m sp [] E ta (tCons tb (tCons tc tNil))) σ H xs := fun H1 e Q k =>
  ho H1 e _ fun H2 e2 => ⟨a, dx, fs, rfl, (e.trans e2) _ _ hi, hm, h1 H2 (e.trans e2) _ fun q H3 nq e3 hq => h2 H3 ((e.trans e2).trans e3) H3 (Ex.refl _) _ fun H4 e4 => hs q H4 (((e.trans e2).trans e3).trans e4) (hq.mn.up e4) H4 (Ex.refl _) Q (fun p H5 np e5 hp => k p H5 (fresh_back ((e2.trans e3).trans e4) np) (((e2.trans e3).trans e4).trans e5) hp) E⟩
section
variable {K : PySem.W.Frag} {σ : L2.St} {H H0 H' H1 : Hp} {ta tb tc te td : TE} {x y z v : V} {xs ys zs : List V} {p q d a b : Addr} {D : Ends} {tu tw tz : TS} {l : List Nat}
theorem q_tup2 {i j : Nat} (h : EvU te σ H [x, y]) (k : ∀ H1, Ex H H1 → tz D ((σ.set i (some x)).set j (some y)) H1) : tSeq (tAsg te (gTup K 2 (gCons (gName i) (gCons (gName j) gNil)))) tz D σ H :=
  h H (Ex.refl H) _ fun t H1 nt e1 ht => ⟨t, [x, y], rfl, st_of ht, rfl, x, [y], rfl, y, [], rfl, rfl, k H1 e1⟩
theorem el_listRg {n : Nat} (h : Ev ta σ H (.int (n : Int))) (hn : n ≤ 10000) : EvL (tLstRg (tRg1 ta)) σ H ((List.range n).map nV) := fun H1 e Q k =>
  h H1 e _ fun H2 e2 => ⟨(n : Int), rfl, .of_le (by omega) (by omega) (by omega) (by omega), fun q nq => k q _ (fresh_back e2 nq) (e2.trans (Ex.new nq)) (by
    rw [upd_same]
    have e0 : rgV 0 (n : Int) = (List.range n).map nV := by
      unfold rgV
      rw [show ((n : Int) - 0).toNat = n by omega]
      refine List.map_congr_left fun i _ => ?_
      show V.int (0 + (i : Int)) = V.int (i : Int)
      rw [Int.zero_add]
    rw [e0])⟩
/-- xs.append(ys.pop(i)) -/
theorem s_appPop {C L : List Nat} {i : Nat} (ha : Ev ta σ H (.ref a)) (hb : ∀ H1, Ex H H1 → Ev tb σ H1 (.ref b)) (hi : ∀ H1, Ex H H1 → Ev tc σ H1 (nV i)) (hC : LN H a C) (hL : LN H b L) (hab : a ≠ b) (hil : i < L.length) (hz : C.length < 10000 ∧ L.length < 10000)
    (k : ∀ H1, Ex H H1 → D.nx σ (upd (upd H1 b (.lst ((L.eraseIdx i).map nV))) a (.lst ((C ++ [Py.at0 L i]).map nV)))) : tDrop (tBM K "list" rAppend ta (tCons (tBM K "list" rPopAt tb (tCons tc tNil)) tNil)) D σ H :=
  ha H (Ex.refl H) _ fun H1 e1 => ⟨Or.inl ⟨rfl, _, sq_of (hC.up e1)⟩, hb H1 e1 _ (Ex.refl _) _ fun H2 e2 => ⟨Or.inl ⟨rfl, _, sq_of ((hL.up e1).up e2)⟩, hi H2 (e1.trans e2) H2 (Ex.refl _) _ fun H3 e3 => by
    have e := (e1.trans e2).trans e3
    refine ⟨b, L.map nV, (i : Int), i, nV (Py.at0 L i), rfl, rfl, hL.up e, by omega, by omega, ?_, nat_get hil, ?_⟩
    · rw [seqIndex_of (by omega) (by rw [len_map]; omega)] <;> rfl
    · refine ⟨a, C.map nV, nV (Py.at0 L i), rfl, rfl, by rw [upd_ne hab]; exact hC.up e, sz_lt (by rw [len_map]; omega), ?_⟩
      have h1 : (L.map nV).eraseIdx i = (L.eraseIdx i).map nV := by rw [List.eraseIdx_eq_take_drop_succ, List.eraseIdx_eq_take_drop_succ, List.map_append, List.map_take, List.map_drop]
      rw [h1]
      have := k H3 e
      rw [List.map_append] at this
      exact this⟩⟩
end
theorem pop_perm {L : List Nat} {i : Nat} (h : i < L.length) : (Py.at0 L i :: L.eraseIdx i).Perm L := by
  have e : L.take i ++ Py.at0 L i :: L.drop (i + 1) = L := by
    have h1 := List.take_append_drop i L
    rw [List.drop_eq_getElem_cons h] at h1
    rw [Py.at0_of (List.getElem?_eq_getElem h)]
    exact h1
  rw [List.eraseIdx_eq_take_drop_succ]
  have h2 : (L.take i ++ Py.at0 L i :: L.drop (i + 1)).Perm (Py.at0 L i :: (L.take i ++ L.drop (i + 1))) := List.perm_middle
  rw [e] at h2
  exact h2.symm
/-- `is not True` of a bool -/
def rNotTrue : R2 := fun x y H Q => ∃ b : Bool, x = .bl b ∧ y = .bl true ∧ Q (.bl (!b)) H
theorem op_notTrue {X : Cx} : OpR X (compareOp .IsNot) rNotTrue := by
  intro pins s σ H x y v u Q I rx ry h
  obtain ⟨b, rfl, rfl, q⟩ := h
  cases rx
  cases ry
  refine wpAny_isNot_plain (by cases b <;> rfl) ⟨.bl (!b), H, I, ?_, q⟩
  cases b <;> rfl
theorem rv_notTrue {H : Hp} {b : Bool} : RV rNotTrue (.bl b) (.bl true) H (.bl (!b)) := fun H1 e Q k => ⟨b, rfl, rfl, k H1 (Ex.refl _)⟩
section
variable {K : PySem.W.Frag} {σ : L2.St} {H H0 H' H1 : Hp} {ta0 : TA} {ta tb tc te td : TE} {x y z v : V} {xs ys zs : List V} {p q d a b C dx : Addr} {fs : List (Str × V)} {m : Str} {D : Ends} {tu tw tz : TS} {l : List Nat} {M : List (List Nat)} {sp : Sp} {E : XK}
theorem s_tup2 {i j : Nat} (h : EvU te σ H [x, y]) (k : ∀ H1, Ex H H1 → D.nx ((σ.set i (some x)).set j (some y)) H1) : tAsg te (gTup K 2 (gCons (gName i) (gCons (gName j) gNil))) D σ H :=
  h H (Ex.refl H) _ fun t H1 nt e1 ht => ⟨t, [x, y], rfl, st_of ht, rfl, x, [y], rfl, y, [], rfl, rfl, k H1 e1⟩
theorem s_tup3 {i j l : Nat} (h : EvU te σ H [x, y, z]) (k : ∀ H1, Ex H H1 → D.nx (((σ.set i (some x)).set j (some y)).set l (some z)) H1) : tAsg te (gTup K 3 (gCons (gName i) (gCons (gName j) (gCons (gName l) gNil)))) D σ H :=
  h H (Ex.refl H) _ fun t H1 nt e1 ht => ⟨t, [x, y, z], rfl, st_of ht, rfl, x, [y, z], rfl, y, [z], rfl, z, [], rfl, rfl, k H1 e1⟩
theorem ex_make {o1 o2 : HO} (h1 : H a = none) (h2 : H b = none) (hh : ∀ c o, c ≠ a → upd (upd H b o1) a o2 c = some o → H' c = some o) : Ex H H' := fun c o hc => by
  have n1 : c ≠ a := ne_of_none hc h1
  have n2 : c ≠ b := ne_of_none hc h2
  exact hh c o n1 (by rw [upd_ne n1, upd_ne n2]; exact hc)
def EvMn (te : TE) (σ : L2.St) (H : Hp) (M : List (List Nat)) : Prop := ∀ H1, Ex H H1 → ∀ Q : VK, (∀ p H2, Ex H1 H2 → MN H2 p M → Q (.ref p) H2) → te σ H1 Q
theorem q_dropMethN (ho : Ev ta σ H (.ref a)) (hi : H a = some (.ins C dx fs)) (hm : fs.lookup m = none) (h : EvMn tb σ H M) (hs : ∀ q H1, Ex H H1 → MN H1 q M → sp (.ref a :: ([.ref q] ++ [])) H1 (fun _ H2 => tz D σ H2) E) : tSeq (tDrop (tMeth C m sp [] E ta (tCons tb tNil))) tz D σ H :=
  ho H (Ex.refl H) _ fun H2 e2 => ⟨a, dx, fs, rfl, e2 _ _ hi, hm, h H2 e2 _ fun q H3 e3 hq => hs q H3 (e2.trans e3) hq⟩
theorem lr_rep {r : Addr} (h : LN H r l) : ∀ n, LR H (List.replicate n r) (List.replicate n l)
  | 0 => .nil
  | n + 1 => .cons h (lr_rep h n)
theorem emn_ones {n : Nat} (hb : ∀ H1, Ex H H1 → Ev tb σ H1 (.int (n : Int))) (hn : n ≤ 1000) : EvMn (tOp rRep (tLst (tCons (tLst (tCons (tC (.int 1)) tNil)) tNil)) tb) σ H (List.replicate n [1]) := fun H1 e Q k => by
  refine ⟨by show 1 ≤ sizeLine; decide, fun r nr => ?_⟩
  refine ⟨by show 1 ≤ sizeLine; decide, fun w nw => ?_⟩
  have e2 : Ex H1 (upd (upd H1 r (.lst [.int 1])) w (.lst [.ref r])) := (Ex.new nr).trans (Ex.new nw)
  have nrw : r ≠ w := ne_of_none upd_same nw
  have hr : LN (upd (upd H1 r (.lst [.int 1])) w (.lst [.ref r])) r [1] := by
    show upd _ _ _ r = _
    rw [upd_ne nrw, upd_same] <;> rfl
  have hw : upd (upd H1 r (.lst [.int 1])) w (.lst [.ref r]) w = some (.lst [.ref r]) := upd_same
  generalize upd (upd H1 r (.lst [.int 1])) w (.lst [.ref r]) = H2 at e2 hr hw
  exact hb H2 (e.trans e2) H2 (Ex.refl _) _ fun H3 e3 => ⟨w, (n : Int), [.ref r], rfl, rfl, e3 w _ hw, by omega, by omega, by rw [Int.toNat_natCast]; show 1 * n ≤ sizeLine; rw [Nat.one_mul]; exact sz_of (by omega), fun l hl => by
    rw [Int.toNat_natCast, flat_one]
    exact k l _ ((e2.trans e3).trans (Ex.new hl)) ⟨List.replicate n r, by rw [upd_same, List.map_replicate], lr_rep ((hr.up e3).up (Ex.new hl)) n⟩⟩
end
theorem pk_snoc : ∀ {S : List Nat} {rs : List Addr} {i : Nat} {r : Addr}, rs.length = S.length → pk (S ++ [i]) (rs ++ [r]) = pk S rs ++ [((Sum.inl (i : Int) : Key), V.ref r)]
  | [], [], _, _, _ => rfl
  | s :: S, q :: rs, i, r, h => by
    rw [List.cons_append, List.cons_append, pk_cons, pk_cons, pk_snoc (by simpa using h), List.cons_append]
  | [], _ :: _, _, _, h => by simp at h
  | _ :: _, [], _, _, h => by simp at h
theorem pk_none : ∀ {S : List Nat} {rs : List Addr} {i : Nat}, i ∉ S → valV (pk S rs) (Sum.inl (i : Int)) = none
  | [], rs, i, _ => by
    rw [show pk [] rs = [] by unfold pk; rfl]
    rfl
  | s :: S, [], i, _ => by
    rw [show pk (s :: S) [] = [] by unfold pk; rfl]
    rfl
  | s :: S, q :: rs, i, h => by
    have n : ¬ ((Sum.inl (s : Int) : Key) = Sum.inl (i : Int)) := fun z => h (by rw [Int.ofNat.inj (Sum.inl.inj z)]; exact List.mem_cons_self ..)
    have ih := pk_none (S := S) (rs := rs) (i := i) fun z => h (List.mem_cons_of_mem _ z)
    rw [pk_cons]
    unfold valV at ih ⊢
    rw [List.find?_cons, decide_eq_false n]
    exact ih
/-- d[i] = a new list -/
theorem s_dputL {σ : L2.St} {H : Hp} {td ty tv : TE} {d : Addr} {i : Nat} {l S : List Nat} {W : List (List Nat)} {D : Ends} (h : EvL tv σ H (l.map nV)) (ho : ∀ H1, Ex H H1 → Ev td σ H1 (.ref d)) (hi : ∀ H1, Ex H H1 → Ev ty σ H1 (nV i)) (hP : PcAt H d S W) (hn : i ∉ S) (hl : l = Py.at1 W i) (hz : S.length < 1000)
    (k : ∀ H4, (∀ a o, a ≠ d → H a = some o → H4 a = some o) → PcAt H4 d (S ++ [i]) W → D.nx σ H4) : sDPut td ty tv D σ H :=
  h H (Ex.refl H) _ fun p H1 np e1 hp => ho H1 e1 H1 (Ex.refl _) _ fun H2 e2 => hi H2 (e1.trans e2) H2 (Ex.refl _) _ fun H3 e3 => by
    have e := (e1.trans e2).trans e3
    obtain ⟨rs, hd, hr⟩ := hP.up e
    have lr : rs.length = S.length := by rw [hr.len, List.length_map]
    refine ⟨d, _, rfl, DPut.k (k := Sum.inl (i : Int)) hd (by rw [pk_len lr]; exact sz_lt (by omega)), k _ (fun a o ha hu => by rw [upd_ne ha]; exact e _ _ hu) ⟨rs ++ [p], ?_, ?_⟩⟩
    · rw [upd_same, putK_new _ (pk_none hn), pk_snoc lr] <;> rfl
    · rw [List.map_append]
      have hx : Xb d H3 (upd H3 d (.dK (putK (pk S rs) (Sum.inl (i : Int)) (.ref p)))) := fun a u h1 h2 => by rw [upd_ne h1]; exact h2
      have hp3 : LN H3 p (Py.at1 W i) := by
        rw [← hl]
        exact e3 _ _ (e2 _ _ hp)
      exact Paired.snoc (xd_lr hx hd hr) (xd_ln hx hd hp3)
end Mx

set_option Elab.async false
set_option linter.all false
set_option maxRecDepth 100000
set_option maxHeartbeats 4000000
namespace Mx
open PySem PySem.Spec PyProof.Rows L2 Evl
/-! ### calls of a class and of a method that may raise, in a try -/
def tMakeS (C : Addr) (sp : Sp) (E : L2.St → XK) (t : TA) : TE := fun σ H Q => t σ H fun vs H1 => ∀ x dx, H1 x = none → H1 dx = none → dx ≠ x →
  sp (.ref x :: vs) (upd (upd H1 dx (.own x)) x (.ins C dx [])) (fun v H2 => v = .non ∧ Q (.ref x) H2) (E σ)
def tMethS (C : Addr) (m : Str) (sp : Sp) (E : L2.St → XK) (ta : TE) (t : TA) : TE := fun σ H Q => ta σ H fun x H1 => ∃ a dx fs, x = .ref a ∧ H1 a = some (.ins C dx fs) ∧ fs.lookup m = none ∧ t σ H1 fun vs H2 => sp (x :: vs) H2 Q (E σ)
section
variable {X : Cx} {CX : CXT} {k : Nat} {f C : Addr} {fd : FuncData} {ps : List Str} {sp : Sp} {E : L2.St → XK} {x m : Str} {p pos apos : Pos} {e o : Expr} {es : List Expr} {ta : TE} {t : TA}
theorem run_mkS {pins : List (Addr × Obj)} {σ : L2.St} {H : Hp} {s : Shared} {Q : VK} {us : List Value} {vs : List V} (M : Mk X.K C f) (F : FnOk X.prog X.w X.K X.mg X.base CX k f fd ps sp) (hr : Room (k + 1) X.A) (hb : Binds X.K fd ps [])
    (hx : PassesAt CX X σ (E σ)) (I : Inv X pins σ H s) (r : Vals vs us)
    (h : ∀ x dx, H x = none → H dx = none → dx ≠ x → sp (.ref x :: vs) (upd (upd H dx (.own x)) x (.ins C dx [])) (fun v H2 => v = .non ∧ Q (.ref x) H2) (E σ)) :
    wpAny (model X.prog X.w) X.A (call (.ref C) us) (EP X pins σ Q) X.xe s := by
  have hq := h (s.heap.objs.size + 1) s.heap.objs.size (I.hok.fresh (Nat.le_succ _)) (I.hok.fresh (Nat.le_refl _)) (Nat.ne_of_lt (Nat.lt_succ_self _))
  have I2 := Inv.made (C := C) I
  have r2 : Vals (V.ref (s.heap.objs.size + 1) :: vs) (Value.ref (s.heap.objs.size + 1) :: us) := .cons rfl r
  have hl : (Value.ref (s.heap.objs.size + 1) :: us).length = ps.length := by
    have e := r2.length
    rw [F.len _ _ _ _ hq] at e
    exact e.symm
  have b := hb _ (Value.ref (s.heap.objs.size + 1) :: us) I2.kIn (by rw [List.append_nil]; exact hl)
  rw [List.append_nil] at b
  refine wpAny_call (make_map (f := f) I.kIn M.makes M.init (beq_iff_eq.mp M.fn) (codeAny_mono (F.run _ X.stack _ _ ⟨Value.ref (s.heap.objs.size + 1) :: us, []⟩ (Value.ref (s.heap.objs.size + 1) :: us) _ _ (E σ) (hr.make C us [])
    (I2.env0.make C us []) b r2 hq) fun r s' hq' => ?_))
  cases r with
  | error e => exact hx pins _ _ e s' I2 hq'
  | ok fl =>
    cases fl with
    | ret u =>
      obtain ⟨v, H', I3, rv, ev, q3⟩ := I2.after hq'
      subst ev
      exact ⟨rv, ⟨V.ref (s.heap.objs.size + 1), H', I3, rfl, q3⟩⟩
    | next => exact False.elim hq'
    | brk => exact False.elim hq'
    | cont => exact False.elim hq'
theorem pe_mkS (M : Mk X.K C f) (F : FnOk X.prog X.w X.K X.mg X.base CX k f fd ps sp) (hr : Room (k + 1) X.A) (hg : Gl X x) (hm : X.mg x = some (.ref C)) (hb : Binds X.K fd ps []) (hx : ∀ σ, PassesAt CX X σ (E σ))
    (ha : PA X (e :: es) t) (hdb : (x == ("__debug__" : Str)) = false := by decide) (he : starEach (e :: es) X.env = (false, eval e X.env) :: starEach es X.env := by rfl) (hpl : (backTo pos (starEach es X.env)).any (·.1) = false := by rfl) :
    PE X (.Call (.Name x p) (e :: es) [] pos) (tMakeS C sp E t) := by
  refine ⟨fun pins s σ H Q I h => ?_⟩
  refine wpAny_Call_Name_kw (ld_glob I hg hm ?_ hdb)
  refine PySem.W.callWith_K (h₀ := X.base) I.ok.mod.kin M.kp (thn (ha.run pos pins s σ H _ I h) fun us s1 ⟨vs, H1, I1, r, q⟩ => ⟨I1.kIn, ?_⟩) he hpl
  exact run_mkS M F hr hb (hx σ) I1 r q
theorem pe_mtS {pl : Sem Bool} (he : PE X o ta) (c : Cls X.K C) (hm : Meth X.K C m f) (F : FnOk X.prog X.w X.K X.mg X.base CX k f fd ps sp) (hr : Room k X.A) (hb : Binds X.K fd ps []) (hx : ∀ σ, PassesAt CX X σ (E σ)) (ha : PA X (e :: es) t)
    (hst : starEach (e :: es) X.env = (false, eval e X.env) :: starEach es X.env := by rfl) (hpl : (backTo pos (starEach es X.env)).any (·.1) = false := by rfl)
    (ht : eval (.Call (.Attribute o m apos) (e :: es) [] pos) X.env = (do
      let ov ← eval o X.env
      standAt apos.atName
      let (f, first) ← holding [ov] (getMethod ov m pl)
      callWith pos f first (backTo pos (starEach (e :: es) X.env)) (backToKw pos (keywordEach [] X.env))) := by rfl) :
    PE X (.Call (.Attribute o m apos) (e :: es) [] pos) (tMethS C m sp E ta t) := by
  refine ⟨fun pins s σ H Q I h => ?_⟩
  refine PySem.W.methodCall_KW (pl := pl) (thn (he.run pins s σ H _ I h) fun u s1 ⟨x, H1, I1, rx, a, dx, fs, ex, ea, l, q⟩ => ?_) ht
  subst ex
  obtain rfl : u = Value.ref a := rx
  refine getmeth_ok I1 ea c hm l ?_
  refine PySem.W.callWith_K (first := [.ref a]) (h₀ := X.base) I.ok.mod.kin hm.kp (thn (ha.run pos pins s1 σ H1 _ I1 q) fun us s2 ⟨vs, H2, I2, r, q2⟩ => ⟨I2.kIn, ?_⟩) hst hpl
  exact run_fnS (us := .ref a :: us) (vs := .ref a :: vs) F hr hb (hx σ) I2 (.cons rfl r) q2
theorem pe_mtS0 {pl : Sem Bool} (he : PE X o ta) (c : Cls X.K C) (hm : Meth X.K C m f) (F : FnOk X.prog X.w X.K X.mg X.base CX k f fd ps sp) (hr : Room k X.A) (hb : Binds X.K fd ps []) (hx : ∀ σ, PassesAt CX X σ (E σ))
    (ht : eval (.Call (.Attribute o m apos) [] [] pos) X.env = (do
      let ov ← eval o X.env
      standAt apos.atName
      let (f, first) ← holding [ov] (getMethod ov m pl)
      callWith pos f first (backTo pos (starEach [] X.env)) (backToKw pos (keywordEach [] X.env))) := by rfl) :
    PE X (.Call (.Attribute o m apos) [] [] pos) (tMethS C m sp E ta tNil) := by
  refine ⟨fun pins s σ H Q I h => ?_⟩
  refine PySem.W.methodCall_KW (pl := pl) (thn (he.run pins s σ H _ I h) fun u s1 ⟨x, H1, I1, rx, a, dx, fs, ex, ea, l, q⟩ => ?_) ht
  subst ex
  obtain rfl : u = Value.ref a := rx
  refine getmeth_ok I1 ea c hm l ?_
  exact PySem.W.callWith_K0 (first := [.ref a]) I1.kIn hm.kp (run_fnS (us := [.ref a]) (vs := [.ref a]) F hr hb (hx σ) I1 (.cons rfl .nil) q)
end
/-! ### texts that are put together -/
section
variable {K : PySem.W.Frag} {σ : L2.St} {H H' : Hp} {ta tb te tx : TE} {ts : List TE} {t u : TT} {x y z v : V} {xs ys zs : List V} {p q : Addr} {D : Ends} {tu tw tz : TS}
theorem slen_app (a b : Str) : (a ++ b).length = a.length + b.length := PySem.Str.length_append a b
theorem slen_int {i : Int} (h : i.natAbs < 1000000000) : ((toString i : Str)).length ≤ 10 := by
  have e := int_text_length_le10 (a := i) (k := 9) (by decide) h
  have e2 : (Str.ofString (toString i)).length = (toString i).length := PySem.ofString_length _
  show (Str.ofString (toString i)).length ≤ 10
  omega
theorem log_small {i : Int} (h : i.natAbs < 1000000000) : i.natAbs.log2 < 1920 := by
  by_cases h0 : i.natAbs = 0
  · rw [h0]; decide
  · exact (Nat.log2_lt h0).mpr (Nat.lt_of_lt_of_le h (Nat.le_trans (by decide : 1000000000 ≤ 2 ^ 30) (Nat.pow_le_pow_right (by decide) (by decide))))
/-- some text of at most n signs -/
def EvS (te : TE) (σ : L2.St) (H : Hp) (n : Nat) : Prop := ∀ H1, Ex H H1 → ∀ Q : VK, (∀ y H2, Ex H1 H2 → y.length ≤ n → Q (.str y) H2) → te σ H1 Q
theorem evs_c {s : Str} {n : Nat} (h : s.length ≤ n) : EvS (tC (.str s)) σ H n := fun H1 e Q k => k s H1 (Ex.refl H1) h
theorem evs_fmt {i : Int} (h : Ev te σ H (.int i)) (hi : i.natAbs < 1000000000) : EvS (tFmt te) σ H 10 := fun H1 e Q k =>
  h H1 e _ fun H2 e2 => Or.inr ⟨i, rfl, log_small hi, k _ H2 e2 (slen_int hi)⟩
def EvSs (ts : List TE) (σ : L2.St) (H : Hp) (n : Nat) : Prop := ∀ acc H1, Ex H H1 → acc.length + n ≤ 16000000 → ∀ Q : Str → Hp → Prop, (∀ out H2, Ex H1 H2 → Q out H2) → tJs ts acc σ H1 Q
theorem js_nil : EvSs [] σ H 0 := fun acc H1 e h Q k => k acc H1 (Ex.refl H1)
theorem js_cons {n m : Nat} (h : EvS te σ H n) (r : EvSs ts σ H m) : EvSs (te :: ts) σ H (n + m) := fun acc H1 e hl Q k =>
  h H1 e _ fun y H2 e2 hy => ⟨y, rfl, by
    rw [slen_app]
    show acc.length + y.length ≤ 2 ^ 24
    omega, r (acc ++ y) H2 (e.trans e2) (by rw [slen_app]; omega) Q fun out H3 e3 => k out H3 (e2.trans e3)⟩
/-- the words of an error -/
theorem js_say {n : Nat} {Q : Str → Hp → Prop} (h : EvSs ts σ H n) (hn : n ≤ 16000000) (k : ∀ out H2, Ex H H2 → Q out H2) : tJs ts Str.empty σ H Q := h Str.empty H (Ex.refl H) (by show 0 + n ≤ _; omega) Q k
/-- a text and a number behind it -/
theorem ev_js2 {s : Str} {i : Int} (h : Ev te σ H (.int i)) (hi : i.natAbs < 1000000000) (hs : s.length ≤ 1000000) : Ev (fun σ H Q => tJs [tC (.str s), tFmt te] Str.empty σ H fun out H1 => Q (.str out) H1) σ H (.str (s ++ (toString i : Str))) := fun H1 e Q k => by
  have l := slen_int hi
  have e0 : Str.empty ++ s = s := by
    cases s with
    | mk a =>
      show (⟨#[] ++ a⟩ : Str) = ⟨a⟩
      rw [Array.empty_append]
  refine ⟨s, rfl, ?_, ?_⟩
  · rw [e0]
    show s.length ≤ 2 ^ 24
    omega
  · rw [e0]
    refine h H1 e _ fun H2 e2 => Or.inr ⟨i, rfl, log_small hi, _, rfl, ?_, k H2 e2⟩
    rw [slen_app]
    show s.length + _ ≤ 2 ^ 24
    omega
theorem ev_strI {i : Int} (h : Ev te σ H (.int i)) (hi : i.natAbs < 1000000000) : Ev (tCB (fun xs H Q => ∃ i, xs = [.int i] ∧ i.natAbs.log2 < 1920 ∧ Q (.str (toString i)) H) (tCons te tNil)) σ H (.str (toString i : Str)) := fun H1 e Q k =>
  h H1 e _ fun H2 e2 => ⟨i, rfl, log_small hi, k H2 e2⟩
theorem rv_adds {a b : Str} (h : a.length + b.length ≤ 16000000) : RV (fun x y H Q => ∃ i j, x = .str i ∧ y = .str j ∧ i.length + j.length ≤ sizeLine ∧ Q (.str (i ++ j)) H) (.str a) (.str b) H (.str (a ++ b)) := fun H1 e Q k =>
  ⟨a, b, rfl, rfl, by show _ ≤ 2 ^ 24; omega, k H1 (Ex.refl H1)⟩
/-! ### tuples of texts -/
def dS (s : Str) : PyData := .str s
theorem dp_strs : ∀ l : List Str, DpAll K H (l.map V.str) (l.map dS)
  | [] => .nil
  | s :: l => .cons (.str s) (dp_strs l)
theorem lay_strs : ∀ l : List Str, (∀ s ∈ l, PyData.strOk s = true) → PyData.canLayAll0 (l.map dS) = true ∧ PyData.depthAll (l.map dS) = 0
  | [], _ => ⟨rfl, rfl⟩
  | s :: l, h => by
    obtain ⟨a, b⟩ := lay_strs l fun q hq => h q (List.mem_cons_of_mem _ hq)
    have c := h s (List.mem_cons_self ..)
    exact ⟨by
      show (PyData.canLay0 (.str s) && PyData.canLayAll0 (l.map dS)) = true
      rw [a, Bool.and_true]
      exact c, by
      show max (PyData.depth (.str s)) (PyData.depthAll (l.map dS)) = 0
      rw [b] <;> rfl⟩
theorem shaped_tupS {l : List Str} (h : ∀ s ∈ l, PyData.strOk s = true) : SeqAt.shaped (.tuple (l.map dS)) = true := by
  unfold SeqAt.shaped
  have h1 : PyData.canLay0 (.tuple (l.map dS)) = true := (lay_strs l h).1
  have h2 : PyData.depth (.tuple (l.map dS)) = 1 := by
    show PyData.depthAll (l.map dS) + 1 = 1
    rw [(lay_strs l h).2]
  rw [h1, h2] <;> rfl
theorem dp_tupS {l : List Str} (h : SqT K H p (l.map V.str)) : Dp K H (.ref p) (.tuple (l.map dS)) := .tup h (dp_strs l)
theorem rv_neTS {l : List Str} (h : SqT K H p (l.map V.str)) (h2 : SqT K H q (l.map V.str)) (hs : ∀ s ∈ l, PyData.strOk s = true) : RV (rNeD K) (.ref p) (.ref q) H (.bl false) := rv_neD (dp_tupS h) (dp_tupS h2) (shaped_tupS hs)
theorem ev_isiSt {n : String} {s : Str} {b : Bool} (ha : Ev ta σ H (.str s)) (hb : Ev tb σ H (.ty n)) (h : kitB "str" n = some b) : Ev (tCB (rIsi K) (tCons ta (tCons tb tNil))) σ H (.bl b) :=
  ev_isi ha hb (ClsV.ty n) (fun H1 e => .base (.str s)) (kit_ty h)
/-- x in [a, b, ..] -/
theorem ev_inLst (ha : Ev ta σ H x) (hb : EvL tb σ H xs) (hx : flatV x = true) (hf : xs.all flatV = true) : Ev (tOp (rIn K false) ta tb) σ H (.bl (inV x xs)) := fun H1 e Q k =>
  ha H1 e _ fun H2 e2 => hb H2 (e.trans e2) _ fun p H3 _ e3 hp => ⟨p, xs, rfl, Or.inl (sq_of hp), hx, hf, k H3 (e2.trans e3)⟩
theorem ev_ixLst {k : Nat} (ha : EvL ta σ H xs) (hb : ∀ H1, Ex H H1 → Ev tb σ H1 (.int (k : Int))) (hx : xs[k]? = some v) : Ev (tOp (rIxL K) ta tb) σ H v := fun H1 e Q q =>
  ha H1 e _ fun p H2 _ e2 hp => hb H2 (e.trans e2) H2 (Ex.refl _) _ fun H3 e3 => (rv_ixLN (K := K) (sq_of (e3 _ _ hp)) hx) H3 (Ex.refl _) Q fun H4 e4 => q H4 ((e2.trans e3).trans e4)
theorem ev_call2UU {sp : Sp} {E : XK} (h1 : EvU ta σ H xs) (h2 : EvU tb σ H ys) (hs : ∀ p q H1, Ex H H1 → H1 p = some (.tup xs) → H1 q = some (.tup ys) → SpV sp ([.ref p, .ref q] ++ []) H1 z) : Ev (tCall sp [] E (tCons ta (tCons tb tNil))) σ H z := fun H1 e Q k =>
  h1 H1 e _ fun p H2 _ e2 hp => h2 H2 (e.trans e2) _ fun q H3 _ e3 hq => hs p q H3 ((e.trans e2).trans e3) (e3 p _ hp) hq H3 (Ex.refl _) Q (fun H4 e4 => k H4 ((e2.trans e3).trans e4)) E
theorem eu_meth {ta0 : TA} {m : Str} {a C dx : Addr} {fs : List (Str × V)} {vs dvs : List V} {sp : Sp} {E : XK} (ho : Ev ta σ H (.ref a)) (hi : H a = some (.ins C dx fs)) (hm : fs.lookup m = none) (h : EvA ta0 σ H vs) (hs : SpU sp (.ref a :: (vs ++ dvs)) H xs) : EvU (tMeth C m sp dvs E ta ta0) σ H xs := fun H1 e Q k =>
  ho H1 e _ fun H2 e2 => ⟨a, dx, fs, rfl, e2 _ _ (e _ _ hi), hm, h H2 (e.trans e2) _ fun H3 e3 => hs H3 ((e.trans e2).trans e3) Q (fun p H4 np e4 hp => k p H4 (fresh_back (e2.trans e3) np) ((e2.trans e3).trans e4) hp) E⟩
theorem s_dropMkS {C : Addr} {sp : Sp} {E : L2.St → XK} {ta0 : TA} {vs : List V} (h : EvA ta0 σ H vs) (hs : ∀ H1, Ex H H1 → ∀ x dx, H1 x = none → H1 dx = none → dx ≠ x → sp (.ref x :: vs) (upd (upd H1 dx (.own x)) x (.ins C dx [])) (fun v H2 => v = .non ∧ D.nx σ H2) (E σ)) : tDrop (tMakeS C sp E ta0) D σ H :=
  h H (Ex.refl H) _ fun H1 e1 x dx h1 h2 h3 => hs H1 e1 x dx h1 h2 h3
theorem ex_made {C x dx : Addr} (h1 : H x = none) (h2 : H dx = none) (h3 : dx ≠ x) : Ex H (upd (upd H dx (.own x)) x (.ins C dx [])) := (Ex.new h2).trans (Ex.new (by rw [upd_ne h3.symm]; exact h1))
/-! ### names with a number behind them -/
def nmS (c : Str) (j : Nat) : Str := c ++ (toString (j : Int) : Str)
theorem nms_get {c : Str} {n i : Nat} {z : V} (h : (((List.range n).map (nmS c)).map V.str)[i]? = some z) : i < n ∧ z = .str (nmS c i) := by
  rw [List.map_map] at h
  have hi : i < n := by
    have := (List.getElem?_eq_some_iff.mp h).1
    simpa using this
  rw [List.getElem?_map, List.getElem?_range hi] at h
  exact ⟨hi, (Option.some.inj h).symm⟩
theorem inV_nats {i : Int} {l : List Nat} : inV (.int i) (l.map nV) = l.any fun n => (n : Int) == i := by
  unfold inV
  rw [List.any_map]
  rfl
/-! ### fields that come one behind the other -/
theorem lk_no {m : Str} : ∀ {fs : List (Str × V)} (ks : List Str), fs.map (·.1) = ks → m ∉ ks → fs.lookup m = none
  | [], _, _, _ => rfl
  | (g, u) :: fs, ks, hk, hm => by
    subst hk
    rw [List.map_cons, List.mem_cons, not_or] at hm
    rw [List.lookup_cons, beq_false_of_ne hm.1]
    exact lk_no _ rfl hm.2
theorem putF_app {f : Str} {v : V} : ∀ {fs : List (Str × V)}, f ∉ fs.map (·.1) → putF f v fs = fs ++ [(f, v)]
  | [], _ => rfl
  | (g, u) :: fs, h => by
    have h1 : ¬ g = f := fun e => h (by rw [List.map_cons]; exact List.mem_cons.mpr (Or.inl e.symm))
    have h2 : f ∉ fs.map (·.1) := fun e => h (by rw [List.map_cons]; exact List.mem_cons_of_mem _ e)
    show (if g = f then _ else (g, u) :: putF f v fs) = _
    rw [if_neg h1, putF_app h2] <;> rfl
theorem q_fldA {tv : TE} {a C dx : Addr} {fs : List (Str × V)} {f : Str} {v : V} (ks : List Str) (h : Ev tv σ H v) (h2 : Ev ta σ H (.ref a)) (ho : H a = some (.ins C dx fs)) (c : Cls K C) (n : NoAttr K C f) (hk : fs.map (·.1) = ks) (hf : f ∉ ks) (hl : fs.length < 1000)
    (k : ∀ H1, Ex H H1 → tz D σ (upd H1 a (.ins C dx (fs ++ [(f, v)])))) : tSeq (sFld K ta tv f) tz D σ H := q_fld h h2 ho c n hl fun H1 e1 => by
  rw [putF_app (by rw [hk]; exact hf)]
  exact k H1 e1
theorem s_fldA {tv : TE} {a C dx : Addr} {fs : List (Str × V)} {f : Str} {v : V} (ks : List Str) (h : Ev tv σ H v) (h2 : Ev ta σ H (.ref a)) (ho : H a = some (.ins C dx fs)) (c : Cls K C) (n : NoAttr K C f) (hk : fs.map (·.1) = ks) (hf : f ∉ ks) (hl : fs.length < 1000)
    (k : ∀ H1, Ex H H1 → D.nx σ (upd H1 a (.ins C dx (fs ++ [(f, v)])))) : sFld K ta tv f D σ H :=
  q_fldA (D := D) (tz := fun D σ H => D.nx σ H) ks h h2 ho c n hk hf hl k
end
end Mx

set_option Elab.async false
set_option linter.all false
set_option maxRecDepth 100000
set_option maxHeartbeats 4000000
/-! Lists of extents: pieces (ticket, offset, length), and the one list with the fewest pieces. My own work. -/
namespace Xt
abbrev E3 := Nat × Nat × Nat
abbrev P2 := Nat × Nat
def off (t o : Nat) : Nat := if t = 0 then 0 else o
def spr1 (e : E3) : List P2 := (List.range e.2.2).map fun k => (e.1, off e.1 (e.2.1 + k))
def spr (es : List E3) : List P2 := es.flatMap spr1
def go (e : E3) (t o : Nat) : Bool := decide (t = e.1) && (decide (t = 0) || decide (o = e.2.1 + e.2.2))
def stC (r : List E3) (q : P2) : List E3 := match r with
  | [] => [(q.1, q.2, 1)]
  | e :: r' => if go e q.1 q.2 = true then (e.1, e.2.1, e.2.2 + 1) :: r' else (q.1, q.2, 1) :: e :: r'
def can (s : List P2) : List E3 := (s.foldl stC []).reverse
def stJ (r : List E3) (x : E3) : List E3 := match r with
  | [] => if 0 < x.2.2 then [x] else []
  | e :: r' => if go e x.1 x.2.1 = true then (e.1, e.2.1, e.2.2 + x.2.2) :: r' else if 0 < x.2.2 then x :: e :: r' else e :: r'
def joi (es : List E3) : List E3 := (es.foldl stJ []).reverse
def Z (e : E3) : Prop := e.1 = 0 → e.2.1 = 0
def Z2 (q : P2) : Prop := q.1 = 0 → q.2 = 0
theorem off_z {t o : Nat} (h : t = 0 → o = 0) : off t o = o := by
  unfold off
  split
  · exact (h (by assumption)).symm
  · rfl
theorem spr1_succ (t o l : Nat) : spr1 (t, o, l + 1) = spr1 (t, o, l) ++ [(t, off t (o + l))] := by
  unfold spr1
  rw [List.range_succ, List.map_append]
  rfl
theorem spr1_zero (t o : Nat) : spr1 (t, o, 0) = [] := rfl
theorem go_self {t o l : Nat} : go (t, o, l) t (off t (o + l)) = true := by
  unfold go off
  by_cases h : t = 0 <;> simp [h]
theorem go_more {e : E3} {t o l : Nat} (h : go e t o = true) (z : t = 0 → o = 0) : go (e.1, e.2.1, e.2.2 + l) t (off t (o + l)) = true := by
  unfold go off at *
  simp only [Bool.and_eq_true, Bool.or_eq_true, decide_eq_true_eq] at *
  refine ⟨h.1, ?_⟩
  rcases h.2 with h2 | h2
  · exact .inl h2
  · by_cases h3 : t = 0
    · exact .inl h3
    · rw [if_neg h3]
      exact .inr (by omega)
/-- a piece, item by item or at once -/
theorem fold_spr1 (r : List E3) (t o : Nat) (z : t = 0 → o = 0) : ∀ l, (spr1 (t, o, l)).foldl stC r = stJ r (t, o, l)
  | 0 => by
    rw [spr1_zero]
    cases r with
    | nil => rfl
    | cons e r' =>
      show e :: r' = if go e t o = true then (e.1, e.2.1, e.2.2 + 0) :: r' else if 0 < 0 then _ else e :: r'
      split
      · rfl
      · rfl
  | l + 1 => by
    rw [spr1_succ, List.foldl_append, fold_spr1 r t o z l]
    show stC (stJ r (t, o, l)) (t, off t (o + l)) = stJ r (t, o, l + 1)
    cases r with
    | nil =>
      show stC (if 0 < l then [(t, o, l)] else []) _ = if 0 < l + 1 then [(t, o, l + 1)] else []
      rw [if_pos (Nat.succ_pos l)]
      by_cases h : 0 < l
      · rw [if_pos h]
        show (if go (t, o, l) t (off t (o + l)) = true then [(t, o, l + 1)] else _) = _
        rw [if_pos go_self]
      · have hl : l = 0 := by omega
        subst hl
        rw [if_neg h]
        show [(t, off t (o + 0), 1)] = _
        rw [off_z (o := o + 0) z] <;> rfl
    | cons e r' =>
      show stC (if go e t o = true then (e.1, e.2.1, e.2.2 + l) :: r' else if 0 < l then (t, o, l) :: e :: r' else e :: r') _ = if go e t o = true then (e.1, e.2.1, e.2.2 + (l + 1)) :: r' else if 0 < l + 1 then (t, o, l + 1) :: e :: r' else e :: r'
      by_cases hg : go e t o = true
      · rw [if_pos hg, if_pos hg]
        show (if go (e.1, e.2.1, e.2.2 + l) t (off t (o + l)) = true then (e.1, e.2.1, e.2.2 + l + 1) :: r' else _) = _
        rw [if_pos (go_more hg z)] <;> rfl
      · rw [if_neg hg, if_neg hg, if_pos (Nat.succ_pos l)]
        by_cases h : 0 < l
        · rw [if_pos h]
          show (if go (t, o, l) t (off t (o + l)) = true then (t, o, l + 1) :: e :: r' else _) = _
          rw [if_pos go_self]
        · have hl : l = 0 := by omega
          subst hl
          rw [if_neg h, off_z (o := o + 0) z]
          show (if go e t o = true then _ else (t, o, 1) :: e :: r') = _
          rw [if_neg hg]
theorem fold_spr : ∀ (es : List E3) (r : List E3), (∀ e ∈ es, Z e) → (spr es).foldl stC r = es.foldl stJ r
  | [], r, _ => rfl
  | e :: es, r, h => by
    show (spr1 e ++ spr es).foldl stC r = es.foldl stJ (stJ r e)
    rw [List.foldl_append, fold_spr1 r e.1 e.2.1 (h e (List.mem_cons_self ..)) e.2.2]
    exact fold_spr es _ fun x hx => h x (List.mem_cons_of_mem _ hx)
theorem can_spr {es : List E3} (h : ∀ e ∈ es, Z e) : can (spr es) = joi es := by
  unfold can joi
  rw [fold_spr es [] h]
/-! what the fewest pieces keep -/
def Ok (r : List E3) : Prop := (∀ e ∈ r, Z e ∧ 0 < e.2.2) ∧ ∀ i e1 e2, r[i]? = some e2 → r[i + 1]? = some e1 → go e1 e2.1 e2.2.1 = false
theorem Ok.step {r : List E3} {q : P2} (h : Ok r) (hq : Z2 q) : Ok (stC r q) := by
  cases r with
  | nil =>
    refine ⟨fun e he => ?_, fun i e1 e2 h1 h2 => ?_⟩
    · rw [List.mem_singleton.mp he]
      exact ⟨hq, Nat.one_pos⟩
    · have : i + 1 < ([(q.1, q.2, 1)] : List E3).length := (List.getElem?_eq_some_iff.mp h2).1
      simp at this
  | cons e r' =>
    show Ok (if go e q.1 q.2 = true then (e.1, e.2.1, e.2.2 + 1) :: r' else (q.1, q.2, 1) :: e :: r')
    have hz := h.1 e (List.mem_cons_self ..)
    split
    · refine ⟨fun x hx => ?_, fun i e1 e2 h1 h2 => ?_⟩
      · rcases List.mem_cons.mp hx with rfl | hx
        · exact ⟨hz.1, Nat.succ_pos _⟩
        · exact h.1 x (List.mem_cons_of_mem _ hx)
      · cases i with
        | zero =>
          simp only [List.getElem?_cons_zero, Option.some.injEq] at h1
          subst h1
          exact h.2 0 e1 e rfl h2
        | succ i => exact h.2 (i + 1) e1 e2 h1 h2
    · rename_i hg
      refine ⟨fun x hx => ?_, fun i e1 e2 h1 h2 => ?_⟩
      · rcases List.mem_cons.mp hx with rfl | hx
        · exact ⟨hq, Nat.one_pos⟩
        · exact h.1 x hx
      · cases i with
        | zero =>
          simp only [List.getElem?_cons_zero, Option.some.injEq] at h1
          simp only [List.getElem?_cons_succ, List.getElem?_cons_zero, Option.some.injEq] at h2
          subst h1
          subst h2
          cases hh : go e q.1 q.2 with
          | true => exact absurd hh hg
          | false => rfl
        | succ i => exact h.2 i e1 e2 h1 h2
theorem Ok.fold : ∀ {s : List P2} {r : List E3}, Ok r → (∀ q ∈ s, Z2 q) → Ok (s.foldl stC r)
  | [], _, h, _ => h
  | q :: s, _, h, hs => Ok.fold (s := s) (h.step (hs q (List.mem_cons_self ..))) fun x hx => hs x (List.mem_cons_of_mem _ hx)
theorem Ok.nil : Ok [] := ⟨fun _ h => absurd h List.not_mem_nil, fun i _ _ h => by simp at h⟩
theorem can_z {s : List P2} (h : ∀ q ∈ s, Z2 q) : ∀ e ∈ can s, Z e ∧ 0 < e.2.2 := fun e he => (Ok.nil.fold h).1 e (List.mem_reverse.mp he)
theorem can_adj {s : List P2} (h : ∀ q ∈ s, Z2 q) {i : Nat} {e1 e2 : E3} (h1 : (can s)[i]? = some e1) (h2 : (can s)[i + 1]? = some e2) : go e1 e2.1 e2.2.1 = false := by
  have ok := Ok.nil.fold h
  unfold can at h1 h2
  have l2 := (List.getElem?_eq_some_iff.mp h2).1
  rw [List.length_reverse] at l2
  rw [List.getElem?_reverse (by omega)] at h1 h2
  refine ok.2 ((s.foldl stC []).length - 1 - (i + 1)) e1 e2 h2 ?_
  rw [← h1]
  congr 1
  omega
/-- what the pieces stand for -/
theorem spr_step {r : List E3} {q : P2} (hq : Z2 q) (hr : ∀ e ∈ r, Z e) : spr (stC r q).reverse = spr r.reverse ++ [q] := by
  have one : ∀ q : P2, Z2 q → spr1 (q.1, q.2, 1) = [q] := fun q hq => by
    rw [spr1_succ, spr1_zero, off_z (o := q.2 + 0) hq] <;> rfl
  cases r with
  | nil =>
    show spr1 (q.1, q.2, 1) ++ [] = [] ++ [q]
    rw [one q hq] <;> rfl
  | cons e r' =>
    show spr (if go e q.1 q.2 = true then (e.1, e.2.1, e.2.2 + 1) :: r' else (q.1, q.2, 1) :: e :: r').reverse = _
    split
    · rename_i hg
      rw [List.reverse_cons, List.reverse_cons]
      unfold spr
      rw [List.flatMap_append, List.flatMap_append, List.append_assoc]
      congr 1
      show spr1 (e.1, e.2.1, e.2.2 + 1) ++ [] = (spr1 e ++ []) ++ [q]
      rw [spr1_succ, List.append_nil, List.append_nil]
      congr 2
      unfold go at hg
      simp only [Bool.and_eq_true, Bool.or_eq_true, decide_eq_true_eq] at hg
      refine Prod.ext hg.1.symm ?_
      show off e.1 (e.2.1 + e.2.2) = q.2
      unfold off
      split
      · rename_i h0
        exact (hq (by rw [hg.1, h0])).symm
      · rename_i h0
        rcases hg.2 with h2 | h2
        · exact absurd (hg.1 ▸ h2) h0
        · exact h2.symm
    · rw [List.reverse_cons]
      unfold spr
      rw [List.flatMap_append]
      congr 1
      show spr1 (q.1, q.2, 1) ++ [] = [q]
      rw [one q hq] <;> rfl
theorem spr_fold : ∀ {s : List P2} {r : List E3}, Ok r → (∀ q ∈ s, Z2 q) → spr (s.foldl stC r).reverse = spr r.reverse ++ s
  | [], r, _, _ => by rw [List.append_nil] <;> rfl
  | q :: s, r, h, hs => by
    have hq := hs q (List.mem_cons_self ..)
    have hh := spr_fold (s := s) (h.step hq) fun x hx => hs x (List.mem_cons_of_mem _ hx)
    show spr (s.foldl stC (stC r q)).reverse = _
    rw [hh, spr_step hq fun e he => (h.1 e he).1, List.append_assoc] <;> rfl
theorem spr_can {s : List P2} (h : ∀ q ∈ s, Z2 q) : spr (can s) = s := by
  unfold can
  rw [spr_fold Ok.nil h] <;> rfl
theorem spr1_len (e : E3) : (spr1 e).length = e.2.2 := by
  unfold spr1
  rw [List.length_map, List.length_range]
theorem spr_append (a b : List E3) : spr (a ++ b) = spr a ++ spr b := by
  unfold spr
  rw [List.flatMap_append]
theorem spr_len : ∀ es : List E3, (spr es).length = (es.map fun e => e.2.2).sum
  | [] => rfl
  | e :: es => by
    show (spr1 e ++ spr es).length = _
    rw [List.length_append, spr1_len, spr_len es, List.map_cons, List.sum_cons]
/-! a part -/
theorem spr1_cut (t o l f n : Nat) : ((spr1 (t, o, l)).drop f).take n = spr1 (t, off t (o + f), min n (l - f)) := by
  unfold spr1
  apply List.ext_getElem?
  intro k
  rw [List.getElem?_take]
  show (if k < n then _ else _) = ((List.range (min n (l - f))).map _)[k]?
  by_cases h1 : k < n
  · rw [if_pos h1, List.getElem?_drop, List.getElem?_map, List.getElem?_map]
    show Option.map _ (List.range l)[f + k]? = Option.map _ (List.range (min n (l - f)))[k]?
    by_cases h2 : f + k < l
    · rw [List.getElem?_range h2, List.getElem?_range (by omega)]
      show some (t, off t (o + (f + k))) = some (t, off t (off t (o + f) + k))
      congr 2
      unfold off
      split
      · rfl
      · omega
    · rw [List.getElem?_eq_none (by rw [List.length_range]; omega), List.getElem?_eq_none (by rw [List.length_range]; omega)] <;> rfl
  · rw [if_neg h1, List.getElem?_eq_none (by rw [List.length_map, List.length_range]; omega)]
/-- a turn of part: found in the reverse order, and where the next piece starts -/
def stP (a c : Nat) (x : List E3 × Nat) (e : E3) : List E3 × Nat :=
  (if a - x.2 < min (a + c - x.2) e.2.2 then (e.1, off e.1 (e.2.1 + (a - x.2)), min (a + c - x.2) e.2.2 - (a - x.2)) :: x.1 else x.1, x.2 + e.2.2)
def prt (es : List E3) (a c : Nat) : List E3 := (es.foldl (stP a c) ([], 0)).1.reverse
def sl (s : List P2) (a c : Nat) : List P2 := (s.drop a).take c
theorem sl_app (S T : List P2) (a c : Nat) : sl (S ++ T) a c = sl S a c ++ (T.drop (a - S.length)).take (c - (S.length - a)) := by
  unfold sl
  rw [List.drop_append, List.take_append]
  congr 2
  rw [List.length_drop]
theorem take_snoc {α : Type} {l : List α} {i : Nat} {x : α} (h : l[i]? = some x) : l.take (i + 1) = l.take i ++ [x] := by
  rw [List.take_add_one, h] <;> rfl
theorem prt_inv {es : List E3} {a c : Nat} (hz : ∀ e ∈ es, Z e ∧ 0 < e.2.2) (ha : ∀ i e1 e2, es[i]? = some e1 → es[i + 1]? = some e2 → go e1 e2.1 e2.2.1 = false) : ∀ i, i ≤ es.length →
    ∃ R, (es.take i).foldl (stP a c) ([], 0) = (R, (spr (es.take i)).length) ∧ R = (sl (spr (es.take i)) a c).foldl stC [] ∧
      (∀ f R', R = f :: R' → a < (spr (es.take i)).length ∧ (a + c ≤ (spr (es.take i)).length ∨ ∃ e, es[i - 1]? = some e ∧ 0 < i ∧ f.1 = e.1 ∧ (e.1 = 0 ∨ f.2.1 + f.2.2 = e.2.1 + e.2.2)))
  | 0, _ => ⟨[], rfl, by simp [sl, spr], fun f R' h => by cases h⟩
  | i + 1, hi => by
    obtain ⟨R, h1, h2, h3⟩ := prt_inv hz ha i (by omega)
    have hg : es[i]? = some es[i] := List.getElem?_eq_getElem (by omega)
    generalize es[i] = e at hg
    obtain ⟨t, o, l⟩ := e
    obtain ⟨ze, le⟩ := hz _ (List.mem_of_getElem? hg)
    have ze : t = 0 → o = 0 := ze
    have le : 0 < l := le
    have tk := take_snoc hg
    have sp : spr (es.take (i + 1)) = spr (es.take i) ++ spr1 (t, o, l) := by
      rw [tk, spr_append]
      show _ ++ (spr1 (t, o, l) ++ []) = _
      rw [List.append_nil]
    generalize hS : spr (es.take i) = S at h1 h2 h3 sp
    have len : (spr (es.take (i + 1))).length = S.length + l := by rw [sp, List.length_append, spr1_len]
    have fl : (es.take (i + 1)).foldl (stP a c) ([], 0) = stP a c (R, S.length) (t, o, l) := by rw [tk, List.foldl_append, h1] <;> rfl
    have cut : sl (spr (es.take (i + 1))) a c = sl S a c ++ spr1 (t, off t (o + (a - S.length)), min (c - (S.length - a)) (l - (a - S.length))) := by
      rw [sp, sl_app, spr1_cut]
    have z2 : t = 0 → off t (o + (a - S.length)) = 0 := fun h => by unfold off; rw [if_pos h]
    have fold : (sl (spr (es.take (i + 1))) a c).foldl stC [] = stJ R (t, off t (o + (a - S.length)), min (c - (S.length - a)) (l - (a - S.length))) := by
      rw [cut, List.foldl_append, ← h2, fold_spr1 _ _ _ z2]
    rw [len]
    have eqn : min (c - (S.length - a)) (l - (a - S.length)) = min (a + c - S.length) l - (a - S.length) := by omega
    rw [eqn] at fold
    by_cases hlt : a - S.length < min (a + c - S.length) l
    · -- something of the piece
      have st : stP a c (R, S.length) (t, o, l) = ((t, off t (o + (a - S.length)), min (a + c - S.length) l - (a - S.length)) :: R, S.length + l) := by
        show (if a - S.length < min (a + c - S.length) l then _ else _, _) = _
        rw [if_pos hlt]
      refine ⟨_, by rw [fl, st], ?_, ?_⟩
      · rw [fold]
        cases hR : R with
        | nil =>
          show _ = if 0 < min (a + c - S.length) l - (a - S.length) then _ else _
          rw [if_pos (by omega)]
        | cons f R' =>
          obtain ⟨q1, q2⟩ := h3 f R' hR
          have f0 : a - S.length = 0 := by omega
          have ng : ¬ go f t (off t (o + (a - S.length))) = true := by
            rw [f0, off_z (o := o + 0) ze]
            rcases q2 with q2 | ⟨e, he, i0, q3, q4⟩
            · omega
            · have hh := ha (i - 1) e (t, o, l) he (by rw [show i - 1 + 1 = i by omega]; exact hg)
              unfold go at hh ⊢
              intro z
              simp only [Bool.and_eq_true, Bool.or_eq_true, decide_eq_true_eq, Bool.and_eq_false_iff, Bool.or_eq_false_iff, decide_eq_false_iff_not] at hh z
              rcases hh with hh | hh
              · exact hh (by rw [z.1, q3])
              · rcases z.2 with z2 | z2
                · exact hh.1 z2
                · rcases q4 with q4 | q4
                  · exact hh.1 (by rw [z.1, q3, q4])
                  · exact hh.2 (by show o = _; omega)
          show _ = if go f t _ = true then _ else if 0 < min (a + c - S.length) l - (a - S.length) then _ else _
          rw [if_neg ng, if_pos (by omega)]
      · intro f R' hf
        injection hf with hf1 hf2
        subst hf1
        refine ⟨by omega, ?_⟩
        by_cases hh : a + c ≤ S.length + l
        · exact .inl hh
        · refine .inr ⟨(t, o, l), hg, Nat.succ_pos _, rfl, ?_⟩
          show t = 0 ∨ off t (o + (a - S.length)) + _ = o + l
          by_cases h0 : t = 0
          · exact .inl h0
          · refine .inr ?_
            unfold off
            rw [if_neg h0]
            show o + (a - S.length) + (min (a + c - S.length) l - (a - S.length)) = o + l
            omega
    · have st : stP a c (R, S.length) (t, o, l) = (R, S.length + l) := by
        show (if a - S.length < min (a + c - S.length) l then _ else _, _) = _
        rw [if_neg hlt]
      have m0 : min (a + c - S.length) l - (a - S.length) = 0 := by omega
      refine ⟨_, by rw [fl, st], ?_, ?_⟩
      · rw [fold, m0]
        cases R with
        | nil => rfl
        | cons f R' =>
          show _ = if go f t _ = true then (f.1, f.2.1, f.2.2 + 0) :: R' else if 0 < 0 then _ else f :: R'
          split <;> rfl
      · intro f R' hf
        obtain ⟨q1, q2⟩ := h3 f R' hf
        refine ⟨by omega, .inl ?_⟩
        omega
theorem prt_can {s : List P2} {a c : Nat} (h : ∀ q ∈ s, Z2 q) : prt (can s) a c = can (sl s a c) := by
  obtain ⟨R, h1, h2, _⟩ := prt_inv (es := can s) (a := a) (c := c) (can_z h) (fun i e1 e2 => can_adj h) (can s).length (Nat.le_refl _)
  rw [List.take_length] at h1 h2
  unfold prt
  rw [h1]
  show R.reverse = can _
  rw [h2, spr_can h] <;> rfl
theorem stP_len (a c : Nat) (x : List E3 × Nat) (e : E3) : (stP a c x e).1.length ≤ x.1.length + 1 := by
  unfold stP
  split
  · exact Nat.le_refl _
  · exact Nat.le_succ _
theorem foldP_len (a c : Nat) : ∀ (es : List E3) (x : List E3 × Nat), (es.foldl (stP a c) x).1.length ≤ x.1.length + es.length
  | [], x => Nat.le_refl _
  | e :: es, x => by
    have h1 := foldP_len a c es (stP a c x e)
    have h2 := stP_len a c x e
    rw [List.foldl_cons, List.length_cons]
    omega
theorem prt_len (es : List E3) (a c : Nat) : (prt es a c).length ≤ es.length := by
  unfold prt
  rw [List.length_reverse]
  have := foldP_len a c es ([], 0)
  simpa using this
theorem stJ_len (r : List E3) (e : E3) : (stJ r e).length ≤ r.length + 1 := by
  cases r with
  | nil =>
    show (if 0 < e.2.2 then [e] else []).length ≤ _
    split <;> simp
  | cons f r' =>
    show (if go f e.1 e.2.1 = true then _ else if 0 < e.2.2 then e :: f :: r' else f :: r').length ≤ _
    split
    · simp
    · split <;> simp
theorem foldJ_len : ∀ (es : List E3) (r : List E3), (es.foldl stJ r).length ≤ r.length + es.length
  | [], r => Nat.le_refl _
  | e :: es, r => by
    have h1 := foldJ_len es (stJ r e)
    have h2 := stJ_len r e
    rw [List.foldl_cons, List.length_cons]
    omega
theorem joi_len (es : List E3) : (joi es).length ≤ es.length := by
  unfold joi
  rw [List.length_reverse]
  have := foldJ_len es []
  simpa using this
theorem stC_len (r : List E3) (q : P2) : (stC r q).length ≤ r.length + 1 := by
  cases r with
  | nil => exact Nat.le_refl _
  | cons f r' =>
    show (if go f q.1 q.2 = true then (f.1, f.2.1, f.2.2 + 1) :: r' else (q.1, q.2, 1) :: f :: r').length ≤ _
    split <;> simp
theorem foldC_len : ∀ (s : List P2) (r : List E3), (s.foldl stC r).length ≤ r.length + s.length
  | [], r => Nat.le_refl _
  | e :: es, r => by
    have h1 := foldC_len es (stC r e)
    have h2 := stC_len r e
    rw [List.foldl_cons, List.length_cons]
    omega
theorem can_len (s : List P2) : (can s).length ≤ s.length := by
  unfold can
  rw [List.length_reverse]
  have := foldC_len s []
  simpa using this
theorem foldP_start (a c : Nat) : ∀ (es : List E3) (x : List E3 × Nat), (es.foldl (stP a c) x).2 = x.2 + (spr es).length
  | [], x => rfl
  | e :: es, x => by
    rw [List.foldl_cons, foldP_start a c es]
    show x.2 + e.2.2 + (spr es).length = x.2 + (spr1 e ++ spr es).length
    rw [List.length_append, spr1_len]
    omega
end Xt

set_option Elab.async false
set_option linter.all false
set_option maxRecDepth 100000
set_option maxHeartbeats 4000000
namespace Mx
open PySem PySem.Spec PyProof.Rows L2 Evl
/-! ### lists of tuples that grow, that are cut, that are compared -/
section
variable {K : PySem.W.Frag} {σ : L2.St} {H H0 H' H1 : Hp} {ta0 : TA} {ta tb tc te tx tl : TE} {t u : TT} {x y z v : V} {r : R2} {xs ys zs vs us : List V} {p q l : Addr} {D : Ends} {tu tw tz : TS} {g : TG} {vss wss : List (List V)} {S R : List (List Nat)}
theorem cut_nn (xs : List V) (a b : Nat) : cutV xs (some (a : Int)) (some (b : Int)) = (xs.drop a).take (b - a) := by
  unfold cutV
  rw [HT.sIx_nat, HT.sIx_nat]
  by_cases h : a ≤ xs.length
  · rw [Nat.min_eq_left h]
    by_cases h2 : b ≤ xs.length
    · rw [Nat.min_eq_left h2]
    · rw [Nat.min_eq_right (by omega), List.take_of_length_le (by rw [List.length_drop]; omega), List.take_of_length_le (by rw [List.length_drop]; omega)]
  · rw [List.drop_eq_nil_of_le (by omega), List.drop_eq_nil_of_le (by omega), List.take_nil, List.take_nil]
theorem cut_to (xs : List V) (b : Nat) : cutV xs none (some (b : Int)) = xs.take b := by
  unfold cutV
  rw [HT.sIx_none, HT.sIx_nat, Nat.sub_zero, List.drop_zero]
  by_cases h2 : b ≤ xs.length
  · rw [Nat.min_eq_left h2]
  · rw [Nat.min_eq_right (by omega), List.take_of_length_le (by omega), List.take_of_length_le (by omega)]
theorem cut_from (xs : List V) (a : Nat) : cutV xs (some (a : Int)) none = xs.drop a := by
  unfold cutV
  rw [HT.sIx_none, HT.sIx_nat]
  by_cases h : a ≤ xs.length
  · rw [Nat.min_eq_left h, List.take_of_length_le (by rw [List.length_drop]; omega)]
  · rw [List.drop_eq_nil_of_le (by omega), List.drop_eq_nil_of_le (by omega), List.take_nil]
theorem tups_last : ∀ {vss : List (List V)} {rs : List Addr}, TupsAt H rs (vss ++ [us]) → ∃ rs' a, rs = rs' ++ [a] ∧ TupsAt H rs' vss ∧ H a = some (.tup us)
  | [], _, h => by
    cases h with
    | cons h1 h2 =>
      cases h2
      exact ⟨[], _, rfl, .nil, h1⟩
  | v :: vss, _, h => by
    cases h with
    | cons h1 h2 =>
      obtain ⟨rs', a, e, h3, h4⟩ := tups_last (vss := vss) h2
      exact ⟨_ :: rs', a, by rw [e] <;> rfl, .cons h1 h3, h4⟩
theorem tups_take : ∀ {rs : List Addr} {vss : List (List V)} (n : Nat), TupsAt H rs vss → TupsAt H (rs.take n) (vss.take n)
  | _, _, 0, _ => by rw [List.take_zero, List.take_zero]; exact .nil
  | _, _, n + 1, .nil => .nil
  | _, _, n + 1, .cons h t => .cons h (tups_take n t)
theorem tups_drop : ∀ {rs : List Addr} {vss : List (List V)} (n : Nat), TupsAt H rs vss → TupsAt H (rs.drop n) (vss.drop n)
  | _, _, 0, h => h
  | _, _, n + 1, .nil => .nil
  | _, _, n + 1, .cons h t => tups_drop n t
theorem s_appT (hT : TL H l vss) (ha : Ev ta σ H (.ref l)) (h : EvU te σ H vs) (hz : vss.length < 100000) (k : ∀ H1 o, Ex H H1 → TL (upd H1 l o) l (vss ++ [vs]) → D.nx σ (upd H1 l o)) : tDrop (tBM K "list" rAppend ta (tCons te tNil)) D σ H := by
  obtain ⟨rs, h1, h2⟩ := hT
  exact s_appU h1 ha h (by rw [List.length_map, h2.len]; exact hz) fun p H1 np e1 hp => k H1 _ e1 ⟨rs ++ [p], by rw [upd_same, List.map_append] <;> rfl, tups_upd (e1 _ _ h1) ((h2.mono e1).snoc (rs := rs) hp)⟩
theorem q_appT (hT : TL H l vss) (ha : Ev ta σ H (.ref l)) (h : EvU te σ H vs) (hz : vss.length < 100000) (k : ∀ H1 o, Ex H H1 → TL (upd H1 l o) l (vss ++ [vs]) → tz D σ (upd H1 l o)) : tSeq (tDrop (tBM K "list" rAppend ta (tCons te tNil))) tz D σ H := s_appT (D := { D with nx := tz D }) hT ha h hz k
theorem ixN_last {n : Nat} : ixN (n + 1) (-1) = some n := by
  unfold ixN
  rw [if_neg (by decide), if_pos (by omega)]
  congr 1
  omega
theorem s_setLast (hT : TL H l (vss ++ [us])) (h : EvU te σ H vs) (ho : ∀ H1, Ex H H1 → Ev ta σ H1 (.ref l)) (hi : ∀ H1, Ex H H1 → Ev tb σ H1 (.int (-1))) (k : ∀ H1 o, Ex H H1 → TL (upd H1 l o) l (vss ++ [vs]) → D.nx σ (upd H1 l o)) : tAsg te (gSub ta tb rSetL) D σ H := by
  obtain ⟨rs, h1, h2⟩ := hT
  obtain ⟨rs', b, rfl, h3, h4⟩ := tups_last h2
  refine h H (Ex.refl H) _ fun a H1 na e1 ha => ho H1 e1 H1 (Ex.refl _) _ fun H2 e2 => hi H2 (e1.trans e2) H2 (Ex.refl _) _ fun H3 e3 => ?_
  have e13 := (e1.trans e2).trans e3
  refine ⟨l, _, -1, rs'.length, rfl, rfl, e13 _ _ h1, by rw [List.length_map, List.length_append]; exact ixN_last, ?_⟩
  refine k H3 _ e13 ⟨rs' ++ [a], ?_, tups_upd (e13 _ _ h1) ((h3.mono e13).snoc (rs := rs') (e3 _ _ (e2 _ _ ha)))⟩
  rw [upd_same, List.map_append, List.map_append, List.set_append_right _ _ (by rw [List.length_map]; exact Nat.le_refl _), List.length_map, Nat.sub_self] <;> rfl
theorem q_setLast (hT : TL H l (vss ++ [us])) (h : EvU te σ H vs) (ho : ∀ H1, Ex H H1 → Ev ta σ H1 (.ref l)) (hi : ∀ H1, Ex H H1 → Ev tb σ H1 (.int (-1))) (k : ∀ H1 o, Ex H H1 → TL (upd H1 l o) l (vss ++ [vs]) → tz D σ (upd H1 l o)) : tSeq (tAsg te (gSub ta tb rSetL)) tz D σ H := s_setLast (D := { D with nx := tz D }) hT h ho hi k
theorem tl_last (hT : TL H l (vss ++ [us])) : ∃ a, H a = some (.tup us) ∧ RV (rIxL K) (.ref l) (.int (-1)) H (.ref a) := by
  obtain ⟨rs, h1, h2⟩ := hT
  obtain ⟨rs', b, rfl, h3, h4⟩ := tups_last h2
  refine ⟨b, h4, rv_ixL (sq_of h1) ?_⟩
  rw [List.map_append]
  exact atI_last _ _
/-- xs[-1][i] -/
theorem ev_lastI {i : Nat} (hT : TL H l (vss ++ [us])) (ha : Ev ta σ H (.ref l)) (hm : Ev tb σ H (.int (-1))) (hi : Ev tc σ H (.int (i : Int))) (hv : us[i]? = some v) : Ev (tOp (rIxT K) (tOp (rIxL K) ta tb) tc) σ H v := by
  obtain ⟨a, h1, h2⟩ := tl_last (K := K) hT
  exact ev_op (ev_op ha hm h2) hi (rv_ixTN (st_of h1) hv)
theorem s_popT {i : Nat} (hT : TL H l (vss ++ [us])) (ha : Ev ta σ H (.ref l)) (k : ∀ a H1 o, Ex H H1 → (upd H1 l o) a = some (.tup us) → TL (upd H1 l o) l vss → D.nx (σ.set i (some (.ref a))) (upd H1 l o)) : tAsg (tBM0 K "list" rPop ta) (gName i) D σ H := by
  obtain ⟨rs, h1, h2⟩ := hT
  obtain ⟨rs', b, rfl, h3, h4⟩ := tups_last h2
  refine ha H (Ex.refl H) _ fun H1 e1 => ⟨Or.inl ⟨rfl, _, sq_of (e1 _ _ h1)⟩, l, _, .ref b, rfl, rfl, e1 _ _ h1, ?_, ?_⟩
  · rw [List.length_map, List.map_append, List.length_append]
    show (rs'.map V.ref ++ [V.ref b])[rs'.length + 1 - 1]? = some (.ref b)
    rw [Nat.add_sub_cancel, List.getElem?_append_right (by rw [List.length_map]; exact Nat.le_refl _), List.length_map, Nat.sub_self] <;> rfl
  · have hne : b ≠ l := fun z => by
      rw [z, h1] at h4
      cases h4
    refine k b H1 _ e1 (by rw [upd_ne hne]; exact e1 _ _ h4) ⟨rs', ?_, tups_upd (e1 _ _ h1) (h3.mono e1)⟩
    rw [upd_same, List.map_append]
    show some (HO.lst (rs'.map V.ref ++ [V.ref b]).dropLast) = _
    rw [List.dropLast_concat]
theorem q_popT {i : Nat} (hT : TL H l (vss ++ [us])) (ha : Ev ta σ H (.ref l)) (k : ∀ a H1 o, Ex H H1 → (upd H1 l o) a = some (.tup us) → TL (upd H1 l o) l vss → tz D (σ.set i (some (.ref a))) (upd H1 l o)) : tSeq (tAsg (tBM0 K "list" rPop ta) (gName i)) tz D σ H := s_popT (D := { D with nx := tz D }) hT ha k
/-- a list of tuples, new or not -/
def ETn (te : TE) (σ : L2.St) (H : Hp) (vss : List (List V)) : Prop := ∀ H1, Ex H H1 → ∀ Q : VK, (∀ p H2, Ex H1 H2 → TL H2 p vss → Q (.ref p) H2) → te σ H1 Q
theorem etn_new (h : EvTL te σ H vss) : ETn te σ H vss := fun H1 e Q k => h H1 e Q fun p H2 _ e2 hp => k p H2 e2 hp
theorem etn_var (h : Ev te σ H (.ref p)) (hT : TL H p vss) : ETn te σ H vss := fun H1 e Q k => h H1 e Q fun H2 e2 => k p H2 e2 (hT.up (e.trans e2))
theorem etl_catN (ha : ETn ta σ H vss) (hb : ETn tb σ H wss) (hz : vss.length + wss.length ≤ 100000) : EvTL (tOp rCat ta tb) σ H (vss ++ wss) := fun H1 e Q k =>
  ha H1 e _ fun p H2 e2 hp => hb H2 (e.trans e2) _ fun q H3 e3 hq => by
    obtain ⟨rs, h1, h2⟩ := hp.up e3
    obtain ⟨ss, h3, h4⟩ := hq
    refine ⟨p, q, _, _, rfl, rfl, h1, h3, by rw [List.length_map, List.length_map, h2.len, h4.len]; exact sz_of hz, fun l hl => k l _ (fresh_back (e2.trans e3) hl) ((e2.trans e3).trans (Ex.new hl)) ⟨rs ++ ss, by rw [upd_same, List.map_append], ?_⟩⟩
    exact TupsAt.mono (Ex.new hl) (show TupsAt H3 (rs ++ ss) (vss ++ wss) from paired_app h2 h4)
theorem etl_is (h : EvTL te σ H vss) (e : vss = wss) : EvTL te σ H wss := e ▸ h
/-- a cut of a list of tuples -/
theorem etl_cutN {tl th : TO} {lo hi : Option Int} (h : ETn te σ H vss) (h1 : ∀ H1, Ex H H1 → EvO tl σ H1 lo) (h2 : ∀ H1, Ex H H1 → EvO th σ H1 hi) (f : {α : Type} → List α → List α) (hf : ∀ rs : List Addr, cutV (rs.map V.ref) lo hi = (f rs).map V.ref) (ht : ∀ {H : Hp} {rs : List Addr}, TupsAt H rs vss → TupsAt H (f rs) (f vss)) : EvTL (tSl (rSlL K) te tl th) σ H (f vss) := fun H1 e Q k =>
  h H1 e _ fun p H2 e2 hp => h1 H2 (e.trans e2) H2 (Ex.refl _) _ fun H3 e3 => h2 H3 ((e.trans e2).trans e3) H3 (Ex.refl _) _ fun H4 e4 => by
    obtain ⟨rs, h5, h6⟩ := hp.up (e3.trans e4)
    refine ⟨p, _, rfl, sq_of h5, fun l hl => k l _ (fresh_back ((e2.trans e3).trans e4) hl) (((e2.trans e3).trans e4).trans (Ex.new hl)) ⟨f rs, by rw [upd_same, hf], (ht h6).mono (Ex.new hl)⟩⟩
theorem etl_mid {tl th : TO} {a b : Nat} (h : ETn te σ H vss) (h1 : ∀ H1, Ex H H1 → EvO tl σ H1 (some (a : Int))) (h2 : ∀ H1, Ex H H1 → EvO th σ H1 (some (b : Int))) : EvTL (tSl (rSlL K) te tl th) σ H ((vss.drop a).take (b - a)) :=
  etl_cutN (f := fun l => (l.drop a).take (b - a)) h h1 h2 (fun rs => by rw [cut_nn, List.map_take, List.map_drop]) fun h => tups_take _ (tups_drop _ h)
theorem etl_to {th : TO} {b : Nat} (h : ETn te σ H vss) (h2 : ∀ H1, Ex H H1 → EvO th σ H1 (some (b : Int))) : EvTL (tSl (rSlL K) te tNoPart th) σ H (vss.take b) :=
  etl_cutN (f := fun l => l.take b) h (fun _ _ => eo_none) h2 (fun rs => by rw [cut_to, List.map_take]) fun h => tups_take _ h
theorem etl_from {tl : TO} {a : Nat} (h : ETn te σ H vss) (h1 : ∀ H1, Ex H H1 → EvO tl σ H1 (some (a : Int))) : EvTL (tSl (rSlL K) te tl tNoPart) σ H (vss.drop a) :=
  etl_cutN (f := fun l => l.drop a) h h1 (fun _ _ => eo_none) (fun rs => by rw [cut_from, List.map_drop]) fun h => tups_drop _ h
theorem tups_rep {a : Addr} (h : H a = some (.tup vs)) : ∀ n, TupsAt H (List.replicate n a) (List.replicate n vs)
  | 0 => .nil
  | n + 1 => .cons h (tups_rep h n)
/-- [(..)] * n -/
theorem etl_rep {n : Nat} (h : EvU te σ H vs) (hb : ∀ H1, Ex H H1 → Ev tb σ H1 (.int (n : Int))) (hn : n ≤ 100000) : EvTL (tOp rRep (tLst (tCons te tNil)) tb) σ H (List.replicate n vs) := fun H1 e Q k =>
  h H1 e _ fun a H2 na e2 ha => ⟨sz_of (by simp), fun p hp => hb _ ((e.trans e2).trans (Ex.new hp)) _ (Ex.refl _) _ fun H3 e3 => ⟨p, (n : Int), [.ref a], rfl, rfl, e3 _ _ upd_same, by omega, by omega, by rw [Int.toNat_natCast]; show 1 * n ≤ sizeLine; rw [Nat.one_mul]; exact sz_of hn, fun l hl => by
    rw [Int.toNat_natCast, flat_one]
    have ea := (e2.trans (Ex.new hp)).trans e3
    refine k l _ (fresh_back ea hl) (ea.trans (Ex.new hl)) ⟨List.replicate n a, by rw [upd_same, List.map_replicate], tups_rep (vs := vs) ?_ n⟩
    exact (Ex.new hl) _ _ (e3 _ _ ((Ex.new hp) _ _ ha))⟩⟩
/-! comparisons -/
def dI (s : List Nat) : PyData := .tuple (s.map dN)
theorem dp_nss : ∀ {rs : List Addr} {S : List (List Nat)}, TupsAt H rs (nss S) → DpAll K H (rs.map V.ref) (S.map dI)
  | [], [], _ => .nil
  | [], _ :: _, h => by cases h
  | _ :: _, [], h => by cases h
  | r :: rs, q :: ps, h => by
    cases h with
    | cons h1 h2 => exact .cons (dp_tupN (st_of h1)) (dp_nss h2)
theorem lay_nss : ∀ S : List (List Nat), PyData.canLayAll0 (S.map dI) = true ∧ PyData.depthAll (S.map dI) ≤ 1
  | [] => ⟨rfl, Nat.zero_le _⟩
  | q :: ps => by
    have ih := lay_nss ps
    refine ⟨?_, ?_⟩
    · show (PyData.canLayAll0 (q.map dN) && PyData.canLayAll0 (ps.map dI)) = true
      rw [ih.1, (lay_nats q).1] <;> rfl
    · show max (PyData.depthAll (q.map dN) + 1) (PyData.depthAll (ps.map dI)) ≤ 1
      rw [(lay_nats q).2]
      omega
theorem shaped_nss (S : List (List Nat)) : SeqAt.shaped (.list (S.map dI)) = true := by
  unfold SeqAt.shaped
  have h1 : PyData.canLay0 (.list (S.map dI)) = true := (lay_nss S).1
  have h2 : PyData.depth (.list (S.map dI)) ≤ 2 := by
    show PyData.depthAll (S.map dI) + 1 ≤ 2
    have := (lay_nss S).2
    omega
  rw [h1, decide_eq_true (show PyData.depth (.list (S.map dI)) ≤ 64 by omega)] <;> rfl
theorem dp_tl (h : TL H p (nss S)) : Dp K H (.ref p) (.list (S.map dI)) := by
  obtain ⟨rs, a1, a2⟩ := h
  exact .lst (sq_of a1) (dp_nss a2)
theorem ev_neTT (ha : ETn ta σ H (nss S)) (hb : ETn tb σ H (nss S)) : Ev (tOp (rNeD K) ta tb) σ H (.bl false) := fun H1 e Q k =>
  ha H1 e _ fun p H2 e2 hp => hb H2 (e.trans e2) _ fun q H3 e3 hq => rv_neD (dp_tl (hp.up e3)) (dp_tl hq) (shaped_nss S) H3 (Ex.refl _) Q fun H4 e4 => k H4 ((e2.trans e3).trans e4)
theorem ev_eqTT (ha : ETn ta σ H (nss S)) (hb : ETn tb σ H (nss S)) : Ev (tOp (rEqD K) ta tb) σ H (.bl true) := fun H1 e Q k =>
  ha H1 e _ fun p H2 e2 hp => hb H2 (e.trans e2) _ fun q H3 e3 hq => rv_eqD (dp_tl (hp.up e3)) (dp_tl hq) (shaped_nss S) H3 (Ex.refl _) Q fun H4 e4 => k H4 ((e2.trans e3).trans e4)
theorem ev_eqLL2 {L : List Nat} (ha : EvL ta σ H (L.map nV)) (hb : EvL tb σ H (L.map nV)) : Ev (tOp (rEqD K) ta tb) σ H (.bl true) := fun H1 e Q k =>
  ha H1 e _ fun p H2 _ e2 hp => hb H2 (e.trans e2) _ fun q H3 _ e3 hq => rv_eqN (sq_of (e3 _ _ hp)) (sq_of hq) H3 (Ex.refl _) Q fun H4 e4 => k H4 ((e2.trans e3).trans e4)
theorem ev_neVL2 {L : List Nat} (ha : Ev ta σ H (.ref p)) (hp : LN H p L) (hb : EvL tb σ H (L.map nV)) : Ev (tOp (rNeD K) ta tb) σ H (.bl false) := fun H1 e Q k =>
  ha H1 e _ fun H2 e2 => hb H2 (e.trans e2) _ fun q H3 _ e3 hq => rv_neN (sq_of (hp.up ((e.trans e2).trans e3))) (sq_of hq) H3 (Ex.refl _) Q fun H4 e4 => k H4 ((e2.trans e3).trans e4)
theorem ev_neLV2 {L : List Nat} (ha : EvL ta σ H (L.map nV)) (hb : Ev tb σ H (.ref q)) (hq : LN H q L) : Ev (tOp (rNeD K) ta tb) σ H (.bl false) := fun H1 e Q k =>
  ha H1 e _ fun p H2 _ e2 hp => hb H2 (e.trans e2) _ fun H3 e3 => rv_neN (sq_of (e3 _ _ hp)) (sq_of (hq.up ((e.trans e2).trans e3))) H3 (Ex.refl _) Q fun H4 e4 => k H4 ((e2.trans e3).trans e4)
/-! calls -/
def SpTL (sp : Sp) (vs : List V) (H : Hp) (vss : List (List V)) : Prop := ∀ H1, Ex H H1 → ∀ Q : VK, (∀ p H2, H1 p = none → Ex H1 H2 → TL H2 p vss → Q (.ref p) H2) → ∀ E : XK, sp vs H1 Q E
def RetTL (vss : List (List V)) (H : Hp) (Q : VK) : Prop := ∀ p H', H p = none → Ex H H' → TL H' p vss → Q (.ref p) H'
theorem s_retT (h : EvTL te σ H vss) (k : ∀ p H1, H p = none → Ex H H1 → TL H1 p vss → D.rt (.ref p) H1) : tRet te D σ H := h H (Ex.refl H) _ k
theorem etl_call {sp : Sp} {E : XK} (h : EvA ta0 σ H vs) (hs : SpTL sp (vs ++ []) H vss) : EvTL (tCall sp [] E ta0) σ H vss := fun H1 e Q k =>
  h H1 e _ fun H2 e2 => hs H2 (e.trans e2) Q (fun p H3 np e3 hp => k p H3 (fresh_back e2 np) (e2.trans e3) hp) E
theorem etl_call1T {sp : Sp} {E : XK} (h : ETn ta σ H vss) (hs : ∀ p H1, Ex H H1 → TL H1 p vss → SpTL sp ([.ref p] ++ []) H1 wss) : EvTL (tCall sp [] E (tCons ta tNil)) σ H wss := fun H1 e Q k =>
  h H1 e _ fun p H2 e2 hp => hs p H2 (e.trans e2) hp H2 (Ex.refl _) Q (fun q H3 nq e3 hq => k q H3 (fresh_back e2 nq) (e2.trans e3) hq) E
theorem etl_call4T {td : TE} {sp : Sp} {E : XK} (h : ETn ta σ H vss) (hx : ∀ H1, Ex H H1 → Ev tb σ H1 x) (hy : ∀ H1, Ex H H1 → Ev tc σ H1 y) (hz : ∀ H1, Ex H H1 → Ev td σ H1 z) (hs : ∀ p H1, Ex H H1 → TL H1 p vss → SpTL sp ([.ref p, x, y, z] ++ []) H1 wss) : EvTL (tCall sp [] E (tCons ta (tCons tb (tCons tc (tCons td tNil))))) σ H wss := fun H1 e Q k =>
  h H1 e _ fun p H2 e2 hp => hx H2 (e.trans e2) H2 (Ex.refl _) _ fun H3 e3 => hy H3 ((e.trans e2).trans e3) H3 (Ex.refl _) _ fun H4 e4 => hz H4 (((e.trans e2).trans e3).trans e4) H4 (Ex.refl _) _ fun H5 e5 => hs p H2 (e.trans e2) hp H5 ((e3.trans e4).trans e5) Q (fun q H6 nq e6 hq => k q H6 (fresh_back (((e2.trans e3).trans e4).trans e5) nq) ((((e2.trans e3).trans e4).trans e5).trans e6) hq) E
theorem etl_call3T {sp : Sp} {E : XK} (h : ETn ta σ H vss) (hx : ∀ H1, Ex H H1 → Ev tb σ H1 x) (hy : ∀ H1, Ex H H1 → Ev tc σ H1 y) (hs : ∀ p H1, Ex H H1 → TL H1 p vss → SpTL sp ([.ref p, x, y] ++ []) H1 wss) : EvTL (tCall sp [] E (tCons ta (tCons tb (tCons tc tNil)))) σ H wss := fun H1 e Q k =>
  h H1 e _ fun p H2 e2 hp => hx H2 (e.trans e2) H2 (Ex.refl _) _ fun H3 e3 => hy H3 ((e.trans e2).trans e3) H3 (Ex.refl _) _ fun H4 e4 => hs p H2 (e.trans e2) hp H4 (e3.trans e4) Q (fun q H6 nq e6 hq => k q H6 (fresh_back ((e2.trans e3).trans e4) nq) (((e2.trans e3).trans e4).trans e6) hq) E
theorem ev_call1T {sp : Sp} {E : XK} (h : ETn ta σ H vss) (hs : ∀ p H1, Ex H H1 → TL H1 p vss → SpV sp ([.ref p] ++ []) H1 z) : Ev (tCall sp [] E (tCons ta tNil)) σ H z := fun H1 e Q k =>
  h H1 e _ fun p H2 e2 hp => hs p H2 (e.trans e2) hp H2 (Ex.refl _) Q (fun H3 e3 => k H3 (e2.trans e3)) E
theorem el_call1T {sp : Sp} {E : XK} (h : ETn ta σ H vss) (hs : ∀ p H1, Ex H H1 → TL H1 p vss → SpL sp ([.ref p] ++ []) H1 zs) : EvL (tCall sp [] E (tCons ta tNil)) σ H zs := fun H1 e Q k =>
  h H1 e _ fun p H2 e2 hp => hs p H2 (e.trans e2) hp H2 (Ex.refl _) Q (fun q H3 nq e3 hq => k q H3 (fresh_back e2 nq) (e2.trans e3) hq) E
theorem ev_call2TT {sp : Sp} {E : XK} (h : ETn ta σ H vss) (h2 : ETn tb σ H wss) (hs : ∀ p q H1, Ex H H1 → TL H1 p vss → TL H1 q wss → SpV sp ([.ref p, .ref q] ++ []) H1 z) : Ev (tCall sp [] E (tCons ta (tCons tb tNil))) σ H z := fun H1 e Q k =>
  h H1 e _ fun p H2 e2 hp => h2 H2 (e.trans e2) _ fun q H3 e3 hq => hs p q H3 ((e.trans e2).trans e3) (hp.up e3) hq H3 (Ex.refl _) Q (fun H4 e4 => k H4 ((e2.trans e3).trans e4)) E
/-! comprehensions over tuples -/
theorem el_z3 {a : Addr} {j1 j2 j3 : Nat} {vs : List Nat} (h : Ev tl σ H (.ref a)) (hT : TL H a vss) (hv : ∀ us ∈ vss, ∃ x y z, us = [x, y, z]) (hz : zs.length = vss.length) (hn : vss.length ≤ 40000) (hw : ∀ x y z, wipe ((((wipe σ vs).set j1 (some x)).set j2 (some y)).set j3 (some z)) vs = wipe σ vs)
    (he : ∀ (i : Nat) (x y z w : V) H1, Ex H H1 → vss[i]? = some [x, y, z] → zs[i]? = some w → Ev te ((((wipe σ vs).set j1 (some x)).set j2 (some y)).set j3 (some z)) H1 w) : EvL (tLc (iList K tl) (gTup K 3 (gCons (gName j1) (gCons (gName j2) (gCons (gName j3) gNil)))) tYes te vs) σ H zs := fun H0 e Q q => h H0 e _ fun H1 e1 => by
  obtain ⟨rs, h1, h2⟩ := hT
  have hx : SqL K H a (rs.map V.ref) := sq_of h1
  refine ⟨a, rfl, ⟨_, ex_l (e.trans e1) hx⟩, fun Dl hD => ?_⟩
  refine lc_list (xs := rs.map V.ref) (Cz H1 zs Dl) ⟨hD, Ex.new hD, by rw [upd_same, List.take_zero]⟩ (fun i H' _ p => ex_l ((e.trans e1).trans p.2.1) hx) (fun i x H' hi p => ?_) (fun H' p => q Dl H' (fresh_back e1 p.1) (e1.trans p.2.1) (by rw [p.2.2, List.take_of_length_le (by rw [List.length_map, h2.len]; omega)]))
  obtain ⟨r, us, rfl, hus, hr⟩ := (h2.mono ((e.trans e1).trans p.2.1)).get hi
  obtain ⟨x, y, z, rfl⟩ := hv us (List.mem_of_getElem? hus)
  have hl : i < zs.length := by rw [hz]; exact (List.getElem?_eq_some_iff.mp hus).1
  refine ⟨r, _, rfl, st_of hr, rfl, _, _, rfl, _, _, rfl, _, _, rfl, rfl, hw x y z, ?_⟩
  exact cz_turn p (List.getElem?_eq_getElem hl) (by omega) (he i x y z _ H1 (e.trans e1) hus (List.getElem?_eq_getElem hl))
theorem el_zTg {a : Addr} {j : Nat} {vs : List Nat} (h : Ev tl σ H (.ref a)) (hT : TL H a vss) (hz : zs.length = vss.length) (hn : vss.length ≤ 40000) (hw : ∀ x, wipe ((wipe σ vs).set j (some x)) vs = wipe σ vs)
    (he : ∀ (i : Nat) (r : Addr) (us : List V) (w : V) H1, Ex H H1 → H1 r = some (.tup us) → vss[i]? = some us → zs[i]? = some w → Ev te ((wipe σ vs).set j (some (.ref r))) H1 w) : EvL (tLc (iList K tl) (gName j) tYes te vs) σ H zs := fun H0 e Q q => h H0 e _ fun H1 e1 => by
  obtain ⟨rs, h1, h2⟩ := hT
  have hx : SqL K H a (rs.map V.ref) := sq_of h1
  refine ⟨a, rfl, ⟨_, ex_l (e.trans e1) hx⟩, fun Dl hD => ?_⟩
  refine lc_list (xs := rs.map V.ref) (Cz H1 zs Dl) ⟨hD, Ex.new hD, by rw [upd_same, List.take_zero]⟩ (fun i H' _ p => ex_l ((e.trans e1).trans p.2.1) hx) (fun i x H' hi p => ?_) (fun H' p => q Dl H' (fresh_back e1 p.1) (e1.trans p.2.1) (by rw [p.2.2, List.take_of_length_le (by rw [List.length_map, h2.len]; omega)]))
  obtain ⟨r, us, rfl, hus, hr⟩ := (h2.mono (e.trans e1)).get hi
  have hl : i < zs.length := by rw [hz]; exact (List.getElem?_eq_some_iff.mp hus).1
  exact ⟨hw _, cz_turn p (List.getElem?_eq_getElem hl) (by omega) (he i r us _ H1 (e.trans e1) hr hus (List.getElem?_eq_getElem hl))⟩
/-! a dict from a comprehension over a list -/
theorem dc_listM {a : Addr} {xs : List V} {g : TG} {tt : TT} {tk tv : TE} {vs : List Nat} {σ : L2.St} {H1 : Hp} {Dd : Addr} {Qd : Hp → Prop} (Pv : Nat → Hp → Prop) (h0 : Pv 0 (upd H1 Dd (.dK []))) (hl : ∀ i H, i ≤ xs.length → Pv i H → SqL K H a xs)
    (hs : ∀ i x H, xs[i]? = some x → Pv i H → g x (wipe σ vs) H fun σ2 H2 => wipe σ2 vs = wipe σ vs ∧ tt σ2 H2 fun b H3 =>
      if b = true then tk σ2 H3 fun y H4 => tv σ2 H4 fun z H5 => ∃ kvs k, y = kV k ∧ H5 Dd = some (.dK kvs) ∧ kvs.length < sizeLine ∧ Pv (i + 1) (upd H5 Dd (.dK (putK kvs k z))) else Pv (i + 1) H3) (hd : ∀ H, Pv xs.length H → Qd H) :
    ∃ W : Nat → Nat → Hp → Prop, (∃ m, W 0 m (upd H1 Dd (.dK []))) ∧ ∀ i m H, W i m H →
      ((Itl K a).stop i H ∧ Qd H) ∨ ((Itl K a).go i H ∧ ∃ Nx : Hp → Prop, (∀ H', Nx H' → ∃ m', m' < m ∧ W (i + 1) m' H') ∧ ∀ x H', (Itl K a).yld i H x H' → g x (wipe σ vs) H' fun σ2 H2 => wipe σ2 vs = wipe σ vs ∧ tt σ2 H2 fun b H3 =>
        if b = true then tk σ2 H3 fun y H4 => tv σ2 H4 fun z H5 => ∃ kvs k, y = kV k ∧ H5 Dd = some (.dK kvs) ∧ kvs.length < sizeLine ∧ Nx (upd H5 Dd (.dK (putK kvs k z))) else Nx H3) := by
  refine ⟨fun i m H => m = xs.length - i ∧ i ≤ xs.length ∧ Pv i H, ⟨xs.length, by simp, Nat.zero_le _, h0⟩, ?_⟩
  rintro i m H ⟨rfl, hi, p⟩
  have q := hl i H hi p
  by_cases hlt : i < xs.length
  · refine .inr ⟨⟨xs, xs[i], q, by simp [hlt]⟩, Pv (i + 1), fun H' p' => ⟨xs.length - (i + 1), by omega, rfl, hlt, p'⟩, fun x H' y => ?_⟩
    obtain ⟨e, y⟩ := y
    subst e
    exact hs i x _ (y xs q) p
  · have e : i = xs.length := by omega
    subst e
    exact .inl ⟨⟨xs, q, by simp⟩, hd H p⟩
/-- a loop over a list of tuples that stands since Hb -/
theorem q_forTLb {Hb : Hp} {n : Nat} {tg : TGs} (h : Ev te σ H (.ref p)) (hT : TL Hb p vss) (hb : Ex Hb H) (hn : ∀ vs ∈ vss, vs.length = n) (Pv : Nat → L2.St → Hp → Prop) (h0 : ∀ H1, Ex H H1 → Pv 0 σ H1) (hE : ∀ i σ' H', Pv i σ' H' → Ex Hb H')
    (hs : ∀ i vs σ' H', vss[i]? = some vs → Pv i σ' H' → tg vs σ' H' fun σ2 H2 => tu { D with nx := Pv (i + 1), ct := Pv (i + 1), bk := tz D } σ2 H2) (hd : ∀ σ' H', Pv vss.length σ' H' → tz D σ' H') :
    tSeq (tFor (iList K te) (gTup K n tg) tu) tz D σ H := by
  obtain ⟨rs, h1, h2⟩ := hT
  refine q_forL h (sq_of (hb _ _ h1)) Pv h0 (fun i σ' H' _ pv => sq_of (hE i σ' H' pv _ _ h1)) (fun i x σ' H' hi pv => ?_) (fun σ' H' pv => hd σ' H' (by rw [List.length_map, h2.len] at pv; exact pv))
  obtain ⟨a, vs, rfl, hv, ha⟩ := (h2.mono (hE i σ' H' pv)).get hi
  exact ⟨a, vs, rfl, st_of ha, hn vs (List.mem_of_getElem? hv), hs i vs σ' H' hv pv⟩
theorem q_asgDc {a : Addr} {tt : TT} {tk tv : TE} {vs : List Nat} {i : Nat} (h : Ev tl σ H (.ref a)) (hx : SqL K H a xs) (Pv : Addr → Nat → Hp → Prop) (h0 : ∀ Dl H1, Ex H H1 → H1 Dl = none → Pv Dl 0 (upd H1 Dl (.dK []))) (hl : ∀ Dl i H', Pv Dl i H' → SqL K H' a xs)
    (hs : ∀ Dl i x H', xs[i]? = some x → Pv Dl i H' → g x (wipe σ vs) H' fun σ2 H2 => wipe σ2 vs = wipe σ vs ∧ tt σ2 H2 fun b H3 =>
      if b = true then tk σ2 H3 fun y H4 => tv σ2 H4 fun z H5 => ∃ kvs k, y = kV k ∧ H5 Dl = some (.dK kvs) ∧ kvs.length < sizeLine ∧ Pv Dl (i + 1) (upd H5 Dl (.dK (putK kvs k z))) else Pv Dl (i + 1) H3) (hd : ∀ Dl H', Pv Dl xs.length H' → tz D (σ.set i (some (.ref Dl))) H') : tSeq (tAsg (tDc (iList K tl) g tt tk tv vs) (gName i)) tz D σ H :=
  h H (Ex.refl H) _ fun H1 e1 => ⟨a, rfl, ⟨xs, ex_l e1 hx⟩, fun Dl hD => dc_listM (Pv Dl) (h0 Dl H1 e1 hD) (fun i H' _ => hl Dl i H') (hs Dl) (fun H' p => hd Dl H' p)⟩
end
section
variable {X : Cx}
theorem ps_setDc {i : Nat} {y : Str} {py : Pos} {kx vx tg iter : Expr} {ifs : List Expr} {scope : Scope} {own : List (Str × Nat)} {pos spos : Pos} {wi : TI} {g : TG} {tt : TT} {tk tv : TE} (hc : X.calm = true) (hN : X.N.Nodup) (hy : X.N[i]? = some y) (hyl : X.env.scope.names.lookup y = some .local)
    (hsw : swapsWith (.DictComp kx vx [⟨tg, iter, ifs, 0⟩] scope pos) (some (.Name y py)) spos.line X.env = pure true) (hi : PI X tg iter wi) (ok : BlkOk X.N X.env.scope scope own)
    (hg : ∀ (s : Shared) (H : Hp) (C : Addr) (cl : List (Str × Addr)) (fp : List Addr), PG (X.blk s H scope (compEnvC scope cl C X.env) fp) tg g) (ht : ∀ (s : Shared) (H : Hp) (C : Addr) (cl : List (Str × Addr)) (fp : List Addr), PTs (X.blk s H scope (compEnvC scope cl C X.env) fp) ifs tt)
    (hk : ∀ (s : Shared) (H : Hp) (C : Addr) (cl : List (Str × Addr)) (fp : List Addr), PE (X.blk s H scope (compEnvC scope cl C X.env) fp) kx tk)
    (he : ∀ (s : Shared) (H : Hp) (C : Addr) (cl : List (Str × Addr)) (fp : List Addr), PE (X.blk s H scope (compEnvC scope cl C X.env) fp) vx tv) (hs : ∀ x, foldedSetIterable iter X.env x = pure x := by intro _; rfl) :
    PS X (.Assign [.Name y py] (.DictComp kx vx [⟨tg, iter, ifs, 0⟩] scope pos) spos) (tAsg (tDc wi g tt tk tv (own.map (·.2))) (gName i)) := by
  refine ⟨fun pins s σ H D I h => ?_⟩
  rw [exec_Assign_Name_used _ _ _ _ hsw]
  refine wpAny_bind (wpAny_standAt (wpAny_bind ?_))
  show wpAny _ X.A (do let _ ← comprehension (.DictComp kx vx [⟨tg, iter, ifs, 0⟩] scope pos) scope X.env (firstIterPos [⟨tg, iter, ifs, 0⟩] pos) newDict false (eval iter X.env) (some (assign (.Name y py) X.env))) _ _ s
  have h : tDc wi g tt tk tv (own.map (·.2)) σ H (fun x H1 => gName i x σ H1 D.nx) := h
  refine wpAny_bind (thn (dc_core (Qf := fun _ s' => SP X pins D .next s') hc hN I hi ok hg ht hk he hs h fun L C s' m H' I' q hn f => ?_) fun _ s' hq => wpAny_pure (wpAny_pure hq))
  show wpAny _ _ (assign (.Name y py) X.env (.ref L)) _ _ _
  refine wpAny_assign_Name (store_ok2 (v := V.ref L) I' hN hy (.inl hyl) rfl (fun s2 I2 ⟨a, sb, ha⟩ => ?_) (.inr hyl))
  obtain ⟨f0, f1, f2, f3, f4, f5⟩ := f
  have haC : C ≠ a := by
    rcases ha with z | z
    · rw [z]; exact f1
    · exact fun e => f4 y a z e.symm
  refine ⟨m, hn.sameBut sb haC, fun h3 sb3 => ?_⟩
  exact ⟨_, H', I2.turned (t' := s2.toks) (fun b o hb e => (sb3.2 b hb).trans e) f0 f1 f3 f4 f5, q⟩
theorem sw_trueD {kx vx : Expr} {gs : List Comprehension} {scope : Scope} {pos py : Pos} {y : Str} {l : Nat} {env : Env} (hk : env.scope.kind = .function) (hy : env.scope.names.lookup y = some .local) (hl : (py.line == pos.line) = true)
    (ha : (scope.names.any fun (n, k) => n == y && (k == .local || k == .cell)) = false) : swapsWith (.DictComp kx vx gs scope pos) (some (.Name y py)) l env = pure true := by
  have ky : env.kindOf y = some .local := hy
  have hb : env.blockKind = .function := by unfold Env.blockKind; rw [hk]; rfl
  unfold swapsWith
  simp only [hb, ky, ha, Expr.pos, hl]
  rfl
end
section
variable {K : PySem.W.Frag} {σ : L2.St} {H H0 H' H1 : Hp} {ta0 : TA} {ta tb tc te tx tl : TE} {t u : TT} {x y z v : V} {r : R2} {xs ys zs vs us : List V} {p q l : Addr} {D : Ends} {tu tw tz : TS} {g : TG} {vss wss : List (List V)} {S R : List (List Nat)}
/-- what both ways of an if go on with -/
theorem q_share {ts : TS} (M : L2.St → Hp → Prop) (k : ∀ σ' H', M σ' H' → tz D σ' H') (h : (∀ σ' H', M σ' H' → tz D σ' H') → tSeq ts tz D σ H) : tSeq ts tz D σ H := h k
/-! extents and places -/
def l3 (e : Xt.E3) : List Nat := [e.1, e.2.1, e.2.2]
def l2 (q : Xt.P2) : List Nat := [q.1, q.2]
abbrev v3 (es : List Xt.E3) : List (List V) := nss (es.map l3)
abbrev v2 (ps : List Xt.P2) : List (List V) := nss (ps.map l2)
theorem v3_get {es : List Xt.E3} {i : Nat} (h : (v3 es)[i]? = some us) : ∃ e, es[i]? = some e ∧ us = [nV e.1, nV e.2.1, nV e.2.2] := by
  unfold v3 nss at h
  rw [List.map_map, List.getElem?_map] at h
  cases e : es[i]? with
  | none =>
    rw [e] at h
    cases h
  | some q =>
    rw [e] at h
    exact ⟨q, rfl, (Option.some.inj h).symm⟩
theorem v2_get {es : List Xt.P2} {i : Nat} (h : (v2 es)[i]? = some us) : ∃ e, es[i]? = some e ∧ us = [nV e.1, nV e.2] := by
  unfold v2 nss at h
  rw [List.map_map, List.getElem?_map] at h
  cases e : es[i]? with
  | none =>
    rw [e] at h
    cases h
  | some q =>
    rw [e] at h
    exact ⟨q, rfl, (Option.some.inj h).symm⟩
theorem v3_len (es : List Xt.E3) : (v3 es).length = es.length := by
  unfold v3 nss
  rw [List.length_map, List.length_map]
theorem v2_len (es : List Xt.P2) : (v2 es).length = es.length := by
  unfold v2 nss
  rw [List.length_map, List.length_map]
theorem v3_snoc (es : List Xt.E3) (e : Xt.E3) : v3 (es ++ [e]) = v3 es ++ [[nV e.1, nV e.2.1, nV e.2.2]] := by
  unfold v3 nss
  rw [List.map_append, List.map_append] <;> rfl
theorem v2_snoc (es : List Xt.P2) (e : Xt.P2) : v2 (es ++ [e]) = v2 es ++ [[nV e.1, nV e.2]] := by
  unfold v2 nss
  rw [List.map_append, List.map_append] <;> rfl
theorem v3_app (es fs : List Xt.E3) : v3 (es ++ fs) = v3 es ++ v3 fs := by
  unfold v3 nss
  rw [List.map_append, List.map_append]
theorem v3_rev (r : List Xt.E3) (e : Xt.E3) : v3 (e :: r).reverse = v3 r.reverse ++ [[nV e.1, nV e.2.1, nV e.2.2]] := by rw [List.reverse_cons, v3_snoc]
theorem v3_n (es : List Xt.E3) : ∀ us ∈ v3 es, us.length = 3 := fun us h => by
  obtain ⟨i, hi⟩ := List.mem_iff_getElem?.mp h
  obtain ⟨e, _, rfl⟩ := v3_get hi
  rfl
theorem v2_n (es : List Xt.P2) : ∀ us ∈ v2 es, us.length = 2 := fun us h => by
  obtain ⟨i, hi⟩ := List.mem_iff_getElem?.mp h
  obtain ⟨e, _, rfl⟩ := v2_get hi
  rfl
theorem v3_x (es : List Xt.E3) : ∀ us ∈ v3 es, ∃ x y z, us = [x, y, z] := fun us h => by
  obtain ⟨i, hi⟩ := List.mem_iff_getElem?.mp h
  obtain ⟨e, _, rfl⟩ := v3_get hi
  exact ⟨_, _, _, rfl⟩
/-- xs.extend(a new list) -/
theorem s_extN (hl : H l = some (.lst xs)) (ha : Ev ta σ H (.ref l)) (h : EvL te σ H ys) (hz : xs.length + ys.length ≤ 100000) (k : ∀ H1, Ex H H1 → D.nx σ (upd H1 l (.lst (xs ++ ys)))) : tDrop (tBM K "list" rExtend ta (tCons te tNil)) D σ H :=
  ha H (Ex.refl H) _ fun H1 e1 => ⟨Or.inl ⟨rfl, _, sq_of (e1 _ _ hl)⟩, h H1 e1 _ fun b H2 nb e2 hb => ⟨l, b, _, _, rfl, rfl, e2 _ _ (e1 _ _ hl), hb, sz_of hz, k H2 (e1.trans e2)⟩⟩
theorem ev_ixLst2 {k : Nat} (ha : EvL ta σ H xs) (hb : ∀ H1, Ex H H1 → Ev tb σ H1 (.int (k : Int))) (hx : xs[k]? = some v) : Ev (tOp (rIxL K) ta tb) σ H v := fun H1 e Q q =>
  ha H1 e _ fun p H2 _ e2 hp => hb H2 (e.trans e2) H2 (Ex.refl _) _ fun H3 e3 => (rv_ixLN (K := K) (sq_of (e3 _ _ hp)) hx) H3 (Ex.refl _) Q fun H4 e4 => q H4 ((e2.trans e3).trans e4)
theorem ev_maxI {i j : Int} (ha : Ev ta σ H (.int i)) (hb : Ev tb σ H (.int j)) : Ev (tCB (fun xs H Q => ∃ i j, xs = [.int i, .int j] ∧ Q (.int (if j > i then j else i)) H) (tCons ta (tCons tb tNil))) σ H (.int (if j > i then j else i)) := fun H1 e Q k =>
  ha H1 e _ fun H2 e2 => hb H2 (e.trans e2) _ fun H3 e3 => ⟨i, j, rfl, k H3 (e2.trans e3)⟩
theorem ev_minI {i j : Int} (ha : Ev ta σ H (.int i)) (hb : Ev tb σ H (.int j)) : Ev (tCB (fun xs H Q => ∃ i j, xs = [.int i, .int j] ∧ Q (.int (if j < i then j else i)) H) (tCons ta (tCons tb tNil))) σ H (.int (if j < i then j else i)) := fun H1 e Q k =>
  ha H1 e _ fun H2 e2 => hb H2 (e.trans e2) _ fun H3 e3 => ⟨i, j, rfl, k H3 (e2.trans e3)⟩
theorem pickB {x y : V} {b : Bool} : ([x, y] : List V)[(if b = true then 1 else 0 : Nat)]? = some (if b = true then y else x) := by cases b <;> rfl
theorem nIf {b : Bool} : (if b = true then (1 : Int) else 0) = (((if b = true then 1 else 0 : Nat)) : Int) := by cases b <;> rfl
/-- [0, o][int(t > 0)] -/
theorem ev_off {t o : Nat} (hb : ∀ H1, Ex H H1 → Ev tb σ H1 (nV o)) (ht : ∀ H1, Ex H H1 → Ev tc σ H1 (nV t)) : Ev (tOp (rIxL K) (tLst (tCons (tC (.int 0)) (tCons tb tNil))) (tCB (fun xs H Q => (∃ i, xs = [.int i] ∧ Q (.int i) H) ∨ ∃ k, xs = [.bl k] ∧ Q (.int (if k = true then 1 else 0)) H) (tCons (tOp (rI0 fun i j => .bl (decide (j < i))) tc (tC (.int 0))) tNil))) σ H (nV (Xt.off t o)) := by
  have e0 : (if decide ((0 : Int) < (t : Int)) = true then nV o else nV 0) = nV (Xt.off t o) := by
    unfold Xt.off
    by_cases h : t = 0
    · rw [if_pos h, if_neg (by rw [decide_eq_false (by omega)]; decide)]
    · rw [if_neg h, if_pos (decide_eq_true (by omega))]
  rw [← e0]
  exact ev_ixLst2 (k := if decide ((0 : Int) < (t : Int)) = true then 1 else 0) (el_lst (vs := [nV 0, nV o]) (ea_cons (ev_is ev_c rfl) (ea_cons (hb _ (Ex.refl _)) ea_nil)) (by simp)) (fun H7 e7 => ev_is (ev_intB (ev_op (ht _ e7) ev_c rv_I0)) (congrArg V.int nIf)) pickB
theorem op_inK {X : Cx} (h : X.K = K) : OpR X (compareOp .In) (rIn K false) := h ▸ op_in_seq
theorem op_notInK {X : Cx} (h : X.K = K) : OpR X (compareOp .NotIn) (rIn K true) := h ▸ op_notIn_seq
theorem el_fRx {ta : TA} {j lo n : Nat} {vs : List Nat} {g : Nat → Bool} {f : Nat → Nat} (h : EvA ta σ H [.int (lo : Int), .int (n : Int)]) (hln : lo ≤ n) (hn : n ≤ 10000) (hw : ∀ x, wipe ((wipe σ vs).set j (some x)) vs = wipe σ vs)
    (ht : ∀ (i : Nat) H1, Ex H H1 → i < n - lo → EvT t ((wipe σ vs).set j (some (nV (lo + i)))) H1 (g i)) (he : ∀ (i : Nat) H1, Ex H H1 → i < n - lo → Ev te ((wipe σ vs).set j (some (nV (lo + i)))) H1 (nV (f i))) :
    EvL (tLc (iRng2 ta) (gName j) t te vs) σ H ((((List.range (n - lo)).filter g).map f).map nV) := fun H0 e Q q => h H0 e _ fun H1 e1 => ⟨(lo : Int), (n : Int), rfl, ⟨by omega, by omega, by omega, by omega⟩, fun Dl hD =>
  lc_range (lo := (lo : Int)) (n := ((n : Int) - (lo : Int)).toNat) (Cw H1 (fun i => g i) (fun i => nV (f i)) Dl) ⟨hD, Ex.new hD, upd_same⟩ (fun i H' hi p => by
    have e0 : (lo : Int) + (i : Int) = ((lo + i : Nat) : Int) := by omega
    show wipe ((wipe σ vs).set j (some (.int ((lo : Int) + (i : Int))))) vs = wipe σ vs ∧ t ((wipe σ vs).set j (some (.int ((lo : Int) + (i : Int))))) H' fun b H3 => if b = true then te ((wipe σ vs).set j (some (.int ((lo : Int) + (i : Int))))) H3 fun y H4 => ∃ acc, H4 Dl = some (.lst acc) ∧ acc.length < sizeLine ∧ Cw H1 (fun i => g i) (fun i => nV (f i)) Dl (i + 1) (upd H4 Dl (.lst (acc ++ [y]))) else Cw H1 (fun i => g i) (fun i => nV (f i)) Dl (i + 1) H3
    rw [e0]
    exact ⟨hw _, cw_turn p (by omega) (ht i H1 (e.trans e1) (by omega)) (fun _ => he i H1 (e.trans e1) (by omega))⟩) (fun H' p => by
      refine q Dl H' (fresh_back e1 p.1) (e1.trans p.2.1) ?_
      rw [p.2.2]
      have e2 : ((n : Int) - (lo : Int)).toNat = n - lo := by omega
      rw [e2]
      unfold Evl.given
      rw [List.map_map]
      rfl)⟩
theorem ev_inLst2 (ha : Ev ta σ H x) (hb : EvL tb σ H xs) (hx : flatV x = true) (hf : xs.all flatV = true) : Ev (tOp (rIn K false) ta tb) σ H (.bl (inV x xs)) := fun H1 e Q k =>
  ha H1 e _ fun H2 e2 => hb H2 (e.trans e2) _ fun p H3 _ e3 hp => ⟨p, xs, rfl, Or.inl (sq_of hp), hx, hf, k H3 (e2.trans e3)⟩
theorem inV_nats2 {i : Nat} {l : List Nat} : inV (nV i) (l.map nV) = decide (i ∈ l) := by
  unfold inV
  rw [List.any_map, Bool.eq_iff_iff]
  simp only [List.any_eq_true, Function.comp, decide_eq_true_eq]
  constructor
  · rintro ⟨n, hn, h⟩
    have h : ((n : Int) == (i : Int)) = true := h
    have h2 : (n : Int) = (i : Int) := by simpa using h
    have h3 : n = i := by omega
    exact h3 ▸ hn
  · exact fun h => ⟨i, h, by show ((i : Int) == (i : Int)) = true; simp⟩
end
end Mx

set_option Elab.async false
set_option linter.all false
set_option maxRecDepth 100000
set_option maxHeartbeats 4000000
/-! Euclid's algorithm for polynomials: lengths. My own work. -/
namespace Py
open Gf
theorem tlen_top {p : List Nat} (h : 0 < tlen p) : ¬ at0 p (tlen p - 1) = 0 := (tlen_last p).resolve_left (by omega)
theorem tlen_prod {p q : List Nat} (hp : 0 < tlen p) (hq : 0 < tlen q) : tlen (prodL p q) = tlen p + tlen q - 1 := by
  refine tlen_eq (fun k hk => ?_) (.inr ?_)
  · rw [at0_prod, acc_full]
    refine xs_zero fun j hj => ?_
    by_cases h : j < tlen p
    · rw [tlen_zero q (k - j) (by omega), gm_zero (.inr rfl)]
    · rw [tlen_zero p j (by omega), gm_zero (.inl rfl)]
  · rw [at0_prod, acc_full, xs_only (k := tlen p - 1) (by omega) fun j hj hn => ?_]
    · have e : tlen p + tlen q - 1 - 1 - (tlen p - 1) = tlen q - 1 := by omega
      rw [e]
      exact fun z => tlen_top hq (gm_null z (tlen_top hp))
    · by_cases h : j < tlen p
      · rw [tlen_zero q _ (by omega), gm_zero (.inr rfl)]
      · rw [tlen_zero p j (by omega), gm_zero (.inl rfl)]
theorem tlen_sum_hi {p q : List Nat} (h : tlen p < tlen q) : tlen (sumL p q) = tlen q := by
  refine tlen_eq (fun k hk => ?_) (.inr ?_)
  · rw [at0_sum, tlen_zero p k (by omega), tlen_zero q k hk, Nat.xor_zero]
  · rw [at0_sum, tlen_zero p _ (by omega), Nat.zero_xor]
    exact tlen_top (by omega)
theorem div_len {l m x y : List Nat} (h : DivEnd l m x y) (hm : 0 < tlen m) (hl : tlen m ≤ tlen l) : x.length = tlen l - tlen m + 1 := by
  have hy : tlen y < tlen m := by
    have := h.lt
    have := h.ty
    omega
  have eq : ∀ k, at0 l k = at0 (prodL x m) k ^^^ at0 y k := fun k => by rw [h.eq k, at0_prod]
  rw [← h.tx]
  by_cases hx : 0 < tlen x
  · have hP := tlen_prod hx hm
    have : tlen l = tlen x + tlen m - 1 := by
      refine tlen_eq (fun k hk => ?_) (.inr ?_)
      · rw [eq, tlen_zero _ k (by rw [hP]; exact hk), tlen_zero y k (by omega), Nat.xor_zero]
      · rw [eq, tlen_zero y _ (by omega), Nat.xor_zero, ← hP]
        exact tlen_top (by omega)
    omega
  · exfalso
    have hl0 : ∀ k, tlen y ≤ k → at0 l k = 0 := fun k hk => by
      have z : at0 (prodL x m) k = 0 := by
        rw [at0_prod, acc_full]
        exact xs_zero fun j hj => by rw [tlen_zero x j (by omega), gm_zero (.inl rfl)]
      rw [eq, z, tlen_zero y k hk, Nat.xor_zero]
    have := tlen_le_of hl0
    omega
theorem tlen_lin {p : List Nat} {c : Nat} (hp : 0 < tlen p) : tlen (prodL p [c, 1]) = tlen p + 1 := by
  have h2 : tlen [c, 1] = 2 := tlen_eq (fun k hk => at0_none (by simpa using hk)) (.inr (by show ¬ (1 = 0); decide))
  rw [tlen_prod hp (by omega), h2]
  omega
/-- the pairs of Euclid's algorithm -/
structure Eu (n : Nat) (b r fb f : List Nat) : Prop where
  ob : Oc b
  or' : Oc r
  ofb : Oc fb
  of' : Oc f
  tb : tlen b = b.length
  tr : tlen r = r.length
  tfb : tlen fb = fb.length
  tf : tlen f = f.length
  lt : r.length < b.length
  lf : fb.length < f.length
  sum : f.length + b.length = n + 2
theorem eu_step {n : Nat} {b r fb f x y : List Nat} (h : Eu n b r fb f) (h0 : 0 < r.length) (d : DivEnd b r x y) : Eu n r y f (trim (sumL fb (trim (prodL x f)))) := by
  have hx := div_len d (by rw [h.tr]; exact h0) (by rw [h.tr, h.tb]; have := h.lt; omega)
  rw [h.tb, h.tr] at hx
  have hlt := h.lt
  have hlf := h.lf
  have hP : tlen (trim (prodL x f)) = x.length + f.length - 1 := by
    rw [tlen_trim, trim_length, tlen_prod (by rw [d.tx]; omega) (by rw [h.tf]; omega), d.tx, h.tf]
  have hS : tlen (sumL fb (trim (prodL x f))) = x.length + f.length - 1 := by
    rw [tlen_sum_hi (by rw [hP, h.tfb]; omega), hP]
  have hlen : (trim (sumL fb (trim (prodL x f)))).length = x.length + f.length - 1 := by rw [trim_length, hS]
  have dl := d.lt
  have dt := h.tr
  exact ⟨h.or', d.oy, h.of', oc_trim (oc_sum h.ofb (oc_trim (oc_prod _ _))), h.tr, d.ty, h.tf, tlen_trim _, by omega, by omega, by have := h.sum; omega⟩
/-- the polynomial that is nought at all these x -/
def vps (ps : List (Nat × Nat)) : List Nat := ps.foldl (fun v q => trim (prodL v [q.1, 1])) [1]
theorem vps_snoc (ps : List (Nat × Nat)) (q : Nat × Nat) : vps (ps ++ [q]) = trim (prodL (vps ps) [q.1, 1]) := by
  unfold vps
  rw [List.foldl_append] <;> rfl
theorem vps_ok : ∀ (n : Nat) (ps : List (Nat × Nat)), ps.length = n → (∀ q ∈ ps, q.1 < 256) → Oc (vps ps) ∧ tlen (vps ps) = (vps ps).length ∧ (vps ps).length = n + 1
  | 0, ps, h, _ => by
    have : ps = [] := List.length_eq_zero_iff.mp h
    subst this
    exact ⟨oc_of fun c hc => by rw [List.mem_singleton.mp hc]; decide, rfl, rfl⟩
  | n + 1, ps, h, hq => by
    rcases List.eq_nil_or_concat ps with h0 | ⟨qs, q, h0⟩
    · rw [h0] at h
      simp at h
    · rw [List.concat_eq_append] at h0
      subst h0
      rw [List.length_append, List.length_singleton] at h
      obtain ⟨i1, i2, i3⟩ := vps_ok n qs (by omega) fun x hx => hq x (List.mem_append_left _ hx)
      rw [vps_snoc]
      refine ⟨oc_trim (oc_prod _ _), tlen_trim _, ?_⟩
      rw [trim_length, tlen_lin (by omega), i2, i3]
end Py

set_option Elab.async false
set_option linter.all false
set_option maxRecDepth 100000
set_option maxHeartbeats 4000000
namespace Mx
open PySem PySem.Spec PyProof.Rows L2 Evl
/-! ### calls that may raise, told by what the callee promises -/
section
variable {K : PySem.W.Frag} {σ : L2.St} {H H0 H' H1 : Hp} {ta0 t : TA} {ta tb tc te tv : TE} {p q a C : Addr} {dx : Addr} {fs : List (Str × V)} {f m : Str} {x y z v : V} {D : Ends} {tu tz : TS} {M : List (List Nat)} {rs : List Addr} {l : List Nat} {xs ys : List V} {sp : Sp} {dvs vs : List V} {E : XK} {Q : VK}
theorem raw_meth (ho : Ev ta σ H (.ref a)) (hi : H a = some (.ins C dx fs)) (hm : fs.lookup m = none) (k : ∀ H1, Ex H H1 → t σ H1 fun vs H2 => sp (.ref a :: (vs ++ dvs)) H2 Q E) : tMeth C m sp dvs E ta t σ H Q :=
  ho H (Ex.refl H) _ fun H1 e1 => ⟨a, dx, fs, rfl, e1 _ _ hi, hm, k H1 e1⟩
theorem raw_call (h : EvA ta0 σ H vs) (k : ∀ H1, Ex H H1 → sp (vs ++ dvs) H1 Q E) : tCall sp dvs E ta0 σ H Q := h H (Ex.refl H) _ k
theorem raw_args {QA : List V → Hp → Prop} (h : EvA ta0 σ H vs) (k : ∀ H1, Ex H H1 → QA vs H1) : ta0 σ H QA := h H (Ex.refl H) _ k
theorem raw_cons {QA : List V → Hp → Prop} (h : Ev te σ H x) (k : ∀ H1, Ex H H1 → t σ H1 fun vs H2 => QA (x :: vs) H2) : tCons te t σ H QA := h H (Ex.refl H) _ k
theorem q_dropCall (h : EvA ta0 σ H vs) (hs : ∀ H1, Ex H H1 → sp (vs ++ dvs) H1 (fun _ H2 => tz D σ H2) E) : tSeq (tDrop (tCall sp dvs E ta0)) tz D σ H := h H (Ex.refl H) _ hs
theorem s_dropCall (h : EvA ta0 σ H vs) (hs : ∀ H1, Ex H H1 → sp (vs ++ dvs) H1 (fun _ H2 => D.nx σ H2) E) : tDrop (tCall sp dvs E ta0) D σ H := h H (Ex.refl H) _ hs
theorem s_dropMeth (ho : Ev ta σ H (.ref a)) (hi : H a = some (.ins C dx fs)) (hm : fs.lookup m = none) (h : ∀ H1, Ex H H1 → EvA ta0 σ H1 vs) (hs : ∀ H1, Ex H H1 → sp (.ref a :: (vs ++ dvs)) H1 (fun _ H2 => D.nx σ H2) E) : tDrop (tMeth C m sp dvs E ta ta0) D σ H :=
  ho H (Ex.refl H) _ fun H2 e2 => ⟨a, dx, fs, rfl, e2 _ _ hi, hm, h H2 e2 H2 (Ex.refl _) _ fun H3 e3 => hs H3 (e2.trans e3)⟩
theorem q_asgMeth {i : Nat} (ho : Ev ta σ H (.ref a)) (hi : H a = some (.ins C dx fs)) (hm : fs.lookup m = none) (h : ∀ H1, Ex H H1 → EvA ta0 σ H1 vs) (hs : ∀ H1, Ex H H1 → sp (.ref a :: (vs ++ dvs)) H1 (fun v H2 => tz D (σ.set i (some v)) H2) E) : tSeq (tAsg (tMeth C m sp dvs E ta ta0) (gName i)) tz D σ H :=
  ho H (Ex.refl H) _ fun H2 e2 => ⟨a, dx, fs, rfl, e2 _ _ hi, hm, h H2 e2 H2 (Ex.refl _) _ fun H3 e3 => hs H3 (e2.trans e3)⟩
/-- the least, the greatest number of a list -/
theorem ev_minG {s : Nat} (ha : Ev ta σ H (.ref p)) (h : LN H p l) (hs : s ∈ l) (hle : ∀ y ∈ l, s ≤ y) : Ev (tCB (rMin K) (tCons ta tNil)) σ H (nV s) := fun H1 e Q k =>
  ha H1 e _ fun H2 e2 => ⟨p, l.map fun n : Nat => (n : Int), rfl, by
    have := sq_of (K := K) (h.up (e.trans e2))
    rw [List.map_map]
    exact this, by rw [List.length_map]; exact List.length_pos_of_mem hs, fun m hm hmin => by
      obtain ⟨n, hn, e3⟩ := List.mem_map.mp hm
      have h1 := hmin (s : Int) (List.mem_map.mpr ⟨s, hs, rfl⟩)
      have h2 := hle n hn
      have e4 : n = s := by omega
      rw [e4] at e3
      rw [← e3]
      exact k H2 e2⟩
theorem ev_maxG {s : Nat} (ha : Ev ta σ H (.ref p)) (h : LN H p l) (hs : s ∈ l) (hle : ∀ y ∈ l, y ≤ s) : Ev (tCB (rMax K) (tCons ta tNil)) σ H (nV s) := fun H1 e Q k =>
  ha H1 e _ fun H2 e2 => ⟨p, l.map fun n : Nat => (n : Int), rfl, by
    have := sq_of (K := K) (h.up (e.trans e2))
    rw [List.map_map]
    exact this, by rw [List.length_map]; exact List.length_pos_of_mem hs, fun m hm hmax => by
      obtain ⟨n, hn, e3⟩ := List.mem_map.mp hm
      have h1 := hmax (s : Int) (List.mem_map.mpr ⟨s, hs, rfl⟩)
      have h2 := hle n hn
      have e4 : n = s := by omega
      rw [e4] at e3
      rw [← e3]
      exact k H2 e2⟩
theorem min_of : ∀ {l : List Nat}, 0 < l.length → ∃ s ∈ l, ∀ y ∈ l, s ≤ y
  | [a], _ => ⟨a, List.mem_cons_self .., fun y hy => by rw [List.mem_singleton.mp hy]; exact Nat.le_refl _⟩
  | a :: b :: l, _ => by
    obtain ⟨s, hs, hle⟩ := min_of (l := b :: l) (Nat.succ_pos _)
    by_cases h : a ≤ s
    · exact ⟨a, List.mem_cons_self .., fun y hy => by
        rcases List.mem_cons.mp hy with rfl | hy
        · exact Nat.le_refl _
        · exact Nat.le_trans h (hle y hy)⟩
    · exact ⟨s, List.mem_cons_of_mem _ hs, fun y hy => by
        rcases List.mem_cons.mp hy with rfl | hy
        · omega
        · exact hle y hy⟩
theorem max_of : ∀ {l : List Nat}, 0 < l.length → ∃ s ∈ l, ∀ y ∈ l, y ≤ s
  | [a], _ => ⟨a, List.mem_cons_self .., fun y hy => by rw [List.mem_singleton.mp hy]; exact Nat.le_refl _⟩
  | a :: b :: l, _ => by
    obtain ⟨s, hs, hle⟩ := max_of (l := b :: l) (Nat.succ_pos _)
    by_cases h : s ≤ a
    · exact ⟨a, List.mem_cons_self .., fun y hy => by
        rcases List.mem_cons.mp hy with rfl | hy
        · exact Nat.le_refl _
        · exact Nat.le_trans (hle y hy) h⟩
    · exact ⟨s, List.mem_cons_of_mem _ hs, fun y hy => by
        rcases List.mem_cons.mp hy with rfl | hy
        · omega
        · exact hle y hy⟩
/-- lists of one length that is not nought -/
def Evn (M : List (List Nat)) : Prop := ∃ s, 1 ≤ s ∧ ∀ m ∈ M, m.length = s
/-- [x for row in rows for x in row] -/
theorem el_flat {tl tin : TE} {j j1 : Nat} {vs vs1 : List Nat} {B : List (List Nat)} (h : Ev tl σ H (.ref a)) (hB : MN H a B) (hz : B.flatten.length ≤ 40000)
    (hw1 : ∀ x, wipe ((wipe σ vs).set j (some x)) vs = wipe σ vs) (hw2 : ∀ x y, wipe ((wipe ((wipe σ vs).set j (some x)) vs1).set j1 (some y)) vs1 = wipe ((wipe σ vs).set j (some x)) vs1)
    (hv : ∀ r H', Ev tin ((wipe σ vs).set j (some (.ref r))) H' (.ref r))
    (hx : ∀ x (n : Nat) H2 (Q : VK), Q (nV n) H2 → te ((wipe ((wipe σ vs).set j (some x)) vs1).set j1 (some (nV n))) H2 Q) :
    EvL (tLc2 (iList K tl) (gName j) tYes (iList K tin) (gName j1) tYes te vs vs1) σ H (B.flatten.map nV) := by
  intro H0 e Q k
  obtain ⟨rs, t1, t2⟩ := hB
  have len : (rs.map V.ref).length = B.length := by rw [List.length_map, t2.len]
  refine h H0 e _ fun H1 e1 => ⟨a, rfl, ⟨_, sq_of ((e.trans e1) _ _ t1)⟩, fun Dl hD => ?_⟩
  have bnd : ∀ i, i ≤ B.length → (B.take i).flatten.length ≤ B.flatten.length := fun i _ => by
    have h0 : B.flatten = (B.take i).flatten ++ (B.drop i).flatten := by rw [← List.flatten_append, List.take_append_drop]
    rw [h0, List.length_append]
    omega
  refine walk_l (K := K) (a := a) (xs := rs.map V.ref) (fun i H' => Ex H1 H' ∧ H' Dl = some (.lst ((B.take i).flatten.map nV))) ⟨Ex.new hD, by rw [upd_same, List.take_zero] <;> rfl⟩ (fun i H' _ p => sq_of (p.1 _ _ ((e.trans e1) _ _ t1))) (fun i x H' hx1 p => ?_) (fun H' p => ?_)
  · obtain ⟨p1, p2⟩ := p
    have hi : i < B.length := by
      rw [← len]
      exact (List.getElem?_eq_some_iff.mp hx1).1
    have t3 := t2.mono ((e.trans e1).trans p1)
    obtain ⟨r, hr1, hr2⟩ := t3.at hi
    rw [List.getElem?_map, hr1] at hx1
    obtain rfl := (Option.some.inj hx1).symm
    have hsn : B.take (i + 1) = B.take i ++ [Py.at1 B i] := by rw [List.take_add_one, Py.at1_get hi] <;> rfl
    have hfl : (B.take (i + 1)).flatten = (B.take i).flatten ++ Py.at1 B i := by rw [hsn, List.flatten_append]; simp
    have hb2 := bnd (i + 1) hi
    rw [hfl, List.length_append] at hb2
    refine ⟨hw1 _, tyes_of ((hv r H') H' (Ex.refl _) _ fun H3 e3 => ⟨r, rfl, ⟨_, sq_of (e3 _ _ hr2)⟩, ?_⟩)⟩
    have hrH1 : ∃ o, H1 r = some o := by
      obtain ⟨r2, q1, q2⟩ := (t2.mono (e.trans e1)).at hi
      rw [hr1] at q1
      obtain rfl := Option.some.inj q1
      exact ⟨_, q2⟩
    obtain ⟨o1, hrH1⟩ := hrH1
    have hne : r ≠ Dl := ne_of_none hrH1 hD
    refine walk_l (K := K) (a := r) (xs := (Py.at1 B i).map nV) (fun jj H' => Ex H1 H' ∧ H' Dl = some (.lst (((B.take i).flatten ++ (Py.at1 B i).take jj).map nV)) ∧ LN H' r (Py.at1 B i)) ⟨p1.trans e3, by rw [List.take_zero, List.append_nil]; exact e3 _ _ p2, e3 _ _ hr2⟩ (fun jj H' _ q => sq_of q.2.2) (fun jj y H5 hy q => ?_) (fun H' q => ?_)
    · obtain ⟨q1, q2, q3⟩ := q
      obtain ⟨hjj, rfl⟩ := nat_of_get hy
      refine ⟨hw2 _ _, tyes_of (hx _ _ H5 _ ⟨_, q2, sz_lt (by rw [List.length_map, List.length_append, List.length_take]; omega), Ex.mut q1 hD, ?_, by rw [LN, upd_ne hne]; exact q3⟩)⟩
      rw [upd_same, List.take_add_one, Py.at0_get hjj, ← List.append_assoc, List.map_append (l₁ := (B.take i).flatten ++ _)] <;> rfl
    · refine ⟨q.1, ?_⟩
      have h2 := q.2.1
      rw [List.length_map, List.take_length] at h2
      rw [hfl]
      exact h2
  · rw [len, List.take_length] at p
    exact k Dl H' (fresh_back e1 hD) (e1.trans p.1) p.2
end
section
variable {X : Cx}
theorem takes_lock {W : WX} {d : Addr} {od : Obj} {u : HO} (tk : Takes X W) (nf : ∀ o' u', X.H_0 d ≠ some (.frz o' u')) : Takes X (fun cls e σ H' => H' d = some (.frz od u) ∧ W cls e σ (upd H' d u)) := by
  rintro v s' ⟨a, B, sI, pins, σ, H, cls, e, rfl, I, nb, up, sky, na, os, ag, h1, h2⟩
  refine tk _ _ ⟨a, B, sI, pins, σ, upd H d u, cls, e, rfl, I.unlock h1 nf, nb, up, sky, ?_, os, ag, h2⟩
  rw [upd_ne (fun z => by rw [z, h1] at na; cases na)]
  exact na
/-- a loop over a thing that is locked, where something may be raised -/
def tLockX (t : WX → TS) (W : WX) : TS := fun D σ H => ∃ d u, H d = some u ∧ Mut (some u) ∧ ∀ od, t (fun cls e σ' H' => H' d = some (.frz od u) ∧ W cls e σ' (upd H' d u)) ⟨fun σ' H' => H' d = some (.frz od u) ∧ D.nx σ' (upd H' d u), fun v H' => H' d = some (.frz od u) ∧ D.rt v (upd H' d u), fun σ' H' => H' d = some (.frz od u) ∧ D.bk σ' (upd H' d u), fun σ' H' => H' d = some (.frz od u) ∧ D.ct σ' (upd H' d u)⟩ σ (upd H d (.frz od u))
theorem ps_lockX {W : WX} {st : Stmt} {t : WX → TS} (tk : Takes X W) (h : ∀ W', Takes X W' → PS X st (t W')) : PS X st (tLockX t W) := by
  refine ⟨fun pins s σ H D I hw => ?_⟩
  obtain ⟨d, u, hd, mu, hw⟩ := hw
  obtain ⟨od, I1⟩ := I.lock hd mu
  have nf := I.nofrz hd mu
  refine thn ((h _ (takes_lock tk nf)).run pins s σ _ _ I1 (hw od)) fun f s1 q => ?_
  cases f with
  | next => obtain ⟨σ', H', I2, e, q⟩ := q; exact ⟨σ', _, I2.unlock e nf, q⟩
  | brk => obtain ⟨σ', H', I2, e, q⟩ := q; exact ⟨σ', _, I2.unlock e nf, q⟩
  | cont => obtain ⟨σ', H', I2, e, q⟩ := q; exact ⟨σ', _, I2.unlock e nf, q⟩
  | ret v => obtain ⟨x, σ', H', I2, r, e, q⟩ := q; exact ⟨x, σ', _, I2.unlock e nf, r, q⟩
end
section
variable {K : PySem.W.Frag} {σ : L2.St} {H H0 H' H1 : Hp} {ta0 t : TA} {ta tb tc te tv td : TE} {p q a C d : Addr} {D : Ends} {tu tz : TS} {M : List (List Nat)} {rs : List Addr} {l : List Nat} {xs ys zs : List V} {sp : Sp} {vs : List V} {kvs : List (Key × V)}
/-- for k in d: .., where a turn may raise -/
theorem q_forKeysX {j : Nat} {W : WX} {tb : WX → TS} (hd : H d = some (.dK kvs)) (hv : ∀ H1, Ev td σ H1 (.ref d)) (Pv : Obj → Nat → L2.St → Hp → Prop) (h0 : ∀ od H1, Ex (upd H d (.frz od (.dK kvs))) H1 → Pv od 0 σ H1) (hl : ∀ od i σ' H', Pv od i σ' H' → H' d = some (.frz od (.dK kvs)))
    (hs : ∀ od (D2 : Ends) i k v σ' H', kvs[i]? = some (k, v) → Pv od i σ' H' → tb (fun cls e σ' H' => H' d = some (.frz od (.dK kvs)) ∧ W cls e σ' (upd H' d (.dK kvs))) { D2 with nx := Pv od (i + 1), ct := Pv od (i + 1) } (σ'.set j (some (kV k))) H') (hk : ∀ od σ' H', Pv od kvs.length σ' H' → tz D σ' (upd H' d (.dK kvs))) : tSeq (tLockX (fun W' => tFor (iKeys td) (gName j) (tb W')) W) tz D σ H := by
  refine ⟨d, .dK kvs, hd, trivial, fun od => ?_⟩
  refine hv _ _ (Ex.refl _) _ fun H1 e1 => ⟨d, od, rfl, .inl ⟨kvs, e1 _ _ upd_same, ?_⟩⟩
  refine for_it (walk_keys (kvs := kvs)) (Pv od) (h0 od H1 e1) (fun i σ' H' _ p => hl od i σ' H' p) (fun i v σ' H' H2 hi p yy => ?_) fun σ' H' p => ⟨hl od _ _ _ p, hk od σ' H' p⟩
  obtain ⟨rfl, k, w, hkv, rfl⟩ := yy
  exact hs od ⟨fun _ _ => False, _, _, fun _ _ => False⟩ i k w σ' _ hkv p
/-! ### a dict from whole numbers to lists of numbers -/
def pkI (S : List Int) (rs : List Addr) : List (Key × V) := List.zipWith (fun (i : Int) (r : Addr) => ((Sum.inl i : Key), V.ref r)) S rs
def PiAt (H : Hp) (d : Addr) (S : List Int) (F : Int → List Nat) : Prop := ∃ rs, H d = some (.dK (pkI S rs)) ∧ LR H rs (S.map F)
theorem PiAt.up {S : List Int} {F : Int → List Nat} (h : PiAt H d S F) (e : Ex H H') : PiAt H' d S F := by
  obtain ⟨rs, h1, h2⟩ := h
  exact ⟨rs, e _ _ h1, h2.mono e⟩
theorem pkI_len {S : List Int} (h : rs.length = S.length) : (pkI S rs).length = S.length := by
  unfold pkI
  rw [List.length_zipWith, h, Nat.min_self]
theorem pkI_at : ∀ {S : List Int} {rs : List Addr} {i : Nat} {k : Key} {v : V}, (pkI S rs)[i]? = some (k, v) → ∃ n, S[i]? = some n ∧ k = Sum.inl n
  | [], rs, i, k, v, h => by simp [pkI] at h
  | s :: S, [], i, k, v, h => by simp [pkI] at h
  | s :: S, r :: rs, 0, k, v, h => by
    simp [pkI] at h
    exact ⟨s, rfl, h.1.symm⟩
  | s :: S, r :: rs, i + 1, k, v, h => by
    have h2 : (pkI S rs)[i]? = some (k, v) := by
      simpa [pkI] using h
    obtain ⟨n, h3, h4⟩ := pkI_at h2
    exact ⟨n, by simpa using h3, h4⟩
theorem pkI_vals : ∀ {S : List Int} {rs : List Addr}, rs.length = S.length → (pkI S rs).map (·.2) = rs.map V.ref
  | [], [], _ => rfl
  | s :: S, r :: rs, h => by
    have := pkI_vals (S := S) (rs := rs) (by simpa using h)
    unfold pkI at this ⊢
    rw [List.zipWith_cons_cons, List.map_cons, this] <;> rfl
  | [], _ :: _, h => by simp at h
  | _ :: _, [], h => by simp at h
theorem pkI_nat (S : List Nat) (rs : List Addr) : pkI (S.map fun n : Nat => (n : Int)) rs = pk S rs := by
  unfold pkI pk
  rw [List.zipWith_map_left]
theorem PiAt.nat {S : List Nat} {W : List (List Nat)} {F : Int → List Nat} (h : PiAt H d (S.map fun n : Nat => (n : Int)) F) (hF : ∀ n ∈ S, F (n : Int) = Py.at1 W n) : PcAt H d S W := by
  obtain ⟨rs, h1, h2⟩ := h
  rw [pkI_nat] at h1
  refine ⟨rs, h1, ?_⟩
  rw [List.map_map] at h2
  rw [show S.map (Py.at1 W) = S.map (F ∘ fun n : Nat => (n : Int)) from List.map_congr_left fun n hn => (hF n hn).symm]
  exact h2
theorem s_dropCallS {ES : L2.St → XK} (h : EvA ta0 σ H vs) (hs : ∀ H1, Ex H H1 → sp vs H1 (fun _ H2 => D.nx σ H2) (ES σ)) : tDrop (tCallS sp ES ta0) D σ H := h H (Ex.refl H) _ hs
theorem s_dropCall1L {E : XK} (h : EvL ta σ H xs) (hs : ∀ q H1, H q = none → Ex H H1 → H1 q = some (.lst xs) → sp ([.ref q] ++ []) H1 (fun _ H2 => D.nx σ H2) E) : tDrop (tCall sp [] E (tCons ta tNil)) D σ H := h H (Ex.refl H) _ fun q H1 nq e1 hq => hs q H1 nq e1 hq
theorem q_parVV {i j : Nat} {x y : V} (h1 : Ev ta σ H x) (h2 : Ev tb σ H y) (k : ∀ H1, Ex H H1 → tz D ((σ.set i (some x)).set j (some y)) H1) : tSeq (tPar i j (tCons ta (tCons tb tNil))) tz D σ H :=
  h1 H (Ex.refl H) _ fun H1 e1 => h2 H1 e1 _ fun H2 e2 => ⟨_, _, rfl, k H2 (e1.trans e2)⟩
theorem s_parVV {i j : Nat} {x y : V} (h1 : Ev ta σ H x) (h2 : Ev tb σ H y) (k : ∀ H1, Ex H H1 → D.nx ((σ.set i (some x)).set j (some y)) H1) : tPar i j (tCons ta (tCons tb tNil)) D σ H :=
  h1 H (Ex.refl H) _ fun H1 e1 => h2 H1 e1 _ fun H2 e2 => ⟨_, _, rfl, k H2 (e1.trans e2)⟩
theorem ev_allG {bs : List Bool} (h : EvL te σ H (bs.map V.bl)) : Ev (tCB (rAll K) (tCons te tNil)) σ H (.bl (bs.all id)) := fun H1 e Q k =>
  h H1 e _ fun p H2 _ e2 hp => ⟨p, bs, rfl, sq_of hp, k H2 e2⟩
theorem eqv_nats : ∀ l m : List Nat, PyData.eqvAll (l.map dN) (m.map dN) = decide (l = m)
  | [], [] => rfl
  | [], _ :: _ => rfl
  | _ :: _, [] => rfl
  | a :: l, b :: m => by
    show (PyData.eqv (dN a) (dN b) && PyData.eqvAll (l.map dN) (m.map dN)) = _
    rw [eqv_nats l m]
    show (((a : Int) == (b : Int)) && decide (l = m)) = decide (a :: l = b :: m)
    rw [Bool.eq_iff_iff, Bool.and_eq_true, beq_iff_eq, decide_eq_true_eq, decide_eq_true_eq, List.cons.injEq]
    constructor
    · exact fun h => ⟨by omega, h.2⟩
    · exact fun h => ⟨by omega, h.2⟩
theorem rv_eqG {l m : List Nat} (h : LN H p l) (h2 : LN H q m) : RV (rEqD K) (.ref p) (.ref q) H (.bl (decide (l = m))) := fun H1 e Q k =>
  ⟨_, _, dp_list (sq_of (h.up e)), dp_list (sq_of (h2.up e)), shaped_nats l, shaped_nats m, by
    show Q (.bl (PyData.eqvAll (l.map dN) (m.map dN))) H1
    rw [eqv_nats]
    exact k H1 (Ex.refl H1)⟩
theorem rv_neG {l m : List Nat} (h : LN H p l) (h2 : LN H q m) : RV (rNeD K) (.ref p) (.ref q) H (.bl (!decide (l = m))) := fun H1 e Q k =>
  ⟨_, _, dp_list (sq_of (h.up e)), dp_list (sq_of (h2.up e)), shaped_nats l, shaped_nats m, by
    show Q (.bl (!PyData.eqvAll (l.map dN) (m.map dN))) H1
    rw [eqv_nats]
    exact k H1 (Ex.refl H1)⟩
theorem q_parLX {i j : Nat} (h1 : EvL ta σ H xs) (h2 : ∀ p H1, H p = none → Ex H H1 → H1 p = some (.lst xs) → tb σ H1 fun y H2 => ∃ u v, ([.ref p, y] : List V) = [u, v] ∧ tz D ((σ.set i (some u)).set j (some v)) H2) : tSeq (tPar i j (tCons ta (tCons tb tNil))) tz D σ H :=
  h1 H (Ex.refl H) _ fun p H1 np e1 hp => h2 p H1 np e1 hp
theorem q_asgG {g : TG} {E : XK} (h : EvA ta0 σ H vs) (k : ∀ H1, Ex H H1 → sp (vs ++ []) H1 (fun v H2 => g v σ H2 fun σ2 H3 => tz D σ2 H3) E) : tSeq (tAsg (tCall sp [] E ta0) g) tz D σ H := h H (Ex.refl H) _ k
theorem s_retIx {r : R2} {E : XK} (h : EvA ta0 σ H vs) (k : ∀ H1, Ex H H1 → sp (vs ++ []) H1 (fun x H2 => tb σ H2 fun y H3 => r x y H3 D.rt) E) : tRet (tOp r (tCall sp [] E ta0) tb) D σ H := h H (Ex.refl H) _ k
theorem q_dropCall1L {E : XK} (h : EvL ta σ H xs) (hs : ∀ q H1, H q = none → Ex H H1 → H1 q = some (.lst xs) → sp ([.ref q] ++ []) H1 (fun _ H2 => tz D σ H2) E) : tSeq (tDrop (tCall sp [] E (tCons ta tNil))) tz D σ H := h H (Ex.refl H) _ fun q H1 nq e1 hq => hs q H1 nq e1 hq
def RetLo (l : List Nat) (H : Hp) (Q : VK) : Prop := ∀ q H', Ex H H' → LN H' q l → Q (.ref q) H'
/-- [f(x, y) for x, y in points if g(x, y)] -/
theorem el_fT2 {tl : TE} {tt : TT} {j1 j2 : Nat} {vs : List Nat} {ps : List (Nat × Nat)} {g : Nat × Nat → Bool} {f : Nat × Nat → Nat} (h : Ev tl σ H (.ref a)) (hT : TL H a (Mx.tv ps)) (hn : ps.length ≤ 40000) (hw : ∀ x y, wipe (((wipe σ vs).set j1 (some x)).set j2 (some y)) vs = wipe σ vs)
    (ht : ∀ (i : Nat) (q : Nat × Nat) H1, Ex H H1 → ps[i]? = some q → EvT tt (((wipe σ vs).set j1 (some (nV q.1))).set j2 (some (nV q.2))) H1 (g q)) (he : ∀ (i : Nat) (q : Nat × Nat) H1, Ex H H1 → ps[i]? = some q → Ev te (((wipe σ vs).set j1 (some (nV q.1))).set j2 (some (nV q.2))) H1 (nV (f q))) :
    EvL (tLc (iList K tl) (gTup K 2 (gCons (gName j1) (gCons (gName j2) gNil))) tt te vs) σ H (((ps.filter g).map f).map nV) := fun H0 e Q q => h H0 e _ fun H1 e1 => by
  obtain ⟨rs, h1, h2⟩ := hT
  have hx : SqL K H a (rs.map V.ref) := sq_of h1
  have ltv : (Mx.tv ps).length = ps.length := by unfold Mx.tv; rw [List.length_map]
  refine ⟨a, rfl, ⟨_, ex_l (e.trans e1) hx⟩, fun Dl hD => ?_⟩
  refine lc_list (xs := rs.map V.ref) (fun i H' => H1 Dl = none ∧ Ex H1 H' ∧ H' Dl = some (.lst ((((ps.take i).filter g).map f).map nV))) ⟨hD, Ex.new hD, by rw [upd_same, List.take_zero] <;> rfl⟩ (fun i H' _ p => ex_l ((e.trans e1).trans p.2.1) hx) (fun i x H' hi p => ?_) (fun H' p => q Dl H' (fresh_back e1 p.1) (e1.trans p.2.1) (by rw [p.2.2, List.length_map, h2.len, ltv, List.take_length]))
  obtain ⟨p1, p2, p3⟩ := p
  obtain ⟨r, us, rfl, hus, hr⟩ := (h2.mono ((e.trans e1).trans p2)).get hi
  unfold Mx.tv at hus
  rw [List.getElem?_map] at hus
  obtain ⟨⟨qx, qy⟩, hq, rfl⟩ := Option.map_eq_some_iff.mp hus
  have hsn : ps.take (i + 1) = ps.take i ++ [(qx, qy)] := by rw [List.take_add_one, hq] <;> rfl
  have hlen : ((((ps.take i).filter g).map f).map nV).length ≤ ps.length := by
    rw [List.length_map, List.length_map]
    exact Nat.le_trans (List.length_filter_le _ _) (List.length_take_le' _ _)
  refine ⟨r, _, rfl, st_of hr, rfl, _, _, rfl, _, _, rfl, rfl, hw _ _, ?_⟩
  refine ht i (qx, qy) H1 (e.trans e1) hq H' p2 _ fun H3 e3 => ?_
  cases hg : g (qx, qy) with
  | false =>
    rw [if_neg (by decide)]
    refine ⟨p1, p2.trans e3, ?_⟩
    rw [e3 _ _ p3, hsn, List.filter_append, List.filter_cons, hg, List.filter_nil, if_neg (by decide), List.append_nil]
  | true =>
    rw [if_pos rfl]
    refine he i (qx, qy) H1 (e.trans e1) hq H3 (p2.trans e3) _ fun H4 e4 => ⟨_, e4 _ _ (e3 _ _ p3), sz_lt (by omega), p1, Ex.mut ((p2.trans e3).trans e4) p1, ?_⟩
    rw [upd_same, hsn, List.filter_append, List.filter_cons, hg, List.filter_nil, if_pos rfl, List.map_append, List.map_append] <;> rfl
/-! ### a set of places: a dict of the value True -/
def tksM (T : List Nat) : List (Key × V) := T.map fun n : Nat => ((Sum.inl (n : Int) : Key), V.bl true)
theorem tksM_keys (T : List Nat) : (tksM T).map (·.1) = (T.map fun n : Nat => (n : Int)).map Sum.inl := by
  unfold tksM
  rw [List.map_map, List.map_map] <;> rfl
theorem tksM_any (T : List Nat) (t : Nat) : ((tksM T).any fun kv => decide (kv.1 = (Sum.inl (t : Int) : Key))) = decide (t ∈ T) := by
  unfold tksM
  rw [Bool.eq_iff_iff]
  simp only [List.any_map, List.any_eq_true, Function.comp, decide_eq_true_eq]
  constructor
  · rintro ⟨n, hn, h⟩
    have := Int.ofNat.inj (Sum.inl.inj h)
    exact this ▸ hn
  · exact fun h => ⟨t, h, rfl⟩
def insT (T : List Nat) (t : Nat) : List Nat := if t ∈ T then T else T ++ [t]
theorem tksM_put (T : List Nat) (t : Nat) : putK (tksM T) (Sum.inl (t : Int)) (V.bl true) = tksM (insT T t) := by
  unfold putK insT
  rw [tksM_any]
  by_cases h : t ∈ T
  · rw [if_pos (decide_eq_true h), if_pos h]
    unfold tksM
    rw [List.map_map]
    apply List.map_congr_left
    intro n _
    show (if (Sum.inl (n : Int) : Key) = Sum.inl (t : Int) then _ else _) = _
    split <;> rfl
  · rw [if_neg (by rw [decide_eq_false h]; decide), if_neg h]
    unfold tksM
    rw [List.map_append] <;> rfl
theorem insT_nd {T : List Nat} {t : Nat} (h : T.Nodup) : (insT T t).Nodup := by
  unfold insT
  split
  · exact h
  · rename_i hnt
    exact List.nodup_append.mpr ⟨h, by simp, fun a ha b hb z => by
      rw [List.mem_singleton.mp hb] at z
      exact hnt (z ▸ ha)⟩
theorem insT_mem {T : List Nat} {t n : Nat} : n ∈ insT T t ↔ n ∈ T ∨ n = t := by
  unfold insT
  split
  · rename_i hin
    exact ⟨fun h => .inl h, fun h => h.elim id fun z => z ▸ hin⟩
  · rw [List.mem_append, List.mem_singleton]
theorem nodup_lenM : ∀ (m : Nat) (T : List Nat), T.Nodup → (∀ n ∈ T, n < m) → T.length ≤ m
  | 0, [], _, _ => Nat.le_refl _
  | 0, a :: T, _, h => absurd (h a (List.mem_cons_self ..)) (Nat.not_lt_zero _)
  | m + 1, T, hn, h => by
    have h2 := nodup_lenM m (T.erase m) (hn.erase m) fun n hm => by
      have h3 := h n (List.mem_of_mem_erase hm)
      have h4 : n ≠ m := fun z => by
        rw [z] at hm
        exact (List.Nodup.not_mem_erase hn) hm
      omega
    have h5 := List.length_erase (a := m) (l := T)
    split at h5 <;> omega
/-- a row of new rows changes -/
theorem lr_put {r : Addr} {k v : Nat} (hr : LN H r l) : ∀ {rs : List Addr} {M : List (List Nat)}, LR H rs M → ∃ M', LR (upd H r (.lst ((l.set k v).map nV))) rs M' ∧ M'.length = M.length ∧ ∀ m ∈ M', m = l.set k v ∨ m ∈ M
  | [], [], .nil => ⟨[], .nil, rfl, fun m h => absurd h List.not_mem_nil⟩
  | a :: as, b :: bs, .cons h t => by
    obtain ⟨M', i1, i2, i3⟩ := lr_put (k := k) (v := v) hr t
    by_cases c : a = r
    · refine ⟨l.set k v :: M', .cons (by rw [c, LN, upd_same]) i1, by rw [List.length_cons, List.length_cons, i2], fun m hm => ?_⟩
      rcases List.mem_cons.mp hm with z | z
      · exact .inl z
      · exact (i3 m z).imp id fun z => List.mem_cons_of_mem _ z
    · refine ⟨b :: M', .cons (by rw [LN, upd_ne c]; exact h) i1, by rw [List.length_cons, List.length_cons, i2], fun m hm => ?_⟩
      rcases List.mem_cons.mp hm with z | z
      · exact .inr (by rw [z]; exact List.mem_cons_self ..)
      · exact (i3 m z).imp id fun z => List.mem_cons_of_mem _ z
theorem mf_put {d s j k v : Nat} (h : MF H0 H p M) (hM : Py.Mt M d s) (s1 : 1 ≤ s) (hj : j < d) (hv : v < 256) : ∃ r, H0 r = none ∧ LN H r (Py.at1 M j) ∧ RV (rIxL K) (.ref p) (.int (j : Int)) H (.ref r) ∧ ∃ M', MF H0 (upd H r (.lst (((Py.at1 M j).set k v).map nV))) p M' ∧ Py.Mt M' d s := by
  obtain ⟨rs, h1, h2, h3⟩ := h
  obtain ⟨r, hr1, hr2⟩ := h2.at (k := j) (by rw [hM.rows]; exact hj)
  obtain ⟨M', i1, i2, i3⟩ := lr_put (k := k) (v := v) hr2 h2
  have mj := hM.at hj
  have ne : r ≠ p := fun z => by
    rw [z, LN, h1] at hr2
    have := HO.lst.inj (Option.some.inj hr2)
    have l0 : 0 < rs.length := by rw [h2.len, hM.rows]; omega
    cases rs with
    | nil => simp at l0
    | cons a rs =>
      cases hl : Py.at1 M j with
      | nil => rw [hl] at mj; simp at mj; omega
      | cons b l2 =>
        rw [hl] at this
        simp at this
  refine ⟨r, h3 r (List.mem_of_getElem? hr1), hr2, rv_ixLN (sq_of h1) (by rw [List.getElem?_map, hr1] <;> rfl), M', ⟨rs, by rw [upd_ne ne.symm]; exact h1, i1, h3⟩, by rw [i2, hM.rows], fun m hm => ?_, fun m hm => ?_⟩
  · rcases i3 m hm with z | z
    · rw [z, List.length_set]; exact mj.1
    · exact hM.cols m z
  · rcases i3 m hm with z | z
    · rw [z]
      exact Py.oc_of fun c hc => by
        rcases List.mem_or_eq_of_mem_set hc with z | z
        · exact mj.2.mem c z
        · rw [z]; exact hv
    · obtain ⟨i, hi⟩ := List.mem_iff_getElem?.mp z
      have il := (List.getElem?_eq_some_iff.mp hi).1
      rw [← Py.at1_of hi]
      exact (hM.at (by rw [hM.rows] at il; exact il)).2
theorem s_dputT {ty : TE} {T : List Nat} {i : Nat} (hd : H d = some (.dK (tksM T))) (ho : Ev td σ H (.ref d)) (hi : Ev ty σ H (nV i)) (hz : T.length < 1000) (k : ∀ H1, Ex H H1 → D.nx σ (upd H1 d (.dK (tksM (insT T i))))) : sDPut td ty (tC (.bl true)) D σ H :=
  ho H (Ex.refl H) _ fun H2 e2 => hi H2 e2 _ fun H3 e3 => ⟨d, _, rfl, DPut.k (k := Sum.inl (i : Int)) ((e2.trans e3) _ _ hd) (by unfold tksM; rw [List.length_map]; exact sz_lt (by omega)), by
    rw [tksM_put]
    exact k H3 (e2.trans e3)⟩
theorem s_retSo {G : List V → Prop} (h : EvSo te σ H G) (k : ∀ xs p H1, G xs → H p = none → Ex H H1 → H1 p = some (.lst xs) → D.rt (.ref p) H1) : tRet te D σ H := h H (Ex.refl H) _ k
theorem s_retTLLf (h1 : EvL ta σ H xs) (h2 : EvL tb σ H ys) (k : ∀ t p q H1, H t = none → H p = none → H q = none → Ex H H1 → H1 t = some (.tup [.ref p, .ref q]) → H1 p = some (.lst xs) → H1 q = some (.lst ys) → D.rt (.ref t) H1) : tRet (tTup (tCons ta (tCons tb tNil))) D σ H :=
  h1 H (Ex.refl H) _ fun p H1 np e1 hp => h2 H1 e1 _ fun q H2 nq e2 hq => ⟨by show 2 ≤ sizeLine; exact sz_of (by decide), fun t ht => k t p q _ (fresh_back (e1.trans e2) ht) np (fresh_back e1 nq) ((e1.trans e2).trans (Ex.new ht)) upd_same (Ex.new ht _ _ (e2 _ _ hp)) (Ex.new ht _ _ hq)⟩
/-- [(f(i), g(i)) for i in a list of numbers] -/
theorem et_zLn {tl : TE} {j : Nat} {vs : List Nat} {vss : List (List V)} (h : Ev tl σ H (.ref a)) (hx : LN H a l) (hz : vss.length = l.length) (hn : l.length ≤ 40000) (hw : ∀ x, wipe ((wipe σ vs).set j (some x)) vs = wipe σ vs)
    (he : ∀ (i : Nat) (us : List V) H1, Ex H H1 → i < l.length → vss[i]? = some us → EvU te ((wipe σ vs).set j (some (nV (Py.at0 l i)))) H1 us) : EvTL (tLc (iList K tl) (gName j) tYes te vs) σ H vss := fun H0 e Q q => h H0 e _ fun H1 e1 => ⟨a, rfl, ⟨_, sq_of ((e.trans e1) _ _ hx)⟩, fun Dl hD =>
  lc_list (xs := l.map nV) (Ct H1 vss Dl) ⟨hD, Ex.new hD, [], by rw [upd_same] <;> rfl, by rw [List.take_zero]; exact .nil⟩ (fun i H' _ p => sq_of (p.2.1 _ _ ((e.trans e1) _ _ hx))) (fun i x H' hi p => by
    obtain ⟨hil, rfl⟩ := nat_of_get hi
    have hl : i < vss.length := by omega
    exact ⟨hw _, ct_turn p (List.getElem?_eq_getElem hl) (by omega) (he i _ H1 (e.trans e1) hil (List.getElem?_eq_getElem hl))⟩) (fun H' p => by
      obtain ⟨p1, p2, rs, p3, p4⟩ := p
      exact q Dl H' (fresh_back e1 p1) (e1.trans p2) ⟨rs, p3, by rw [List.take_of_length_le (by rw [List.length_map]; omega)] at p4; exact p4⟩)⟩
/-- [i for i in a list of numbers if g(i)] -/
theorem el_fLn {tl : TE} {tt : TT} {j : Nat} {vs : List Nat} {g : Nat → Bool} (h : Ev tl σ H (.ref a)) (hx : LN H a l) (hn : l.length ≤ 40000) (hw : ∀ x, wipe ((wipe σ vs).set j (some x)) vs = wipe σ vs)
    (ht : ∀ (n : Nat) H1, Ex H H1 → n ∈ l → EvT tt ((wipe σ vs).set j (some (nV n))) H1 (g n)) (he : ∀ (n : Nat) H1, Ev te ((wipe σ vs).set j (some (nV n))) H1 (nV n)) :
    EvL (tLc (iList K tl) (gName j) tt te vs) σ H ((l.filter g).map nV) := fun H0 e Q q => h H0 e _ fun H1 e1 => by
  refine ⟨a, rfl, ⟨_, sq_of ((e.trans e1) _ _ hx)⟩, fun Dl hD => ?_⟩
  refine lc_list (xs := l.map nV) (fun i H' => H1 Dl = none ∧ Ex H1 H' ∧ H' Dl = some (.lst (((l.take i).filter g).map nV))) ⟨hD, Ex.new hD, by rw [upd_same, List.take_zero] <;> rfl⟩ (fun i H' _ p => sq_of (p.2.1 _ _ ((e.trans e1) _ _ hx))) (fun i x H' hi p => ?_) (fun H' p => q Dl H' (fresh_back e1 p.1) (e1.trans p.2.1) (by rw [p.2.2, List.length_map, List.take_length]))
  obtain ⟨p1, p2, p3⟩ := p
  obtain ⟨hil, rfl⟩ := nat_of_get hi
  have hm : Py.at0 l i ∈ l := List.mem_of_getElem? (Py.at0_get hil)
  have hsn : l.take (i + 1) = l.take i ++ [Py.at0 l i] := by rw [List.take_add_one, Py.at0_get hil] <;> rfl
  have hlen : (((l.take i).filter g).map nV).length ≤ l.length := by
    rw [List.length_map]
    exact Nat.le_trans (List.length_filter_le _ _) (List.length_take_le' _ _)
  refine ⟨hw _, ?_⟩
  refine ht (Py.at0 l i) H1 (e.trans e1) hm H' p2 _ fun H3 e3 => ?_
  cases hg : g (Py.at0 l i) with
  | false =>
    rw [if_neg (by decide)]
    refine ⟨p1, p2.trans e3, ?_⟩
    rw [e3 _ _ p3, hsn, List.filter_append, List.filter_cons, hg, List.filter_nil, if_neg (by decide), List.append_nil]
  | true =>
    rw [if_pos rfl]
    refine he (Py.at0 l i) H3 H3 (Ex.refl _) _ fun H4 e4 => ⟨_, e4 _ _ (e3 _ _ p3), sz_lt (by omega), p1, Ex.mut ((p2.trans e3).trans e4) p1, ?_⟩
    rw [upd_same, hsn, List.filter_append, List.filter_cons, hg, List.filter_nil, if_pos rfl, List.map_append] <;> rfl
/-- one row of a matrix changes, whichever rows are one list -/
theorem lr_setrow {d s j k v : Nat} (h2 : LR H rs M) (hM : Py.Mt M d s) (hj : j < d) (hv : v < 256) : ∃ r, rs[j]? = some r ∧ LN H r (Py.at1 M j) ∧ ∀ H1, Ex H H1 → ∃ M', LR (upd H1 r (.lst (((Py.at1 M j).set k v).map nV))) rs M' ∧ Py.Mt M' d s := by
  obtain ⟨r, hr1, hr2⟩ := h2.at (k := j) (by rw [hM.rows]; exact hj)
  have mj := hM.at hj
  refine ⟨r, hr1, hr2, fun H1 e1 => ?_⟩
  obtain ⟨M', i1, i2, i3⟩ := lr_put (k := k) (v := v) (hr2.up e1) (h2.mono e1)
  refine ⟨M', i1, by rw [i2, hM.rows], fun m hm => ?_, fun m hm => ?_⟩
  · rcases i3 m hm with z | z
    · rw [z, List.length_set]; exact mj.1
    · exact hM.cols m z
  · rcases i3 m hm with z | z
    · rw [z]
      exact Py.oc_of fun c hc => by
        rcases List.mem_or_eq_of_mem_set hc with z | z
        · exact mj.2.mem c z
        · rw [z]; exact hv
    · obtain ⟨i, hi⟩ := List.mem_iff_getElem?.mp z
      have il := (List.getElem?_eq_some_iff.mp hi).1
      rw [← Py.at1_of hi]
      exact (hM.at (by rw [hM.rows] at il; exact il)).2
theorem s_retIxS {r : R2} {ES : L2.St → XK} (h : EvA ta0 σ H vs) (k : ∀ H1, Ex H H1 → sp vs H1 (fun x H2 => tb σ H2 fun y H3 => r x y H3 D.rt) (ES σ)) : tRet (tOp r (tCallS sp ES ta0) tb) D σ H := h H (Ex.refl H) _ k
end
end Mx

set_option Elab.async false
set_option linter.all false
set_option maxRecDepth 100000
set_option maxHeartbeats 4000000
namespace Mx
open PySem PySem.Spec PyProof.Rows L2 Evl
/-! defs that are called in an except suite with the caught error as their argument -/
/-- such a def answers v when its argument is the pinned error, of the class D -/
structure FnEx (P : Program) (w : World) (K : PySem.W.Frag) (mg : Str → Option Value) (base : Heap) (k : Nat) (f : Addr) (fd : FuncData) (x : Str) (D : Addr) (v : V) : Prop where
  run : ∀ (A : Around) (outer : List Env) (s : Shared) (H : Hp) (args : Args) (p : Addr × Obj) (Q : VK), L2H.RoomH k A → L2H.PinOk outer H s p → Zc (.ref D) none p.2 → (∃ vs, p.2.data = .fields vs) → Env0 P w K mg base A outer s H →
    BindsTo s fd args ([x].zip [.ref p.1]) → RetV v H Q → codeAny (model P w) A (.call (.ref f) args) (CR CX0 outer P w H s Q E0) s
section
variable {P : Program} {w : World} {K : PySem.W.Frag} {mg : Str → Option Value} {base : Heap} {x qual y : Str} {params : Arguments} {body : List Stmt} {scope : Scope} {dvs : List V} {kws : List (Str × V)} {f D : Addr} {fd : FuncData} {v : V}
theorem fnex_of {N : List Str} {k : Nat} (F : FunD K x qual params body scope dvs kws f fd) (S : FnScope N [y] scope)
    (walk : ∀ (cdv : Value) (A : Around) (outer : List Env) (s : Shared) (H : Hp) (p : Addr × Obj) (Q : VK), L2H.RoomH k (A.deeper (envOfC qual scope s.heap.objs.size f cdv)) → Zc (.ref D) none p.2 → (∃ vs, p.2.data = .fields vs) → RetV v H Q →
      ∃ t, PSs (L2H.cxH CX0 P w K mg base N qual scope f cdv A outer s H E0 p) body t ∧ t { nx := fun _ H' => Q .non H', rt := Q } (start N [.ref p.1]) H) : FnEx P w K mg base (k + 1) f fd y D v := by
  obtain ⟨c1, c2, c3, c4, c5, c6, c7, c8, c9, c10, rfl, hlk, hcode, _, _⟩ := F.ex
  refine ⟨fun A outer s H args p Q room pin hz hf env0 hbind hq => ?_⟩
  have inK : K.In s.heap := env0.mod.kin.keeps fun b o e => (env0.bs b o e).1
  have nolim : s.heap.NoLimit := env0.mod.nolimit.keeps fun b o e => (env0.bs b o e).1
  refine codeAny_call_function room.depth (inK _ _ hlk) rfl S.co S.gen rfl (PySem.W.codeRec_of inK hcode) (hbind _ _ _ _ ?_)
  refine wpAny_newFunctionEnv_cells S.kind ?_ fun env he s1 made => ?_
  · rintro ⟨n, v⟩ hy
    exact (S.par n (List.of_mem_zip hy).1).elim .inl fun q => .inr ⟨q, PySem.W.cellsFrom_some _ _ _ (.inl q)⟩
  · subst he
    refine ⟨nolim.keeps made.toInCall.keep, codeAny_func ?_⟩
    obtain ⟨t, pt, ht⟩ := walk c8 A outer s H p Q (room.deeper _) hz hf hq
    have inv := L2H.inv_startH (CX := CX0) (E := E0) S pin env0 (vs := [.ref p.1]) rfl (.cons rfl .nil) made
    refine wpAny_mono (pt.run [] s1 (start N [.ref p.1]) H _ inv ht) (fun fl s' got => ?_) fun e s' got => got
    cases fl with
    | brk => exact got.elim fun _ z => z.elim fun _ z => z.2.elim
    | cont => exact got.elim fun _ z => z.elim fun _ z => z.2.elim
    | next =>
      obtain ⟨σ', H', J, q⟩ := got
      exact ⟨V.non, H', J.os, J.bare, J.base, J.hok, rfl, q⟩
    | ret u =>
      obtain ⟨v, σ', H', J, rv, q⟩ := got
      exact ⟨v, H', J.os, J.bare, J.base, J.hok, rv, q⟩
end
section
variable {X : Cx} {k : Nat} {f D a : Addr} {oe : Obj} {pn : List (Addr × Obj)} {fd : FuncData} {x y : Str} {v : V} {q pos : Pos} {e : Expr} {es : List Expr} {t : TA}
/-- isinstance of a pinned error -/
theorem call_isP (hp : (a, oe) ∈ X.pn) (C : ExcC X.K D) (hz : Zc (.ref D) none oe) (hf : ∃ vs, oe.data = .fields vs) : CallR X (.builtin "isinstance") (rIsE X.K D a) := by
  intro pins s σ H xs us Q I r h
  obtain ⟨c, cv, b, rfl, hcv, e, q⟩ := h
  have get : s.heap.get? a = some oe := (I.pin (a, oe) (List.mem_append_left _ hp)).1
  have J : PySem.W.InstAt s.heap a oe D none := by
    obtain ⟨oc, od, oda, osl⟩ := oe
    obtain ⟨vs, hv⟩ := hf
    obtain ⟨h1, h2⟩ := hz
    dsimp only at h1 h2 hv
    subst h1 h2 hv
    exact ⟨get, rfl, rfl, trivial⟩
  cases r with
  | cons rx rr =>
    cases rr with
    | cons rt rr =>
      cases rr
      cases rx
      have ec := hcv _ rt
      subst ec
      exact PySem.W.kia_one (PySem.W.handS_kitx_exc C.hg C.hk C.hs C.hd C.ha C.hn C.ht C.hm) I.kIn J e (fun z => nomatch z) fun tk => ⟨.bl b, H, I.kept (t' := tk) fun _ _ z => z, rfl, q⟩
/-- the value of a call of such a def: its one argument is the caught error -/
def tCEx (a : Addr) (v : V) (t : TA) : TE := fun σ H Q => t σ H fun vs H1 => vs = [.ref a] ∧ RetV v H1 Q
theorem run_ex {pins : List (Addr × Obj)} {σ : L2.St} {H : Hp} {s : Shared} {Q : VK} (F : FnEx X.prog X.w X.K X.mg X.base k f fd y D v) (hr : L2H.RoomH k X.A) (hp : (a, oe) ∈ X.pn) (hz : Zc (.ref D) none oe) (hf : ∃ vs, oe.data = .fields vs) (hb : Binds X.K fd [y] [])
    (I : Inv X pins σ H s) (q : RetV v H Q) : wpAny (model X.prog X.w) X.A (call (.ref f) [.ref a]) (EP X pins σ Q) X.xe s := by
  have b := hb s [.ref a] I.kIn rfl
  rw [List.append_nil] at b
  have P1 := I.pin (a, oe) (List.mem_append_left _ hp)
  have hpin : L2H.PinOk X.stack H s (a, oe) := ⟨P1.1, P1.2.1, fun hm => (List.mem_cons.mp (I.stkSub a hm)).elim P1.2.2.1 P1.2.2.2.1, P1.2.2.2.2⟩
  refine wpAny_call (codeAny_mono (F.run X.A X.stack s H ⟨[.ref a], []⟩ (a, oe) Q hr hpin hz hf I.env0 b q) fun r s' hq => ?_)
  cases r with
  | error e => exact False.elim hq
  | ok fl =>
    cases fl with
    | ret u => exact I.after hq
    | next => exact False.elim hq
    | brk => exact False.elim hq
    | cont => exact False.elim hq
theorem pe_callEx (F : FnEx X.prog X.w X.K X.mg X.base k f fd y D v) (hr : L2H.RoomH k X.A) (hp : (a, oe) ∈ X.pn) (hz : Zc (.ref D) none oe) (hf : ∃ vs, oe.data = .fields vs) (hg : Gl X x) (hm : X.mg x = some (.ref f)) (hk : PySem.W.keepIn X.K (.ref f) = true) (hb : Binds X.K fd [y] [])
    (ha : PA X (e :: es) t) (hdb : (x == ("__debug__" : Str)) = false := by decide) (he : starEach (e :: es) X.env = (false, eval e X.env) :: starEach es X.env := by rfl) (hpl : (backTo pos (starEach es X.env)).any (·.1) = false := by rfl) :
    PE X (.Call (.Name x q) (e :: es) [] pos) (tCEx a v t) := by
  refine ⟨fun pins s σ H Q I h => ?_⟩
  refine wpAny_Call_Name_kw (ld_glob I hg hm ?_ hdb)
  refine PySem.W.callWith_K (h₀ := X.base) I.ok.mod.kin hk (thn (ha.run pos pins s σ H _ I h) fun us s1 ⟨vs, H1, I1, r, e1, q⟩ => ⟨I1.kIn, ?_⟩) he hpl
  subst e1
  cases r with
  | cons rx rr =>
    cases rr
    cases rx
    exact run_ex F hr hp hz hf hb I1 q
end
section
variable {a : Addr} {v : V} {ta : TE} {σ : L2.St} {H : Hp}
theorem ev_callEx (h : Ev ta σ H (.ref a)) : Ev (tCEx a v (tCons ta tNil)) σ H v := fun H1 e Q q => h H1 e _ fun H2 e2 => ⟨rfl, fun H3 e3 => q H3 (e2.trans e3)⟩
end
end Mx
namespace Mx
open PySem PySem.Spec PyProof.Rows L2 Evl
theorem roomEx {j k : Nat} {A : Around} {v : Option Value} (r : Room k A) (h : j ≤ k) : L2H.RoomH j (A.mark v) :=
  have q : L2H.RoomH j A := (L2H.roomH_of r).mono h
  ⟨q.dp, q.un⟩
end Mx
namespace Mx
open PySem PySem.Spec PyProof.Rows L2 Evl
/-- a word that grows when something holds -/
theorem q_addIf {i : Nat} {σ : L2.St} {H : Hp} {w u : Str} {b : Bool} {t : TT} {te : TE} {tz : TS} {D : Ends} (h : EvT t (σ.set i (some (.str w))) H b) (h1 : Ev te (σ.set i (some (.str w))) H (.str (w ++ u)))
    (k : ∀ H1, Ex H H1 → tz D (σ.set i (some (.str (if b then w ++ u else w)))) H1) : tSeq (tIfS t (tAsg te (gName i)) tNext) tz D (σ.set i (some (.str w))) H :=
  q_ifAsg (v := .str (if b then w ++ u else w)) h (fun q => by rw [q]; exact h1) (fun q => by rw [q]; exact List.set_set _) fun H1 e => by rw [List.set_set]; exact k H1 e
end Mx
namespace Mx
open PySem PySem.Spec PyProof.Rows L2 Evl
/-! plain data: what evaluates to a value that holds d -/
section
variable {K : PySem.W.Frag} {σ : L2.St} {H H' : Hp} {ta tb te : TE} {x y v : V} {d e : PyData} {D : Ends} {tz : TS}
def EvD (K : PySem.W.Frag) (te : TE) (σ : L2.St) (H : Hp) (d : PyData) : Prop := ∀ H1, Ex H H1 → ∀ Q : VK, (∀ u H2, Ex H1 H2 → Dp K H2 u d → Q u H2) → te σ H1 Q
def RetD (K : PySem.W.Frag) (d : PyData) (H : Hp) (Q : VK) : Prop := ∀ u H', Ex H H' → Dp K H' u d → Q u H'
def SpD (K : PySem.W.Frag) (sp : Sp) (vs : List V) (H : Hp) (d : PyData) : Prop := ∀ H1, Ex H H1 → ∀ (Q : VK) (E : XK), RetD K d H1 Q → sp vs H1 Q E
theorem evd_of (h : Ev te σ H v) (hd : Dp K H v d) : EvD K te σ H d := fun H1 e1 Q k => h H1 e1 _ fun H2 e2 => k v H2 e2 (dp_mono (e1.trans e2) _ _ hd)
theorem evd_i {i : Int} (h : Ev te σ H (.int i)) : EvD K te σ H (.int i) := evd_of h (.int i)
theorem evd_s {s : Str} (h : Ev te σ H (.str s)) : EvD K te σ H (.str s) := evd_of h (.str s)
theorem evd_tup2 (ha : EvD K ta σ H d) (hb : EvD K tb σ H e) : EvD K (tTup (tCons ta (tCons tb tNil))) σ H (.tuple [d, e]) := fun H1 e1 Q k =>
  ha H1 e1 _ fun u H2 e2 du => hb H2 (e1.trans e2) _ fun w H3 e3 dw => ⟨by show 2 ≤ 2 ^ 24; decide, fun p hp =>
    have ex : Ex H3 (upd H3 p (.tup [u, w])) := Ex.new hp
    k (.ref p) _ ((e2.trans e3).trans ex) (.tup (.inl (.inl upd_same)) (.cons (dp_mono (e3.trans ex) _ _ du) (.cons (dp_mono ex _ _ dw) .nil)))⟩
theorem evd_call {ta0 : TA} {vs : List V} {sp : Sp} {E : XK} (h : EvA ta0 σ H vs) (hs : SpD K sp (vs ++ []) H d) : EvD K (tCall sp [] E ta0) σ H d := fun H1 e1 Q k => h H1 e1 _ fun H2 e2 => hs H2 (e1.trans e2) _ _ fun u H3 e3 du => k u H3 (e2.trans e3) du
theorem evd_callEx {a : Addr} {s : Str} (h : Ev ta σ H (.ref a)) : EvD K (tCEx a (.str s) (tCons ta tNil)) σ H (.str s) := evd_s (ev_callEx h)
theorem s_retD (h : EvD K te σ H d) (k : RetD K d H D.rt) : tRet te D σ H := h H (Ex.refl H) _ fun u H1 e1 du => k u H1 e1 du
theorem q_asgD {i : Nat} (h : EvD K te σ H d) (k : ∀ u H1, Ex H H1 → Dp K H1 u d → tz D (σ.set i (some u)) H1) : tSeq (tAsg te (gName i)) tz D σ H := h H (Ex.refl H) _ fun u H1 e1 du => k u H1 e1 du
theorem s_asgD {i : Nat} (h : EvD K te σ H d) (k : ∀ u H1, Ex H H1 → Dp K H1 u d → D.nx (σ.set i (some u)) H1) : tAsg te (gName i) D σ H := h H (Ex.refl H) _ fun u H1 e1 du => k u H1 e1 du
theorem ev_eqD2 (ha : EvD K ta σ H d) (hb : EvD K tb σ H e) (h1 : SeqAt.shaped d = true) (h2 : SeqAt.shaped e = true) : Ev (tOp (rEqD K) ta tb) σ H (.bl (PyData.eqv d e)) := fun H1 e1 Q k =>
  ha H1 e1 _ fun u H2 e2 du => hb H2 (e1.trans e2) _ fun w H3 e3 dw => ⟨d, e, dp_mono e3 _ _ du, dw, h1, h2, k H3 (e2.trans e3)⟩
theorem ev_neD2 (ha : EvD K ta σ H d) (hb : EvD K tb σ H e) (h1 : SeqAt.shaped d = true) (h2 : SeqAt.shaped e = true) : Ev (tOp (rNeD K) ta tb) σ H (.bl (!PyData.eqv d e)) := fun H1 e1 Q k =>
  ha H1 e1 _ fun u H2 e2 du => hb H2 (e1.trans e2) _ fun w H3 e3 dw => ⟨d, e, dp_mono e3 _ _ du, dw, h1, h2, k H3 (e2.trans e3)⟩
theorem s_asgMkS {i : Nat} {C : Addr} {sp : Sp} {E : L2.St → XK} {ta0 : TA} {vs : List V} (h : EvA ta0 σ H vs) (hs : ∀ H1, Ex H H1 → ∀ x dx, H1 x = none → H1 dx = none → dx ≠ x → sp (.ref x :: vs) (upd (upd H1 dx (.own x)) x (.ins C dx [])) (fun v H2 => v = .non ∧ D.nx (σ.set i (some (.ref x))) H2) (E σ)) : tAsg (tMakeS C sp E ta0) (gName i) D σ H :=
  h H (Ex.refl H) _ fun H1 e1 x dx h1 h2 h3 => hs H1 e1 x dx h1 h2 h3
end
end Mx
namespace Mx
open PySem PySem.Spec PyProof.Rows L2 Evl
section
variable {K : PySem.W.Frag} {σ : L2.St} {H H' : Hp} {ta tb te : TE} {t0 : TA} {x y v : V} {D : Ends} {tu tz : TS} {t : TT} {C a dx : Addr} {fs : List (Str × V)} {m s : Str} {sp : Sp} {ES : L2.St → XK} {vs : List V} {R : VK}
theorem RetD.up {d : PyData} {Q : VK} (h : RetD K d H Q) (e : Ex H H') : RetD K d H' Q := fun u H2 e2 du => h u H2 (e.trans e2) du
theorem q_skip (h : EvT t σ H false) (k : ∀ H1, Ex H H1 → tz D σ H1) : tSeq (tIfS t tu tNext) tz D σ H := q_when h (fun q => nomatch q) fun _ H1 e1 => k H1 e1
theorem q_take (h : EvT t σ H true) (k : ∀ H1, Ex H H1 → tu { D with nx := tz D } σ H1) : tSeq (tIfS t tu tNext) tz D σ H := q_when h (fun _ H1 e1 => k H1 e1) fun q => nomatch q
/-- the pair of a word and what a call that may raise gives -/
def OkQ (s : Str) (R : VK) : VK := fun v H2 => [V.str s, v].length ≤ sizeLine ∧ ∀ tu, H2 tu = none → R (.ref tu) (upd H2 tu (.tup [.str s, v]))
theorem s_okMeth (ho : Ev ta σ H (.ref a)) (hi : H a = some (.ins C dx fs)) (hm : fs.lookup m = none) (h : ∀ H1, Ex H H1 → EvA t0 σ H1 vs) (hs : ∀ H1, Ex H H1 → sp (.ref a :: vs) H1 (OkQ s D.rt) (ES σ)) : tRet (tTup (tCons (tC (.str s)) (tCons (tMethS C m sp ES ta t0) tNil))) D σ H :=
  ho H (Ex.refl H) _ fun H1 e1 => ⟨a, dx, fs, rfl, e1 _ _ hi, hm, h H1 e1 H1 (Ex.refl H1) _ fun H2 e2 => hs H2 (e1.trans e2)⟩
theorem s_okCall (h : EvA t0 σ H vs) (hs : ∀ H1, Ex H H1 → sp vs H1 (OkQ s D.rt) (ES σ)) : tRet (tTup (tCons (tC (.str s)) (tCons (tCallS sp ES t0) tNil))) D σ H :=
  h H (Ex.refl H) _ fun H1 e1 => hs H1 e1
theorem okq (k : ∀ tu H2, Ex H' H2 → H2 tu = some (.tup [.str s, v]) → R (.ref tu) H2) : OkQ s R v H' :=
  ⟨by show 2 ≤ 2 ^ 24; decide, fun tu n => k tu _ (Ex.new n) upd_same⟩
end
end Mx
namespace Mx
open PySem PySem.Spec PyProof.Rows L2 Evl
section
variable {K : PySem.W.Frag} {σ : L2.St} {H H' : Hp} {tl te : TE} {g : TG} {tu tz : TS} {D : Ends} {G G2 : List V → Prop} {xs : List V} {d : Addr}
theorem q_forSo (h : EvSo tl σ H G) (k : ∀ xs p H1, G xs → H p = none → Ex H H1 → H1 p = some (.lst xs) → tSeq (tFor (iList K (tC (.ref p))) g tu) tz D σ H1) : tSeq (tFor (iList K tl) g tu) tz D σ H := h H (Ex.refl H) _ k
theorem eso_of (h : EvL te σ H xs) (g : G xs) : EvSo te σ H G := fun H1 e Q k => h H1 e _ fun p H2 np e2 hp => k xs p H2 g np e2 hp
theorem eso_z {j : Nat} {vs : List Nat} (h : EvSo tl σ H G) (k : ∀ xs p H1, G xs → Ex H H1 → H1 p = some (.lst xs) → EvSo (tLc (iList K (tC (.ref p))) (gName j) tYes te vs) σ H1 G2) : EvSo (tLc (iList K tl) (gName j) tYes te vs) σ H G2 := fun H1 e Q q =>
  h H1 e _ fun xs p H2 gx np e2 hp => k xs p H2 gx (e.trans e2) hp H2 (Ex.refl _) Q fun ys a H3 gy na e3 ha => q ys a H3 gy (fresh_back e2 na) (e2.trans e3) ha
theorem pkI_get {F : Int → List Nat} {i : Int} : ∀ {S : List Int} {rs : List Addr}, LR H rs (S.map F) → i ∈ S → ∃ r, valV (pkI S rs) (Sum.inl i) = some (.ref r) ∧ LN H r (F i)
  | [], _, _, h => absurd h List.not_mem_nil
  | s :: S, _, .cons h t, hi => by
    rename_i r rs
    by_cases q : s = i
    · refine ⟨r, ?_, q ▸ h⟩
      unfold valV pkI
      rw [List.zipWith_cons_cons, List.find?_cons, decide_eq_true (by rw [q] : (Sum.inl s : Key) = Sum.inl i)] <;> rfl
    · obtain ⟨r2, e1, e2⟩ := pkI_get t ((List.mem_cons.mp hi).resolve_left fun z => q z.symm)
      refine ⟨r2, ?_, e2⟩
      have n : ¬ ((Sum.inl s : Key) = Sum.inl i) := fun z => q (Sum.inl.inj z)
      unfold valV pkI at e1 ⊢
      rw [List.zipWith_cons_cons, List.find?_cons, decide_eq_false n]
      exact e1
theorem PiAt.get {S : List Int} {F : Int → List Nat} {i : Int} (h : PiAt H d S F) (hi : i ∈ S) : ∃ r, LN H r (F i) ∧ ∀ H1, Ex H H1 → DGet H1 d (.int i) (some (.ref r)) := by
  obtain ⟨rs, hd, hr⟩ := h
  obtain ⟨r, h1, h2⟩ := pkI_get hr hi
  exact ⟨r, h2, fun H1 e => .inl ⟨_, Sum.inl i, .inl (e _ _ hd), rfl, h1.symm⟩⟩
theorem PiAt.srt {S : List Int} {F : Int → List Nat} {ta : TE} (hP : PiAt H d S F) (h : Ev ta σ H (.ref d)) (hl : S.length < 64) : EvSo (tCB rSrtD (tCons ta tNil)) σ H (fun xs => ∃ ys : List Int, xs = ys.map V.int ∧ ys.Perm S ∧ ys.Pairwise (· ≤ ·)) := by
  obtain ⟨rs, hd, hr⟩ := hP
  have lr : rs.length = S.length := by rw [hr.len, List.length_map]
  refine eso_sorted h (.inl hd) ?_ hl
  clear hd hl
  have : ∀ {S : List Int} {rs : List Addr}, rs.length = S.length → (pkI S rs).map (·.1) = S.map Sum.inl := by
    intro S
    induction S with
    | nil => intro rs _; rfl
    | cons s S ih =>
      intro rs l
      cases rs with
      | nil => cases l
      | cons r rs =>
        show (Sum.inl s : Key) :: (pkI S rs).map (·.1) = Sum.inl s :: S.map Sum.inl
        rw [ih (Nat.succ.inj l)]
  exact this lr
end
end Mx
namespace Mx
open PySem PySem.Spec PyProof.Rows L2 Evl
/-! pieces under whole numbers: put and taken out -/
def updF (F : Int → List Nat) (i : Int) (l : List Nat) : Int → List Nat := fun j => if j = i then l else F j
def putS (S : List Int) (i : Int) : List Int := if i ∈ S then S else S ++ [i]
section
variable {H H' : Hp} {F : Int → List Nat} {i : Int} {r d : Addr} {l : List Nat}
theorem pkI_cons (s : Int) (S : List Int) (r : Addr) (rs : List Addr) : pkI (s :: S) (r :: rs) = ((Sum.inl s : Key), V.ref r) :: pkI S rs := rfl
theorem key_eq (s i : Int) : decide ((Sum.inl s : Key) = Sum.inl i) = decide (i = s) := by
  by_cases q : s = i
  · rw [q, decide_eq_true rfl, decide_eq_true rfl]
  · rw [decide_eq_false fun z => q (Sum.inl.inj z), decide_eq_false fun z => q z.symm]
theorem pkI_any : ∀ {S : List Int} {rs : List Addr}, rs.length = S.length → ((pkI S rs).any fun kv => decide (kv.1 = (Sum.inl i : Key))) = decide (i ∈ S)
  | [], rs, _ => by
    rw [show pkI [] rs = [] by unfold pkI; rfl] <;> simp
  | s :: S, [], h => by cases h
  | s :: S, r :: rs, h => by
    rw [pkI_cons, List.any_cons, pkI_any (Nat.succ.inj h), key_eq]
    simp only [List.mem_cons, Bool.decide_or]
theorem updF_no {S : List Int} (h : i ∉ S) : S.map (updF F i l) = S.map F := List.map_congr_left fun j hj => if_neg fun (z : j = i) => h (z ▸ hj)
theorem pkI_map (hr : LN H r l) : ∀ {S : List Int} {rs : List Addr}, LR H rs (S.map F) → ∃ rs', (pkI S rs).map (fun kv => if kv.1 = (Sum.inl i : Key) then (kv.1, V.ref r) else kv) = pkI S rs' ∧ LR H rs' (S.map (updF F i l))
  | [], _, .nil => ⟨[], rfl, .nil⟩
  | s :: S, _, .cons h t => by
    rename_i r2 rs
    obtain ⟨rs', e1, e2⟩ := pkI_map hr t
    by_cases q : s = i
    · refine ⟨r :: rs', ?_, .cons ?_ e2⟩
      · rw [pkI_cons, List.map_cons, e1, pkI_cons, if_pos (by rw [q])]
      · rw [show updF F i l s = l by unfold updF; rw [if_pos q]]
        exact hr
    · refine ⟨r2 :: rs', ?_, .cons ?_ e2⟩
      · rw [pkI_cons, List.map_cons, e1, pkI_cons, if_neg fun z => q (Sum.inl.inj z)]
      · rw [show updF F i l s = F s by unfold updF; rw [if_neg q]]
        exact h
theorem pkI_snoc : ∀ {S : List Int} {rs : List Addr}, rs.length = S.length → pkI (S ++ [i]) (rs ++ [r]) = pkI S rs ++ [((Sum.inl i : Key), V.ref r)]
  | [], [], _ => rfl
  | [], _ :: _, h => by cases h
  | s :: S, [], h => by cases h
  | s :: S, r2 :: rs, h => by
    rw [List.cons_append, List.cons_append, pkI_cons, pkI_cons, pkI_snoc (Nat.succ.inj h), List.cons_append]
theorem pi_putK {S : List Int} {rs : List Addr} (h : LR H rs (S.map F)) (hr : LN H r l) : ∃ rs', putK (pkI S rs) (Sum.inl i) (V.ref r) = pkI (putS S i) rs' ∧ LR H rs' ((putS S i).map (updF F i l)) := by
  have hl : rs.length = S.length := by rw [h.len, List.length_map]
  unfold putK putS
  rw [pkI_any hl]
  by_cases q : i ∈ S
  · rw [if_pos (decide_eq_true q), if_pos q]
    exact pkI_map hr h
  · rw [if_neg (by rw [decide_eq_false q]; exact Bool.noConfusion), if_neg q]
    refine ⟨rs ++ [r], (pkI_snoc hl).symm, ?_⟩
    rw [List.map_append, updF_no q, List.map_singleton, show updF F i l i = l by unfold updF; rw [if_pos rfl]]
    exact LR.snoc' h hr
theorem PiAt.put {S : List Int} (h : PiAt H d S F) (hr : LN H r l) : ∃ kvs, H d = some (.dK kvs) ∧ kvs.length = S.length ∧ PiAt (upd H d (.dK (putK kvs (Sum.inl i) (V.ref r)))) d (putS S i) (updF F i l) := by
  obtain ⟨rs, hd, h2⟩ := h
  obtain ⟨rs', e1, e2⟩ := pi_putK (i := i) h2 hr
  exact ⟨_, hd, pkI_len (by rw [h2.len, List.length_map]), rs', by rw [e1]; exact upd_same, xd_lr xb_lock hd e2⟩
theorem pi_dropK : ∀ {S : List Int} {rs : List Addr}, LR H rs (S.map F) → ∃ rs', dropK (pkI S rs) (Sum.inl i) = pkI (S.filter fun j => decide (j ≠ i)) rs' ∧ LR H rs' ((S.filter fun j => decide (j ≠ i)).map F)
  | [], _, .nil => ⟨[], rfl, .nil⟩
  | s :: S, _, .cons h t => by
    rename_i r2 rs
    obtain ⟨rs', e1, e2⟩ := pi_dropK t
    unfold dropK at e1 ⊢
    by_cases q : s = i
    · refine ⟨rs', ?_, ?_⟩
      · rw [pkI_cons, List.filter_cons_of_neg (by simp [q]), e1, List.filter_cons_of_neg (by simp [q])]
      · rw [List.filter_cons_of_neg (by simp [q])]
        exact e2
    · refine ⟨r2 :: rs', ?_, ?_⟩
      · rw [pkI_cons, List.filter_cons_of_pos (by simp [q]), e1, List.filter_cons_of_pos (by simp [q]), pkI_cons]
      · rw [List.filter_cons_of_pos (by simp [q])]
        exact .cons h e2
theorem PiAt.drop {S : List Int} (h : PiAt H d S F) (hi : i ∈ S) : ∃ kvs v, H d = some (.dK kvs) ∧ valV kvs (Sum.inl i) = some v ∧ PiAt (upd H d (.dK (dropK kvs (Sum.inl i)))) d (S.filter fun j => decide (j ≠ i)) F := by
  obtain ⟨rs, hd, h2⟩ := h
  obtain ⟨rs', e1, e2⟩ := pi_dropK (i := i) h2
  obtain ⟨r, v1, _⟩ := pkI_get h2 hi
  exact ⟨_, _, hd, v1, rs', by rw [e1]; exact upd_same, xd_lr xb_lock hd e2⟩
end
section
variable {K : PySem.W.Frag} {σ : L2.St} {H : Hp} {td ty tv : TE} {d r : Addr} {i : Int} {kvs : List (Key × V)} {D : Ends} {xs : List V}
/-- d[y] = the list that te makes -/
theorem s_dputI (ht : EvL tv σ H xs) (ho : Ev td σ H (.ref d)) (hi : ∀ H1, Ex H H1 → Ev ty σ H1 (.int i)) (k : ∀ r H1, H r = none → Ex H H1 → H1 r = some (.lst xs) → ∃ H2, DPut H1 d (.int i) (.ref r) H2 ∧ D.nx σ H2) : sDPut td ty tv D σ H := by
  refine ht H (Ex.refl H) _ fun r H1 nr e1 hr => ho H1 e1 _ fun H2 e2 => hi H2 (e1.trans e2) H2 (Ex.refl _) _ fun H3 e3 => ?_
  obtain ⟨H4, p, q⟩ := k r H3 nr ((e1.trans e2).trans e3) ((e2.trans e3) _ _ hr)
  exact ⟨d, H4, rfl, p, q⟩
theorem s_dpopI (ho : Ev td σ H (.ref d)) (hi : Ev ty σ H (.int i)) (hd : ∀ H1, Ex H H1 → ∃ kvs v, H1 d = some (.dK kvs) ∧ valV kvs (Sum.inl i) = some v ∧ D.nx σ (upd H1 d (.dK (dropK kvs (Sum.inl i))))) : tDrop (tDPop1 td ty) D σ H :=
  ho H (Ex.refl H) _ fun H1 e1 => by
    obtain ⟨kvs, v, h1, _⟩ := hd H1 e1
    refine ⟨d, rfl, .inl ⟨kvs, .inl h1⟩, hi H1 e1 _ fun H2 e2 => ?_⟩
    obtain ⟨kvs, v, h1, h2, h3⟩ := hd H2 (e1.trans e2)
    exact ⟨kvs, Sum.inl i, v, h1, rfl, h2, h3⟩
end
end Mx
namespace Mx
open PySem PySem.Spec PyProof.Rows L2 Evl
section
variable {K : PySem.W.Frag} {σ : L2.St} {H : Hp} {td te : TE} {tt : TT} {d : Addr} {kvs : List (Key × V)} {S : List Int} {g : Int → Bool}
/-- the keys of a dict for which a test holds, d stays as it is -/
theorem el_keysF {j : Nat} {vs : List Nat} (hd : H d = some (.dK kvs)) (hk : kvs.map (·.1) = S.map Sum.inl) (hv : ∀ H1, Ev td σ H1 (.ref d)) (hn : S.length ≤ 40000) (hw : ∀ x, wipe ((wipe σ vs).set j (some x)) vs = wipe σ vs)
    (ht : ∀ (n : Int) H1, EvT tt ((wipe σ vs).set j (some (.int n))) H1 (g n)) (he : ∀ (n : Int) H1, Ev te ((wipe σ vs).set j (some (.int n))) H1 (.int n)) :
    EvL (tLockE (tLc (iKeys td) (gName j) tt te vs)) σ H ((S.filter g).map V.int) := fun H0 e Q q => by
  have hl : kvs.length = S.length := by
    have := congrArg List.length hk
    rwa [List.length_map, List.length_map] at this
  refine ⟨d, .dK kvs, e _ _ hd, trivial, fun od => ?_⟩
  refine hv _ _ (Ex.refl _) _ fun H1 e1 => ⟨d, od, rfl, .inl ⟨kvs, e1 _ _ upd_same, fun Dl hD => ?_⟩⟩
  have d1 : H1 d = some (.frz od (.dK kvs)) := e1 _ _ upd_same
  refine lc_it (walk_keys (kvs := kvs)) (fun i H' => H1 Dl = none ∧ Ex H1 H' ∧ H' Dl = some (.lst (((S.take i).filter g).map V.int))) ⟨hD, Ex.new hD, by rw [upd_same, List.take_zero] <;> rfl⟩ (fun i H' _ p => p.2.1 _ _ d1) (fun i v H' H2 hi p yy => ?_) (fun H' p => ?_)
  · obtain ⟨rfl, k, w, hkv, rfl⟩ := yy
    obtain ⟨p1, p2, p3⟩ := p
    have hki : (S.map Sum.inl : List Key)[i]? = some k := by rw [← hk, List.getElem?_map, hkv] <;> rfl
    rw [List.getElem?_map] at hki
    obtain ⟨n, hn2, rfl⟩ := Option.map_eq_some_iff.mp hki
    have hsn : S.take (i + 1) = S.take i ++ [n] := by rw [List.take_add_one, hn2] <;> rfl
    have hlen : (((S.take i).filter g).map V.int).length ≤ S.length := by
      rw [List.length_map]
      exact Nat.le_trans (List.length_filter_le _ _) (List.length_take_le' _ _)
    refine ⟨hw _, ?_⟩
    refine ht n _ _ (Ex.refl _) _ fun H3 e3 => ?_
    cases hg : g n with
    | false =>
      rw [if_neg (by decide)]
      refine ⟨p1, p2.trans e3, ?_⟩
      rw [e3 _ _ p3, hsn, List.filter_append, List.filter_cons, hg, List.filter_nil, if_neg (by decide), List.append_nil]
    | true =>
      rw [if_pos rfl]
      refine he n H3 H3 (Ex.refl _) _ fun H4 e4 => ⟨_, e4 _ _ (e3 _ _ p3), sz_lt (by omega), p1, Ex.mut ((p2.trans e3).trans e4) p1, ?_⟩
      rw [upd_same, hsn, List.filter_append, List.filter_cons, hg, List.filter_nil, if_pos rfl, List.map_append] <;> rfl
  · obtain ⟨p1, p2, p3⟩ := p
    have nDl : Dl ≠ d := (ne_of_none d1 p1).symm
    refine ⟨p2 _ _ d1, q Dl (upd H' d (.dK kvs)) ?_ (fun a u hu => ?_) ?_⟩
    · cases h : H0 Dl with
      | none => rfl
      | some u =>
        have := e1 Dl u (by rw [upd_ne nDl]; exact h)
        rw [p1] at this
        cases this
    · by_cases ha : a = d
      · rw [ha, upd_same]
        rw [ha, e _ _ hd] at hu
        exact hu
      · rw [upd_ne ha]
        exact p2 _ _ (e1 _ _ (by rw [upd_ne ha]; exact hu))
    · rw [upd_ne nDl, p3, List.take_of_length_le (by omega)]
theorem eso_sortL {ta : TE} (h : EvL ta σ H (S.map V.int)) (hl : S.length < 64) : EvSo (tCB (rSorted K) (tCons ta tNil)) σ H (fun xs => ∃ ys : List Int, xs = ys.map V.int ∧ ys.Perm S ∧ ys.Pairwise (· ≤ ·)) := fun H1 e Q k =>
  h H1 e _ fun p H2 np e2 hp => ⟨p, S, rfl, sq_of hp, hl, fun ys q h1 h2 nq => k _ q _ ⟨ys, rfl, h1, h2⟩ (fresh_back e2 nq) (e2.trans (Ex.new nq)) upd_same⟩
theorem PiAt.keys {F : Int → List Nat} (h : PiAt H d S F) : ∃ kvs, H d = some (.dK kvs) ∧ kvs.length = S.length ∧ kvs.map (·.1) = S.map Sum.inl := by
  obtain ⟨rs, hd, hr⟩ := h
  have lr : rs.length = S.length := by rw [hr.len, List.length_map]
  refine ⟨_, hd, pkI_len lr, ?_⟩
  clear hd hr
  revert lr
  induction S generalizing rs with
  | nil => exact fun _ => rfl
  | cons s S ih =>
    intro l
    cases rs with
    | nil => cases l
    | cons r rs =>
      show (Sum.inl s : Key) :: (pkI S rs).map (·.1) = Sum.inl s :: S.map Sum.inl
      rw [ih rs (Nat.succ.inj l)]
end
/-- pieces as the law spoils them -/
structure PsAt (n : Nat) (H : Hp) (d : Addr) (S : List Int) (F : Int → List Nat) : Prop where
  pi : PiAt H d S F
  nd : S.Nodup
  len : S.length ≤ n
  rng : ∀ i ∈ S, i.natAbs ≤ 1000
  oct : ∀ i ∈ S, Py.Oc (F i) ∧ (F i).length ≤ 4
section
variable {n : Nat} {H : Hp} {d r : Addr} {S : List Int} {F : Int → List Nat} {i : Int} {l : List Nat}
theorem PsAt.put (h : PsAt n H d S F) (hn : n < 1000) (hr : LN H r l) (ol : Py.Oc l ∧ l.length ≤ 4) (hi : i.natAbs ≤ 1000) : ∃ H2, DPut H d (.int i) (.ref r) H2 ∧ Xb d H H2 ∧ PsAt (n + 1) H2 d (putS S i) (updF F i l) ∧ (i ∈ S → PsAt n H2 d S (updF F i l)) := by
  obtain ⟨kvs, hd, hl, hp⟩ := h.pi.put (i := i) hr
  have oct : ∀ S' : List Int, (∀ j ∈ S', j = i ∨ j ∈ S) → ∀ j ∈ S', Py.Oc (updF F i l j) ∧ (updF F i l j).length ≤ 4 := by
    intro S' hS j hj
    unfold updF
    by_cases q : j = i
    · rw [if_pos q]; exact ol
    · rw [if_neg q]; exact h.oct j ((hS j hj).resolve_left q)
  refine ⟨_, DPut.k (k := Sum.inl i) hd (sz_lt (by rw [hl]; have := h.len; omega)), xb_lock, ?_, fun q => ?_⟩
  · by_cases q : i ∈ S
    · have e : putS S i = S := if_pos q
      rw [e] at hp ⊢
      exact ⟨hp, h.nd, Nat.le_succ_of_le h.len, h.rng, oct S fun j hj => .inr hj⟩
    · have e : putS S i = S ++ [i] := if_neg q
      rw [e] at hp ⊢
      refine ⟨hp, List.nodup_append.mpr ⟨h.nd, List.nodup_cons.mpr ⟨List.not_mem_nil, List.nodup_nil⟩, fun a ha b hb => fun z => q (by rw [← List.mem_singleton.mp hb, ← z]; exact ha)⟩, by rw [List.length_append]; exact Nat.add_le_add_right h.len 1, fun j hj => ?_, oct _ fun j hj => ?_⟩
      · rcases List.mem_append.mp hj with z | z
        · exact h.rng j z
        · rw [List.mem_singleton.mp z]; exact hi
      · rcases List.mem_append.mp hj with z | z
        · exact .inr z
        · exact .inl (List.mem_singleton.mp z)
  · have e : putS S i = S := if_pos q
    rw [e] at hp
    exact ⟨hp, h.nd, h.len, h.rng, oct S fun j hj => .inr hj⟩
theorem PsAt.drop (h : PsAt n H d S F) (hi : i ∈ S) : ∃ kvs v, H d = some (.dK kvs) ∧ valV kvs (Sum.inl i) = some v ∧ PsAt n (upd H d (.dK (dropK kvs (Sum.inl i)))) d (S.filter fun j => decide (j ≠ i)) F := by
  obtain ⟨kvs, v, h1, h2, h3⟩ := h.pi.drop hi
  refine ⟨kvs, v, h1, h2, h3, h.nd.sublist List.filter_sublist, Nat.le_trans (List.length_filter_le _ _) h.len, fun j hj => h.rng j (List.mem_filter.mp hj).1, fun j hj => h.oct j (List.mem_filter.mp hj).1⟩
theorem PsAt.up {H' : Hp} (h : PsAt n H d S F) (e : Ex H H') : PsAt n H' d S F := ⟨h.pi.up e, h.nd, h.len, h.rng, h.oct⟩
end
end Mx
namespace Mx
open PySem PySem.Spec PyProof.Rows L2 Evl
theorem PsAt.more {n m : Nat} {H : Hp} {d : Addr} {S : List Int} {F : Int → List Nat} (h : PsAt n H d S F) (e : n ≤ m) : PsAt m H d S F := ⟨h.pi, h.nd, Nat.le_trans h.len e, h.rng, h.oct⟩
theorem ex_xb {d : Addr} {H H' : Hp} (e : Ex H H') : Xb d H H' := fun a u _ h => e a u h
theorem xb_tr {d : Addr} {H H1 H2 : Hp} (x : Xb d H H1) (y : Xb d H1 H2) : Xb d H H2 := fun a u n h => y a u n (x a u n h)
end Mx
namespace Mx
open PySem PySem.Spec PyProof.Rows L2 Evl
section
variable {K : PySem.W.Frag} {σ : L2.St} {H : Hp} {td ty tv t1 t2 ti : TE} {d r : Addr} {i : Int} {D : Ends} {xs x1 x2 : List V} {G : List V → Prop}
theorem s_dputSo (ht : EvSo tv σ H G) (ho : ∀ H1, Ex H H1 → Ev td σ H1 (.ref d)) (hi : ∀ H1, Ex H H1 → Ev ty σ H1 (.int i)) (k : ∀ xs r H1, G xs → Ex H H1 → H1 r = some (.lst xs) → ∃ H2, DPut H1 d (.int i) (.ref r) H2 ∧ D.nx σ H2) : sDPut td ty tv D σ H := by
  refine ht H (Ex.refl H) _ fun xs r H1 g nr e1 hr => ho H1 e1 H1 (Ex.refl _) _ fun H2 e2 => hi H2 (e1.trans e2) H2 (Ex.refl _) _ fun H3 e3 => ?_
  obtain ⟨H4, p, q⟩ := k xs r H3 g ((e1.trans e2).trans e3) ((e2.trans e3) _ _ hr)
  exact ⟨d, H4, rfl, p, q⟩
/-- one of two new lists -/
theorem eso_pick {n : Nat} (h1 : EvL t1 σ H x1) (h2 : EvL t2 σ H x2) (hi : ∀ H1, Ex H H1 → Ev ti σ H1 (.int (n : Int))) (hn : n < 2) (g1 : G x1) (g2 : G x2) : EvSo (tOp (rIxL K) (tLst (tCons t1 (tCons t2 tNil))) ti) σ H G := fun H1 e Q k =>
  h1 H1 e _ fun p1 H2 n1 e2 q1 => h2 H2 (e.trans e2) _ fun p2 H3 n2 e3 q2 => ⟨by show 2 ≤ 2 ^ 24; decide, fun pl hl => by
    have e4 : Ex H3 (upd H3 pl (.lst [.ref p1, .ref p2])) := Ex.new hl
    have hpl : upd H3 pl (.lst [.ref p1, .ref p2]) pl = some (.lst [.ref p1, .ref p2]) := upd_same
    generalize upd H3 pl (.lst [.ref p1, .ref p2]) = H4 at e4 hpl
    refine hi H4 (((e.trans e2).trans e3).trans e4) H4 (Ex.refl _) _ fun H5 e5 => ?_
    have e15 := ((e2.trans e3).trans e4).trans e5
    rcases (by omega : n = 0 ∨ n = 1) with z | z
    · subst z
      exact rv_ixLN (K := K) (k := 0) (sq_of (e5 _ _ hpl)) rfl H5 (Ex.refl _) Q fun H6 e6 => k x1 p1 H6 g1 n1 (e15.trans e6) ((((e3.trans e4).trans e5).trans e6) _ _ q1)
    · subst z
      exact rv_ixLN (K := K) (k := 1) (sq_of (e5 _ _ hpl)) rfl H5 (Ex.refl _) Q fun H6 e6 => k x2 p2 H6 g2 (fresh_back e2 n2) (e15.trans e6) (((e4.trans e5).trans e6) _ _ q2)⟩
end
end Mx
namespace Mx
open PySem PySem.Spec PyProof.Rows L2 Evl
theorem s_dputV {σ : L2.St} {H : Hp} {td ty tv : TE} {d : Addr} {v : V} {i : Int} {D : Ends} (hv : Ev tv σ H v) (ho : Ev td σ H (.ref d)) (hi : Ev ty σ H (.int i)) (k : ∀ H1, Ex H H1 → ∃ H2, DPut H1 d (.int i) v H2 ∧ D.nx σ H2) : sDPut td ty tv D σ H := by
  refine hv H (Ex.refl H) _ fun H1 e1 => ho H1 e1 _ fun H2 e2 => hi H2 (e1.trans e2) _ fun H3 e3 => ?_
  obtain ⟨H4, p, q⟩ := k H3 ((e1.trans e2).trans e3)
  exact ⟨d, H4, rfl, p, q⟩
end Mx
namespace Py
open Gf
theorem xs_upd {f : Nat → Nat} {g j : Nat} : ∀ {n : Nat}, j < n → xs (fun k => if k = j then g else f k) n = xs f n ^^^ (f j ^^^ g)
  | 0, h => absurd h (Nat.not_lt_zero _)
  | n + 1, h => by
    show xs (fun k => if k = j then g else f k) n ^^^ (if n = j then g else f n) = (xs f n ^^^ f n) ^^^ (f j ^^^ g)
    by_cases q : n = j
    · subst q
      rw [if_pos rfl, xs_congr (g := f) fun k hk => if_neg (by omega)]
      rw [Nat.xor_assoc, ← Nat.xor_assoc (f n) (f n) g, Nat.xor_self, Nat.zero_xor]
    · rw [if_neg q, xs_upd (by omega : j < n), Nat.xor_assoc, Nat.xor_comm (f j ^^^ g) (f n), ← Nat.xor_assoc]
theorem comb_set {R n : List Nat} {B : List (List Nat)} {d s j : Nat} (hR : R.length = d) (hB : Mt B d s) (hj : j < d) (hn : n.length = s) (on : Oc n) :
    comb R (B.set j n) s = List.zipWith (fun a b => a ^^^ gm (at0 R j) b) (comb R B s) (List.zipWith (fun a b => a ^^^ b) (at1 B j) n) := by
  have hbj := hB.at hj
  have l1 : ∀ M, (comb R M s).length = s := fun M => combN_length _ _ _ _
  refine ext0 (by rw [l1, List.length_zipWith, l1, List.length_zipWith, hbj.1, hn]; omega) fun c hc => ?_
  rw [l1] at hc
  rw [comb_at hR hc]
  have e0 : at0 (List.zipWith (fun a b => a ^^^ b) (at1 B j) n) c = at0 (at1 B j) c ^^^ at0 n c := at0_of (by rw [List.getElem?_zipWith, at0_get (by rw [hbj.1]; exact hc), at0_get (by rw [hn]; exact hc)] <;> rfl)
  have e1 : at0 (List.zipWith (fun a b => a ^^^ gm (at0 R j) b) (comb R B s) (List.zipWith (fun a b => a ^^^ b) (at1 B j) n)) c = at0 (comb R B s) c ^^^ gm (at0 R j) (at0 (at1 B j) c ^^^ at0 n c) :=
    at0_of (by rw [List.getElem?_zipWith, at0_get (by rw [l1]; exact hc), ← e0, at0_get (by rw [List.length_zipWith, hbj.1, hn]; omega)] <;> rfl)
  rw [e1, comb_at hR hc, gm_xor (hbj.2 c) (on c)]
  refine Eq.trans (xs_congr fun k hk => ?_) (xs_upd (f := fun k => gm (at0 R k) (en B k c)) (g := gm (at0 R j) (at0 n c)) hj)
  by_cases q : k = j
  · subst q
    rw [if_pos rfl]
    show gm _ (at0 (at1 (B.set k n) k) c) = _
    rw [at1_of (r := n) (by rw [List.getElem?_set_self (by rw [hB.rows]; exact hk)])]
  · rw [if_neg q]
    show gm _ (at0 (at1 (B.set j n) k) c) = gm _ (at0 (at1 B k) c)
    rw [at1_of (r := at1 B k) (by rw [List.getElem?_set_ne (fun z => q z.symm)]; exact at1_get (by rw [hB.rows]; exact hk))]
theorem mt_set {n : List Nat} {B : List (List Nat)} {d s j : Nat} (hB : Mt B d s) (hn : n.length = s) (on : Oc n) : Mt (B.set j n) d s :=
  ⟨by rw [List.length_set]; exact hB.rows, fun l hl => (List.mem_or_eq_of_mem_set hl).elim (hB.cols l) fun z => by rw [z]; exact hn, fun l hl => (List.mem_or_eq_of_mem_set hl).elim (hB.oct l) fun z => by rw [z]; exact on⟩
end Py
namespace Mx
open PySem PySem.Spec PyProof.Rows L2 Evl
/-! rows of a number, a list, a number, two lists and a word -/
structure RwSp where
  i : Int
  F : List Nat
  j : Int
  O : List Nat
  N : List Nat
  w : Str
def RwAt (H : Hp) (r : Addr) (q : RwSp) : Prop := ∃ f o n, H r = some (.lst [.int q.i, .ref f, .int q.j, .ref o, .ref n, .str q.w]) ∧ LN H f q.F ∧ LN H o q.O ∧ LN H n q.N
theorem RwAt.up {H H' : Hp} {r : Addr} {q : RwSp} (h : RwAt H r q) (e : Ex H H') : RwAt H' r q := by
  obtain ⟨f, o, n, h1, h2, h3, h4⟩ := h
  exact ⟨f, o, n, e _ _ h1, h2.up e, h3.up e, h4.up e⟩
def RsAt (H : Hp) (rs : List Addr) (L : List RwSp) : Prop := Paired (fun r q => RwAt H r q) rs L
theorem RsAt.up {H H' : Hp} {rs : List Addr} {L : List RwSp} (h : RsAt H rs L) (e : Ex H H') : RsAt H' rs L := Paired.mono (fun _ _ q => RwAt.up q e) h
theorem RsAt.app {H : Hp} : ∀ {rs ss : List Addr} {L M : List RwSp}, RsAt H rs L → RsAt H ss M → RsAt H (rs ++ ss) (L ++ M)
  | _, _, _, _, .nil, h => h
  | _, _, _, _, .cons a t, h => .cons a (RsAt.app t h)
def ArAt (H : Hp) (a : Addr) (L : List RwSp) : Prop := ∃ rs, H a = some (.lst (rs.map V.ref)) ∧ RsAt H rs L
theorem ArAt.up {H H' : Hp} {a : Addr} {L : List RwSp} (h : ArAt H a L) (e : Ex H H') : ArAt H' a L := by
  obtain ⟨rs, h1, h2⟩ := h
  exact ⟨rs, e _ _ h1, h2.up e⟩
section
variable {K : PySem.W.Frag} {σ : L2.St} {H : Hp} {te t1 t2 t3 t4 t5 t6 : TE} {q q1 q2 q3 : RwSp} {D : Ends} {tz : TS} {F : List Nat} {a : Addr} {L M : List RwSp}
def EvLn (te : TE) (σ : L2.St) (H : Hp) (F : List Nat) : Prop := ∀ H1, Ex H H1 → ∀ Q : VK, (∀ p H2, Ex H1 H2 → LN H2 p F → Q (.ref p) H2) → te σ H1 Q
def EvRw (te : TE) (σ : L2.St) (H : Hp) (q : RwSp) : Prop := ∀ H1, Ex H H1 → ∀ Q : VK, (∀ p H2, Ex H1 H2 → RwAt H2 p q → Q (.ref p) H2) → te σ H1 Q
def EvAr (te : TE) (σ : L2.St) (H : Hp) (L : List RwSp) : Prop := ∀ H1, Ex H H1 → ∀ Q : VK, (∀ p H2, Ex H1 H2 → ArAt H2 p L → Q (.ref p) H2) → te σ H1 Q
theorem eln_v (h : Ev te σ H (.ref a)) (hl : LN H a F) : EvLn te σ H F := fun H1 e Q k => h H1 e _ fun H2 e2 => k a H2 e2 (hl.up (e.trans e2))
theorem eln_l (h : EvL te σ H (F.map nV)) : EvLn te σ H F := fun H1 e Q k => h H1 e _ fun p H2 _ e2 hp => k p H2 e2 hp
theorem erw (h1 : Ev t1 σ H (.int q.i)) (h2 : EvLn t2 σ H q.F) (h3 : Ev t3 σ H (.int q.j)) (h4 : EvLn t4 σ H q.O) (h5 : EvLn t5 σ H q.N) (h6 : Ev t6 σ H (.str q.w)) : EvRw (tLst (tCons t1 (tCons t2 (tCons t3 (tCons t4 (tCons t5 (tCons t6 tNil))))))) σ H q := fun H0 e0 Q k =>
  h1 H0 e0 _ fun H1 e1 => h2 H1 (e0.trans e1) _ fun f H2 e2 hf => h3 H2 ((e0.trans e1).trans e2) _ fun H3 e3 => h4 H3 (((e0.trans e1).trans e2).trans e3) _ fun o H4 e4 ho => h5 H4 ((((e0.trans e1).trans e2).trans e3).trans e4) _ fun n H5 e5 hn =>
    h6 H5 (((((e0.trans e1).trans e2).trans e3).trans e4).trans e5) _ fun H6 e6 => ⟨by show 6 ≤ 2 ^ 24; decide, fun p hp => by
      have e7 : Ex H6 (upd H6 p (.lst [.int q.i, .ref f, .int q.j, .ref o, .ref n, .str q.w])) := Ex.new hp
      exact k p _ ((((((e1.trans e2).trans e3).trans e4).trans e5).trans e6).trans e7) ⟨f, o, n, upd_same, hf.up ((((e3.trans e4).trans e5).trans e6).trans e7), ho.up ((e5.trans e6).trans e7), hn.up (e6.trans e7)⟩⟩
theorem ear3 (h1 : EvRw t1 σ H q1) (h2 : EvRw t2 σ H q2) (h3 : EvRw t3 σ H q3) : EvAr (tLst (tCons t1 (tCons t2 (tCons t3 tNil)))) σ H [q1, q2, q3] := fun H0 e0 Q k =>
  h1 H0 e0 _ fun a H1 e1 ha => h2 H1 (e0.trans e1) _ fun b H2 e2 hb => h3 H2 ((e0.trans e1).trans e2) _ fun c H3 e3 hc => ⟨by show 3 ≤ 2 ^ 24; decide, fun p hp => by
    have e4 : Ex H3 (upd H3 p (.lst [.ref a, .ref b, .ref c])) := Ex.new hp
    exact k p _ (((e1.trans e2).trans e3).trans e4) ⟨[a, b, c], upd_same, .cons (ha.up ((e2.trans e3).trans e4)) (.cons (hb.up (e3.trans e4)) (.cons (hc.up e4) .nil))⟩⟩
theorem ear_cat (h1 : Ev t1 σ H (.ref a)) (ha : ArAt H a L) (h2 : EvAr t2 σ H M) (hz : L.length + M.length ≤ 1000) : EvAr (tOp rCat t1 t2) σ H (L ++ M) := fun H0 e0 Q k =>
  h1 H0 e0 _ fun H1 e1 => h2 H1 (e0.trans e1) _ fun b H2 e2 hb => by
    obtain ⟨rs, g1, g2⟩ := ha.up ((e0.trans e1).trans e2)
    obtain ⟨ss, g3, g4⟩ := hb
    have l1 : rs.length = L.length := Paired.length g2
    have l2 : ss.length = M.length := Paired.length g4
    refine ⟨a, b, _, _, rfl, rfl, g1, g3, sz_of (by rw [List.length_map, List.length_map, l1, l2]; omega), fun l hl => ?_⟩
    have e3 : Ex H2 (upd H2 l (.lst (rs.map V.ref ++ ss.map V.ref))) := Ex.new hl
    exact k l _ ((e1.trans e2).trans e3) ⟨rs ++ ss, by rw [upd_same, List.map_append], (RsAt.up g2 e3).app (RsAt.up g4 e3)⟩
theorem q_asgAr {i : Nat} (h : EvAr te σ H L) (k : ∀ p H1, Ex H H1 → ArAt H1 p L → tz D (σ.set i (some (.ref p))) H1) : tSeq (tAsg te (gName i)) tz D σ H := h H (Ex.refl H) _ k
end
end Mx
namespace Mx
open PySem PySem.Spec PyProof.Rows L2 Evl
section
variable {K : PySem.W.Frag} {σ : L2.St} {H : Hp} {ta tb te : TE} {t0 : TA} {D : Ends} {tz : TS} {xs ys : List V} {C a l dx : Addr} {fs : List (Str × V)} {m : Str} {sp : Sp} {ES : L2.St → XK} {vs : List V}
theorem q_setLnew {j : Nat} (h : EvL te σ H ys) (hl : H l = some (.lst xs)) (ho : ∀ H1, Ex H H1 → Ev ta σ H1 (.ref l)) (hi : ∀ H1, Ex H H1 → Ev tb σ H1 (.int (j : Int))) (hj : j < xs.length)
    (k : ∀ r H1, Ex H H1 → H r = none → H1 r = some (.lst ys) → tz D σ (upd H1 l (.lst (xs.set j (.ref r))))) : tSeq (tAsg te (gSub ta tb rSetL)) tz D σ H :=
  h H (Ex.refl H) _ fun r H1 nr e1 hr => (q_setL (te := tC (.ref r)) (e1 _ _ hl) ev_c (ho H1 e1) (hi H1 e1) hj fun H2 e2 => k r H2 (e1.trans e2) nr (e2 _ _ hr) : tSeq (tAsg (tC (.ref r)) (gSub ta tb rSetL)) tz D σ H1)
theorem q_dropMethS (ho : Ev ta σ H (.ref a)) (hi : H a = some (.ins C dx fs)) (hm : fs.lookup m = none) (h : ∀ H1, Ex H H1 → EvA t0 σ H1 vs) (hs : ∀ H1, Ex H H1 → sp (.ref a :: vs) H1 (fun _ H2 => tz D σ H2) (ES σ)) : tSeq (tDrop (tMethS C m sp ES ta t0)) tz D σ H :=
  ho H (Ex.refl H) _ fun H1 e1 => ⟨a, dx, fs, rfl, e1 _ _ hi, hm, h H1 e1 H1 (Ex.refl H1) _ fun H2 e2 => hs H2 (e1.trans e2)⟩
theorem RsAt.get {H : Hp} {i : Nat} {r : Addr} : ∀ {rs : List Addr} {L : List RwSp} {i : Nat}, RsAt H rs L → rs[i]? = some r → ∃ q ∈ L, RwAt H r q
  | _, _, _, .nil, h => by cases h
  | _, _, 0, .cons a t, h => by
    cases h
    exact ⟨_, List.mem_cons_self, a⟩
  | _, _, i + 1, .cons a t, h => by
    obtain ⟨q, h1, h2⟩ := RsAt.get (i := i) (r := r) t h
    exact ⟨q, List.mem_cons_of_mem _ h1, h2⟩
end
end Mx
namespace Mx
open PySem PySem.Spec PyProof.Rows L2 Evl
theorem el_callLV {σ : L2.St} {H : Hp} {ta tb : TE} {sp : Sp} {E : XK} {xs zs : List V} {y : V} (h1 : EvL ta σ H xs) (h2 : Ev tb σ H y) (hs : ∀ q H1, Ex H H1 → H1 q = some (.lst xs) → SpL sp ([.ref q, y] ++ []) H1 zs) : EvL (tCall sp [] E (tCons ta (tCons tb tNil))) σ H zs := fun H1 e Q k =>
  h1 H1 e _ fun q H2 nq e2 hq => h2 H2 (e.trans e2) _ fun H3 e3 => hs q H3 ((e.trans e2).trans e3) (e3 _ _ hq) H3 (Ex.refl _) Q (fun p H4 np e4 hp => k p H4 (fresh_back (e2.trans e3) np) ((e2.trans e3).trans e4) hp) E
end Mx
namespace Mx
open PySem PySem.Spec PyProof.Rows L2 Evl
theorem eln_e {σ : L2.St} {H : Hp} : EvLn (tLst tNil) σ H [] := eln_l (el_lst ea_nil (by decide))
theorem eln_snoc {σ : L2.St} {H : Hp} {te : TE} {a : Addr} {F : List Nat} (h : Ev te σ H (.ref a)) (hl : LN H a F) (hz : F.length ≤ 1000) : EvLn (tOp rCat te (tLst (tCons (tC (.int 1)) tNil))) σ H (F ++ [1]) :=
  eln_l (el_is (el_catVL (ys := [nV 1]) h hl (el_lst (ea_cons ev_c ea_nil) (by decide)) (by rw [len_map]; show F.length + 1 ≤ 100000; omega)) (by rw [List.map_append] <;> rfl))
end Mx

set_option Elab.async false
set_option linter.all false
set_option maxRecDepth 100000
set_option maxHeartbeats 4000000
namespace Mx
open PySem PySem.Spec PyProof.Rows L2 Evl
/-! ### a tuple whose object is known: methods of it -/
/-- a tuple with nothing but its items -/
def FzT (H : Hp) (p : Addr) (ys : List V) : Prop := ∃ o : Obj, o.cls = .type "tuple" ∧ o.dict = none ∧ H p = some (.frz o (.tup ys))
theorem FzT.sq {K : PySem.W.Frag} {H : Hp} {p : Addr} {ys : List V} (h : FzT H p ys) : SqT K H p ys := by
  obtain ⟨o, _, _, e⟩ := h
  exact .inl (.inr ⟨o, e⟩)
theorem FzT.up {H H' : Hp} {p : Addr} {ys : List V} (h : FzT H p ys) (e : Ex H H') : FzT H' p ys := by
  obtain ⟨o, a, b, c⟩ := h
  exact ⟨o, a, b, e _ _ c⟩
section
variable {X : Cx} {o e : Expr} {es : List Expr} {to : TE} {t : TA} {name : Str} {apos cpos : Pos} {id : String} {r : V → List V → Hp → VK → Prop}
def tBMT (r : V → List V → Hp → VK → Prop) (to : TE) (t : TA) : TE := fun σ H Q => to σ H fun x H1 => (∃ p ys, x = .ref p ∧ FzT H1 p ys) ∧ t σ H1 fun xs H2 => r x xs H2 Q
theorem pe_bmT (slot : Slot "tuple" name id) (hty : typeOf (.builtin id) = pure (.type "method_descriptor")) (hm : MtR X id r) (ho : PE X o to) (ha : PA X (e :: es) t)
    (hbase : attributeBase o name X.env (eval o X.env) = eval o X.env := by rfl)
    (hfew : ((backTo cpos (starEach (e :: es) X.env)).all (fun x => !x.1) && (backToKw cpos (keywordEach [] X.env)).all (fun x => x.1.isSome)
      && decide ((e :: es).length + ([] : List Keyword).length + (if ([] : List Keyword).isEmpty then 0 else 1) < 30)) = true := by rfl)
    (hline : (apos.endLine == cpos.line) = true := by rfl) (hs : starEach (e :: es) X.env = (false, eval e X.env) :: starEach es X.env := by rfl) (hplain : (backTo cpos (starEach es X.env)).any (·.1) = false := by rfl) :
    PE X (.Call (.Attribute o name apos) (e :: es) [] cpos) (tBMT r to t) := by
  refine ⟨fun pins s σ H Q I h => ?_⟩
  refine wpAny_Call_method_late hbase hfew hline rfl (thn (ho.run pins s σ H _ I h) fun v s1 ⟨x, H1, I1, r1, ty, q1⟩ => ?_)
  obtain ⟨p, ys, rfl, ob, hc, hd, hf⟩ := ty
  cases r1
  obtain ⟨e1, _⟩ := I1.hok p _ hf
  refine ⟨"tuple", id, PySem.F.plainAttrs_tuple, slot, hty, ⟨ob, e1, hc⟩, fun a e2 => by cases e2; exact ⟨ob, e1, hd⟩, ?_⟩
  have hA := ha.run cpos pins s1 σ H1 _ I1 q1
  rw [hs] at hA ⊢
  refine Calls.callWith_builtin (by show (false || (backTo cpos (starEach es X.env)).any (·.1)) = false; rw [hplain] <;> rfl) (Calls.evalArgs_plain ?_)
  exact thn hA fun us s2 ⟨vs, H2, I2, r2, q2⟩ => hm pins s2 σ H2 (.ref p) vs (.ref p) us Q I2 rfl r2 q2
/-- tuple(xs) of a list, its object known -/
def rTupF (K : PySem.W.Frag) (xs : List V) (H : Hp) (Q : VK) : Prop := ∃ p ys, xs = [.ref p] ∧ SqL K H p ys ∧ ∀ l H', H l = none → Ex H H' → FzT H' l ys → Q (.ref l) H'
theorem call_tupF {K : PySem.W.Frag} (hK : X.K = K) : CallR X (.type "tuple") (rTupF K) := by
  subst hK
  intro pins s σ H xs us Q I r h
  obtain ⟨p, ys, rfl, hq, q⟩ := h
  obtain ⟨u, rfl, rx⟩ := vals1 r
  cases rx
  obtain ⟨its, r', pl, hz⟩ := I.list hq
  have hlen := r'.length
  refine call_tuple_list pl.isList (fun h' kp => ?_) (by simp only [List.size_toArray] <;> omega)
  have I1 : Inv X pins σ H { s with heap := h' } := I.kept (t' := s.toks) kp
  have I2 : Inv X pins σ (upd H h'.objs.size (.frz { cls := .type "tuple", data := .seq its.toArray } (.tup ys))) { s with heap := h'.push { cls := .type "tuple", data := .seq its.toArray } } :=
    I1.laid (t' := s.toks) (fun b o e => Heap.get?_push_of_some _ e) (Nat.le_refl _) (show ObjOk X.prog X.w _ _ _ (.frz _ (.tup ys)) from ⟨Heap.get?_push_size _ rfl, hz, its, r', IsTup.new _ _⟩)
  have nl := I1.hok.fresh (Nat.le_refl _)
  exact ⟨.ref h'.objs.size, _, I2, rfl, q _ _ nl (Ex.new nl) ⟨_, rfl, rfl, upd_same⟩⟩
end
section
variable {K : PySem.W.Frag} {σ : L2.St} {H H' : Hp} {ta tb te tx : TE} {x y z v : V}
/-- what evaluates to a tuple whose object is known -/
def EvF (te : TE) (σ : L2.St) (H : Hp) (ys : List V) : Prop := ∀ H1, Ex H H1 → ∀ Q : VK, (∀ p H2, H1 p = none → Ex H1 H2 → FzT H2 p ys → Q (.ref p) H2) → te σ H1 Q
def RetF (ys : List V) (H : Hp) (Q : VK) : Prop := ∀ p H', H p = none → Ex H H' → FzT H' p ys → Q (.ref p) H'
def SpF (sp : Sp) (vs : List V) (H : Hp) (ys : List V) : Prop := ∀ H1, Ex H H1 → ∀ Q : VK, RetF ys H1 Q → ∀ E : XK, sp vs H1 Q E
theorem ef_tupL {ys : List V} (h : EvL te σ H ys) : EvF (tCB (rTupF K) (tCons te tNil)) σ H ys := fun H1 e Q k =>
  h H1 e _ fun p H2 _ e2 hp => ⟨p, ys, rfl, sq_of hp, fun l H3 nl e3 hl => k l H3 (fresh_back e2 nl) (e2.trans e3) hl⟩
theorem s_retF {ys : List V} {D : Ends} (h : EvF te σ H ys) (k : RetF ys H D.rt) : tRet te D σ H := h H (Ex.refl H) _ fun p H1 np e1 hp => k p H1 np e1 hp
theorem ef_meth {ta0 : TA} {m : Str} {a C dx : Addr} {fs : List (Str × V)} {vs dvs ys : List V} {sp : Sp} {E : XK} (ho : Ev ta σ H (.ref a)) (hi : H a = some (.ins C dx fs)) (hm : fs.lookup m = none) (h : EvA ta0 σ H vs) (hs : SpF sp (.ref a :: (vs ++ dvs)) H ys) : EvF (tMeth C m sp dvs E ta ta0) σ H ys := fun H1 e Q k =>
  ho H1 e _ fun H2 e2 => ⟨a, dx, fs, rfl, e2 _ _ (e _ _ hi), hm, h H2 (e.trans e2) _ fun H3 e3 => hs H3 ((e.trans e2).trans e3) Q (fun p H4 np e4 hp => k p H4 (fresh_back (e2.trans e3) np) ((e2.trans e3).trans e4) hp) E⟩
def rTix (K : PySem.W.Frag) : V → List V → Hp → VK → Prop := fun x xs H Q => ∃ p, ∃ ys : List Str, ∃ z j, x = .ref p ∧ xs = [.str z] ∧ SqT K H p (ys.map V.str) ∧ ys[j]? = some z ∧ (∀ m, m < j → ys[m]? ≠ some z) ∧ Q (.int (j : Nat)) H
theorem mt_tix {X : Cx} (h : X.K = K) : MtR X "tuple.index" (rTix K) := by
  subst h
  exact mt_tup_index
theorem ev_tix {ys : List Str} {z : Str} {j : Nat} (ha : EvF ta σ H (ys.map V.str)) (hb : ∀ H1, Ex H H1 → Ev tb σ H1 (.str z)) (hj : ys[j]? = some z) (hno : ∀ m, m < j → ys[m]? ≠ some z) : Ev (tBMT (rTix K) ta (tCons tb tNil)) σ H (.int (j : Int)) := fun H1 e Q k =>
  ha H1 e _ fun p H2 _ e2 hp => ⟨⟨p, _, rfl, hp⟩, hb H2 (e.trans e2) H2 (Ex.refl _) _ fun H3 e3 => ⟨p, ys, z, j, rfl, rfl, (hp.up e3).sq, hj, hno, k H3 (e2.trans e3)⟩⟩
end
end Mx

set_option Elab.async false
set_option linter.all false
set_option maxRecDepth 100000
set_option maxHeartbeats 4000000
namespace Mx
open PySem PySem.Spec PyProof.Rows L2 Evl
/-! ### sorted keys, told once and for all -/
section
variable {K : PySem.W.Frag} {σ : L2.St} {H H' : Hp} {ta tb tc td te t1 t2 t3 t4 : TE} {t0 : TA} {x y z v : V} {D : Ends} {tu tz : TS} {g : TG} {d : Addr} {S : List Int} {F : Int → List Nat} {M N M1 M2 M3 M4 : List (List Nat)} {xs ys : List V} {l : List Nat}
theorem srt_uniq {ys zs : List Int} (hy : ys.Perm S) (py : ys.Pairwise (· ≤ ·)) (hz : zs.Perm S) (pz : zs.Pairwise (· ≤ ·)) : ys = zs :=
  List.Perm.eq_of_pairwise (le := (· ≤ ·)) (fun a b _ _ h1 h2 => Int.le_antisymm h1 h2) py pz (hy.trans hz.symm)
theorem srt_ex (S : List Int) : ∃ ys : List Int, ys.Perm S ∧ ys.Pairwise (· ≤ ·) := by
  refine ⟨S.mergeSort (fun a b => decide (a ≤ b)), List.mergeSort_perm _ _, ?_⟩
  have h := List.pairwise_mergeSort (le := fun a b : Int => decide (a ≤ b)) (fun a b c h1 h2 => by
    have h1 := of_decide_eq_true h1
    have h2 := of_decide_eq_true h2
    exact decide_eq_true (by omega)) (fun a b => by
    rcases Int.le_total a b with h | h
    · rw [decide_eq_true h] <;> rfl
    · rw [decide_eq_true h, Bool.or_true]) S
  exact h.imp fun h => of_decide_eq_true h
theorem PiAt.srtL {ys : List Int} (hP : PiAt H d S F) (h : Ev ta σ H (.ref d)) (hl : S.length < 64) (hp : ys.Perm S) (hs : ys.Pairwise (· ≤ ·)) : EvL (tCB rSrtD (tCons ta tNil)) σ H (ys.map V.int) := fun H1 e Q k =>
  hP.srt h hl H1 e _ fun xs p H2 gx np e2 hp2 => by
    obtain ⟨zs, rfl, a, b⟩ := gx
    rw [srt_uniq a b hp hs] at hp2
    exact k p H2 np e2 hp2
/-! ### lists of lists by parts -/
theorem emn_v {a : Addr} (h : Ev te σ H (.ref a)) (hm : MN H a M) : EvMn te σ H M := fun H1 e Q k => h H1 e _ fun H2 e2 => k a H2 e2 (hm.up (e.trans e2))
theorem emn_of {rs : List Addr} (h : EvL te σ H (rs.map V.ref)) (hr : LR H rs M) : EvMn te σ H M := fun H1 e Q k => h H1 e _ fun p H2 _ e2 hp => k p H2 e2 ⟨rs, hp, hr.mono (e.trans e2)⟩
theorem lr_take (n : Nat) : ∀ {rs : List Addr} {M : List (List Nat)} {n : Nat}, LR H rs M → LR H (rs.take n) (M.take n)
  | _, _, _, .nil => by rw [List.take_nil, List.take_nil]; exact .nil
  | _, _, 0, .cons _ _ => .nil
  | _, _, n + 1, .cons h t => .cons h (lr_take 0 t)
theorem lr_app : ∀ {rs ss : List Addr} {M N : List (List Nat)}, LR H rs M → LR H ss N → LR H (rs ++ ss) (M ++ N)
  | _, _, _, _, .nil, h => h
  | _, _, _, _, .cons a t, h => .cons a (lr_app t h)
theorem emn_take {a : Addr} {n : Nat} {th : TO} (h : Ev te σ H (.ref a)) (hm : MN H a M) (h2 : EvO th σ H (some (n : Int))) : EvMn (tSl (rSlL K) te tNoPart th) σ H (M.take n) := by
  obtain ⟨rs, h3, h4⟩ := hm
  exact emn_of (rs := rs.take n) (el_is (el_sl h eo_none h2 (sq_of h3)) (by rw [cut_to, List.map_take])) (lr_take 0 h4)
theorem emn_drop {a : Addr} {n : Nat} {tl : TO} (h : Ev te σ H (.ref a)) (hm : MN H a M) (h2 : EvO tl σ H (some (n : Int))) : EvMn (tSl (rSlL K) te tl tNoPart) σ H (M.drop n) := by
  obtain ⟨rs, h3, h4⟩ := hm
  exact emn_of (rs := rs.drop n) (el_is (el_sl h h2 eo_none (sq_of h3)) (by rw [cut_from, List.map_drop])) (lr_drop h4)
theorem emn_cat (h1 : EvMn t1 σ H M) (h2 : EvMn t2 σ H N) (hz : M.length + N.length ≤ 1000) : EvMn (tOp rCat t1 t2) σ H (M ++ N) := fun H0 e0 Q k =>
  h1 H0 e0 _ fun a H1 e1 ha => h2 H1 (e0.trans e1) _ fun b H2 e2 hb => by
    obtain ⟨rs, g1, g2⟩ := ha.up e2
    obtain ⟨ss, g3, g4⟩ := hb
    refine ⟨a, b, _, _, rfl, rfl, g1, g3, sz_of (by rw [List.length_map, List.length_map, g2.len, g4.len]; omega), fun l hl => ?_⟩
    have e3 : Ex H2 (upd H2 l (.lst (rs.map V.ref ++ ss.map V.ref))) := Ex.new hl
    exact k l _ ((e1.trans e2).trans e3) ⟨rs ++ ss, by rw [upd_same, List.map_append], lr_app (g2.mono e3) (g4.mono e3)⟩
theorem emn_1 {F : List Nat} (h : EvLn t1 σ H F) : EvMn (tLst (tCons t1 tNil)) σ H [F] := fun H0 e0 Q k =>
  h H0 e0 _ fun a H1 e1 ha => ⟨by show 1 ≤ 2 ^ 24; decide, fun p hp => by
    have e2 : Ex H1 (upd H1 p (.lst [.ref a])) := Ex.new hp
    exact k p _ (e1.trans e2) ⟨[a], upd_same, .cons (ha.up e2) .nil⟩⟩
theorem emn_2 {F G : List Nat} (h1 : EvLn t1 σ H F) (h2 : EvLn t2 σ H G) : EvMn (tLst (tCons t1 (tCons t2 tNil))) σ H [F, G] := fun H0 e0 Q k =>
  h1 H0 e0 _ fun a H1 e1 ha => h2 H1 (e0.trans e1) _ fun b H2 e2 hb => ⟨by show 2 ≤ 2 ^ 24; decide, fun p hp => by
    have e3 : Ex H2 (upd H2 p (.lst [.ref a, .ref b])) := Ex.new hp
    exact k p _ ((e1.trans e2).trans e3) ⟨[a, b], upd_same, .cons ((ha.up e2).up e3) (.cons (hb.up e3) .nil)⟩⟩
/-- for x in [four lists of lists] -/
theorem q_forMs4 (h1 : EvMn t1 σ H M1) (h2 : EvMn t2 σ H M2) (h3 : EvMn t3 σ H M3) (h4 : EvMn t4 σ H M4)
    (k : ∀ p a b c d H1, Ex H H1 → H1 p = some (.lst [.ref a, .ref b, .ref c, .ref d]) → MN H1 a M1 → MN H1 b M2 → MN H1 c M3 → MN H1 d M4 → tSeq (tFor (iList K (tC (.ref p))) g tu) tz D σ H1) :
    tSeq (tFor (iList K (tLst (tCons t1 (tCons t2 (tCons t3 (tCons t4 tNil)))))) g tu) tz D σ H :=
  h1 H (Ex.refl H) _ fun a H1 e1 ha => h2 H1 e1 _ fun b H2 e2 hb => h3 H2 (e1.trans e2) _ fun c H3 e3 hc => h4 H3 ((e1.trans e2).trans e3) _ fun d H4 e4 hd => ⟨by show 4 ≤ 2 ^ 24; decide, fun p hp => by
    have e5 : Ex H4 (upd H4 p (.lst [.ref a, .ref b, .ref c, .ref d])) := Ex.new hp
    exact k p a b c d _ ((((e1.trans e2).trans e3).trans e4).trans e5) upd_same (ha.up (((e2.trans e3).trans e4).trans e5)) (hb.up ((e3.trans e4).trans e5)) (hc.up (e4.trans e5)) (hd.up e5)⟩
/-! ### calls, lists of truths -/
theorem evd_call4 {sp : Sp} {E : XK} {d : PyData} (h1 : Ev t1 σ H x) (h2 : Ev t2 σ H y) (h3 : EvL t3 σ H xs) (h4 : ∀ H1, Ex H H1 → Ev t4 σ H1 z) (hs : ∀ q H1, Ex H H1 → H1 q = some (.lst xs) → SpD K sp ([x, y, .ref q, z] ++ []) H1 d) : EvD K (tCall sp [] E (tCons t1 (tCons t2 (tCons t3 (tCons t4 tNil))))) σ H d := fun H0 e0 Q k =>
  h1 H0 e0 _ fun H1 e1 => h2 H1 (e0.trans e1) _ fun H2 e2 => h3 H2 ((e0.trans e1).trans e2) _ fun q H3 nq e3 hq => h4 H3 (((e0.trans e1).trans e2).trans e3) H3 (Ex.refl _) _ fun H4 e4 =>
    hs q H4 ((((e0.trans e1).trans e2).trans e3).trans e4) (e4 _ _ hq) H4 (Ex.refl _) _ _ fun u H5 e5 du => k u H5 ((((e1.trans e2).trans e3).trans e4).trans e5) du
theorem ev_ixD {a : Str} {e : PyData} {u : V} (h : Ev ta σ H u) (hd : Dp K H u (.tuple [.str a, e])) : Ev (tOp (rIxT K) ta (tC (.int 0))) σ H (.str a) := by
  cases hd with
  | tup hs ha =>
    cases ha with
    | cons h1 h2 =>
      cases h1
      exact ev_op h ev_c (rv_ixTN (k := 0) hs rfl)
def dB (b : Bool) : PyData := .bool b
theorem dp_bools : ∀ l : List Bool, DpAll K H (l.map V.bl) (l.map dB)
  | [] => .nil
  | b :: l => .cons (.bl b) (dp_bools l)
theorem lay_bools : ∀ l : List Bool, PyData.canLayAll0 (l.map dB) = true ∧ PyData.depthAll (l.map dB) = 0
  | [] => ⟨rfl, rfl⟩
  | b :: l => by
    obtain ⟨h1, h2⟩ := lay_bools l
    refine ⟨?_, ?_⟩
    · show (PyData.canLay0 (dB b) && PyData.canLayAll0 (l.map dB)) = true
      rw [h1] <;> rfl
    · show max (PyData.depth (dB b)) (PyData.depthAll (l.map dB)) = 0
      rw [h2] <;> rfl
theorem shaped_bools (l : List Bool) : SeqAt.shaped (.list (l.map dB)) = true := by
  unfold SeqAt.shaped
  have h1 : PyData.canLay0 (.list (l.map dB)) = true := (lay_bools l).1
  have h2 : PyData.depth (.list (l.map dB)) = 1 := by
    show PyData.depthAll (l.map dB) + 1 = 1
    rw [(lay_bools l).2]
  rw [h1, h2] <;> rfl
theorem rv_neBs {p q : Addr} {l : List Bool} (h : SqL K H p (l.map V.bl)) (h2 : SqL K H q (l.map V.bl)) : RV (rNeD K) (.ref p) (.ref q) H (.bl false) := rv_neD (.lst h (dp_bools l)) (.lst h2 (dp_bools l)) (shaped_bools l)
theorem flat_bools : ∀ l : List Bool, (l.map V.bl).all flatV = true
  | [] => rfl
  | b :: l => by
    show (flatV (.bl b) && (l.map V.bl).all flatV) = true
    rw [flat_bools l] <;> rfl
theorem no_false : ∀ l : List Bool, (!inV (.bl false) (l.map V.bl)) = l.all id
  | [] => rfl
  | b :: l => by
    have ih := no_false l
    unfold inV at ih ⊢
    rw [List.map_cons, List.any_cons, Bool.not_or, ih, List.all_cons]
    cases b <;> rfl
theorem all_perm {l m : List Bool} (h : l.Perm m) : l.all id = m.all id := by
  rw [Bool.eq_iff_iff, List.all_eq_true, List.all_eq_true]
  exact ⟨fun a x hx => a x (h.mem_iff.mpr hx), fun a x hx => a x (h.mem_iff.mp hx)⟩
theorem pr_forEq {α : Type} {k : Nat} {f : Nat → α} : ∀ {l : List α}, l.length = k → (∀ i, i < k → l[i]? = some (f i)) → l = (List.range k).map f := by
  intro l hl h
  refine List.ext_getElem? fun i => ?_
  by_cases hi : i < k
  · rw [h i hi, List.getElem?_map, List.getElem?_range hi] <;> rfl
  · rw [List.getElem?_eq_none (by omega), List.getElem?_eq_none (by simpa using hi)]
end
end Mx

set_option Elab.async false
set_option linter.all false
set_option maxRecDepth 100000
set_option maxHeartbeats 4000000
namespace Mx
open PySem PySem.Spec PyProof.Rows L2 Evl
/-! ### data without lists, which a list that changes leaves as they are -/
mutual
inductive DpT (H : Hp) : V → PyData → Prop
  | non : DpT H .non .none
  | bl (b : Bool) : DpT H (.bl b) (.bool b)
  | int (i : Int) : DpT H (.int i) (.int i)
  | str (x : Str) : DpT H (.str x) (.str x)
  | tup {a : Addr} {xs : List V} {ds : List PyData} : H a = some (.tup xs) → DpTs H xs ds → DpT H (.ref a) (.tuple ds)
inductive DpTs (H : Hp) : List V → List PyData → Prop
  | nil : DpTs H [] []
  | cons {v : V} {vs : List V} {d : PyData} {ds : List PyData} : DpT H v d → DpTs H vs ds → DpTs H (v :: vs) (d :: ds)
end
/-- the tuples stay -/
def Tk (H H' : Hp) : Prop := ∀ a xs, H a = some (.tup xs) → H' a = some (.tup xs)
section
variable {K : PySem.W.Frag} {H H' H1 : Hp} {l : Addr} {o : HO} {ys : List V}
theorem Tk.of (e : Ex H H') : Tk H H' := fun a xs h => e a _ h
theorem Tk.tr {H2 : Hp} (a : Tk H H1) (b : Tk H1 H2) : Tk H H2 := fun c xs h => b c xs (a c xs h)
theorem Tk.mut (h : ∀ xs, H l ≠ some (.tup xs)) : Tk H (upd H l o) := fun a xs e => by
  rw [upd_ne (fun z => by rw [z] at e; exact h xs e)]
  exact e
theorem Tk.lst (h : H l = some (.lst ys)) : Tk H (upd H l o) := Tk.mut fun xs z => by rw [h] at z; cases z
theorem Tk.dk {kvs : List (Key × V)} (h : H l = some (.dK kvs)) : Tk H (upd H l o) := Tk.mut fun xs z => by rw [h] at z; cases z
mutual
theorem dpt_up (t : Tk H H') : ∀ (d : PyData) (v : V), DpT H v d → DpT H' v d
  | _, _, .non => .non
  | _, _, .bl b => .bl b
  | _, _, .int i => .int i
  | _, _, .str x => .str x
  | .tuple ds, _, .tup h a => .tup (t _ _ h) (dpts_up t ds _ a)
theorem dpts_up (t : Tk H H') : ∀ (ds : List PyData) (vs : List V), DpTs H vs ds → DpTs H' vs ds
  | _, _, .nil => .nil
  | d :: ds, v :: vs, .cons h a => .cons (dpt_up t d v h) (dpts_up t ds vs a)
end
mutual
theorem dpt_dp : ∀ (d : PyData) (v : V), DpT H v d → Dp K H v d
  | _, _, .non => .non
  | _, _, .bl b => .bl b
  | _, _, .int i => .int i
  | _, _, .str x => .str x
  | .tuple ds, _, .tup h a => .tup (st_of h) (dpts_dp ds _ a)
theorem dpts_dp : ∀ (ds : List PyData) (vs : List V), DpTs H vs ds → DpAll K H vs ds
  | _, _, .nil => .nil
  | d :: ds, v :: vs, .cons h a => .cons (dpt_dp d v h) (dpts_dp ds vs a)
end
theorem DpT.up {v : V} {d : PyData} (h : DpT H v d) (t : Tk H H') : DpT H' v d := dpt_up t d v h
theorem DpTs.up {vs : List V} {ds : List PyData} (h : DpTs H vs ds) (t : Tk H H') : DpTs H' vs ds := dpts_up t ds vs h
theorem DpT.dp {v : V} {d : PyData} (h : DpT H v d) : Dp K H v d := dpt_dp d v h
theorem DpTs.dp {vs : List V} {ds : List PyData} (h : DpTs H vs ds) : DpAll K H vs ds := dpts_dp ds vs h
theorem DpTs.snoc {v : V} {d : PyData} (h : DpT H v d) : ∀ {vs : List V} {ds : List PyData}, DpTs H vs ds → DpTs H (vs ++ [v]) (ds ++ [d])
  | [], [], .nil => .cons h .nil
  | _ :: _, _ :: _, .cons a t => .cons a (DpTs.snoc h t)
theorem DpTs.len : ∀ {vs : List V} {ds : List PyData}, DpTs H vs ds → vs.length = ds.length
  | [], [], .nil => rfl
  | _ :: _, _ :: _, .cons a t => congrArg (· + 1) (DpTs.len t)
theorem dpts_nats : ∀ l : List Nat, DpTs H (l.map nV) (l.map dN)
  | [] => .nil
  | n :: l => .cons (.int (n : Int)) (dpts_nats l)
theorem dpt_nats {p : Addr} {l : List Nat} (h : H p = some (.tup (l.map nV))) : DpT H (.ref p) (.tuple (l.map dN)) := .tup h (dpts_nats l)
theorem lay_all {m : Nat} : ∀ {ds : List PyData}, (∀ d ∈ ds, PyData.canLay0 d = true ∧ PyData.depth d ≤ m) → PyData.canLayAll0 ds = true ∧ PyData.depthAll ds ≤ m
  | [], _ => ⟨rfl, Nat.zero_le _⟩
  | d :: ds, h => by
    obtain ⟨h1, h2⟩ := lay_all fun x hx => h x (List.mem_cons_of_mem _ hx)
    obtain ⟨h3, h4⟩ := h d List.mem_cons_self
    refine ⟨?_, ?_⟩
    · show (PyData.canLay0 d && PyData.canLayAll0 ds) = true
      rw [h1, h3] <;> rfl
    · show max (PyData.depth d) (PyData.depthAll ds) ≤ m
      omega
/-- plain and not deeper than m -/
def Sh (m : Nat) (d : PyData) : Prop := PyData.canLay0 d = true ∧ PyData.depth d ≤ m
theorem sh_tup {m : Nat} {ds : List PyData} (h : ∀ d ∈ ds, Sh m d) : Sh (m + 1) (.tuple ds) := by
  obtain ⟨h1, h2⟩ := lay_all h
  exact ⟨h1, Nat.succ_le_succ h2⟩
theorem sh_lst {m : Nat} {ds : List PyData} (h : ∀ d ∈ ds, Sh m d) : Sh (m + 1) (.list ds) := by
  obtain ⟨h1, h2⟩ := lay_all h
  exact ⟨h1, Nat.succ_le_succ h2⟩
theorem sh_int {m : Nat} (i : Int) : Sh m (.int i) := ⟨rfl, Nat.zero_le _⟩
theorem sh_bool {m : Nat} (b : Bool) : Sh m (.bool b) := ⟨rfl, Nat.zero_le _⟩
theorem sh_str {m : Nat} {s : Str} (h : PyData.strOk s = true) : Sh m (.str s) := ⟨h, Nat.zero_le _⟩
theorem Sh.mono {m n : Nat} {d : PyData} (h : Sh m d) (e : m ≤ n) : Sh n d := ⟨h.1, Nat.le_trans h.2 e⟩
theorem Sh.sh {m : Nat} {d : PyData} (h : Sh m d) (e : m ≤ 64) : SeqAt.shaped d = true := by
  unfold SeqAt.shaped
  rw [h.1, decide_eq_true (Nat.le_trans h.2 e)] <;> rfl
theorem sh_nats (l : List Nat) : Sh 1 (.tuple (l.map dN)) := sh_tup fun d hd => by
  obtain ⟨n, _, rfl⟩ := List.mem_map.mp hd
  exact sh_int _
end
/-! ### what evaluates to such data, to a list of them -/
section
variable {K : PySem.W.Frag} {σ : L2.St} {H H' : Hp} {ta0 : TA} {ta tb td ty te tl tx : TE} {tt : TT} {v x y : V} {d e : PyData} {ds : List PyData} {D : Ends} {tz : TS} {xs : List V}
def EvDT (te : TE) (σ : L2.St) (H : Hp) (d : PyData) : Prop := ∀ H1, Ex H H1 → ∀ Q : VK, (∀ u H2, Ex H1 H2 → DpT H2 u d → Q u H2) → te σ H1 Q
def EvDTs (ta : TA) (σ : L2.St) (H : Hp) (ds : List PyData) : Prop := ∀ H1, Ex H H1 → ∀ Q : List V → Hp → Prop, (∀ us H2, Ex H1 H2 → DpTs H2 us ds → Q us H2) → ta σ H1 Q
theorem edt_v (h : Ev te σ H v) (hd : DpT H v d) : EvDT te σ H d := fun H1 e1 Q k => h H1 e1 _ fun H2 e2 => k v H2 e2 (hd.up (Tk.of (e1.trans e2)))
theorem edt_i {i : Int} (h : Ev te σ H (.int i)) : EvDT te σ H (.int i) := edt_v h (.int i)
theorem edt_s {s : Str} (h : Ev te σ H (.str s)) : EvDT te σ H (.str s) := edt_v h (.str s)
theorem edt_b {b : Bool} (h : Ev te σ H (.bl b)) : EvDT te σ H (.bool b) := edt_v h (.bl b)
theorem edt_U (h : EvU te σ H xs) (hd : ∀ H1, Ex H H1 → DpTs H1 xs ds) : EvDT te σ H (.tuple ds) := fun H1 e1 Q k => h H1 e1 _ fun p H2 _ e2 hp => k _ H2 e2 (.tup hp (hd H2 (e1.trans e2)))
theorem edts_nil : EvDTs tNil σ H [] := fun H1 e1 Q k => k [] H1 (Ex.refl _) .nil
theorem edts_cons (h : EvDT te σ H d) (hr : EvDTs ta0 σ H ds) : EvDTs (tCons te ta0) σ H (d :: ds) := fun H1 e1 Q k =>
  h H1 e1 _ fun u H2 e2 du => hr H2 (e1.trans e2) _ fun us H3 e3 dus => k (u :: us) H3 (e2.trans e3) (.cons (du.up (Tk.of e3)) dus)
theorem edt_tup (h : EvDTs ta0 σ H ds) (hl : ds.length ≤ 1000) : EvDT (tTup ta0) σ H (.tuple ds) := fun H1 e1 Q k =>
  h H1 e1 _ fun us H2 e2 dus => ⟨sz_of (by rw [dus.len]; omega), fun p hp => k _ _ (e2.trans (Ex.new hp)) (.tup upd_same (dus.up (Tk.of (Ex.new hp))))⟩
theorem edt_is (h : EvDT te σ H d) (q : d = e) : EvDT te σ H e := q ▸ h
/-- a new list of such data -/
def EvLT (te : TE) (σ : L2.St) (H : Hp) (ds : List PyData) : Prop := ∀ H1, Ex H H1 → ∀ Q : VK, (∀ p us H2, H1 p = none → Ex H1 H2 → H2 p = some (.lst us) → DpTs H2 us ds → Q (.ref p) H2) → te σ H1 Q
def RetLT (ds : List PyData) (H : Hp) (Q : VK) : Prop := ∀ p us H', H p = none → Ex H H' → H' p = some (.lst us) → DpTs H' us ds → Q (.ref p) H'
def SpLT (sp : Sp) (vs : List V) (H : Hp) (ds : List PyData) : Prop := ∀ H1, Ex H H1 → ∀ (Q : VK) (E : XK), RetLT ds H1 Q → sp vs H1 Q E
def RetDT (d : PyData) (H : Hp) (Q : VK) : Prop := ∀ u H', Ex H H' → DpT H' u d → Q u H'
def SpDT (sp : Sp) (vs : List V) (H : Hp) (d : PyData) : Prop := ∀ H1, Ex H H1 → ∀ (Q : VK) (E : XK), RetDT d H1 Q → sp vs H1 Q E
theorem RetDT.up {Q : VK} (h : RetDT d H Q) (e : Ex H H') : RetDT d H' Q := fun u H2 e2 du => h u H2 (e.trans e2) du
theorem s_retDT (h : EvDT te σ H d) (k : RetDT d H D.rt) : tRet te D σ H := h H (Ex.refl H) _ fun u H1 e1 du => k u H1 e1 du
theorem s_retLT (h : EvLT te σ H ds) (k : RetLT ds H D.rt) : tRet te D σ H := h H (Ex.refl H) _ k
theorem q_asgDT {i : Nat} (h : EvDT te σ H d) (k : ∀ u H1, Ex H H1 → DpT H1 u d → tz D (σ.set i (some u)) H1) : tSeq (tAsg te (gName i)) tz D σ H := h H (Ex.refl H) _ fun u H1 e1 du => k u H1 e1 du
theorem s_asgDT {i : Nat} (h : EvDT te σ H d) (k : ∀ u H1, Ex H H1 → DpT H1 u d → D.nx (σ.set i (some u)) H1) : tAsg te (gName i) D σ H := h H (Ex.refl H) _ fun u H1 e1 du => k u H1 e1 du
theorem q_asgLT {i : Nat} (h : EvLT te σ H ds) (k : ∀ p us H1, H p = none → Ex H H1 → H1 p = some (.lst us) → DpTs H1 us ds → tz D (σ.set i (some (.ref p))) H1) : tSeq (tAsg te (gName i)) tz D σ H := h H (Ex.refl H) _ k
theorem edt_call {vs : List V} {sp : Sp} {E : XK} (h : EvA ta0 σ H vs) (hs : SpDT sp (vs ++ []) H d) : EvDT (tCall sp [] E ta0) σ H d := fun H1 e1 Q k => h H1 e1 _ fun H2 e2 => hs H2 (e1.trans e2) _ _ fun u H3 e3 du => k u H3 (e2.trans e3) du
theorem elt_call {vs : List V} {sp : Sp} {E : XK} (h : EvA ta0 σ H vs) (hs : SpLT sp (vs ++ []) H ds) : EvLT (tCall sp [] E ta0) σ H ds := fun H1 e1 Q k => h H1 e1 _ fun H2 e2 => hs H2 (e1.trans e2) _ _ fun p us H3 np e3 hp du => k p us H3 (fresh_back e2 np) (e2.trans e3) hp du
theorem edt_meth {m : Str} {a C dx : Addr} {fs : List (Str × V)} {vs dvs : List V} {sp : Sp} {E : XK} (ho : Ev ta σ H (.ref a)) (hi : H a = some (.ins C dx fs)) (hm : fs.lookup m = none) (h : EvA ta0 σ H vs) (hs : SpDT sp (.ref a :: (vs ++ dvs)) H d) : EvDT (tMeth C m sp dvs E ta ta0) σ H d := fun H1 e Q k =>
  ho H1 e _ fun H2 e2 => ⟨a, dx, fs, rfl, e2 _ _ (e _ _ hi), hm, h H2 (e.trans e2) _ fun H3 e3 => hs H3 ((e.trans e2).trans e3) _ _ fun u H4 e4 du => k u H4 ((e2.trans e3).trans e4) du⟩
theorem elt_meth {m : Str} {a C dx : Addr} {fs : List (Str × V)} {vs dvs : List V} {sp : Sp} {E : XK} (ho : Ev ta σ H (.ref a)) (hi : H a = some (.ins C dx fs)) (hm : fs.lookup m = none) (h : EvA ta0 σ H vs) (hs : SpLT sp (.ref a :: (vs ++ dvs)) H ds) : EvLT (tMeth C m sp dvs E ta ta0) σ H ds := fun H1 e Q k =>
  ho H1 e _ fun H2 e2 => ⟨a, dx, fs, rfl, e2 _ _ (e _ _ hi), hm, h H2 (e.trans e2) _ fun H3 e3 => hs H3 ((e.trans e2).trans e3) _ _ fun p us H4 np e4 hp du => k p us H4 (fresh_back (e2.trans e3) np) ((e2.trans e3).trans e4) hp du⟩
/-- a comprehension's turn -/
def Cq (H : Hp) (Dl : Addr) (ds : List PyData) (H' : Hp) : Prop := H Dl = none ∧ Ex H H' ∧ ∃ us, H' Dl = some (.lst us) ∧ DpTs H' us ds
theorem cq_turn {σ2 : L2.St} {Dl : Addr} {g : V → Bool} {f : V → PyData} {i : Nat} (hp : Cq H Dl (((xs.take i).filter g).map f) H') (hi : xs[i]? = some x) (hz : xs.length ≤ 40000) (ht : EvT tt σ2 H (g x)) (he : g x = true → EvDT te σ2 H (f x)) :
    tt σ2 H' fun b H3 => if b = true then te σ2 H3 fun y H4 => ∃ acc, H4 Dl = some (.lst acc) ∧ acc.length < sizeLine ∧ Cq H Dl (((xs.take (i + 1)).filter g).map f) (upd H4 Dl (.lst (acc ++ [y]))) else Cq H Dl (((xs.take (i + 1)).filter g).map f) H3 := by
  obtain ⟨p1, p2, us, p3, p4⟩ := hp
  have hl : (((xs.take i).filter g).map f).length ≤ xs.length := by
    rw [List.length_map]
    exact Nat.le_trans (List.length_filter_le _ _) (List.length_take_le' _ _)
  refine ht H' p2 _ fun H3 e3 => ?_
  rw [List.take_add_one, hi, List.filter_append, List.map_append]
  cases hg : g x with
  | false =>
    rw [if_neg Bool.false_ne_true]
    show Cq _ _ (_ ++ (List.map f ([x].filter g))) _
    rw [List.filter_cons_of_neg (by rw [hg]; exact Bool.false_ne_true)]
    exact ⟨p1, p2.trans e3, us, e3 _ _ p3, by rw [List.filter_nil, List.map_nil, List.append_nil]; exact p4.up (Tk.of e3)⟩
  | true =>
    rw [if_pos rfl]
    refine he hg H3 (p2.trans e3) _ fun y H4 e4 dy => ⟨us, e4 _ _ (e3 _ _ p3), sz_lt (by rw [p4.len]; omega), p1, Ex.mut ((p2.trans e3).trans e4) p1, us ++ [y], upd_same, ?_⟩
    show DpTs _ _ (_ ++ (List.map f ([x].filter g)))
    rw [List.filter_cons_of_pos hg, List.filter_nil]
    have t : Tk H4 (upd H4 Dl (.lst (us ++ [y]))) := Tk.lst (e4 _ _ (e3 _ _ p3))
    exact DpTs.snoc (dy.up t) ((p4.up (Tk.of (e3.trans e4))).up t)
theorem elt_lcT {a : Addr} {j : Nat} {vs : List Nat} {g : V → Bool} {f : V → PyData} (h : Ev tl σ H (.ref a)) (hx : SqT K H a xs) (hn : xs.length ≤ 40000) (hw : ∀ x, wipe ((wipe σ vs).set j (some x)) vs = wipe σ vs)
    (ht : ∀ x H1, Ex H H1 → x ∈ xs → EvT tt ((wipe σ vs).set j (some x)) H1 (g x)) (he : ∀ x H1, Ex H H1 → x ∈ xs → g x = true → EvDT te ((wipe σ vs).set j (some x)) H1 (f x)) : EvLT (tLc (iTup K tl) (gName j) tt te vs) σ H ((xs.filter g).map f) := fun H0 e Q q => h H0 e _ fun H1 e1 => ⟨a, rfl, ⟨xs, ex_t (e.trans e1) hx⟩, fun Dl hD =>
  lc_tup (xs := xs) (fun i H' => Cq H1 Dl (((xs.take i).filter g).map f) H') ⟨hD, Ex.new hD, [], upd_same, by rw [List.take_zero]; exact .nil⟩ (fun i H' _ p => ex_t ((e.trans e1).trans p.2.1) hx) (fun i x H' hi p =>
    ⟨hw x, cq_turn p hi hn (ht x H1 (e.trans e1) (List.mem_of_getElem? hi)) (he x H1 (e.trans e1) (List.mem_of_getElem? hi))⟩) (fun H' p => by
    obtain ⟨p1, p2, us, p3, p4⟩ := p
    rw [List.take_length] at p4
    exact q Dl us H' (fresh_back e1 p1) (e1.trans p2) p3 p4)⟩
theorem elt_lcL {a : Addr} {j : Nat} {vs : List Nat} {g : V → Bool} {f : V → PyData} (h : Ev tl σ H (.ref a)) (hx : SqL K H a xs) (hn : xs.length ≤ 40000) (hw : ∀ x, wipe ((wipe σ vs).set j (some x)) vs = wipe σ vs)
    (ht : ∀ x H1, Ex H H1 → x ∈ xs → EvT tt ((wipe σ vs).set j (some x)) H1 (g x)) (he : ∀ x H1, Ex H H1 → x ∈ xs → g x = true → EvDT te ((wipe σ vs).set j (some x)) H1 (f x)) : EvLT (tLc (iList K tl) (gName j) tt te vs) σ H ((xs.filter g).map f) := fun H0 e Q q => h H0 e _ fun H1 e1 => ⟨a, rfl, ⟨xs, ex_l (e.trans e1) hx⟩, fun Dl hD =>
  lc_list (xs := xs) (fun i H' => Cq H1 Dl (((xs.take i).filter g).map f) H') ⟨hD, Ex.new hD, [], upd_same, by rw [List.take_zero]; exact .nil⟩ (fun i H' _ p => ex_l ((e.trans e1).trans p.2.1) hx) (fun i x H' hi p =>
    ⟨hw x, cq_turn p hi hn (ht x H1 (e.trans e1) (List.mem_of_getElem? hi)) (he x H1 (e.trans e1) (List.mem_of_getElem? hi))⟩) (fun H' p => by
    obtain ⟨p1, p2, us, p3, p4⟩ := p
    rw [List.take_length] at p4
    exact q Dl us H' (fresh_back e1 p1) (e1.trans p2) p3 p4)⟩
/-- tuple(..) of a new list -/
theorem edt_tupL (h : EvLT te σ H ds) : EvDT (tCB (fun xs H Q => ∃ p ys, xs = [.ref p] ∧ ((SqL K H p ys ∧ ∀ l, H l = none → Q (.ref l) (upd H l (.tup ys))) ∨ (SqT K H p ys ∧ Q (.ref p) H))) (tCons te tNil)) σ H (.tuple ds) := fun H1 e1 Q k =>
  h H1 e1 _ fun p us H2 _ e2 hp du => ⟨p, us, rfl, .inl ⟨sq_of hp, fun l hl => k _ _ (e2.trans (Ex.new hl)) (.tup upd_same (du.up (Tk.of (Ex.new hl))))⟩⟩
/-- comparisons -/
theorem ev_neT {m : Nat} (ha : EvDT ta σ H d) (hb : EvDT tb σ H d) (hs : Sh m d) (hm : m ≤ 64) : Ev (tOp (rNeD K) ta tb) σ H (.bl false) := fun H1 e1 Q k =>
  ha H1 e1 _ fun u H2 e2 du => hb H2 (e1.trans e2) _ fun w H3 e3 dw => ⟨d, d, (du.up (Tk.of e3)).dp, dw.dp, hs.sh hm, hs.sh hm, by rw [shaped_can (hs.sh hm)]; exact k H3 (e2.trans e3)⟩
theorem ev_neL {m : Nat} (ha : EvLT ta σ H ds) (hb : EvLT tb σ H ds) (hs : ∀ d ∈ ds, Sh m d) (hm : m < 64) : Ev (tOp (rNeD K) ta tb) σ H (.bl false) := fun H1 e1 Q k =>
  ha H1 e1 _ fun p us H2 _ e2 hp du => hb H2 (e1.trans e2) _ fun q ws H3 _ e3 hq dw => ⟨.list ds, .list ds, .lst (sq_of (e3 _ _ hp)) (du.up (Tk.of e3)).dp, .lst (sq_of hq) dw.dp, (sh_lst hs).sh hm, (sh_lst hs).sh hm, by rw [shaped_can ((sh_lst hs).sh hm)]; exact k H3 (e2.trans e3)⟩
theorem ev_neVL {m : Nat} {p : Addr} {us : List V} (ha : Ev ta σ H (.ref p)) (hp : H p = some (.lst us)) (du : DpTs H us ds) (hb : EvLT tb σ H ds) (hs : ∀ d ∈ ds, Sh m d) (hm : m < 64) : Ev (tOp (rNeD K) ta tb) σ H (.bl false) := fun H1 e1 Q k =>
  ha H1 e1 _ fun H2 e2 => hb H2 (e1.trans e2) _ fun q ws H3 _ e3 hq dw => ⟨.list ds, .list ds, .lst (sq_of (((e1.trans e2).trans e3) _ _ hp)) (du.up (Tk.of ((e1.trans e2).trans e3))).dp, .lst (sq_of hq) dw.dp, (sh_lst hs).sh hm, (sh_lst hs).sh hm, by rw [shaped_can ((sh_lst hs).sh hm)]; exact k H3 (e2.trans e3)⟩
theorem ev_neVL' {m : Nat} {p q : Addr} {us ws : List V} (ha : Ev ta σ H (.ref p)) (hp : H p = some (.lst us)) (du : DpTs H us ds) (hb : Ev tb σ H (.ref q)) (hq : H q = some (.lst ws)) (dw : DpTs H ws ds) (hs : ∀ d ∈ ds, Sh m d) (hm : m < 64) : Ev (tOp (rNeD K) ta tb) σ H (.bl false) := fun H1 e1 Q k =>
  ha H1 e1 _ fun H2 e2 => hb H2 (e1.trans e2) _ fun H3 e3 => ⟨.list ds, .list ds, .lst (sq_of (((e1.trans e2).trans e3) _ _ hp)) (du.up (Tk.of ((e1.trans e2).trans e3))).dp, .lst (sq_of (((e1.trans e2).trans e3) _ _ hq)) (dw.up (Tk.of ((e1.trans e2).trans e3))).dp, (sh_lst hs).sh hm, (sh_lst hs).sh hm, by rw [shaped_can ((sh_lst hs).sh hm)]; exact k H3 (e2.trans e3)⟩
theorem ev_isiDT {n : String} {b : Bool} {u : V} (ha : Ev ta σ H u) (hd : DpT H u (.tuple ds)) (hb : Ev tb σ H (.ty n)) (h : kitB "tuple" n = some b) : Ev (tCB (rIsi K) (tCons ta (tCons tb tNil))) σ H (.bl b) := by
  cases hd with
  | tup hp _ => exact ev_isiT ha hp hb h
end
/-! ### dicts of such data -/
def KvAt (H : Hp) (d : Addr) (A : List (Key × PyData)) : Prop := ∃ kvs, H d = some (.dK kvs) ∧ Paired (fun (p : Key × V) (q : Key × PyData) => p.1 = q.1 ∧ DpT H p.2 q.2) kvs A
def getA (A : List (Key × PyData)) (k : Key) : Option PyData := (A.find? fun q => decide (q.1 = k)).map (·.2)
section
variable {K : PySem.W.Frag} {σ : L2.St} {H H' : Hp} {d e : Addr} {A : List (Key × PyData)} {k : Key} {x : PyData} {v : V} {ty td tx : TE} {dx : PyData}
theorem kvp_up (t : Tk H H') {kvs : List (Key × V)} (h : Paired (fun (p : Key × V) (q : Key × PyData) => p.1 = q.1 ∧ DpT H p.2 q.2) kvs A) : Paired (fun (p : Key × V) (q : Key × PyData) => p.1 = q.1 ∧ DpT H' p.2 q.2) kvs A := Paired.mono (fun _ _ q => ⟨q.1, q.2.up t⟩) h
theorem KvAt.up (h : KvAt H d A) (e : Ex H H') : KvAt H' d A := by
  obtain ⟨kvs, h1, h2⟩ := h
  exact ⟨kvs, e _ _ h1, kvp_up (Tk.of e) h2⟩
theorem KvAt.xb (h : KvAt H d A) (x : Xb e H H') (hne : d ≠ e) (he : ∀ xs, H e ≠ some (.tup xs)) : KvAt H' d A := by
  obtain ⟨kvs, h1, h2⟩ := h
  exact ⟨kvs, x _ _ hne h1, kvp_up (fun a xs ha => x a _ (fun z => by rw [z] at ha; exact he xs ha) ha) h2⟩
theorem KvAt.nt (h : KvAt H d A) : ∀ xs, H d ≠ some (.tup xs) := fun xs z => by
  obtain ⟨kvs, h1, _⟩ := h
  rw [h1] at z
  cases z
theorem kvp_get : ∀ {kvs : List (Key × V)} {A : List (Key × PyData)}, Paired (fun (p : Key × V) (q : Key × PyData) => p.1 = q.1 ∧ DpT H p.2 q.2) kvs A → (getA A k = none ∧ valV kvs k = none) ∨ ∃ v x, getA A k = some x ∧ valV kvs k = some v ∧ DpT H v x
  | [], [], .nil => .inl ⟨rfl, rfl⟩
  | p :: kvs, q :: A, .cons ⟨a, b⟩ t => by
    unfold getA valV
    rw [List.find?_cons, List.find?_cons, a]
    by_cases h : q.1 = k
    · rw [decide_eq_true h]
      exact .inr ⟨_, _, rfl, rfl, b⟩
    · rw [decide_eq_false h]
      exact kvp_get t
theorem KvAt.get (h : KvAt H d A) (k : Key) : (getA A k = none ∧ ∀ H1, Ex H H1 → DGet H1 d (kV k) none) ∨ ∃ v x, getA A k = some x ∧ DpT H v x ∧ ∀ H1, Ex H H1 → DGet H1 d (kV k) (some v) := by
  obtain ⟨kvs, h1, h2⟩ := h
  rcases kvp_get (k := k) h2 with ⟨a, b⟩ | ⟨v, x, a, b, c⟩
  · exact .inl ⟨a, fun H1 e => .inl ⟨kvs, k, .inl (e _ _ h1), rfl, b.symm⟩⟩
  · exact .inr ⟨v, x, a, c, fun H1 e => .inl ⟨kvs, k, .inl (e _ _ h1), rfl, b.symm⟩⟩
theorem ev_din (hy : Ev ty σ H (kV k)) (hd : Ev td σ H (.ref d)) (h : KvAt H d A) : Ev (tDIn ty td) σ H (.bl (getA A k).isSome) := fun H1 e1 Q q => hy H1 e1 _ fun H2 e2 => hd H2 (e1.trans e2) _ fun H3 e3 => by
  have e13 := (e1.trans e2).trans e3
  rcases h.get k with ⟨a, b⟩ | ⟨v, x, a, _, b⟩
  · exact ⟨d, none, rfl, b H3 e13, by rw [a] at q; exact q H3 (e2.trans e3)⟩
  · exact ⟨d, some v, rfl, b H3 e13, by rw [a] at q; exact q H3 (e2.trans e3)⟩
theorem ev_dnin (hy : Ev ty σ H (kV k)) (hd : Ev td σ H (.ref d)) (h : KvAt H d A) : Ev (tDNotIn ty td) σ H (.bl (!(getA A k).isSome)) := fun H1 e1 Q q => hy H1 e1 _ fun H2 e2 => hd H2 (e1.trans e2) _ fun H3 e3 => by
  have e13 := (e1.trans e2).trans e3
  rcases h.get k with ⟨a, b⟩ | ⟨v, x, a, _, b⟩
  · exact ⟨d, none, rfl, b H3 e13, by rw [a] at q; exact q H3 (e2.trans e3)⟩
  · exact ⟨d, some v, rfl, b H3 e13, by rw [a] at q; exact q H3 (e2.trans e3)⟩
theorem edt_get2 (hd : Ev td σ H (.ref d)) (hy : Ev ty σ H (kV k)) (hx : EvDT tx σ H dx) (h : KvAt H d A) : EvDT (tDGet2 td ty tx) σ H ((getA A k).getD dx) := fun H1 e1 Q q => hd H1 e1 _ fun H2 e2 => ⟨d, rfl, .inl (by
    obtain ⟨kvs, h1, _⟩ := h
    exact ⟨kvs, .inl ((e1.trans e2) _ _ h1)⟩), hy H2 (e1.trans e2) _ fun H3 e3 => hx H3 ((e1.trans e2).trans e3) _ fun u H4 e4 du => by
    have e14 := ((e1.trans e2).trans e3).trans e4
    rcases h.get k with ⟨a, b⟩ | ⟨v, x, a, c, b⟩
    · exact ⟨none, b H4 e14, by rw [a] at q; exact q u H4 ((e2.trans e3).trans e4) du⟩
    · exact ⟨some v, b H4 e14, by rw [a] at q; exact q v H4 ((e2.trans e3).trans e4) (c.up (Tk.of e14))⟩⟩
theorem edt_dget (hd : Ev td σ H (.ref d)) (hy : Ev ty σ H (kV k)) (h : KvAt H d A) (hk : getA A k = some x) : EvDT (tDGet td ty) σ H x := fun H1 e1 Q q => hd H1 e1 _ fun H2 e2 => hy H2 (e1.trans e2) _ fun H3 e3 => by
  rcases h.get k with ⟨a, b⟩ | ⟨v, y, a, c, b⟩
  · rw [a] at hk
    cases hk
  · rw [a] at hk
    obtain rfl := Option.some.inj hk
    exact ⟨d, v, rfl, b H3 ((e1.trans e2).trans e3), q v H3 (e2.trans e3) (c.up (Tk.of ((e1.trans e2).trans e3)))⟩
def putA (A : List (Key × PyData)) (k : Key) (x : PyData) : List (Key × PyData) := if (getA A k).isSome = true then A.map (fun q => if q.1 = k then (q.1, x) else q) else A ++ [(k, x)]
theorem kvp_len {kvs : List (Key × V)} (h : Paired (fun (p : Key × V) (q : Key × PyData) => p.1 = q.1 ∧ DpT H p.2 q.2) kvs A) : kvs.length = A.length := Paired.length h
theorem kvp_map (hv : DpT H v x) : ∀ {kvs : List (Key × V)} {A : List (Key × PyData)}, Paired (fun (p : Key × V) (q : Key × PyData) => p.1 = q.1 ∧ DpT H p.2 q.2) kvs A → Paired (fun (p : Key × V) (q : Key × PyData) => p.1 = q.1 ∧ DpT H p.2 q.2) (kvs.map fun p => if p.1 = k then (p.1, v) else p) (A.map fun q => if q.1 = k then (q.1, x) else q)
  | [], [], .nil => .nil
  | p :: kvs, q :: A, .cons ⟨a, b⟩ t => by
    refine .cons ?_ (kvp_map hv t)
    by_cases h : q.1 = k
    · show (if p.1 = k then (p.1, v) else p).1 = (if q.1 = k then (q.1, x) else q).1 ∧ DpT H (if p.1 = k then (p.1, v) else p).2 (if q.1 = k then (q.1, x) else q).2
      rw [if_pos h, if_pos (a.trans h)]
      exact ⟨a, hv⟩
    · show (if p.1 = k then (p.1, v) else p).1 = (if q.1 = k then (q.1, x) else q).1 ∧ DpT H (if p.1 = k then (p.1, v) else p).2 (if q.1 = k then (q.1, x) else q).2
      rw [if_neg h, if_neg (fun z => h (a ▸ z))]
      exact ⟨a, b⟩
theorem kvp_put (hv : DpT H v x) {kvs : List (Key × V)} (h : Paired (fun (p : Key × V) (q : Key × PyData) => p.1 = q.1 ∧ DpT H p.2 q.2) kvs A) : Paired (fun (p : Key × V) (q : Key × PyData) => p.1 = q.1 ∧ DpT H p.2 q.2) (putK kvs k v) (putA A k x) := by
  unfold putK putA
  rw [valV_any k kvs]
  rcases kvp_get (k := k) h with ⟨a, b⟩ | ⟨w, y, a, b, _⟩
  · rw [a, b, if_neg (by simp), if_neg (by simp)]
    exact Paired.snoc h ⟨rfl, hv⟩
  · rw [a, b, if_pos (by rfl), if_pos (by rfl)]
    exact kvp_map hv h
theorem KvAt.put (h : KvAt H d A) (hv : DpT H v x) (hl : A.length < 100000) : ∃ H2, DPut H d (kV k) v H2 ∧ Xb d H H2 ∧ KvAt H2 d (putA A k x) := by
  obtain ⟨kvs, h1, h2⟩ := h
  have ln := kvp_len h2
  have lz : kvs.length < 100000 := by rw [ln]; exact hl
  refine ⟨_, .inl ⟨kvs, k, h1, rfl, sz_lt lz, rfl⟩, fun a o ha e => by rw [upd_ne ha]; exact e, _, upd_same, ?_⟩
  exact kvp_up (Tk.dk h1) (kvp_put hv h2)
theorem kv_new : KvAt (upd H d (.dK [])) d [] := ⟨[], upd_same, .nil⟩
end
end Mx
namespace Mx
open PySem PySem.Spec PyProof.Rows L2 Evl
/-! ### fields that are told, names -/
section
variable {K : PySem.W.Frag} {σ : L2.St} {H H' : Hp} {ta tb tv : TE} {a C dx : Addr} {fs : List (Str × V)} {f : Str} {xs : List V} {D : Ends} {tz : TS} {x y : V}
theorem s_dropMethQ {m : Str} {ta0 : TA} {vs dvs : List V} {sp : Sp} {E : XK} (ho : Ev ta σ H (.ref a)) (hi : H a = some (.ins C dx fs)) (hm : fs.lookup m = none) (h : EvA ta0 σ H vs) (hs : ∀ H1, Ex H H1 → sp (.ref a :: (vs ++ dvs)) H1 (fun _ H2 => D.nx σ H2) E) : tDrop (tMeth C m sp dvs E ta ta0) D σ H :=
  ho H (Ex.refl H) _ fun H1 e1 => ⟨a, dx, fs, rfl, e1 _ _ hi, hm, h H1 e1 _ fun H2 e2 => hs H2 (e1.trans e2)⟩
theorem q_fldU (ks : List Str) (h : EvU tv σ H xs) (h2 : Ev ta σ H (.ref a)) (ho : H a = some (.ins C dx fs)) (c : Cls K C) (n : NoAttr K C f) (hk : fs.map (·.1) = ks) (hf : f ∉ ks) (hl : fs.length < 1000) (k : ∀ p H1, H p = none → Ex H H1 → H1 p = some (.tup xs) → tz D σ (upd H1 a (.ins C dx (fs ++ [(f, .ref p)])))) : tSeq (sFld K ta tv f) tz D σ H :=
  h H (Ex.refl H) _ fun p H1 np e1 hp => h2 H1 e1 _ fun H2 e2 => ⟨a, C, dx, fs, rfl, (e1.trans e2) _ _ ho, c, n, hl, by
    show tz D σ _
    rw [putF_app (by rw [hk]; exact hf)]
    exact k p H2 np (e1.trans e2) (e2 _ _ hp)⟩
theorem s_fldN (ks : List Str) (h2 : ∀ H1, Ex H H1 → Ev ta σ H1 (.ref a)) (ho : H a = some (.ins C dx fs)) (c : Cls K C) (n : NoAttr K C f) (hk : fs.map (·.1) = ks) (hf : f ∉ ks) (hl : fs.length < 1000) (k : ∀ p H1, H p = none → Ex H H1 → H1 p = some (.dK []) → D.nx σ (upd H1 a (.ins C dx (fs ++ [(f, .ref p)])))) : sFld K ta tDNewK f D σ H := fun p np =>
  h2 _ (Ex.new np) _ (Ex.refl _) _ fun H2 e2 => ⟨a, C, dx, fs, rfl, ((Ex.new np).trans e2) _ _ ho, c, n, hl, by
    rw [putF_app (by rw [hk]; exact hf)]
    exact k p H2 np ((Ex.new np).trans e2) (e2 _ _ upd_same)⟩
theorem ev_min2N {a b : Nat} (ha : Ev ta σ H (nV a)) (hb : Ev tb σ H (nV b)) : Ev (tCB (fun xs H Q => ∃ i j, xs = [.int i, .int j] ∧ Q (.int (if j < i then j else i)) H) (tCons ta (tCons tb tNil))) σ H (nV (min a b)) := fun H1 e Q k =>
  ha H1 e _ fun H2 e2 => hb H2 (e.trans e2) _ fun H3 e3 => ⟨_, _, rfl, by
    have : (if (b : Int) < (a : Int) then (b : Int) else (a : Int)) = ((min a b : Nat) : Int) := by split <;> omega
    rw [this]
    exact k H3 (e2.trans e3)⟩
end
/-- the key, the text of a text -/
def keyV : V → Key
  | .str s => Sum.inr s
  | _ => Sum.inl 0
def txtV : V → Str
  | .str s => s
  | _ => ""
def nmsV (n : Nat) : List V := ((List.range n).map (nmS "s")).map V.str
theorem nmsV_mem {n : Nat} {x : V} (h : x ∈ nmsV n) : ∃ j, j < n ∧ x = .str (nmS "s" j) := by
  obtain ⟨s, hs, rfl⟩ := List.mem_map.mp h
  obtain ⟨j, hj, rfl⟩ := List.mem_map.mp hs
  exact ⟨j, List.mem_range.mp hj, rfl⟩
theorem nmsV_flat (n : Nat) : (nmsV n).all flatV = true := by
  rw [List.all_eq_true]
  intro x hx
  obtain ⟨j, _, rfl⟩ := nmsV_mem hx
  rfl
theorem nmsV_len (n : Nat) : (nmsV n).length = n := by unfold nmsV; simp
end Mx
namespace Mx
open PySem PySem.Spec PyProof.Rows L2 Evl
theorem ok_s24 : ∀ j, j < 24 → PyData.strOk (nmS "s" j) = true := by decide +kernel
theorem ex_xbQ {d : Addr} {H H' : Hp} (e : Ex H H') : Xb d H H' := fun a u _ h => e a u h
/-- tuple(t) of a tuple is that tuple -/
theorem ev_call_tupS {K : PySem.W.Frag} {σ : L2.St} {H : Hp} {te : TE} {p : Addr} {xs : List V} {Q : VK} (h : Ev te σ H (.ref p)) (hp : H p = some (.tup xs)) (k : ∀ H1, Ex H H1 → Q (.ref p) H1) : (tCB (fun xs H Q => ∃ p ys, xs = [.ref p] ∧ ((SqL K H p ys ∧ ∀ l, H l = none → Q (.ref l) (upd H l (.tup ys))) ∨ (SqT K H p ys ∧ Q (.ref p) H))) (tCons te tNil)) σ H Q :=
  h H (Ex.refl H) _ fun H1 e1 => ⟨p, xs, rfl, .inr ⟨st_of (e1 _ _ hp), k H1 e1⟩⟩
end Mx
namespace Mx
open PySem PySem.Spec PyProof.Rows L2 Evl
theorem q_make2 {σ : L2.St} {H : Hp} {i : Nat} {ta0 : TA} {vs dvs1 dvs2 : List V} {sp1 sp2 : Sp} {E1 E2 : XK} {C1 C2 : Addr} {D : Ends} {tz : TS} (h : EvA ta0 σ H vs) (hs : ∀ H1, Ex H H1 → ∀ x dx, H1 x = none → H1 dx = none → dx ≠ x → sp1 (.ref x :: (vs ++ dvs1)) (upd (upd H1 dx (.own x)) x (.ins C1 dx [])) (fun v H2 => v = .non ∧ ∀ y dy, H2 y = none → H2 dy = none → dy ≠ y → sp2 (.ref y :: ([.ref x] ++ dvs2)) (upd (upd H2 dy (.own y)) y (.ins C2 dy [])) (fun v H3 => v = .non ∧ tz D (σ.set i (some (.ref y))) H3) E2) E1) : tSeq (tAsg (tMake C2 sp2 dvs2 E2 (tCons (tMake C1 sp1 dvs1 E1 ta0) tNil)) (gName i)) tz D σ H :=
  h H (Ex.refl H) _ fun H1 e1 x dx h1 h2 h3 => hs H1 e1 x dx h1 h2 h3
theorem kv_ne {H : Hp} {a d : Addr} {A : List (Key × PyData)} {ys : List V} (h : KvAt H d A) (hl : H a = some (.lst ys)) : a ≠ d := fun z => by
  obtain ⟨kvs, hk, _⟩ := h
  rw [z, hk] at hl
  cases hl
theorem sstr : (Str.length "s") ≤ 10 := by decide +kernel
theorem rv_nm {H : Hp} {i : Nat} (h : i < 1000000000) : RV (fun x y H Q => ∃ i j, x = .str i ∧ y = .str j ∧ i.length + j.length ≤ sizeLine ∧ Q (.str (i ++ j)) H) (.str "s") (.str (toString (i : Int) : Str)) H (.str (nmS "s" i)) := rv_adds (by
  have h1 := slen_int (i := (i : Int)) (by omega)
  have h2 := sstr
  omega)
theorem ev_nm {σ : L2.St} {H : Hp} {te : TE} {i : Nat} (h : Ev te σ H (nV i)) (hi : i < 1000000000) : Ev (tOp (fun x y H Q => ∃ i j, x = .str i ∧ y = .str j ∧ i.length + j.length ≤ sizeLine ∧ Q (.str (i ++ j)) H) (tC (.str "s")) (tCB (fun xs H Q => ∃ i, xs = [.int i] ∧ i.natAbs.log2 < 1920 ∧ Q (.str (toString i)) H) (tCons te tNil))) σ H (.str (nmS "s" i)) := ev_op ev_c (ev_strI h (by omega)) (rv_nm hi)
theorem s_dputK {σ : L2.St} {H : Hp} {td ty tv : TE} {d : Addr} {v : V} {k : Key} {D : Ends} (hv : Ev tv σ H v) (ho : Ev td σ H (.ref d)) (hi : Ev ty σ H (kV k)) (kk : ∀ H1, Ex H H1 → ∃ H2, DPut H1 d (kV k) v H2 ∧ D.nx σ H2) : sDPut td ty tv D σ H := by
  refine hv H (Ex.refl H) _ fun H1 e1 => ho H1 e1 _ fun H2 e2 => hi H2 (e1.trans e2) _ fun H3 e3 => ?_
  obtain ⟨H4, p, q⟩ := kk H3 ((e1.trans e2).trans e3)
  exact ⟨d, H4, rfl, p, q⟩
theorem call_tuple_ofK {X : Cx} {K : PySem.W.Frag} (h : X.K = K) : CallR X (.type "tuple") (fun xs H Q => ∃ p ys, xs = [.ref p] ∧ ((SqL K H p ys ∧ ∀ l, H l = none → Q (.ref l) (upd H l (.tup ys))) ∨ (SqT K H p ys ∧ Q (.ref p) H))) := by
  subst h
  exact call_tuple_of
end Mx

set_option Elab.async false
set_option linter.all false
set_option maxRecDepth 100000
set_option maxHeartbeats 4000000
namespace Mx
open PySem PySem.Spec PyProof.Rows L2 Evl
section
variable {K : PySem.W.Frag} {σ : L2.St} {H H' H1 : Hp} {ta0 : TA} {ta tb tl te : TE} {tt : TT} {x y v : V} {d : PyData} {ds : List PyData} {D : Ends} {tz : TS} {xs us : List V} {M N : List (List Nat)} {l : List Nat} {p a : Addr}
/-! ### lists of data: items, one more -/
theorem DpTs.get : ∀ {us : List V} {ds : List PyData} {i : Nat} {d : PyData}, DpTs H us ds → ds[i]? = some d → ∃ u, us[i]? = some u ∧ DpT H u d
  | [], [], i, d, .nil, h => by simp at h
  | u :: us, e :: ds, 0, d, .cons a t, h => by
    obtain rfl : e = d := by simpa using h
    exact ⟨u, rfl, a⟩
  | u :: us, e :: ds, i + 1, d, .cons a t, h => by
    obtain ⟨w, h1, h2⟩ := DpTs.get (i := i) t (by simpa using h)
    exact ⟨w, by simpa using h1, h2⟩
theorem edt_ixL {i : Nat} (ha : Ev ta σ H (.ref p)) (hb : Ev tb σ H (nV i)) (hp : H p = some (.lst us)) (du : DpTs H us ds) (hd : ds[i]? = some d) : EvDT (tOp (rIxL K) ta tb) σ H d := by
  obtain ⟨u, h1, h2⟩ := du.get hd
  exact edt_v (ev_op ha hb (rv_ixLN (sq_of hp) h1)) h2
theorem s_appDT (hp : H p = some (.lst us)) (du : DpTs H us ds) (ha : Ev ta σ H (.ref p)) (h : EvDT te σ H d) (hz : ds.length < 100000) (k : ∀ H1 ws, Ex H H1 → DpTs (upd H1 p (.lst ws)) ws (ds ++ [d]) → D.nx σ (upd H1 p (.lst ws))) : tDrop (tBM K "list" rAppend ta (tCons te tNil)) D σ H :=
  ha H (Ex.refl H) _ fun H1 e1 => ⟨.inl ⟨rfl, _, sq_of (e1 _ _ hp)⟩, h H1 e1 _ fun u H2 e2 du2 => ⟨p, us, u, rfl, rfl, (e1.trans e2) _ _ hp, sz_lt (by rw [du.len]; exact hz), k H2 _ (e1.trans e2) (DpTs.snoc (du2.up (Tk.lst ((e1.trans e2) _ _ hp))) ((du.up (Tk.of (e1.trans e2))).up (Tk.lst ((e1.trans e2) _ _ hp))))⟩⟩
/-! ### sequences that are a list or a tuple -/
theorem ev_lenS (h : Ev ta σ H (.ref p)) (hp : LN H p l ∨ TN H p l) : Ev (tCB (fun xs H Q => ∃ p ys, xs = [.ref p] ∧ (SqL K H p ys ∨ SqT K H p ys) ∧ Q (.int ys.length) H) (tCons ta tNil)) σ H (nV l.length) := by
  rcases hp with hp | hp
  · exact ev_is (ev_lenL h (sq_of hp)) (congrArg (fun n : Nat => V.int (n : Int)) len_map)
  · exact ev_is (ev_lenT h (st_of hp)) (congrArg (fun n : Nat => V.int (n : Int)) len_map)
theorem el_listS (h : Ev ta σ H (.ref p)) (hp : LN H p l ∨ TN H p l) : EvL (tCB (fun xs H Q => ∃ p ys, xs = [.ref p] ∧ (SqL K H p ys ∨ SqT K H p ys) ∧ ∀ l, H l = none → Q (.ref l) (upd H l (.lst ys))) (tCons ta tNil)) σ H (l.map nV) := by
  rcases hp with hp | hp
  · exact el_listL h (sq_of hp)
  · exact el_listT h (st_of hp)
/-! ### comprehensions over the rows of a new list, over numbers with a test -/
theorem elt_zM {j : Nat} {vs : List Nat} {f : Nat → PyData} (h : EvMn tl σ H M) (hn : M.length ≤ 40000) (hw : ∀ x, wipe ((wipe σ vs).set j (some x)) vs = wipe σ vs)
    (he : ∀ (i : Nat) (r : Addr) H1, Ex H H1 → i < M.length → LN H1 r (Py.at1 M i) → EvDT te ((wipe σ vs).set j (some (.ref r))) H1 (f i)) : EvLT (tLc (iList K tl) (gName j) tYes te vs) σ H ((List.range M.length).map f) := fun H0 e Q q => h H0 e _ fun a H1 e1 hm => by
  obtain ⟨rs, h1, h2⟩ := hm
  have len : (rs.map V.ref).length = M.length := by rw [List.length_map, h2.len]
  refine ⟨a, rfl, ⟨_, sq_of h1⟩, fun Dl hD => ?_⟩
  refine lc_list (xs := rs.map V.ref) (fun i H' => Cq H1 Dl ((List.range i).map f) H') ⟨hD, Ex.new hD, [], upd_same, .nil⟩ (fun i H' _ p => ex_l p.2.1 (sq_of h1)) (fun i x H' hi p => ?_) (fun H' p => ?_)
  · obtain ⟨r, rfl, hr, hl⟩ := h2.of hi
    obtain ⟨p1, p2, us, p3, p4⟩ := p
    refine ⟨hw _, ?_⟩
    refine tyes_of ?_
    refine he i r H1 (e.trans e1) hr hl H' p2 _ fun y H4 e4 dy => ⟨us, e4 _ _ p3, sz_lt (by rw [p4.len, List.length_map, List.length_range]; omega), p1, Ex.mut (p2.trans e4) p1, us ++ [y], upd_same, ?_⟩
    rw [List.range_succ, List.map_append]
    have t : Tk H4 (upd H4 Dl (.lst (us ++ [y]))) := Tk.lst (e4 _ _ p3)
    exact DpTs.snoc (dy.up t) ((p4.up (Tk.of e4)).up t)
  · obtain ⟨p1, p2, us, p3, p4⟩ := p
    rw [len] at p4
    exact q Dl us H' (fresh_back e1 p1) (e1.trans p2) p3 p4
theorem el_rF {j : Nat} {vs : List Nat} {n : Nat} {g : Nat → Bool} (h : EvA ta0 σ H [.int (n : Int)]) (hn : n ≤ 40000) (hw : ∀ x, wipe ((wipe σ vs).set j (some x)) vs = wipe σ vs)
    (ht : ∀ (i : Nat) H1, Ex H H1 → i < n → EvT tt ((wipe σ vs).set j (some (nV i))) H1 (g i)) (he : ∀ (i : Nat) H1, Ex H H1 → i < n → Ev te ((wipe σ vs).set j (some (nV i))) H1 (nV i)) : EvL (tLc (iRng1 ta0) (gName j) tt te vs) σ H (((List.range n).filter g).map nV) := fun H0 e Q q => h H0 e _ fun H1 e1 => ⟨(n : Int), rfl, by omega, by omega, fun Dl hD =>
  lc_range (lo := 0) (n := (n : Int).toNat) (fun i H' => H1 Dl = none ∧ Ex H1 H' ∧ H' Dl = some (.lst (((List.range i).filter g).map nV))) ⟨hD, Ex.new hD, by rw [upd_same] <;> rfl⟩ (fun i H' hi p => by
    have e0 : (0 : Int) + (i : Int) = (i : Int) := Int.zero_add _
    have hl : i < n := by omega
    obtain ⟨p1, p2, p3⟩ := p
    have hlen : (((List.range i).filter g).map nV).length ≤ i := by
      rw [List.length_map]
      exact Nat.le_trans (List.length_filter_le _ _) (by rw [List.length_range]; exact Nat.le_refl _)
    show wipe ((wipe σ vs).set j (some (.int ((0 : Int) + (i : Int))))) vs = wipe σ vs ∧ tt ((wipe σ vs).set j (some (.int ((0 : Int) + (i : Int))))) H' _
    rw [e0]
    refine ⟨hw _, ?_⟩
    refine ht i H1 (e.trans e1) hl H' p2 _ fun H3 e3 => ?_
    rw [List.range_succ, List.filter_append, List.map_append]
    cases hg : g i with
    | false =>
      rw [if_neg Bool.false_ne_true]
      refine ⟨p1, p2.trans e3, ?_⟩
      rw [List.filter_cons_of_neg (by rw [hg]; exact Bool.false_ne_true), List.filter_nil, List.map_nil, List.append_nil]
      exact e3 _ _ p3
    | true =>
      rw [if_pos rfl]
      refine he i H1 (e.trans e1) hl H3 (p2.trans e3) _ fun H4 e4 => ⟨_, e4 _ _ (e3 _ _ p3), sz_lt (by omega), p1, Ex.mut ((p2.trans e3).trans e4) p1, ?_⟩
      rw [List.filter_cons_of_pos hg, List.filter_nil, upd_same] <;> rfl) (fun H' p => by
    obtain ⟨p1, p2, p3⟩ := p
    rw [Int.toNat_natCast] at p3
    exact q Dl H' (fresh_back e1 p1) (e1.trans p2) p3)⟩
/-! ### methods with a new matrix, fields -/
theorem em_methM {C dx : Addr} {fs : List (Str × V)} {m : Str} {sp : Sp} {E : XK} (ho : Ev ta σ H (.ref a)) (hi : H a = some (.ins C dx fs)) (hm : fs.lookup m = none) (h1 : EvM tb σ H M)
    (hs : ∀ q H1, Ex H H1 → MN H1 q M → SpM sp (.ref a :: ([.ref q] ++ [])) H1 N) : EvM (tMeth C m sp [] E ta (tCons tb tNil)) σ H N := fun H1 e Q k =>
  ho H1 e _ fun H2 e2 => ⟨a, dx, fs, rfl, (e.trans e2) _ _ hi, hm, h1 H2 (e.trans e2) _ fun q H3 nq e3 hq => hs q H3 ((e.trans e2).trans e3) hq.mn H3 (Ex.refl _) Q (fun p H5 np e5 hp => k p H5 (fresh_back (e2.trans e3) np) ((e2.trans e3).trans e5) (hp.back (e2.trans e3))) E⟩
theorem q_fldLT {C dx : Addr} {fs : List (Str × V)} {f : Str} (ks : List Str) (h : EvLT te σ H ds) (h2 : ∀ H1, Ex H H1 → Ev ta σ H1 (.ref a)) (ho : H a = some (.ins C dx fs)) (c : Cls K C) (n : NoAttr K C f) (hk : fs.map (·.1) = ks) (hf : f ∉ ks) (hl : fs.length < 1000) (k : ∀ p us H1, H p = none → Ex H H1 → H1 p = some (.lst us) → DpTs H1 us ds → tz D σ (upd H1 a (.ins C dx (fs ++ [(f, .ref p)])))) : tSeq (sFld K ta te f) tz D σ H :=
  h H (Ex.refl H) _ fun p us H1 np e1 hp du => h2 H1 e1 H1 (Ex.refl _) _ fun H2 e2 => ⟨a, C, dx, fs, rfl, (e1.trans e2) _ _ ho, c, n, hl, by
    show tz D σ _
    rw [putF_app (by rw [hk]; exact hf)]
    exact k p us H2 np (e1.trans e2) (e2 _ _ hp) (du.up (Tk.of e2))⟩
theorem ev_lenKv {A : List (Key × PyData)} (h : Ev ta σ H (.ref a)) (hk : KvAt H a A) : Ev (tCB rLenD (tCons ta tNil)) σ H (nV A.length) := by
  obtain ⟨kvs, h1, h2⟩ := hk
  exact ev_is (ev_lenD h (.inl h1)) (congrArg (fun n : Nat => V.int (n : Int)) (kvp_len h2))
end
end Mx
namespace Mx
open PySem PySem.Spec PyProof.Rows L2 Evl
section
variable {K : PySem.W.Frag} {σ : L2.St} {H H' H1 : Hp} {ta tb : TE} {x v z : V} {r : R2} {xs : List V}
theorem ev_isiBl {n : String} {b c : Bool} (ha : Ev ta σ H (.bl c)) (hb : Ev tb σ H (.ty n)) (h : kitB "bool" n = some b) : Ev (tCB (rIsi K) (tCons ta (tCons tb tNil))) σ H (.bl b) :=
  ev_isi ha hb (ClsV.ty n) (fun H1 e => .base (.bl c)) (kit_ty h)
theorem ev_opL2 (ha : Ev ta σ H x) (hb : EvL tb σ H xs) (hr : ∀ q H1, H1 q = some (.lst xs) → Ex H H1 → RV r x (.ref q) H1 z) : Ev (tOp r ta tb) σ H z := fun H1 e Q k =>
  ha H1 e _ fun H2 e2 => hb H2 (e.trans e2) _ fun q H3 _ e3 hq => hr q H3 hq ((e.trans e2).trans e3) H3 (Ex.refl _) Q fun H4 e4 => k H4 ((e2.trans e3).trans e4)
def dBq (b : Bool) : PyData := .bool b
theorem dp_boolsQ : ∀ l : List Bool, DpAll K H (l.map V.bl) (l.map dBq)
  | [] => .nil
  | b :: l => .cons (.bl b) (dp_boolsQ l)
theorem rv_eqBs {p q : Addr} {l : List Bool} (h : SqL K H p (l.map V.bl)) (h2 : SqL K H q (l.map V.bl)) : RV (rEqD K) (.ref p) (.ref q) H (.bl true) := rv_eqD (.lst h (dp_boolsQ l)) (.lst h2 (dp_boolsQ l)) ((sh_lst (m := 0) fun d hd => by
  obtain ⟨b, _, rfl⟩ := List.mem_map.mp hd
  exact sh_bool b).sh (by decide))
end
end Mx
namespace Mx
open PySem PySem.Spec PyProof.Rows L2 Evl
section
variable {K : PySem.W.Frag} {σ : L2.St} {H H' H1 : Hp} {ta tb t1 t2 t3 t4 t5 : TE} {x x1 x2 x3 y z : V} {xs ys : List V} {M : List (List Nat)} {sp : Sp} {E : XK}
theorem em_call2VL (h1 : Ev ta σ H x) (h2 : EvL tb σ H ys) (hs : ∀ q H1, Ex H H1 → H1 q = some (.lst ys) → SpM sp ([x, .ref q] ++ []) H1 M) : EvM (tCall sp [] E (tCons ta (tCons tb tNil))) σ H M := fun H1 e Q k =>
  h1 H1 e _ fun H2 e2 => h2 H2 (e.trans e2) _ fun q H3 nq e3 hq => hs q H3 ((e.trans e2).trans e3) hq H3 (Ex.refl _) Q (fun p H4 np e4 hp => k p H4 (fresh_back (e2.trans e3) np) ((e2.trans e3).trans e4) (hp.back (e2.trans e3))) E
theorem ev_call5L (h1 : Ev t1 σ H x1) (h2 : Ev t2 σ H x2) (h3 : Ev t3 σ H x3) (h4 : EvL t4 σ H xs) (h5 : ∀ H1, Ex H H1 → Ev t5 σ H1 y) (hs : ∀ q H1, Ex H H1 → H1 q = some (.lst xs) → SpV sp ([x1, x2, x3, .ref q, y] ++ []) H1 z) : Ev (tCall sp [] E (tCons t1 (tCons t2 (tCons t3 (tCons t4 (tCons t5 tNil)))))) σ H z := fun H0 e0 Q k =>
  h1 H0 e0 _ fun H1 e1 => h2 H1 (e0.trans e1) _ fun H2 e2 => h3 H2 ((e0.trans e1).trans e2) _ fun H3 e3 => h4 H3 (((e0.trans e1).trans e2).trans e3) _ fun q H4 nq e4 hq => h5 H4 ((((e0.trans e1).trans e2).trans e3).trans e4) H4 (Ex.refl _) _ fun H5 e5 =>
    hs q H5 (((((e0.trans e1).trans e2).trans e3).trans e4).trans e5) (e5 _ _ hq) H5 (Ex.refl _) Q (fun H6 e6 => k H6 (((((e1.trans e2).trans e3).trans e4).trans e5).trans e6)) E
end
end Mx

set_option Elab.async false
set_option linter.all false
set_option maxRecDepth 100000
set_option maxHeartbeats 4000000
namespace Mx
open PySem PySem.Spec PyProof.Rows L2 Evl
/-! rows that are lists or tuples (the first five: as in EvP, which doesn't go with EvC) -/
def tI2 (w1 w2 : TI) : TI := fun σ H R => w1 σ H R ∨ w2 σ H R
theorem pi_or2 {X : Cx} {tg e : Expr} {w1 w2 : TI} (h1 : PI X tg e w1) (h2 : PI X tg e w2) : PI X tg e (tI2 w1 w2) := ⟨fun pins s σ H Q I h => h.elim (h1.run pins s σ H Q I) (h2.run pins s σ H Q I)⟩
def LT (H : Hp) (p : Addr) (L : List Nat) : Prop := LN H p L ∨ TN H p L
theorem LT.up {H H' : Hp} {p : Addr} {L : List Nat} (h : LT H p L) (e : Ex H H') : LT H' p L := h.elim (fun q => .inl (LN.up q e)) fun q => .inr (TN.up q e)
theorem el_zQ {K : PySem.W.Frag} {σ : L2.St} {H : Hp} {te : TE} {p : Addr} {L : List Nat} {zs : List V} {tl : TE} {j : Nat} {vs : List Nat} (h : Ev tl σ H (.ref p)) (hp : LT H p L) (hz : zs.length = L.length) (hn : L.length ≤ 40000) (hw : ∀ x, wipe ((wipe σ vs).set j (some x)) vs = wipe σ vs)
    (he : ∀ (i : Nat) (z : V) H1, Ex H H1 → i < L.length → zs[i]? = some z → Ev te ((wipe σ vs).set j (some (nV (Py.at0 L i)))) H1 z) : EvL (tLc (tI2 (iList K tl) (iTup K tl)) (gName j) tYes te vs) σ H zs := fun H1 e Q k => by
  rcases hp with hp | hp
  · refine Or.inl (el_zL (K := K) h (sq_of hp) (by rw [len_map]; exact hz) (by rw [len_map]; exact hn) hw (fun i x z H1 e hx hz => ?_) H1 e Q k)
    obtain ⟨hi, rfl⟩ := nat_of_get hx
    exact he i z H1 e hi hz
  · refine Or.inr (el_zT (K := K) h (st_of hp) (by rw [len_map]; exact hz) (by rw [len_map]; exact hn) hw (fun i x z H1 e hx hz => ?_) H1 e Q k)
    obtain ⟨hi, rfl⟩ := nat_of_get hx
    exact he i z H1 e hi hz
def SR (H : Hp) (rs : List Addr) (M : List (List Nat)) : Prop := Paired (fun r l => LT H r l) rs M
def MS (H : Hp) (p : Addr) (M : List (List Nat)) : Prop := ∃ rs : List Addr, H p = some (.lst (rs.map V.ref)) ∧ SR H rs M
def PoAt (H : Hp) (d : Addr) (S : List Int) (F : Int → List Nat) : Prop := ∃ rs, H d = some (.dK (pkI S rs)) ∧ SR H rs (S.map F)
def EvSq (te : TE) (σ : L2.St) (H : Hp) (l : List Nat) : Prop := ∀ H1, Ex H H1 → ∀ Q : VK, (∀ p H2, Ex H1 H2 → LT H2 p l → Q (.ref p) H2) → te σ H1 Q
section
variable {K : PySem.W.Frag} {σ : L2.St} {H H' H1 : Hp} {ta tb tl te td ty tv : TE} {tt : TT} {v : V} {l : List Nat} {M N : List (List Nat)} {rs : List Addr} {p a d r : Addr} {F : Int → List Nat} {D : Ends} {kvs : List (Key × V)}
theorem SR.mono (e : Ex H H') (h : SR H rs M) : SR H' rs M := Paired.mono (fun _ _ q => LT.up q e) h
theorem SR.len (h : SR H rs M) : rs.length = M.length := Paired.length h
theorem LR.sr (h : LR H rs M) : SR H rs M := Paired.mono (fun _ _ q => .inl q) h
theorem SR.at : ∀ {rs : List Addr} {M : List (List Nat)} {k : Nat}, SR H rs M → k < M.length → ∃ r, rs[k]? = some r ∧ LT H r (Py.at1 M k)
  | _, _, _, .nil, h => absurd h (Nat.not_lt_zero _)
  | _, _, 0, .cons h _, _ => ⟨_, rfl, h⟩
  | _, _, k + 1, .cons _ t, h => SR.at (k := k) t (by simpa using h)
theorem SR.of {k : Nat} {v : V} (h : SR H rs M) (hv : (rs.map V.ref)[k]? = some v) : ∃ r, v = .ref r ∧ k < M.length ∧ LT H r (Py.at1 M k) := by
  have hk : k < M.length := by
    rw [← h.len]
    simpa using (List.getElem?_eq_some_iff.mp hv).1
  obtain ⟨r, h1, h2⟩ := h.at hk
  rw [List.getElem?_map, h1] at hv
  exact ⟨r, (Option.some.inj hv).symm, hk, h2⟩
theorem MS.up (h : MS H p M) (e : Ex H H') : MS H' p M := by
  obtain ⟨rs, h1, h2⟩ := h
  exact ⟨rs, e _ _ h1, h2.mono e⟩
theorem MN.ms (h : MN H p M) : MS H p M := by
  obtain ⟨rs, h1, h2⟩ := h
  exact ⟨rs, h1, LR.sr h2⟩
theorem ms_ix {k : Nat} (h : MS H p M) (hk : k < M.length) : ∃ r, LT H r (Py.at1 M k) ∧ RV (rIxL K) (.ref p) (.int (k : Int)) H (.ref r) := by
  obtain ⟨rs, h1, h2⟩ := h
  obtain ⟨r, h3, h4⟩ := h2.at hk
  exact ⟨r, h4, rv_ixLN (sq_of h1) (by rw [List.getElem?_map, h3] <;> rfl)⟩
theorem em_zMS {a : Addr} {tl : TE} {j : Nat} {vs : List Nat} (h : Ev tl σ H (.ref a)) (hN : MS H a N) (hz : M.length = N.length) (hn : N.length ≤ 40000) (hw : ∀ x, wipe ((wipe σ vs).set j (some x)) vs = wipe σ vs)
    (he : ∀ (i : Nat) (r : Addr) H1, Ex H H1 → i < N.length → LT H1 r (Py.at1 N i) → EvL te ((wipe σ vs).set j (some (.ref r))) H1 ((Py.at1 M i).map nV)) : EvM (tLc (iList K tl) (gName j) tYes te vs) σ H M := by
  obtain ⟨rs, h1, h2⟩ := hN
  refine em_zL h (sq_of h1) (by rw [List.length_map, h2.len, hz]) (by rw [List.length_map, h2.len]; exact hn) hw fun i x l H1 e hx hl => ?_
  obtain ⟨r, rfl, hi, hr⟩ := (h2.mono e).of hx
  rw [← Py.at1_of hl]
  exact he i r H1 e hi hr
theorem el_zMS {a : Addr} {tl : TE} {j : Nat} {vs : List Nat} {ns : List Nat} (h : Ev tl σ H (.ref a)) (hN : MS H a N) (hz : ns.length = N.length) (hn : N.length ≤ 40000) (hw : ∀ x, wipe ((wipe σ vs).set j (some x)) vs = wipe σ vs)
    (he : ∀ (i : Nat) (r : Addr) H1, Ex H H1 → i < N.length → LT H1 r (Py.at1 N i) → Ev te ((wipe σ vs).set j (some (.ref r))) H1 (nV (Py.at0 ns i))) : EvL (tLc (iList K tl) (gName j) tYes te vs) σ H (ns.map nV) := by
  obtain ⟨rs, h1, h2⟩ := hN
  refine el_zL h (sq_of h1) (by rw [List.length_map, List.length_map, h2.len, hz]) (by rw [List.length_map, h2.len]; exact hn) hw fun i x w H1 e hx hw => ?_
  obtain ⟨r, rfl, hi, hr⟩ := (h2.mono e).of hx
  rw [nat_get (by omega)] at hw
  rw [← Option.some.inj hw]
  exact he i r H1 e hi hr
theorem pkS_get {F : Int → List Nat} {i : Int} : ∀ {S : List Int} {rs : List Addr}, SR H rs (S.map F) → i ∈ S → ∃ r, valV (pkI S rs) (Sum.inl i) = some (.ref r) ∧ LT H r (F i)
  | [], _, _, h => absurd h List.not_mem_nil
  | s :: S, _, .cons h t, hi => by
    rename_i r rs
    by_cases q : s = i
    · refine ⟨r, ?_, q ▸ h⟩
      unfold valV pkI
      rw [List.zipWith_cons_cons, List.find?_cons, decide_eq_true (by rw [q] : (Sum.inl s : Key) = Sum.inl i)] <;> rfl
    · obtain ⟨r2, e1, e2⟩ := pkS_get t ((List.mem_cons.mp hi).resolve_left fun z => q z.symm)
      refine ⟨r2, ?_, e2⟩
      have n : ¬ ((Sum.inl s : Key) = Sum.inl i) := fun z => q (Sum.inl.inj z)
      unfold valV pkI at e1 ⊢
      rw [List.zipWith_cons_cons, List.find?_cons, decide_eq_false n]
      exact e1
theorem PoAt.up {S : List Int} (h : PoAt H d S F) (e : Ex H H') : PoAt H' d S F := by
  obtain ⟨rs, h1, h2⟩ := h
  exact ⟨rs, e _ _ h1, h2.mono e⟩
theorem PiAt.po {S : List Int} (h : PiAt H d S F) : PoAt H d S F := by
  obtain ⟨rs, h1, h2⟩ := h
  exact ⟨rs, h1, LR.sr h2⟩
theorem xd_lt (x : Xb d H H1) (hd : H d = some (.dK kvs)) (h : LT H p l) : LT H1 p l := h.elim (fun h => .inl (x _ _ (fun z => by rw [z, LN, hd] at h; cases h) h)) fun h => .inr (x _ _ (fun z => by rw [z, TN, hd] at h; cases h) h)
theorem xd_sr (x : Xb d H H1) (hd : H d = some (.dK kvs)) : ∀ {rs : List Addr} {M : List (List Nat)}, SR H rs M → SR H1 rs M
  | _, _, .nil => .nil
  | _, _, .cons h t => .cons (xd_lt x hd h) (xd_sr x hd t)
theorem po_new : PoAt (upd H d (.dK [])) d [] F := ⟨[], by rw [upd_same] <;> rfl, .nil⟩
theorem PoAt.snoc {S : List Int} {i : Int} (h : PoAt H d S F) (hr : LT H r (F i)) (hi : i ∉ S) (hz : S.length < 1000) : ∃ H2, DPut H d (.int i) (.ref r) H2 ∧ Xb d H H2 ∧ PoAt H2 d (S ++ [i]) F := by
  obtain ⟨rs, hd, h2⟩ := h
  have lr : rs.length = S.length := by rw [h2.len, List.length_map]
  refine ⟨_, DPut.k (k := Sum.inl i) hd (by rw [pkI_len lr]; exact sz_lt (by omega)), xb_lock, rs ++ [r], ?_, ?_⟩
  · rw [upd_same]
    unfold putK
    rw [pkI_any lr, if_neg (by rw [decide_eq_false hi]; exact Bool.noConfusion), pkI_snoc lr]
  · rw [List.map_append]
    exact Paired.snoc (xd_sr xb_lock hd h2) (xd_lt xb_lock hd hr)
theorem es_L (h : EvL te σ H (l.map nV)) : EvSq te σ H l := fun H1 e Q k => h H1 e _ fun p H2 _ e2 hp => k p H2 e2 (.inl hp)
theorem es_U (h : EvU te σ H (l.map nV)) : EvSq te σ H l := fun H1 e Q k => h H1 e _ fun p H2 _ e2 hp => k p H2 e2 (.inr hp)
theorem es_if {b : Bool} (h : EvT tt σ H b) (h1 : ∀ H1, Ex H H1 → b = true → EvSq ta σ H1 l) (h2 : ∀ H1, Ex H H1 → b = false → EvSq tb σ H1 l) : EvSq (tIf tt ta tb) σ H l := fun H1 e Q q => h H1 e _ fun H2 e2 => by
  cases b with
  | true => exact h1 H2 (e.trans e2) rfl H2 (Ex.refl _) Q fun p H3 e3 => q p H3 (e2.trans e3)
  | false => exact h2 H2 (e.trans e2) rfl H2 (Ex.refl _) Q fun p H3 e3 => q p H3 (e2.trans e3)
/-- d[i] = a new list or tuple -/
theorem s_dputS {i : Int} {S : List Int} (ht : EvSq tv σ H (F i)) (ho : ∀ H1, Ex H H1 → Ev td σ H1 (.ref d)) (hi : ∀ H1, Ex H H1 → Ev ty σ H1 (.int i)) (hP : PoAt H d S F) (hn : i ∉ S) (hz : S.length < 1000)
    (k : ∀ H4, Xb d H H4 → PoAt H4 d (S ++ [i]) F → D.nx σ H4) : sDPut td ty tv D σ H :=
  ht H (Ex.refl H) _ fun r H1 e1 hr => ho H1 e1 H1 (Ex.refl _) _ fun H2 e2 => hi H2 (e1.trans e2) H2 (Ex.refl _) _ fun H3 e3 => by
    have e := (e1.trans e2).trans e3
    obtain ⟨H4, p1, x, p2⟩ := (hP.up e).snoc ((hr.up e2).up e3) hn hz
    exact ⟨d, H4, rfl, p1, k H4 (fun a u ha hu => x a u ha (e _ _ hu)) p2⟩
theorem PoAt.get {S : List Int} {i : Int} (h : PoAt H d S F) (hi : i ∈ S) : ∃ r, LT H r (F i) ∧ ∀ H1, Ex H H1 → DGet H1 d (.int i) (some (.ref r)) := by
  obtain ⟨rs, hd, hr⟩ := h
  obtain ⟨r, h1, h2⟩ := pkS_get hr hi
  exact ⟨r, h2, fun H1 e => .inl ⟨_, Sum.inl i, .inl (e _ _ hd), rfl, h1.symm⟩⟩
theorem PoAt.nat {S : List Nat} {W : List (List Nat)} {F : Int → List Nat} (h : PoAt H d (S.map fun n : Nat => (n : Int)) F) (hF : ∀ n ∈ S, F (n : Int) = Py.at1 W n) : ∃ rs, H d = some (.dK (pk S rs)) ∧ SR H rs (S.map (Py.at1 W)) := by
  obtain ⟨rs, h1, h2⟩ := h
  rw [pkI_nat] at h1
  refine ⟨rs, h1, ?_⟩
  rw [List.map_map] at h2
  rw [show S.map (Py.at1 W) = S.map (F ∘ fun n : Nat => (n : Int)) from List.map_congr_left fun n hn => (hF n hn).symm]
  exact h2
theorem pkN_get : ∀ {S : List Nat} {rs : List Addr} {i : Nat} {W : List (List Nat)}, SR H rs (S.map (Py.at1 W)) → i ∈ S → ∃ r, valV (pk S rs) (Sum.inl (i : Int)) = some (.ref r) ∧ LT H r (Py.at1 W i)
  | [], _, _, _, _, h => absurd h List.not_mem_nil
  | s :: S, r :: rs, i, W, .cons h1 t, h => by
    by_cases q : s = i
    · subst q
      refine ⟨r, ?_, h1⟩
      unfold valV pk
      rw [List.zipWith_cons_cons, List.find?_cons, decide_eq_true rfl] <;> rfl
    · obtain ⟨r2, e1, e2⟩ := pkN_get t ((List.mem_cons.mp h).resolve_left fun z => q z.symm)
      refine ⟨r2, ?_, e2⟩
      have n : ¬ ((Sum.inl (s : Int) : Key) = Sum.inl (i : Int)) := fun z => q (Int.ofNat.inj (Sum.inl.inj z))
      unfold valV pk at e1 ⊢
      rw [List.zipWith_cons_cons, List.find?_cons, decide_eq_false n]
      exact e1
theorem PoAt.nt {S : List Int} (h : PoAt H d S F) : (∀ xs, H d ≠ some (.tup xs)) ∧ ∀ xs, H d ≠ some (.lst xs) := by
  obtain ⟨rs, hd, _⟩ := h
  exact ⟨fun xs z => (by rw [hd] at z; cases z), fun xs z => (by rw [hd] at z; cases z)⟩
theorem po_mem {S : List Int} {i : Int} (h : PoAt H d S F) : ∃ v, (v.isSome = decide (i ∈ S)) ∧ ∀ H1, Ex H H1 → DGet H1 d (.int i) v := by
  by_cases hi : i ∈ S
  · obtain ⟨r, _, h2⟩ := h.get hi
    exact ⟨some (.ref r), by rw [decide_eq_true hi] <;> rfl, h2⟩
  · obtain ⟨rs, hd, hr⟩ := h
    have lr : rs.length = S.length := by rw [hr.len, List.length_map]
    refine ⟨none, by rw [decide_eq_false hi] <;> rfl, fun H1 e => .inl ⟨_, Sum.inl i, .inl (e _ _ hd), rfl, ?_⟩⟩
    have hn := pkI_any (i := i) lr
    rw [decide_eq_false hi] at hn
    unfold valV
    rw [List.find?_eq_none.mpr fun kv hk => ?_]
    · rfl
    · have := List.any_eq_false.mp hn kv hk
      exact this
theorem ev_inPo {S : List Int} {i : Int} (hy : Ev ty σ H (.int i)) (hd : Ev td σ H (.ref d)) (h : PoAt H d S F) : Ev (tDIn ty td) σ H (.bl (decide (i ∈ S))) := fun H1 e1 Q q => hy H1 e1 _ fun H2 e2 => hd H2 (e1.trans e2) _ fun H3 e3 => by
  obtain ⟨v, a, b⟩ := po_mem (i := i) h
  rw [← a] at q
  exact ⟨d, v, rfl, b H3 ((e1.trans e2).trans e3), q H3 (e2.trans e3)⟩
theorem ev_ninPo {S : List Int} {i : Int} (hy : Ev ty σ H (.int i)) (hd : Ev td σ H (.ref d)) (h : PoAt H d S F) : Ev (tDNotIn ty td) σ H (.bl (!decide (i ∈ S))) := fun H1 e1 Q q => hy H1 e1 _ fun H2 e2 => hd H2 (e1.trans e2) _ fun H3 e3 => by
  obtain ⟨v, a, b⟩ := po_mem (i := i) h
  rw [← a] at q
  exact ⟨d, v, rfl, b H3 ((e1.trans e2).trans e3), q H3 (e2.trans e3)⟩
theorem ev_lenPo {S : List Int} (h : Ev ta σ H (.ref d)) (hk : PoAt H d S F) : Ev (tCB rLenD (tCons ta tNil)) σ H (nV S.length) := by
  obtain ⟨rs, hd, hr⟩ := hk
  exact ev_is (ev_lenD h (.inl hd)) (by rw [pkI_len (by rw [hr.len, List.length_map])])
/-- what stays where only the object r (an instance) changes -/
theorem lt_xi {C dx : Addr} {fs : List (Str × V)} (x : Xb r H H') (hr : H r = some (.ins C dx fs)) (h : LT H p l) : LT H' p l := h.elim (fun h => .inl (x _ _ (fun z => by rw [z, LN, hr] at h; cases h) h)) fun h => .inr (x _ _ (fun z => by rw [z, TN, hr] at h; cases h) h)
theorem sr_xi {C dx : Addr} {fs : List (Str × V)} (x : Xb r H H') (hr : H r = some (.ins C dx fs)) : ∀ {rs : List Addr} {M : List (List Nat)}, SR H rs M → SR H' rs M
  | _, _, .nil => .nil
  | _, _, .cons h t => .cons (lt_xi x hr h) (sr_xi x hr t)
theorem lr_xi {C dx : Addr} {fs : List (Str × V)} (x : Xb r H H') (hr : H r = some (.ins C dx fs)) : ∀ {rs : List Addr} {M : List (List Nat)}, LR H rs M → LR H' rs M
  | _, _, .nil => .nil
  | _, _, .cons h t => .cons (x _ _ (fun z => by rw [z, LN, hr] at h; cases h) h) (lr_xi x hr t)
theorem mn_xi {C dx : Addr} {fs : List (Str × V)} (x : Xb r H H') (hr : H r = some (.ins C dx fs)) (h : MN H p M) : MN H' p M := by
  obtain ⟨rs, h1, h2⟩ := h
  exact ⟨rs, x _ _ (fun z => by rw [z, hr] at h1; cases h1) h1, lr_xi x hr h2⟩
theorem po_xi {C dx : Addr} {fs : List (Str × V)} {S : List Int} (x : Xb r H H') (hr : H r = some (.ins C dx fs)) (h : PoAt H d S F) : PoAt H' d S F := by
  obtain ⟨rs, h1, h2⟩ := h
  exact ⟨rs, x _ _ (fun z => by rw [z, hr] at h1; cases h1) h1, sr_xi x hr h2⟩
theorem kv_xi {C dx : Addr} {fs : List (Str × V)} {A : List (Key × PyData)} (x : Xb r H H') (hr : H r = some (.ins C dx fs)) (h : KvAt H d A) : KvAt H' d A := h.xb x (fun z => by
  obtain ⟨kvs, hk, _⟩ := h
  rw [z, hr] at hk
  cases hk) fun xs z => by rw [hr] at z; cases z
/-- tuple(t) of a tuple is t -/
theorem ev_tupV {xs : List V} (h : Ev ta σ H (.ref p)) (hp : H p = some (.tup xs)) : Ev (tCB (fun xs H Q => ∃ p ys, xs = [.ref p] ∧ ((SqL K H p ys ∧ ∀ l, H l = none → Q (.ref l) (upd H l (.tup ys))) ∨ (SqT K H p ys ∧ Q (.ref p) H))) (tCons ta tNil)) σ H (.ref p) := fun H1 e Q q =>
  h H1 e _ fun H2 e2 => ⟨p, xs, rfl, .inr ⟨st_of ((e.trans e2) _ _ hp), q H2 e2⟩⟩
theorem q_fldN {C dx : Addr} {fs : List (Str × V)} {f : Str} {tz : TS} (ks : List Str) (h2 : ∀ H1, Ex H H1 → Ev ta σ H1 (.ref a)) (ho : H a = some (.ins C dx fs)) (c : Cls K C) (n : NoAttr K C f) (hk : fs.map (·.1) = ks) (hf : f ∉ ks) (hl : fs.length < 1000) (k : ∀ p H1, H p = none → Ex H H1 → H1 p = some (.dK []) → tz D σ (upd H1 a (.ins C dx (fs ++ [(f, .ref p)])))) : tSeq (sFld K ta tDNewK f) tz D σ H := fun p np =>
  h2 _ (Ex.new np) _ (Ex.refl _) _ fun H2 e2 => ⟨a, C, dx, fs, rfl, ((Ex.new np).trans e2) _ _ ho, c, n, hl, by
    show tz D σ _
    rw [putF_app (by rw [hk]; exact hf)]
    exact k p H2 np ((Ex.new np).trans e2) (e2 _ _ upd_same)⟩
theorem q_fldL {C dx : Addr} {fs : List (Str × V)} {f : Str} {tz : TS} {xs : List V} (ks : List Str) (h : EvL tv σ H xs) (h2 : Ev ta σ H (.ref a)) (ho : H a = some (.ins C dx fs)) (c : Cls K C) (n : NoAttr K C f) (hk : fs.map (·.1) = ks) (hf : f ∉ ks) (hl : fs.length < 1000) (k : ∀ p H1, H p = none → Ex H H1 → H1 p = some (.lst xs) → tz D σ (upd H1 a (.ins C dx (fs ++ [(f, .ref p)])))) : tSeq (sFld K ta tv f) tz D σ H :=
  h H (Ex.refl H) _ fun p H1 np e1 hp => h2 H1 e1 _ fun H2 e2 => ⟨a, C, dx, fs, rfl, (e1.trans e2) _ _ ho, c, n, hl, by
    show tz D σ _
    rw [putF_app (by rw [hk]; exact hf)]
    exact k p H2 np (e1.trans e2) (e2 _ _ hp)⟩
/-! names of shelves, told by their numbers -/
def nmJ (J : List Nat) : List V := J.map fun j => V.str (nmS "s" j)
def inS (v : V) : Nat := ((List.range 24).find? fun j => decide (V.str (nmS "s" j) = v)).getD 0
theorem inS_at : ∀ j, j < 24 → inS (.str (nmS "s" j)) = j := by decide +kernel
theorem nm_inj : ∀ a, a < 24 → ∀ b, b < 24 → nmS "s" a = nmS "s" b → a = b := by decide +kernel
theorem nmJ_mem {J : List Nat} {x : V} (h : x ∈ nmJ J) : ∃ j, j ∈ J ∧ x = .str (nmS "s" j) := by
  obtain ⟨j, hj, rfl⟩ := List.mem_map.mp h
  exact ⟨j, hj, rfl⟩
theorem nmJ_flat (J : List Nat) : (nmJ J).all flatV = true := by
  rw [List.all_eq_true]
  intro x hx
  obtain ⟨j, _, rfl⟩ := nmJ_mem hx
  rfl
theorem nmJ_in {J : List Nat} {q : Nat} (hJ : ∀ j ∈ J, j < 24) (hq : q < 24) : inV (.str (nmS "s" q)) (nmJ J) = decide (q ∈ J) := by
  induction J with
  | nil => rfl
  | cons j J ih =>
    have ih := ih fun x hx => hJ x (List.mem_cons_of_mem _ hx)
    unfold inV nmJ at ih ⊢
    rw [List.map_cons, List.any_cons, ih]
    by_cases h : j = q
    · subst h
      rw [show eqV (V.str (nmS "s" j)) (V.str (nmS "s" j)) = true from beq_iff_eq.mpr rfl, decide_eq_true (List.mem_cons_self ..)] <;> rfl
    · rw [show eqV (V.str (nmS "s" j)) (V.str (nmS "s" q)) = false from beq_eq_false_iff_ne.mpr fun z => h (nm_inj j (hJ j (List.mem_cons_self ..)) q hq z), Bool.false_or]
      by_cases h2 : q ∈ J
      · rw [decide_eq_true h2, decide_eq_true (List.mem_cons_of_mem _ h2)]
      · rw [decide_eq_false h2, decide_eq_false fun z => (List.mem_cons.mp z).elim (fun z => h z.symm) h2]
theorem nmJ_fm {J : List Nat} (hJ : ∀ j ∈ J, j < 24) (g : Nat → Bool) (f : Nat → PyData) : ((nmJ J).filter fun v => g (inS v)).map (fun v => f (inS v)) = (J.filter g).map f := by
  unfold nmJ
  rw [List.filter_map, List.map_map]
  have e1 : J.filter ((fun v => g (inS v)) ∘ fun j => V.str (nmS "s" j)) = J.filter g := List.filter_congr fun j hj => by
    show g (inS _) = g j
    rw [inS_at j (hJ j hj)]
  rw [e1]
  refine List.map_congr_left fun j hj => ?_
  show f (inS _) = f j
  rw [inS_at j (hJ j (List.mem_filter.mp hj).1)]
theorem elt_isO {ds es : List PyData} (h : EvLT te σ H ds) (e : ds = es) : EvLT te σ H es := e ▸ h
/-- comprehensions over names: a tuple, a list, a new tuple -/
theorem elt_nmT {J : List Nat} {j : Nat} {vs : List Nat} {g : Nat → Bool} {f : Nat → PyData} (h : Ev tl σ H (.ref a)) (hx : SqT K H a (nmJ J)) (hJ : ∀ j ∈ J, j < 24) (hn : J.length ≤ 40000) (hw : ∀ x, wipe ((wipe σ vs).set j (some x)) vs = wipe σ vs)
    (ht : ∀ q H1, Ex H H1 → q ∈ J → EvT tt ((wipe σ vs).set j (some (.str (nmS "s" q)))) H1 (g q)) (he : ∀ q H1, Ex H H1 → q ∈ J → g q = true → EvDT te ((wipe σ vs).set j (some (.str (nmS "s" q)))) H1 (f q)) : EvLT (tLc (iTup K tl) (gName j) tt te vs) σ H ((J.filter g).map f) :=
  elt_isO (elt_lcT (xs := nmJ J) (g := fun v => g (inS v)) (f := fun v => f (inS v)) h hx (by unfold nmJ; rw [List.length_map]; exact hn) hw (fun x H1 e1 hx => by
    obtain ⟨q, hq, rfl⟩ := nmJ_mem hx
    rw [inS_at q (hJ q hq)]
    exact ht q H1 e1 hq) fun x H1 e1 hx hg => by
    obtain ⟨q, hq, rfl⟩ := nmJ_mem hx
    rw [inS_at q (hJ q hq)] at hg ⊢
    exact he q H1 e1 hq hg) (nmJ_fm hJ g f)
theorem elt_nmL {J : List Nat} {j : Nat} {vs : List Nat} {g : Nat → Bool} {f : Nat → PyData} (h : Ev tl σ H (.ref a)) (hx : H a = some (.lst (nmJ J))) (hJ : ∀ j ∈ J, j < 24) (hn : J.length ≤ 40000) (hw : ∀ x, wipe ((wipe σ vs).set j (some x)) vs = wipe σ vs)
    (ht : ∀ q H1, Ex H H1 → q ∈ J → EvT tt ((wipe σ vs).set j (some (.str (nmS "s" q)))) H1 (g q)) (he : ∀ q H1, Ex H H1 → q ∈ J → g q = true → EvDT te ((wipe σ vs).set j (some (.str (nmS "s" q)))) H1 (f q)) : EvLT (tLc (iList K tl) (gName j) tt te vs) σ H ((J.filter g).map f) :=
  elt_isO (elt_lcL (xs := nmJ J) (g := fun v => g (inS v)) (f := fun v => f (inS v)) h (sq_of hx) (by unfold nmJ; rw [List.length_map]; exact hn) hw (fun x H1 e1 hx => by
    obtain ⟨q, hq, rfl⟩ := nmJ_mem hx
    rw [inS_at q (hJ q hq)]
    exact ht q H1 e1 hq) fun x H1 e1 hx hg => by
    obtain ⟨q, hq, rfl⟩ := nmJ_mem hx
    rw [inS_at q (hJ q hq)] at hg ⊢
    exact he q H1 e1 hq hg) (nmJ_fm hJ g f)
theorem ef_is {xs ys : List V} (h : EvF te σ H xs) (e : xs = ys) : EvF te σ H ys := e ▸ h
theorem elt_nmF {J : List Nat} {j : Nat} {vs : List Nat} {g : Nat → Bool} {f : Nat → PyData} (h : EvF tl σ H (nmJ J)) (hJ : ∀ j ∈ J, j < 24) (hn : J.length ≤ 40000) (hw : ∀ x, wipe ((wipe σ vs).set j (some x)) vs = wipe σ vs)
    (ht : ∀ q H1, Ex H H1 → q ∈ J → EvT tt ((wipe σ vs).set j (some (.str (nmS "s" q)))) H1 (g q)) (he : ∀ q H1, Ex H H1 → q ∈ J → g q = true → EvDT te ((wipe σ vs).set j (some (.str (nmS "s" q)))) H1 (f q)) : EvLT (tLc (iTup K tl) (gName j) tt te vs) σ H ((J.filter g).map f) := fun H0 e Q q =>
  h H0 e _ fun a H1 na e1 ha => elt_nmT (tl := tC (.ref a)) ev_c ha.sq hJ hn hw (fun q H2 e2 => ht q H2 ((e.trans e1).trans e2)) (fun q H2 e2 => he q H2 ((e.trans e1).trans e2)) H1 (Ex.refl _) Q fun p us H2 np e2 hp du => q p us H2 (fresh_back e1 np) (e1.trans e2) hp du
theorem dpts_nmJ : ∀ {J : List Nat} {us : List V}, DpTs H us (J.map fun j => PyData.str (nmS "s" j)) → us = nmJ J
  | [], _, .nil => rfl
  | j :: J, _, .cons a t => by
    cases a
    rw [dpts_nmJ t] <;> rfl
/-- what was acknowledged: the names of L -/
def asA (L : List Nat) : List (Key × PyData) := L.map fun j => ((Sum.inr (nmS "s" j) : Key), PyData.bool true)
theorem asA_get {L : List Nat} {q : Nat} (hL : ∀ j ∈ L, j < 24) (hq : q < 24) : (getA (asA L) (Sum.inr (nmS "s" q))).isSome = decide (q ∈ L) := by
  induction L with
  | nil => rfl
  | cons j L ih =>
    have ih := ih fun x hx => hL x (List.mem_cons_of_mem _ hx)
    unfold getA asA at ih ⊢
    rw [List.map_cons, List.find?_cons]
    by_cases h : j = q
    · subst h
      rw [decide_eq_true (rfl : (Sum.inr (nmS "s" j) : Key) = Sum.inr (nmS "s" j)), decide_eq_true (List.mem_cons_self ..)] <;> rfl
    · rw [decide_eq_false (fun z => h (nm_inj j (hL j (List.mem_cons_self ..)) q hq (Sum.inr.inj z)))]
      show (Option.map _ _).isSome = _
      rw [ih]
      by_cases h2 : q ∈ L
      · rw [decide_eq_true h2, decide_eq_true (List.mem_cons_of_mem _ h2)]
      · rw [decide_eq_false h2, decide_eq_false fun z => (List.mem_cons.mp z).elim (fun z => h z.symm) h2]
theorem asA_put {L : List Nat} {q : Nat} (hL : ∀ j ∈ L, j < 24) (hq : q < 24) : putA (asA L) (Sum.inr (nmS "s" q)) (.bool true) = if q ∈ L then asA L else asA (L ++ [q]) := by
  unfold putA
  rw [asA_get hL hq]
  by_cases h : q ∈ L
  · rw [decide_eq_true h, if_pos rfl, if_pos h]
    unfold asA
    rw [List.map_map]
    refine List.map_congr_left fun j _ => ?_
    show (if (Sum.inr (nmS "s" j) : Key) = Sum.inr (nmS "s" q) then ((Sum.inr (nmS "s" j) : Key), PyData.bool true) else ((Sum.inr (nmS "s" j) : Key), PyData.bool true)) = _
    split <;> rfl
  · rw [decide_eq_false h, if_neg Bool.false_ne_true, if_neg h]
    unfold asA
    rw [List.map_append] <;> rfl
/-! pieces that are tuples -/
def TR (H : Hp) (rs : List Addr) (M : List (List Nat)) : Prop := Paired (fun r l => TN H r l) rs M
def TrAt (H : Hp) (d : Addr) (S : List Int) (F : Int → List Nat) : Prop := ∃ rs, H d = some (.dK (pkI S rs)) ∧ TR H rs (S.map F)
theorem TR.mono (e : Ex H H') (h : TR H rs M) : TR H' rs M := Paired.mono (fun _ _ q => TN.up q e) h
theorem TR.sr (h : TR H rs M) : SR H rs M := Paired.mono (fun _ _ q => .inr q) h
theorem TrAt.up {S : List Int} (h : TrAt H d S F) (e : Ex H H') : TrAt H' d S F := by
  obtain ⟨rs, h1, h2⟩ := h
  exact ⟨rs, e _ _ h1, h2.mono e⟩
theorem TrAt.po {S : List Int} (h : TrAt H d S F) : PoAt H d S F := by
  obtain ⟨rs, h1, h2⟩ := h
  exact ⟨rs, h1, h2.sr⟩
theorem xd_tn (x : Xb d H H1) (hd : H d = some (.dK kvs)) (h : TN H p l) : TN H1 p l := x _ _ (fun z => by rw [z, TN, hd] at h; cases h) h
theorem xd_tr (x : Xb d H H1) (hd : H d = some (.dK kvs)) : ∀ {rs : List Addr} {M : List (List Nat)}, TR H rs M → TR H1 rs M
  | _, _, .nil => .nil
  | _, _, .cons h t => .cons (xd_tn x hd h) (xd_tr x hd t)
theorem tr_xi {C dx : Addr} {fs : List (Str × V)} {S : List Int} (x : Xb r H H') (hr : H r = some (.ins C dx fs)) (h : TrAt H d S F) : TrAt H' d S F := by
  obtain ⟨rs, h1, h2⟩ := h
  refine ⟨rs, x _ _ (fun z => by rw [z, hr] at h1; cases h1) h1, ?_⟩
  clear h1
  generalize S.map F = M at h2
  induction h2 with
  | nil => exact .nil
  | cons h _ ih => exact .cons (x _ _ (fun z => by rw [z, TN, hr] at h; cases h) h) ih
/-- where only the list r changes -/
theorem tr_xl {xs : List V} {S : List Int} (x : Xb r H H') (hr : H r = some (.lst xs)) (h : TrAt H d S F) : TrAt H' d S F := by
  obtain ⟨rs, h1, h2⟩ := h
  refine ⟨rs, x _ _ (fun z => by rw [z, hr] at h1; cases h1) h1, ?_⟩
  clear h1
  generalize S.map F = M at h2
  induction h2 with
  | nil => exact .nil
  | cons h _ ih => exact .cons (x _ _ (fun z => by rw [z, TN, hr] at h; cases h) h) ih
theorem TrAt.snoc {S : List Int} {i : Int} (h : TrAt H d S F) (hr : TN H r (F i)) (hi : i ∉ S) (hz : S.length < 1000) : ∃ H2, DPut H d (.int i) (.ref r) H2 ∧ Xb d H H2 ∧ TrAt H2 d (S ++ [i]) F := by
  obtain ⟨rs, hd, h2⟩ := h
  have lr : rs.length = S.length := by rw [h2.sr.len, List.length_map]
  refine ⟨_, DPut.k (k := Sum.inl i) hd (by rw [pkI_len lr]; exact sz_lt (by omega)), xb_lock, rs ++ [r], ?_, ?_⟩
  · rw [upd_same]
    unfold putK
    rw [pkI_any lr, if_neg (by rw [decide_eq_false hi]; exact Bool.noConfusion), pkI_snoc lr]
  · rw [List.map_append]
    exact Paired.snoc (xd_tr xb_lock hd h2) (xd_tn xb_lock hd hr)
/-- d[i] = a tuple that is here -/
theorem s_dputTr {i : Int} {S : List Int} {l : List Nat} (ht : Ev tv σ H (.ref p)) (hp : TN H p l) (hl : l = F i) (ho : Ev td σ H (.ref d)) (hi : Ev ty σ H (.int i)) (hP : TrAt H d S F) (hn : i ∉ S) (hz : S.length < 1000)
    (k : ∀ H4, Xb d H H4 → TrAt H4 d (S ++ [i]) F → D.nx σ H4) : sDPut td ty tv D σ H :=
  ht H (Ex.refl H) _ fun H1 e1 => ho H1 e1 _ fun H2 e2 => hi H2 (e1.trans e2) _ fun H3 e3 => by
    have e := (e1.trans e2).trans e3
    obtain ⟨H4, p1, x, p2⟩ := (hP.up e).snoc (by rw [← hl]; exact TN.up hp e) hn hz
    exact ⟨d, H4, rfl, p1, k H4 (fun a u ha hu => x a u ha (e _ _ hu)) p2⟩
theorem tr_new : TrAt (upd H d (.dK [])) d [] F := ⟨[], by rw [upd_same] <;> rfl, .nil⟩
/-- a list of lists none of which stands at one of X -/
def Sep (H : Hp) (X : List Addr) (wd : Addr) : Prop := wd ∉ X ∧ ∀ rs : List Addr, H wd = some (.lst (rs.map V.ref)) → ∀ x ∈ rs, x ∉ X
theorem ref_inj : ∀ {rs ss : List Addr}, rs.map V.ref = ss.map V.ref → rs = ss
  | [], [], _ => rfl
  | [], _ :: _, h => by cases h
  | _ :: _, [], h => by cases h
  | r :: rs, s :: ss, h => by
    rw [List.map_cons, List.map_cons] at h
    injection h with h1 h2
    injection h1 with h1
    rw [h1, ref_inj h2]
theorem Sep.keep {X : List Addr} {wd : Addr} (h : Sep H X wd) (hm : MN H wd M) (e : ∀ xs, H wd = some (.lst xs) → H' wd = some (.lst xs)) : Sep H' X wd := by
  refine ⟨h.1, fun ss hs => ?_⟩
  obtain ⟨rs, h1, _⟩ := hm
  have := e _ h1
  rw [hs] at this
  injection this with this
  injection this with this
  rw [ref_inj this]
  exact h.2 rs h1
theorem mn_xl {X : List Addr} {wd a : Addr} (h : MN H wd M) (s : Sep H X wd) (ha : a ∈ X) (x : Xb a H H') : MN H' wd M := by
  obtain ⟨rs, h1, h2⟩ := h
  have h3 := s.2 rs h1
  refine ⟨rs, x _ _ (fun z => s.1 (z ▸ ha)) h1, ?_⟩
  clear h1
  induction h2 with
  | nil => exact .nil
  | @cons r l rs M q _ ih => exact .cons (x _ _ (fun z => h3 r (List.mem_cons_self ..) (z ▸ ha)) q) (ih fun y hy => h3 y (List.mem_cons_of_mem _ hy))
theorem mf_sep {H0 : Hp} {X : List Addr} {wd : Addr} (h : MF H0 H wd M) (hn : H0 wd = none) (hX : ∀ x ∈ X, H0 x ≠ none) : Sep H X wd := by
  obtain ⟨rs, h1, h2, h3⟩ := h
  refine ⟨fun z => hX _ z hn, fun ss hs => ?_⟩
  rw [hs] at h1
  injection h1 with h1
  injection h1 with h1
  rw [ref_inj h1]
  exact fun x hx z => hX _ z (h3 x hx)
/-- a comprehension over range(n) with a test -/
theorem el_rG {ta0 : TA} {f : Nat → V} {j : Nat} {vs : List Nat} {n : Nat} {g : Nat → Bool} (h : EvA ta0 σ H [.int (n : Int)]) (hn : n ≤ 40000) (hw : ∀ x, wipe ((wipe σ vs).set j (some x)) vs = wipe σ vs)
    (ht : ∀ (i : Nat) H1, Ex H H1 → i < n → EvT tt ((wipe σ vs).set j (some (nV i))) H1 (g i)) (he : ∀ (i : Nat) H1, Ex H H1 → i < n → Ev te ((wipe σ vs).set j (some (nV i))) H1 (f i)) : EvL (tLc (iRng1 ta0) (gName j) tt te vs) σ H (((List.range n).filter g).map f) := fun H0 e Q q => h H0 e _ fun H1 e1 => ⟨(n : Int), rfl, by omega, by omega, fun Dl hD =>
  lc_range (lo := 0) (n := (n : Int).toNat) (fun i H' => H1 Dl = none ∧ Ex H1 H' ∧ H' Dl = some (.lst (((List.range i).filter g).map f))) ⟨hD, Ex.new hD, by rw [upd_same] <;> rfl⟩ (fun i H' hi p => by
    have e0 : (0 : Int) + (i : Int) = (i : Int) := Int.zero_add _
    have hl : i < n := by omega
    obtain ⟨p1, p2, p3⟩ := p
    have hlen : (((List.range i).filter g).map f).length ≤ i := by
      rw [List.length_map]
      exact Nat.le_trans (List.length_filter_le _ _) (by rw [List.length_range]; exact Nat.le_refl _)
    show wipe ((wipe σ vs).set j (some (.int ((0 : Int) + (i : Int))))) vs = wipe σ vs ∧ tt ((wipe σ vs).set j (some (.int ((0 : Int) + (i : Int))))) H' _
    rw [e0]
    refine ⟨hw _, ?_⟩
    refine ht i H1 (e.trans e1) hl H' p2 _ fun H3 e3 => ?_
    rw [List.range_succ, List.filter_append, List.map_append]
    cases hg : g i with
    | false =>
      rw [if_neg Bool.false_ne_true]
      refine ⟨p1, p2.trans e3, ?_⟩
      rw [List.filter_cons_of_neg (by rw [hg]; exact Bool.false_ne_true), List.filter_nil, List.map_nil, List.append_nil]
      exact e3 _ _ p3
    | true =>
      rw [if_pos rfl]
      refine he i H1 (e.trans e1) hl H3 (p2.trans e3) _ fun H4 e4 => ⟨_, e4 _ _ (e3 _ _ p3), sz_lt (by omega), p1, Ex.mut ((p2.trans e3).trans e4) p1, ?_⟩
      rw [List.filter_cons_of_pos hg, List.filter_nil, upd_same] <;> rfl) (fun H' p => by
    obtain ⟨p1, p2, p3⟩ := p
    rw [Int.toNat_natCast] at p3
    exact q Dl H' (fresh_back e1 p1) (e1.trans p2) p3)⟩
theorem nodup_sub : ∀ {L J : List Nat}, L.Nodup → (∀ x ∈ L, x ∈ J) → L.length ≤ J.length
  | [], _, _, _ => Nat.zero_le _
  | x :: L, J, hn, h => by
    have hx := h x (List.mem_cons_self ..)
    have hn2 := List.nodup_cons.mp hn
    have ih := nodup_sub (L := L) (J := J.erase x) hn2.2 fun y hy => (List.mem_erase_of_ne fun (z : y = x) => hn2.1 (by rw [← z]; exact hy)).mpr (h y (List.mem_cons_of_mem _ hy))
    rw [List.length_erase_of_mem hx] at ih
    have := List.length_pos_of_mem hx
    rw [List.length_cons]
    omega
theorem all_here {L J : List Nat} (hL : L.Nodup) (hJ : J.Nodup) (h : ∀ x ∈ L, x ∈ J) : decide (L.length = J.length) = (J.map fun j => decide (j ∈ L)).all id := by
  have h1 := nodup_sub hL h
  rw [Bool.eq_iff_iff, decide_eq_true_eq, List.all_eq_true]
  constructor
  · intro e b hb
    obtain ⟨j, hj, rfl⟩ := List.mem_map.mp hb
    by_cases hjL : j ∈ L
    · exact decide_eq_true hjL
    · have := nodup_sub (L := j :: L) (J := J) (List.nodup_cons.mpr ⟨hjL, hL⟩) fun x hx => (List.mem_cons.mp hx).elim (fun z => by rw [z]; exact hj) (h x)
      rw [List.length_cons] at this
      omega
  · intro e
    have := nodup_sub (L := J) (J := L) hJ fun x hx => of_decide_eq_true (e _ (List.mem_map.mpr ⟨x, hx, rfl⟩))
    omega
end
end Mx

set_option Elab.async false
set_option linter.all false
set_option maxRecDepth 100000
set_option maxHeartbeats 4000000
namespace L2
open PySem PySem.Spec PyProof.Rows
/-! tuples that hold dicts: t == u where item by item the same data stands, or dicts with the same flat values -/
def EqP (K : PySem.W.Frag) (H : Hp) (v u : V) : Prop := (∃ d, Dp K H v d ∧ Dp K H u d ∧ SeqAt.shaped d = true ∧ PyData.depth d ≤ 60) ∨
  ∃ p q ks ls, v = .ref p ∧ u = .ref q ∧ H p = some (.dK ks) ∧ H q = some (.dK ls) ∧ ks.length = ls.length ∧ ∀ kv ∈ ks, valV ls kv.1 = some kv.2 ∧ flatB kv.2 = true
def rEqTD (K : PySem.W.Frag) : R2 := fun x y H Q => ∃ a b xs ys, x = .ref a ∧ y = .ref b ∧ SqT K H a xs ∧ SqT K H b ys ∧ Paired (EqP K H) xs ys ∧ Q (.bl true) H
section
variable {X : Cx} {pins : List (Addr × Obj)} {σ : St} {H : Hp} {s : Shared}
theorem eqP_tree (I : Inv X pins σ H s) {v u : V} {v' u' : Value} (h : EqP X.K H v u) (rv : RelV v v') (ru : RelV u u') : PySem.W.EqTree X.prog X.w s 62 v' u' true := by
  rcases h with ⟨d, h1, h2, sd, hd⟩ | ⟨p, q, ks, ls, rfl, rfl, hp, hq, hl, hk⟩
  · obtain ⟨as, r1⟩ := Dp.reads I d v v' h1 rv
    obtain ⟨bs, r2⟩ := Dp.reads I d u u' h2 ru
    refine .leaf fun A hA => ?_
    have := SeqAt.eqAt_reads d d A s v' u' as bs r1 r2 (SeqAt.canLay_of_shaped sd) (SeqAt.canLay_of_shaped sd) (by rw [Nat.min_self]; omega)
    rw [Mx.shaped_can sd] at this
    exact this
  · obtain rfl : v' = Value.ref p := rv
    obtain rfl : u' = Value.ref q := ru
    by_cases hpq : p = q
    · subst hpq
      exact .same
    obtain ⟨_, ya, va, ra, da⟩ := (show ObjOk X.prog X.w H s.heap p (.dK ks) from I.hok p _ hp)
    obtain ⟨_, yb, vb, rb, db⟩ := (show ObjOk X.prog X.w H s.heap q (.dK ls) from I.hok q _ hq)
    have hlen : va.length = vb.length := ra.length.symm.trans (hl.trans rb.length)
    have key : ∀ {ks : List (Key × V)} {va : List (Key × Value)}, KV ks va → (∀ kv ∈ ks, valV ls kv.1 = some kv.2 ∧ flatB kv.2 = true) → ∀ k v', (k, v') ∈ va → ∃ vv y, RelV vv v' ∧ valueAt vb k = some y ∧ RelV vv y ∧ flatB vv = true := by
      intro ks va ra
      unfold KV at ra
      induction ra with
      | nil => intro _ k v' hm; exact absurd hm List.not_mem_nil
      | @cons p q ps qs h t ih =>
        intro hp k v' hm
        rcases List.mem_cons.mp hm with hm | hm
        · subst hm
          obtain ⟨h1, h2⟩ := h
          obtain ⟨e, f⟩ := hp p List.mem_cons_self
          have rr : RelO (some p.2) (valueAt vb p.1) := by rw [← e]; exact rb.val p.1
          obtain ⟨y, hy, ry⟩ := rr.some_of
          have h1' : p.1 = k := h1
          rw [h1'] at hy
          exact ⟨p.2, y, h2, hy, ry, f⟩
        · exact ih (fun p' hm => hp p' (List.mem_cons_of_mem _ hm)) k v' hm
    have t := PySem.W.EqTree.dicts (n := 61) (e := fun _ => true) hpq ya yb da db fun k v' y hm hy => by
      obtain ⟨vv, y2, r1, hy2, r2, fl⟩ := key ra hk k v' hm
      rw [hy2] at hy
      obtain rfl := Option.some.inj hy
      exact .leaf fun A _ => eqAt_same r1 r2 fl
    have hb : (va.length == vb.length && va.all fun p => (valueAt vb p.1).isSome && true) = true := by
      rw [Bool.and_eq_true_iff, beq_iff_eq, List.all_eq_true]
      refine ⟨hlen, fun kv hm => ?_⟩
      obtain ⟨vv, y2, r1, hy2, r2, fl⟩ := key ra hk kv.1 kv.2 hm
      rw [hy2] <;> rfl
    rw [hb] at t
    exact t
theorem paired_rel {K : PySem.W.Frag} : ∀ {xs ys : List V} {us ws : List Value}, Paired (EqP K H) xs ys → Vals xs us → Vals ys ws → us.length = ws.length ∧ ∀ j (h1 : j < us.length) (h2 : j < ws.length), ∃ v u, EqP K H v u ∧ RelV v us[j] ∧ RelV u ws[j]
  | [], [], _, _, .nil, r1, r2 => by
    cases r1
    cases r2
    exact ⟨rfl, fun j h1 _ => absurd h1 (Nat.not_lt_zero _)⟩
  | x :: xs, y :: ys, _, _, .cons h t, r1, r2 => by
    cases r1 with
    | cons a1 b1 =>
      cases r2 with
      | cons a2 b2 =>
        obtain ⟨e, g⟩ := paired_rel t b1 b2
        refine ⟨by rw [List.length_cons, List.length_cons, e], fun j h1 h2 => ?_⟩
        cases j with
        | zero => exact ⟨x, y, h, a1, a2⟩
        | succ j => exact g j (Nat.lt_of_succ_lt_succ h1) (Nat.lt_of_succ_lt_succ h2)
theorem op_eqTD (hu : X.A.units + 64 < cLine) : OpR X (compareOp .Eq) (rEqTD X.K) := by
  intro pins s σ H x y v u Q I rx ry h
  obtain ⟨a, b, xs, ys, rfl, rfl, ha, hb, hp, q⟩ := h
  obtain rfl : v = Value.ref a := rx
  obtain rfl : u = Value.ref b := ry
  obtain ⟨us, r1, ⟨o1, g1, g2, n1, g3⟩, _⟩ := I.tuple ha
  obtain ⟨ws, r2, ⟨o2, k1, k2, n2, k3⟩, _⟩ := I.tuple hb
  obtain ⟨e, g⟩ := paired_rel hp r1 r2
  refine PySem.W.eq_tuplesT (n := 62) (e := fun _ => true) ⟨_, g1, g2, _, g3⟩ ⟨_, k1, k2, _, k3⟩ (fun j h1 h2 => ?_) (by omega) (fin_bl I q ?_)
  · obtain ⟨v, u, hp, ra, rb⟩ := g j (by simpa using h1) (by simpa using h2)
    have := eqP_tree I hp ra rb
    simpa using this
  · simp [e]
end
end L2

set_option Elab.async false
set_option linter.all false
set_option maxRecDepth 100000
set_option maxHeartbeats 4000000
namespace Mx
open PySem PySem.Spec PyProof.Rows L2 Evl
/-! dicts from names of shelves to lists of numbers -/
def pkS (J : List Nat) (rs : List Addr) : List (Key × V) := List.zipWith (fun (j : Nat) (r : Addr) => ((Sum.inr (nmS "s" j) : Key), V.ref r)) J rs
def KsAt (H : Hp) (d : Addr) (J : List Nat) (F : Nat → List Nat) : Prop := ∃ rs, H d = some (.dK (pkS J rs)) ∧ LR H rs (J.map F)
section
variable {K : PySem.W.Frag} {σ : L2.St} {H H' : Hp} {td ty tv : TE} {d r : Addr} {J : List Nat} {rs : List Addr} {F : Nat → List Nat} {q : Nat} {D : Ends}
theorem pkS_cons (j : Nat) (J : List Nat) (r : Addr) (rs : List Addr) : pkS (j :: J) (r :: rs) = ((Sum.inr (nmS "s" j) : Key), V.ref r) :: pkS J rs := rfl
theorem pkS_len (h : rs.length = J.length) : (pkS J rs).length = J.length := by
  unfold pkS
  rw [List.length_zipWith, h, Nat.min_self]
theorem KsAt.up (h : KsAt H d J F) (e : Ex H H') : KsAt H' d J F := by
  obtain ⟨rs, h1, h2⟩ := h
  exact ⟨rs, e _ _ h1, h2.mono e⟩
theorem pkS_keys : ∀ {J : List Nat} {rs : List Addr}, rs.length = J.length → (pkS J rs).map (·.1) = (J.map (nmS "s")).map Sum.inr
  | [], [], _ => rfl
  | j :: J, r :: rs, h => by
    rw [pkS_cons, List.map_cons, pkS_keys (Nat.succ.inj h)] <;> rfl
  | [], _ :: _, h => by cases h
  | _ :: _, [], h => by cases h
theorem pkQ_get : ∀ {J : List Nat} {rs : List Addr}, LR H rs (J.map F) → (∀ j ∈ J, j < 24) → q < 24 → (q ∉ J ∧ valV (pkS J rs) (Sum.inr (nmS "s" q)) = none) ∨ (q ∈ J ∧ ∃ r, valV (pkS J rs) (Sum.inr (nmS "s" q)) = some (.ref r) ∧ LN H r (F q))
  | [], _, .nil, _, _ => .inl ⟨List.not_mem_nil, rfl⟩
  | j :: J, _, .cons h t, hJ, hq => by
    rename_i r rs
    by_cases e : j = q
    · subst e
      refine .inr ⟨List.mem_cons_self .., r, ?_, h⟩
      rw [pkS_cons]
      unfold valV
      rw [List.find?_cons, decide_eq_true (rfl : (Sum.inr (nmS "s" j) : Key) = Sum.inr (nmS "s" j))] <;> rfl
    · have n : ¬ ((Sum.inr (nmS "s" j) : Key) = Sum.inr (nmS "s" q)) := fun z => e (nm_inj j (hJ j (List.mem_cons_self ..)) q hq (Sum.inr.inj z))
      have hv : valV (pkS (j :: J) (r :: rs)) (Sum.inr (nmS "s" q)) = valV (pkS J rs) (Sum.inr (nmS "s" q)) := by
        rw [pkS_cons]
        unfold valV
        rw [List.find?_cons, decide_eq_false n]
      rcases pkQ_get t (fun x hx => hJ x (List.mem_cons_of_mem _ hx)) hq with ⟨a, b⟩ | ⟨a, r2, b, c⟩
      · exact .inl ⟨fun z => (List.mem_cons.mp z).elim (fun z => e z.symm) a, by rw [hv]; exact b⟩
      · exact .inr ⟨List.mem_cons_of_mem _ a, r2, by rw [hv]; exact b, c⟩
theorem KsAt.get (h : KsAt H d J F) (hJ : ∀ j ∈ J, j < 24) (hq : q < 24) : (q ∉ J ∧ ∀ H1, Ex H H1 → DGet H1 d (.str (nmS "s" q)) none) ∨ (q ∈ J ∧ ∃ r, LN H r (F q) ∧ ∀ H1, Ex H H1 → DGet H1 d (.str (nmS "s" q)) (some (.ref r))) := by
  obtain ⟨rs, hd, hr⟩ := h
  rcases pkQ_get hr hJ hq with ⟨a, b⟩ | ⟨a, r, b, c⟩
  · exact .inl ⟨a, fun H1 e => .inl ⟨_, Sum.inr (nmS "s" q), .inl (e _ _ hd), rfl, b.symm⟩⟩
  · exact .inr ⟨a, r, c, fun H1 e => .inl ⟨_, Sum.inr (nmS "s" q), .inl (e _ _ hd), rfl, b.symm⟩⟩
theorem ev_inKs (hy : Ev ty σ H (.str (nmS "s" q))) (hd : Ev td σ H (.ref d)) (h : KsAt H d J F) (hJ : ∀ j ∈ J, j < 24) (hq : q < 24) : Ev (tDIn ty td) σ H (.bl (decide (q ∈ J))) := fun H1 e1 Q k => hy H1 e1 _ fun H2 e2 => hd H2 (e1.trans e2) _ fun H3 e3 => by
  rcases h.get hJ hq with ⟨a, b⟩ | ⟨a, r, _, b⟩
  · exact ⟨d, none, rfl, b H3 ((e1.trans e2).trans e3), by rw [decide_eq_false a] at k; exact k H3 (e2.trans e3)⟩
  · exact ⟨d, some (.ref r), rfl, b H3 ((e1.trans e2).trans e3), by rw [decide_eq_true a] at k; exact k H3 (e2.trans e3)⟩
theorem ev_ninKs (hy : Ev ty σ H (.str (nmS "s" q))) (hd : Ev td σ H (.ref d)) (h : KsAt H d J F) (hJ : ∀ j ∈ J, j < 24) (hq : q < 24) : Ev (tDNotIn ty td) σ H (.bl (!decide (q ∈ J))) := fun H1 e1 Q k => hy H1 e1 _ fun H2 e2 => hd H2 (e1.trans e2) _ fun H3 e3 => by
  rcases h.get hJ hq with ⟨a, b⟩ | ⟨a, r, _, b⟩
  · exact ⟨d, none, rfl, b H3 ((e1.trans e2).trans e3), by rw [decide_eq_false a] at k; exact k H3 (e2.trans e3)⟩
  · exact ⟨d, some (.ref r), rfl, b H3 ((e1.trans e2).trans e3), by rw [decide_eq_true a] at k; exact k H3 (e2.trans e3)⟩
theorem ks_new : KsAt (upd H d (.dK [])) d [] F := ⟨[], by rw [upd_same] <;> rfl, .nil⟩
theorem pkS_snoc : ∀ {J : List Nat} {rs : List Addr}, rs.length = J.length → pkS (J ++ [q]) (rs ++ [r]) = pkS J rs ++ [((Sum.inr (nmS "s" q) : Key), V.ref r)]
  | [], [], _ => rfl
  | [], _ :: _, h => by cases h
  | _ :: _, [], h => by cases h
  | j :: J, r2 :: rs, h => by
    rw [List.cons_append, List.cons_append, pkS_cons, pkS_cons, pkS_snoc (Nat.succ.inj h), List.cons_append]
theorem KsAt.snoc (h : KsAt H d J F) (hr : LN H r (F q)) (hq : q ∉ J) (hJ : ∀ j ∈ J, j < 24) (h24 : q < 24) (hz : J.length < 1000) : ∃ H2, DPut H d (.str (nmS "s" q)) (.ref r) H2 ∧ Xb d H H2 ∧ KsAt H2 d (J ++ [q]) F := by
  obtain ⟨rs, hd, h2⟩ := h
  have lr : rs.length = J.length := by rw [h2.len, List.length_map]
  refine ⟨_, DPut.k (k := Sum.inr (nmS "s" q)) hd (by rw [pkS_len lr]; exact sz_lt (by omega)), xb_lock, rs ++ [r], ?_, ?_⟩
  · rw [upd_same]
    rcases pkQ_get h2 hJ h24 with ⟨_, b⟩ | ⟨a, _⟩
    · rw [putK_new _ b, pkS_snoc lr]
    · exact absurd a hq
  · rw [List.map_append]
    exact Paired.snoc (xd_lr xb_lock hd h2) (xd_ln xb_lock hd hr)
/-- d[name] = a new list -/
theorem s_dputKs (ht : EvL tv σ H ((F q).map nV)) (ho : ∀ H1, Ex H H1 → Ev td σ H1 (.ref d)) (hi : ∀ H1, Ex H H1 → Ev ty σ H1 (.str (nmS "s" q))) (hP : KsAt H d J F) (hn : q ∉ J) (hJ : ∀ j ∈ J, j < 24) (h24 : q < 24) (hz : J.length < 1000)
    (k : ∀ H4, Xb d H H4 → KsAt H4 d (J ++ [q]) F → D.nx σ H4) : sDPut td ty tv D σ H :=
  ht H (Ex.refl H) _ fun r H1 _ e1 hr => ho H1 e1 H1 (Ex.refl _) _ fun H2 e2 => hi H2 (e1.trans e2) H2 (Ex.refl _) _ fun H3 e3 => by
    have e := (e1.trans e2).trans e3
    obtain ⟨H4, p1, x, p2⟩ := (hP.up e).snoc (LN.up (LN.up hr e2) e3) hn hJ h24 hz
    exact ⟨d, H4, rfl, p1, k H4 (fun a u ha hu => x a u ha (e _ _ hu)) p2⟩
end
/-! sorted(d) of a dict with names as keys -/
def rSrtS : List V → Hp → VK → Prop := fun xs H Q => ∃ (a : Addr) (kvs : List (Key × V)) (ks : List Str), xs = [.ref a] ∧ Rd H a (.dK kvs) ∧ kvs.map (·.1) = ks.map Sum.inr ∧ ks.length < 64 ∧ ∀ (ys : List Str) (p : Addr), ys.Perm ks → sortedS ys = true → H p = none → Q (.ref p) (upd H p (.lst (ys.map V.str)))
theorem call_srtS {X : Cx} (hc : X.calm = true) : CallR X (.builtin "sorted") rSrtS := call_sortedD hc
end Mx
namespace Mx
open PySem PySem.Spec PyProof.Rows L2 Evl
/-! numbers in ascending order; dicts from numbers to flat values -/
def srtN (S : List Nat) : List Nat := S.mergeSort fun a b => decide (a ≤ b)
theorem srtN_perm (S : List Nat) : (srtN S).Perm S := List.mergeSort_perm _ _
theorem srtN_pair (S : List Nat) : (srtN S).Pairwise (· ≤ ·) := by
  have h := List.pairwise_mergeSort (le := fun a b : Nat => decide (a ≤ b)) (fun a b c h1 h2 => by
    have h1 := of_decide_eq_true h1
    have h2 := of_decide_eq_true h2
    exact decide_eq_true (by omega)) (fun a b => by
    rcases Nat.le_total a b with h | h
    · rw [decide_eq_true h] <;> rfl
    · rw [decide_eq_true h, Bool.or_true]) S
  exact h.imp fun h => of_decide_eq_true h
theorem srtN_int {S : List Nat} {ys : List Int} (hp : ys.Perm (S.map fun n : Nat => (n : Int))) (hs : ys.Pairwise (· ≤ ·)) : ys = (srtN S).map fun n : Nat => (n : Int) :=
  srt_uniq hp hs ((srtN_perm S).map _) (List.Pairwise.map _ (fun a b (h : a ≤ b) => Int.ofNat_le.mpr h) (srtN_pair S))
def WnAt (H : Hp) (d : Addr) (S : List Nat) : Prop := ∃ kvs, H d = some (.dK kvs) ∧ kvs.map (·.1) = (S.map fun n : Nat => (n : Int)).map Sum.inl ∧ ∀ p ∈ kvs, flatB p.2 = true
section
variable {K : PySem.W.Frag} {σ : L2.St} {H H' : Hp} {ta td ty tv : TE} {d : Addr} {S : List Nat} {D : Ends}
theorem WnAt.up (h : WnAt H d S) (e : Ex H H') : WnAt H' d S := by
  obtain ⟨kvs, h1, h2, h3⟩ := h
  exact ⟨kvs, e _ _ h1, h2, h3⟩
theorem wn_new : WnAt (upd H d (.dK [])) d [] := ⟨[], upd_same, rfl, fun p hp => absurd hp List.not_mem_nil⟩
theorem el_srtW (hW : WnAt H d S) (h : Ev ta σ H (.ref d)) (hl : S.length < 64) : EvL (tCB rSrtD (tCons ta tNil)) σ H ((srtN S).map nV) := fun H1 e Q k => by
  obtain ⟨kvs, h1, h2, h3⟩ := hW
  refine eso_sorted h (.inl h1) h2 (by rw [List.length_map]; exact hl) H1 e _ fun xs p H2 gx np e2 hp => ?_
  obtain ⟨ys, rfl, a, b⟩ := gx
  rw [srtN_int a b, List.map_map] at hp
  exact k p H2 np e2 hp
theorem wn_keys {kvs : List (Key × V)} {n : Nat} {v : V} (h : kvs.map (·.1) = (S.map fun n : Nat => (n : Int)).map Sum.inl) (hv : flatB v = true) (hf : ∀ p ∈ kvs, flatB p.2 = true) :
    (putK kvs (Sum.inl (n : Int)) v).map (·.1) = ((if n ∈ S then S else S ++ [n]).map fun n : Nat => (n : Int)).map Sum.inl ∧ ∀ p ∈ putK kvs (Sum.inl (n : Int)) v, flatB p.2 = true := by
  have hany : (kvs.any fun kv => decide (kv.1 = (Sum.inl (n : Int) : Key))) = decide (n ∈ S) := by
    have : (kvs.any fun kv => decide (kv.1 = (Sum.inl (n : Int) : Key))) = ((kvs.map (·.1)).any fun k => decide (k = (Sum.inl (n : Int) : Key))) := by rw [List.any_map] <;> rfl
    rw [this, h, Bool.eq_iff_iff, List.any_eq_true, decide_eq_true_eq]
    constructor
    · rintro ⟨k, hk, e⟩
      obtain ⟨i, hi, rfl⟩ := List.mem_map.mp hk
      obtain ⟨m, hm, rfl⟩ := List.mem_map.mp hi
      have := Int.ofNat.inj (Sum.inl.inj (of_decide_eq_true e))
      exact this ▸ hm
    · intro hn
      exact ⟨_, List.mem_map.mpr ⟨_, List.mem_map.mpr ⟨n, hn, rfl⟩, rfl⟩, decide_eq_true rfl⟩
  unfold putK
  rw [hany]
  by_cases hn : n ∈ S
  · rw [decide_eq_true hn, if_pos rfl, if_pos hn]
    refine ⟨?_, fun p hp => ?_⟩
    · rw [List.map_map, ← h]
      refine List.map_congr_left fun kv _ => ?_
      show (if kv.1 = (Sum.inl (n : Int) : Key) then (kv.1, v) else kv).1 = kv.1
      split <;> rfl
    · obtain ⟨kv, hk, rfl⟩ := List.mem_map.mp hp
      by_cases q : kv.1 = (Sum.inl (n : Int) : Key)
      · rw [if_pos q]
        exact hv
      · rw [if_neg q]
        exact hf kv hk
  · rw [decide_eq_false hn, if_neg Bool.false_ne_true, if_neg hn]
    refine ⟨by rw [List.map_append, List.map_append, List.map_append, h] <;> rfl, fun p hp => ?_⟩
    rcases List.mem_append.mp hp with hp | hp
    · exact hf p hp
    · rw [List.mem_singleton.mp hp]
      exact hv
/-- d[n] = a flat value -/
theorem s_dputW {n : Nat} {v : V} (hv : Ev tv σ H v) (ho : Ev td σ H (.ref d)) (hi : Ev ty σ H (nV n)) (hP : WnAt H d S) (hf : flatB v = true) (hz : S.length < 1000)
    (k : ∀ H4, Xb d H H4 → WnAt H4 d (if n ∈ S then S else S ++ [n]) → D.nx σ H4) : sDPut td ty tv D σ H :=
  hv H (Ex.refl H) _ fun H1 e1 => ho H1 e1 _ fun H2 e2 => hi H2 (e1.trans e2) _ fun H3 e3 => by
    have e := (e1.trans e2).trans e3
    obtain ⟨kvs, h1, h2, h3⟩ := hP.up e
    have lk : kvs.length = S.length := by
      have := congrArg List.length h2
      rwa [List.length_map, List.length_map, List.length_map] at this
    obtain ⟨a, b⟩ := wn_keys (n := n) (v := v) h2 hf h3
    exact ⟨d, _, rfl, DPut.k (k := Sum.inl (n : Int)) h1 (by rw [lk]; exact sz_lt (by omega)), k _ (fun c u hc hu => by rw [upd_ne hc]; exact e _ _ hu) ⟨_, upd_same, a, b⟩⟩
end
end Mx

set_option Elab.async false
set_option linter.all false
set_option maxRecDepth 100000
set_option maxHeartbeats 4000000
namespace Mx
open PySem PySem.Spec PyProof.Rows L2 Evl
/-! double comprehensions over names: data with a test, booleans over the keys of a dict -/
section
variable {K : PySem.W.Frag} {σ : L2.St} {H H' H0 : Hp} {tl tin te ta tb : TE} {tt : TT} {a u d : Addr} {J U : List Nat}
theorem walk_w {I : It} {n : Nat} {G : Hp → Prop} {Y : Nat → Hp → V → Hp → Prop} {B : V → Hp → (Hp → Prop) → Prop} {Qd : Hp → Prop} (w : Walk I n G Y) (Pv : Nat → Hp → Prop) (h0 : Pv 0 H0) (hG : ∀ i H, i ≤ n → Pv i H → G H) (hs : ∀ i x H H', i < n → Pv i H → Y i H x H' → B x H' (Pv (i + 1))) (hd : ∀ H, Pv n H → Qd H) :
    ∃ W : Nat → Nat → Hp → Prop, (∃ m, W 0 m H0) ∧ ∀ i m H, W i m H → (I.stop i H ∧ Qd H) ∨ (I.go i H ∧ ∃ N : Hp → Prop, (∀ H', N H' → ∃ m', m' < m ∧ W (i + 1) m' H') ∧ ∀ x H', I.yld i H x H' → B x H' N) := by
  refine ⟨fun i m H => m = n - i ∧ i ≤ n ∧ Pv i H, ⟨n, by simp, Nat.zero_le _, h0⟩, ?_⟩
  rintro i m H ⟨rfl, hi, p⟩
  have q := hG i H hi p
  by_cases hlt : i < n
  · exact .inr ⟨w.goes i H hlt q, Pv (i + 1), fun H' p' => ⟨n - (i + 1), by omega, rfl, hlt, p'⟩, fun x H' y => hs i x H H' hlt p (w.yields i H x H' hlt q y)⟩
  · have e : i = n := by omega
    subst e
    exact .inl ⟨w.stops H q, hd H p⟩
theorem cq_turn2 {σ2 : L2.St} {Dl : Addr} {ds : List PyData} {x : PyData} {b : Bool} (hp : Cq H Dl ds H') (hz : ds.length < 100000) (ht : EvT tt σ2 H b) (he : b = true → EvDT te σ2 H x) :
    tt σ2 H' fun b' H3 => if b' = true then te σ2 H3 fun y H4 => ∃ acc, H4 Dl = some (.lst acc) ∧ acc.length < sizeLine ∧ Cq H Dl (if b = true then ds ++ [x] else ds) (upd H4 Dl (.lst (acc ++ [y]))) else Cq H Dl (if b = true then ds ++ [x] else ds) H3 := by
  obtain ⟨p1, p2, us, p3, p4⟩ := hp
  refine ht H' p2 _ fun H3 e3 => ?_
  cases b with
  | false =>
    rw [if_neg Bool.false_ne_true, if_neg Bool.false_ne_true]
    exact ⟨p1, p2.trans e3, us, e3 _ _ p3, p4.up (Tk.of e3)⟩
  | true =>
    rw [if_pos rfl, if_pos rfl]
    refine he rfl H3 (p2.trans e3) _ fun y H4 e4 dy => ⟨us, e4 _ _ (e3 _ _ p3), sz_lt (by rw [p4.len]; omega), p1, Ex.mut ((p2.trans e3).trans e4) p1, us ++ [y], upd_same, ?_⟩
    have t : Tk H4 (upd H4 Dl (.lst (us ++ [y]))) := Tk.lst (e4 _ _ (e3 _ _ p3))
    exact DpTs.snoc (dy.up t) ((p4.up (Tk.of (e3.trans e4))).up t)
def twoD (g : Nat → Nat → Bool) (f : Nat → Nat → PyData) (U : List Nat) (q : Nat) : List PyData := (U.filter (g q)).map (f q)
theorem twoD_len (g : Nat → Nat → Bool) (f : Nat → Nat → PyData) (U : List Nat) : ∀ J : List Nat, (J.flatMap (twoD g f U)).length ≤ J.length * U.length
  | [] => Nat.zero_le _
  | q :: J => by
    rw [List.flatMap_cons, List.length_append, List.length_cons, Nat.succ_mul]
    have := twoD_len g f U J
    have : (twoD g f U q).length ≤ U.length := by
      unfold twoD
      rw [List.length_map]
      exact List.length_filter_le _ _
    omega
theorem elt_two {tt1 : TT} {j j1 : Nat} {vs vs1 : List Nat} {g : Nat → Nat → Bool} {f : Nat → Nat → PyData} (h : Ev tl σ H (.ref a)) (hx : H a = some (.lst (nmJ J))) (hU : LN H u U) (hz : J.length * U.length + U.length ≤ 40000)
    (hw1 : ∀ x, wipe ((wipe σ vs).set j (some x)) vs = wipe σ vs) (hw2 : ∀ x y, wipe ((wipe ((wipe σ vs).set j (some x)) vs1).set j1 (some y)) vs1 = wipe ((wipe σ vs).set j (some x)) vs1)
    (hv : ∀ x H', Ev tin ((wipe σ vs).set j (some x)) H' (.ref u))
    (ht : ∀ q t H1, Ex H H1 → q ∈ J → t ∈ U → EvT tt1 ((wipe ((wipe σ vs).set j (some (.str (nmS "s" q)))) vs1).set j1 (some (nV t))) H1 (g q t))
    (he : ∀ q t H1, Ex H H1 → q ∈ J → t ∈ U → g q t = true → EvDT te ((wipe ((wipe σ vs).set j (some (.str (nmS "s" q)))) vs1).set j1 (some (nV t))) H1 (f q t)) :
    EvLT (tLc2 (iList K tl) (gName j) tYes (iList K tin) (gName j1) tt1 te vs vs1) σ H (J.flatMap (twoD g f U)) := by
  intro H0 e Q k
  have len : (nmJ J).length = J.length := by unfold nmJ; rw [List.length_map]
  refine h H0 e _ fun H1 e1 => ⟨a, rfl, ⟨_, sq_of ((e.trans e1) _ _ hx)⟩, fun Dl hD => ?_⟩
  refine walk_l (K := K) (a := a) (xs := nmJ J) (fun i H' => Cq H1 Dl ((J.take i).flatMap (twoD g f U)) H') ⟨hD, Ex.new hD, [], upd_same, by rw [List.take_zero]; exact .nil⟩ (fun i H' _ p => sq_of (p.2.1 _ _ ((e.trans e1) _ _ hx))) (fun i x H' hx1 p => ?_) (fun H' p => ?_)
  · unfold nmJ at hx1
    rw [List.getElem?_map] at hx1
    cases hq : J[i]? with
    | none => rw [hq] at hx1; cases hx1
    | some q =>
      rw [hq] at hx1
      obtain rfl := Option.some.inj hx1
      have hqm := List.mem_of_getElem? hq
      have hil := (List.getElem?_eq_some_iff.mp hq).1
      refine ⟨hw1 _, tyes_of ((hv _ H') H' (Ex.refl _) _ fun H3 e3 => ⟨u, rfl, ⟨_, sq_of (e3 _ _ (p.2.1 _ _ ((e.trans e1) _ _ hU)))⟩, ?_⟩)⟩
      have l1 := twoD_len g f U (J.take i)
      have l2 : (J.take i).length * U.length ≤ J.length * U.length := Nat.mul_le_mul_right _ (List.length_take_le' _ _)
      refine walk_l (K := K) (a := u) (xs := U.map nV) (fun jj H' => Cq H1 Dl ((J.take i).flatMap (twoD g f U) ++ twoD g f (U.take jj) q) H') ?_ (fun jj H' _ z => sq_of (z.2.1 _ _ ((e.trans e1) _ _ hU))) (fun jj y H5 hy z => ?_) (fun H' z => ?_)
      · obtain ⟨p1, p2, us, p3, p4⟩ := p
        refine ⟨p1, p2.trans e3, us, e3 _ _ p3, ?_⟩
        show DpTs _ _ (_ ++ [])
        rw [List.append_nil]
        exact p4.up (Tk.of e3)
      · obtain ⟨hjj, rfl⟩ := nat_of_get hy
        have htm := List.mem_of_getElem? (Py.at0_get hjj)
        refine ⟨hw2 _ _, ?_⟩
        have l3 : (twoD g f (U.take jj) q).length ≤ U.length := by
          unfold twoD
          rw [List.length_map]
          exact Nat.le_trans (List.length_filter_le _ _) (List.length_take_le' _ _)
        have := cq_turn2 (σ2 := (wipe ((wipe σ vs).set j (some (.str (nmS "s" q)))) vs1).set j1 (some (nV (Py.at0 U jj)))) (b := g q (Py.at0 U jj)) (x := f q (Py.at0 U jj)) z (by rw [List.length_append]; omega) (ht q _ H1 (e.trans e1) hqm htm) (he q _ H1 (e.trans e1) hqm htm)
        have e5 : (if g q (Py.at0 U jj) = true then (J.take i).flatMap (twoD g f U) ++ twoD g f (U.take jj) q ++ [f q (Py.at0 U jj)] else (J.take i).flatMap (twoD g f U) ++ twoD g f (U.take jj) q) = (J.take i).flatMap (twoD g f U) ++ twoD g f (U.take (jj + 1)) q := by
          have : twoD g f (U.take (jj + 1)) q = if g q (Py.at0 U jj) = true then twoD g f (U.take jj) q ++ [f q (Py.at0 U jj)] else twoD g f (U.take jj) q := by
            unfold twoD
            rw [List.take_add_one, Py.at0_get hjj, List.filter_append, List.map_append]
            show _ ++ (List.filter (g q) [Py.at0 U jj]).map (f q) = _
            by_cases hg : g q (Py.at0 U jj) = true
            · rw [if_pos hg, List.filter_cons_of_pos hg] <;> rfl
            · rw [if_neg hg, List.filter_cons_of_neg hg, List.filter_nil, List.map_nil, List.append_nil]
          rw [this]
          split
          · rw [List.append_assoc]
          · rfl
        rw [e5] at this
        exact this
      · rw [List.length_map, List.take_length] at z
        have : (J.take (i + 1)).flatMap (twoD g f U) = (J.take i).flatMap (twoD g f U) ++ twoD g f U q := by
          rw [List.take_add_one, hq, List.flatMap_append]
          show _ ++ List.flatMap (twoD g f U) [q] = _
          simp
        rw [this]
        exact z
  · rw [len, List.take_length] at p
    obtain ⟨p1, p2, us, p3, p4⟩ := p
    exact k Dl us H' (fresh_back e1 p1) (e1.trans p2) p3 p4
/-- all pairs (a name, a key of a dict), d locked -/
theorem el_twoK {j j1 : Nat} {vs vs1 : List Nat} {g : Nat → Nat → Bool} {S : List Nat} (h : ∀ H1, Ev tl σ H1 (.ref a)) (hx : H a = some (.tup (nmJ J))) (hd : WnAt H d S) (hz : J.length * S.length + S.length ≤ 40000)
    (hw1 : ∀ x, wipe ((wipe σ vs).set j (some x)) vs = wipe σ vs) (hw2 : ∀ x y, wipe ((wipe ((wipe σ vs).set j (some x)) vs1).set j1 (some y)) vs1 = wipe ((wipe σ vs).set j (some x)) vs1)
    (hv : ∀ x H', Ev tin ((wipe σ vs).set j (some x)) H' (.ref d))
    (he : ∀ q t H1, Xb d H H1 → q ∈ J → t ∈ S → Ev te ((wipe ((wipe σ vs).set j (some (.str (nmS "s" q)))) vs1).set j1 (some (nV t))) H1 (.bl (g q t))) :
    EvL (tLockE (tLc2 (iTup K tl) (gName j) tYes (iKeys tin) (gName j1) tYes te vs vs1)) σ H ((J.flatMap fun q => S.map (g q)).map V.bl) := by
  intro H0 e Q k
  obtain ⟨kvs, d1, d2, _⟩ := hd.up e
  have lk : kvs.length = S.length := by
    have := congrArg List.length d2
    rwa [List.length_map, List.length_map, List.length_map] at this
  have len : (nmJ J).length = J.length := by unfold nmJ; rw [List.length_map]
  have had : a ≠ d := fun z => by
    have := e _ _ hx
    rw [z, d1] at this
    cases this
  refine ⟨d, .dK kvs, d1, trivial, fun od => ?_⟩
  have bl : ∀ A : List Nat, (A.flatMap fun q => S.map (g q)).length = A.length * S.length := fun A => by
    induction A with
    | nil => simp
    | cons q A ih => rw [List.flatMap_cons, List.length_append, List.length_map, ih, List.length_cons, Nat.succ_mul, Nat.add_comm]
  refine h _ _ (Ex.refl _) _ fun H1 e1 => ?_
  have l0 : Xb d H H1 := fun b o hb hh => e1 _ _ (by rw [upd_ne hb]; exact e _ _ hh)
  have l1 : H1 d = some (.frz od (.dK kvs)) := e1 _ _ upd_same
  refine ⟨a, rfl, ⟨_, st_of (l0 _ _ had hx)⟩, fun Dl hD => ?_⟩
  have hDd : d ≠ Dl := ne_of_none l1 hD
  refine walk_t (K := K) (a := a) (xs := nmJ J) (fun i H' => Ex H1 H' ∧ H' Dl = some (.lst (((J.take i).flatMap fun q => S.map (g q)).map V.bl))) ⟨Ex.new hD, by rw [upd_same, List.take_zero] <;> rfl⟩ (fun i H' _ p => st_of (p.1 _ _ (l0 _ _ had hx))) (fun i x H' hx1 p => ?_) (fun H' p => ?_)
  · unfold nmJ at hx1
    rw [List.getElem?_map] at hx1
    cases hq : J[i]? with
    | none => rw [hq] at hx1; cases hx1
    | some q =>
      rw [hq] at hx1
      obtain rfl := Option.some.inj hx1
      have hqm := List.mem_of_getElem? hq
      have hbi : ((J.take i).flatMap fun q => S.map (g q)).length ≤ J.length * S.length := by
        rw [bl]
        exact Nat.mul_le_mul_right _ (List.length_take_le' _ _)
      refine ⟨hw1 _, tyes_of ((hv _ H') H' (Ex.refl _) _ fun H3 e3 => ⟨d, od, rfl, .inl ⟨kvs, e3 _ _ (p.1 _ _ l1), ?_⟩⟩)⟩
      refine walk_w (walk_keys (kvs := kvs)) (fun jj H' => Ex H1 H' ∧ H' Dl = some (.lst (((J.take i).flatMap (fun q => S.map (g q)) ++ (S.take jj).map (g q)).map V.bl))) ⟨p.1.trans e3, by rw [List.take_zero, List.map_nil, List.append_nil]; exact e3 _ _ p.2⟩ (fun jj H' _ z => z.1 _ _ l1) (fun jj y H5 H6 hjj z yy => ?_) (fun H' z => ?_)
      · obtain ⟨rfl, kk, w, hkv, rfl⟩ := yy
        obtain ⟨z1, z2⟩ := z
        have hjS : jj < S.length := by omega
        have hk2 : kk = Sum.inl ((Py.at0 S jj : Nat) : Int) := by
          have h1 : (kvs.map (·.1))[jj]? = some kk := by rw [List.getElem?_map, hkv] <;> rfl
          rw [d2, List.getElem?_map, List.getElem?_map, Py.at0_get hjS] at h1
          exact (Option.some.inj h1).symm
        subst hk2
        have htm := List.mem_of_getElem? (Py.at0_get hjS)
        have xx : Xb d H H6 := fun b o hb hh => z1 _ _ (l0 b o hb hh)
        refine ⟨hw2 _ _, tyes_of (he q _ H6 xx hqm htm H6 (Ex.refl _) _ fun H7 e7 => ⟨_, e7 _ _ z2, sz_lt (by rw [List.length_map, List.length_append, List.length_map, List.length_take]; omega), Ex.mut (z1.trans e7) hD, ?_⟩)⟩
        rw [upd_same, List.take_add_one, Py.at0_get hjS, List.map_append (l₁ := S.take jj), ← List.append_assoc, List.map_append (l₁ := _ ++ _)] <;> rfl
      · refine ⟨z.1, ?_⟩
        have h2 := z.2
        rw [lk, List.take_length] at h2
        have : (J.take (i + 1)).flatMap (fun q => S.map (g q)) = (J.take i).flatMap (fun q => S.map (g q)) ++ S.map (g q) := by
          rw [List.take_add_one, hq, List.flatMap_append]
          show _ ++ List.flatMap (fun q => S.map (g q)) [q] = _
          simp
        rw [this]
        exact h2
  · rw [len, List.take_length] at p
    refine ⟨p.1 _ _ l1, k Dl _ ?_ ?_ ?_⟩
    · cases hn : H0 Dl with
      | none => rfl
      | some o =>
        rw [e1 _ _ (by rw [upd_ne hDd.symm]; exact hn)] at hD
        cases hD
    · intro b o hb
      by_cases z : b = d
      · rw [z, upd_same, ← d1, ← z]
        exact hb.symm ▸ rfl
      · rw [upd_ne z]
        exact p.1 _ _ (e1 _ _ (by rw [upd_ne z]; exact hb))
    · rw [upd_ne hDd.symm]
      exact p.2
/-- sorted({t: True for t in ts}) of a list without doubles -/
theorem el_srtDc {T : List Nat} {j : Nat} {vs : List Nat} {tk tv : TE} (h : Ev tl σ H (.ref a)) (hT : LN H a T) (hn : T.Nodup) (hl : T.length < 64) (hw : ∀ x, wipe ((wipe σ vs).set j (some x)) vs = wipe σ vs)
    (hk : ∀ t H1, Ev tk ((wipe σ vs).set j (some (nV t))) H1 (nV t)) (hv : ∀ x H1, Ev tv ((wipe σ vs).set j (some x)) H1 (.bl true)) : EvL (tCB rSrtD (tCons (tDc (iList K tl) (gName j) tYes tk tv vs) tNil)) σ H ((srtN T).map nV) := fun H0 e Q k =>
  h H0 e _ fun H1 e1 => ⟨a, rfl, ⟨_, sq_of ((e.trans e1) _ _ hT)⟩, fun Dl hD => by
    refine dc_listM (K := K) (a := a) (xs := T.map nV) (fun i H' => Ex H1 H' ∧ ∃ kvs, H' Dl = some (.dK kvs) ∧ kvs.map (·.1) = ((T.take i).map fun n : Nat => (n : Int)).map Sum.inl ∧ ∀ p ∈ kvs, flatB p.2 = true) ⟨Ex.new hD, [], upd_same, by rw [List.take_zero] <;> rfl, fun p hp => absurd hp List.not_mem_nil⟩ (fun i H' _ p => sq_of (p.1 _ _ ((e.trans e1) _ _ hT))) (fun i x H' hx p => ?_) (fun H' p => ?_)
    · obtain ⟨hi, rfl⟩ := nat_of_get hx
      obtain ⟨p1, kvs, p2, p3, p4⟩ := p
      refine ⟨hw _, tyes_of (hk _ H' H' (Ex.refl _) _ fun H3 e3 => hv _ H3 H3 (Ex.refl _) _ fun H4 e4 => ⟨kvs, Sum.inl ((Py.at0 T i : Nat) : Int), rfl, (e3.trans e4) _ _ p2, ?_, Ex.mut (p1.trans (e3.trans e4)) hD, _, upd_same, ?_⟩)⟩
      · have := congrArg List.length p3
        rw [List.length_map, List.length_map, List.length_map, List.length_take] at this
        exact sz_lt (by omega)
      · obtain ⟨q1, q2⟩ := wn_keys (n := Py.at0 T i) (v := .bl true) p3 rfl p4
        refine ⟨?_, q2⟩
        have hni : Py.at0 T i ∉ T.take i := by
          have h1 := hn
          rw [← List.take_append_drop i T, List.drop_eq_getElem_cons hi] at h1
          exact fun z => (List.nodup_append.mp h1).2.2 _ z _ (List.mem_cons_self ..) (Py.at0_of (List.getElem?_eq_getElem hi))
        rw [if_neg hni] at q1
        rw [q1, List.take_add_one, Py.at0_get hi] <;> rfl
    · rw [List.length_map, List.take_length] at p
      obtain ⟨p1, kvs, p2, p3, _⟩ := p
      refine ⟨Dl, kvs, T.map fun n : Nat => (n : Int), rfl, .inl p2, p3, by rw [List.length_map]; exact hl, fun ys p h1 h2 np => ?_⟩
      have e3 : Ex H0 H' := e1.trans p1
      have := k p (upd H' p (.lst (ys.map V.int))) (fresh_back e3 np) (e3.trans (Ex.new np)) (by rw [upd_same, srtN_int h1 h2, List.map_map] <;> rfl)
      exact this⟩
theorem el_srtT {T : List Nat} (h : Ev ta σ H (.ref a)) (hT : LN H a T) (hl : T.length < 64) : EvL (tCB (rSorted K) (tCons ta tNil)) σ H ((srtN T).map nV) := fun H1 e Q k =>
  h H1 e _ fun H2 e2 => ⟨a, T.map fun n : Nat => (n : Int), rfl, by rw [List.map_map]; exact sq_of ((e.trans e2) _ _ hT), by rw [List.length_map]; exact hl, fun ys p h1 h2 np => k p _ (fresh_back e2 np) (e2.trans (Ex.new np)) (by rw [upd_same, srtN_int h1 h2, List.map_map] <;> rfl)⟩
theorem et_truT {p : Addr} {xs : List V} (h : Ev te σ H (.ref p)) (hs : SqT K H p xs) : EvT (fun σ H Q => te σ H fun x H1 => ∃ k, TruV K x H1 k ∧ Q k H1) σ H (!xs.isEmpty) := fun H1 e Q q =>
  h H1 e _ fun H2 e2 => ⟨_, .inr (.inl ⟨xs, ex_t (e.trans e2) hs, rfl⟩), q H2 e2⟩
theorem elt_nmU {J : List Nat} {j : Nat} {vs : List Nat} {g : Nat → Bool} {f : Nat → PyData} (h : EvU tl σ H (nmJ J)) (hJ : ∀ j ∈ J, j < 24) (hn : J.length ≤ 40000) (hw : ∀ x, wipe ((wipe σ vs).set j (some x)) vs = wipe σ vs)
    (ht : ∀ q H1, Ex H H1 → q ∈ J → EvT tt ((wipe σ vs).set j (some (.str (nmS "s" q)))) H1 (g q)) (he : ∀ q H1, Ex H H1 → q ∈ J → g q = true → EvDT te ((wipe σ vs).set j (some (.str (nmS "s" q)))) H1 (f q)) : EvLT (tLc (iTup K tl) (gName j) tt te vs) σ H ((J.filter g).map f) := fun H0 e Q q =>
  h H0 e _ fun a H1 na e1 ha => elt_nmT (tl := tC (.ref a)) ev_c (st_of ha) hJ hn hw (fun q H2 e2 => ht q H2 ((e.trans e1).trans e2)) (fun q H2 e2 => he q H2 ((e.trans e1).trans e2)) H1 (Ex.refl _) Q fun p us H2 np e2 hp du => q p us H2 (fresh_back e1 np) (e1.trans e2) hp du
theorem nms_nmJ2 (n : Nat) : ((List.range n).map (nmS "s")).map V.str = nmJ (List.range n) := by
  unfold nmJ
  rw [List.map_map] <;> rfl
theorem s_forNLn {xs : List V} {j : Nat} {tu : TS} {D : Ends} (h : EvL tl σ H xs) (Pv : Addr → Nat → L2.St → Hp → Prop) (h0 : ∀ p H1, H p = none → Ex H H1 → H1 p = some (.lst xs) → Pv p 0 σ H1) (hl : ∀ p i σ' H', i ≤ xs.length → Pv p i σ' H' → SqL K H' p xs)
    (hs : ∀ p i x σ' H', xs[i]? = some x → Pv p i σ' H' → tu { D with nx := Pv p (i + 1), ct := Pv p (i + 1), bk := D.nx } (σ'.set j (some x)) H') (hd : ∀ p σ' H', Pv p xs.length σ' H' → D.nx σ' H') : tFor (iList K tl) (gName j) tu D σ H :=
  q_forNLn (D := D) (tz := fun D σ H => D.nx σ H) h Pv h0 hl hs hd
theorem KsAt.congr {F F' : Nat → List Nat} (h : KsAt H d J F) (e : ∀ q ∈ J, F q = F' q) : KsAt H d J F' := by
  obtain ⟨rs, h1, h2⟩ := h
  rw [List.map_congr_left e] at h2
  exact ⟨rs, h1, h2⟩
/-! sorted(d) of names: their numbers in ascending order (below 10) -/
theorem nm_lt : ∀ a, a < 10 → ∀ b, b < 10 → ltCps (nmS "s" b).cps.toList (nmS "s" a).cps.toList = decide (b < a) := by decide +kernel
theorem srt_nms : ∀ {L : List Nat}, (∀ j ∈ L, j < 10) → sortedS (L.map (nmS "s")) = true → L.Pairwise (· ≤ ·)
  | [], _, _ => .nil
  | [a], _, _ => List.pairwise_singleton _ _
  | a :: b :: L, h, hs => by
    have h1 : (!ltCps (nmS "s" b).cps.toList (nmS "s" a).cps.toList && sortedS ((b :: L).map (nmS "s"))) = true := hs
    rw [Bool.and_eq_true_iff, nm_lt a (h a (List.mem_cons_self ..)) b (h b (List.mem_cons_of_mem _ (List.mem_cons_self ..)))] at h1
    have ih := srt_nms (L := b :: L) (fun j hj => h j (List.mem_cons_of_mem _ hj)) h1.2
    have hab : a ≤ b := by
      have := h1.1
      rw [Bool.not_eq_true', decide_eq_false_iff_not] at this
      omega
    refine List.pairwise_cons.mpr ⟨fun c hc => ?_, ih⟩
    rcases List.mem_cons.mp hc with rfl | hc
    · exact hab
    · exact Nat.le_trans hab ((List.pairwise_cons.mp ih).1 c hc)
theorem srtN_uniq {L S : List Nat} (hp : L.Perm S) (hs : L.Pairwise (· ≤ ·)) : L = srtN S :=
  List.Perm.eq_of_pairwise (le := (· ≤ ·)) (fun a b _ _ h1 h2 => Nat.le_antisymm h1 h2) hs (srtN_pair S) (hp.trans (srtN_perm S).symm)
theorem perm_nms {J : List Nat} {ys : List Str} (hJ : ∀ j ∈ J, j < 24) (hp : ys.Perm (J.map (nmS "s"))) : ∃ L : List Nat, ys = L.map (nmS "s") ∧ L.Perm J := by
  refine ⟨ys.map fun s => inS (.str s), ?_, ?_⟩
  · rw [List.map_map]
    refine (List.map_id' ys).symm.trans (List.map_congr_left fun s hs => ?_)
    obtain ⟨j, hj, rfl⟩ := List.mem_map.mp (hp.mem_iff.mp hs)
    show nmS "s" j = nmS "s" (inS (.str (nmS "s" j)))
    rw [inS_at j (hJ j hj)]
  · have := hp.map fun s => inS (.str s)
    rw [List.map_map] at this
    refine this.trans (List.Perm.of_eq ?_)
    refine (List.map_congr_left fun j hj => ?_).trans (List.map_id' J)
    show inS (.str (nmS "s" j)) = j
    exact inS_at j (hJ j hj)
theorem el_srtK {J : List Nat} {F : Nat → List Nat} (hK : KsAt H d J F) (h : Ev ta σ H (.ref d)) (hJ : ∀ j ∈ J, j < 10) (hl : J.length < 64) : EvL (tCB rSrtS (tCons ta tNil)) σ H (nmJ (srtN J)) := fun H1 e Q k => by
  obtain ⟨rs, h1, h2⟩ := hK
  have lr : rs.length = J.length := by rw [h2.len, List.length_map]
  refine h H1 e _ fun H2 e2 => ⟨d, pkS J rs, J.map (nmS "s"), rfl, .inl ((e.trans e2) _ _ h1), pkS_keys lr, by rw [List.length_map]; exact hl, fun ys p hp hs np => ?_⟩
  obtain ⟨L, rfl, hL⟩ := perm_nms (fun j hj => Nat.lt_trans (hJ j hj) (by decide)) hp
  have e1 := srtN_uniq hL (srt_nms (fun j hj => hJ j (hL.mem_iff.mp hj)) hs)
  refine k p _ (fresh_back e2 np) (e2.trans (Ex.new np)) ?_
  rw [upd_same, e1, List.map_map] <;> rfl
/-! three new things in a tuple -/
def EvGn (te : TE) (σ : L2.St) (H : Hp) (G : V → Hp → Prop) : Prop := ∀ H1, Ex H H1 → ∀ Q : VK, (∀ v H2, Ex H1 H2 → G v H2 → Q v H2) → te σ H1 Q
theorem q_asgG3 {t1 t2 t3 : TE} {G1 G2 G3 : V → Hp → Prop} {i : Nat} {D : Ends} {tz : TS} (h1 : EvGn t1 σ H G1) (h2 : EvGn t2 σ H G2) (h3 : EvGn t3 σ H G3) (u1 : ∀ v H H', Ex H H' → G1 v H → G1 v H') (u2 : ∀ v H H', Ex H H' → G2 v H → G2 v H') (u3 : ∀ v H H', Ex H H' → G3 v H → G3 v H')
    (k : ∀ t v1 v2 v3 H', Ex H H' → H' t = some (.tup [v1, v2, v3]) → G1 v1 H' → G2 v2 H' → G3 v3 H' → tz D (σ.set i (some (.ref t))) H') : tSeq (tAsg (tTup (tCons t1 (tCons t2 (tCons t3 tNil)))) (gName i)) tz D σ H :=
  h1 H (Ex.refl H) _ fun v1 H1 e1 g1 => h2 H1 e1 _ fun v2 H2 e2 g2 => h3 H2 (e1.trans e2) _ fun v3 H3 e3 g3 => ⟨by show 3 ≤ sizeLine; decide, fun t ht => k t v1 v2 v3 _ (((e1.trans e2).trans e3).trans (Ex.new ht)) upd_same (u1 _ _ _ ((e2.trans e3).trans (Ex.new ht)) g1) (u2 _ _ _ (e3.trans (Ex.new ht)) g2) (u3 _ _ _ (Ex.new ht) g3)⟩
theorem ev_eqTD3 {t1 t2 t3 : TE} {t : Addr} {v1 v2 v3 w1 w2 : V} {G3 : V → Hp → Prop} (ha : Ev ta σ H (.ref t)) (ht : H t = some (.tup [v1, v2, v3])) (h1 : Ev t1 σ H w1) (h2 : Ev t2 σ H w2) (h3 : EvGn t3 σ H G3) (u3 : ∀ v H H', Ex H H' → G3 v H → G3 v H')
    (hp : ∀ w3 H', Ex H H' → G3 w3 H' → L2.EqP K H' v1 w1 ∧ L2.EqP K H' v2 w2 ∧ L2.EqP K H' v3 w3) : Ev (tOp (L2.rEqTD K) ta (tTup (tCons t1 (tCons t2 (tCons t3 tNil))))) σ H (.bl true) := fun H1 e Q k =>
  ha H1 e _ fun H2 e2 => h1 H2 (e.trans e2) _ fun H3 e3 => h2 H3 ((e.trans e2).trans e3) _ fun H4 e4 => h3 H4 (((e.trans e2).trans e3).trans e4) _ fun w3 H5 e5 g => ⟨by show 3 ≤ sizeLine; decide, fun q hq => by
    have e05 := (((e.trans e2).trans e3).trans e4).trans e5
    have e6 : Ex H5 (upd H5 q (.tup [w1, w2, w3])) := Ex.new hq
    obtain ⟨a, b, c⟩ := hp w3 _ (e05.trans e6) (u3 _ _ _ e6 g)
    exact ⟨t, q, _, _, rfl, rfl, st_of ((e05.trans e6) _ _ ht), st_of upd_same, .cons a (.cons b (.cons c .nil)), k _ (((e2.trans e3).trans (e4.trans e5)).trans e6)⟩⟩
theorem eg_L {xs : List V} (h : EvL te σ H xs) : EvGn te σ H fun v H' => ∃ p, v = .ref p ∧ H' p = some (.lst xs) := fun H1 e Q k => h H1 e _ fun p H2 _ e2 hp => k _ H2 e2 ⟨p, rfl, hp⟩
theorem eg_dict {kvs : List (Key × V)} (h : Ev te σ H (.ref d)) (hd : H d = some (.dK kvs)) : EvGn (tCB (fun xs H Q => ∃ (a : Addr) (kvs : List (Key × V)), xs = [.ref a] ∧ Rd H a (.dK kvs) ∧ ∀ p, H p = none → Q (.ref p) (upd H p (.dK kvs))) (tCons te tNil)) σ H fun v H' => ∃ p, v = .ref p ∧ H' p = some (.dK kvs) := fun H1 e Q k =>
  h H1 e _ fun H2 e2 => ⟨d, kvs, rfl, .inl ((e.trans e2) _ _ hd), fun p np => k _ _ (e2.trans (Ex.new np)) ⟨p, rfl, upd_same⟩⟩
theorem eg_M {M : List (List Nat)} (h : EvM te σ H M) : EvGn te σ H fun v H' => ∃ p, v = .ref p ∧ MN H' p M := fun H1 e Q k => h H1 e _ fun p H2 _ e2 hp => k _ H2 e2 ⟨p, rfl, hp.mn⟩
theorem eg_refs {rs : List Addr} {M : List (List Nat)} (h : EvL te σ H (rs.map V.ref)) (hr : LR H rs M) : EvGn te σ H fun v H' => ∃ p, v = .ref p ∧ MN H' p M := fun H1 e Q k => h H1 e _ fun p H2 _ e2 hp => k _ H2 e2 ⟨p, rfl, rs, hp, hr.mono (e.trans e2)⟩
end
end Mx

set_option Elab.async false
set_option linter.all false
set_option maxRecDepth 100000
set_option maxHeartbeats 4000000
namespace Sm
open PySem PySem.Spec PyProof.Rows L2
/-! ### values without addresses, a store of what may change -/
inductive D where
  | non | bl (b : Bool) | int (i : Int) | str (x : Str) | ty (n : String) | cl (a : Addr) | tup (k : Nat) (ds : List D) | lst (k : Nat) (ds : List D) | rf (i : Nat)
inductive O where
  | lst (ds : List D) | dct (kvs : List (Key × D)) | dtt (kvs : List (List Key × D)) | ins (C : Addr) (fs : List (Str × D))
abbrev S := List (Bool × O)
abbrev En := List (Option D)
/-- where the store lies: its addresses, how many, what else is not to be named -/
structure M where
  f : Nat → Addr
  n : Nat
  x : List Addr
def nim (m : M) (a : Addr) : Prop := (∀ i, i < m.n → m.f i ≠ a) ∧ a ∉ m.x
def TupK (K : PySem.W.Frag) (m : M) (H : Hp) : Nat → Addr → List V → Prop
  | 0, a, vs => nim m a ∧ H a = some (.tup vs)
  | 1, a, vs => nim m a ∧ Rd H a (.tup vs)
  | 2, a, vs => nim m a ∧ Mx.FzT H a vs
  | _, a, vs => ∀ H', SqT K H' a vs
def LstK (K : PySem.W.Frag) (m : M) (H : Hp) : Nat → Addr → List V → Prop
  | 0, a, vs => nim m a ∧ H a = some (.lst vs)
  | 1, a, vs => nim m a ∧ Rd H a (.lst vs)
  | _, a, vs => ∀ H', SqL K H' a vs
mutual
inductive VR (K : PySem.W.Frag) (m : M) (H : Hp) : D → V → Prop
  | non : VR K m H .non .non
  | bl (b : Bool) : VR K m H (.bl b) (.bl b)
  | int (i : Int) : VR K m H (.int i) (.int i)
  | str (x : Str) : VR K m H (.str x) (.str x)
  | ty (t : String) : VR K m H (.ty t) (.ty t)
  | cl (a : Addr) : VR K m H (.cl a) (.ref a)
  | rf {i : Nat} {v : V} (h : i < m.n) (e : v = .ref (m.f i)) : VR K m H (.rf i) v
  | tup {k : Nat} {a : Addr} {ds : List D} {vs : List V} (h : TupK K m H k a vs) (r : VRs K m H ds vs) : VR K m H (.tup k ds) (.ref a)
  | lst {k : Nat} {a : Addr} {ds : List D} {vs : List V} (h : LstK K m H k a vs) (r : VRs K m H ds vs) : VR K m H (.lst k ds) (.ref a)
inductive VRs (K : PySem.W.Frag) (m : M) (H : Hp) : List D → List V → Prop
  | nil : VRs K m H [] []
  | cons {d : D} {v : V} {ds : List D} {vs : List V} : VR K m H d v → VRs K m H ds vs → VRs K m H (d :: ds) (v :: vs)
end
/-- from one state to another: what is known stays -/
structure Up (m : M) (H : Hp) (m' : M) (H' : Hp) : Prop where
  le : m.n ≤ m'.n
  same : ∀ i, i < m.n → m'.f i = m.f i
  nm : ∀ a o, nim m a → H a = some o → nim m' a
  keep : ∀ a o, nim m a → H a = some o → H' a = some o
section
variable {K : PySem.W.Frag} {m m' m2 : M} {H H' H2 : Hp}
theorem Up.rd {a : Addr} {u : HO} (g : Up m H m' H') (h : nim m a) (r : Rd H a u) : Rd H' a u := by
  rcases r with r | ⟨o, r⟩
  · exact .inl (g.keep a _ h r)
  · exact .inr ⟨o, g.keep a _ h r⟩
theorem Up.nmR {a : Addr} {u : HO} (g : Up m H m' H') (h : nim m a) (r : Rd H a u) : nim m' a := by
  rcases r with r | ⟨o, r⟩
  · exact g.nm a _ h r
  · exact g.nm a _ h r
theorem TupK.up {k : Nat} {a : Addr} {vs : List V} (g : Up m H m' H') (h : TupK K m H k a vs) : TupK K m' H' k a vs := by
  match k, h with
  | 0, ⟨h1, h2⟩ => exact ⟨g.nm _ _ h1 h2, g.keep _ _ h1 h2⟩
  | 1, ⟨h1, h2⟩ => exact ⟨g.nmR h1 h2, g.rd h1 h2⟩
  | 2, ⟨h1, o, c, d, h2⟩ => exact ⟨g.nm _ _ h1 h2, o, c, d, g.keep _ _ h1 h2⟩
  | (k + 3), h => exact h
theorem TupK.sq {k : Nat} {a : Addr} {vs : List V} (h : TupK K m H k a vs) : SqT K H a vs := by
  match k, h with
  | 0, ⟨_, h2⟩ => exact .inl (.inl h2)
  | 1, ⟨_, h2⟩ => exact .inl h2
  | 2, ⟨_, o, _, _, h2⟩ => exact .inl (.inr ⟨o, h2⟩)
  | (k + 3), h => exact h H
theorem LstK.up {k : Nat} {a : Addr} {vs : List V} (g : Up m H m' H') (h : LstK K m H k a vs) : LstK K m' H' k a vs := by
  match k, h with
  | 0, ⟨h1, h2⟩ => exact ⟨g.nm _ _ h1 h2, g.keep _ _ h1 h2⟩
  | 1, ⟨h1, h2⟩ => exact ⟨g.nmR h1 h2, g.rd h1 h2⟩
  | (k + 2), h => exact h
theorem LstK.sq {k : Nat} {a : Addr} {vs : List V} (h : LstK K m H k a vs) : SqL K H a vs := by
  match k, h with
  | 0, ⟨_, h2⟩ => exact .inl (.inl h2)
  | 1, ⟨_, h2⟩ => exact .inl h2
  | (k + 2), h => exact h H
mutual
theorem vr_up (g : Up m H m' H') : ∀ (d : D) (v : V), VR K m H d v → VR K m' H' d v
  | _, _, .non => .non
  | _, _, .bl b => .bl b
  | _, _, .int i => .int i
  | _, _, .str x => .str x
  | _, _, .ty t => .ty t
  | _, _, .cl a => .cl a
  | _, _, .rf h e => .rf (Nat.lt_of_lt_of_le h g.le) (by rw [g.same _ h]; exact e)
  | .tup _ ds, _, .tup h r => .tup (h.up g) (vrs_up g ds _ r)
  | .lst _ ds, _, .lst h r => .lst (h.up g) (vrs_up g ds _ r)
theorem vrs_up (g : Up m H m' H') : ∀ (ds : List D) (vs : List V), VRs K m H ds vs → VRs K m' H' ds vs
  | _, _, .nil => .nil
  | d :: ds, v :: vs, .cons h r => .cons (vr_up g d v h) (vrs_up g ds vs r)
end
theorem VR.up {d : D} {v : V} (h : VR K m H d v) (g : Up m H m' H') : VR K m' H' d v := vr_up g d v h
theorem VRs.up {ds : List D} {vs : List V} (h : VRs K m H ds vs) (g : Up m H m' H') : VRs K m' H' ds vs := vrs_up g ds vs h
theorem VRs.len : ∀ {ds : List D} {vs : List V}, VRs K m H ds vs → ds.length = vs.length
  | [], [], .nil => rfl
  | _ :: _, _ :: _, .cons _ r => congrArg (· + 1) (VRs.len r)
theorem VRs.app : ∀ {ds es : List D} {vs ws : List V}, VRs K m H ds vs → VRs K m H es ws → VRs K m H (ds ++ es) (vs ++ ws)
  | [], _, [], _, .nil, q => q
  | _ :: _, _, _ :: _, _, .cons a r, q => .cons a (VRs.app r q)
theorem VRs.get : ∀ {ds : List D} {vs : List V} {i : Nat} {d : D}, VRs K m H ds vs → ds[i]? = some d → ∃ v, vs[i]? = some v ∧ VR K m H d v
  | [], [], _, _, .nil, h => by simp at h
  | d :: ds, v :: vs, 0, x, .cons a r, h => by
    obtain rfl : d = x := by simpa using h
    exact ⟨v, rfl, a⟩
  | d :: ds, v :: vs, i + 1, x, .cons a r, h => by
    obtain ⟨w, h1, h2⟩ := VRs.get (i := i) r (by simpa using h)
    exact ⟨w, by simpa using h1, h2⟩
theorem VRs.getv : ∀ {ds : List D} {vs : List V} {i : Nat} {v : V}, VRs K m H ds vs → vs[i]? = some v → ∃ d, ds[i]? = some d ∧ VR K m H d v
  | [], [], _, _, .nil, h => by simp at h
  | d :: ds, v :: vs, 0, x, .cons a r, h => by
    obtain rfl : v = x := by simpa using h
    exact ⟨d, rfl, a⟩
  | d :: ds, v :: vs, i + 1, x, .cons a r, h => by
    obtain ⟨w, h1, h2⟩ := VRs.getv (i := i) r (by simpa using h)
    exact ⟨w, by simpa using h1, h2⟩
theorem VRs.take : ∀ {ds : List D} {vs : List V} (i : Nat), VRs K m H ds vs → VRs K m H (ds.take i) (vs.take i)
  | _, _, 0, _ => by simp; exact .nil
  | [], [], i + 1, .nil => .nil
  | _ :: _, _ :: _, i + 1, .cons a r => .cons a (VRs.take i r)
theorem VRs.drop : ∀ {ds : List D} {vs : List V} (i : Nat), VRs K m H ds vs → VRs K m H (ds.drop i) (vs.drop i)
  | _, _, 0, r => r
  | [], [], i + 1, .nil => .nil
  | _ :: _, _ :: _, i + 1, .cons a r => VRs.drop i r
theorem VRs.set {d : D} {v : V} (h : VR K m H d v) : ∀ {ds : List D} {vs : List V} (i : Nat), VRs K m H ds vs → VRs K m H (ds.set i d) (vs.set i v)
  | [], [], _, .nil => .nil
  | _ :: _, _ :: _, 0, .cons a r => .cons h r
  | _ :: _, _ :: _, i + 1, .cons a r => .cons a (VRs.set h i r)
theorem VRs.rev : ∀ {ds : List D} {vs : List V}, VRs K m H ds vs → VRs K m H ds.reverse vs.reverse
  | [], [], .nil => .nil
  | d :: ds, v :: vs, .cons a r => by
    rw [List.reverse_cons, List.reverse_cons]
    exact (VRs.rev r).app (.cons a .nil)
theorem VRs.eraseIdx : ∀ {ds : List D} {vs : List V} (i : Nat), VRs K m H ds vs → VRs K m H (ds.eraseIdx i) (vs.eraseIdx i)
  | [], [], _, .nil => .nil
  | _ :: _, _ :: _, 0, .cons a r => r
  | _ :: _, _ :: _, i + 1, .cons a r => .cons a (VRs.eraseIdx i r)
theorem VRs.map {α : Type} {f : α → D} {g : α → V} (h : ∀ a, VR K m H (f a) (g a)) : ∀ l : List α, VRs K m H (l.map f) (l.map g)
  | [] => .nil
  | a :: l => .cons (h a) (VRs.map h l)
/-- keys with values -/
inductive KR {κ : Type} (K : PySem.W.Frag) (m : M) (H : Hp) : List (κ × D) → List (κ × V) → Prop
  | nil : KR K m H [] []
  | cons {k : κ} {d : D} {v : V} {ds : List (κ × D)} {vs : List (κ × V)} : VR K m H d v → KR K m H ds vs → KR K m H ((k, d) :: ds) ((k, v) :: vs)
theorem KR.up {κ : Type} (g : Up m H m' H') : ∀ {ds : List (κ × D)} {vs : List (κ × V)}, KR K m H ds vs → KR K m' H' ds vs
  | _, _, .nil => .nil
  | _, _, .cons h r => .cons (h.up g) (KR.up g r)
theorem KR.len {κ : Type} : ∀ {ds : List (κ × D)} {vs : List (κ × V)}, KR K m H ds vs → ds.length = vs.length
  | _, _, .nil => rfl
  | _, _, .cons _ r => congrArg (· + 1) (KR.len r)
theorem KR.keys {κ : Type} : ∀ {ds : List (κ × D)} {vs : List (κ × V)}, KR K m H ds vs → ds.map (·.1) = vs.map (·.1)
  | _, _, .nil => rfl
  | _, _, .cons (k := k) _ r => congrArg (k :: ·) (KR.keys r)
def lkd (H : Hp) (a : Addr) (b : Bool) (u : HO) : Prop := if b = true then ∃ od, H a = some (.frz od u) else H a = some u
theorem lkd.rd {a : Addr} {b : Bool} {u : HO} (h : lkd H a b u) : Rd H a u := by
  unfold lkd at h
  split at h
  · obtain ⟨od, h⟩ := h
    exact .inr ⟨od, h⟩
  · exact .inl h
theorem lkd.ex {a : Addr} {b : Bool} {u : HO} (h : lkd H a b u) : ∃ o, H a = some o := by
  rcases h.rd with h | ⟨_, h⟩
  · exact ⟨_, h⟩
  · exact ⟨_, h⟩
theorem lkd.to {a : Addr} {b : Bool} {u : HO} (h : lkd H a b u) (e : ∀ u, H a = some u → H' a = some u) : lkd H' a b u := by
  unfold lkd at h ⊢
  split at h
  · rename_i hb
    rw [if_pos hb]
    obtain ⟨od, q⟩ := h
    exact ⟨od, e _ q⟩
  · rename_i hb
    rw [if_neg hb]
    exact e _ h
def OR (K : PySem.W.Frag) (m : M) (H : Hp) (a : Addr) (b : Bool) : O → Prop
  | .lst ds => ∃ vs, lkd H a b (.lst vs) ∧ VRs K m H ds vs
  | .dct kvs => ∃ ws, lkd H a b (.dK ws) ∧ KR K m H kvs ws
  | .dtt kvs => ∃ ws, lkd H a b (.dT ws) ∧ KR K m H kvs ws
  | .ins C fs => ∃ dx ws, lkd H a b (.ins C dx ws) ∧ KR K m H fs ws
theorem or_ex {a : Addr} {b : Bool} {o : O} (h : OR K m H a b o) : ∃ u, H a = some u := by
  cases o with
  | lst ds => obtain ⟨_, h, _⟩ := h; exact h.ex
  | dct ds => obtain ⟨_, h, _⟩ := h; exact h.ex
  | dtt ds => obtain ⟨_, h, _⟩ := h; exact h.ex
  | ins C ds => obtain ⟨_, _, h, _⟩ := h; exact h.ex
/-- what stands at a does not change -/
theorem or_up {a : Addr} {b : Bool} {o : O} (h : OR K m H a b o) (g : Up m H m' H') (e : ∀ u, H a = some u → H' a = some u) : OR K m' H' a b o := by
  cases o with
  | lst ds => obtain ⟨vs, h1, h2⟩ := h; exact ⟨vs, h1.to e, h2.up g⟩
  | dct kvs => obtain ⟨vs, h1, h2⟩ := h; exact ⟨vs, h1.to e, h2.up g⟩
  | dtt kvs => obtain ⟨vs, h1, h2⟩ := h; exact ⟨vs, h1.to e, h2.up g⟩
  | ins C fs => obtain ⟨dx, vs, h1, h2⟩ := h; exact ⟨dx, vs, h1.to e, h2.up g⟩
structure Rp (K : PySem.W.Frag) (m : M) (s : S) (H : Hp) : Prop where
  len : m.n = s.length
  obj : ∀ i b o, s[i]? = some (b, o) → OR K m H (m.f i) b o
  inj : ∀ i j, i < m.n → j < m.n → m.f i = m.f j → i = j
  ex : ∀ a ∈ m.x, ∃ u, H a = some u
  sep : ∀ i, i < m.n → m.f i ∉ m.x
theorem Rp.at {s : S} {i : Nat} (r : Rp K m s H) (h : i < m.n) : ∃ u, H (m.f i) = some u := by
  have h2 : i < s.length := by rw [← r.len]; exact h
  exact or_ex (r.obj i s[i].1 s[i].2 (List.getElem?_eq_getElem h2))
theorem Rp.nim {s : S} {p : Addr} (r : Rp K m s H) (hp : H p = none) : Sm.nim m p := by
  refine ⟨fun i h z => ?_, fun hx => ?_⟩
  · obtain ⟨u, e⟩ := r.at h
    rw [z, hp] at e
    cases e
  · obtain ⟨u, e⟩ := r.ex p hx
    rw [hp] at e
    cases e
/-- how a state grows -/
structure Gr (m : M) (H : Hp) (m' : M) (H' : Hp) : Prop where
  le : m.n ≤ m'.n
  same : ∀ i, i < m.n → m'.f i = m.f i
  ex : m'.x = m.x
  new : ∀ i, m.n ≤ i → i < m'.n → H (m'.f i) = none
  keep : ∀ a o, (∀ i, i < m.n → m.f i ≠ a) → H a = some o → H' a = some o
  dom : ∀ a o, H a = some o → ∃ o', H' a = some o'
theorem Gr.refl : Gr m H m H := ⟨Nat.le_refl _, fun _ _ => rfl, rfl, fun i h h' => absurd h' (by omega), fun _ _ _ h => h, fun _ o h => ⟨o, h⟩⟩
theorem Gr.nf {a : Addr} {o : HO} (g : Gr m H m' H') (h : ∀ i, i < m.n → m.f i ≠ a) (e : H a = some o) : ∀ i, i < m'.n → m'.f i ≠ a := fun i hi => by
  by_cases q : i < m.n
  · rw [g.same i q]; exact h i q
  · intro z
    have := g.new i (by omega) hi
    rw [z, e] at this
    cases this
theorem Gr.up (g : Gr m H m' H') : Up m H m' H' := ⟨g.le, g.same, fun a o h e => ⟨g.nf h.1 e, by rw [g.ex]; exact h.2⟩, fun a o h e => g.keep a o h.1 e⟩
theorem Gr.none {a : Addr} (g : Gr m H m' H') (h : H' a = none) : H a = none := by
  cases q : H a with
  | none => rfl
  | some o =>
    obtain ⟨o', e⟩ := g.dom a o q
    rw [h] at e
    cases e
theorem Gr.trans (g : Gr m H m' H') (k : Gr m' H' m2 H2) : Gr m H m2 H2 where
  le := Nat.le_trans g.le k.le
  same := fun i h => by rw [k.same i (Nat.lt_of_lt_of_le h g.le), g.same i h]
  ex := k.ex.trans g.ex
  new := fun i h h' => by
    by_cases q : i < m'.n
    · rw [k.same i q]; exact g.new i h q
    · exact g.none (k.new i (by omega) h')
  keep := fun a o h e => k.keep a o (g.nf h e) (g.keep a o h e)
  dom := fun a o e => by
    obtain ⟨o', e'⟩ := g.dom a o e
    exact k.dom a o' e'
structure Aft (K : PySem.W.Frag) (m : M) (s : S) (H : Hp) (m' : M) (s' : S) (H' : Hp) : Prop where
  gr : Gr m H m' H'
  rp : Rp K m' s' H'
  lk : ∀ (i : Nat) (o : O), s[i]? = some (true, o) → s'[i]? = some (true, o) ∧ H' (m.f i) = H (m.f i)
  ln : m.n = s.length
theorem Aft.refl {s : S} (r : Rp K m s H) : Aft K m s H m s H := ⟨.refl, r, fun _ _ h => ⟨h, rfl⟩, r.len⟩
theorem Aft.trans {s s' s2 : S} (a : Aft K m s H m' s' H') (b : Aft K m' s' H' m2 s2 H2) : Aft K m s H m2 s2 H2 := ⟨a.gr.trans b.gr, b.rp, fun i o h => by
  obtain ⟨h1, h2⟩ := a.lk i o h
  obtain ⟨h3, h4⟩ := b.lk i o h1
  have li : i < m.n := by rw [a.ln]; exact (List.getElem?_eq_some_iff.mp h).1
  rw [a.gr.same i li] at h4
  exact ⟨h3, h4.trans h2⟩, a.ln⟩
theorem Aft.up {s s' : S} (a : Aft K m s H m' s' H') : Up m H m' H' := a.gr.up
/-- a fresh object outside of the store -/
theorem Gr.new1 {p : Addr} {o : HO} (hp : H p = Option.none) : Gr m H m (upd H p o) := ⟨Nat.le_refl _, fun _ _ => rfl, rfl, fun i h h' => absurd h' (by omega), fun a u _ e => by rw [upd_ne (ne_of_none e hp)]; exact e, fun a u e => ⟨u, by rw [upd_ne (ne_of_none e hp)]; exact e⟩⟩
theorem Aft.new {s : S} {p : Addr} {o : HO} (r : Rp K m s H) (hp : H p = none) : Aft K m s H m s (upd H p o) :=
  ⟨Gr.new1 hp, ⟨r.len, fun i b o h => or_up (r.obj i b o h) (Gr.new1 hp).up fun u e => by rw [upd_ne (ne_of_none e hp)]; exact e, r.inj, fun a ha => by
    obtain ⟨u, e⟩ := r.ex a ha
    exact ⟨u, by rw [upd_ne (ne_of_none e hp)]; exact e⟩, r.sep⟩, fun i o h => ⟨h, by
    have li : i < m.n := by rw [r.len]; exact (List.getElem?_eq_some_iff.mp h).1
    rw [upd_ne ((r.nim hp).1 i li)]⟩, r.len⟩
/-- one more object in the store -/
def M.add (m : M) (p : Addr) : M := ⟨fun i => if i = m.n then p else m.f i, m.n + 1, m.x⟩
theorem M.add_lt {p : Addr} {i : Nat} (h : i < m.n) : (m.add p).f i = m.f i := by
  show (if i = m.n then p else m.f i) = _
  rw [if_neg (by omega)]
theorem M.add_at {p : Addr} : (m.add p).f m.n = p := by
  show (if m.n = m.n then p else _) = _
  rw [if_pos rfl]
theorem Gr.add {p : Addr} {u : HO} (hp : H p = Option.none) : Gr m H (m.add p) (upd H p u) := ⟨Nat.le_succ _, fun i h => M.add_lt h, rfl, fun i h h' => by
    have h' : i < m.n + 1 := h'
    have : i = m.n := by omega
    rw [this, M.add_at]
    exact hp, fun a o _ e => by rw [upd_ne (ne_of_none e hp)]; exact e, fun a o e => ⟨o, by rw [upd_ne (ne_of_none e hp)]; exact e⟩⟩
theorem Aft.add {s : S} {p : Addr} {u : HO} {o : O} (r : Rp K m s H) (hp : H p = none) (ho : OR K (m.add p) (upd H p u) p false o) : Aft K m s H (m.add p) (s ++ [(false, o)]) (upd H p u) := by
  have g : Gr m H (m.add p) (upd H p u) := Gr.add hp
  have ln : (m.add p).n = m.n + 1 := rfl
  refine ⟨g, ⟨by rw [List.length_append, ← r.len]; rfl, fun i b o' h => ?_, fun i j hi hj e => ?_, fun a ha => ?_, fun i hi => ?_⟩, fun i o h => ?_, r.len⟩
  · by_cases q : i < s.length
    · rw [List.getElem?_append_left q] at h
      have q2 : i < m.n := by rw [r.len]; exact q
      rw [M.add_lt q2]
      exact or_up (r.obj i b o' h) g.up fun u e => by rw [upd_ne (ne_of_none e hp)]; exact e
    · have h2 : i = s.length := by
        have := (List.getElem?_eq_some_iff.mp h).1
        rw [List.length_append] at this
        simp at this
        omega
      subst h2
      rw [List.getElem?_append_right (Nat.le_refl _), Nat.sub_self] at h
      obtain ⟨rfl, rfl⟩ : b = false ∧ o' = o := by
        have : (false, o) = (b, o') := by simpa using h
        exact ⟨(congrArg Prod.fst this).symm, (congrArg Prod.snd this).symm⟩
      rw [← r.len, M.add_at]
      exact ho
  · have fr : ∀ k, k < m.n → m.f k ≠ p := fun k hk => (r.nim hp).1 k hk
    rw [ln] at hi hj
    by_cases q1 : i < m.n <;> by_cases q2 : j < m.n
    · rw [M.add_lt q1, M.add_lt q2] at e
      exact r.inj i j q1 q2 e
    · obtain rfl : j = m.n := by omega
      rw [M.add_lt q1, M.add_at] at e
      exact absurd e (fr i q1)
    · obtain rfl : i = m.n := by omega
      rw [M.add_lt q2, M.add_at] at e
      exact absurd e.symm (fr j q2)
    · omega
  · obtain ⟨v, e⟩ := r.ex a ha
    exact ⟨v, by rw [upd_ne (ne_of_none e hp)]; exact e⟩
  · rw [ln] at hi
    by_cases q1 : i < m.n
    · rw [M.add_lt q1]; exact r.sep i q1
    · obtain rfl : i = m.n := by omega
      rw [M.add_at]
      exact (r.nim hp).2
  · have li : i < s.length := (List.getElem?_eq_some_iff.mp h).1
    exact ⟨by rw [List.getElem?_append_left li]; exact h, by rw [upd_ne ((r.nim hp).1 i (by rw [r.len]; exact li))]⟩
/-- an object of the store changes -/
theorem Aft.set {s : S} {i : Nat} {b : Bool} {u : HO} {o o' : O} (r : Rp K m s H) (hi : s[i]? = some (b, o)) {b' : Bool} (ho : Gr m H m (upd H (m.f i) u) → OR K m (upd H (m.f i) u) (m.f i) b' o') (hb : b = false) : Aft K m s H m (s.set i (b', o')) (upd H (m.f i) u) := by
  have li : i < m.n := by rw [r.len]; exact (List.getElem?_eq_some_iff.mp hi).1
  have g : Gr m H m (upd H (m.f i) u) := ⟨Nat.le_refl _, fun _ _ => rfl, rfl, fun i h h' => absurd h' (by omega), fun a u h e => by rw [upd_ne (h i li).symm]; exact e, fun a v e => by
    by_cases q : a = m.f i
    · exact ⟨u, by rw [q, upd_same]⟩
    · exact ⟨v, by rw [upd_ne q]; exact e⟩⟩
  subst hb
  refine ⟨g, ⟨by rw [List.length_set]; exact r.len, fun j c p h => ?_, r.inj, fun a ha => ?_, r.sep⟩, fun j o2 h => ?_, r.len⟩
  · by_cases q : i = j
    · subst q
      rw [List.getElem?_set_self (by rw [← r.len]; exact li)] at h
      obtain ⟨rfl, rfl⟩ : b' = c ∧ o' = p := by
        have : (b', o') = (c, p) := by simpa using h
        exact ⟨congrArg Prod.fst this, congrArg Prod.snd this⟩
      exact ho g
    · rw [List.getElem?_set_ne q] at h
      have lj : j < m.n := by rw [r.len]; exact (List.getElem?_eq_some_iff.mp h).1
      exact or_up (r.obj j c p h) g.up fun u e => by rw [upd_ne fun z => q (r.inj i j li lj z.symm)]; exact e
  · obtain ⟨v, e⟩ := r.ex a ha
    exact ⟨v, by rw [upd_ne fun z => r.sep i li (by rw [← z]; exact ha)]; exact e⟩
  · have lj : j < m.n := by rw [r.len]; exact (List.getElem?_eq_some_iff.mp h).1
    have ne : i ≠ j := fun z => by
      rw [← z, hi] at h
      exact Bool.noConfusion (congrArg Prod.fst (Option.some.inj h))
    exact ⟨by rw [List.getElem?_set_ne ne]; exact h, by rw [upd_ne fun z => ne (r.inj i j li lj z.symm)]⟩
/-! ### an object that is being made (a comprehension's) -/
def M.wx (m : M) (p : Addr) : M := ⟨m.f, m.n, p :: m.x⟩
theorem up_wx {p : Addr} {u : HO} (hp : H p = none) : Up m H (m.wx p) (upd H p u) := ⟨Nat.le_refl _, fun _ _ => rfl, fun a o h e => ⟨h.1, fun z => by
    rcases List.mem_cons.mp z with z | z
    · exact ne_of_none e hp z
    · exact h.2 z⟩, fun a o h e => by rw [upd_ne (ne_of_none e hp)]; exact e⟩
theorem Rp.wx {s : S} {p : Addr} {u : HO} (r : Rp K m s H) (hp : H p = none) : Rp K (m.wx p) s (upd H p u) :=
  ⟨r.len, fun i b o h => or_up (r.obj i b o h) (up_wx hp) fun u e => by rw [upd_ne (ne_of_none e hp)]; exact e, r.inj, fun a ha => by
    rcases List.mem_cons.mp ha with rfl | ha
    · exact ⟨u, upd_same⟩
    · obtain ⟨v, e⟩ := r.ex a ha
      exact ⟨v, by rw [upd_ne (ne_of_none e hp)]; exact e⟩, fun i hi z => by
    rcases List.mem_cons.mp z with z | z
    · exact (r.nim hp).1 i hi z
    · exact r.sep i hi z⟩
/-- it changes: nothing names it -/
theorem up_ex {p : Addr} {u : HO} (hp : p ∈ m.x) : Up m H m (upd H p u) := ⟨Nat.le_refl _, fun _ _ => rfl, fun a o h _ => h, fun a o h e => by
  rw [upd_ne fun z => h.2 (by rw [z]; exact hp)]
  exact e⟩
theorem Rp.ex_set {s : S} {p : Addr} {u : HO} (r : Rp K m s H) (hp : p ∈ m.x) : Rp K m s (upd H p u) :=
  ⟨r.len, fun i b o h => or_up (r.obj i b o h) (up_ex hp) fun v e => by
    have li : i < m.n := by rw [r.len]; exact (List.getElem?_eq_some_iff.mp h).1
    rw [upd_ne fun z => r.sep i li (by rw [z]; exact hp)]
    exact e, r.inj, fun a ha => by
    by_cases q : a = p
    · exact ⟨u, by rw [q, upd_same]⟩
    · obtain ⟨v, e⟩ := r.ex a ha
      exact ⟨v, by rw [upd_ne q]; exact e⟩, r.sep⟩
/-- it is done -/
def M.ux (m : M) (x : List Addr) : M := ⟨m.f, m.n, x⟩
theorem up_ux {x : List Addr} (h : ∀ a ∈ x, a ∈ m.x) : Up m H (m.ux x) H := ⟨Nat.le_refl _, fun _ _ => rfl, fun a o q _ => ⟨q.1, fun z => q.2 (h a z)⟩, fun _ _ _ e => e⟩
theorem Rp.ux {s : S} {x : List Addr} (r : Rp K m s H) (h : ∀ a ∈ x, a ∈ m.x) : Rp K (m.ux x) s H :=
  ⟨r.len, fun i b o q => or_up (r.obj i b o q) (up_ux h) fun u e => e, r.inj, fun a ha => r.ex a (h a ha), fun i hi z => r.sep i hi (h _ z)⟩
/-- later, perhaps with more that is not to be named -/
structure Lt (K : PySem.W.Frag) (m : M) (s : S) (H : Hp) (m' : M) (s' : S) (H' : Hp) : Prop where
  up : Up m H m' H'
  rp : Rp K m' s' H'
  lk : ∀ (i : Nat) (o : O), s[i]? = some (true, o) → s'[i]? = some (true, o) ∧ H' (m.f i) = H (m.f i)
  ln : m.n = s.length
theorem Aft.lt {s s' : S} (a : Aft K m s H m' s' H') : Lt K m s H m' s' H' := ⟨a.up, a.rp, a.lk, a.ln⟩
theorem Up.trans (g : Up m H m' H') (k : Up m' H' m2 H2) : Up m H m2 H2 := ⟨Nat.le_trans g.le k.le, fun i h => by rw [k.same i (Nat.lt_of_lt_of_le h g.le), g.same i h], fun a o h e => k.nm a o (g.nm a o h e) (g.keep a o h e), fun a o h e => k.keep a o (g.nm a o h e) (g.keep a o h e)⟩
theorem Lt.then {s s' s2 : S} (a : Lt K m s H m' s' H') (b : Aft K m' s' H' m2 s2 H2) : Lt K m s H m2 s2 H2 := ⟨a.up.trans b.up, b.rp, fun i o h => by
  obtain ⟨h1, h2⟩ := a.lk i o h
  obtain ⟨h3, h4⟩ := b.lk i o h1
  have li : i < m.n := by rw [a.ln]; exact (List.getElem?_eq_some_iff.mp h).1
  rw [a.up.same i li] at h4
  exact ⟨h3, h4.trans h2⟩, a.ln⟩
/-- a new object at p, done but not named yet -/
structure Nw (K : PySem.W.Frag) (m : M) (s : S) (H : Hp) (m' : M) (s' : S) (H' : Hp) (p : Addr) (u : HO) : Prop where
  gr : Gr m H (m'.ux m.x) H'
  rp : Rp K m' s' H'
  lk : ∀ (i : Nat) (o : O), s[i]? = some (true, o) → s'[i]? = some (true, o) ∧ H' (m.f i) = H (m.f i)
  ln : m.n = s.length
  x : m'.x = p :: m.x
  nx : p ∉ m.x
  fr : H p = none
  hp : H' p = some u
theorem Nw.sub {s s' : S} {p : Addr} {u : HO} (w : Nw K m s H m' s' H' p u) : ∀ a ∈ m.x, a ∈ m'.x := fun a h => by rw [w.x]; exact List.mem_cons_of_mem _ h
theorem Nw.aft {s s' : S} {p : Addr} {u : HO} (w : Nw K m s H m' s' H' p u) : Aft K m s H (m'.ux m.x) s' H' := ⟨w.gr, w.rp.ux w.sub, w.lk, w.ln⟩
theorem Nw.up {s s' : S} {p : Addr} {u : HO} (w : Nw K m s H m' s' H' p u) : Up m' H' (m'.ux m.x) H' := up_ux w.sub
theorem Nw.nim {s s' : S} {p : Addr} {u : HO} (w : Nw K m s H m' s' H' p u) : Sm.nim (m'.ux m.x) p := ⟨fun i hi z => w.rp.sep i hi (by
  have z : m'.f i = p := z
  rw [z, w.x]; exact List.mem_cons_self), w.nx⟩
theorem Nw.start {s s' : S} {p : Addr} {u : HO} (a : Aft K m s H m' s' H') (hp : H' p = none) : Nw K m s H (m'.wx p) s' (upd H' p u) p u := by
  have b : Aft K m s H m' s' (upd H' p u) := a.trans (.new a.rp hp)
  exact ⟨⟨b.gr.le, b.gr.same, rfl, b.gr.new, b.gr.keep, b.gr.dom⟩, a.rp.wx hp, b.lk, b.ln, by show p :: m'.x = _; rw [a.gr.ex], fun z => (a.rp.nim hp).2 (by rw [a.gr.ex]; exact z), a.gr.none hp, upd_same⟩
theorem Nw.addUp {s s' : S} {p : Addr} {u : HO} (w : Nw K m s H m' s' H' p u) : Up m' H' ((m'.ux m.x).add p) H' :=
  ⟨Nat.le_succ _, fun i h => M.add_lt (m := m'.ux m.x) h, fun a o h e => ⟨fun i hi z => by
    by_cases q : i < m'.n
    · rw [M.add_lt (m := m'.ux m.x) q] at z
      exact h.1 i q z
    · have hi : i < m'.n + 1 := hi
      obtain rfl : i = m'.n := by omega
      have : ((m'.ux m.x).add p).f m'.n = p := M.add_at (m := m'.ux m.x)
      rw [this] at z
      exact h.2 (by rw [← z, w.x]; exact List.mem_cons_self), fun z => h.2 (w.sub a z)⟩, fun _ _ _ e => e⟩
theorem Nw.add {s s' : S} {p : Addr} {u : HO} {o : O} (w : Nw K m s H m' s' H' p u) (ho : OR K m' H' p false o) : Aft K m s H ((m'.ux m.x).add p) (s' ++ [(false, o)]) H' := by
  have at' : ((m'.ux m.x).add p).f m'.n = p := M.add_at (m := m'.ux m.x)
  have lt' : ∀ i, i < m'.n → ((m'.ux m.x).add p).f i = m'.f i := fun i h => M.add_lt (m := m'.ux m.x) h
  have up := w.addUp
  have nn : ((m'.ux m.x).add p).n = m'.n + 1 := rfl
  have le := w.gr.le
  have le : m.n ≤ m'.n := le
  refine ⟨⟨Nat.le_succ_of_le le, fun i h => by rw [lt' i (by omega)]; exact w.gr.same i h, rfl, fun i h1 h2 => ?_, w.gr.keep, w.gr.dom⟩, ⟨by rw [List.length_append, ← w.rp.len]; rfl, fun i b o' h => ?_, fun i j hi hj e => ?_, fun a ha => w.rp.ex a (w.sub a ha), fun i hi z => ?_⟩, fun i o h => ?_, w.ln⟩
  · rw [nn] at h2
    by_cases q : i < m'.n
    · rw [lt' i q]; exact w.gr.new i h1 q
    · obtain rfl : i = m'.n := by omega
      rw [at']; exact w.fr
  · by_cases q : i < s'.length
    · rw [List.getElem?_append_left q] at h
      rw [lt' i (by rw [w.rp.len]; exact q)]
      exact or_up (w.rp.obj i b o' h) up fun u e => e
    · have h2 : i = s'.length := by
        have := (List.getElem?_eq_some_iff.mp h).1
        rw [List.length_append] at this
        simp at this
        omega
      subst h2
      rw [List.getElem?_append_right (Nat.le_refl _), Nat.sub_self] at h
      obtain ⟨rfl, rfl⟩ : b = false ∧ o' = o := by
        have : (false, o) = (b, o') := by simpa using h
        exact ⟨(congrArg Prod.fst this).symm, (congrArg Prod.snd this).symm⟩
      rw [← w.rp.len, at']
      exact or_up ho up fun u e => e
  · have fr : ∀ k, k < m'.n → m'.f k ≠ p := fun k hk z => w.rp.sep k hk (by rw [z, w.x]; exact List.mem_cons_self)
    rw [nn] at hi hj
    by_cases q1 : i < m'.n <;> by_cases q2 : j < m'.n
    · rw [lt' i q1, lt' j q2] at e
      exact w.rp.inj i j q1 q2 e
    · obtain rfl : j = m'.n := by omega
      rw [lt' i q1, at'] at e
      exact absurd e (fr i q1)
    · obtain rfl : i = m'.n := by omega
      rw [lt' j q2, at'] at e
      exact absurd e.symm (fr j q2)
    · omega
  · rw [nn] at hi
    by_cases q1 : i < m'.n
    · rw [lt' i q1] at z
      exact w.rp.sep i q1 (w.sub _ z)
    · obtain rfl : i = m'.n := by omega
      rw [at'] at z
      exact w.nx z
  · obtain ⟨h1, h2⟩ := w.lk i o h
    exact ⟨by rw [List.getElem?_append_left (List.getElem?_eq_some_iff.mp h1).1]; exact h1, h2⟩
/-- an evaluation goes on while the new object waits -/
theorem Nw.then {s s' s2 : S} {p : Addr} {u : HO} (w : Nw K m s H m' s' H' p u) (b : Aft K m' s' H' m2 s2 H2) : Nw K m s H m2 s2 H2 p u := by
  have g : Gr (m'.ux m.x) H' (m2.ux m.x) H2 := ⟨b.gr.le, b.gr.same, rfl, b.gr.new, b.gr.keep, b.gr.dom⟩
  refine ⟨w.gr.trans g, b.rp, fun i o h => ?_, w.ln, b.gr.ex.trans w.x, w.nx, w.fr, b.gr.keep p u w.nim.1 w.hp⟩
  obtain ⟨h1, h2⟩ := w.lk i o h
  obtain ⟨h3, h4⟩ := b.lk i o h1
  have li : i < m.n := by rw [w.ln]; exact (List.getElem?_eq_some_iff.mp h).1
  have e : m'.f i = m.f i := w.gr.same i li
  rw [e] at h4
  exact ⟨h3, h4.trans h2⟩
/-- the new object changes -/
theorem Nw.set {s s' : S} {p : Addr} {u u2 : HO} (w : Nw K m s H m' s' H' p u) : Nw K m s H m' s' (upd H' p u2) p u2 := by
  have hx : p ∈ m'.x := by rw [w.x]; exact List.mem_cons_self
  refine ⟨⟨w.gr.le, w.gr.same, rfl, w.gr.new, fun a o h e => by rw [upd_ne (ne_of_none e w.fr)]; exact w.gr.keep a o h e, fun a o e => by rw [upd_ne (ne_of_none e w.fr)]; exact w.gr.dom a o e⟩, w.rp.ex_set hx, fun i o h => ?_, w.ln, w.x, w.nx, w.fr, upd_same⟩
  obtain ⟨h1, h2⟩ := w.lk i o h
  have li : i < m.n := by rw [w.ln]; exact (List.getElem?_eq_some_iff.mp h).1
  refine ⟨h1, ?_⟩
  rw [upd_ne fun z => ?_]
  · exact h2
  · have l2 : i < m'.n := Nat.lt_of_lt_of_le li w.gr.le
    have e : m'.f i = m.f i := w.gr.same i li
    exact w.rp.sep i l2 (by rw [e, z]; exact hx)
theorem Nw.setUp {s s' : S} {p : Addr} {u u2 : HO} (w : Nw K m s H m' s' H' p u) : Up m' H' m' (upd H' p u2) := up_ex (by rw [w.x]; exact List.mem_cons_self)
theorem Nw.lt {s s' : S} {p : Addr} {u : HO} (w : Nw K m s H m' s' H' p u) : Lt K m s H m' s' H' := ⟨⟨w.gr.le, w.gr.same, fun a o h e => ⟨w.gr.nf h.1 e, fun z => by
    rw [w.x] at z
    rcases List.mem_cons.mp z with z | z
    · rw [z, w.fr] at e; cases e
    · exact h.2 z⟩, fun a o h e => w.gr.keep a o h.1 e⟩, w.rp, w.lk, w.ln⟩
/-! ### the frame's names -/
structure ER (K : PySem.W.Frag) (m : M) (H : Hp) (e : En) (σ : L2.St) : Prop where
  len : e.length = σ.length
  at' : ∀ (i : Nat) (d : D), e[i]? = some (some d) → ∃ v, σ[i]? = some (some v) ∧ VR K m H d v
theorem ER.up {e : En} {σ : L2.St} (h : ER K m H e σ) (g : Up m H m' H') : ER K m' H' e σ := ⟨h.len, fun i d q => by
  obtain ⟨v, h1, h2⟩ := h.at' i d q
  exact ⟨v, h1, h2.up g⟩⟩
theorem ER.set {e : En} {σ : L2.St} {d : D} {v : V} (h : ER K m H e σ) (r : VR K m H d v) (i : Nat) : ER K m H (e.set i (some d)) (σ.set i (some v)) := ⟨by rw [List.length_set, List.length_set]; exact h.len, fun j x q => by
  by_cases z : i = j
  · subst z
    have li : i < e.length := by
      have := (List.getElem?_eq_some_iff.mp q).1
      rw [List.length_set] at this
      exact this
    rw [List.getElem?_set_self li] at q
    obtain rfl : d = x := by simpa using q
    exact ⟨v, List.getElem?_set_self (by rw [← h.len]; exact li), r⟩
  · rw [List.getElem?_set_ne z] at q
    obtain ⟨w, h1, h2⟩ := h.at' j x q
    exact ⟨w, by rw [List.getElem?_set_ne z]; exact h1, h2⟩⟩
def wipeE (e : En) : List Nat → En
  | [] => e
  | v :: vs => (wipeE e vs).set v none
theorem ER.setN {e : En} {σ : L2.St} {w : Option V} (h : ER K m H e σ) (i : Nat) : ER K m H (e.set i none) (σ.set i w) := ⟨by rw [List.length_set, List.length_set]; exact h.len, fun j x q => by
  by_cases z : i = j
  · subst z
    have li : i < e.length := by
      have := (List.getElem?_eq_some_iff.mp q).1
      rw [List.length_set] at this
      exact this
    rw [List.getElem?_set_self li] at q
    cases q
  · rw [List.getElem?_set_ne z] at q
    obtain ⟨w, h1, h2⟩ := h.at' j x q
    exact ⟨w, by rw [List.getElem?_set_ne z]; exact h1, h2⟩⟩
theorem ER.wipe {e : En} {σ : L2.St} (h : ER K m H e σ) : ∀ vs : List Nat, ER K m H (wipeE e vs) (L2.wipe σ vs)
  | [] => h
  | v :: vs => (ER.wipe h vs).setN v
/-! ### what a reading gives -/
abbrev FE := En → S → (D → S → Prop) → Prop
abbrev FT := En → S → (Bool → S → Prop) → Prop
abbrev FA := En → S → (List D → S → Prop) → Prop
abbrev FO := En → S → (Option Int → S → Prop) → Prop
abbrev FG := D → En → S → (En → S → Prop) → Prop
abbrev FGs := List D → En → S → (En → S → Prop) → Prop
abbrev FI := En → S → (List D → (S → Prop) → S → Prop) → Prop
abbrev F1 := D → S → (D → S → Prop) → Prop
abbrev F2 := D → D → S → (D → S → Prop) → Prop
abbrev FL := List D → S → (D → S → Prop) → Prop
structure FEnds where
  nx : En → S → Prop
  rt : D → S → Prop
  bk : En → S → Prop := fun _ _ => False
  ct : En → S → Prop := fun _ _ => False
abbrev FS := FEnds → En → S → Prop
class SE (K : PySem.W.Frag) (te : TE) (fe : outParam FE) : Prop where
  run : ∀ (m : M) (s : S) (H : Hp) (e : En) (σ : L2.St) (Q : D → S → Prop) (R : VK), Rp K m s H → ER K m H e σ → fe e s Q → (∀ d s' m' H' v, Q d s' → Aft K m s H m' s' H' → VR K m' H' d v → R v H') → te σ H R
class ST (K : PySem.W.Frag) (te : TT) (fe : outParam FT) : Prop where
  run : ∀ (m : M) (s : S) (H : Hp) (e : En) (σ : L2.St) (Q : Bool → S → Prop) (R : Bool → Hp → Prop), Rp K m s H → ER K m H e σ → fe e s Q → (∀ b s' m' H', Q b s' → Aft K m s H m' s' H' → R b H') → te σ H R
class SA (K : PySem.W.Frag) (te : TA) (fe : outParam FA) : Prop where
  run : ∀ (m : M) (s : S) (H : Hp) (e : En) (σ : L2.St) (Q : List D → S → Prop) (R : List V → Hp → Prop), Rp K m s H → ER K m H e σ → fe e s Q → (∀ d s' m' H' v, Q d s' → Aft K m s H m' s' H' → VRs K m' H' d v → R v H') → te σ H R
class SO (K : PySem.W.Frag) (te : TO) (fe : outParam FO) : Prop where
  run : ∀ (m : M) (s : S) (H : Hp) (e : En) (σ : L2.St) (Q : Option Int → S → Prop) (R : Option Int → Hp → Prop), Rp K m s H → ER K m H e σ → fe e s Q → (∀ b s' m' H', Q b s' → Aft K m s H m' s' H' → R b H') → te σ H R
/-- a new list -/
class SN (K : PySem.W.Frag) (te : TE) (fe : outParam FA) : Prop where
  run : ∀ (m : M) (s : S) (H : Hp) (e : En) (σ : L2.St) (Q : List D → S → Prop) (R : VK), Rp K m s H → ER K m H e σ → fe e s Q → (∀ ds s' m' H' p vs, Q ds s' → Nw K m s H m' s' H' p (.lst vs) → VRs K m' H' ds vs → R (.ref p) H') → te σ H R
class S2 (K : PySem.W.Frag) (r : R2) (o : outParam F2) : Prop where
  run : ∀ (m : M) (s : S) (H : Hp) (x y : D) (v w : V) (Q : D → S → Prop) (R : VK), Rp K m s H → VR K m H x v → VR K m H y w → o x y s Q → (∀ d s' m' H' v, Q d s' → Aft K m s H m' s' H' → VR K m' H' d v → R v H') → r v w H R
class S1 (K : PySem.W.Frag) (r : V → Hp → VK → Prop) (o : outParam F1) : Prop where
  run : ∀ (m : M) (s : S) (H : Hp) (x : D) (v : V) (Q : D → S → Prop) (R : VK), Rp K m s H → VR K m H x v → o x s Q → (∀ d s' m' H' v, Q d s' → Aft K m s H m' s' H' → VR K m' H' d v → R v H') → r v H R
class SC (K : PySem.W.Frag) (r : List V → Hp → VK → Prop) (o : outParam FL) : Prop where
  run : ∀ (m : M) (s : S) (H : Hp) (xs : List D) (vs : List V) (Q : D → S → Prop) (R : VK), Rp K m s H → VRs K m H xs vs → o xs s Q → (∀ d s' m' H' v, Q d s' → Aft K m s H m' s' H' → VR K m' H' d v → R v H') → r vs H R
class SG (K : PySem.W.Frag) (t : TG) (f : outParam FG) : Prop where
  run : ∀ (m : M) (s : S) (H : Hp) (e : En) (σ : L2.St) (x : D) (v : V) (Q : En → S → Prop) (R : L2.St → Hp → Prop), Rp K m s H → ER K m H e σ → VR K m H x v → f x e s Q → (∀ e' s' m' H' σ', Q e' s' → Aft K m s H m' s' H' → ER K m' H' e' σ' → R σ' H') → t v σ H R
class SGs (K : PySem.W.Frag) (t : TGs) (f : outParam FGs) : Prop where
  run : ∀ (m : M) (s : S) (H : Hp) (e : En) (σ : L2.St) (x : List D) (v : List V) (Q : En → S → Prop) (R : L2.St → Hp → Prop), Rp K m s H → ER K m H e σ → VRs K m H x v → f x e s Q → (∀ e' s' m' H' σ', Q e' s' → Aft K m s H m' s' H' → ER K m' H' e' σ' → R σ' H') → t v σ H R
/-- the ends of a statement -/
structure DR (K : PySem.W.Frag) (m : M) (s : S) (H : Hp) (F : FEnds) (D' : Ends) : Prop where
  nx : ∀ e' s' m' H' σ', F.nx e' s' → Aft K m s H m' s' H' → ER K m' H' e' σ' → D'.nx σ' H'
  bk : ∀ e' s' m' H' σ', F.bk e' s' → Aft K m s H m' s' H' → ER K m' H' e' σ' → D'.bk σ' H'
  ct : ∀ e' s' m' H' σ', F.ct e' s' → Aft K m s H m' s' H' → ER K m' H' e' σ' → D'.ct σ' H'
  rt : ∀ d s' m' H' v, F.rt d s' → Aft K m s H m' s' H' → VR K m' H' d v → D'.rt v H'
theorem DR.to {F : FEnds} {D' : Ends} {s s' : S} (d : DR K m s H F D') (a : Aft K m s H m' s' H') : DR K m' s' H' F D' :=
  ⟨fun e2 s2 m2 H2 σ2 q b r => d.nx e2 s2 m2 H2 σ2 q (a.trans b) r, fun e2 s2 m2 H2 σ2 q b r => d.bk e2 s2 m2 H2 σ2 q (a.trans b) r, fun e2 s2 m2 H2 σ2 q b r => d.ct e2 s2 m2 H2 σ2 q (a.trans b) r, fun e2 s2 m2 H2 σ2 q b r => d.rt e2 s2 m2 H2 σ2 q (a.trans b) r⟩
class SS (K : PySem.W.Frag) (ts : TS) (fs : outParam FS) : Prop where
  run : ∀ (m : M) (s : S) (H : Hp) (e : En) (σ : L2.St) (F : FEnds) (D' : Ends), Rp K m s H → ER K m H e σ → fs F e s → DR K m s H F D' → ts D' σ H
/-- an iterator, as it was made, gives these items -/
structure ItOk (K : PySem.W.Frag) (m : M) (s : S) (H : Hp) (J : It) (ds : List D) (chk : S → Prop) : Prop where
  go : ∀ m2 s2 H2 i d, Lt K m s H m2 s2 H2 → chk s2 → ds[i]? = some d → J.go i H2 ∧ ∀ x H3, J.yld i H2 x H3 → Aft K m2 s2 H2 m2 s2 H3 ∧ VR K m2 H3 d x
  stop : ∀ m2 s2 H2 i, Lt K m s H m2 s2 H2 → chk s2 → ds.length ≤ i → J.stop i H2
class SI (K : PySem.W.Frag) (wi : TI) (fi : outParam FI) : Prop where
  run : ∀ (m : M) (s : S) (H : Hp) (e : En) (σ : L2.St) (Q : List D → (S → Prop) → S → Prop) (R : It → Hp → Prop), Rp K m s H → ER K m H e σ → fi e s Q → (∀ ds chk s' m' H' J, Q ds chk s' → Aft K m s H m' s' H' → ItOk K m' s' H' J ds chk → R J H') → wi σ H R
end
end Sm

set_option Elab.async false
set_option linter.all false
set_option maxRecDepth 100000
set_option maxHeartbeats 4000000
namespace Sm
open PySem PySem.Spec PyProof.Rows L2
section
variable {K : PySem.W.Frag} {m m' m2 : M} {H H' H2 : Hp} {s : S}
/-! ### reading -/
def lstOf (s : S) : D → Option (List D)
  | .lst _ ds => some ds
  | .rf i => match s[i]? with
    | some (_, .lst ds) => some ds
    | _ => none
  | _ => none
/-- a list that is no script -/
def lstX (s : S) : D → Option (List D)
  | .lst 0 ds => some ds
  | .rf i => match s[i]? with
    | some (false, .lst ds) => some ds
    | _ => none
  | _ => none
def tupOf : D → Option (List D)
  | .tup _ ds => some ds
  | _ => none
def seqOf (s : S) : D → Option (List D)
  | .tup _ ds => some ds
  | d => lstOf s d
theorem rd_lst {d : D} {v : V} {ds : List D} (r : Rp K m s H) (h : VR K m H d v) (e : lstOf s d = some ds) : ∃ a vs, v = .ref a ∧ SqL K H a vs ∧ VRs K m H ds vs := by
  cases h with
  | lst h q =>
    obtain rfl : _ = ds := by simpa [lstOf] using e
    exact ⟨_, _, rfl, h.sq, q⟩
  | @rf i _ hi z =>
    cases hs : s[i]? with
    | none => simp [lstOf, hs] at e
    | some p =>
      obtain ⟨b, o⟩ := p
      cases o with
      | lst es =>
        obtain rfl : es = ds := by simpa [lstOf, hs] using e
        obtain ⟨vs, h1, h2⟩ := r.obj _ _ _ hs
        exact ⟨_, vs, z, .inl h1.rd, h2⟩
      | _ => simp [lstOf, hs] at e
  | _ => cases e
theorem rd_lstX {d : D} {v : V} {ds : List D} (r : Rp K m s H) (h : VR K m H d v) (e : lstX s d = some ds) : ∃ a vs, v = .ref a ∧ H a = some (.lst vs) ∧ VRs K m H ds vs := by
  cases h with
  | @lst k a ds' vs h q =>
    match k, h, e with
    | 0, h, e =>
      obtain rfl : _ = ds := by simpa [lstX] using e
      exact ⟨_, _, rfl, h.2, q⟩
    | k + 1, h, e => cases e
  | @rf i _ hi z =>
    cases hs : s[i]? with
    | none => simp [lstX, hs] at e
    | some p =>
      obtain ⟨b, o⟩ := p
      cases b with
      | true => simp [lstX, hs] at e
      | false =>
        cases o with
        | lst es =>
          obtain rfl : es = ds := by simpa [lstX, hs] using e
          obtain ⟨vs, h1, h2⟩ := r.obj _ _ _ hs
          exact ⟨_, vs, z, h1, h2⟩
        | _ => simp [lstX, hs] at e
  | _ => cases e
theorem rd_tup {d : D} {v : V} {ds : List D} (h : VR K m H d v) (e : tupOf d = some ds) : ∃ a vs, v = .ref a ∧ SqT K H a vs ∧ VRs K m H ds vs := by
  cases h with
  | tup h q =>
    obtain rfl : _ = ds := by simpa [tupOf] using e
    exact ⟨_, _, rfl, h.sq, q⟩
  | _ => cases e
theorem rd_seq {d : D} {v : V} {ds : List D} (r : Rp K m s H) (h : VR K m H d v) (e : seqOf s d = some ds) : ∃ a vs, v = .ref a ∧ (SqL K H a vs ∨ SqT K H a vs) ∧ VRs K m H ds vs := by
  cases d with
  | tup k es =>
    obtain ⟨a, vs, h1, h2, h3⟩ := rd_tup h (ds := ds) e
    exact ⟨a, vs, h1, .inr h2, h3⟩
  | _ =>
    obtain ⟨a, vs, h1, h2, h3⟩ := rd_lst r h (ds := ds) e
    exact ⟨a, vs, h1, .inl h2, h3⟩
/-- flat values -/
def flV : D → Option V
  | .non => some .non
  | .bl b => some (.bl b)
  | .int i => some (.int i)
  | .str x => some (.str x)
  | _ => none
def ofV : V → D
  | .bl b => .bl b
  | .int i => .int i
  | .str x => .str x
  | _ => .non
def isF : V → Bool
  | .bl _ => true
  | .int _ => true
  | .str _ => true
  | .non => true
  | _ => false
theorem vr_ofV {v : V} (h : isF v = true) : VR K m H (ofV v) v := by
  cases v with
  | bl b => exact .bl b
  | int i => exact .int i
  | str x => exact .str x
  | non => exact .non
  | _ => cases h
theorem vr_flV {d : D} {v w : V} (h : VR K m H d v) (e : flV d = some w) : v = w := by
  cases h <;> (first | cases e) <;> rfl
/-! ### names, constants, operators -/
def fVar (i : Nat) : FE := fun e s Q => ∃ d, e[i]? = some (some d) ∧ Q d s
def fC (d : D) : FE := fun _ s Q => Q d s
instance (i : Nat) : SE K (tVar i) (fVar i) := ⟨fun m s H e σ Q R r h ⟨d, h1, h2⟩ k => by
  obtain ⟨v, h3, h4⟩ := h.at' i d h1
  exact ⟨v, h3, k d s m H v h2 (.refl r) h4⟩⟩
instance (i : Int) : SE K (tC (.int i)) (fC (.int i)) := ⟨fun m s H e σ Q R r h h1 k => k _ s m H _ h1 (.refl r) (.int i)⟩
instance (i : Str) : SE K (tC (.str i)) (fC (.str i)) := ⟨fun m s H e σ Q R r h h1 k => k _ s m H _ h1 (.refl r) (.str i)⟩
instance (i : Bool) : SE K (tC (.bl i)) (fC (.bl i)) := ⟨fun m s H e σ Q R r h h1 k => k _ s m H _ h1 (.refl r) (.bl i)⟩
instance : SE K (tC .non) (fC .non) := ⟨fun m s H e σ Q R r h h1 k => k _ s m H _ h1 (.refl r) .non⟩
instance (n : String) : SE K (tC (.ty n)) (fC (.ty n)) := ⟨fun m s H e σ Q R r h h1 k => k _ s m H _ h1 (.refl r) (.ty n)⟩

def fOp (o : F2) (fa fb : FE) : FE := fun e s Q => fa e s fun x s1 => fb e s1 fun y s2 => o x y s2 Q
instance {r : R2} {o : F2} {ta tb : TE} {fa fb : FE} [h : S2 K r o] [ha : SE K ta fa] [hb : SE K tb fb] : SE K (tOp r ta tb) (fOp o fa fb) := ⟨fun m s H e σ Q R r0 h0 h1 k =>
  ha.run m s H e σ _ _ r0 h0 h1 fun x s1 m1 H1 v q1 a1 v1 => hb.run m1 s1 H1 e σ _ _ a1.rp (h0.up a1.up) q1 fun y s2 m2 H2 w q2 a2 v2 =>
    h.run m2 s2 H2 x y v w _ _ a2.rp (v1.up a2.up) v2 q2 fun d s3 m3 H3 u q3 a3 v3 => k d s3 m3 H3 u q3 ((a1.trans a2).trans a3) v3⟩
def fUn (o : F1) (fa : FE) : FE := fun e s Q => fa e s fun x s1 => o x s1 Q
instance {r : V → Hp → VK → Prop} {o : F1} {ta : TE} {fa : FE} [h : S1 K r o] [ha : SE K ta fa] : SE K (tUn r ta) (fUn o fa) := ⟨fun m s H e σ Q R r0 h0 h1 k =>
  ha.run m s H e σ _ _ r0 h0 h1 fun x s1 m1 H1 v q1 a1 v1 => h.run m1 s1 H1 x v _ _ a1.rp v1 q1 fun d s3 m3 H3 u q3 a3 v3 => k d s3 m3 H3 u q3 (a1.trans a3) v3⟩
def oI (C : Int → Int → Prop) (g : Int → Int → V) : F2 := fun x y s Q => ∃ i j, x = .int i ∧ y = .int j ∧ C i j ∧ isF (g i j) = true ∧ Q (ofV (g i j)) s
def oI0 (g : Int → Int → V) : F2 := fun x y s Q => ∃ i j, x = .int i ∧ y = .int j ∧ isF (g i j) = true ∧ Q (ofV (g i j)) s
instance {C : Int → Int → Prop} {g : Int → Int → V} : S2 K (rI C g) (oI C g) := ⟨fun m s H x y v w Q R r hx hy ⟨i, j, e1, e2, c, f, q⟩ k => by
  subst e1; subst e2
  cases hx; cases hy
  exact ⟨i, j, rfl, rfl, c, k _ s m H _ q (.refl r) (vr_ofV f)⟩⟩
instance {g : Int → Int → V} : S2 K (rI0 g) (oI0 g) := ⟨fun m s H x y v w Q R r hx hy ⟨i, j, e1, e2, f, q⟩ k => by
  subst e1; subst e2
  cases hx; cases hy
  exact ⟨i, j, rfl, rfl, k _ s m H _ q (.refl r) (vr_ofV f)⟩⟩
def oU (g : Int → V) : F1 := fun x s Q => ∃ i, x = .int i ∧ isF (g i) = true ∧ Q (ofV (g i)) s
instance {g : Int → V} : S1 K (rU g) (oU g) := ⟨fun m s H x v Q R r hx ⟨i, e1, f, q⟩ k => by
  subst e1
  cases hx
  exact ⟨i, rfl, k _ s m H _ q (.refl r) (vr_ofV f)⟩⟩
def oIxL : F2 := fun x y s Q => ∃ ds i d, lstOf s x = some ds ∧ y = .int i ∧ atI ds i = some d ∧ Q d s
theorem vrs_atI {ds : List D} {vs : List V} {i : Int} {d : D} (h : VRs K m H ds vs) (e : atI ds i = some d) : ∃ v, atI vs i = some v ∧ VR K m H d v := by
  unfold atI at e ⊢
  rw [h.len] at e
  cases q : ixN vs.length i with
  | none => rw [q] at e; cases e
  | some j =>
    rw [q] at e
    exact h.get e
instance : S2 K (rIxL K) oIxL := ⟨fun m s H x y v w Q R r hx hy ⟨ds, i, d, e1, e2, e3, q⟩ k => by
  subst e2
  cases hy
  obtain ⟨a, vs, rfl, h1, h2⟩ := rd_lst r hx e1
  obtain ⟨u, h3, h4⟩ := vrs_atI h2 e3
  exact ⟨a, vs, i, u, rfl, rfl, h1, h3, k d s m H u q (.refl r) h4⟩⟩
def oIxT : F2 := fun x y s Q => ∃ ds i d, tupOf x = some ds ∧ y = .int i ∧ atI ds i = some d ∧ Q d s
instance : S2 K (rIxT K) oIxT := ⟨fun m s H x y v w Q R r hx hy ⟨ds, i, d, e1, e2, e3, q⟩ k => by
  subst e2
  cases hy
  obtain ⟨a, vs, rfl, h1, h2⟩ := rd_tup hx e1
  obtain ⟨u, h3, h4⟩ := vrs_atI h2 e3
  exact ⟨a, vs, i, u, rfl, rfl, h1, h3, k d s m H u q (.refl r) h4⟩⟩
def oIxS : F2 := fun x y s Q => ∃ z i c, x = .str z ∧ y = .int i ∧ z.length ≤ sizeLine ∧ atI z.cps.toList i = some c ∧ Q (.str ⟨#[c]⟩) s
instance : S2 K rIxS oIxS := ⟨fun m s H x y v w Q R r hx hy ⟨z, i, c, e1, e2, e3, e4, q⟩ k => by
  subst e1; subst e2
  cases hx; cases hy
  exact ⟨z, i, c, rfl, rfl, e3, e4, k _ s m H _ q (.refl r) (.str _)⟩⟩
def oEq (neg : Bool) : F2 := fun x y s Q => ∃ v w, flV x = some v ∧ flV y = some w ∧ scal v w = true ∧ Q (.bl (if neg then !decide (v = w) else decide (v = w))) s
instance : S2 K rEq (oEq false) := ⟨fun m s H x y v w Q R r hx hy ⟨v', w', e1, e2, e3, q⟩ k => by
  obtain rfl := vr_flV hx e1
  obtain rfl := vr_flV hy e2
  exact ⟨e3, k _ s m H _ q (.refl r) (.bl _)⟩⟩
instance : S2 K rNe (oEq true) := ⟨fun m s H x y v w Q R r hx hy ⟨v', w', e1, e2, e3, q⟩ k => by
  obtain rfl := vr_flV hx e1
  obtain rfl := vr_flV hy e2
  exact ⟨e3, k _ s m H _ q (.refl r) (.bl _)⟩⟩
/-- is None: of any value -/
def isN : D → Bool
  | .non => true
  | _ => false
theorem isN_of {d : D} {v : V} (h : VR K m H d v) : decide (v = .non) = isN d := by
  cases h <;> simp [isN]
  all_goals (intro z; rename_i e; rw [e] at z; cases z)
def oIsN (neg : Bool) : F2 := fun x y s Q => y = .non ∧ Q (.bl (if neg then !isN x else isN x)) s
instance : S2 K (fun x y H Q => y = .non ∧ Q (.bl (decide (x = .non))) H) (oIsN false) := ⟨fun m s H x y v w Q R r hx hy ⟨e1, q⟩ k => by
  subst e1
  cases hy
  exact ⟨rfl, by rw [isN_of hx]; exact k _ s m H _ q (.refl r) (.bl _)⟩⟩
instance : S2 K (fun x y H Q => y = .non ∧ Q (.bl (!decide (x = .non))) H) (oIsN true) := ⟨fun m s H x y v w Q R r hx hy ⟨e1, q⟩ k => by
  subst e1
  cases hy
  exact ⟨rfl, by rw [isN_of hx]; exact k _ s m H _ q (.refl r) (.bl _)⟩⟩
def eqD : D → D → Bool
  | .non, .non => true
  | .bl a, .bl b => a == b
  | .bl a, .int b => (if a then 1 else 0) == b
  | .int a, .bl b => a == (if b then 1 else 0)
  | .int a, .int b => a == b
  | .str a, .str b => a == b
  | _, _ => false
def flD (d : D) : Bool := (flV d).isSome
theorem flD_v {d : D} {v : V} (h : VR K m H d v) (f : flD d = true) : flatV v = true ∧ flV d = some v := by
  cases h <;> (first | cases f) <;> exact ⟨rfl, rfl⟩
theorem eqV_D {d e : D} {v w : V} (h : VR K m H d v) (k : VR K m H e w) (f : flD d = true) (g : flD e = true) : eqV v w = eqD d e := by
  cases h <;> cases k <;> first | rfl | exact absurd f Bool.false_ne_true | exact absurd g Bool.false_ne_true
def oIn (neg : Bool) : F2 := fun x y s Q => ∃ ds, seqOf s y = some ds ∧ flD x = true ∧ ds.all flD = true ∧ Q (.bl (if neg then !ds.any (fun d => eqD d x) else ds.any (fun d => eqD d x))) s
theorem vrs_flat : ∀ {ds : List D} {vs : List V}, VRs K m H ds vs → ds.all flD = true → vs.all flatV = true
  | _, _, .nil, _ => rfl
  | _, _, .cons a r, f => by
    simp only [List.all_cons, Bool.and_eq_true] at f ⊢
    exact ⟨(flD_v a f.1).1, vrs_flat r f.2⟩
theorem vrs_any {x : D} {v : V} (hx : VR K m H x v) (fx : flD x = true) : ∀ {ds : List D} {vs : List V}, VRs K m H ds vs → ds.all flD = true → inV v vs = ds.any (fun d => eqD d x)
  | _, _, .nil, _ => rfl
  | _, _, .cons a r, f => by
    simp only [List.all_cons, Bool.and_eq_true] at f
    unfold inV
    rw [List.any_cons, List.any_cons, eqV_D a hx f.1 fx]
    exact congrArg _ (vrs_any hx fx r f.2)
instance {neg : Bool} : S2 K (rIn K neg) (oIn neg) := ⟨fun m s H x y v w Q R r hx hy ⟨ds, e1, f1, f2, q⟩ k => by
  obtain ⟨a, vs, rfl, h1, h2⟩ := rd_seq r hy e1
  refine ⟨a, vs, rfl, h1, (flD_v hx f1).1, vrs_flat h2 f2, ?_⟩
  rw [vrs_any hx f1 h2 f2]
  exact k _ s m H _ q (.refl r) (.bl _)⟩
/-! ### equality of data -/
mutual
inductive PD (s : S) : D → PyData → Prop
  | non : PD s .non .none
  | bl (b : Bool) : PD s (.bl b) (.bool b)
  | int (i : Int) : PD s (.int i) (.int i)
  | str (x : Str) : PD s (.str x) (.str x)
  | tup {k : Nat} {ds : List D} {ps : List PyData} (h : PDs s ds ps) : PD s (.tup k ds) (.tuple ps)
  | lst {k : Nat} {ds : List D} {ps : List PyData} (h : PDs s ds ps) : PD s (.lst k ds) (.list ps)
  | rfl {i : Nat} {ds : List D} {ps : List PyData} (e : lstOf s (.rf i) = some ds) (h : PDs s ds ps) : PD s (.rf i) (.list ps)
inductive PDs (s : S) : List D → List PyData → Prop
  | nil : PDs s [] []
  | cons {d : D} {p : PyData} {ds : List D} {ps : List PyData} (h : PD s d p) (t : PDs s ds ps) : PDs s (d :: ds) (p :: ps)
end
mutual
theorem pd_dp (r : Rp K m s H) : ∀ (p : PyData) (d : D) (v : V), VR K m H d v → PD s d p → Dp K H v p
  | _, _, _, .non, .non => .non
  | _, _, _, .bl b, .bl _ => .bl b
  | _, _, _, .int i, .int _ => .int i
  | _, _, _, .str x, .str _ => .str x
  | .tuple ps, .tup k ds, .ref a, .tup h q, .tup t => .tup h.sq (pds_dp r ps ds _ q t)
  | .list ps, .lst k ds, .ref a, .lst h q, .lst t => .lst h.sq (pds_dp r ps ds _ q t)
  | .list ps, .rf i, v, q, .rfl e t => by
    obtain ⟨a, vs, e1, h1, h2⟩ := rd_lst r q e
    subst e1
    exact .lst h1 (pds_dp r ps _ _ h2 t)
theorem pds_dp (r : Rp K m s H) : ∀ (ps : List PyData) (ds : List D) (vs : List V), VRs K m H ds vs → PDs s ds ps → DpAll K H vs ps
  | _, _, _, .nil, .nil => .nil
  | p :: ps, d :: ds, v :: vs, .cons a t, .cons b u => .cons (pd_dp r p d v a b) (pds_dp r ps ds vs t u)
end
def oEqD (neg : Bool) : F2 := fun x y s Q => ∃ p q, PD s x p ∧ PD s y q ∧ SeqAt.shaped p = true ∧ SeqAt.shaped q = true ∧ Q (.bl (if neg then !PyData.eqv p q else PyData.eqv p q)) s
instance : S2 K (rEqD K) (oEqD false) := ⟨fun m s H x y v w Q R r hx hy ⟨p, q, e1, e2, e3, e4, h⟩ k => ⟨p, q, pd_dp r _ _ _ hx e1, pd_dp r _ _ _ hy e2, e3, e4, k _ s m H _ h (.refl r) (.bl _)⟩⟩
instance : S2 K (rNeD K) (oEqD true) := ⟨fun m s H x y v w Q R r hx hy ⟨p, q, e1, e2, e3, e4, h⟩ k => ⟨p, q, pd_dp r _ _ _ hx e1, pd_dp r _ _ _ hy e2, e3, e4, k _ s m H _ h (.refl r) (.bl _)⟩⟩
/-! ### texts -/
def oAddS : F2 := fun x y s Q => ∃ i j, x = .str i ∧ y = .str j ∧ i.length + j.length ≤ sizeLine ∧ Q (.str (i ++ j)) s
instance : S2 K (fun x y H Q => ∃ i j, x = .str i ∧ y = .str j ∧ i.length + j.length ≤ sizeLine ∧ Q (.str (i ++ j)) H) oAddS := ⟨fun m s H x y v w Q R r hx hy ⟨i, j, e1, e2, e3, q⟩ k => by
  subst e1; subst e2
  cases hx; cases hy
  exact ⟨i, j, rfl, rfl, e3, k _ s m H _ q (.refl r) (.str _)⟩⟩
/-! ### tests -/
def fB (fe : FE) : FT := fun e s Q => fe e s fun d s1 => ∃ b, d = .bl b ∧ Q b s1
instance {te : TE} {fe : FE} [h : SE K te fe] : ST K (tB te) (fB fe) := ⟨fun m s H e σ Q R r h0 h1 k => h.run m s H e σ _ _ r h0 h1 fun d s1 m1 H1 v ⟨b, e1, q⟩ a hv => by
  subst e1
  cases hv
  exact ⟨b, rfl, k b s1 m1 H1 q a⟩⟩
def truD (s : S) : D → Option Bool
  | .non => some false
  | .bl b => some b
  | .int i => some (i != 0)
  | .str x => if x.length ≤ sizeLine then some ((x.length : Int) != 0) else none
  | .tup _ ds => some (!ds.isEmpty)
  | .lst _ ds => some (!ds.isEmpty)
  | .rf i => match s[i]? with
    | some (_, .lst ds) => some (!ds.isEmpty)
    | some (false, .dct ds) => some (!ds.isEmpty)
    | _ => none
  | _ => none
theorem emp_vrs {ds : List D} {vs : List V} (h : VRs K m H ds vs) : ds.isEmpty = vs.isEmpty := by cases h <;> rfl
theorem emp_kr {κ : Type} {ds : List (κ × D)} {vs : List (κ × V)} (h : KR K m H ds vs) : ds.isEmpty = vs.isEmpty := by cases h <;> rfl
theorem tru_D {d : D} {v : V} {b : Bool} (r : Rp K m s H) (h : VR K m H d v) (e : truD s d = some b) : TruV K v H b := by
  cases h with
  | non => cases e; rfl
  | bl b => cases e; rfl
  | int i => cases e; rfl
  | str x =>
    by_cases hl : x.length ≤ sizeLine
    · rw [truD, if_pos hl] at e
      cases e
      exact ⟨hl, rfl⟩
    · rw [truD, if_neg hl] at e
      cases e
  | ty t => cases e
  | cl a => cases e
  | tup h q =>
    cases e
    exact .inr (.inl ⟨_, h.sq, by rw [emp_vrs q]⟩)
  | lst h q =>
    cases e
    exact .inl ⟨_, h.sq, by rw [emp_vrs q]⟩
  | @rf i _ hi z =>
    subst z
    cases hs : s[i]? with
    | none => simp [truD, hs] at e
    | some p =>
      obtain ⟨c, o⟩ := p
      cases o with
      | lst es =>
        have e : some (!es.isEmpty) = some b := by rw [← e, truD, hs]
        cases e
        obtain ⟨vs, h1, h2⟩ := r.obj _ _ _ hs
        exact .inl ⟨vs, .inl h1.rd, by rw [emp_vrs h2]⟩
      | dct es =>
        cases c with
        | true => simp [truD, hs] at e
        | false =>
          have e : some (!es.isEmpty) = some b := by rw [← e, truD, hs]
          cases e
          obtain ⟨vs, h1, h2⟩ := r.obj _ _ _ hs
          exact .inr (.inr ⟨vs, h1, by rw [emp_kr h2]⟩)
      | _ => simp [truD, hs] at e
def fTru (fe : FE) : FT := fun e s Q => fe e s fun d s1 => ∃ b, truD s1 d = some b ∧ Q b s1
/-- truth of any value -/
def tTruK (K : PySem.W.Frag) (ta : TE) : TT := fun σ H Q => ta σ H fun x H' => ∃ k, TruV K x H' k ∧ Q k H'
theorem pt_truthS {X : Cx} {a : Expr} {ta : TE} (h : X.K = K) (ha : PE X a ta) (he : ∀ whole, isTrue a X.env whole = (do let v ← whole; standAt a.pos; holding [v] (truthy v))) : PT X a (tTruK K ta) := Mx.pt_truthK h ha he
instance {te : TE} {fe : FE} [h : SE K te fe] : ST K (tTruK K te) (fTru fe) := ⟨fun m s H e σ Q R r h0 h1 k => h.run m s H e σ _ _ r h0 h1 fun d s1 m1 H1 v ⟨b, e1, q⟩ a hv => ⟨b, tru_D a.rp hv e1, k b s1 m1 H1 q a⟩⟩
instance {te : TE} {fe : FE} [h : SE K te fe] : ST K (tTest te) (fB fe) := ⟨fun m s H e σ Q R r h0 h1 k => h.run m s H e σ _ _ r h0 h1 fun d s1 m1 H1 v ⟨b, e1, q⟩ a hv => by
  subst e1
  cases hv
  exact ⟨b, rfl, k b s1 m1 H1 q a⟩⟩
def fNot (t : FT) : FT := fun e s Q => t e s fun b s1 => Q (!b) s1
def fAnd (t u : FT) : FT := fun e s Q => t e s fun b s1 => if b = true then u e s1 Q else Q false s1
def fOr (t u : FT) : FT := fun e s Q => t e s fun b s1 => if b = true then Q true s1 else u e s1 Q
instance {t : TT} {f : FT} [h : ST K t f] : ST K (tNot t) (fNot f) := ⟨fun m s H e σ Q R r h0 h1 k => h.run m s H e σ _ _ r h0 h1 fun b s1 m1 H1 q a => k _ s1 m1 H1 q a⟩
instance {t u : TT} {f g : FT} [h : ST K t f] [h' : ST K u g] : ST K (tAnd t u) (fAnd f g) := ⟨fun m s H e σ Q R r h0 h1 k => h.run m s H e σ _ _ r h0 h1 fun b s1 m1 H1 q a => by
  cases b with
  | true => exact h'.run m1 s1 H1 e σ _ _ a.rp (h0.up a.up) q fun b s2 m2 H2 q2 a2 => k b s2 m2 H2 q2 (a.trans a2)
  | false => exact k _ s1 m1 H1 q a⟩
instance {t u : TT} {f g : FT} [h : ST K t f] [h' : ST K u g] : ST K (tOr t u) (fOr f g) := ⟨fun m s H e σ Q R r h0 h1 k => h.run m s H e σ _ _ r h0 h1 fun b s1 m1 H1 q a => by
  cases b with
  | false => exact h'.run m1 s1 H1 e σ _ _ a.rp (h0.up a.up) q fun b s2 m2 H2 q2 a2 => k b s2 m2 H2 q2 (a.trans a2)
  | true => exact k _ s1 m1 H1 q a⟩
def fYes : FT := fun _ s Q => Q true s
instance : ST K tYes fYes := ⟨fun m s H e σ Q R r h0 h1 k => k _ s m H h1 (.refl r)⟩
def fAndV (t u : FE) : FE := fun e s Q => t e s fun x s1 => ∃ c, x = .bl c ∧ if c = true then u e s1 Q else Q (.bl false) s1
def fOrV (t u : FE) : FE := fun e s Q => t e s fun x s1 => ∃ c, x = .bl c ∧ if c = true then Q (.bl true) s1 else u e s1 Q
def fNotV (t : FE) : FE := fun e s Q => t e s fun x s1 => ∃ c, x = .bl c ∧ Q (.bl (!c)) s1
instance {t u : TE} {f g : FE} [h : SE K t f] [h' : SE K u g] : SE K (tAndV t u) (fAndV f g) := ⟨fun m s H e σ Q R r h0 h1 k => h.run m s H e σ _ _ r h0 h1 fun x s1 m1 H1 v ⟨c, e1, q⟩ a hv => by
  subst e1
  cases hv
  refine ⟨c, rfl, ?_⟩
  cases c with
  | true => exact h'.run m1 s1 H1 e σ _ _ a.rp (h0.up a.up) q fun d s2 m2 H2 v q2 a2 => k d s2 m2 H2 v q2 (a.trans a2)
  | false => exact k _ s1 m1 H1 _ q a (.bl _)⟩
instance {t u : TE} {f g : FE} [h : SE K t f] [h' : SE K u g] : SE K (tOrV t u) (fOrV f g) := ⟨fun m s H e σ Q R r h0 h1 k => h.run m s H e σ _ _ r h0 h1 fun x s1 m1 H1 v ⟨c, e1, q⟩ a hv => by
  subst e1
  cases hv
  refine ⟨c, rfl, ?_⟩
  cases c with
  | false => exact h'.run m1 s1 H1 e σ _ _ a.rp (h0.up a.up) q fun d s2 m2 H2 v q2 a2 => k d s2 m2 H2 v q2 (a.trans a2)
  | true => exact k _ s1 m1 H1 _ q a (.bl _)⟩
instance {t : TE} {f : FE} [h : SE K t f] : SE K (tNotV t) (fNotV f) := ⟨fun m s H e σ Q R r h0 h1 k => h.run m s H e σ _ _ r h0 h1 fun x s1 m1 H1 v ⟨c, e1, q⟩ a hv => by
  subst e1
  cases hv
  exact ⟨c, rfl, k _ s1 m1 H1 _ q a (.bl _)⟩⟩
def fIf (t : FT) (u v : FE) : FE := fun e s Q => t e s fun b s1 => if b = true then u e s1 Q else v e s1 Q
instance {t : TT} {u v : TE} {f : FT} {g g' : FE} [h : ST K t f] [h' : SE K u g] [h2 : SE K v g'] : SE K (tIf t u v) (fIf f g g') := ⟨fun m s H e σ Q R r h0 h1 k => h.run m s H e σ _ _ r h0 h1 fun b s1 m1 H1 q a => by
  cases b with
  | true => exact h'.run m1 s1 H1 e σ _ _ a.rp (h0.up a.up) q fun d s2 m2 H2 v q2 a2 => k d s2 m2 H2 v q2 (a.trans a2)
  | false => exact h2.run m1 s1 H1 e σ _ _ a.rp (h0.up a.up) q fun d s2 m2 H2 v q2 a2 => k d s2 m2 H2 v q2 (a.trans a2)⟩
/-! ### arguments, lists, tuples -/
def fNil : FA := fun _ s Q => Q [] s
def fCons (f : FE) (g : FA) : FA := fun e s Q => f e s fun x s1 => g e s1 fun xs s2 => Q (x :: xs) s2
instance : SA K tNil fNil := ⟨fun m s H e σ Q R r h0 h1 k => k _ s m H _ h1 (.refl r) .nil⟩
instance {t : TE} {u : TA} {f : FE} {g : FA} [h : SE K t f] [h' : SA K u g] : SA K (tCons t u) (fCons f g) := ⟨fun m s H e σ Q R r h0 h1 k => h.run m s H e σ _ _ r h0 h1 fun x s1 m1 H1 v q a hv =>
  h'.run m1 s1 H1 e σ _ _ a.rp (h0.up a.up) q fun xs s2 m2 H2 vs q2 a2 hvs => k _ s2 m2 H2 _ q2 (a.trans a2) (.cons (hv.up a2.up) hvs)⟩
def fTup (g : FA) : FE := fun e s Q => g e s fun xs s1 => xs.length ≤ 100000 ∧ Q (.tup 0 xs) s1
instance {t : TA} {g : FA} [h : SA K t g] : SE K (tTup t) (fTup g) := ⟨fun m s H e σ Q R r h0 h1 k => h.run m s H e σ _ _ r h0 h1 fun xs s1 m1 H1 vs ⟨hl, q⟩ a hv =>
  ⟨Evl.sz_of (by rw [← hv.len]; exact hl), fun p hp => k _ s1 m1 _ _ q (a.trans (.new a.rp hp)) (.tup (k := 0) ⟨a.rp.nim hp, upd_same⟩ (hv.up (Gr.new1 hp).up))⟩⟩
def fLst (g : FA) : FA := fun e s Q => g e s fun xs s1 => xs.length ≤ 100000 ∧ Q xs s1
instance {t : TA} {g : FA} [h : SA K t g] : SN K (tLst t) (fLst g) := ⟨fun m s H e σ Q R r h0 h1 k => h.run m s H e σ _ _ r h0 h1 fun xs s1 m1 H1 vs ⟨hl, q⟩ a hv =>
  ⟨Evl.sz_of (by rw [← hv.len]; exact hl), fun p hp => k _ s1 _ _ p vs q (.start a hp) (hv.up (up_wx hp))⟩⟩
/-- a new list as a value -/
def fVal (f : FA) : FE := fun e s Q => f e s fun xs s1 => Q (.lst 0 xs) s1
instance (priority := 900) {t : TE} {f : FA} [h : SN K t f] : SE K t (fVal f) := ⟨fun m s H e σ Q R r h0 h1 k => h.run m s H e σ _ _ r h0 h1 fun xs s1 m1 H1 p vs q w hv =>
  k _ s1 _ _ _ q w.aft (.lst (k := 0) ⟨w.nim, w.hp⟩ (hv.up w.up))⟩
/-- a new list as a value, or as one more object of the store -/
def Al (xs : List D) (s : S) (Q : D → S → Prop) : Prop := Q (.lst 0 xs) s ∨ Q (.rf s.length) (s ++ [(false, .lst xs)])
def fNew (f : FA) : FE := fun e s Q => f e s fun xs s1 => Al xs s1 Q
theorem se_new {t : TE} {f : FA} (h : SN K t f) : SE K t (fNew f) := ⟨fun m s H e σ Q R r h0 h1 k => h.run m s H e σ _ _ r h0 h1 fun xs s1 m1 H1 p vs q w hv => by
  rcases q with q | q
  · exact k _ s1 _ _ _ q w.aft (.lst (k := 0) ⟨w.nim, w.hp⟩ (hv.up w.up))
  · exact k _ _ _ _ _ q (w.add ⟨vs, w.hp, hv⟩) (.rf (by rw [← w.rp.len]; exact Nat.lt_succ_self _) (by
      rw [← w.rp.len]
      exact congrArg V.ref (M.add_at (m := m1.ux m.x)).symm))⟩
def fDNew (o : O) : FE := fun _ s Q => Q (.rf s.length) (s ++ [(false, o)])
instance : SE K tDNewK (fDNew (.dct [])) := ⟨fun m s H e σ Q R r h0 h1 k p hp => k _ _ (m.add p) _ _ h1 (.add r hp ⟨[], upd_same, .nil⟩) (.rf (by rw [← r.len]; exact Nat.lt_succ_self _) (by rw [← r.len, M.add_at]))⟩
instance : SE K tDNewT (fDNew (.dtt [])) := ⟨fun m s H e σ Q R r h0 h1 k p hp => k _ _ (m.add p) _ _ h1 (.add r hp ⟨[], upd_same, .nil⟩) (.rf (by rw [← r.len]; exact Nat.lt_succ_self _) (by rw [← r.len, M.add_at]))⟩
end
end Sm

set_option Elab.async false
set_option linter.all false
set_option maxRecDepth 100000
set_option maxHeartbeats 4000000
namespace Sm
open PySem PySem.Spec PyProof.Rows L2
section
variable {K : PySem.W.Frag} {m m' m2 : M} {H H' H2 : Hp} {s : S}
/-! ### targets -/
def gNm (i : Nat) : FG := fun d e s Q => Q (e.set i (some d)) s
instance (i : Nat) : SG K (gName i) (gNm i) := ⟨fun m s H e σ x v Q R r h hx q k => k _ s m H _ q (.refl r) (h.set hx i)⟩
def hNil : FGs := fun ds e s Q => ds = [] ∧ Q e s
def hCons (t : FG) (u : FGs) : FGs := fun ds e s Q => ∃ d r, ds = d :: r ∧ t d e s fun e' s' => u r e' s' Q
instance : SGs K gNil hNil := ⟨fun m s H e σ x v Q R r h hx ⟨e1, q⟩ k => by
  subst e1
  cases hx
  exact ⟨rfl, k _ s m H _ q (.refl r) h⟩⟩
instance {t : TG} {u : TGs} {f : FG} {g : FGs} [h : SG K t f] [h' : SGs K u g] : SGs K (gCons t u) (hCons f g) := ⟨fun m s H e σ x v Q R r h0 hx ⟨d, rs, e1, q⟩ k => by
  subst e1
  cases hx with
  | cons a b =>
    exact ⟨_, _, rfl, h.run m s H e σ _ _ _ _ r h0 a q fun e1 s1 m1 H1 σ1 q1 a1 er => h'.run m1 s1 H1 e1 σ1 _ _ _ _ a1.rp er (b.up a1.up) q1 fun e2 s2 m2 H2 σ2 q2 a2 er2 => k e2 s2 m2 H2 σ2 q2 (a1.trans a2) er2⟩⟩
def gTp (n : Nat) (u : FGs) : FG := fun d e s Q => ∃ ds, tupOf d = some ds ∧ ds.length = n ∧ u ds e s Q
instance {n : Nat} {u : TGs} {g : FGs} [h : SGs K u g] : SG K (gTup K n u) (gTp n g) := ⟨fun m s H e σ x v Q R r h0 hx ⟨ds, e1, e2, q⟩ k => by
  obtain ⟨a, vs, rfl, h1, h2⟩ := rd_tup hx e1
  exact ⟨a, vs, rfl, h1, by rw [← h2.len]; exact e2, h.run m s H e σ _ _ _ _ r h0 h2 q k⟩⟩
def gSb (fo fi : FE) : FG := fun d e s Q => fo e s fun o s1 => fi e s1 fun i s2 => ∃ r ds k j, o = .rf r ∧ i = .int k ∧ s2[r]? = some (false, .lst ds) ∧ ixN ds.length k = some j ∧ Q e (s2.set r (false, .lst (ds.set j d)))
instance {to ti : TE} {fo fi : FE} [h : SE K to fo] [h' : SE K ti fi] : SG K (gSub to ti rSetL) (gSb fo fi) := ⟨fun m s H e σ x v Q R r h0 hx q k =>
  h.run m s H e σ _ _ r h0 q fun o s1 m1 H1 ov q1 a1 v1 => h'.run m1 s1 H1 e σ _ _ a1.rp (h0.up a1.up) q1 fun i s2 m2 H2 iv q2 a2 v2 => by
    obtain ⟨p, ds, kk, j, rfl, rfl, hs, hj, q⟩ := q2
    cases v2
    have v1' := v1.up a2.up
    cases v1' with
    | rf hp e1 =>
      subst e1
      obtain ⟨vs, h1, h2⟩ := a2.rp.obj _ _ _ hs
      refine ⟨m2.f p, vs, kk, j, rfl, rfl, h1, by rw [← h2.len]; exact hj, ?_⟩
      have ax := Aft.set (u := .lst (vs.set j v)) (o' := .lst (ds.set j x)) (b' := false) a2.rp hs (fun g => ⟨_, upd_same, (h2.up g.up).set ((hx.up (a1.trans a2).up).up g.up) j⟩) rfl
      exact k _ _ m2 _ _ q ((a1.trans a2).trans ax) (h0.up ((a1.trans a2).trans ax).up)⟩
/-! ### statements -/
def fSeq (t u : FS) : FS := fun D e s => t { D with nx := u D } e s
instance {t u : TS} {f g : FS} [h : SS K t f] [h' : SS K u g] : SS K (tSeq t u) (fSeq f g) := ⟨fun m s H e σ F D' r h0 q d => h.run m s H e σ _ _ r h0 q
  ⟨fun e1 s1 m1 H1 σ1 q1 a1 er => h'.run m1 s1 H1 e1 σ1 F D' a1.rp er q1 (d.to a1), d.bk, d.ct, d.rt⟩⟩
def fNext : FS := fun D e s => D.nx e s
def fBreak : FS := fun D e s => D.bk e s
def fCont : FS := fun D e s => D.ct e s
instance : SS K tNext fNext := ⟨fun m s H e σ F D' r h0 q d => d.nx e s m H σ q (.refl r) h0⟩
instance : SS K tBreak fBreak := ⟨fun m s H e σ F D' r h0 q d => d.bk e s m H σ q (.refl r) h0⟩
instance : SS K tCont fCont := ⟨fun m s H e σ F D' r h0 q d => d.ct e s m H σ q (.refl r) h0⟩
def fDrop (f : FE) : FS := fun D e s => f e s fun _ s1 => D.nx e s1
instance {t : TE} {f : FE} [h : SE K t f] : SS K (tDrop t) (fDrop f) := ⟨fun m s H e σ F D' r h0 q d => h.run m s H e σ _ _ r h0 q fun x s1 m1 H1 v q1 a1 _ => d.nx e s1 m1 H1 σ q1 a1 (h0.up a1.up)⟩
def fRet (f : FE) : FS := fun D e s => f e s D.rt
instance {t : TE} {f : FE} [h : SE K t f] : SS K (tRet t) (fRet f) := ⟨fun m s H e σ F D' r h0 q d => h.run m s H e σ _ _ r h0 q fun x s1 m1 H1 v q1 a1 hv => d.rt x s1 m1 H1 v q1 a1 hv⟩
def fRetN : FS := fun D _ s => D.rt .non s
instance : SS K tRetN fRetN := ⟨fun m s H e σ F D' r h0 q d => d.rt _ s m H _ q (.refl r) .non⟩
def fIfS (c : FT) (t u : FS) : FS := fun D e s => c e s fun b s1 => if b = true then t D e s1 else u D e s1
instance {c : TT} {t u : TS} {fc : FT} {f g : FS} [hc : ST K c fc] [h : SS K t f] [h' : SS K u g] : SS K (tIfS c t u) (fIfS fc f g) := ⟨fun m s H e σ F D' r h0 q d => hc.run m s H e σ _ _ r h0 q fun b s1 m1 H1 q1 a1 => by
  cases b with
  | true => exact h.run m1 s1 H1 e σ F D' a1.rp (h0.up a1.up) q1 (d.to a1)
  | false => exact h'.run m1 s1 H1 e σ F D' a1.rp (h0.up a1.up) q1 (d.to a1)⟩
def fNever : FS := fun _ _ _ => False
instance : SS K tNever fNever := ⟨fun m s H e σ F D' r h0 q d => q.elim⟩
def fAsg (f : FE) (g : FG) : FS := fun D e s => f e s fun d s1 => g d e s1 D.nx
theorem ss_asg {t : TE} {g : TG} {f : FE} {fg : FG} (h : SE K t f) (h' : SG K g fg) : SS K (tAsg t g) (fAsg f fg) := ⟨fun m s H e σ F D' r h0 q d => h.run m s H e σ _ _ r h0 q fun x s1 m1 H1 v q1 a1 hv =>
  h'.run m1 s1 H1 e σ x v _ _ a1.rp (h0.up a1.up) hv q1 fun e2 s2 m2 H2 σ2 q2 a2 er => d.nx e2 s2 m2 H2 σ2 q2 (a1.trans a2) er⟩
instance {t : TE} {g : TG} {f : FE} {fg : FG} [h : SE K t f] [h' : SG K g fg] : SS K (tAsg t g) (fAsg f fg) := ss_asg h h'
instance (priority := 2000) {t : TE} {i : Nat} {f : FA} [h : SN K t f] : SS K (tAsg t (gName i)) (fAsg (fNew f) (gNm i)) := ss_asg (se_new h) inferInstance
def fPar (i j : Nat) (a : FA) : FS := fun D e s => a e s fun ds s1 => ∃ x y, ds = [x, y] ∧ D.nx ((e.set i (some x)).set j (some y)) s1
instance {i j : Nat} {t : TA} {f : FA} [h : SA K t f] : SS K (tPar i j t) (fPar i j f) := ⟨fun m s H e σ F D' r h0 q d => h.run m s H e σ _ _ r h0 q fun ds s1 m1 H1 vs ⟨x, y, e1, q1⟩ a1 hv => by
  subst e1
  cases hv with
  | cons u1 t1 =>
    cases t1 with
    | cons u2 t2 =>
      cases t2
      exact ⟨_, _, rfl, d.nx _ s1 m1 H1 _ q1 a1 (((h0.up a1.up).set u1 i).set u2 j)⟩⟩
def fPar3 (i j l : Nat) (a : FA) : FS := fun D e s => a e s fun ds s1 => ∃ x y z, ds = [x, y, z] ∧ D.nx (((e.set i (some x)).set j (some y)).set l (some z)) s1
instance {i j l : Nat} {t : TA} {f : FA} [h : SA K t f] : SS K (tPar3 i j l t) (fPar3 i j l f) := ⟨fun m s H e σ F D' r h0 q d => h.run m s H e σ _ _ r h0 q fun ds s1 m1 H1 vs ⟨x, y, z, e1, q1⟩ a1 hv => by
  subst e1
  cases hv with
  | cons u1 t1 =>
    cases t1 with
    | cons u2 t2 =>
      cases t2 with
      | cons u3 t3 =>
        cases t3
        exact ⟨_, _, _, rfl, d.nx _ s1 m1 H1 _ q1 a1 ((((h0.up a1.up).set u1 i).set u2 j).set u3 l)⟩⟩
class SIp (K : PySem.W.Frag) (r : TIp) (o : outParam F2) : Prop where
  run : ∀ (m : M) (s : S) (H : Hp) (x y : D) (v w : V) (Q : D → S → Prop) (R : VK), Rp K m s H → VR K m H x v → VR K m H y w → o x y s Q → (∀ d s' m' H' v, Q d s' → Aft K m s H m' s' H' → VR K m' H' d v → R v H') → r v w H R
instance {f : Int → Int → Int} : SIp K (ipI f) (oI0 fun i j => .int (f i j)) := ⟨fun m s H x y v w Q R r hx hy ⟨i, j, e1, e2, f, q⟩ k => by
  subst e1; subst e2
  cases hx; cases hy
  exact ⟨i, j, rfl, rfl, k _ s m H _ q (.refl r) (.int _)⟩⟩
def fAug (i : Nat) (f : FE) (o : F2) : FS := fun D e s => ∃ x, e[i]? = some (some x) ∧ f e s fun y s1 => o x y s1 fun z s2 => D.nx (e.set i (some z)) s2
instance {i : Nat} {t : TE} {ip : TIp} {f : FE} {o : F2} [h : SE K t f] [h' : SIp K ip o] : SS K (tAug i t ip) (fAug i f o) := ⟨fun m s H e σ F D' r h0 ⟨x, ex, q⟩ d => by
  obtain ⟨v, h1, h2⟩ := h0.at' i x ex
  exact ⟨v, h1, h.run m s H e σ _ _ r h0 q fun y s1 m1 H1 w q1 a1 hw => h'.run m1 s1 H1 x y v w _ _ a1.rp (h2.up a1.up) hw q1 fun z s2 m2 H2 u q2 a2 hu => d.nx _ s2 m2 H2 _ q2 (a1.trans a2) ((h0.up (a1.trans a2).up).set hu i)⟩⟩
def fWhile (c : FT) (b : FS) : FS := fun D e s => ∃ W : Nat → En → S → Prop, (∃ k, W k e s) ∧ ∀ k e s, W k e s →
  c e s fun t s1 => if t = true then ∃ N : En → S → Prop, (∀ e' s', N e' s' → ∃ k', k' < k ∧ W k' e' s') ∧ b { D with nx := N, ct := N, bk := D.nx } e s1 else D.nx e s1
instance {c : TT} {b : TS} {fc : FT} {f : FS} [hc : ST K c fc] [h : SS K b f] : SS K (tWhile c b) (fWhile fc f) := ⟨fun m s H e σ F D' r h0 ⟨W, ⟨k0, w0⟩, st⟩ d =>
  ⟨fun k σ' H' => ∃ m1 s1 e1, Aft K m s H m1 s1 H' ∧ ER K m1 H' e1 σ' ∧ W k e1 s1, ⟨k0, m, s, e, .refl r, h0, w0⟩, fun k σ' H' ⟨m1, s1, e1, a1, er, w⟩ =>
    hc.run m1 s1 H' e1 σ' _ _ a1.rp er (st k e1 s1 w) fun t s2 m2 H2 q a2 => by
      cases t with
      | false => exact d.nx e1 s2 m2 H2 σ' q (a1.trans a2) (er.up a2.up)
      | true =>
        obtain ⟨N, hN, q⟩ := q
        refine ⟨fun σ3 H3 => ∃ m3 s3 e3, Aft K m s H m3 s3 H3 ∧ ER K m3 H3 e3 σ3 ∧ N e3 s3, fun σ3 H3 ⟨m3, s3, e3, a3, er3, n3⟩ => ?_, h.run m2 s2 H2 e1 σ' _ _ a2.rp (er.up a2.up) q ?_⟩
        · obtain ⟨k', hk, w'⟩ := hN e3 s3 n3
          exact ⟨k', hk, m3, s3, e3, a3, er3, w'⟩
        · have a12 := a1.trans a2
          exact ⟨fun e3 s3 m3 H3 σ3 n3 a3 er3 => ⟨m3, s3, e3, a12.trans a3, er3, n3⟩, fun e3 s3 m3 H3 σ3 n3 a3 er3 => d.nx e3 s3 m3 H3 σ3 n3 (a12.trans a3) er3, fun e3 s3 m3 H3 σ3 n3 a3 er3 => ⟨m3, s3, e3, a12.trans a3, er3, n3⟩, fun x s3 m3 H3 v n3 a3 hv => d.rt x s3 m3 H3 v n3 (a12.trans a3) hv⟩⟩⟩
/-! ### for -/
/-- by an invariant -/
def forI (chk : S → Prop) (g : FG) (b : FS) (F : FEnds) (ds : List D) (e : En) (s : S) : Prop := ∃ I : Nat → En → S → Prop, I 0 e s ∧
  (∀ i d e s, ds[i]? = some d → I i e s → chk s ∧ g d e s fun e1 s1 => b { F with nx := I (i + 1), ct := I (i + 1), bk := F.nx } e1 s1) ∧ ∀ e s, I ds.length e s → chk s ∧ F.nx e s
def fFor (fi : FI) (g : FG) (b : FS) : FS := fun F e s => fi e s fun ds chk s1 => forI chk g b F ds e s1
instance {wi : TI} {g : TG} {b : TS} {fi : FI} {fg : FG} {fb : FS} [hi : SI K wi fi] [hg : SG K g fg] [hb : SS K b fb] : SS K (tFor wi g b) (fFor fi fg fb) := ⟨fun m s H e σ F D' r h0 q d =>
  hi.run m s H e σ _ _ r h0 q fun ds chk s1 m1 H1 J ⟨I, i0, st, fin⟩ a1 ok =>
    ⟨fun i k σ2 H2 => ∃ m2 s2 e2, Aft K m1 s1 H1 m2 s2 H2 ∧ ER K m2 H2 e2 σ2 ∧ I i e2 s2 ∧ k + i = ds.length, ⟨ds.length, m1, s1, e, .refl a1.rp, h0.up a1.up, i0, rfl⟩,
      fun i k σ2 H2 ⟨m2, s2, e2, a2, er, q2, hk⟩ => by
        cases hx : ds[i]? with
        | none =>
          have hi : i = ds.length := by
            have := List.getElem?_eq_none_iff.mp hx
            omega
          rw [hi] at q2
          obtain ⟨c, q2⟩ := fin e2 s2 q2
          exact .inl ⟨ok.stop m2 s2 H2 i a2.lt c (by omega), d.nx e2 s2 m2 H2 σ2 q2 (a1.trans a2) er⟩
        | some x =>
          have li : i < ds.length := (List.getElem?_eq_some_iff.mp hx).1
          obtain ⟨c, q2⟩ := st i x e2 s2 hx q2
          obtain ⟨g1, g2⟩ := ok.go m2 s2 H2 i x a2.lt c hx
          refine .inr ⟨g1, fun σ3 H3 => ∃ m3 s3 e3, Aft K m1 s1 H1 m3 s3 H3 ∧ ER K m3 H3 e3 σ3 ∧ I (i + 1) e3 s3, fun σ3 H3 ⟨m3, s3, e3, a3, er3, q3⟩ => ⟨k - 1, by omega, m3, s3, e3, a3, er3, q3, by omega⟩, fun xv H3 hy => ?_⟩
          obtain ⟨a3, hv⟩ := g2 xv H3 hy
          refine hg.run m2 s2 H3 e2 σ2 x xv _ _ a3.rp (er.up a3.up) hv q2 fun e4 s4 m4 H4 σ4 q4 a4 er4 => ?_
          have a14 := (a2.trans a3).trans a4
          exact hb.run m4 s4 H4 e4 σ4 _ _ a4.rp er4 q4 ⟨fun e5 s5 m5 H5 σ5 q5 a5 er5 => ⟨m5, s5, e5, a14.trans a5, er5, q5⟩, fun e5 s5 m5 H5 σ5 q5 a5 er5 => d.nx e5 s5 m5 H5 σ5 q5 (a1.trans (a14.trans a5)) er5, fun e5 s5 m5 H5 σ5 q5 a5 er5 => ⟨m5, s5, e5, a14.trans a5, er5, q5⟩, fun y s5 m5 H5 v q5 a5 hv5 => d.rt y s5 m5 H5 v q5 (a1.trans (a14.trans a5)) hv5⟩⟩⟩
/-! ### what is walked -/
def fiList (f : FE) : FI := fun e s R => f e s fun d s1 => ∃ ds, lstOf s1 d = some ds ∧ R ds (fun s2 => lstOf s2 d = some ds) s1
theorem sql_uni {a : Addr} {xs ys : List V} (h : SqL K H a xs) (k : SqL K H a ys) (hk : ∀ o, H a ≠ some o → True) : True := True.intro
instance {t : TE} {f : FE} [h : SE K t f] : SI K (iList K t) (fiList f) := ⟨fun m s H e σ Q R r h0 q k => h.run m s H e σ _ _ r h0 q fun d s1 m1 H1 v ⟨ds, e1, q1⟩ a1 hv => by
  obtain ⟨a, vs, rfl, h1, h2⟩ := rd_lst a1.rp hv e1
  refine ⟨a, rfl, ⟨vs, h1⟩, k ds _ s1 m1 H1 (Itl K a) q1 a1 ⟨fun m2 s2 H2 i x a2 c hx => ?_, fun m2 s2 H2 i a2 c hi => ?_⟩⟩
  · obtain ⟨a', ws, e2, h3, h4⟩ := rd_lst a2.rp (hv.up a2.up) c
    obtain rfl : a = a' := V.ref.inj e2
    obtain ⟨w, h5, h6⟩ := h4.get hx
    refine ⟨⟨ws, w, h3, h5⟩, fun y H3 hy => ?_⟩
    obtain ⟨rfl, hy⟩ := hy
    have := hy ws h3
    rw [h5] at this
    cases this
    exact ⟨.refl a2.rp, h6⟩
  · obtain ⟨a', ws, e2, h3, h4⟩ := rd_lst a2.rp (hv.up a2.up) c
    obtain rfl : a = a' := V.ref.inj e2
    exact ⟨ws, h3, by rw [← h4.len]; exact hi⟩⟩
def fiTup (f : FE) : FI := fun e s R => f e s fun d s1 => ∃ ds, tupOf d = some ds ∧ R ds (fun _ => True) s1
instance {t : TE} {f : FE} [h : SE K t f] : SI K (iTup K t) (fiTup f) := ⟨fun m s H e σ Q R r h0 q k => h.run m s H e σ _ _ r h0 q fun d s1 m1 H1 v ⟨ds, e1, q1⟩ a1 hv => by
  obtain ⟨a, vs, rfl, h1, h2⟩ := rd_tup hv e1
  refine ⟨a, rfl, ⟨vs, h1⟩, k ds _ s1 m1 H1 (Itt K a) q1 a1 ⟨fun m2 s2 H2 i x a2 c hx => ?_, fun m2 s2 H2 i a2 c hi => ?_⟩⟩
  · obtain ⟨a', ws, e2, h3, h4⟩ := rd_tup (hv.up a2.up) e1
    obtain rfl : a = a' := V.ref.inj e2
    obtain ⟨w, h5, h6⟩ := h4.get hx
    refine ⟨⟨ws, w, h3, h5⟩, fun y H3 hy => ?_⟩
    obtain ⟨rfl, hy⟩ := hy
    have := hy ws h3
    rw [h5] at this
    cases this
    exact ⟨.refl a2.rp, h6⟩
  · obtain ⟨a', ws, e2, h3, h4⟩ := rd_tup (hv.up a2.up) e1
    obtain rfl : a = a' := V.ref.inj e2
    exact ⟨ws, h3, by rw [← h4.len]; exact hi⟩⟩
def fiOr (f g : FI) : FI := fun e s R => f e s R ∨ g e s R
instance {w1 w2 : TI} {f g : FI} [h : SI K w1 f] [h' : SI K w2 g] : SI K (Mx.tI2 w1 w2) (fiOr f g) := ⟨fun m s H e σ Q R r h0 q k => q.elim (fun q => .inl (h.run m s H e σ _ _ r h0 q k)) fun q => .inr (h'.run m s H e σ _ _ r h0 q k)⟩
def rngD (lo c : Int) (n : Nat) : List D := (List.range n).map fun i => D.int (lo + (i : Nat) * c)
theorem rngD_len {lo c : Int} {n : Nat} : (rngD lo c n).length = n := by unfold rngD; simp
theorem rngD_get {lo c : Int} {n i : Nat} {x : D} (h : (rngD lo c n)[i]? = some x) : i < n ∧ x = .int (lo + (i : Nat) * c) := by
  have li : i < n := by
    have := (List.getElem?_eq_some_iff.mp h).1
    rw [rngD_len] at this
    exact this
  unfold rngD at h
  rw [List.getElem?_map, List.getElem?_range li] at h
  exact ⟨li, (Option.some.inj h).symm⟩
theorem it_rng {s : S} {lo : Int} {n : Nat} : ItOk K m s H (Itr lo n) (rngD lo 1 n) (fun _ => True) := ⟨fun m2 s2 H2 i x a2 c hx => by
  obtain ⟨h1, rfl⟩ := rngD_get hx
  refine ⟨h1, fun y H3 hy => ?_⟩
  obtain ⟨rfl, rfl⟩ := hy
  exact ⟨.refl a2.rp, by rw [Int.mul_one]; exact .int _⟩, fun m2 s2 H2 i a2 c hi => by
  rw [rngD_len] at hi
  exact hi⟩
theorem it_rngC {s : S} {lo cc : Int} {n : Nat} : ItOk K m s H (Itc lo cc n) (rngD lo cc n) (fun _ => True) := ⟨fun m2 s2 H2 i x a2 c hx => by
  obtain ⟨h1, rfl⟩ := rngD_get hx
  refine ⟨h1, fun y H3 hy => ?_⟩
  obtain ⟨rfl, rfl⟩ := hy
  exact ⟨.refl a2.rp, .int _⟩, fun m2 s2 H2 i a2 c hi => by
  rw [rngD_len] at hi
  exact hi⟩
def fiR1 (g : FA) : FI := fun e s R => g e s fun ds s1 => ∃ j : Int, ds = [.int j] ∧ (-(2 ^ 62) ≤ j ∧ j < 2 ^ 62) ∧ R (rngD 0 1 j.toNat) (fun _ => True) s1
instance {t : TA} {g : FA} [h : SA K t g] : SI K (iRng1 t) (fiR1 g) := ⟨fun m s H e σ Q R r h0 q k => h.run m s H e σ _ _ r h0 q fun ds s1 m1 H1 vs ⟨j, e1, ⟨b1, b2⟩, q1⟩ a1 hv => by
  subst e1
  cases hv with
  | cons u t =>
    cases u; cases t
    exact ⟨j, rfl, b1, b2, k _ _ s1 m1 H1 _ q1 a1 it_rng⟩⟩
def fiR2 (g : FA) : FI := fun e s R => g e s fun ds s1 => ∃ i j : Int, ds = [.int i, .int j] ∧ (-(2 ^ 62) ≤ i ∧ i < 2 ^ 62 ∧ -(2 ^ 62) ≤ j ∧ j < 2 ^ 62) ∧ R (rngD i 1 (j - i).toNat) (fun _ => True) s1
instance {t : TA} {g : FA} [h : SA K t g] : SI K (iRng2 t) (fiR2 g) := ⟨fun m s H e σ Q R r h0 q k => h.run m s H e σ _ _ r h0 q fun ds s1 m1 H1 vs ⟨i, j, e1, b, q1⟩ a1 hv => by
  subst e1
  cases hv with
  | cons u t =>
    cases t with
    | cons u2 t =>
      cases u; cases u2; cases t
      exact ⟨i, j, rfl, b, k _ _ s1 m1 H1 _ q1 a1 it_rng⟩⟩
def fiR3 (g : FA) : FI := fun e s R => g e s fun ds s1 => ∃ (i j c : Int) (n : Nat), ds = [.int i, .int j, .int c] ∧ RgC i j c n ∧ R (rngD i c n) (fun _ => True) s1
instance {t : TA} {g : FA} [h : SA K t g] : SI K (iRng3 t) (fiR3 g) := ⟨fun m s H e σ Q R r h0 q k => h.run m s H e σ _ _ r h0 q fun ds s1 m1 H1 vs ⟨i, j, c, n, e1, b, q1⟩ a1 hv => by
  subst e1
  cases hv with
  | cons u t =>
    cases t with
    | cons u2 t =>
      cases t with
      | cons u3 t =>
        cases u; cases u2; cases u3; cases t
        exact ⟨i, j, c, n, rfl, b, k _ _ s1 m1 H1 _ q1 a1 it_rngC⟩⟩
/-- the keys of a locked dict -/
def kD : Key → D
  | .inl i => .int i
  | .inr x => .str x
theorem vr_key {k : Key} : VR K m H (kD k) (kV k) := by
  cases k with
  | inl i => exact .int i
  | inr x => exact .str x
theorem vr_keys : ∀ {k : List Key}, VRs K m H (k.map kD) (k.map kV)
  | [] => .nil
  | _ :: _ => .cons vr_key vr_keys
def fiKeys (f : FE) : FI := fun e s R => f e s fun d s1 => ∃ r, d = .rf r ∧ ∃ kvs, s1[r]? = some (true, .dct kvs) ∧ R (kvs.map fun p => kD p.1) (fun s2 => s2[r]? = some (true, .dct kvs)) s1
instance {t : TE} {f : FE} [h : SE K t f] : SI K (iKeys t) (fiKeys f) := ⟨fun m s H e σ Q R r h0 q k => h.run m s H e σ _ _ r h0 q fun d s1 m1 H1 v ⟨r1, e1, kvs, hs, q1⟩ a1 hv => by
  subst e1
  cases hv with
  | rf hi e2 =>
    subst e2
    obtain ⟨ws, ⟨od, h1⟩, h2⟩ := a1.rp.obj _ _ _ hs
    refine ⟨m1.f r1, od, rfl, .inl ⟨ws, h1, k _ _ s1 m1 H1 _ q1 a1 ⟨fun m2 s2 H2 i x a2 c hx => ?_, fun m2 s2 H2 i a2 c hi2 => ?_⟩⟩⟩
    · obtain ⟨_, z⟩ := a2.lk r1 _ hs
      rw [h1] at z
      have ek : kvs.map (fun p => kD p.1) = (ws.map (·.1)).map kD := by
        rw [← h2.keys, List.map_map] <;> rfl
      rw [ek] at hx
      rw [List.getElem?_map, List.getElem?_map] at hx
      cases hw : ws[i]? with
      | none => rw [hw] at hx; cases hx
      | some p =>
        rw [hw] at hx
        cases hx
        obtain ⟨kk, vv⟩ := p
        refine ⟨⟨z, (List.getElem?_eq_some_iff.mp hw).1⟩, fun y H3 hy => ?_⟩
        obtain ⟨rfl, k2, v2, hk2, rfl⟩ := hy
        rw [hw] at hk2
        cases hk2
        exact ⟨.refl a2.rp, vr_key⟩
    · obtain ⟨_, z⟩ := a2.lk r1 _ hs
      rw [h1] at z
      rw [List.length_map, h2.len] at hi2
      exact ⟨z, hi2⟩⟩
/-- a loop over what stays: locked -/
def fLock (t : FS) : FS := fun F e s => ∃ i o, s[i]? = some (false, o) ∧ t ⟨fun e' s' => s'[i]? = some (true, o) ∧ F.nx e' (s'.set i (false, o)), fun d s' => s'[i]? = some (true, o) ∧ F.rt d (s'.set i (false, o)), fun e' s' => s'[i]? = some (true, o) ∧ F.bk e' (s'.set i (false, o)), fun e' s' => s'[i]? = some (true, o) ∧ F.ct e' (s'.set i (false, o))⟩ e (s.set i (true, o))
theorem or_mut {a : Addr} {o : O} (h : OR K m H a false o) : ∃ u, H a = some u ∧ Mut (some u) ∧ ∀ {m2 : M} {H2 : Hp}, Up m H m2 H2 → (∀ od, H2 a = some (.frz od u) → OR K m2 H2 a true o) ∧ (H2 a = some u → OR K m2 H2 a false o) := by
  cases o with
  | lst ds => obtain ⟨vs, h1, h2⟩ := h; exact ⟨_, h1, trivial, fun g => ⟨fun od z => ⟨vs, ⟨od, z⟩, h2.up g⟩, fun z => ⟨vs, z, h2.up g⟩⟩⟩
  | dct ds => obtain ⟨vs, h1, h2⟩ := h; exact ⟨_, h1, trivial, fun g => ⟨fun od z => ⟨vs, ⟨od, z⟩, h2.up g⟩, fun z => ⟨vs, z, h2.up g⟩⟩⟩
  | dtt ds => obtain ⟨vs, h1, h2⟩ := h; exact ⟨_, h1, trivial, fun g => ⟨fun od z => ⟨vs, ⟨od, z⟩, h2.up g⟩, fun z => ⟨vs, z, h2.up g⟩⟩⟩
  | ins C ds => obtain ⟨dx, vs, h1, h2⟩ := h; exact ⟨_, h1, trivial, fun g => ⟨fun od z => ⟨dx, vs, ⟨od, z⟩, h2.up g⟩, fun z => ⟨dx, vs, z, h2.up g⟩⟩⟩
theorem aft_unlock {s s' : S} {i : Nat} {o : O} {u : HO} {od : Obj} (r : Rp K m s H) (hs : s[i]? = some (false, o)) (hu : H (m.f i) = some u) (hm : ∀ {m2 : M} {H2 : Hp}, Up m H m2 H2 → (∀ od, H2 (m.f i) = some (.frz od u) → OR K m2 H2 (m.f i) true o) ∧ (H2 (m.f i) = some u → OR K m2 H2 (m.f i) false o))
    (a1 : Aft K m s H m (s.set i (true, o)) (upd H (m.f i) (.frz od u))) (a : Aft K m (s.set i (true, o)) (upd H (m.f i) (.frz od u)) m' s' H') (hs' : s'[i]? = some (true, o)) : H' (m.f i) = some (.frz od u) ∧ Aft K m s H m' (s'.set i (false, o)) (upd H' (m.f i) u) ∧ Up m' H' m' (upd H' (m.f i) u) := by
  have li : i < m.n := by rw [r.len]; exact (List.getElem?_eq_some_iff.mp hs).1
  have li' : i < m'.n := Nat.lt_of_lt_of_le li a.gr.le
  have fi : m'.f i = m.f i := a.gr.same i li
  have hl : i < s.length := (List.getElem?_eq_some_iff.mp hs).1
  have z1 : H' (m.f i) = some (.frz od u) := by
    obtain ⟨_, z⟩ := a.lk i o (List.getElem?_set_self hl)
    rw [upd_same] at z
    exact z
  have up2 : Up m' H' m' (upd H' (m.f i) u) := ⟨Nat.le_refl _, fun _ _ => rfl, fun a o h _ => h, fun b o h e => by rw [upd_ne fun z => h.1 i li' (by rw [fi, z])]; exact e⟩
  have gr : Gr m H m' (upd H' (m.f i) u) := by
    have g := a1.gr.trans a.gr
    exact ⟨g.le, g.same, g.ex, g.new, fun b o h e => by rw [upd_ne fun z => h i li z.symm]; exact g.keep b o h e, fun b o e => by
      by_cases q : b = m.f i
      · exact ⟨u, by rw [q, upd_same]⟩
      · rw [upd_ne q]; exact g.dom b o e⟩
  refine ⟨z1, ⟨gr, ⟨by rw [List.length_set]; exact a.rp.len, fun j c p h => ?_, a.rp.inj, fun b hb => ?_, a.rp.sep⟩, fun j p h => ?_, r.len⟩, up2⟩
  · by_cases q : i = j
    · subst q
      rw [List.getElem?_set_self (by rw [← a.rp.len]; exact li')] at h
      obtain ⟨rfl, rfl⟩ : false = c ∧ o = p := by
        have : (false, o) = (c, p) := by simpa using h
        exact ⟨congrArg Prod.fst this, congrArg Prod.snd this⟩
      rw [fi]
      exact (hm gr.up).2 upd_same
    · rw [List.getElem?_set_ne q] at h
      have lj : j < m'.n := by rw [a.rp.len]; exact (List.getElem?_eq_some_iff.mp h).1
      exact or_up (a.rp.obj j c p h) up2 fun v e => by rw [upd_ne fun z => q (a.rp.inj i j li' lj (fi.trans z.symm))]; exact e
  · obtain ⟨v, e⟩ := a.rp.ex b hb
    exact ⟨v, by rw [upd_ne fun z => a.rp.sep i li' (by rw [fi, ← z]; exact hb)]; exact e⟩
  · have ne : i ≠ j := fun z => by
      rw [← z, hs] at h
      exact Bool.noConfusion (congrArg Prod.fst (Option.some.inj h))
    have lj : j < m.n := by rw [r.len]; exact (List.getElem?_eq_some_iff.mp h).1
    obtain ⟨h1, h2⟩ := a1.lk j p h
    obtain ⟨h3, h4⟩ := a.lk j p h1
    exact ⟨by rw [List.getElem?_set_ne ne]; exact h3, by
      rw [upd_ne fun z => ne (r.inj i j li lj z.symm), h4, h2]⟩
instance {t : TS} {f : FS} [h : SS K t f] : SS K (tLock t) (fLock f) := ⟨fun m s H e σ F D' r h0 ⟨i, o, hs, q⟩ d => by
  obtain ⟨u, hu, hmu, hor⟩ := or_mut (r.obj i _ _ hs)
  refine ⟨m.f i, u, hu, hmu, fun od => ?_⟩
  have a1 : Aft K m s H m (s.set i (true, o)) (upd H (m.f i) (.frz od u)) := .set r hs (fun g => (hor g.up).1 od upd_same) rfl
  refine h.run m _ _ e σ _ _ a1.rp (h0.up a1.up) q ⟨fun e2 s2 m2 H2 σ2 ⟨c, q2⟩ a2 er => ?_, fun e2 s2 m2 H2 σ2 ⟨c, q2⟩ a2 er => ?_, fun e2 s2 m2 H2 σ2 ⟨c, q2⟩ a2 er => ?_, fun x s2 m2 H2 v ⟨c, q2⟩ a2 hv => ?_⟩
  · obtain ⟨z, a3, u3⟩ := aft_unlock r hs hu hor a1 a2 c
    exact ⟨z, d.nx e2 _ m2 _ σ2 q2 a3 (er.up u3)⟩
  · obtain ⟨z, a3, u3⟩ := aft_unlock r hs hu hor a1 a2 c
    exact ⟨z, d.bk e2 _ m2 _ σ2 q2 a3 (er.up u3)⟩
  · obtain ⟨z, a3, u3⟩ := aft_unlock r hs hu hor a1 a2 c
    exact ⟨z, d.ct e2 _ m2 _ σ2 q2 a3 (er.up u3)⟩
  · obtain ⟨z, a3, u3⟩ := aft_unlock r hs hu hor a1 a2 c
    exact ⟨z, d.rt x _ m2 _ v q2 a3 (hv.up u3)⟩⟩
def fLockE (f : FE) : FE := fun e s Q => ∃ i o, s[i]? = some (false, o) ∧ f e (s.set i (true, o)) fun d s' => s'[i]? = some (true, o) ∧ Q d (s'.set i (false, o))
instance {t : TE} {f : FE} [h : SE K t f] : SE K (tLockE t) (fLockE f) := ⟨fun m s H e σ Q R r h0 ⟨i, o, hs, q⟩ k => by
  obtain ⟨u, hu, hmu, hor⟩ := or_mut (r.obj i _ _ hs)
  refine ⟨m.f i, u, hu, hmu, fun od => ?_⟩
  have a1 : Aft K m s H m (s.set i (true, o)) (upd H (m.f i) (.frz od u)) := .set r hs (fun g => (hor g.up).1 od upd_same) rfl
  refine h.run m _ _ e σ _ _ a1.rp (h0.up a1.up) q fun x s2 m2 H2 v ⟨c, q2⟩ a2 hv => ?_
  obtain ⟨z, a3, u3⟩ := aft_unlock r hs hu hor a1 a2 c
  exact ⟨z, k x _ m2 _ v q2 a3 (hv.up u3)⟩⟩
end
end Sm

set_option Elab.async false
set_option linter.all false
set_option maxRecDepth 100000
set_option maxHeartbeats 4000000
namespace Sm
open PySem PySem.Spec PyProof.Rows L2
/-! ### dicts and fields -/
section
variable {κ : Type} [DecidableEq κ]
def getD (kvs : List (κ × D)) (k : κ) : Option D := (kvs.find? fun kv => decide (kv.1 = k)).map (·.2)
def putD (kvs : List (κ × D)) (k : κ) (v : D) : List (κ × D) := if (kvs.any fun kv => decide (kv.1 = k)) = true then kvs.map (fun kv => if kv.1 = k then (kv.1, v) else kv) else kvs ++ [(k, v)]
def dropD (kvs : List (κ × D)) (k : κ) : List (κ × D) := kvs.filter fun kv => decide (kv.1 ≠ k)
end
def putFD (f : Str) (v : D) : List (Str × D) → List (Str × D)
  | [] => [(f, v)]
  | (g, x) :: r => if g = f then (g, v) :: r else (g, x) :: putFD f v r
section
variable {κ : Type} [DecidableEq κ] {K : PySem.W.Frag} {m : M} {H : Hp}
theorem kr_get {k : κ} : ∀ {kvs : List (κ × D)} {ws : List (κ × V)}, KR K m H kvs ws → (∀ d, getD kvs k = some d → ∃ v, valV ws k = some v ∧ VR K m H d v) ∧ (getD kvs k = none → valV ws k = none)
  | _, _, .nil => ⟨fun d h => (by cases h), fun _ => rfl⟩
  | _, _, .cons (k := k2) a r => by
    obtain ⟨h1, h2⟩ := kr_get (k := k) r
    unfold getD valV
    rw [List.find?_cons, List.find?_cons]
    by_cases q : k2 = k
    · rw [show decide (k2 = k) = true from decide_eq_true q]
      exact ⟨fun d h => (by cases h; exact ⟨_, rfl, a⟩), fun h => (by cases h)⟩
    · rw [show decide (k2 = k) = false from decide_eq_false q]
      exact ⟨h1, h2⟩
theorem kr_any {k : κ} : ∀ {kvs : List (κ × D)} {ws : List (κ × V)}, KR K m H kvs ws → (kvs.any fun kv => decide (kv.1 = k)) = ws.any fun kv => decide (kv.1 = k)
  | _, _, .nil => rfl
  | _, _, .cons a r => by rw [List.any_cons, List.any_cons, kr_any r]
theorem kr_app : ∀ {kvs kvs2 : List (κ × D)} {ws ws2 : List (κ × V)}, KR K m H kvs ws → KR K m H kvs2 ws2 → KR K m H (kvs ++ kvs2) (ws ++ ws2)
  | _, _, _, _, .nil, q => q
  | _, _, _, _, .cons a r, q => .cons a (kr_app r q)
theorem kr_map {k : κ} {d : D} {v : V} (h : VR K m H d v) : ∀ {kvs : List (κ × D)} {ws : List (κ × V)}, KR K m H kvs ws → KR K m H (kvs.map fun kv => if kv.1 = k then (kv.1, d) else kv) (ws.map fun kv => if kv.1 = k then (kv.1, v) else kv)
  | _, _, .nil => .nil
  | _, _, .cons (k := k2) a r => by
    rw [List.map_cons, List.map_cons]
    by_cases q : k2 = k
    · rw [if_pos q, if_pos q]
      exact .cons h (kr_map h r)
    · rw [if_neg q, if_neg q]
      exact .cons a (kr_map h r)
theorem kr_put {k : κ} {d : D} {v : V} {kvs : List (κ × D)} {ws : List (κ × V)} (r : KR K m H kvs ws) (h : VR K m H d v) : KR K m H (putD kvs k d) (putK ws k v) := by
  unfold putD putK
  rw [kr_any r]
  split
  · exact kr_map h r
  · exact kr_app r (.cons h .nil)
theorem kr_drop {k : κ} : ∀ {kvs : List (κ × D)} {ws : List (κ × V)}, KR K m H kvs ws → KR K m H (dropD kvs k) (dropK ws k)
  | _, _, .nil => .nil
  | _, _, .cons (k := k2) a r => by
    unfold dropD dropK
    rw [List.filter_cons, List.filter_cons]
    by_cases q : k2 ≠ k
    · rw [if_pos (decide_eq_true q), if_pos (decide_eq_true q)]
      exact .cons a (kr_drop r)
    · rw [if_neg (fun z => q (of_decide_eq_true z)), if_neg (fun z => q (of_decide_eq_true z))]
      exact kr_drop r
theorem kr_putF {f : Str} {d : D} {v : V} (h : VR K m H d v) : ∀ {fs : List (Str × D)} {ws : List (Str × V)}, KR K m H fs ws → KR K m H (putFD f d fs) (putF f v ws)
  | _, _, .nil => .cons h .nil
  | _, _, .cons (k := k2) a r => by
    unfold putFD putF
    by_cases q : k2 = f
    · rw [if_pos q, if_pos q]
      exact .cons h r
    · rw [if_neg q, if_neg q]
      exact .cons a (kr_putF h r)
theorem kr_lookup {f : Str} : ∀ {fs : List (Str × D)} {ws : List (Str × V)}, KR K m H fs ws → (∀ d, fs.lookup f = some d → ∃ v, ws.lookup f = some v ∧ VR K m H d v) ∧ (fs.lookup f = none → ws.lookup f = none)
  | _, _, .nil => ⟨fun d h => (by cases h), fun _ => rfl⟩
  | _, _, .cons (k := k2) a r => by
    obtain ⟨h1, h2⟩ := kr_lookup (f := f) r
    rw [List.lookup_cons, List.lookup_cons]
    cases q : f == k2 with
    | true => exact ⟨fun d h => (by cases h; exact ⟨_, rfl, a⟩), fun h => (by cases h)⟩
    | false => exact ⟨h1, h2⟩
end
section
variable {K : PySem.W.Frag} {m m' m2 : M} {H H' H2 : Hp} {s : S}
/-- what the dict holds at a key -/
def keyOf : D → Option Key
  | .int i => some (.inl i)
  | .str x => some (.inr x)
  | _ => none
theorem keyOf_v {d : D} {v : V} {k : Key} (h : VR K m H d v) (e : keyOf d = some k) : v = kV k := by
  cases h <;> (first | cases e) <;> rfl
/-- a tuple of ints and texts as a key -/
def keysOf : D → Option (List Key)
  | .tup 0 ds => ds.mapM keyOf
  | _ => none
theorem keys_v : ∀ {ds : List D} {vs : List V} {ks : List Key}, VRs K m H ds vs → ds.mapM keyOf = some ks → vs = ks.map kV
  | _, _, ks, .nil, e => by
    have e : some [] = some ks := e
    cases e; rfl
  | _, _, ks, .cons (d := d) (ds := ds) a r, e => by
    rw [List.mapM_cons] at e
    cases h1 : keyOf d with
    | none => rw [h1] at e; cases e
    | some k =>
      cases h2 : ds.mapM keyOf with
      | none => rw [h1, h2] at e; cases e
      | some ks2 =>
        rw [h1, h2] at e
        have e : some (k :: ks2) = some ks := e
        cases e
        rw [keyOf_v a h1, keys_v r h2] <;> rfl
theorem keysOf_v {d : D} {v : V} {ks : List Key} (h : VR K m H d v) (e : keysOf d = some ks) : ∃ b, v = .ref b ∧ H b = some (.tup (ks.map kV)) := by
  cases h with
  | @tup k a ds vs h q =>
    match k, h, e with
    | 0, h, e =>
      have e : ds.mapM keyOf = some ks := e
      exact ⟨a, rfl, by rw [← keys_v q e]; exact h.2⟩
  | _ => cases e
/-- the answer of a dict at a key: none where it cannot be asked -/
def askD (s : S) (i : Nat) (y : D) : Option (Option D) := match s[i]? with
  | some (_, .dct kvs) => (keyOf y).map fun k => getD kvs k
  | some (_, .dtt kvs) => (keysOf y).map fun k => getD kvs k
  | _ => none
theorem ask_get {i : Nat} {y : D} {w : V} {o : Option D} (r : Rp K m s H) (h : VR K m H y w) (e : askD s i y = some o) : ∃ u, DGet H (m.f i) w u ∧ (∀ d, o = some d → ∃ v, u = some v ∧ VR K m H d v) ∧ (o = none → u = none) := by
  unfold askD at e
  cases hs : s[i]? with
  | none => rw [hs] at e; cases e
  | some p =>
    obtain ⟨b, ob⟩ := p
    rw [hs] at e
    cases ob with
    | dct kvs =>
      obtain ⟨ws, h1, h2⟩ := r.obj _ _ _ hs
      cases hk : keyOf y with
      | none => simp [hk] at e
      | some k =>
        simp only [hk, Option.map_some, Option.some.injEq] at e
        subst e
        obtain ⟨g1, g2⟩ := kr_get (k := k) h2
        exact ⟨valV ws k, .inl ⟨ws, k, h1.rd, keyOf_v h hk, rfl⟩, g1, g2⟩
    | dtt kvs =>
      obtain ⟨ws, h1, h2⟩ := r.obj _ _ _ hs
      cases hk : keysOf y with
      | none => simp [hk] at e
      | some k =>
        simp only [hk, Option.map_some, Option.some.injEq] at e
        subst e
        obtain ⟨g1, g2⟩ := kr_get (k := k) h2
        obtain ⟨b2, e1, e2⟩ := keysOf_v h hk
        exact ⟨valV ws k, .inr ⟨ws, k, b2, h1.rd, e1, e2, rfl⟩, g1, g2⟩
    | _ => cases e
def fDGet (fd fy : FE) : FE := fun e s Q => fd e s fun x s1 => fy e s1 fun y s2 => ∃ i d, x = .rf i ∧ askD s2 i y = some (some d) ∧ Q d s2
instance {td ty : TE} {fd fy : FE} [h : SE K td fd] [h' : SE K ty fy] : SE K (tDGet td ty) (fDGet fd fy) := ⟨fun m s H e σ Q R r h0 q k => h.run m s H e σ _ _ r h0 q fun x s1 m1 H1 v q1 a1 hv =>
  h'.run m1 s1 H1 e σ _ _ a1.rp (h0.up a1.up) q1 fun y s2 m2 H2 w ⟨i, d, e1, e2, q2⟩ a2 hw => by
    subst e1
    have hv2 := hv.up a2.up
    cases hv2 with
    | rf hi e3 =>
      subst e3
      obtain ⟨u, g1, g2, _⟩ := ask_get a2.rp hw e2
      obtain ⟨v, rfl, g3⟩ := g2 d rfl
      exact ⟨_, v, rfl, g1, k d s2 m2 H2 v q2 (a1.trans a2) g3⟩⟩
def fDIn (neg : Bool) (fy fd : FE) : FE := fun e s Q => fy e s fun y s1 => fd e s1 fun x s2 => ∃ i o, x = .rf i ∧ askD s2 i y = some o ∧ Q (.bl (if neg then !o.isSome else o.isSome)) s2
theorem ask_some {i : Nat} {y : D} {w : V} {o : Option D} (r : Rp K m s H) (h : VR K m H y w) (e : askD s i y = some o) : ∃ u, DGet H (m.f i) w u ∧ u.isSome = o.isSome := by
  obtain ⟨u, g1, g2, g3⟩ := ask_get r h e
  cases o with
  | none => exact ⟨u, g1, by rw [g3 rfl] <;> rfl⟩
  | some d =>
    obtain ⟨v, rfl, _⟩ := g2 d rfl
    exact ⟨_, g1, rfl⟩
instance {td ty : TE} {fd fy : FE} [h : SE K td fd] [h' : SE K ty fy] : SE K (tDIn ty td) (fDIn false fy fd) := ⟨fun m s H e σ Q R r h0 q k => h'.run m s H e σ _ _ r h0 q fun y s1 m1 H1 w q1 a1 hw =>
  h.run m1 s1 H1 e σ _ _ a1.rp (h0.up a1.up) q1 fun x s2 m2 H2 v ⟨i, o, e1, e2, q2⟩ a2 hv => by
    subst e1
    cases hv with
    | rf hi e3 =>
      subst e3
      obtain ⟨u, g1, g2⟩ := ask_some a2.rp (hw.up a2.up) e2
      exact ⟨_, u, rfl, g1, by rw [g2]; exact k _ s2 m2 H2 _ q2 (a1.trans a2) (.bl _)⟩⟩
instance {td ty : TE} {fd fy : FE} [h : SE K td fd] [h' : SE K ty fy] : SE K (tDNotIn ty td) (fDIn true fy fd) := ⟨fun m s H e σ Q R r h0 q k => h'.run m s H e σ _ _ r h0 q fun y s1 m1 H1 w q1 a1 hw =>
  h.run m1 s1 H1 e σ _ _ a1.rp (h0.up a1.up) q1 fun x s2 m2 H2 v ⟨i, o, e1, e2, q2⟩ a2 hv => by
    subst e1
    cases hv with
    | rf hi e3 =>
      subst e3
      obtain ⟨u, g1, g2⟩ := ask_some a2.rp (hw.up a2.up) e2
      exact ⟨_, u, rfl, g1, by rw [g2]; exact k _ s2 m2 H2 _ q2 (a1.trans a2) (.bl _)⟩⟩
theorem ask_isD {i : Nat} {o : Option D} {y : D} (r : Rp K m s H) (e : askD s i y = some o) : IsD H (m.f i) := by
  unfold askD at e
  cases hs : s[i]? with
  | none => rw [hs] at e; cases e
  | some p =>
    obtain ⟨b, ob⟩ := p
    rw [hs] at e
    cases ob with
    | dct kvs => obtain ⟨ws, h1, _⟩ := r.obj _ _ _ hs; exact .inl ⟨ws, h1.rd⟩
    | dtt kvs => obtain ⟨ws, h1, _⟩ := r.obj _ _ _ hs; exact .inr ⟨ws, h1.rd⟩
    | _ => cases e
def isDct (s : S) (i : Nat) : Prop := ∃ b kvs, s[i]? = some (b, .dct kvs)
def isDic (s : S) (i : Nat) : Prop := match s[i]? with
  | some (_, .dct _) => True
  | some (_, .dtt _) => True
  | _ => False
theorem isDic_D {i : Nat} (r : Rp K m s H) (h : isDic s i) : IsD H (m.f i) := by
  unfold isDic at h
  cases hs : s[i]? with
  | none => rw [hs] at h; cases h
  | some p =>
    obtain ⟨b, ob⟩ := p
    rw [hs] at h
    cases ob with
    | dct kvs => obtain ⟨ws, h1, _⟩ := r.obj _ _ _ hs; exact .inl ⟨ws, h1.rd⟩
    | dtt kvs => obtain ⟨ws, h1, _⟩ := r.obj _ _ _ hs; exact .inr ⟨ws, h1.rd⟩
    | _ => cases h
def fDGet1 (fd fy : FE) : FE := fun e s Q => fd e s fun x s1 => ∃ i, x = .rf i ∧ isDic s1 i ∧ fy e s1 fun y s2 => ∃ o, askD s2 i y = some o ∧ Q (o.getD .non) s2
instance {td ty : TE} {fd fy : FE} [h : SE K td fd] [h' : SE K ty fy] : SE K (tDGet1 td ty) (fDGet1 fd fy) := ⟨fun m s H e σ Q R r h0 q k => h.run m s H e σ _ _ r h0 q fun x s1 m1 H1 v ⟨i, e1, hd, q1⟩ a1 hv => by
  subst e1
  cases hv with
  | rf hi e3 =>
    subst e3
    refine ⟨_, rfl, isDic_D a1.rp hd, h'.run m1 s1 H1 e σ _ _ a1.rp (h0.up a1.up) q1 fun y s2 m2 H2 w ⟨o, e2, q2⟩ a2 hw => ?_⟩
    obtain ⟨u, g1, g2, g3⟩ := ask_get a2.rp hw e2
    rw [a2.gr.same i hi] at g1
    refine ⟨u, g1, ?_⟩
    cases o with
    | none => rw [g3 rfl]; exact k _ s2 m2 H2 _ q2 (a1.trans a2) .non
    | some d =>
      obtain ⟨v, rfl, g4⟩ := g2 d rfl
      exact k _ s2 m2 H2 _ q2 (a1.trans a2) g4⟩
def fDGet2 (fd fy fx : FE) : FE := fun e s Q => fd e s fun x s1 => ∃ i, x = .rf i ∧ isDic s1 i ∧ fy e s1 fun y s2 => fx e s2 fun z s3 => ∃ o, askD s3 i y = some o ∧ Q (o.getD z) s3
instance {td ty tx : TE} {fd fy fx : FE} [h : SE K td fd] [h' : SE K ty fy] [h3 : SE K tx fx] : SE K (tDGet2 td ty tx) (fDGet2 fd fy fx) := ⟨fun m s H e σ Q R r h0 q k => h.run m s H e σ _ _ r h0 q fun x s1 m1 H1 v ⟨i, e1, hd, q1⟩ a1 hv => by
  subst e1
  cases hv with
  | rf hi e3 =>
    subst e3
    refine ⟨_, rfl, isDic_D a1.rp hd, h'.run m1 s1 H1 e σ _ _ a1.rp (h0.up a1.up) q1 fun y s2 m2 H2 w q2 a2 hw => h3.run m2 s2 H2 e σ _ _ a2.rp (h0.up (a1.trans a2).up) q2 fun z s3 m3 H3 zv ⟨o, e2, q3⟩ a3 hz => ?_⟩
    obtain ⟨u, g1, g2, g3⟩ := ask_get a3.rp (hw.up a3.up) e2
    rw [(a2.trans a3).gr.same i hi] at g1
    refine ⟨u, g1, ?_⟩
    cases o with
    | none => rw [g3 rfl]; exact k _ s3 m3 H3 _ q3 ((a1.trans a2).trans a3) hz
    | some d =>
      obtain ⟨v, rfl, g4⟩ := g2 d rfl
      exact k _ s3 m3 H3 _ q3 ((a1.trans a2).trans a3) g4⟩
/-- d[y] = v -/
def putS (s : S) (i : Nat) (y v : D) (s' : S) : Prop := match s[i]? with
  | some (false, .dct kvs) => ∃ k, keyOf y = some k ∧ kvs.length < 100000 ∧ s' = s.set i (false, .dct (putD kvs k v))
  | some (false, .dtt kvs) => ∃ k, keysOf y = some k ∧ kvs.length < 100000 ∧ s' = s.set i (false, .dtt (putD kvs k v))
  | _ => False
def sDP (fd fy fv : FE) : FS := fun F e s => fv e s fun v s1 => fd e s1 fun x s2 => fy e s2 fun y s3 => ∃ i s4, x = .rf i ∧ putS s3 i y v s4 ∧ F.nx e s4
theorem ss_dput {td ty tv : TE} {fd fy fv : FE} (h : SE K td fd) (h' : SE K ty fy) (h3 : SE K tv fv) : SS K (sDPut td ty tv) (sDP fd fy fv) := ⟨fun m s H e σ F D' r h0 q d => h3.run m s H e σ _ _ r h0 q fun v s1 m1 H1 vv q1 a1 hv =>
  h.run m1 s1 H1 e σ _ _ a1.rp (h0.up a1.up) q1 fun x s2 m2 H2 xv q2 a2 hx => h'.run m2 s2 H2 e σ _ _ a2.rp (h0.up (a1.trans a2).up) q2 fun y s3 m3 H3 yv ⟨i, s4, e1, hp, q3⟩ a3 hy => by
    subst e1
    have hx3 := hx.up a3.up
    have a13 := (a1.trans a2).trans a3
    have hv3 := hv.up (a2.trans a3).up
    cases hx3 with
    | rf hi e3 =>
      subst e3
      unfold putS at hp
      cases hs : s3[i]? with
      | none => rw [hs] at hp; cases hp
      | some p =>
        obtain ⟨b, ob⟩ := p
        rw [hs] at hp
        cases b with
        | true => cases hp
        | false =>
          cases ob with
          | dct kvs =>
            obtain ⟨kk, hk, hl, rfl⟩ := hp
            obtain ⟨ws, h1, h2⟩ := a3.rp.obj _ _ _ hs
            have ax := Aft.set (u := .dK (putK ws kk vv)) (o' := .dct (putD kvs kk v)) (b' := false) a3.rp hs (fun g => ⟨_, upd_same, kr_put (h2.up g.up) (hv3.up g.up)⟩) rfl
            exact ⟨_, _, rfl, .inl ⟨ws, kk, h1, keyOf_v hy hk, Evl.sz_lt (by rw [← h2.len]; exact hl), rfl⟩, d.nx e _ m3 _ σ q3 (a13.trans ax) (h0.up (a13.trans ax).up)⟩
          | dtt kvs =>
            obtain ⟨kk, hk, hl, rfl⟩ := hp
            obtain ⟨ws, h1, h2⟩ := a3.rp.obj _ _ _ hs
            obtain ⟨b2, e4, e5⟩ := keysOf_v hy hk
            have ax := Aft.set (u := .dT (putK ws kk vv)) (o' := .dtt (putD kvs kk v)) (b' := false) a3.rp hs (fun g => ⟨_, upd_same, kr_put (h2.up g.up) (hv3.up g.up)⟩) rfl
            exact ⟨_, _, rfl, .inr ⟨ws, kk, b2, h1, e4, e5, Evl.sz_lt (by rw [← h2.len]; exact hl), rfl⟩, d.nx e _ m3 _ σ q3 (a13.trans ax) (h0.up (a13.trans ax).up)⟩
          | _ => cases hp⟩
instance {td ty tv : TE} {fd fy fv : FE} [h : SE K td fd] [h' : SE K ty fy] [h3 : SE K tv fv] : SS K (sDPut td ty tv) (sDP fd fy fv) := ss_dput h h' h3
instance (priority := 2000) {td ty tv : TE} {fd fy : FE} {fv : FA} [h : SE K td fd] [h' : SE K ty fy] [h3 : SN K tv fv] : SS K (sDPut td ty tv) (sDP fd fy (fNew fv)) := ss_dput h h' (se_new h3)
/-- d.pop(y) -/
def fDPop1 (fd fy : FE) : FE := fun e s Q => fd e s fun x s1 => ∃ i, x = .rf i ∧ isDic s1 i ∧ fy e s1 fun y s2 => ∃ kvs k d, s2[i]? = some (false, .dct kvs) ∧ keyOf y = some k ∧ Sm.getD kvs k = some d ∧ Q d (s2.set i (false, .dct (dropD kvs k)))
instance {td ty : TE} {fd fy : FE} [h : SE K td fd] [h' : SE K ty fy] : SE K (tDPop1 td ty) (fDPop1 fd fy) := ⟨fun m s H e σ Q R r h0 q k => h.run m s H e σ _ _ r h0 q fun x s1 m1 H1 v ⟨i, e1, hd, q1⟩ a1 hv => by
  subst e1
  cases hv with
  | rf hi e3 =>
    subst e3
    refine ⟨_, rfl, isDic_D a1.rp hd, h'.run m1 s1 H1 e σ _ _ a1.rp (h0.up a1.up) q1 fun y s2 m2 H2 w ⟨kvs, kk, d, hs, hk, hg, q2⟩ a2 hw => ?_⟩
    obtain ⟨ws, h1, h2⟩ := a2.rp.obj _ _ _ hs
    obtain ⟨v, g1, g2⟩ := (kr_get (k := kk) h2).1 d hg
    have fe : m2.f i = m1.f i := a2.gr.same i hi
    have ax := Aft.set (u := .dK (dropK ws kk)) (o' := .dct (dropD kvs kk)) (b' := false) a2.rp hs (fun g => ⟨_, upd_same, kr_drop (h2.up g.up)⟩) rfl
    rw [← fe]
    exact ⟨ws, kk, v, h1, keyOf_v hw hk, g1, k d _ m2 _ v q2 ((a1.trans a2).trans ax) (g2.up ax.up)⟩⟩
/-! ### instances -/
def fFld (K : PySem.W.Frag) (fa : FE) (f : Str) : FE := fun e s Q => fa e s fun x s1 => ∃ i C fs d, x = .rf i ∧ s1[i]? = some (false, .ins C fs) ∧ Cls K C ∧ NoAttr K C f ∧ fs.lookup f = some d ∧ Q d s1
instance {t : TE} {fa : FE} {f : Str} [h : SE K t fa] : SE K (tFld K t f) (fFld K fa f) := ⟨fun m s H e σ Q R r h0 q k => h.run m s H e σ _ _ r h0 q fun x s1 m1 H1 v ⟨i, C, fs, d, e1, hs, c, n, hl, q1⟩ a1 hv => by
  subst e1
  cases hv with
  | rf hi e3 =>
    subst e3
    obtain ⟨dx, ws, h1, h2⟩ := a1.rp.obj _ _ _ hs
    obtain ⟨v, g1, g2⟩ := (kr_lookup h2).1 d hl
    exact ⟨_, C, dx, ws, v, rfl, h1, c, n, g1, k d s1 m1 H1 v q1 a1 g2⟩⟩
def sFl (K : PySem.W.Frag) (fa fv : FE) (f : Str) : FS := fun F e s => fv e s fun y s1 => fa e s1 fun x s2 => ∃ i C fs, x = .rf i ∧ s2[i]? = some (false, .ins C fs) ∧ Cls K C ∧ NoAttr K C f ∧ fs.length < 1000 ∧ F.nx e (s2.set i (false, .ins C (putFD f y fs)))
theorem ss_fld {ta tv : TE} {fa fv : FE} {f : Str} (h : SE K ta fa) (h' : SE K tv fv) : SS K (sFld K ta tv f) (sFl K fa fv f) := ⟨fun m s H e σ F D' r h0 q d => h'.run m s H e σ _ _ r h0 q fun y s1 m1 H1 yv q1 a1 hy =>
  h.run m1 s1 H1 e σ _ _ a1.rp (h0.up a1.up) q1 fun x s2 m2 H2 xv ⟨i, C, fs, e1, hs, c, n, hl, q2⟩ a2 hx => by
    subst e1
    cases hx with
    | rf hi e3 =>
      subst e3
      obtain ⟨dx, ws, h1, h2⟩ := a2.rp.obj _ _ _ hs
      have ax := Aft.set (u := .ins C dx (putF f yv ws)) (o' := .ins C (putFD f y fs)) (b' := false) a2.rp hs (fun g => ⟨_, _, upd_same, kr_putF ((hy.up a2.up).up g.up) (h2.up g.up)⟩) rfl
      have a12 := (a1.trans a2).trans ax
      exact ⟨_, C, dx, ws, rfl, h1, c, n, by rw [← h2.len]; exact hl, d.nx e _ m2 _ σ q2 a12 (h0.up a12.up)⟩⟩
instance {ta tv : TE} {fa fv : FE} {f : Str} [h : SE K ta fa] [h' : SE K tv fv] : SS K (sFld K ta tv f) (sFl K fa fv f) := ss_fld h h'
instance (priority := 2000) {ta tv : TE} {fa : FE} {fv : FA} {f : Str} [h : SE K ta fa] [h' : SN K tv fv] : SS K (sFld K ta tv f) (sFl K fa (fNew fv) f) := ss_fld h (se_new h')
/-! ### calls -/
abbrev FSp := List D → S → (D → S → Prop) → Prop
/-- what a def of n parameters promises: by values and the store -/
def spF (K : PySem.W.Frag) (n : Nat) (P : FSp) : Sp := fun vs H Q _ => ∃ m s ds Q', Rp K m s H ∧ ds.length = n ∧ VRs K m H ds vs ∧ P ds s Q' ∧ ∀ d s' m' H' v, Q' d s' → Aft K m s H m' s' H' → VR K m' H' d v → Q v H'
def fCall (n : Nat) (P : FSp) (fa : FA) : FE := fun e s Q => fa e s fun ds s1 => ds.length = n ∧ P ds s1 Q
instance {n : Nat} {P : FSp} {E : XK} {t : TA} {fa : FA} [h : SA K t fa] : SE K (tCall (spF K n P) [] E t) (fCall n P fa) := ⟨fun m s H e σ Q R r h0 q k => h.run m s H e σ _ _ r h0 q fun ds s1 m1 H1 vs q1 a1 hv =>
  ⟨m1, s1, ds, Q, a1.rp, q1.1, by rw [List.append_nil]; exact hv, q1.2, fun d s2 m2 H2 v q2 a2 hw => k d s2 m2 H2 v q2 (a1.trans a2) hw⟩⟩
def fMeth (C : Addr) (m : Str) (n : Nat) (P : FSp) (fo : FE) (fa : FA) : FE := fun e s Q => fo e s fun x s1 => ∃ i fs, x = .rf i ∧ s1[i]? = some (false, .ins C fs) ∧ fs.lookup m = none ∧ fa e s1 fun ds s2 => ds.length + 1 = n ∧ P (x :: ds) s2 Q
instance {C : Addr} {mn : Str} {n : Nat} {P : FSp} {E : XK} {to : TE} {t : TA} {fo : FE} {fa : FA} [ho : SE K to fo] [h : SA K t fa] : SE K (tMeth C mn (spF K n P) [] E to t) (fMeth C mn n P fo fa) := ⟨fun m s H e σ Q R r h0 q k => ho.run m s H e σ _ _ r h0 q fun x s1 m1 H1 v ⟨i, fs, e1, hs, hl, q1⟩ a1 hv => by
  subst e1
  cases hv with
  | rf hi e3 =>
    subst e3
    obtain ⟨dx, ws, h1, h2⟩ := a1.rp.obj _ _ _ hs
    refine ⟨_, dx, ws, rfl, h1, (kr_lookup h2).2 hl, h.run m1 s1 H1 e σ _ _ a1.rp (h0.up a1.up) q1 fun ds s2 m2 H2 vs q2 a2 hv => ?_⟩
    exact ⟨m2, s2, .rf i :: ds, Q, a2.rp, q2.1, .cons (.rf (Nat.lt_of_lt_of_le hi a2.gr.le) (by rw [a2.gr.same i hi])) (by rw [List.append_nil]; exact hv), q2.2, fun d s3 m3 H3 v q3 a3 hw => k d s3 m3 H3 v q3 ((a1.trans a2).trans a3) hw⟩⟩
def fMake (C : Addr) (n : Nat) (P : FSp) (fa : FA) : FE := fun e s Q => fa e s fun ds s1 => ds.length + 1 = n ∧ P (.rf s1.length :: ds) (s1 ++ [(false, .ins C [])]) fun d s2 => d = .non ∧ Q (.rf s1.length) s2
instance {C : Addr} {n : Nat} {P : FSp} {E : XK} {t : TA} {fa : FA} [h : SA K t fa] : SE K (tMake C (spF K n P) [] E t) (fMake C n P fa) := ⟨fun m s H e σ Q R r h0 q k => h.run m s H e σ _ _ r h0 q fun ds s1 m1 H1 vs ⟨hn, q1⟩ a1 hv x dx hx hdx hne => by
  have b1 : Aft K m1 s1 H1 m1 s1 (upd H1 dx (.own x)) := .new a1.rp hdx
  have hx2 : upd H1 dx (.own x) x = none := by rw [upd_ne hne.symm]; exact hx
  have b2 : Aft K m1 s1 (upd H1 dx (.own x)) (m1.add x) (s1 ++ [(false, .ins C [])]) (upd (upd H1 dx (.own x)) x (.ins C dx [])) := .add b1.rp hx2 ⟨dx, [], upd_same, .nil⟩
  have b := b1.trans b2
  have hr : VR K (m1.add x) (upd (upd H1 dx (.own x)) x (.ins C dx [])) (.rf s1.length) (.ref x) := .rf (by rw [← a1.rp.len]; exact Nat.lt_succ_self _) (by rw [← a1.rp.len, M.add_at])
  exact ⟨m1.add x, _, .rf s1.length :: ds, _, b.rp, hn, .cons hr (by rw [List.append_nil]; exact hv.up b.up), q1, fun d s2 m2 H2 v ⟨e1, q2⟩ a2 hw => by
    subst e1
    cases hw
    exact ⟨rfl, k _ s2 m2 H2 _ q2 ((a1.trans b).trans a2) (hr.up a2.up)⟩⟩⟩
end
end Sm

set_option Elab.async false
set_option linter.all false
set_option maxRecDepth 100000
set_option maxHeartbeats 4000000
namespace Sm
open PySem PySem.Spec PyProof.Rows L2
/-! ### comprehensions -/
class Mem (i : Nat) (vs : List Nat) : Prop where
  mem : i ∈ vs
instance {i : Nat} {vs : List Nat} : Mem i (i :: vs) := ⟨List.mem_cons_self⟩
instance {i j : Nat} {vs : List Nat} [h : Mem i vs] : Mem i (j :: vs) := ⟨List.mem_cons_of_mem _ h.mem⟩
theorem wipe_set_out {σ : L2.St} {x : Option V} {i : Nat} : ∀ {vs : List Nat}, i ∉ vs → wipe (σ.set i x) vs = (wipe σ vs).set i x
  | [], _ => rfl
  | v :: vs, h => by
    show (wipe (σ.set i x) vs).set v none = ((wipe σ vs).set v none).set i x
    rw [wipe_set_out (fun z => h (List.mem_cons_of_mem _ z)), List.set_comm]
    exact fun z => h (by rw [z]; exact List.mem_cons_self)
theorem wipe_set_in {σ : L2.St} {x : Option V} {i : Nat} : ∀ {vs : List Nat}, i ∈ vs → wipe (σ.set i x) vs = wipe σ vs
  | [], h => nomatch h
  | v :: vs, h => by
    show (wipe (σ.set i x) vs).set v none = (wipe σ vs).set v none
    by_cases q : i ∈ vs
    · rw [wipe_set_in q]
    · rw [wipe_set_out q]
      rcases List.mem_cons.mp h with rfl | h
      · rw [List.set_set]
      · exact absurd h q
theorem wipe_wipe {σ : L2.St} : ∀ (ws vs : List Nat), (∀ w ∈ ws, w ∈ vs) → wipe (wipe σ ws) vs = wipe σ vs
  | [], _, _ => rfl
  | w :: ws, vs, h => by
    show wipe ((wipe σ ws).set w none) vs = _
    rw [wipe_set_in (h w List.mem_cons_self), wipe_wipe ws vs fun x hx => h x (List.mem_cons_of_mem _ hx)]
class GW (g : TG) (vs : List Nat) : Prop where
  run : ∀ (x : V) (σ : L2.St) (H : Hp) (Q : L2.St → Hp → Prop), g x σ H Q → g x σ H fun σ2 H2 => wipe σ2 vs = wipe σ vs ∧ Q σ2 H2
class GWs (g : TGs) (vs : List Nat) : Prop where
  run : ∀ (x : List V) (σ : L2.St) (H : Hp) (Q : L2.St → Hp → Prop), g x σ H Q → g x σ H fun σ2 H2 => wipe σ2 vs = wipe σ vs ∧ Q σ2 H2
class GMo (g : TG) : Prop where
  run : ∀ (x : V) (σ : L2.St) (H : Hp) (Q R : L2.St → Hp → Prop), (∀ σ H, Q σ H → R σ H) → g x σ H Q → g x σ H R
class GMos (g : TGs) : Prop where
  run : ∀ (x : List V) (σ : L2.St) (H : Hp) (Q R : L2.St → Hp → Prop), (∀ σ H, Q σ H → R σ H) → g x σ H Q → g x σ H R
instance {i : Nat} : GMo (gName i) := ⟨fun x σ H Q R k q => k _ _ q⟩
instance : GMos gNil := ⟨fun x σ H Q R k q => ⟨q.1, k _ _ q.2⟩⟩
instance {g : TG} {u : TGs} [h : GMo g] [h' : GMos u] : GMos (gCons g u) := ⟨fun x σ H Q R k ⟨v, r, e, q⟩ => ⟨v, r, e, h.run _ _ _ _ _ (fun σ H q => h'.run _ _ _ _ _ k q) q⟩⟩
instance {K : PySem.W.Frag} {n : Nat} {u : TGs} [h' : GMos u] : GMo (gTup K n u) := ⟨fun x σ H Q R k ⟨a, xs, e, h1, h2, q⟩ => ⟨a, xs, e, h1, h2, h'.run _ _ _ _ _ k q⟩⟩
instance {i : Nat} {vs : List Nat} [h : Mem i vs] : GW (gName i) vs := ⟨fun x σ H Q q => ⟨wipe_set_in h.mem, q⟩⟩
instance {vs : List Nat} : GWs gNil vs := ⟨fun x σ H Q q => ⟨q.1, rfl, q.2⟩⟩
instance {vs : List Nat} {g : TG} {u : TGs} [h : GW g vs] [h' : GWs u vs] [hm : GMo g] [hm' : GMos u] : GWs (gCons g u) vs := ⟨fun x σ H Q ⟨v, r, e, q⟩ => ⟨v, r, e, by
  refine hm.run _ _ _ _ _ (fun σ2 H2 q2 => ?_) (h.run v σ H _ q)
  refine hm'.run _ _ _ _ _ (fun σ3 H3 q3 => ⟨?_, q3.2⟩) (h'.run r σ2 H2 _ q2.2)
  rw [q3.1, q2.1]⟩⟩
instance {K : PySem.W.Frag} {vs : List Nat} {n : Nat} {u : TGs} [h' : GWs u vs] : GW (gTup K n u) vs := ⟨fun x σ H Q ⟨a, xs, e, h1, h2, q⟩ => ⟨a, xs, e, h1, h2, h'.run _ _ _ _ q⟩⟩
theorem gw_run {g : TG} {vs : List Nat} {x : V} {σ : L2.St} {H : Hp} {Q : L2.St → Hp → Prop} [gw : GW g vs] [gm : GMo g] (q : g x (wipe σ vs) H Q) : g x (wipe σ vs) H fun σ2 H2 => wipe σ2 vs = wipe σ vs ∧ Q σ2 H2 :=
  gm.run _ _ _ _ _ (fun σ4 H4 q4 => ⟨q4.1.trans (wipe_wipe vs vs fun _ h => h), q4.2⟩) (gw.run x (wipe σ vs) H Q q)
section
variable {K : PySem.W.Frag} {m m' m2 : M} {H H' H2 : Hp} {s : S}
def fLc (fi : FI) (g : FG) (t : FT) (el : FE) (vs : List Nat) : FA := fun e s Q => fi e s fun ds chk s1 => ds.length ≤ 100000 ∧ ∃ I : Nat → List D → S → Prop, I 0 [] s1 ∧
  (∀ i d acc s2, ds[i]? = some d → acc.length ≤ i → I i acc s2 → chk s2 ∧ g d (wipeE e vs) s2 fun e1 s3 => t e1 s3 fun b s4 => if b = true then el e1 s4 fun y s5 => I (i + 1) (acc ++ [y]) s5 else I (i + 1) acc s4) ∧ ∀ acc s2, I ds.length acc s2 → chk s2 ∧ Q acc s2
instance {wi : TI} {g : TG} {tt : TT} {te : TE} {vs : List Nat} {fi : FI} {fg : FG} {ft : FT} {fe : FE} [hi : SI K wi fi] [hg : SG K g fg] [ht : ST K tt ft] [he : SE K te fe] [gw : GW g vs] [gm : GMo g] : SN K (tLc wi g tt te vs) (fLc fi fg ft fe vs) := ⟨fun m s H e σ Q R r h0 q k =>
  hi.run m s H e σ _ _ r h0 q fun ds chk s1 m1 H1 J ⟨hz, I, i0, st, fin⟩ a1 ok Dl hD =>
    ⟨fun i kk H2 => ∃ m2 s2 acc vs2, Nw K m1 s1 H1 m2 s2 H2 Dl (.lst vs2) ∧ VRs K m2 H2 acc vs2 ∧ I i acc s2 ∧ acc.length ≤ i ∧ kk + i = ds.length, ⟨ds.length, _, s1, [], [], .start (.refl a1.rp) hD, .nil, i0, Nat.le_refl _, rfl⟩,
      fun i kk H2 ⟨m2, s2, acc, vs2, w, hv, q2, hl, hk⟩ => by
        cases hx : ds[i]? with
        | none =>
          have hi : i = ds.length := by
            have := List.getElem?_eq_none_iff.mp hx
            omega
          rw [hi] at q2
          obtain ⟨c, q2⟩ := fin acc s2 q2
          refine .inl ⟨ok.stop m2 s2 H2 i w.lt c (by omega), k acc s2 m2 H2 Dl vs2 q2 ?_ hv⟩
          have g1 := a1.gr.trans w.gr
          exact ⟨⟨g1.le, g1.same, rfl, g1.new, g1.keep, g1.dom⟩, w.rp, (by
            intro j o h
            obtain ⟨h1, h2⟩ := a1.lk j o h
            obtain ⟨h3, h4⟩ := w.lk j o h1
            have lj : j < m.n := by rw [a1.ln]; exact (List.getElem?_eq_some_iff.mp h).1
            rw [a1.gr.same j lj] at h4
            exact ⟨h3, h4.trans h2⟩), a1.ln, by rw [w.x, a1.gr.ex], by rw [← a1.gr.ex]; exact w.nx, a1.gr.none w.fr, w.hp⟩
        | some x =>
          have li : i < ds.length := (List.getElem?_eq_some_iff.mp hx).1
          obtain ⟨c, q2⟩ := st i x acc s2 hx hl q2
          obtain ⟨g1, g2⟩ := ok.go m2 s2 H2 i x w.lt c hx
          refine .inr ⟨g1, fun H3 => ∃ m3 s3 acc3 vs3, Nw K m1 s1 H1 m3 s3 H3 Dl (.lst vs3) ∧ VRs K m3 H3 acc3 vs3 ∧ I (i + 1) acc3 s3 ∧ acc3.length ≤ i + 1, fun H3 ⟨m3, s3, acc3, vs3, w3, hv3, q3, hl3⟩ => ⟨kk - 1, by omega, m3, s3, acc3, vs3, w3, hv3, q3, hl3, by omega⟩, fun xv H3 hy => ?_⟩
          obtain ⟨a3, hv3⟩ := g2 xv H3 hy
          have w3 := w.then a3
          refine gw_run ?_
          refine hg.run m2 s2 H3 _ _ x xv _ _ a3.rp ((((h0.up a1.up).up w.lt.up).wipe vs).up a3.up) hv3 q2 fun e4 s4 m4 H4 σ4 q4 a4 er4 => ?_
          refine ht.run m4 s4 H4 e4 σ4 _ _ a4.rp er4 q4 fun b s5 m5 H5 q5 a5 => ?_
          have a45 := a4.trans a5
          cases b with
          | false => exact ⟨m5, s5, acc, vs2, w3.then a45, (hv.up a3.up).up a45.up, q5, by omega⟩
          | true =>
            refine he.run m5 s5 H5 e4 σ4 _ _ a5.rp (er4.up a5.up) q5 fun y s6 m6 H6 yv q6 a6 hy6 => ?_
            have a46 := a45.trans a6
            have w6 := w3.then a46
            have hv6 := (hv.up a3.up).up a46.up
            refine ⟨vs2, w6.hp, Evl.sz_lt (by rw [← hv.len]; omega), m6, s6, acc ++ [y], vs2 ++ [yv], w6.set, (hv6.up w6.setUp).app (.cons (hy6.up w6.setUp) .nil), q6, by rw [List.length_append]; simp; omega⟩⟩⟩
end
end Sm

set_option Elab.async false
set_option linter.all false
set_option maxRecDepth 100000
set_option maxHeartbeats 4000000
namespace Sm
open PySem PySem.Spec PyProof.Rows L2
section
variable {K : PySem.W.Frag} {m m' m2 : M} {H H' H2 : Hp} {s : S}
/-! ### calls of builtins -/
def fCB (o : FL) (fa : FA) : FE := fun e s Q => fa e s fun ds s1 => o ds s1 Q
instance (priority := 950) {r : List V → Hp → VK → Prop} {o : FL} {t : TA} {fa : FA} [h : SC K r o] [ha : SA K t fa] : SE K (tCB r t) (fCB o fa) := ⟨fun m s H e σ Q R r0 h0 q k => ha.run m s H e σ _ _ r0 h0 q fun ds s1 m1 H1 vs q1 a1 hv =>
  h.run m1 s1 H1 ds vs _ _ a1.rp hv q1 fun d s2 m2 H2 v q2 a2 hw => k d s2 m2 H2 v q2 (a1.trans a2) hw⟩
/-- .. that give a new list -/
class SCN (K : PySem.W.Frag) (r : List V → Hp → VK → Prop) (o : outParam (List D → S → (List D → S → Prop) → Prop)) : Prop where
  run : ∀ (m : M) (s : S) (H : Hp) (xs : List D) (vs : List V) (Q : List D → S → Prop) (R : VK), Rp K m s H → VRs K m H xs vs → o xs s Q → (∀ ds s' m' H' p vs, Q ds s' → Nw K m s H m' s' H' p (.lst vs) → VRs K m' H' ds vs → R (.ref p) H') → r vs H R
def fCN (o : List D → S → (List D → S → Prop) → Prop) (fa : FA) : FA := fun e s Q => fa e s fun ds s1 => o ds s1 Q
theorem Nw.pre {s s' s2 : S} {p : Addr} {u : HO} (a : Aft K m s H m' s' H') (w : Nw K m' s' H' m2 s2 H2 p u) : Nw K m s H m2 s2 H2 p u := by
  have g1 := a.gr.trans w.gr
  exact ⟨⟨g1.le, g1.same, rfl, g1.new, g1.keep, g1.dom⟩, w.rp, (by
    intro j o h
    obtain ⟨h1, h2⟩ := a.lk j o h
    obtain ⟨h3, h4⟩ := w.lk j o h1
    have lj : j < m.n := by rw [a.ln]; exact (List.getElem?_eq_some_iff.mp h).1
    rw [a.gr.same j lj] at h4
    exact ⟨h3, h4.trans h2⟩), a.ln, by rw [w.x, a.gr.ex], by rw [← a.gr.ex]; exact w.nx, a.gr.none w.fr, w.hp⟩
instance {r : List V → Hp → VK → Prop} {o : List D → S → (List D → S → Prop) → Prop} {t : TA} {fa : FA} [h : SCN K r o] [ha : SA K t fa] : SN K (tCB r t) (fCN o fa) := ⟨fun m s H e σ Q R r0 h0 q k => ha.run m s H e σ _ _ r0 h0 q fun ds s1 m1 H1 vs q1 a1 hv =>
  h.run m1 s1 H1 ds vs _ _ a1.rp hv q1 fun d s2 m2 H2 p v q2 w hw => k d s2 m2 H2 p v q2 (.pre a1 w) hw⟩
theorem vrs1 {x : D} {vs : List V} (h : VRs K m H [x] vs) : ∃ v, vs = [v] ∧ VR K m H x v := by
  cases h with
  | cons a t => cases t; exact ⟨_, rfl, a⟩
theorem vrs2 {x y : D} {vs : List V} (h : VRs K m H [x, y] vs) : ∃ v w, vs = [v, w] ∧ VR K m H x v ∧ VR K m H y w := by
  cases h with
  | cons a t => cases t with | cons b t => cases t; exact ⟨_, _, rfl, a, b⟩
def oLen : FL := fun xs s Q => ∃ x ds, xs = [x] ∧ seqOf s x = some ds ∧ Q (.int ds.length) s
instance : SC K (fun xs H Q => ∃ p ys, xs = [.ref p] ∧ (SqL K H p ys ∨ SqT K H p ys) ∧ Q (.int ys.length) H) oLen := ⟨fun m s H xs vs Q R r hx ⟨x, ds, e1, e2, q⟩ k => by
  subst e1
  obtain ⟨v, rfl, hv⟩ := vrs1 hx
  obtain ⟨a, ws, rfl, h1, h2⟩ := rd_seq r hv e2
  exact ⟨a, ws, rfl, h1, by rw [← h2.len]; exact k _ s m H _ q (.refl r) (.int _)⟩⟩
def oLenS : FL := fun xs s Q => ∃ z, xs = [.str z] ∧ z.length ≤ sizeLine ∧ Q (.int z.length) s
instance : SC K (fun xs H Q => ∃ z : Str, xs = [.str z] ∧ z.length ≤ sizeLine ∧ Q (.int z.length) H) oLenS := ⟨fun m s H xs vs Q R r hx ⟨z, e1, e2, q⟩ k => by
  subst e1
  obtain ⟨v, rfl, hv⟩ := vrs1 hx
  cases hv
  exact ⟨z, rfl, e2, k _ s m H _ q (.refl r) (.int _)⟩⟩
def oLenD : FL := fun xs s Q => ∃ i b kvs, xs = [.rf i] ∧ s[i]? = some (b, .dct kvs) ∧ Q (.int kvs.length) s
instance : SC K Mx.rLenD oLenD := ⟨fun m s H xs vs Q R r hx ⟨i, b, kvs, e1, e2, q⟩ k => by
  subst e1
  obtain ⟨v, rfl, hv⟩ := vrs1 hx
  cases hv with
  | rf hi e3 =>
    subst e3
    obtain ⟨ws, h1, h2⟩ := r.obj _ _ _ e2
    exact ⟨_, ws, rfl, h1.rd, by rw [← h2.len]; exact k _ s m H _ q (.refl r) (.int _)⟩⟩
def oList : List D → S → (List D → S → Prop) → Prop := fun xs s Q => ∃ x ds, xs = [x] ∧ seqOf s x = some ds ∧ Q ds s
instance : SCN K (fun xs H Q => ∃ p ys, xs = [.ref p] ∧ (SqL K H p ys ∨ SqT K H p ys) ∧ ∀ l, H l = none → Q (.ref l) (upd H l (.lst ys))) oList := ⟨fun m s H xs vs Q R r hx ⟨x, ds, e1, e2, q⟩ k => by
  subst e1
  obtain ⟨v, rfl, hv⟩ := vrs1 hx
  obtain ⟨a, ws, rfl, h1, h2⟩ := rd_seq r hv e2
  exact ⟨a, ws, rfl, h1, fun l hl => k ds s _ _ l ws q (.start (.refl r) hl) (h2.up (up_wx hl))⟩⟩
def oTuple : FL := fun xs s Q => ∃ x, xs = [x] ∧ ((∃ ds, lstOf s x = some ds ∧ Q (.tup 0 ds) s) ∨ (∃ ds, tupOf x = some ds ∧ Q x s))
instance : SC K (fun xs H Q => ∃ p ys, xs = [.ref p] ∧ ((SqL K H p ys ∧ ∀ l, H l = none → Q (.ref l) (upd H l (.tup ys))) ∨ (SqT K H p ys ∧ Q (.ref p) H))) oTuple := ⟨fun m s H xs vs Q R r hx ⟨x, e1, q⟩ k => by
  subst e1
  obtain ⟨v, rfl, hv⟩ := vrs1 hx
  rcases q with ⟨ds, e2, q⟩ | ⟨ds, e2, q⟩
  · obtain ⟨a, ws, rfl, h1, h2⟩ := rd_lst r hv e2
    exact ⟨a, ws, rfl, .inl ⟨h1, fun l hl => k _ s m _ _ q (.new r hl) (.tup (k := 0) ⟨r.nim hl, upd_same⟩ (h2.up (Gr.new1 hl).up))⟩⟩
  · obtain ⟨a, ws, e3, h1, h2⟩ := rd_tup hv e2
    subst e3
    exact ⟨a, ws, rfl, .inr ⟨h1, k _ s m H _ q (.refl r) hv⟩⟩⟩
/-- ints in a list -/
def intsOf (ds : List D) : Option (List Int) := ds.mapM fun d => match d with
  | .int i => some i
  | _ => none
theorem ints_v : ∀ {ds : List D} {vs : List V} {ns : List Int}, VRs K m H ds vs → ds = ns.map D.int → vs = ns.map V.int
  | _, _, [], .nil, _ => rfl
  | _, _, n :: ns, .cons a r, e => by
    rw [List.map_cons] at e
    obtain ⟨e1, e2⟩ := List.cons.inj e
    subst e1
    cases a
    rw [ints_v r e2, List.map_cons]
theorem bls_v : ∀ {ds : List D} {vs : List V} {ns : List Bool}, VRs K m H ds vs → ds = ns.map D.bl → vs = ns.map V.bl
  | _, _, [], .nil, _ => rfl
  | _, _, n :: ns, .cons a r, e => by
    rw [List.map_cons] at e
    obtain ⟨e1, e2⟩ := List.cons.inj e
    subst e1
    cases a
    rw [bls_v r e2, List.map_cons]
theorem strs_v : ∀ {ds : List D} {vs : List V} {ns : List Str}, VRs K m H ds vs → ds = ns.map D.str → vs = ns.map V.str
  | _, _, [], .nil, _ => rfl
  | _, _, n :: ns, .cons a r, e => by
    rw [List.map_cons] at e
    obtain ⟨e1, e2⟩ := List.cons.inj e
    subst e1
    cases a
    rw [strs_v r e2, List.map_cons]
def oSum : FL := fun xs s Q => ∃ (x : D) (ns : List Int), xs = [x] ∧ seqOf s x = some (ns.map D.int) ∧ Q (.int ns.sum) s
instance : SC K (Mx.rSumI K) oSum := ⟨fun m s H xs vs Q R r hx ⟨x, ns, e1, e2, q⟩ k => by
  subst e1
  obtain ⟨v, rfl, hv⟩ := vrs1 hx
  obtain ⟨a, ws, rfl, h1, h2⟩ := rd_seq r hv e2
  obtain rfl := ints_v h2 rfl
  exact ⟨a, ns, rfl, h1, k _ s m H _ q (.refl r) (.int _)⟩⟩
def oMax : FL := fun xs s Q => ∃ (x : D) (ns : List Int) (mm : Int), xs = [x] ∧ lstOf s x = some (ns.map D.int) ∧ mm ∈ ns ∧ (∀ y ∈ ns, y ≤ mm) ∧ Q (.int mm) s
instance : SC K (rMax K) oMax := ⟨fun m s H xs vs Q R r hx ⟨x, ns, mm, e1, e2, e3, e4, q⟩ k => by
  subst e1
  obtain ⟨v, rfl, hv⟩ := vrs1 hx
  obtain ⟨a, ws, rfl, h1, h2⟩ := rd_lst r hv e2
  obtain rfl := ints_v h2 rfl
  refine ⟨a, ns, rfl, h1, List.length_pos_of_mem e3, fun m2 i1 i2 => ?_⟩
  obtain rfl : m2 = mm := by
    have := e4 m2 i1
    have := i2 mm e3
    omega
  exact k _ s m H _ q (.refl r) (.int _)⟩
def oMin : FL := fun xs s Q => ∃ (x : D) (ns : List Int) (mm : Int), xs = [x] ∧ lstOf s x = some (ns.map D.int) ∧ mm ∈ ns ∧ (∀ y ∈ ns, mm ≤ y) ∧ Q (.int mm) s
instance : SC K (rMin K) oMin := ⟨fun m s H xs vs Q R r hx ⟨x, ns, mm, e1, e2, e3, e4, q⟩ k => by
  subst e1
  obtain ⟨v, rfl, hv⟩ := vrs1 hx
  obtain ⟨a, ws, rfl, h1, h2⟩ := rd_lst r hv e2
  obtain rfl := ints_v h2 rfl
  refine ⟨a, ns, rfl, h1, List.length_pos_of_mem e3, fun m2 i1 i2 => ?_⟩
  obtain rfl : m2 = mm := by
    have := e4 m2 i1
    have := i2 mm e3
    omega
  exact k _ s m H _ q (.refl r) (.int _)⟩
def oAll : FL := fun xs s Q => ∃ (x : D) (bs : List Bool), xs = [x] ∧ lstOf s x = some (bs.map D.bl) ∧ Q (.bl (bs.all id)) s
instance : SC K (rAll K) oAll := ⟨fun m s H xs vs Q R r hx ⟨x, ns, e1, e2, q⟩ k => by
  subst e1
  obtain ⟨v, rfl, hv⟩ := vrs1 hx
  obtain ⟨a, ws, rfl, h1, h2⟩ := rd_lst r hv e2
  obtain rfl := bls_v h2 rfl
  exact ⟨a, ns, rfl, h1, k _ s m H _ q (.refl r) (.bl _)⟩⟩
def oAny : FL := fun xs s Q => ∃ (x : D) (bs : List Bool), xs = [x] ∧ lstOf s x = some (bs.map D.bl) ∧ Q (.bl (bs.any id)) s
instance : SC K (rAny K) oAny := ⟨fun m s H xs vs Q R r hx ⟨x, ns, e1, e2, q⟩ k => by
  subst e1
  obtain ⟨v, rfl, hv⟩ := vrs1 hx
  obtain ⟨a, ws, rfl, h1, h2⟩ := rd_lst r hv e2
  obtain rfl := bls_v h2 rfl
  exact ⟨a, ns, rfl, h1, k _ s m H _ q (.refl r) (.bl _)⟩⟩
def oInt : FL := fun xs s Q => (∃ i, xs = [.int i] ∧ Q (.int i) s) ∨ ∃ b, xs = [.bl b] ∧ Q (.int (if b then 1 else 0)) s
instance : SC K (fun xs H Q => (∃ i, xs = [.int i] ∧ Q (.int i) H) ∨ ∃ k, xs = [.bl k] ∧ Q (.int (if k then 1 else 0)) H) oInt := ⟨fun m s H xs vs Q R r hx q k => by
  rcases q with ⟨i, e1, q⟩ | ⟨i, e1, q⟩
  · subst e1
    obtain ⟨v, rfl, hv⟩ := vrs1 hx
    cases hv
    exact .inl ⟨i, rfl, k _ s m H _ q (.refl r) (.int _)⟩
  · subst e1
    obtain ⟨v, rfl, hv⟩ := vrs1 hx
    cases hv
    exact .inr ⟨i, rfl, k _ s m H _ q (.refl r) (.int _)⟩⟩
def oAbs : FL := fun xs s Q => ∃ i, xs = [.int i] ∧ Q (.int (if i < 0 then -i else i)) s
instance : SC K (fun xs H Q => ∃ i, xs = [.int i] ∧ Q (.int (if i < 0 then -i else i)) H) oAbs := ⟨fun m s H xs vs Q R r hx ⟨i, e1, q⟩ k => by
  subst e1
  obtain ⟨v, rfl, hv⟩ := vrs1 hx
  cases hv
  exact ⟨i, rfl, k _ s m H _ q (.refl r) (.int _)⟩⟩
def oMax2 : FL := fun xs s Q => ∃ i j, xs = [.int i, .int j] ∧ Q (.int (if j > i then j else i)) s
instance : SC K (fun xs H Q => ∃ i j, xs = [.int i, .int j] ∧ Q (.int (if j > i then j else i)) H) oMax2 := ⟨fun m s H xs vs Q R r hx ⟨i, j, e1, q⟩ k => by
  subst e1
  obtain ⟨v, w, rfl, hv, hw⟩ := vrs2 hx
  cases hv; cases hw
  exact ⟨i, j, rfl, k _ s m H _ q (.refl r) (.int _)⟩⟩
def oMin2 : FL := fun xs s Q => ∃ i j, xs = [.int i, .int j] ∧ Q (.int (if j < i then j else i)) s
instance : SC K (fun xs H Q => ∃ i j, xs = [.int i, .int j] ∧ Q (.int (if j < i then j else i)) H) oMin2 := ⟨fun m s H xs vs Q R r hx ⟨i, j, e1, q⟩ k => by
  subst e1
  obtain ⟨v, w, rfl, hv, hw⟩ := vrs2 hx
  cases hv; cases hw
  exact ⟨i, j, rfl, k _ s m H _ q (.refl r) (.int _)⟩⟩
def oStr : FL := fun xs s Q => ∃ i : Int, xs = [.int i] ∧ i.natAbs.log2 < 1920 ∧ Q (.str (toString i)) s
instance : SC K (fun xs H Q => ∃ i, xs = [.int i] ∧ i.natAbs.log2 < 1920 ∧ Q (.str (toString i)) H) oStr := ⟨fun m s H xs vs Q R r hx ⟨i, e1, e2, q⟩ k => by
  subst e1
  obtain ⟨v, rfl, hv⟩ := vrs1 hx
  cases hv
  exact ⟨i, rfl, e2, k _ s m H _ q (.refl r) (.str _)⟩⟩
/-- isinstance of a built-in type -/
def tyD (s : S) : D → Option String
  | .non => some "NoneType"
  | .bl _ => some "bool"
  | .int _ => some "int"
  | .str _ => some "str"
  | .tup 0 _ => some "tuple"
  | .lst 0 _ => some "list"
  | .rf i => match s[i]? with
    | some (_, .lst _) => some "list"
    | some (_, .dct _) => some "dict"
    | some (false, .dtt _) => some "dict"
    | _ => none
  | _ => none
theorem tyD_v {d : D} {v : V} {t : String} (r : Rp K m s H) (h : VR K m H d v) (e : tyD s d = some t) : TyX K H v (.type t) := by
  cases h with
  | non => cases e; exact .base .non
  | bl b => cases e; exact .base (.bl b)
  | int b => cases e; exact .base (.int b)
  | str b => cases e; exact .base (.str b)
  | ty t => cases e
  | cl a => cases e
  | @tup k a ds vs h q =>
    match k, h, e with
    | 0, h, e => cases e; exact .base (.tup h.2)
  | @lst k a ds vs h q =>
    match k, h, e with
    | 0, h, e => cases e; exact .base (.lst h.2)
  | @rf i _ hi z =>
    subst z
    unfold tyD at e
    cases hs : s[i]? with
    | none => simp [hs] at e
    | some p =>
      obtain ⟨b, o⟩ := p
      cases o with
      | lst es =>
        simp [hs] at e; subst e
        obtain ⟨vs, h1, h2⟩ := r.obj _ _ _ hs
        cases b with
        | false => exact .base (.lst h1)
        | true =>
          obtain ⟨od, h1⟩ := h1
          exact .base (.frz h1)
      | dct es =>
        simp [hs] at e; subst e
        obtain ⟨vs, h1, h2⟩ := r.obj _ _ _ hs
        cases b with
        | false => exact .base (.dK h1)
        | true =>
          obtain ⟨od, h1⟩ := h1
          exact .fDict h1
      | dtt es =>
        cases b with
        | true => simp [hs] at e
        | false =>
          simp [hs] at e; subst e
          obtain ⟨vs, h1, h2⟩ := r.obj _ _ _ hs
          exact .base (.dT h1)
      | ins C fs => simp [hs] at e
def oIsi : FL := fun xs s Q => ∃ x t n b, xs = [x, .ty n] ∧ tyD s x = some t ∧ kitB t n = some b ∧ Q (.bl b) s
instance : SC K (rIsi K) oIsi := ⟨fun m s H xs vs Q R r hx ⟨x, t, n, b, e1, e2, e3, q⟩ k => by
  subst e1
  obtain ⟨v, w, rfl, hv, hw⟩ := vrs2 hx
  cases hw
  exact ⟨v, .ty n, .type t, .type n, b, rfl, .ty n, tyD_v r hv e2, kit_ty e3, k _ s m H _ q (.refl r) (.bl _)⟩⟩
/-! ### methods of lists -/
class SB (K : PySem.W.Frag) (r : V → List V → Hp → VK → Prop) (o : outParam (D → List D → S → (D → S → Prop) → Prop)) : Prop where
  run : ∀ (m : M) (s : S) (H : Hp) (x : D) (xs : List D) (v : V) (vs : List V) (Q : D → S → Prop) (R : VK), Rp K m s H → VR K m H x v → VRs K m H xs vs → o x xs s Q → (∀ d s' m' H' v, Q d s' → Aft K m s H m' s' H' → VR K m' H' d v → R v H') → r v vs H R
def fBL (o : D → List D → S → (D → S → Prop) → Prop) (fo : FE) (fa : FA) : FE := fun e s Q => fo e s fun x s1 => (∃ ds, lstOf s1 x = some ds) ∧ fa e s1 fun xs s2 => o x xs s2 Q
instance {r : V → List V → Hp → VK → Prop} {o : D → List D → S → (D → S → Prop) → Prop} {to : TE} {t : TA} {fo : FE} {fa : FA} [h : SB K r o] [ho : SE K to fo] [ha : SA K t fa] : SE K (tBM K "list" r to t) (fBL o fo fa) := ⟨fun m s H e σ Q R r0 h0 q k => ho.run m s H e σ _ _ r0 h0 q fun x s1 m1 H1 v ⟨⟨ds, e1⟩, q1⟩ a1 hv => by
  obtain ⟨a, vs, rfl, h1, h2⟩ := rd_lst a1.rp hv e1
  exact ⟨.inl ⟨rfl, vs, h1⟩, ha.run m1 s1 H1 e σ _ _ a1.rp (h0.up a1.up) q1 fun xs s2 m2 H2 vs2 q2 a2 hv2 => h.run m2 s2 H2 x xs _ _ _ _ a2.rp (hv.up a2.up) hv2 q2 fun d s3 m3 H3 w q3 a3 hw => k d s3 m3 H3 w q3 ((a1.trans a2).trans a3) hw⟩⟩
def fBL0 (o : D → List D → S → (D → S → Prop) → Prop) (fo : FE) : FE := fun e s Q => fo e s fun x s1 => (∃ ds, lstOf s1 x = some ds) ∧ o x [] s1 Q
instance {r : V → List V → Hp → VK → Prop} {o : D → List D → S → (D → S → Prop) → Prop} {to : TE} {fo : FE} [h : SB K r o] [ho : SE K to fo] : SE K (tBM0 K "list" r to) (fBL0 o fo) := ⟨fun m s H e σ Q R r0 h0 q k => ho.run m s H e σ _ _ r0 h0 q fun x s1 m1 H1 v ⟨⟨ds, e1⟩, q1⟩ a1 hv => by
  obtain ⟨a, vs, rfl, h1, h2⟩ := rd_lst a1.rp hv e1
  exact ⟨.inl ⟨rfl, vs, h1⟩, h.run m1 s1 H1 x [] _ _ _ _ a1.rp hv .nil q1 fun d s3 m3 H3 w q3 a3 hw => k d s3 m3 H3 w q3 (a1.trans a3) hw⟩⟩
def oApp : D → List D → S → (D → S → Prop) → Prop := fun x xs s Q => ∃ i ds y, x = .rf i ∧ xs = [y] ∧ s[i]? = some (false, .lst ds) ∧ ds.length < 100000 ∧ Q .non (s.set i (false, .lst (ds ++ [y])))
instance : SB K rAppend oApp := ⟨fun m s H x xs v vs Q R r hx hxs ⟨i, ds, y, e1, e2, e3, e4, q⟩ k => by
  subst e1; subst e2
  obtain ⟨w, rfl, hw⟩ := vrs1 hxs
  cases hx with
  | rf hi e5 =>
    subst e5
    obtain ⟨ws, h1, h2⟩ := r.obj _ _ _ e3
    have ax := Aft.set (u := .lst (ws ++ [w])) (o' := .lst (ds ++ [y])) (b' := false) r e3 (fun g => ⟨_, upd_same, (h2.up g.up).app (.cons (hw.up g.up) .nil)⟩) rfl
    exact ⟨_, ws, w, rfl, rfl, h1, Evl.sz_lt (by rw [← h2.len]; exact e4), k _ _ m _ _ q ax .non⟩⟩
def oExt : D → List D → S → (D → S → Prop) → Prop := fun x xs s Q => ∃ i ds y es, x = .rf i ∧ xs = [y] ∧ s[i]? = some (false, .lst ds) ∧ lstX s y = some es ∧ ds.length + es.length ≤ 100000 ∧ Q .non (s.set i (false, .lst (ds ++ es)))
instance : SB K rExtend oExt := ⟨fun m s H x xs v vs Q R r hx hxs ⟨i, ds, y, es, e1, e2, e3, e6, e4, q⟩ k => by
  subst e1; subst e2
  obtain ⟨w, rfl, hw⟩ := vrs1 hxs
  obtain ⟨b, us, rfl, h5, h6⟩ := rd_lstX r hw e6
  cases hx with
  | rf hi e5 =>
    subst e5
    obtain ⟨ws, h1, h2⟩ := r.obj _ _ _ e3
    have ax := Aft.set (u := .lst (ws ++ us)) (o' := .lst (ds ++ es)) (b' := false) r e3 (fun g => ⟨_, upd_same, (h2.up g.up).app (h6.up g.up)⟩) rfl
    exact ⟨_, b, ws, us, rfl, rfl, h1, h5, Evl.sz_of (by rw [← h2.len, ← h6.len]; exact e4), k _ _ m _ _ q ax .non⟩⟩
def oPopAt : D → List D → S → (D → S → Prop) → Prop := fun x xs s Q => ∃ i ds j kk y, x = .rf i ∧ xs = [.int j] ∧ s[i]? = some (false, .lst ds) ∧ -(2 ^ 63) ≤ j ∧ j < 2 ^ 63 ∧ seqIndex? j ds.length = some kk ∧ ds[kk]? = some y ∧ Q y (s.set i (false, .lst (ds.eraseIdx kk)))
instance : SB K rPopAt oPopAt := ⟨fun m s H x xs v vs Q R r hx hxs ⟨i, ds, j, kk, y, e1, e2, e3, e4, e5, e6, e7, q⟩ k => by
  subst e1; subst e2
  obtain ⟨w, rfl, hw⟩ := vrs1 hxs
  cases hw
  cases hx with
  | rf hi e8 =>
    subst e8
    obtain ⟨ws, h1, h2⟩ := r.obj _ _ _ e3
    obtain ⟨u, h3, h4⟩ := h2.get e7
    have ax := Aft.set (u := .lst (ws.eraseIdx kk)) (o' := .lst (ds.eraseIdx kk)) (b' := false) r e3 (fun g => ⟨_, upd_same, (h2.up g.up).eraseIdx kk⟩) rfl
    exact ⟨_, ws, j, kk, u, rfl, rfl, h1, e4, e5, by rw [← h2.len]; exact e6, h3, k _ _ m _ _ q ax (h4.up ax.up)⟩⟩
/-! ### slices, sums and multiples of lists -/
def fNo : FO := fun _ s Q => Q none s
def fPart (f : FE) : FO := fun e s Q => f e s fun x s1 => ∃ i, x = .int i ∧ Q (some i) s1
instance : SO K tNoPart fNo := ⟨fun m s H e σ Q R r h0 q k => k _ s m H q (.refl r)⟩
instance {t : TE} {f : FE} [h : SE K t f] : SO K (tPart t) (fPart f) := ⟨fun m s H e σ Q R r h0 q k => h.run m s H e σ _ _ r h0 q fun x s1 m1 H1 v ⟨i, e1, q1⟩ a1 hv => by
  subst e1
  cases hv
  exact ⟨i, rfl, k _ s1 m1 H1 q1 a1⟩⟩
def cutD (xs : List D) (lo hi : Option Int) : List D := (xs.drop (HT.sIx xs.length 0 lo)).take (HT.sIx xs.length xs.length hi - HT.sIx xs.length 0 lo)
theorem vrs_cut {ds : List D} {vs : List V} {lo hi : Option Int} (h : VRs K m H ds vs) : VRs K m H (cutD ds lo hi) (cutV vs lo hi) := by
  unfold cutD cutV
  rw [h.len]
  exact (h.drop _).take _
def fSlL (f : FE) (l h : FO) : FA := fun e s Q => f e s fun x s1 => l e s1 fun lo s2 => h e s2 fun hi s3 => ∃ ds, lstOf s3 x = some ds ∧ Q (cutD ds lo hi) s3
instance {t : TE} {tl th : TO} {f : FE} {l h : FO} [hf : SE K t f] [hl : SO K tl l] [hh : SO K th h] : SN K (tSl (rSlL K) t tl th) (fSlL f l h) := ⟨fun m s H e σ Q R r h0 q k => hf.run m s H e σ _ _ r h0 q fun x s1 m1 H1 v q1 a1 hv =>
  hl.run m1 s1 H1 e σ _ _ a1.rp (h0.up a1.up) q1 fun lo s2 m2 H2 q2 a2 => hh.run m2 s2 H2 e σ _ _ a2.rp (h0.up (a1.trans a2).up) q2 fun hi s3 m3 H3 ⟨ds, e1, q3⟩ a3 => by
    have a13 := (a1.trans a2).trans a3
    obtain ⟨a, vs, rfl, h1, h2⟩ := rd_lst a3.rp (hv.up (a2.trans a3).up) e1
    exact ⟨a, vs, rfl, h1, fun p hp => k _ s3 _ _ p _ q3 (.start a13 hp) ((vrs_cut h2).up (up_wx hp))⟩⟩
def fSlT (f : FE) (l h : FO) : FE := fun e s Q => f e s fun x s1 => l e s1 fun lo s2 => h e s2 fun hi s3 => ∃ ds, tupOf x = some ds ∧ ¬ (HT.sIx ds.length 0 lo = 0 ∧ HT.sIx ds.length ds.length hi = ds.length) ∧ Q (.tup 0 (cutD ds lo hi)) s3
instance {t : TE} {tl th : TO} {f : FE} {l h : FO} [hf : SE K t f] [hl : SO K tl l] [hh : SO K th h] : SE K (tSl (rSlT K) t tl th) (fSlT f l h) := ⟨fun m s H e σ Q R r h0 q k => hf.run m s H e σ _ _ r h0 q fun x s1 m1 H1 v q1 a1 hv =>
  hl.run m1 s1 H1 e σ _ _ a1.rp (h0.up a1.up) q1 fun lo s2 m2 H2 q2 a2 => hh.run m2 s2 H2 e σ _ _ a2.rp (h0.up (a1.trans a2).up) q2 fun hi s3 m3 H3 ⟨ds, e1, hw, q3⟩ a3 => by
    have a13 := (a1.trans a2).trans a3
    obtain ⟨a, vs, rfl, h1, h2⟩ := rd_tup (hv.up (a2.trans a3).up) e1
    exact ⟨a, vs, rfl, h1, by rw [← h2.len]; exact hw, fun p hp => k _ s3 m3 _ _ q3 (a13.trans (.new a3.rp hp)) (.tup (k := 0) ⟨a3.rp.nim hp, upd_same⟩ ((vrs_cut h2).up (Gr.new1 hp).up))⟩⟩
/-- the sum of two tuples -/
def oCatA : F2 := fun x y s Q => ∃ ds es, tupOf x = some ds ∧ tupOf y = some es ∧ ds.length + es.length ≤ 100000 ∧ (if ds = [] then Q y s else if es = [] then Q x s else Q (.tup 0 (ds ++ es)) s)
instance : S2 K (rCatA K) oCatA := ⟨fun m s H x y v w Q R r hx hy ⟨ds, es, e1, e2, e3, q⟩ k => by
  obtain ⟨a, vs, ev, h1, h2⟩ := rd_tup hx e1
  obtain ⟨b, ws, ew, h3, h4⟩ := rd_tup hy e2
  subst ev; subst ew
  have l1 := h2.len
  have l2 := h4.len
  refine ⟨a, b, vs, ws, rfl, rfl, h1, h3, Evl.sz_of (by omega), fun z => ?_, fun z1 z2 => ?_, fun z1 z2 p hp => ?_⟩
  · subst z
    obtain rfl : ds = [] := List.length_eq_zero_iff.mp l1
    rw [if_pos rfl] at q
    exact k _ s m H _ q (.refl r) hy
  · subst z2
    obtain rfl : es = [] := List.length_eq_zero_iff.mp l2
    rw [if_neg (fun z => z1 (by rw [z] at l1; exact List.length_eq_zero_iff.mp l1.symm)), if_pos rfl] at q
    exact k _ s m H _ q (.refl r) hx
  · rw [if_neg (fun z => z1 (by rw [z] at l1; exact List.length_eq_zero_iff.mp l1.symm)), if_neg (fun z => z2 (by rw [z] at l2; exact List.length_eq_zero_iff.mp l2.symm))] at q
    exact k _ s m _ _ q (.new r hp) (.tup (k := 0) ⟨r.nim hp, upd_same⟩ ((h2.app h4).up (Gr.new1 hp).up))⟩
def oCat : D → D → S → (List D → S → Prop) → Prop := fun x y s Q => ∃ ds es, lstX s x = some ds ∧ lstX s y = some es ∧ ds.length + es.length ≤ 100000 ∧ Q (ds ++ es) s
class S2N (K : PySem.W.Frag) (r : R2) (o : outParam (D → D → S → (List D → S → Prop) → Prop)) : Prop where
  run : ∀ (m : M) (s : S) (H : Hp) (x y : D) (v w : V) (Q : List D → S → Prop) (R : VK), Rp K m s H → VR K m H x v → VR K m H y w → o x y s Q → (∀ ds s' m' H' p vs, Q ds s' → Nw K m s H m' s' H' p (.lst vs) → VRs K m' H' ds vs → R (.ref p) H') → r v w H R
def fOpN (o : D → D → S → (List D → S → Prop) → Prop) (fa fb : FE) : FA := fun e s Q => fa e s fun x s1 => fb e s1 fun y s2 => o x y s2 Q
instance {r : R2} {o : D → D → S → (List D → S → Prop) → Prop} {ta tb : TE} {fa fb : FE} [h : S2N K r o] [ha : SE K ta fa] [hb : SE K tb fb] : SN K (tOp r ta tb) (fOpN o fa fb) := ⟨fun m s H e σ Q R r0 h0 h1 k =>
  ha.run m s H e σ _ _ r0 h0 h1 fun x s1 m1 H1 v q1 a1 v1 => hb.run m1 s1 H1 e σ _ _ a1.rp (h0.up a1.up) q1 fun y s2 m2 H2 w q2 a2 v2 =>
    h.run m2 s2 H2 x y v w _ _ a2.rp (v1.up a2.up) v2 q2 fun d s3 m3 H3 p u q3 w3 v3 => k d s3 m3 H3 p u q3 (.pre (a1.trans a2) w3) v3⟩
instance : S2N K rCat oCat := ⟨fun m s H x y v w Q R r hx hy ⟨ds, es, e1, e2, e3, q⟩ k => by
  obtain ⟨a, vs, rfl, h1, h2⟩ := rd_lstX r hx e1
  obtain ⟨b, ws, rfl, h3, h4⟩ := rd_lstX r hy e2
  exact ⟨a, b, vs, ws, rfl, rfl, h1, h3, Evl.sz_of (by rw [← h2.len, ← h4.len]; exact e3), fun p hp => k _ s _ _ p _ q (.start (.refl r) hp) ((h2.app h4).up (up_wx hp))⟩⟩
def oRep : D → D → S → (List D → S → Prop) → Prop := fun x y s Q => ∃ ds k, lstX s x = some ds ∧ y = .int k ∧ -(2 ^ 63) ≤ k ∧ k < 2 ^ 63 ∧ ds.length * k.toNat ≤ 100000 ∧ Q (List.replicate k.toNat ds).flatten s
theorem vrs_rep {ds : List D} {vs : List V} (h : VRs K m H ds vs) : ∀ n : Nat, VRs K m H (List.replicate n ds).flatten (List.replicate n vs).flatten
  | 0 => .nil
  | n + 1 => by
    rw [List.replicate_succ, List.replicate_succ, List.flatten_cons, List.flatten_cons]
    exact h.app (vrs_rep h n)
instance : S2N K rRep oRep := ⟨fun m s H x y v w Q R r hx hy ⟨ds, j, e1, e2, e3, e4, e5, q⟩ k => by
  subst e2
  cases hy
  obtain ⟨a, vs, rfl, h1, h2⟩ := rd_lstX r hx e1
  exact ⟨a, j, vs, rfl, rfl, h1, e3, e4, Evl.sz_of (by rw [← h2.len]; exact e5), fun p hp => k _ s _ _ p _ q (.start (.refl r) hp) ((vrs_rep h2 _).up (up_wx hp))⟩⟩
end
end Sm

set_option Elab.async false
set_option linter.all false
set_option maxRecDepth 100000
set_option maxHeartbeats 4000000
namespace Sm
open PySem PySem.Spec PyProof.Rows L2
/-! ### the end of a def: what it made alone is let go -/
mutual
/-- the value names nothing from n on -/
inductive Cl (n : Nat) : D → Prop
  | non : Cl n .non
  | bl (b : Bool) : Cl n (.bl b)
  | int (i : Int) : Cl n (.int i)
  | str (x : Str) : Cl n (.str x)
  | ty (t : String) : Cl n (.ty t)
  | cl (a : Addr) : Cl n (.cl a)
  | rf {i : Nat} (h : i < n) : Cl n (.rf i)
  | tup {k : Nat} {ds : List D} (h : Cls' n ds) : Cl n (.tup k ds)
  | lst {k : Nat} {ds : List D} (h : Cls' n ds) : Cl n (.lst k ds)
inductive Cls' (n : Nat) : List D → Prop
  | nil : Cls' n []
  | cons {d : D} {ds : List D} (h : Cl n d) (t : Cls' n ds) : Cls' n (d :: ds)
end
mutual
/-- what is from n on is a value from now on -/
inductive Fz (n : Nat) (s : S) : D → D → Prop
  | non : Fz n s .non .non
  | bl (b : Bool) : Fz n s (.bl b) (.bl b)
  | int (i : Int) : Fz n s (.int i) (.int i)
  | str (x : Str) : Fz n s (.str x) (.str x)
  | ty (t : String) : Fz n s (.ty t) (.ty t)
  | cl (a : Addr) : Fz n s (.cl a) (.cl a)
  | rf {i : Nat} (h : i < n) : Fz n s (.rf i) (.rf i)
  | lrf {i : Nat} {ds es : List D} (h : n ≤ i) (e : s[i]? = some (false, .lst ds)) (t : Fzs n s ds es) : Fz n s (.rf i) (.lst 0 es)
  | tup {k : Nat} {ds es : List D} (h : Fzs n s ds es) : Fz n s (.tup k ds) (.tup k es)
  | lst {k : Nat} {ds es : List D} (h : Fzs n s ds es) : Fz n s (.lst k ds) (.lst k es)
inductive Fzs (n : Nat) (s : S) : List D → List D → Prop
  | nil : Fzs n s [] []
  | cons {d e : D} {ds es : List D} (h : Fz n s d e) (t : Fzs n s ds es) : Fzs n s (d :: ds) (e :: es)
end
def ClO (n : Nat) : O → Prop
  | .lst ds => ∀ d ∈ ds, Cl n d
  | .dct kvs => ∀ p ∈ kvs, Cl n p.2
  | .dtt kvs => ∀ p ∈ kvs, Cl n p.2
  | .ins _ fs => ∀ p ∈ fs, Cl n p.2
def M.cut (m : M) (n : Nat) : M := ⟨m.f, n, m.x⟩
section
variable {K : PySem.W.Frag} {m m' m2 : M} {H H' H2 : Hp} {s s' : S} {n : Nat}
theorem nim_cut {a : Addr} (h : nim m a) (hn : n ≤ m.n) : nim (m.cut n) a := ⟨fun i hi => h.1 i (Nat.lt_of_lt_of_le hi hn), h.2⟩
theorem tupK_cut {k : Nat} {a : Addr} {vs : List V} (h : TupK K m H k a vs) (hn : n ≤ m.n) : TupK K (m.cut n) H k a vs := by
  match k, h with
  | 0, ⟨h1, h2⟩ => exact ⟨nim_cut h1 hn, h2⟩
  | 1, ⟨h1, h2⟩ => exact ⟨nim_cut h1 hn, h2⟩
  | 2, ⟨h1, h2⟩ => exact ⟨nim_cut h1 hn, h2⟩
  | (k + 3), h => exact h
theorem lstK_cut {k : Nat} {a : Addr} {vs : List V} (h : LstK K m H k a vs) (hn : n ≤ m.n) : LstK K (m.cut n) H k a vs := by
  match k, h with
  | 0, ⟨h1, h2⟩ => exact ⟨nim_cut h1 hn, h2⟩
  | 1, ⟨h1, h2⟩ => exact ⟨nim_cut h1 hn, h2⟩
  | (k + 2), h => exact h
mutual
theorem vr_cut (hn : n ≤ m.n) : ∀ (d : D) (v : V), Cl n d → VR K m H d v → VR K (m.cut n) H d v
  | _, _, _, .non => .non
  | _, _, _, .bl b => .bl b
  | _, _, _, .int i => .int i
  | _, _, _, .str x => .str x
  | _, _, _, .ty t => .ty t
  | _, _, _, .cl a => .cl a
  | .rf i, v, .rf c, .rf h e => .rf c e
  | .tup _ ds, _, .tup c, .tup h r => .tup (tupK_cut h hn) (vrs_cut' hn ds _ c r)
  | .lst _ ds, _, .lst c, .lst h r => .lst (lstK_cut h hn) (vrs_cut' hn ds _ c r)
theorem vrs_cut' (hn : n ≤ m.n) : ∀ (ds : List D) (vs : List V), Cls' n ds → VRs K m H ds vs → VRs K (m.cut n) H ds vs
  | _, _, _, .nil => .nil
  | d :: ds, v :: vs, .cons c t, .cons h r => .cons (vr_cut hn d v c h) (vrs_cut' hn ds vs t r)
end
mutual
theorem vr_fz (hn : n ≤ m.n) (r : Rp K m s H) : ∀ (d e : D) (v : V), Fz n s d e → VR K m H d v → VR K (m.cut n) H e v
  | _, _, _, .non, .non => .non
  | _, _, _, .bl b, .bl _ => .bl b
  | _, _, _, .int i, .int _ => .int i
  | _, _, _, .str x, .str _ => .str x
  | _, _, _, .ty t, .ty _ => .ty t
  | _, _, _, .cl a, .cl _ => .cl a
  | .rf i, _, v, .rf c, .rf h e => .rf c e
  | .rf i, .lst 0 es, v, .lrf c e t, .rf h e2 => by
    subst e2
    obtain ⟨vs, h1, h2⟩ := r.obj _ _ _ e
    exact .lst (k := 0) ⟨⟨fun j hj z => by
      have := r.inj j i (Nat.lt_of_lt_of_le hj hn) h z
      have hj : j < n := hj
      omega, r.sep i h⟩, h1⟩ (vrs_fz hn r _ es _ t h2)
  | .tup k ds, .tup _ es, _, .tup c, .tup h q => .tup (tupK_cut h hn) (vrs_fz hn r ds es _ c q)
  | .lst k ds, .lst _ es, _, .lst c, .lst h q => .lst (lstK_cut h hn) (vrs_fz hn r ds es _ c q)
theorem vrs_fz (hn : n ≤ m.n) (r : Rp K m s H) : ∀ (ds es : List D) (vs : List V), Fzs n s ds es → VRs K m H ds vs → VRs K (m.cut n) H es vs
  | _, _, _, .nil, .nil => .nil
  | d :: ds, e :: es, v :: vs, .cons c t, .cons h q => .cons (vr_fz hn r d e v c h) (vrs_fz hn r ds es vs t q)
end
mutual
theorem vr_cl (hn : m.n ≤ n) : ∀ (d : D) (v : V), VR K m H d v → Cl n d
  | _, _, .non => .non
  | _, _, .bl b => .bl b
  | _, _, .int i => .int i
  | _, _, .str x => .str x
  | _, _, .ty t => .ty t
  | _, _, .cl a => .cl a
  | .rf i, v, .rf h e => .rf (Nat.lt_of_lt_of_le h hn)
  | .tup _ ds, _, .tup h r => .tup (vrs_cl hn ds _ r)
  | .lst _ ds, _, .lst h r => .lst (vrs_cl hn ds _ r)
theorem vrs_cl (hn : m.n ≤ n) : ∀ (ds : List D) (vs : List V), VRs K m H ds vs → Cls' n ds
  | _, _, .nil => .nil
  | d :: ds, v :: vs, .cons h r => .cons (vr_cl hn d v h) (vrs_cl hn ds vs r)
end
theorem cls_mem : ∀ {ds : List D}, Cls' n ds ↔ ∀ d ∈ ds, Cl n d
  | [] => ⟨fun _ d h => (nomatch h), fun _ => .nil⟩
  | d :: ds => by
    refine ⟨fun z => ?_, fun h => .cons (h d List.mem_cons_self) (cls_mem.mpr fun x hx => h x (List.mem_cons_of_mem _ hx))⟩
    cases z with
    | cons h t =>
      intro x hx
      rcases List.mem_cons.mp hx with rfl | hx
      · exact h
      · exact cls_mem.mp t x hx
theorem kr_cut {κ : Type} (hn : n ≤ m.n) : ∀ {kvs : List (κ × D)} {ws : List (κ × V)}, (∀ p ∈ kvs, Cl n p.2) → KR K m H kvs ws → KR K (m.cut n) H kvs ws
  | _, _, _, .nil => .nil
  | _, _, c, .cons h r => .cons (vr_cut hn _ _ (c _ List.mem_cons_self) h) (kr_cut hn (fun p hp => c p (List.mem_cons_of_mem _ hp)) r)
theorem kr_cl {κ : Type} (hn : m.n ≤ n) : ∀ {kvs : List (κ × D)} {ws : List (κ × V)}, KR K m H kvs ws → ∀ p ∈ kvs, Cl n p.2
  | _, _, .nil => fun p h => nomatch h
  | _, _, .cons h r => fun p hp => by
    rcases List.mem_cons.mp hp with rfl | hp
    · exact vr_cl hn _ _ h
    · exact kr_cl hn r p hp
theorem or_cut {a : Addr} {b : Bool} {o : O} (hn : n ≤ m.n) (h : OR K m H a b o) (c : ClO n o) : OR K (m.cut n) H a b o := by
  cases o with
  | lst ds => obtain ⟨vs, h1, h2⟩ := h; exact ⟨vs, h1, vrs_cut' hn _ _ (cls_mem.mpr c) h2⟩
  | dct ds => obtain ⟨vs, h1, h2⟩ := h; exact ⟨vs, h1, kr_cut hn c h2⟩
  | dtt ds => obtain ⟨vs, h1, h2⟩ := h; exact ⟨vs, h1, kr_cut hn c h2⟩
  | ins C ds => obtain ⟨dx, vs, h1, h2⟩ := h; exact ⟨dx, vs, h1, kr_cut hn c h2⟩
theorem or_cl {a : Addr} {b : Bool} {o : O} (hn : m.n ≤ n) (h : OR K m H a b o) : ClO n o := by
  cases o with
  | lst ds => obtain ⟨vs, h1, h2⟩ := h; exact cls_mem.mp (vrs_cl hn _ _ h2)
  | dct ds => obtain ⟨vs, h1, h2⟩ := h; exact kr_cl hn h2
  | dtt ds => obtain ⟨vs, h1, h2⟩ := h; exact kr_cl hn h2
  | ins C ds => obtain ⟨dx, vs, h1, h2⟩ := h; exact kr_cl hn h2
/-- s: the store at the def's entry; s': at its end. Its own objects from n on are let go -/
def Gc (s s' : S) (d : D) (Q : D → S → Prop) : Prop := Q d s' ∨ ∃ n d2, s.length ≤ n ∧ n ≤ s'.length ∧ Fz n s' d d2 ∧ (∀ (i : Nat) (b : Bool) (o : O), i < n → s'[i]? = some (b, o) → s[i]? = some (b, o) ∨ ClO n o) ∧ Q d2 (s'.take n)
theorem gc_ok {d : D} {v : V} {Q : D → S → Prop} {R : VK} (r : Rp K m s H) (g : Gc s s' d Q) (a : Aft K m s H m' s' H') (hv : VR K m' H' d v) (k : ∀ d s' m' H' v, Q d s' → Aft K m s H m' s' H' → VR K m' H' d v → R v H') : R v H' := by
  rcases g with q | ⟨n, d2, h1, h2, f, c, q⟩
  · exact k d s' m' H' v q a hv
  · have hn : n ≤ m'.n := by rw [a.rp.len]; exact h2
    have h1' : m.n ≤ n := by rw [r.len]; exact h1
    have lt : (s'.take n).length = n := by rw [List.length_take]; omega
    have gt : ∀ i, i < n → (s'.take n)[i]? = s'[i]? := fun i hi => List.getElem?_take_of_lt hi
    refine k d2 _ (m'.cut n) H' v q ⟨⟨h1', a.gr.same, a.gr.ex, fun i hi hi2 => a.gr.new i hi (Nat.lt_of_lt_of_le hi2 hn), a.gr.keep, a.gr.dom⟩, ⟨lt.symm, fun i b o h => ?_, fun i j hi hj => a.rp.inj i j (Nat.lt_of_lt_of_le hi hn) (Nat.lt_of_lt_of_le hj hn), a.rp.ex, fun i hi => a.rp.sep i (Nat.lt_of_lt_of_le hi hn)⟩, fun i o h => ?_, a.ln⟩ (vr_fz hn a.rp d d2 v f hv)
    · have hi : i < n := by
        have := (List.getElem?_eq_some_iff.mp h).1
        omega
      rw [gt i hi] at h
      refine or_cut hn (a.rp.obj i b o h) ?_
      rcases c i b o hi h with z | z
      · exact or_cl h1' (r.obj i b o z)
      · exact z
    · obtain ⟨h3, h4⟩ := a.lk i o h
      have hi : i < s.length := (List.getElem?_eq_some_iff.mp h).1
      exact ⟨by rw [gt i (by omega)]; exact h3, h4⟩
/-- the end with the store as it was -/
theorem gc_app {d d2 : D} {g : S} {Q : D → S → Prop} (f : Fz s.length (s ++ g) d d2) (q : Q d2 s) : Gc s (s ++ g) d Q := .inr ⟨s.length, d2, Nat.le_refl _, by rw [List.length_append]; omega, f, fun i b o hi h => .inl (by rw [List.getElem?_append_left hi] at h; exact h), by rw [List.take_left]; exact q⟩
def startE (N : List Str) (ds : List D) : En := ds.map some ++ List.replicate (N.length - ds.length) none
theorem er_start {N : List Str} {ds : List D} {vs : List V} (h : VRs K m H ds vs) : ER K m H (startE N ds) (L2.start N vs) := by
  refine ⟨by unfold startE L2.start; rw [List.length_append, List.length_append, List.length_map, List.length_map, List.length_replicate, List.length_replicate, h.len], fun i d q => ?_⟩
  unfold startE at q
  by_cases hi : i < (ds.map some).length
  · rw [List.getElem?_append_left hi, List.getElem?_map] at q
    cases hd : ds[i]? with
    | none => rw [hd] at q; cases q
    | some x =>
      rw [hd] at q
      cases q
      obtain ⟨v, h1, h2⟩ := h.get hd
      refine ⟨v, ?_, h2⟩
      unfold L2.start
      rw [List.getElem?_append_left (by rw [List.length_map] at hi ⊢; rw [← h.len]; exact hi), List.getElem?_map, h1] <;> rfl
  · rw [List.getElem?_append_right (by omega), List.getElem?_replicate] at q
    split at q <;> cases q
/-- a def's body by its reading in values and the store -/
theorem fn_run {t : TS} {f : FS} {N : List Str} {k : Nat} {P : FSp} {vs : List V} {Q : VK} {E : XK} (h : SS K t f) (hsp : spF K k P vs H Q E)
    (hb : ∀ ds s Q', ds.length = k → P ds s Q' → f { nx := fun _ s' => Gc s s' .non Q', rt := fun d s' => Gc s s' d Q' } (startE N ds) s) : t { nx := fun _ H' => Q .non H', rt := Q } (L2.start N vs) H := by
  obtain ⟨m, s, ds, Q', r, hl, hv, hp, kk⟩ := hsp
  refine h.run m s H _ _ _ _ r (er_start hv) (hb ds s Q' hl hp) ⟨fun e2 s2 m2 H2 σ2 q a er => ?_, fun _ _ _ _ _ q => q.elim, fun _ _ _ _ _ q => q.elim, fun d s2 m2 H2 v q a hv2 => gc_ok r q a hv2 kk⟩
  exact gc_ok r q a .non kk
theorem sp_len {k : Nat} {P : FSp} {vs : List V} {Q : VK} {E : XK} (hsp : spF K k P vs H Q E) : vs.length = k := by
  obtain ⟨m, s, ds, Q', r, hl, hv, _⟩ := hsp
  rw [← hv.len, hl]
/-- the law's own body -/
theorem law_run {t : TS} {f : FS} {N : List Str} {a : Addr} {ns : List Int} {Q : VK} (h : SS K t f) (hS : SqL K H a (ns.map V.int)) (k : ∀ H', Q (.bl true) H')
    (hb : ∀ j, f { nx := fun _ _ => False, rt := fun d _ => d = .bl true } (startE N [.lst (j + 1) (ns.map D.int)]) []) : t { nx := fun _ H' => Q .non H', rt := Q } (L2.start N [.ref a]) H := by
  have r : Rp K ⟨fun _ => 0, 0, []⟩ [] H := ⟨rfl, fun i b o h => (by simp at h), fun i j hi => absurd hi (Nat.not_lt_zero _), fun a ha => (nomatch ha), fun i hi => absurd hi (Nat.not_lt_zero _)⟩
  have hm : VRs K ⟨fun _ => 0, 0, []⟩ H (ns.map D.int) (ns.map V.int) := VRs.map (fun i => .int i) ns
  have hv : ∃ j, VR K ⟨fun _ => 0, 0, []⟩ H (.lst (j + 1) (ns.map D.int)) (.ref a) := by
    rcases hS with hS | hS
    · exact ⟨0, .lst (k := 1) ⟨⟨fun i hi => absurd hi (Nat.not_lt_zero _), fun z => (nomatch z)⟩, hS⟩ hm⟩
    · exact ⟨1, .lst (k := 2) (fun H' => .inr hS) hm⟩
  obtain ⟨j, hv⟩ := hv
  refine h.run _ [] H _ _ _ _ r (er_start (.cons hv .nil)) (hb j) ⟨fun _ _ _ _ _ q => q.elim, fun _ _ _ _ _ q => q.elim, fun _ _ _ _ _ q => q.elim, fun d s2 m2 H2 v q a hv2 => ?_⟩
  subst q
  cases hv2
  exact k H2
end
end Sm

set_option Elab.async false
set_option linter.all false
set_option maxRecDepth 100000
set_option maxHeartbeats 4000000
namespace PySem.W
open PySem PySem.SeqAt PyProof.Rows
variable {prog : Program} {w : World} {A : Around} {E : Value → Shared → Prop} {s : Shared}
theorem call_max_twoH {a b : Value} {Q : Value → Shared → Prop}
    (h : wpAny (model prog w) A.in1 (pyIter (.ref s.heap.objs.size)) (fun it s₂ => ∃ I fp wr G n P St H bt, it = .ref I ∧ WalksS prog w A.in1 I fp wr G n P St ∧ St 0 s₂ ∧ (∀ b ∈ fp, b < s₂.heap.objs.size) ∧ 0 < n ∧
      (∀ b o, H.get? b = some o → b ∉ wr) ∧ (∀ b o, H.get? b = some o → s₂.heap.get? b = some o) ∧ CmpIn prog w A.in1 .Gt H P bt ∧ ∀ v s', P (argBest bt (n - 1)) v → Moved wr G s₂ s' → Q v s') E
      { s with heap := s.heap.push { cls := .type "tuple", data := .seq #[a, b] } }) :
    wpAny (model prog w) A (call (.builtin "max") [a, b]) Q E s := by
  have hname : (toString "max" ++ toString ".loop" : String) = "max.loop" := by decide
  refine call_function_tree F.kind_max F.plain_max F.entry_max (F.args_max2 _ _) ?_
  show wpAny _ A.in1 (Builtin.Builtins.bindParams "max" ["key", "default"] 0 ⟨[], []⟩ >>= _) _ _ s
  refine wpAny_bind (wpAny_of_eq (show Builtin.Builtins.bindParams "max" ["key", "default"] 0 ⟨[], []⟩ = pure [none, none] from rfl) ?_)
  show wpAny _ A.in1 (newTuple [a, b] >>= _) _ _ s
  refine wpAny_bind (wpAny_newObj_type ?_)
  refine wpAny_bind (wpAny_mono h (fun it s₂ h₂ => ?_) fun _ _ e => e)
  obtain ⟨I, fp, wr, G, n, P, St, H, bt, rfl, W, hst, hfp, hn, hw, hkeep, hcmp, hQ⟩ := h₂
  refine wpAny_bind (wpAny_newObj_type ?_)
  have hSf : s₂.heap.objs.size ∉ fp := fun hm => Nat.lt_irrefl _ (hfp _ hm)
  rw [hname]
  refine wpAny_pure ⟨plainId_quiet F.plain_max_loop _, codeAny_max_loop_firstH W H hw bt hcmp s₂.heap.objs.size hSf (fresh_in hkeep) _ hn (fun b o e => Heap.get?_push_of_some _ (hkeep b o e)) (W.frame 0 s₂ _ s₂.toks hst (Nat.le_refl _) fun b _ o e => Heap.get?_push_of_some _ e) (Heap.get?_push_size _ rfl) fun v s' hP hm => ?_⟩
  exact hQ v s' hP (Moved.drop_new (tk := s₂.toks) hm (Nat.le_refl _))
/-- max of two alike data -/
theorem max_two_data {a b : Value} {d e : PyData} {as bs : List Addr} {Q : Value → Shared → Prop} (hh : A.handled = none) (ra : Reads s.heap a d as) (rb : Reads s.heap b e bs) (ha : AlikeAll [d, e]) (hu : A.units + 1 + PyData.depthAll [d, e] < cLine)
    (h : ∀ h' tk, (∀ b o, s.heap.get? b = some o → h'.get? b = some o) → Q (if dataLt d e = true then b else a) { s with heap := h', toks := tk }) :
    wpAny (model prog w) A (call (.builtin "max") [a, b]) Q E s := by
  have hT : (s.heap.push { cls := .type "tuple", data := .seq #[a, b] }).IsTuple s.heap.objs.size #[a, b] := ⟨_, Heap.get?_push_size _ rfl, rfl, 0, rfl⟩
  have hk0 : ∀ c o, s.heap.get? c = some o → (s.heap.push { cls := .type "tuple", data := .seq #[a, b] }).get? c = some o := fun c o e => Heap.get?_push_of_some _ e
  have hr : ReadsAll (s.heap.push { cls := .type "tuple", data := .seq #[a, b] }) (#[a, b] : Array Value).toList [d, e] (as ++ (bs ++ [])) := .cons (reads_keeps hk0 ra) (.cons (reads_keeps hk0 rb) .nil)
  refine call_max_twoH (iter_tupleW (A := A.in1) (s := { s with heap := s.heap.push { cls := .type "tuple", data := .seq #[a, b] } }) hh hT fun s₂ e1 W st hfp hw hk => ?_)
  refine ⟨_, _, _, _, _, _, _, (s.heap.push { cls := .type "tuple", data := .seq #[a, b] }), (fun i j => dataLt ([d, e].getD j .none) ([d, e].getD i .none)), rfl, W, st, hfp, (by show 0 < 2; decide), hw, hk, cmpIn_gt (s := { s with heap := s.heap.push { cls := .type "tuple", data := .seq #[a, b] } }) (A := A.in1) (vs := #[a, b]) hr ha (by show A.units + 1 + _ < _; exact hu), fun v s' hP m => ?_⟩
  obtain ⟨h', tk, rfl, hk'⟩ := moved_old e1 rfl m
  have := h h' tk fun c o q => hk' c o (hk0 c o q)
  have hv : v = if dataLt d e = true then b else a := by
    have hP : (#[a, b] : Array Value)[argBest (fun i j => dataLt ([d, e].getD j .none) ([d, e].getD i .none)) 1]? = some v := hP
    cases q : dataLt d e with
    | true =>
      have e : argBest (fun i j => dataLt ([d, e].getD j .none) ([d, e].getD i .none)) 1 = 1 := by simp [argBest, q]
      rw [e] at hP
      simpa using hP.symm
    | false =>
      have e : argBest (fun i j => dataLt ([d, e].getD j .none) ([d, e].getD i .none)) 1 = 0 := by simp [argBest, q]
      rw [e] at hP
      simpa using hP.symm
  rw [hv]
  exact this
end PySem.W
namespace Sm
open PySem PySem.Spec PyProof.Rows L2
def rGtD (K : PySem.W.Frag) : R2 := fun x y H Q => ∃ d e, Dp K H x d ∧ Dp K H y e ∧ PySem.W.alike d e = true ∧ d ≠ .none ∧ d.depth ≤ 64 ∧ Q (.bl (PySem.W.dataLt e d)) H
def rLtD (K : PySem.W.Frag) : R2 := fun x y H Q => ∃ d e, Dp K H x d ∧ Dp K H y e ∧ PySem.W.alike d e = true ∧ d ≠ .none ∧ d.depth ≤ 64 ∧ Q (.bl (PySem.W.dataLt d e)) H
theorem op_gtD {X : Cx} {K : PySem.W.Frag} (hK : X.K = K) (hu : X.A.units + 64 < cLine) : OpR X (compareOp .Gt) (rGtD K) := by
  subst hK
  intro pins s σ H x y v u Q I rx ry h
  obtain ⟨d, e, hd, he, ha, hn, hz, q⟩ := h
  obtain ⟨as, r1⟩ := Dp.reads I d x v hd rx
  obtain ⟨bs, r2⟩ := Dp.reads I e y u he ry
  exact PySem.W.gt_data r1 r2 ha hn (by omega) ⟨.bl _, H, I, rfl, q⟩
theorem op_ltD {X : Cx} {K : PySem.W.Frag} (hK : X.K = K) (hu : X.A.units + 64 < cLine) : OpR X (compareOp .Lt) (rLtD K) := by
  subst hK
  intro pins s σ H x y v u Q I rx ry h
  obtain ⟨d, e, hd, he, ha, hn, hz, q⟩ := h
  obtain ⟨as, r1⟩ := Dp.reads I d x v hd rx
  obtain ⟨bs, r2⟩ := Dp.reads I e y u he ry
  exact PySem.W.lt_data r1 r2 ha hn (by omega) ⟨.bl _, H, I, rfl, q⟩
def rMaxDD (K : PySem.W.Frag) : List V → Hp → VK → Prop := fun xs H Q => ∃ x y d e, xs = [x, y] ∧ Dp K H x d ∧ Dp K H y e ∧ PySem.W.AlikeAll [d, e] ∧ PyData.depthAll [d, e] ≤ 60 ∧ Q (if PySem.W.dataLt d e = true then y else x) H
theorem call_maxDD {X : Cx} {K : PySem.W.Frag} (hK : X.K = K) (hc : X.calm = true) (hu : X.A.units + 64 < cLine) : CallR X (.builtin "max") (rMaxDD K) := by
  subst hK
  intro pins s σ H xs us Q I r h
  obtain ⟨x, y, d, e, rfl, hd, he, ha, hz, q⟩ := h
  obtain ⟨u, w', rfl, r1, r2⟩ := vals2 r
  obtain ⟨as, q1⟩ := Dp.reads I d x u hd r1
  obtain ⟨bs, q2⟩ := Dp.reads I e y w' he r2
  exact PySem.W.max_two_data (I.ok.hd hc) q1 q2 ha (by omega) fun h' tk k => ⟨_, H, I.kept k, (by cases PySem.W.dataLt d e with | true => exact r2 | false => exact r1), q⟩
section
variable {K : PySem.W.Frag} {m m' m2 : M} {H H' H2 : Hp} {s : S}
def oCmpD (lt : Bool) : F2 := fun x y s Q => ∃ p q, PD s x p ∧ PD s y q ∧ PySem.W.alike p q = true ∧ p ≠ .none ∧ p.depth ≤ 64 ∧ Q (.bl (if lt then PySem.W.dataLt p q else PySem.W.dataLt q p)) s
instance : S2 K (rGtD K) (oCmpD false) := ⟨fun m s H x y v w Q R r hx hy ⟨p, q, e1, e2, e3, e4, e5, h⟩ k => ⟨p, q, pd_dp r _ _ _ hx e1, pd_dp r _ _ _ hy e2, e3, e4, e5, k _ s m H _ h (.refl r) (.bl _)⟩⟩
instance : S2 K (rLtD K) (oCmpD true) := ⟨fun m s H x y v w Q R r hx hy ⟨p, q, e1, e2, e3, e4, e5, h⟩ k => ⟨p, q, pd_dp r _ _ _ hx e1, pd_dp r _ _ _ hy e2, e3, e4, e5, k _ s m H _ h (.refl r) (.bl _)⟩⟩
def oMaxDD : FL := fun xs s Q => ∃ x y p q, xs = [x, y] ∧ PD s x p ∧ PD s y q ∧ PySem.W.AlikeAll [p, q] ∧ PyData.depthAll [p, q] ≤ 60 ∧ Q (if PySem.W.dataLt p q = true then y else x) s
instance : SC K (rMaxDD K) oMaxDD := ⟨fun m s H xs vs Q R r hx ⟨x, y, p, q, e1, e2, e3, e4, e5, h⟩ k => by
  subst e1
  obtain ⟨v, w, rfl, hv, hw⟩ := vrs2 hx
  refine ⟨v, w, p, q, rfl, pd_dp r _ _ _ hv e2, pd_dp r _ _ _ hw e3, e4, e5, ?_⟩
  cases z : PySem.W.dataLt p q with
  | true =>
    rw [z, if_pos rfl] at h
    rw [if_pos rfl]
    exact k _ s m H _ h (.refl r) hw
  | false =>
    rw [z, if_neg Bool.false_ne_true] at h
    rw [if_neg Bool.false_ne_true]
    exact k _ s m H _ h (.refl r) hv⟩
end
end Sm
namespace Sm
open PySem PySem.Spec PyProof.Rows L2
/-! ### constants of the module -/
def atT (K : PySem.W.Frag) (a : Addr) : Option (List Value) := match K.lookup a with
  | some ⟨.type c, _, .seq its _, _⟩ => if c = "tuple" ∧ its.size ≤ sizeLine then some its.toList else none
  | _ => none
mutual
def vrB (K : PySem.W.Frag) : D → Value → Bool
  | .non, .none => true
  | .bl b, .bool c => decide (b = c)
  | .int i, .int j _ => decide (i = j)
  | .str x, .str y _ => decide (x = y)
  | .tup 3 ds, .ref a => match atT K a with
    | some us => vrsB K ds us
    | none => false
  | _, _ => false
def vrsB (K : PySem.W.Frag) : List D → List Value → Bool
  | [], [] => true
  | d :: ds, u :: us => vrB K d u && vrsB K ds us
  | _, _ => false
end
section
variable {K : PySem.W.Frag}
theorem atT_ok {a : Addr} {us : List Value} (h : atT K a = some us) : ∃ (its : Array Value) (n : Nat) (o : Obj), K.lookup a = some o ∧ o.cls = .type "tuple" ∧ o.data = .seq its n ∧ its.size ≤ sizeLine ∧ us = its.toList := by
  unfold atT at h
  cases q : K.lookup a with
  | none => rw [q] at h; cases h
  | some o =>
    obtain ⟨oc, od, dt, osl⟩ := o
    rw [q] at h
    cases oc with
    | type c =>
      cases dt with
      | seq its n =>
        by_cases hc : c = "tuple" ∧ its.size ≤ sizeLine
        · have h : (if c = "tuple" ∧ its.size ≤ sizeLine then some its.toList else none) = some us := h
          rw [if_pos hc] at h
          cases h
          exact ⟨its, n, _, rfl, by rw [hc.1], rfl, hc.2, rfl⟩
        · have h : (if c = "tuple" ∧ its.size ≤ sizeLine then some its.toList else none) = some us := h
          rw [if_neg hc] at h
          cases h
      | _ => cases h
    | _ => cases h
mutual
theorem vrB_v : ∀ (d : D) (u : Value), vrB K d u = true → ∃ v, RelV v u ∧ ∀ m H, VR K m H d v
  | .non, .none, _ => ⟨.non, rfl, fun m H => .non⟩
  | .bl b, .bool c, h => by
    obtain rfl := of_decide_eq_true h
    exact ⟨.bl b, rfl, fun m H => .bl b⟩
  | .int i, .int j t, h => by
    obtain rfl := of_decide_eq_true h
    exact ⟨.int i, ⟨t, rfl⟩, fun m H => .int i⟩
  | .str x, .str y t, h => by
    obtain rfl := of_decide_eq_true h
    exact ⟨.str x, ⟨t, rfl⟩, fun m H => .str x⟩
  | .tup 3 ds, .ref a, h => by
    simp only [vrB] at h
    cases q : atT K a with
    | none => rw [q] at h; cases h
    | some us =>
      rw [q] at h
      obtain ⟨its, n, o, e1, e2, e3, e4, rfl⟩ := atT_ok q
      obtain ⟨vs, r, hv⟩ := vrsB_v ds _ h
      exact ⟨.ref a, rfl, fun m H => .tup (k := 3) (fun H' => .inr ⟨o, its, n, e1, e2, e3, e4, r⟩) (hv m H)⟩
theorem vrsB_v : ∀ (ds : List D) (us : List Value), vrsB K ds us = true → ∃ vs, Vals vs us ∧ ∀ m H, VRs K m H ds vs
  | [], [], _ => ⟨[], .nil, fun m H => .nil⟩
  | d :: ds, u :: us, h => by
    unfold vrsB at h
    rw [Bool.and_eq_true] at h
    obtain ⟨v, r, hv⟩ := vrB_v d u h.1
    obtain ⟨vs, rs, hvs⟩ := vrsB_v ds us h.2
    exact ⟨v :: vs, .cons r rs, fun m H => .cons (hv m H) (hvs m H)⟩
end
theorem vrB_ok {d : D} {a : Addr} (h : vrB K d (.ref a) = true) : ∀ (m : M) (H : Hp), VR K m H d (.ref a) := by
  obtain ⟨v, r, hv⟩ := vrB_v d _ h
  cases v with
  | ref b =>
    have r : Value.ref a = Value.ref b := r
    cases r
    exact hv
  | int i => obtain ⟨t, r⟩ := r; cases r
  | str i => obtain ⟨t, r⟩ := r; cases r
  | byt i => obtain ⟨t, r⟩ := r; cases r
  | flt i => obtain ⟨t, r⟩ := r; cases r
  | _ => cases r
theorem se_const {d : D} {a : Addr} (h : ∀ (m : M) (H : Hp), VR K m H d (.ref a)) : SE K (tC (.ref a)) (fC d) := ⟨fun m s H e σ Q R r h0 h1 k => k _ s m H _ h1 (.refl r) (h m H)⟩
/-! ### sorted(d) -/
theorem kr_keys {κ : Type} {m : M} {H : Hp} {ds : List (κ × D)} {vs : List (κ × V)} (h : KR K m H ds vs) : vs.map (·.1) = ds.map (·.1) := h.keys.symm
theorem srt_uni : ∀ {xs ys : List Int}, xs.Perm ys → xs.Pairwise (· ≤ ·) → ys.Pairwise (· ≤ ·) → xs = ys := fun p h k => List.Perm.eq_of_pairwise (fun a b _ _ h1 h2 => Int.le_antisymm h1 h2) h k p
def srtI (ks : List Int) : List Int := ks.mergeSort fun a b => decide (a ≤ b)
theorem srtI_perm (ks : List Int) : (srtI ks).Perm ks := List.mergeSort_perm ks _
theorem srtI_sorted (ks : List Int) : (srtI ks).Pairwise (· ≤ ·) := by
  have := List.pairwise_mergeSort (le := fun a b : Int => decide (a ≤ b)) (fun a b c h1 h2 => by simp at *; omega) (fun a b => by simp; omega) ks
  exact this.imp fun h => of_decide_eq_true h
theorem srtI_eq {xs ks : List Int} (p : xs.Perm ks) (h : xs.Pairwise (· ≤ ·)) : xs = srtI ks := srt_uni (p.trans (srtI_perm ks).symm) h (srtI_sorted ks)
def oSrtD : List D → S → (List D → S → Prop) → Prop := fun xs s Q => ∃ i b kvs ks, xs = [.rf i] ∧ s[i]? = some (b, .dct kvs) ∧ kvs.map (·.1) = (ks : List Int).map Sum.inl ∧ ks.length < 64 ∧ Q ((srtI ks).map D.int) s
instance : SCN K Mx.rSrtD oSrtD := ⟨fun m s H xs vs Q R r hx ⟨i, b, kvs, ks, e1, e2, e3, e4, q⟩ k => by
  subst e1
  obtain ⟨v, rfl, hv⟩ := vrs1 hx
  cases hv with
  | rf hi e5 =>
    subst e5
    obtain ⟨ws, h1, h2⟩ := r.obj _ _ _ e2
    refine ⟨_, ws, ks, rfl, h1.rd, by rw [← h2.keys]; exact e3, e4, fun ys p hp hs hn => ?_⟩
    rw [srtI_eq hp hs]
    exact k _ s _ _ p _ q (.start (.refl r) hn) ((VRs.map (fun i => .int i) _).up (up_wx hn))⟩
def oSrt : List D → S → (List D → S → Prop) → Prop := fun xs s Q => ∃ (x : D) (ns : List Int), xs = [x] ∧ lstOf s x = some (ns.map D.int) ∧ ns.length < 64 ∧ Q ((srtI ns).map D.int) s
instance : SCN K (rSorted K) oSrt := ⟨fun m s H xs vs Q R r hx ⟨x, ns, e1, e2, e4, q⟩ k => by
  subst e1
  obtain ⟨v, rfl, hv⟩ := vrs1 hx
  obtain ⟨a, ws, rfl, h1, h2⟩ := rd_lst r hv e2
  obtain rfl := ints_v h2 rfl
  refine ⟨a, ns, rfl, h1, e4, fun ys p hp hs hn => ?_⟩
  rw [srtI_eq hp hs]
  exact k _ s _ _ p _ q (.start (.refl r) hn) ((VRs.map (fun i => .int i) _).up (up_wx hn))⟩
end
end Sm
namespace Sm
open PySem PySem.Spec PyProof.Rows L2
theorem cxK {CX : CXT} {P : Program} {w : World} {K : PySem.W.Frag} {mg : Str → Option Value} {base : Heap} {N : List Str} {qual : Str} {scope : Scope} {f : Addr} {cd : Value} {A : Around} {outer : List Env} {s : Shared} {H : Hp} {E : XK} :
    (cxOf CX P w K mg base N qual scope f cd A outer s H E).nox.K = K := rfl
theorem cxK' {CX : CXT} {P : Program} {w : World} {K : PySem.W.Frag} {mg : Str → Option Value} {base : Heap} {N : List Str} {qual : Str} {scope : Scope} {f : Addr} {cd : Value} {A : Around} {outer : List Env} {s : Shared} {H : Hp} {E : XK} :
    (cxOf CX P w K mg base N qual scope f cd A outer s H E).K = K := rfl
end Sm
namespace Sm
open PySem PySem.Spec PyProof.Rows L2
section
variable {K : PySem.W.Frag}
def gUn (n : Nat) (u : FGs) : FG := fun d e s Q => ∃ ds, lstOf s d = some ds ∧ ds.length = n ∧ u ds e s Q
instance {n : Nat} {u : TGs} {g : FGs} [h : SGs K u g] : SG K (gUnl K n u) (gUn n g) := ⟨fun m s H e σ x v Q R r h0 hx ⟨ds, e1, e2, q⟩ k => by
  obtain ⟨a, vs, rfl, h1, h2⟩ := rd_lst r hx e1
  exact ⟨a, vs, rfl, h1, by rw [← h2.len]; exact e2, h.run m s H e σ _ _ _ _ r h0 h2 q k⟩⟩
end
end Sm
namespace Sm
open PySem PySem.Spec PyProof.Rows L2
theorem ss_ret {K : PySem.W.Frag} {t : TE} {f : FE} (h : SE K t f) : SS K (tRet t) (fRet f) := ⟨fun m s H e σ F D' r h0 q d => h.run m s H e σ _ _ r h0 q fun x s1 m1 H1 v q1 a1 hv => d.rt x s1 m1 H1 v q1 a1 hv⟩
instance (priority := 2000) {K : PySem.W.Frag} {t : TE} {f : FA} [h : SN K t f] : SS K (tRet t) (fRet (fNew f)) := ss_ret (se_new h)
end Sm
namespace Sm
open PySem PySem.Spec PyProof.Rows L2
/-- a cut: what holds between two statements -/
def fCut (t u : FS) : FS := fun F e s => ∃ Mid : En → S → Prop, t { F with nx := Mid } e s ∧ ∀ e s, Mid e s → u F e s
instance {K : PySem.W.Frag} {t u : TS} {f g : FS} [h : SS K t f] [h' : SS K u g] : SS K (Evl.tCut t u) (fCut f g) := ⟨fun m s H e σ F D' r h0 ⟨Mid, q1, q2⟩ d =>
  ⟨fun σ' H' => ∃ m1 s1 e1, Aft K m s H m1 s1 H' ∧ ER K m1 H' e1 σ' ∧ Mid e1 s1, h.run m s H e σ _ _ r h0 q1 ⟨fun e1 s1 m1 H1 σ1 q a er => ⟨m1, s1, e1, a, er, q⟩, d.bk, d.ct, d.rt⟩,
    fun σ' H' ⟨m1, s1, e1, a, er, q⟩ => h'.run m1 s1 H' e1 σ' F D' a.rp er (q2 e1 s1 q) (d.to a)⟩⟩
end Sm

set_option Elab.async false
set_option linter.all false
set_option maxRecDepth 100000
set_option maxHeartbeats 4000000
namespace Sm
open PySem PySem.Spec PyProof.Rows L2
/-! ### data -/
mutual
def toP : D → PyData
  | .bl b => .bool b
  | .int i => .int i
  | .str x => .str x
  | .tup _ ds => .tuple (toPs ds)
  | .lst _ ds => .list (toPs ds)
  | _ => .none
def toPs : List D → List PyData
  | [] => []
  | d :: ds => toP d :: toPs ds
end
mutual
def dat : D → Bool
  | .non => true
  | .bl _ => true
  | .int _ => true
  | .str _ => true
  | .tup _ ds => dats ds
  | .lst _ ds => dats ds
  | _ => false
def dats : List D → Bool
  | [] => true
  | d :: ds => dat d && dats ds
end
mutual
theorem pd_toP (s : S) : ∀ d : D, dat d = true → PD s d (toP d)
  | .non, _ => by simp only [toP]; exact .non
  | .bl b, _ => by simp only [toP]; exact .bl b
  | .int i, _ => by simp only [toP]; exact .int i
  | .str x, _ => by simp only [toP]; exact .str x
  | .tup k ds, h => by
    simp only [toP]
    simp only [dat] at h
    exact .tup (pds_toP s ds h)
  | .lst k ds, h => by
    simp only [toP]
    simp only [dat] at h
    exact .lst (pds_toP s ds h)
  | .ty _, h => by simp [dat] at h
  | .cl _, h => by simp [dat] at h
  | .rf _, h => by simp [dat] at h
theorem pds_toP (s : S) : ∀ ds : List D, dats ds = true → PDs s ds (toPs ds)
  | [], _ => by simp only [toPs]; exact .nil
  | d :: ds, h => by
    simp only [dats, Bool.and_eq_true] at h
    simp only [toPs]
    exact .cons (pd_toP s d h.1) (pds_toP s ds h.2)
end
/-- the value d is the data p -/
def DP (d : D) (p : PyData) : Prop := dat d = true ∧ toP d = p
theorem DP.pd {d : D} {p : PyData} {s : S} (h : DP d p) : PD s d p := by
  have := pd_toP s d h.1
  rw [h.2] at this
  exact this
theorem dp_int (i : Int) : DP (.int i) (.int i) := ⟨rfl, rfl⟩
theorem dp_bl (b : Bool) : DP (.bl b) (.bool b) := ⟨rfl, rfl⟩
theorem dp_str (x : Str) : DP (.str x) (.str x) := ⟨rfl, rfl⟩
theorem dats_ints : ∀ l : List Int, dats (l.map D.int) = true ∧ toPs (l.map D.int) = l.map PyData.int
  | [] => ⟨by simp [dats], by simp [toPs]⟩
  | i :: l => by
    obtain ⟨h1, h2⟩ := dats_ints l
    exact ⟨by simp [dats, dat, h1], by simp [toPs, toP, h2]⟩
theorem dp_ints {k : Nat} (l : List Int) : DP (.tup k (l.map D.int)) (.tuple (l.map PyData.int)) := by
  obtain ⟨h1, h2⟩ := dats_ints l
  exact ⟨by simp only [dat]; exact h1, by simp only [toP, h2]⟩
theorem dp_intsL {k : Nat} (l : List Int) : DP (.lst k (l.map D.int)) (.list (l.map PyData.int)) := by
  obtain ⟨h1, h2⟩ := dats_ints l
  exact ⟨by simp only [dat]; exact h1, by simp only [toP, h2]⟩
theorem kit_ii : kitB "int" "int" = some true := by decide +kernel
theorem kit_ib : kitB "int" "bool" = some false := by decide +kernel
theorem kit_bb : kitB "bool" "bool" = some true := by decide +kernel
theorem kit_bi : kitB "bool" "int" = some true := by decide +kernel
theorem kit_ll : kitB "list" "list" = some true := by decide +kernel
theorem kit_tt : kitB "tuple" "tuple" = some true := by decide +kernel
theorem kit_ss : kitB "str" "str" = some true := by decide +kernel
theorem kit_st : kitB "str" "tuple" = some false := by decide +kernel
theorem kit_it : kitB "int" "tuple" = some false := by decide +kernel
theorem kit_is : kitB "int" "str" = some false := by decide +kernel
theorem kit_ts : kitB "tuple" "str" = some false := by decide +kernel
/-! ### numbers -/
theorem cmul_r {i j : Int} (h : -(2 ^ 64) < j ∧ j < 2 ^ 64) : CMul i j := .inr h
theorem atI_nat {α : Type} {xs : List α} {i : Nat} {x : α} (h : xs[i]? = some x) : atI xs (i : Int) = some x := by
  have li : i < xs.length := (List.getElem?_eq_some_iff.mp h).1
  unfold atI ixN
  rw [if_pos (by omega), if_pos (by omega)]
  simpa using h
theorem ixN_nat {n i : Nat} (h : i < n) : ixN n (i : Int) = some i := by
  unfold ixN
  rw [if_pos (by omega), if_pos (by omega)]
  simp
end Sm
namespace Sm
open PySem PySem.Spec PyProof.Rows L2
theorem oInt_i {i : Int} {s : S} {Q : D → S → Prop} : oInt [.int i] s Q = Q (.int i) s := by
  apply propext
  refine ⟨fun h => ?_, fun h => .inl ⟨i, rfl, h⟩⟩
  rcases h with ⟨j, e, h⟩ | ⟨b, e, h⟩
  · injection e with e1
    injection e1 with e2
    rw [e2]; exact h
  · injection e with e1
    cases e1
theorem oInt_b {b : Bool} {s : S} {Q : D → S → Prop} : oInt [.bl b] s Q = Q (.int (if b then 1 else 0)) s := by
  apply propext
  refine ⟨fun h => ?_, fun h => .inr ⟨b, rfl, h⟩⟩
  rcases h with ⟨j, e, h⟩ | ⟨c, e, h⟩
  · injection e with e1
    cases e1
  · injection e with e1
    injection e1 with e2
    rw [e2]; exact h
theorem oIsi_eq {x : D} {n : String} {s : S} {Q : D → S → Prop} : oIsi [x, .ty n] s Q = ∃ t b, tyD s x = some t ∧ kitB t n = some b ∧ Q (.bl b) s := by
  apply propext
  refine ⟨fun ⟨y, t, m, b, e, h1, h2, h3⟩ => ?_, fun ⟨t, b, h1, h2, h3⟩ => ⟨x, t, n, b, rfl, h1, h2, h3⟩⟩
  injection e with e1 e2
  injection e2 with e2
  injection e2 with e2
  subst e1
  subst e2
  exact ⟨t, b, h1, h2, h3⟩
theorem tyD_int {i : Int} {s : S} : tyD s (.int i) = some "int" := rfl
theorem tyD_bl {i : Bool} {s : S} : tyD s (.bl i) = some "bool" := rfl
theorem tyD_str {i : Str} {s : S} : tyD s (.str i) = some "str" := rfl
theorem tyD_non {s : S} : tyD s .non = some "NoneType" := rfl
theorem tyD_tup {ds : List D} {s : S} : tyD s (.tup 0 ds) = some "tuple" := rfl
theorem tyD_lst {ds : List D} {s : S} : tyD s (.lst 0 ds) = some "list" := rfl
theorem tyD_rl {ds : List D} {s : S} {i : Nat} {b : Bool} (h : s[i]? = some (b, .lst ds)) : tyD s (.rf i) = some "list" := by
  simp only [tyD, h]
theorem atI0 {α : Type} {a : α} {l : List α} : atI (a :: l) 0 = some a := atI_nat (i := 0) rfl
theorem atI1 {α : Type} {a b : α} {l : List α} : atI (a :: b :: l) 1 = some b := atI_nat (i := 1) rfl
theorem atI2 {α : Type} {a b c : α} {l : List α} : atI (a :: b :: c :: l) 2 = some c := atI_nat (i := 2) rfl
theorem atI3 {α : Type} {a b c d : α} {l : List α} : atI (a :: b :: c :: d :: l) 3 = some d := atI_nat (i := 3) rfl
theorem atI4 {α : Type} {a b c d e : α} {l : List α} : atI (a :: b :: c :: d :: e :: l) 4 = some e := atI_nat (i := 4) rfl
theorem eqD_dp {neg : Bool} {x y : D} {p q : PyData} {s : S} {Q : D → S → Prop} (hx : DP x p) (hy : DP y q) (h1 : SeqAt.shaped p = true) (h2 : SeqAt.shaped q = true) (h : Q (.bl (if neg then !PyData.eqv p q else PyData.eqv p q)) s) : oEqD neg x y s Q := ⟨p, q, hx.pd, hy.pd, h1, h2, h⟩
theorem gc0 {s : S} {d : D} {Q : D → S → Prop} (h : Q d s) : Gc s s d Q := .inl h
theorem lay_ints : ∀ l : List Int, PyData.canLayAll0 (l.map PyData.int) = true ∧ PyData.depthAll (l.map PyData.int) = 0
  | [] => ⟨rfl, rfl⟩
  | i :: l => by
    obtain ⟨h1, h2⟩ := lay_ints l
    refine ⟨?_, ?_⟩
    · show (PyData.canLay0 (.int i) && PyData.canLayAll0 (l.map PyData.int)) = true
      rw [h1]; rfl
    · show max (PyData.depth (.int i)) (PyData.depthAll (l.map PyData.int)) = 0
      rw [h2]; rfl
theorem shaped_ints (l : List Int) : SeqAt.shaped (.tuple (l.map PyData.int)) = true := by
  obtain ⟨h1, h2⟩ := lay_ints l
  unfold SeqAt.shaped
  show (PyData.canLayAll0 (l.map PyData.int) && decide (PyData.depthAll (l.map PyData.int) + 1 ≤ 64)) = true
  rw [h1, h2]; rfl
end Sm
namespace Sm
open PySem PySem.Spec PyProof.Rows L2
theorem al_rf {xs : List D} {s : S} {Q : D → S → Prop} (h : Q (.rf s.length) (s ++ [(false, .lst xs)])) : Al xs s Q := .inr h
theorem al_val {xs : List D} {s : S} {Q : D → S → Prop} (h : Q (.lst 0 xs) s) : Al xs s Q := .inl h
theorem at_last {α : Type} {s : List α} {x : α} : (s ++ [x])[s.length]? = some x := by simp
theorem set_last {α : Type} {s : List α} {x y : α} : (s ++ [x]).set s.length y = s ++ [y] := by simp
theorem rngD_at {lo c : Int} {n i : Nat} {d : D} (h : (rngD lo c n)[i]? = some d) : i < n ∧ d = .int (lo + (i : Nat) * c) := rngD_get h
theorem rng1_at {n i : Nat} {d : D} (h : (rngD 0 1 n)[i]? = some d) : i < n ∧ d = .int (i : Int) := by
  obtain ⟨h1, h2⟩ := rngD_get h
  refine ⟨h1, ?_⟩
  rw [h2]
  congr 1
  omega
theorem fz_ints {n : Nat} {s : S} : ∀ l : List Int, Fzs n s (l.map D.int) (l.map D.int)
  | [] => .nil
  | i :: l => .cons (.int i) (fz_ints l)
/-- a list of ints that the def made -/
theorem gc_ints {s : S} {l : List Int} {Q : D → S → Prop} (q : Q (.lst 0 (l.map .int)) s) : Gc s (s ++ [(false, .lst (l.map .int))]) (.rf s.length) Q := gc_app (.lrf (Nat.le_refl _) at_last (fz_ints l)) q
end Sm
namespace Sm
open PySem PySem.Spec PyProof.Rows L2
theorem tupOf_t {k : Nat} {ds : List D} : tupOf (.tup k ds) = some ds := rfl
theorem lstOf_l {k : Nat} {ds : List D} {s : S} : lstOf s (.lst k ds) = some ds := rfl
theorem lstOf_r {i : Nat} {b : Bool} {ds : List D} {s : S} (h : s[i]? = some (b, .lst ds)) : lstOf s (.rf i) = some ds := by simp only [lstOf, h]
theorem seqOf_t {k : Nat} {ds : List D} {s : S} : seqOf s (.tup k ds) = some ds := rfl
theorem seqOf_l {k : Nat} {ds : List D} {s : S} : seqOf s (.lst k ds) = some ds := rfl
theorem seqOf_r {i : Nat} {b : Bool} {ds : List D} {s : S} (h : s[i]? = some (b, .lst ds)) : seqOf s (.rf i) = some ds := lstOf_r h
theorem lstX_l {ds : List D} {s : S} : lstX s (.lst 0 ds) = some ds := rfl
theorem lstX_r {i : Nat} {ds : List D} {s : S} (h : s[i]? = some (false, .lst ds)) : lstX s (.rf i) = some ds := by simp only [lstX, h]
theorem keyOf_i {i : Int} : keyOf (.int i) = some (.inl i) := rfl
theorem keyOf_s {i : Str} : keyOf (.str i) = some (.inr i) := rfl
theorem truD_non {s : S} : truD s .non = some false := rfl
theorem truD_bl {s : S} {b : Bool} : truD s (.bl b) = some b := rfl
theorem truD_int {s : S} {i : Int} : truD s (.int i) = some (i != 0) := rfl
theorem truD_tup {s : S} {k : Nat} {ds : List D} : truD s (.tup k ds) = some (!ds.isEmpty) := rfl
theorem truD_lst {s : S} {k : Nat} {ds : List D} : truD s (.lst k ds) = some (!ds.isEmpty) := rfl
theorem truD_rl {s : S} {i : Nat} {b : Bool} {ds : List D} (h : s[i]? = some (b, .lst ds)) : truD s (.rf i) = some (!ds.isEmpty) := by simp only [truD, h]
theorem truD_rd {s : S} {i : Nat} {ds : List (Key × D)} (h : s[i]? = some (false, .dct ds)) : truD s (.rf i) = some (!ds.isEmpty) := by simp only [truD, h]
theorem flV_i {i : Int} : flV (.int i) = some (.int i) := rfl
theorem flV_b {i : Bool} : flV (.bl i) = some (.bl i) := rfl
theorem flV_s {i : Str} : flV (.str i) = some (.str i) := rfl
theorem flV_n : flV .non = some .non := rfl
theorem isN_n : isN .non = true := rfl
theorem isN_i {i : Int} : isN (.int i) = false := rfl
theorem isN_b {i : Bool} : isN (.bl i) = false := rfl
theorem isN_s {i : Str} : isN (.str i) = false := rfl
theorem isN_t {k : Nat} {ds : List D} : isN (.tup k ds) = false := rfl
theorem isN_l {k : Nat} {ds : List D} : isN (.lst k ds) = false := rfl
theorem isN_r {k : Nat} : isN (.rf k) = false := rfl
theorem sc_ii {i j : Int} : scal (.int i) (.int j) = true := rfl
theorem sc_ss {i j : Str} : scal (.str i) (.str j) = true := rfl
theorem sc_bb {i j : Bool} : scal (.bl i) (.bl j) = true := rfl
theorem askD_d {s : S} {i : Nat} {b : Bool} {kvs : List (Key × D)} {y : D} (h : s[i]? = some (b, .dct kvs)) : askD s i y = (keyOf y).map fun k => getD kvs k := by simp only [askD, h]
theorem askD_i {s : S} {i : Nat} {b : Bool} {kvs : List (Key × D)} {y : Int} (h : s[i]? = some (b, .dct kvs)) : askD s i (.int y) = some (getD kvs (.inl y)) := by simp only [askD, h]; rfl
theorem askD_s {s : S} {i : Nat} {b : Bool} {kvs : List (Key × D)} {y : Str} (h : s[i]? = some (b, .dct kvs)) : askD s i (.str y) = some (getD kvs (.inr y)) := by simp only [askD, h]; rfl
theorem isDic_d {s : S} {i : Nat} {b : Bool} {kvs : List (Key × D)} (h : s[i]? = some (b, .dct kvs)) : isDic s i = True := by simp only [isDic, h]
theorem putS_i {s s' : S} {i : Nat} {kvs : List (Key × D)} {y : Int} {v : D} (h : s[i]? = some (false, .dct kvs)) : putS s i (.int y) v s' = (kvs.length < 100000 ∧ s' = s.set i (false, .dct (putD kvs (.inl y) v))) := by
  apply propext
  simp only [putS, h, keyOf_i]
  exact ⟨fun ⟨k, e, h1, h2⟩ => by cases e; exact ⟨h1, h2⟩, fun ⟨h1, h2⟩ => ⟨_, rfl, h1, h2⟩⟩
theorem putS_s {s s' : S} {i : Nat} {kvs : List (Key × D)} {y : Str} {v : D} (h : s[i]? = some (false, .dct kvs)) : putS s i (.str y) v s' = (kvs.length < 100000 ∧ s' = s.set i (false, .dct (putD kvs (.inr y) v))) := by
  apply propext
  simp only [putS, h, keyOf_s]
  exact ⟨fun ⟨k, e, h1, h2⟩ => by cases e; exact ⟨h1, h2⟩, fun ⟨h1, h2⟩ => ⟨_, rfl, h1, h2⟩⟩
end Sm
namespace Sm
open PySem PySem.Spec PyProof.Rows L2
theorem lstOf_la {b : Bool} {ds : List D} {s : S} : lstOf (s ++ [(b, .lst ds)]) (.rf s.length) = some ds := lstOf_r at_last
theorem seqOf_la {b : Bool} {ds : List D} {s : S} : seqOf (s ++ [(b, .lst ds)]) (.rf s.length) = some ds := lstOf_r at_last
theorem lstX_la {ds : List D} {s : S} : lstX (s ++ [(false, .lst ds)]) (.rf s.length) = some ds := lstX_r at_last
theorem truD_la {b : Bool} {ds : List D} {s : S} : truD (s ++ [(b, .lst ds)]) (.rf s.length) = some (!ds.isEmpty) := truD_rl at_last
theorem lk_hit {α : Type} {f : Str} {d : α} {r : List (Str × α)} : List.lookup f ((f, d) :: r) = some d := by simp
end Sm
namespace Sm
open PySem PySem.Spec PyProof.Rows L2
theorem lstOf_u {s : S} {i : Nat} : lstOf s (.rf i) = match s[i]? with
    | some (_, .lst ds) => some ds
    | _ => none := rfl
theorem seqOf_u {s : S} {i : Nat} : seqOf s (.rf i) = lstOf s (.rf i) := rfl
theorem lstX_u {s : S} {i : Nat} : lstX s (.rf i) = match s[i]? with
    | some (false, .lst ds) => some ds
    | _ => none := rfl
theorem truD_u {s : S} {i : Nat} : truD s (.rf i) = match s[i]? with
    | some (_, .lst ds) => some (!ds.isEmpty)
    | some (false, .dct ds) => some (!ds.isEmpty)
    | _ => none := rfl
theorem tyD_u {s : S} {i : Nat} : tyD s (.rf i) = match s[i]? with
    | some (_, .lst _) => some "list"
    | some (_, .dct _) => some "dict"
    | some (false, .dtt _) => some "dict"
    | _ => none := rfl
end Sm
namespace Sm
open PySem PySem.Spec PyProof.Rows L2
mutual
theorem fz_dat {n : Nat} {s : S} : ∀ d : D, dat d = true → Fz n s d d
  | .non, _ => .non
  | .bl b, _ => .bl b
  | .int i, _ => .int i
  | .str x, _ => .str x
  | .tup k ds, h => .tup (fzs_dat ds (by simp only [dat] at h; exact h))
  | .lst k ds, h => .lst (fzs_dat ds (by simp only [dat] at h; exact h))
  | .ty _, h => by simp [dat] at h
  | .cl _, h => by simp [dat] at h
  | .rf _, h => by simp [dat] at h
theorem fzs_dat {n : Nat} {s : S} : ∀ ds : List D, dats ds = true → Fzs n s ds ds
  | [], _ => .nil
  | d :: ds, h => by
    simp only [dats, Bool.and_eq_true] at h
    exact .cons (fz_dat d h.1) (fzs_dat ds h.2)
end
mutual
theorem dat_cl {n : Nat} : ∀ d : D, dat d = true → Cl n d
  | .non, _ => .non
  | .bl b, _ => .bl b
  | .int i, _ => .int i
  | .str x, _ => .str x
  | .tup k ds, h => .tup (dats_cl ds (by simp only [dat] at h; exact h))
  | .lst k ds, h => .lst (dats_cl ds (by simp only [dat] at h; exact h))
  | .ty _, h => by simp [dat] at h
  | .cl _, h => by simp [dat] at h
  | .rf _, h => by simp [dat] at h
theorem dats_cl {n : Nat} : ∀ ds : List D, dats ds = true → Cls' n ds
  | [], _ => .nil
  | d :: ds, h => by
    simp only [dats, Bool.and_eq_true] at h
    exact .cons (dat_cl d h.1) (dats_cl ds h.2)
end
/-- a list of data that the def made: as its caller wants it -/
theorem gc_al {s : S} {X : List D} {Q : D → S → Prop} (h : dats X = true) (q : Al X s Q) : Gc s (s ++ [(false, .lst X)]) (.rf s.length) Q := by
  rcases q with q | q
  · exact gc_app (.lrf (Nat.le_refl _) at_last (fzs_dat X h)) q
  · exact .inl q
theorem al_gc {s : S} {X : List D} {Q : D → S → Prop} (q : Al X s Q) : Al X s fun d s' => Gc s s' d Q := by
  rcases q with q | q
  · exact .inl (.inl q)
  · exact .inr (.inl q)
/-- .. with objects of its own behind -/
theorem gc_al2 {s g : S} {X : List D} {Q : D → S → Prop} (h : dats X = true) (q : Al X s Q) : Gc s ((s ++ [(false, .lst X)]) ++ g) (.rf s.length) Q := by
  have e : ((s ++ [(false, .lst X)]) ++ g)[s.length]? = some (false, .lst X) := by
    rw [List.getElem?_append_left (by rw [List.length_append]; exact Nat.lt_succ_self _)]
    exact at_last
  rcases q with q | q
  · rw [List.append_assoc] at e ⊢
    exact gc_app (.lrf (Nat.le_refl _) e (fzs_dat X h)) q
  · refine .inr ⟨s.length + 1, .rf s.length, Nat.le_succ _, by simp, .rf (Nat.lt_succ_self _), fun i b o hi hh => ?_, ?_⟩
    · by_cases z : i < s.length
      · rw [List.append_assoc, List.getElem?_append_left z] at hh
        exact .inl hh
      · obtain rfl : i = s.length := by omega
        rw [e] at hh
        cases hh
        exact .inr (cls_mem.mp (dats_cl X h))
    · have : ((s ++ [(false, O.lst X)]) ++ g).take (s.length + 1) = s ++ [(false, O.lst X)] := by
        rw [show s.length + 1 = (s ++ [(false, O.lst X)]).length by simp]
        exact List.take_left
      rw [this]
      exact q
theorem seq_ints {s : S} {k : Nat} {ns : List Int} : lstOf s (.lst k (ns.map .int)) = some (ns.map .int) := rfl
/-- an item of a list of ints that is written out -/
theorem at_lit {L : List Int} {i : Int} (h : 0 ≤ i ∧ i < L.length) : ∃ v, v ∈ L ∧ atI (L.map D.int) i = some (.int v) := by
  obtain ⟨n, rfl⟩ : ∃ n : Nat, i = n := ⟨i.toNat, by omega⟩
  have hn : n < L.length := by omega
  refine ⟨L[n], List.getElem_mem hn, atI_nat ?_⟩
  rw [List.getElem?_map, List.getElem?_eq_getElem hn]; rfl
end Sm
namespace Sm
open PySem PySem.Spec PyProof.Rows L2
theorem ixN_40 : ixN 4 0 = some 0 := by decide
theorem ixN_41 : ixN 4 1 = some 1 := by decide
theorem ixN_42 : ixN 4 2 = some 2 := by decide
theorem ixN_43 : ixN 4 3 = some 3 := by decide
end Sm
namespace Sm
open PySem PySem.Spec PyProof.Rows L2 Evl Mx
theorem neD_same {x y : D} {p : PyData} {s : S} {Q : D → S → Prop} (hx : DP x p) (hy : DP y p) (h1 : SeqAt.shaped p = true) (h : Q (.bl false) s) : oEqD true x y s Q := by
  refine eqD_dp hx hy h1 h1 ?_
  rw [shaped_can h1]
  exact h
theorem eqD_same {x y : D} {p : PyData} {s : S} {Q : D → S → Prop} (hx : DP x p) (hy : DP y p) (h1 : SeqAt.shaped p = true) (h : Q (.bl true) s) : oEqD false x y s Q := by
  refine eqD_dp hx hy h1 h1 ?_
  rw [shaped_can h1]
  exact h
theorem shaped_intsL (l : List Int) : SeqAt.shaped (.list (l.map PyData.int)) = true := by
  obtain ⟨h1, h2⟩ := lay_ints l
  unfold SeqAt.shaped
  show (PyData.canLayAll0 (l.map PyData.int) && decide (PyData.depthAll (l.map PyData.int) + 1 ≤ 64)) = true
  rw [h1, h2]; rfl
end Sm

set_option Elab.async false
set_option linter.all false
set_option maxRecDepth 100000
set_option maxHeartbeats 4000000
namespace Sm
open PySem PySem.Spec PyProof.Rows L2
/-! ### tallies: for each slot the promised ballot, the voted one, the command, whether it is closed -/
structure Rw where
  p : PyData
  v : PyData
  c : PyData
  cl : Bool
def RwD (ds : List D) (r : Rw) : Prop := ∃ a b c, ds = [a, b, c, .bl r.cl] ∧ DP a r.p ∧ DP b r.v ∧ DP c r.c
abbrev Tl := List (Int × Rw)
def lkA (A : Tl) (k : Int) : Option Rw := (A.find? fun a => decide (a.1 = k)).map (·.2)
def setA : Tl → Int → Rw → Tl
  | [], k, r => [(k, r)]
  | (j, q) :: A, k, r => if j = k then (j, r) :: A else (j, q) :: setA A k r
def nil' : PyData := .tuple []
def rw0 : Rw := ⟨nil', nil', nil', false⟩
def rowA (A : Tl) (k : Int) : Rw := (lkA A k).getD rw0
/-- the program's dict -/
inductive StP : List (Key × D) → Tl → Prop
  | nil : StP [] []
  | cons {j : Int} {k : Nat} {ds : List D} {r : Rw} {kvs : List (Key × D)} {A : Tl} : RwD ds r → StP kvs A → StP ((.inl j, .tup k ds) :: kvs) ((j, r) :: A)
theorem stp_get {k : Int} : ∀ {kvs : List (Key × D)} {A : Tl}, StP kvs A → (∀ r, lkA A k = some r → ∃ j ds, getD kvs (.inl k) = some (.tup j ds) ∧ RwD ds r) ∧ (lkA A k = none → getD kvs (.inl k) = none)
  | _, _, .nil => ⟨fun r h => (by cases h), fun _ => rfl⟩
  | _, _, .cons (j := j) a t => by
    obtain ⟨h1, h2⟩ := stp_get (k := k) t
    unfold lkA getD
    rw [List.find?_cons, List.find?_cons]
    by_cases q : j = k
    · subst q
      rw [decide_eq_true rfl, decide_eq_true rfl]
      exact ⟨fun r h => (by cases h; exact ⟨_, _, rfl, a⟩), fun h => (by cases h)⟩
    · rw [decide_eq_false q, decide_eq_false (fun z => q (Sum.inl.inj z))]
      exact ⟨h1, h2⟩
theorem stp_keys : ∀ {kvs : List (Key × D)} {A : Tl}, StP kvs A → kvs.map (·.1) = (A.map (·.1)).map Sum.inl
  | _, _, .nil => rfl
  | _, _, .cons a t => by
    rw [List.map_cons, stp_keys t]; rfl
theorem stp_any {k : Int} : ∀ {kvs : List (Key × D)} {A : Tl}, StP kvs A → (kvs.any fun kv => decide (kv.1 = (.inl k : Key))) = A.any fun a => decide (a.1 = k)
  | _, _, .nil => rfl
  | _, _, .cons (j := j) a t => by
    rw [List.any_cons, List.any_cons, stp_any t]
    by_cases q : j = k
    · subst q; simp
    · rw [decide_eq_false q, decide_eq_false (fun z => q (Sum.inl.inj z))]
theorem stp_put {k : Int} {j : Nat} {ds : List D} {r : Rw} (hr : RwD ds r) : ∀ {kvs : List (Key × D)} {A : Tl}, StP kvs A → (A.map (·.1)).Nodup → StP (putD kvs (.inl k) (.tup j ds)) (setA A k r)
  | _, _, .nil, _ => .cons hr .nil
  | _, _, .cons (j := i) (k := n) (ds := es) (kvs := kvs) (A := A) a t, hn => by
    rw [List.map_cons, List.nodup_cons] at hn
    have ih := stp_put hr (k := k) (j := j) t hn.2
    by_cases q : i = k
    · subst q
      have no : ∀ kv ∈ kvs, ¬ kv.1 = (.inl i : Key) := fun kv hkv z => hn.1 (by
        have h1 : kv.1 ∈ kvs.map (·.1) := List.mem_map.mpr ⟨kv, hkv, rfl⟩
        rw [stp_keys t, z] at h1
        obtain ⟨x, hx, e⟩ := List.mem_map.mp h1
        rw [← Sum.inl.inj e]
        exact hx)
      have e1 : kvs.map (fun kv => if kv.1 = (.inl i : Key) then (kv.1, D.tup j ds) else kv) = kvs := by
        conv => rhs; rw [← List.map_id kvs]
        exact List.map_congr_left fun kv hkv => by rw [if_neg (no kv hkv)]; rfl
      have e2 : putD ((.inl i, .tup n es) :: kvs) (.inl i : Key) (.tup j ds) = (.inl i, .tup j ds) :: kvs := by
        unfold putD
        rw [List.any_cons, decide_eq_true rfl, Bool.true_or, if_pos rfl, List.map_cons, if_pos rfl, e1]
      have e3 : ∀ q : Rw, setA ((i, q) :: A) i r = (i, r) :: A := fun q => by
        unfold setA
        rw [if_pos rfl]
      rw [e2, e3]
      exact .cons hr t
    · have e2 : putD ((.inl i, .tup n es) :: kvs) (.inl k : Key) (.tup j ds) = (.inl i, .tup n es) :: putD kvs (.inl k) (.tup j ds) := by
        have ne : ¬ (Sum.inl i : Key) = .inl k := fun z => q (Sum.inl.inj z)
        unfold putD
        rw [List.any_cons, decide_eq_false ne, Bool.false_or]
        split
        · rw [List.map_cons, if_neg ne]
        · rfl
      rw [e2]
      show StP _ (setA ((i, _) :: A) k r)
      rw [setA, if_neg q]
      exact .cons a ih
theorem setA_keys (k : Int) (r : Rw) : ∀ A : Tl, (setA A k r).map (·.1) = if (A.any fun a => decide (a.1 = k)) = true then A.map (·.1) else A.map (·.1) ++ [k]
  | [] => rfl
  | (j, q) :: A => by
    unfold setA
    by_cases z : j = k
    · rw [if_pos z, List.any_cons, decide_eq_true z, Bool.true_or, if_pos rfl]; rfl
    · rw [if_neg z, List.any_cons, decide_eq_false z, Bool.false_or, List.map_cons, setA_keys k r A]
      split <;> rfl
theorem setA_nodup {k : Int} {r : Rw} {A : Tl} (h : (A.map (·.1)).Nodup) : ((setA A k r).map (·.1)).Nodup := by
  rw [setA_keys]
  split
  · exact h
  · rename_i z
    refine List.nodup_append.mpr ⟨h, List.nodup_cons.mpr ⟨List.not_mem_nil, List.nodup_nil⟩, fun a ha b hb e => z ?_⟩
    rw [List.mem_singleton.mp hb] at e
    obtain ⟨x, hx, e2⟩ := List.mem_map.mp ha
    exact List.any_eq_true.mpr ⟨x, hx, decide_eq_true (e2.trans e)⟩
theorem setA_len (k : Int) (r : Rw) : ∀ A : Tl, (setA A k r).length ≤ A.length + 1
  | [] => Nat.le_refl _
  | (j, q) :: A => by
    unfold setA
    split
    · exact Nat.le_succ _
    · exact Nat.succ_le_succ (setA_len k r A)
theorem stp_len : ∀ {kvs : List (Key × D)} {A : Tl}, StP kvs A → kvs.length = A.length
  | _, _, .nil => rfl
  | _, _, .cons a t => congrArg (· + 1) (stp_len t)
/-- a record's data: its kind, its slot, the third and the fourth item -/
structure Rc where
  k : Int
  s : Int
  x : PyData
  y : PyData
def maxP (p q : PyData) : PyData := if PySem.W.dataLt p q = true then q else p
def stepR (r : Rw) (c : Rc) : Rw := if r.cl = true then r else if c.k = 1 then { r with p := maxP r.p c.x } else if c.k = 2 then ⟨maxP r.p c.x, c.x, c.y, false⟩ else if c.k = 3 then { r with c := c.x, cl := true } else r
def stepA (A : Tl) (c : Rc) : Tl := if c.k = 0 then A else setA A c.s (stepR (rowA A c.s) c)
/-- a ballot -/
def Bal (p : PyData) : Prop := ∃ l : List Int, p = .tuple (l.map PyData.int) ∧ l.length ≤ 3
/-- a command -/
def Cmd (p : PyData) : Prop := Mx.Sh 3 p
theorem Cmd.shaped {p : PyData} (h : Cmd p) : SeqAt.shaped p = true := Mx.Sh.sh h (by decide)
theorem Bal.max {p q : PyData} (h : Bal p) (k : Bal q) : Bal (maxP p q) := by
  unfold maxP
  split
  · exact k
  · exact h
theorem alike_ints : ∀ l k : List Int, PySem.W.alikeAll (l.map PyData.int) (k.map PyData.int) = true
  | [], _ => by cases ‹List Int› <;> rfl
  | i :: l, [] => rfl
  | i :: l, j :: k => by
    show (PySem.W.alike (.int i) (.int j) && PySem.W.alikeAll (l.map PyData.int) (k.map PyData.int)) = true
    rw [alike_ints l k]; rfl
theorem Bal.alike {p q : PyData} (h : Bal p) (k : Bal q) : PySem.W.alike p q = true := by
  obtain ⟨l, rfl, _⟩ := h
  obtain ⟨m, rfl, _⟩ := k
  exact alike_ints l m
theorem Bal.ne {p : PyData} (h : Bal p) : p ≠ .none := by
  obtain ⟨l, rfl, _⟩ := h
  exact fun z => nomatch z
theorem Bal.depth {p : PyData} (h : Bal p) : p.depth = 1 := by
  obtain ⟨l, rfl, _⟩ := h
  show PyData.depthAll (l.map PyData.int) + 1 = 1
  rw [(lay_ints l).2]
theorem Bal.shaped {p : PyData} (h : Bal p) : SeqAt.shaped p = true := by
  obtain ⟨l, rfl, _⟩ := h
  exact shaped_ints l
theorem cmd_of {p : PyData} (h : (PyData.canLay0 p && Nat.ble (PyData.depth p) 3) = true) : Cmd p := by
  rw [Bool.and_eq_true] at h
  exact ⟨h.1, Nat.le_of_ble_eq_true h.2⟩
theorem bal_nil : Bal nil' := ⟨[], rfl, by decide⟩
theorem cmd_nil : Cmd nil' := ⟨rfl, by decide⟩
theorem Bal.all {p q : PyData} (h : Bal p) (k : Bal q) : PySem.W.AlikeAll [p, q] ∧ PyData.depthAll [p, q] ≤ 60 := by
  refine ⟨⟨fun x hx y hy => ?_, fun x hx => ?_⟩, ?_⟩
  · have bx : Bal x := by
      rcases List.mem_cons.mp hx with rfl | hx
      · exact h
      · rw [List.mem_singleton.mp hx]; exact k
    have hy' : Bal y := by
      rcases List.mem_cons.mp hy with rfl | hy
      · exact h
      · rw [List.mem_singleton.mp hy]; exact k
    exact bx.alike hy'
  · rcases List.mem_cons.mp hx with rfl | hx
    · exact h.ne
    · rw [List.mem_singleton.mp hx]; exact k.ne
  · show Nat.max p.depth (Nat.max q.depth 0) ≤ 60
    rw [h.depth, k.depth]; decide
/-- a row's data are sound -/
structure RwOk (r : Rw) : Prop where
  p : Bal r.p
  v : Bal r.v
  c : Cmd r.c
structure RcOk (c : Rc) : Prop where
  k : 0 ≤ c.k ∧ c.k ≤ 3
  x : c.k ≠ 0 → c.k ≠ 3 → Bal c.x
  y : c.k = 2 → Cmd c.y
  z : c.k = 3 → Cmd c.x
theorem rw0_ok : RwOk rw0 := ⟨bal_nil, bal_nil, cmd_nil⟩
def TlOk (A : Tl) : Prop := (A.map (·.1)).Nodup ∧ ∀ a ∈ A, RwOk a.2
theorem lkA_mem {A : Tl} {k : Int} {r : Rw} (h : lkA A k = some r) : (k, r) ∈ A := by
  unfold lkA at h
  cases q : A.find? fun a => decide (a.1 = k) with
  | none => rw [q] at h; cases h
  | some a =>
    rw [q] at h
    cases h
    have h1 := List.find?_some q
    have h2 := List.mem_of_find?_eq_some q
    rw [← of_decide_eq_true h1]
    exact h2
theorem TlOk.row {A : Tl} (h : TlOk A) (k : Int) : RwOk (rowA A k) := by
  unfold rowA
  cases q : lkA A k with
  | none => exact rw0_ok
  | some r => exact h.2 _ (lkA_mem q)
theorem stepR_ok {r : Rw} {c : Rc} (h : RwOk r) (k : RcOk c) : RwOk (stepR r c) := by
  unfold stepR
  split
  · exact h
  · split
    · rename_i e
      exact ⟨h.p.max (k.x (by omega) (by omega)), h.v, h.c⟩
    · split
      · rename_i e
        exact ⟨h.p.max (k.x (by omega) (by omega)), k.x (by omega) (by omega), k.y e⟩
      · split
        · rename_i e
          exact ⟨h.p, h.v, k.z e⟩
        · exact h
theorem setA_mem {k : Int} {r : Rw} : ∀ {A : Tl} {a : Int × Rw}, a ∈ setA A k r → a ∈ A ∨ a.2 = r
  | [], a, h => .inr (by rw [List.mem_singleton.mp h])
  | (j, q) :: A, a, h => by
    unfold setA at h
    split at h
    · rcases List.mem_cons.mp h with rfl | h
      · exact .inr rfl
      · exact .inl (List.mem_cons_of_mem _ h)
    · rcases List.mem_cons.mp h with rfl | h
      · exact .inl List.mem_cons_self
      · rcases setA_mem h with h | h
        · exact .inl (List.mem_cons_of_mem _ h)
        · exact .inr h
theorem stepA_ok {A : Tl} {c : Rc} (h : TlOk A) (k : RcOk c) : TlOk (stepA A c) := by
  unfold stepA
  split
  · exact h
  · refine ⟨setA_nodup h.1, fun a ha => ?_⟩
    rcases setA_mem ha with ha | ha
    · exact h.2 a ha
    · rw [ha]; exact stepR_ok (h.row _) k
theorem stepA_len (A : Tl) (c : Rc) : (stepA A c).length ≤ A.length + 1 := by
  unfold stepA
  split
  · exact Nat.le_succ _
  · exact setA_len _ _ _
end Sm
namespace Sm
open PySem PySem.Spec PyProof.Rows L2
def RcD (rd : List D) (c : Rc) : Prop := (c.k = 0 ∧ rd = [.int 0]) ∨ (c.k = 1 ∧ ∃ x, rd = [.int 1, .int c.s, x] ∧ DP x c.x) ∨ (c.k = 2 ∧ ∃ x y, rd = [.int 2, .int c.s, x, y] ∧ DP x c.x ∧ DP y c.y) ∨ (c.k = 3 ∧ ∃ x, rd = [.int 3, .int c.s, x] ∧ DP x c.x)
theorem maxD_dp {x y : D} {p q : PyData} {s : S} {Q : D → S → Prop} (hx : DP x p) (hy : DP y q) (h1 : Bal p) (h2 : Bal q) (h : ∀ d, DP d (maxP p q) → Q d s) : oMaxDD [x, y] s Q := by
  obtain ⟨a1, a2⟩ := h1.all h2
  refine ⟨x, y, p, q, rfl, hx.pd, hy.pd, a1, a2, h _ ?_⟩
  unfold maxP
  split
  · exact hy
  · exact hx
theorem stepA_0 {A : Tl} {c : Rc} (h : c.k = 0) : stepA A c = A := by
  unfold stepA
  rw [if_pos h]
theorem stepA_n {A : Tl} {c : Rc} (h : c.k ≠ 0) : stepA A c = setA A c.s (stepR (rowA A c.s) c) := by
  unfold stepA
  rw [if_neg h]
theorem set_at {α : Type} {s : List α} {i j : Nat} {x : α} : (s.set i x)[j]? = if i = j then (if i < s.length then some x else none) else s[j]? := by
  rw [List.getElem?_set]
end Sm
namespace Sm
open PySem PySem.Spec PyProof.Rows L2
/-! ### the law's rows: a list object for each slot -/
def rowsK : Nat → Tl → List (Key × D)
  | _, [] => []
  | n, a :: A => (.inl a.1, .rf n) :: rowsK (n + 1) A
theorem rowsK_len : ∀ (n : Nat) (A : Tl), (rowsK n A).length = A.length
  | _, [] => rfl
  | n, a :: A => congrArg (· + 1) (rowsK_len (n + 1) A)
theorem rowsK_keys : ∀ (n : Nat) (A : Tl), (rowsK n A).map (·.1) = (A.map (·.1)).map Sum.inl
  | _, [] => rfl
  | n, a :: A => by
    show _ :: (rowsK (n + 1) A).map (·.1) = _
    rw [rowsK_keys (n + 1) A]; rfl
def ixA (A : Tl) (k : Int) : Option Nat := A.findIdx? fun a => decide (a.1 = k)
theorem rowsK_get {k : Int} : ∀ (n : Nat) (A : Tl), getD (rowsK n A) (.inl k) = (ixA A k).map fun j => D.rf (n + j)
  | _, [] => rfl
  | n, a :: A => by
    unfold getD ixA
    rw [rowsK, List.find?_cons, List.findIdx?_cons]
    by_cases q : a.1 = k
    · rw [decide_eq_true q, decide_eq_true (congrArg Sum.inl q)]; rfl
    · rw [decide_eq_false q, decide_eq_false (fun z => q (Sum.inl.inj z))]
      have := rowsK_get (k := k) (n + 1) A
      unfold getD ixA at this
      simp only [Bool.false_eq_true, if_false]
      rw [this]
      cases A.findIdx? fun a => decide (a.1 = k) with
      | none => rfl
      | some j => simp; omega
theorem ixA_lk {k : Int} : ∀ A : Tl, lkA A k = (ixA A k).bind fun j => (A[j]?).map (·.2)
  | [] => rfl
  | a :: A => by
    unfold lkA ixA
    rw [List.find?_cons, List.findIdx?_cons]
    by_cases q : a.1 = k
    · rw [decide_eq_true q]; rfl
    · rw [decide_eq_false q]
      have := ixA_lk (k := k) A
      unfold lkA ixA at this
      simp only [Bool.false_eq_true, if_false]
      rw [this]
      cases A.findIdx? fun a => decide (a.1 = k) with
      | none => rfl
      | some j => simp
theorem ixA_lt {k : Int} {A : Tl} {j : Nat} (h : ixA A k = some j) : j < A.length := by
  unfold ixA at h
  exact (List.findIdx?_eq_some_iff_getElem.mp h).1
theorem setA_some {k : Int} {r : Rw} : ∀ {A : Tl} {j : Nat}, ixA A k = some j → setA A k r = A.set j (k, r)
  | [], j, h => by cases h
  | a :: A, j, h => by
    unfold ixA at h
    rw [List.findIdx?_cons] at h
    by_cases q : a.1 = k
    · rw [decide_eq_true q] at h
      cases h
      subst q
      show setA ((a.1, a.2) :: A) a.1 r = _
      rw [setA, if_pos rfl]; rfl
    · rw [decide_eq_false q] at h
      simp only [Bool.false_eq_true, if_false, Option.map_eq_some_iff] at h
      obtain ⟨i, hi, rfl⟩ := h
      show setA ((a.1, a.2) :: A) k r = _
      rw [setA, if_neg q, setA_some hi]; rfl
theorem setA_none {k : Int} {r : Rw} : ∀ {A : Tl}, ixA A k = none → setA A k r = A ++ [(k, r)]
  | [], _ => rfl
  | a :: A, h => by
    unfold ixA at h
    rw [List.findIdx?_cons] at h
    by_cases q : a.1 = k
    · rw [decide_eq_true q] at h
      cases h
    · rw [decide_eq_false q] at h
      simp only [Bool.false_eq_true, if_false, Option.map_eq_none_iff] at h
      show setA ((a.1, a.2) :: A) k r = _
      rw [setA, if_neg q, setA_none h]; rfl
theorem rowsK_set {k : Int} {r : Rw} : ∀ {n : Nat} {A : Tl} {j : Nat}, ixA A k = some j → rowsK n (A.set j (k, r)) = rowsK n A
  | _, [], j, h => by cases h
  | n, a :: A, j, h => by
    unfold ixA at h
    rw [List.findIdx?_cons] at h
    by_cases q : a.1 = k
    · rw [decide_eq_true q] at h
      cases h
      subst q
      rfl
    · rw [decide_eq_false q] at h
      simp only [Bool.false_eq_true, if_false, Option.map_eq_some_iff] at h
      obtain ⟨i, hi, rfl⟩ := h
      show _ :: rowsK (n + 1) (A.set i (k, r)) = _ :: rowsK (n + 1) A
      rw [rowsK_set hi]
theorem rowsK_app {k : Int} {r : Rw} : ∀ (n : Nat) (A : Tl), rowsK n (A ++ [(k, r)]) = rowsK n A ++ [(.inl k, .rf (n + A.length))]
  | _, [] => rfl
  | n, a :: A => by
    show _ :: rowsK (n + 1) (A ++ [(k, r)]) = _ :: (rowsK (n + 1) A ++ _)
    rw [rowsK_app (n + 1) A]
    simp; omega
theorem putD_new {kvs : List (Key × D)} {k : Key} {d : D} (h : getD kvs k = none) : putD kvs k d = kvs ++ [(k, d)] := by
  unfold putD
  have : (kvs.any fun kv => decide (kv.1 = k)) = false := by
    rw [List.any_eq_false]
    intro x hx z
    unfold getD at h
    rw [Option.map_eq_none_iff, List.find?_eq_none] at h
    exact h x hx z
  rw [this, if_neg Bool.false_ne_true]
/-- the rows' objects -/
inductive RoP : S → Tl → Prop
  | nil : RoP [] []
  | cons {j : Int} {ds : List D} {r : Rw} {os : S} {A : Tl} : RwD ds r → RoP os A → RoP ((false, .lst ds) :: os) ((j, r) :: A)
theorem rop_len : ∀ {os : S} {A : Tl}, RoP os A → os.length = A.length
  | _, _, .nil => rfl
  | _, _, .cons a t => congrArg (· + 1) (rop_len t)
theorem rop_at : ∀ {os : S} {A : Tl} {j : Nat} {a : Int × Rw}, RoP os A → A[j]? = some a → ∃ ds, os[j]? = some (false, .lst ds) ∧ RwD ds a.2
  | _, _, _, _, .nil, h => by simp at h
  | _, _, 0, a, .cons h t, e => by
    cases e
    exact ⟨_, rfl, h⟩
  | _, _, j + 1, a, .cons h t, e => by
    obtain ⟨ds, h1, h2⟩ := rop_at (j := j) t (by simpa using e)
    exact ⟨ds, by simpa using h1, h2⟩
theorem rop_set {k : Int} {r : Rw} {ds : List D} (hr : RwD ds r) : ∀ {os : S} {A : Tl} (j : Nat), RoP os A → RoP (os.set j (false, .lst ds)) (A.set j (k, r))
  | _, _, _, .nil => .nil
  | _, _, 0, .cons h t => .cons hr t
  | _, _, j + 1, .cons h t => .cons h (rop_set hr j t)
theorem rop_app {k : Int} {r : Rw} {ds : List D} (hr : RwD ds r) : ∀ {os : S} {A : Tl}, RoP os A → RoP (os ++ [(false, .lst ds)]) (A ++ [(k, r)])
  | _, _, .nil => .cons hr .nil
  | _, _, .cons h t => .cons h (rop_app hr t)
/-- to be read only -/
def RowsAt (s : S) (d : Nat) (A : Tl) : Prop := ∃ n, s[d]? = some (false, .dct (rowsK n A)) ∧ ∀ (j : Nat) (a : Int × Rw), A[j]? = some a → ∃ ds, s[n + j]? = some (false, .lst ds) ∧ RwD ds a.2
theorem rowsAt_of {pre os : S} {d : Nat} {A : Tl} (h : pre[d]? = some (false, .dct (rowsK pre.length A))) (r : RoP os A) : RowsAt (pre ++ os) d A := by
  have hd : d < pre.length := (List.getElem?_eq_some_iff.mp h).1
  refine ⟨pre.length, by rw [List.getElem?_append_left hd]; exact h, fun j a e => ?_⟩
  obtain ⟨ds, h1, h2⟩ := rop_at r e
  exact ⟨ds, by rw [List.getElem?_append_right (by omega), Nat.add_sub_cancel_left]; exact h1, h2⟩
theorem rowsAt_app {s g : S} {d : Nat} {A : Tl} (h : RowsAt s d A) : RowsAt (s ++ g) d A := by
  obtain ⟨n, h1, h2⟩ := h
  have hd : d < s.length := (List.getElem?_eq_some_iff.mp h1).1
  refine ⟨n, by rw [List.getElem?_append_left hd]; exact h1, fun j a e => ?_⟩
  obtain ⟨ds, h3, h4⟩ := h2 j a e
  have hj : n + j < s.length := (List.getElem?_eq_some_iff.mp h3).1
  exact ⟨ds, by rw [List.getElem?_append_left hj]; exact h3, h4⟩
/-- the row at a slot -/
theorem rowsAt_get {s : S} {d : Nat} {A : Tl} {k : Int} (h : RowsAt s d A) : ∃ n, s[d]? = some (false, .dct (rowsK n A)) ∧ (∀ r, lkA A k = some r → ∃ j ds, getD (rowsK n A) (.inl k) = some (.rf j) ∧ s[j]? = some (false, .lst ds) ∧ RwD ds r) ∧ (lkA A k = none → getD (rowsK n A) (.inl k) = none) := by
  obtain ⟨n, h1, h2⟩ := h
  refine ⟨n, h1, fun r hr => ?_, fun hr => ?_⟩
  · rw [ixA_lk] at hr
    cases hi : ixA A k with
    | none => rw [hi] at hr; cases hr
    | some j =>
      rw [hi] at hr
      have hr : (A[j]?).map (·.2) = some r := hr
      obtain ⟨a, ha, rfl⟩ := Option.map_eq_some_iff.mp hr
      obtain ⟨ds, h3, h4⟩ := h2 j a ha
      exact ⟨n + j, ds, by rw [rowsK_get, hi]; rfl, h3, h4⟩
  · rw [ixA_lk] at hr
    cases hi : ixA A k with
    | none => rw [rowsK_get, hi]; rfl
    | some j =>
      rw [hi] at hr
      have lj := ixA_lt hi
      have hr : (A[j]?).map (·.2) = none := hr
      rw [List.getElem?_eq_getElem lj] at hr
      cases hr
end Sm
namespace Sm
open PySem PySem.Spec PyProof.Rows L2
def TyAt (K : PySem.W.Frag) (s : S) (t r : Nat) (A : Tl) : Prop := s[t]? = some (false, .ins (He.ga K "Tally") [("_states", .rf r)]) ∧ ∃ kvs, s[r]? = some (false, .dct kvs) ∧ StP kvs A
theorem len3 {l : List Int} (h : l.length = 3) : ∃ a b c, l = [a, b, c] := by
  match l, h with
  | [a, b, c], _ => exact ⟨a, b, c, rfl⟩
end Sm
namespace Sm
open PySem PySem.Spec PyProof.Rows L2
theorem putF0 {f : Str} {d : D} : putFD f d [] = [(f, d)] := rfl
theorem getD_put {kvs : List (Key × D)} {k : Key} {d : D} (h : getD kvs k = none) : getD (putD kvs k d) k = some d := by
  rw [putD_new h]
  unfold getD at h ⊢
  rw [Option.map_eq_none_iff] at h
  rw [List.find?_append, h]
  simp
theorem ap_set {pre os : S} {x y z : Bool × O} {d : Nat} (h : d < pre.length) : ((pre ++ os ++ [x]).set d y).set (pre ++ os).length z = pre.set d y ++ (os ++ [z]) := by
  rw [List.append_assoc, List.set_append_left _ _ h, List.length_append, List.set_append_right _ _ (by rw [List.length_set]; omega), List.length_set, Nat.add_sub_cancel_left, List.set_append_right _ _ (Nat.le_refl _), Nat.sub_self]
  rfl
theorem ap_set0 {pre os : S} {x y : Bool × O} {d : Nat} (h : d < pre.length) : ((pre ++ os ++ [x]).set d y) = pre.set d y ++ (os ++ [x]) := by
  rw [List.append_assoc, List.set_append_left _ _ h]
theorem set_id {α : Type} {l : List α} {i : Nat} {x : α} (h : l[i]? = some x) : l.set i x = l := by
  apply List.ext_getElem?
  intro j
  rw [List.getElem?_set]
  split
  · rename_i e
    subst e
    rw [if_pos (List.getElem?_eq_some_iff.mp h).1, h]
  · rfl
end Sm
namespace Sm
open PySem PySem.Spec PyProof.Rows L2
def dfl0 : D := .lst 0 [.tup 0 [], .tup 0 [], .tup 0 [], .bl false]
theorem rows_read {s : S} {d : Nat} {A : Tl} (k : Int) (h : RowsAt s d A) : ∃ n a b c, s[d]? = some (false, .dct (rowsK n A)) ∧ lstOf s ((getD (rowsK n A) (.inl k)).getD (.lst 0 [.tup 0 [], .tup 0 [], .tup 0 [], .bl false])) = some [a, b, c, .bl (rowA A k).cl] ∧ DP a (rowA A k).p ∧ DP b (rowA A k).v ∧ DP c (rowA A k).c := by
  obtain ⟨n, h1, h2, h3⟩ := rowsAt_get (k := k) h
  unfold rowA
  cases q : lkA A k with
  | none =>
    exact ⟨n, .tup 0 [], .tup 0 [], .tup 0 [], h1, by rw [h3 q]; rfl, ⟨rfl, rfl⟩, ⟨rfl, rfl⟩, ⟨rfl, rfl⟩⟩
  | some r =>
    obtain ⟨j, ds, e1, e2, a, b, c, rfl, ha, hb, hc⟩ := h2 r q
    exact ⟨n, a, b, c, h1, by rw [e1]; exact lstOf_r e2, ha, hb, hc⟩
end Sm
namespace Sm
open PySem PySem.Spec PyProof.Rows L2
/-- a list of records -/
inductive RcsD : List D → List Rc → Prop
  | nil : RcsD [] []
  | cons {k : Nat} {rd : List D} {c : Rc} {ds : List D} {cs : List Rc} : RcD rd c → RcOk c → dats rd = true → RcsD ds cs → RcsD (.tup k rd :: ds) (c :: cs)
theorem rcs_len : ∀ {ds : List D} {cs : List Rc}, RcsD ds cs → ds.length = cs.length
  | _, _, .nil => rfl
  | _, _, .cons _ _ _ t => congrArg (· + 1) (rcs_len t)
theorem rcs_at : ∀ {ds : List D} {cs : List Rc} {i : Nat} {d : D}, RcsD ds cs → ds[i]? = some d → ∃ k rd c, d = .tup k rd ∧ cs[i]? = some c ∧ RcD rd c ∧ RcOk c ∧ dats rd = true
  | _, _, _, _, .nil, h => by simp at h
  | _, _, 0, d, .cons a b c t, h => by
    cases h
    exact ⟨_, _, _, rfl, rfl, a, b, c⟩
  | _, _, i + 1, d, .cons a b c t, h => by
    obtain ⟨k, rd, x, h1, h2, h3⟩ := rcs_at (i := i) t (by simpa using h)
    exact ⟨k, rd, x, h1, by simpa using h2, h3⟩
theorem rcs_app {k : Nat} {rd : List D} {c : Rc} (h1 : RcD rd c) (h2 : RcOk c) (h3 : dats rd = true) : ∀ {ds : List D} {cs : List Rc}, RcsD ds cs → RcsD (ds ++ [.tup k rd]) (cs ++ [c])
  | _, _, .nil => .cons h1 h2 h3 .nil
  | _, _, .cons a b c t => .cons a b c (rcs_app h1 h2 h3 t)
theorem rcs_dats : ∀ {ds : List D} {cs : List Rc}, RcsD ds cs → dats ds = true
  | _, _, .nil => rfl
  | _, _, .cons a b c t => by simp [dats, dat, c, rcs_dats t]
theorem fold_snoc {cs : List Rc} {i : Nat} {c : Rc} (h : cs[i]? = some c) : (cs.take (i + 1)).foldl stepA [] = stepA ((cs.take i).foldl stepA []) c := by
  rw [List.take_add_one, h, List.foldl_append]; rfl
theorem fold_ok : ∀ (cs : List Rc) (A : Tl), (∀ c ∈ cs, RcOk c) → TlOk A → TlOk (cs.foldl stepA A)
  | [], _, _, h => h
  | c :: cs, A, h, k => fold_ok cs (stepA A c) (fun x hx => h x (List.mem_cons_of_mem _ hx)) (stepA_ok k (h c List.mem_cons_self))
theorem fold_len : ∀ (cs : List Rc) (A : Tl), (cs.foldl stepA A).length ≤ A.length + cs.length
  | [], _ => Nat.le_refl _
  | c :: cs, A => by
    have := fold_len cs (stepA A c)
    have := stepA_len A c
    simp only [List.foldl_cons, List.length_cons]
    omega
theorem rcs_ok : ∀ {ds : List D} {cs : List Rc}, RcsD ds cs → ∀ c ∈ cs, RcOk c
  | _, _, .nil => fun c h => nomatch h
  | _, _, .cons a b c t => fun x hx => by
    rcases List.mem_cons.mp hx with rfl | hx
    · exact b
    · exact rcs_ok t x hx
theorem tl0_ok : TlOk [] := ⟨List.nodup_nil, fun a h => nomatch h⟩
end Sm
namespace Sm
open PySem PySem.Spec PyProof.Rows L2
/-- the records of one slot, of a tally -/
def rec1 (k : Int) (r : Rw) : List PyData := if r.cl = true then [.tuple [.int 3, .int k, r.c]] else (if PyData.eqv r.v nil' = true then [] else [.tuple [.int 2, .int k, r.v, r.c]]) ++ (if PySem.W.dataLt r.v r.p = true then [.tuple [.int 1, .int k, r.p]] else [])
def recP (A : Tl) : List PyData := ((srtI (A.map (·.1))).map fun k => rec1 k (rowA A k)).flatten
theorem toPs_app : ∀ a b : List D, toPs (a ++ b) = toPs a ++ toPs b
  | [], b => by simp [toPs]
  | d :: a, b => by simp [toPs, toPs_app a b]
theorem dats_app : ∀ a b : List D, dats (a ++ b) = (dats a && dats b)
  | [], b => by simp [dats]
  | d :: a, b => by simp [dats, dats_app a b, Bool.and_assoc]
theorem flat_snoc {ks : List Int} {i : Nat} {k : Int} (f : Int → List PyData) (h : ks[i]? = some k) : ((ks.take (i + 1)).map f).flatten = ((ks.take i).map f).flatten ++ f k := by
  rw [List.take_add_one, h, List.map_append, List.flatten_append]; simp
theorem rec1_len (k : Int) (r : Rw) : (rec1 k r).length ≤ 2 := by
  unfold rec1
  split
  · exact Nat.le_succ _
  · rw [List.length_append]
    split <;> split <;> simp
theorem flat_len (ks : List Int) (f : Int → List PyData) (h : ∀ k, (f k).length ≤ 2) : ((ks.map f).flatten).length ≤ 2 * ks.length := by
  induction ks with
  | nil => simp
  | cons k ks ih =>
    have := h k
    simp only [List.map_cons, List.flatten_cons, List.length_append, List.length_cons]
    omega
theorem toPs_len : ∀ X : List D, (toPs X).length = X.length
  | [] => rfl
  | d :: X => by simp [toPs, toPs_len X]
theorem ints_at {ks : List Int} {i : Nat} {d : D} (h : (ks.map D.int)[i]? = some d) : ∃ k, d = .int k ∧ ks[i]? = some k := by
  rw [List.getElem?_map] at h
  obtain ⟨k, h1, h2⟩ := Option.map_eq_some_iff.mp h
  exact ⟨k, h2.symm, h1⟩
theorem lkA_of_mem {A : Tl} {k : Int} (h : k ∈ A.map (·.1)) : ∃ r, lkA A k = some r := by
  cases q : lkA A k with
  | some r => exact ⟨r, rfl⟩
  | none =>
    unfold lkA at q
    rw [Option.map_eq_none_iff, List.find?_eq_none] at q
    obtain ⟨a, ha, e⟩ := List.mem_map.mp h
    exact absurd (decide_eq_true e) (q a ha)
theorem srtI_mem {ks : List Int} {k : Int} {i : Nat} (h : (srtI ks)[i]? = some k) : k ∈ ks := (srtI_perm ks).mem_iff.mp (List.mem_of_getElem? h)
theorem srtI_len (ks : List Int) : (srtI ks).length = ks.length := (srtI_perm ks).length_eq
theorem gtD_dp {x y : D} {p q : PyData} {s : S} {Q : D → S → Prop} (hx : DP x p) (hy : DP y q) (h1 : Bal p) (h2 : Bal q) (h : Q (.bl (PySem.W.dataLt q p)) s) : oCmpD false x y s Q := ⟨p, q, hx.pd, hy.pd, h1.alike h2, h1.ne, by rw [h1.depth]; decide, h⟩
end Sm
namespace Sm
open PySem PySem.Spec PyProof.Rows L2
theorem rows_ask {s : S} {d : Nat} {A : Tl} {k : Int} {r : Rw} (h : RowsAt s d A) (hr : lkA A k = some r) : ∃ (j : Nat) (a b c : D), (∀ x, askD (s ++ [x]) d (.int k) = some (some (.rf j))) ∧ (∀ x, (s ++ [x])[j]? = some (false, .lst [a, b, c, .bl r.cl])) ∧ (∀ x, lstOf (s ++ [x]) (.rf j) = some [a, b, c, .bl r.cl]) ∧ DP a r.p ∧ DP b r.v ∧ DP c r.c := by
  obtain ⟨n, h1, h2, _⟩ := rowsAt_get (k := k) h
  obtain ⟨j, ds, e1, e2, a, b, c, rfl, ha, hb, hc⟩ := h2 r hr
  have dl : d < s.length := (List.getElem?_eq_some_iff.mp h1).1
  have jl : j < s.length := (List.getElem?_eq_some_iff.mp e2).1
  have e3 : ∀ x, (s ++ [x])[j]? = some (false, .lst [a, b, c, .bl r.cl]) := fun x => by rw [List.getElem?_append_left jl]; exact e2
  exact ⟨j, a, b, c, fun x => by rw [askD_i (by rw [List.getElem?_append_left dl]; exact h1), e1], e3, fun x => lstOf_r (e3 x), ha, hb, hc⟩
theorem rowA_some {A : Tl} {k : Int} {r : Rw} (h : lkA A k = some r) : rowA A k = r := by
  unfold rowA
  rw [h]; rfl
theorem tal_ask {s : S} {r : Nat} {kvs : List (Key × D)} {A : Tl} {k : Int} {q : Rw} (h : s[r]? = some (false, .dct kvs)) (h3 : StP kvs A) (hr : lkA A k = some q) : ∃ (i : Nat) (a b c : D), (∀ x, askD (s ++ [x]) r (.int k) = some (some (.tup i [a, b, c, .bl q.cl]))) ∧ DP a q.p ∧ DP b q.v ∧ DP c q.c := by
  obtain ⟨i, ds, e1, a, b, c, rfl, ha, hb, hc⟩ := (stp_get h3).1 q hr
  have rl : r < s.length := (List.getElem?_eq_some_iff.mp h).1
  exact ⟨i, a, b, c, fun x => by rw [askD_i (by rw [List.getElem?_append_left rl]; exact h), e1], ha, hb, hc⟩
end Sm
namespace Sm
open PySem PySem.Spec PyProof.Rows L2
theorem Bal.sh {p : PyData} (h : Bal p) : Mx.Sh 1 p := by
  have hd := h.depth
  obtain ⟨l, rfl, _⟩ := h
  exact ⟨(lay_ints l).1, by rw [hd]; exact Nat.le_refl _⟩
theorem sh_all {m : Nat} : ∀ {ps : List PyData}, (∀ p ∈ ps, Mx.Sh m p) → SeqAt.shaped (.list ps) = true ∨ m > 63 := fun {ps} h => by
  by_cases hm : m > 63
  · exact .inr hm
  · exact .inl ((Mx.sh_lst h).sh (by omega))
theorem sh_list {m : Nat} {ps : List PyData} (h : ∀ p ∈ ps, Mx.Sh m p) (hm : m ≤ 60) : SeqAt.shaped (.list ps) = true := (Mx.sh_lst h).sh (by omega)
theorem sh_t3 {i j : Int} {p : PyData} (h : Mx.Sh 3 p) : Mx.Sh 4 (.tuple [.int i, .int j, p]) := Mx.sh_tup fun d hd => by
  simp only [List.mem_cons, List.not_mem_nil, or_false] at hd
  rcases hd with rfl | rfl | rfl
  · exact Mx.sh_int _
  · exact Mx.sh_int _
  · exact h
theorem sh_t4 {i j : Int} {p q : PyData} (h : Mx.Sh 3 p) (k : Mx.Sh 3 q) : Mx.Sh 4 (.tuple [.int i, .int j, p, q]) := Mx.sh_tup fun d hd => by
  simp only [List.mem_cons, List.not_mem_nil, or_false] at hd
  rcases hd with rfl | rfl | rfl | rfl
  · exact Mx.sh_int _
  · exact Mx.sh_int _
  · exact h
  · exact k
theorem Bal.sh3 {p : PyData} (h : Bal p) : Mx.Sh 3 p := h.sh.mono (by decide)
theorem rec1_sh {k : Int} {r : Rw} (h : RwOk r) : ∀ p ∈ rec1 k r, Mx.Sh 4 p := fun p hp => by
  unfold rec1 at hp
  split at hp
  · rw [List.mem_singleton.mp hp]; exact sh_t3 h.c
  · rcases List.mem_append.mp hp with hp | hp
    · split at hp
      · exact nomatch hp
      · rw [List.mem_singleton.mp hp]; exact sh_t4 h.v.sh3 h.c
    · split at hp
      · rw [List.mem_singleton.mp hp]; exact sh_t3 h.p.sh3
      · exact nomatch hp
theorem recP_sh {A : Tl} (h : TlOk A) : SeqAt.shaped (.list (recP A)) = true := sh_list (m := 4) (fun p hp => by
  unfold recP at hp
  obtain ⟨l, hl, hp⟩ := List.mem_flatten.mp hp
  obtain ⟨k, _, rfl⟩ := List.mem_map.mp hl
  exact rec1_sh (h.row k) p hp) (by decide)
theorem rc_sh {k : Nat} {rd : List D} {c : Rc} (h : RcD rd c) (o : RcOk c) : Mx.Sh 4 (toP (.tup k rd)) := by
  rcases h with ⟨_, rfl⟩ | ⟨e, x, rfl, hx⟩ | ⟨e, x, y, rfl, hx, hy⟩ | ⟨e, x, rfl, hx⟩
  · simp only [toP, toPs]
    exact Mx.sh_tup fun d hd => by
      rw [List.mem_singleton.mp hd]
      exact Mx.sh_int _
  · simp only [toP, toPs, hx.2]
    exact sh_t3 (o.x (by omega) (by omega)).sh3
  · simp only [toP, toPs, hx.2, hy.2]
    exact sh_t4 (o.x (by omega) (by omega)).sh3 (o.y e)
  · simp only [toP, toPs, hx.2]
    exact sh_t3 (o.z e)
theorem rcs_sh : ∀ {ds : List D} {cs : List Rc}, RcsD ds cs → ∀ p ∈ toPs ds, Mx.Sh 4 p
  | _, _, .nil => fun p hp => by simp [toPs] at hp
  | _, _, .cons (k := k) a b c t => fun p hp => by
    simp only [toPs] at hp
    rcases List.mem_cons.mp hp with rfl | hp
    · exact rc_sh a b
    · exact rcs_sh t p hp
/-- a list object of data against a list of the same data -/
theorem neD_rf {s : S} {i : Nat} {X Y : List D} {Q : D → S → Prop} (e : lstOf s (.rf i) = some X) (h1 : dats X = true) (h2 : dats Y = true) (h3 : toPs X = toPs Y) (hs : SeqAt.shaped (.list (toPs Y)) = true) (h : Q (.bl false) s) : oEqD true (.rf i) (.lst 0 Y) s Q := by
  refine ⟨.list (toPs Y), .list (toPs Y), .rfl e (by rw [← h3]; exact pds_toP s X h1), .lst (pds_toP s Y h2), hs, hs, ?_⟩
  rw [Mx.shaped_can hs]
  exact h
theorem tyAt_app {K : PySem.W.Frag} {s g : S} {t r : Nat} {A : Tl} (h : TyAt K s t r A) : TyAt K (s ++ g) t r A := by
  obtain ⟨h1, kvs, h2, h3⟩ := h
  exact ⟨by rw [List.getElem?_append_left (List.getElem?_eq_some_iff.mp h1).1]; exact h1, kvs, by rw [List.getElem?_append_left (List.getElem?_eq_some_iff.mp h2).1]; exact h2, h3⟩
theorem tyAt_set {K : PySem.W.Frag} {s : S} {t r : Nat} {A : Tl} {i : Nat} {x : Bool × O} (h : TyAt K s t r A) (ht : i ≠ t) (hr : i ≠ r) : TyAt K (s.set i x) t r A := by
  obtain ⟨h1, kvs, h2, h3⟩ := h
  exact ⟨by rw [List.getElem?_set_ne ht]; exact h1, kvs, by rw [List.getElem?_set_ne hr]; exact h2, h3⟩
theorem rowsAt_set {s : S} {d i n : Nat} {A : Tl} {x : Bool × O} (h : s[d]? = some (false, .dct (rowsK n A)) ∧ ∀ (j : Nat) (a : Int × Rw), A[j]? = some a → ∃ ds, s[n + j]? = some (false, .lst ds) ∧ RwD ds a.2) (hd : i ≠ d) (hn : i < n) : RowsAt (s.set i x) d A :=
  ⟨n, by rw [List.getElem?_set_ne hd]; exact h.1, fun j a e => by
    obtain ⟨ds, h1, h2⟩ := h.2 j a e
    exact ⟨ds, by rw [List.getElem?_set_ne (by omega)]; exact h1, h2⟩⟩
theorem stp_nil {kvs : List (Key × D)} (h : StP kvs []) : kvs = [] := by cases h; rfl
theorem ext_set {s s' : S} {r : Nat} {x : Bool × O} (h : ∀ j, j ≠ r → s'[j]? = s[j]?) (hl : s'.length = s.length) (hx : s'[r]? = some x) : s' = s.set r x := by
  apply List.ext_getElem?
  intro j
  rw [List.getElem?_set]
  split
  · rename_i e
    subst e
    rw [if_pos (by rw [← hl]; exact (List.getElem?_eq_some_iff.mp hx).1), hx]
  · rename_i e
    exact h j (fun z => e z.symm)
/-- two objects behind -/
theorem ext_two {s s' : S} {x y : Bool × O} {z : Bool × O} (h : ∀ j, j ≠ s.length → j < (s ++ [z]).length → s'[j]? = (s ++ [z])[j]?) (hl : s'.length = (s ++ [z]).length + 1) (hx : s'[s.length]? = some x) (hy : s'[(s ++ [z]).length]? = some y) : s' = s ++ [x, y] := by
  rw [List.length_append] at *
  simp only [List.length_cons, List.length_nil] at *
  apply List.ext_getElem?
  intro j
  by_cases h1 : j < s.length
  · rw [h j (by omega) (by omega), List.getElem?_append_left h1, List.getElem?_append_left h1]
  · rw [List.getElem?_append_right (by omega)]
    by_cases h2 : j = s.length
    · subst h2
      rw [Nat.sub_self, hx]; rfl
    · by_cases h3 : j = s.length + 1
      · subst h3
        rw [show s.length + 1 - s.length = 1 by omega]
        exact hy
      · rw [List.getElem?_eq_none (by omega), List.getElem?_eq_none (by simp; omega)]
theorem cut_ints (l : List Int) (lo hi : Option Int) : ∃ l' : List Int, cutD (l.map D.int) lo hi = l'.map D.int ∧ l'.length ≤ l.length := by
  refine ⟨(l.drop (HT.sIx (l.map D.int).length 0 lo)).take (HT.sIx (l.map D.int).length (l.map D.int).length hi - HT.sIx (l.map D.int).length 0 lo), ?_, ?_⟩
  · unfold cutD
    rw [List.map_take, List.map_drop]
  · rw [List.length_take, List.length_drop]; omega
end Sm
namespace Sm
def bnx : List Int → Int
  | [] => 1
  | x :: _ => x + 1
end Sm
namespace Sm
open PySem PySem.Spec PyProof.Rows L2
def insT (K : PySem.W.Frag) (r : Nat) : Bool × O := (false, .ins (He.ga K "Tally") [("_states", .rf r)])
/-- the law's first seven objects -/
def pre7 (K : PySem.W.Frag) (rds : List D) (kvs : List (Key × D)) (A : Tl) : S := [(false, .lst rds), insT K 2, (false, .dct kvs), (false, .dct (rowsK 7 A)), insT K 5, (false, .dct []), (false, .dct [])]
end Sm
namespace Sm
theorem recP_len (A : Tl) : (recP A).length ≤ 2 * A.length := by
  unfold recP
  have := flat_len (srtI (A.map (·.1))) (fun k => rec1 k (rowA A k)) (fun k => rec1_len _ _)
  rw [srtI_len, List.length_map] at this
  exact this
end Sm

set_option Elab.async false
set_option linter.all false
set_option maxRecDepth 100000
set_option maxHeartbeats 4000000
namespace K30
open PySem PySem.Spec PyProof.Rows L2 Evl Mx
def top (i : Nat) : Stmt := PySem.Challenge.pw_cairn_k30_ballots_and_tallies.main.body.getD i (.Pass ⟨0, 0, 0, 0⟩)
local macro_rules | `(tactic| walk_at "oct") => `(tactic| first | assumption | decide | omega | exact Gf.gm_lt _ _ | exact Gf.gi_lt _ | exact Gf.gp_lt _ _ | exact Gf.xor_lt (by walk_at "oct") (by walk_at "oct"))
local macro_rules | `(tactic| walk_at "sq") => `(tactic| first | assumption | exact sq_of (by assumption) | exact ex_l (by assumption) (by walk_at "sq"))
local macro_rules | `(tactic| walk_at "ev") => `(tactic| first
  | (with_reducible exact ev_c)
  | ((with_reducible apply ev_var); first | rfl | assumption)
  | ((with_reducible apply et_test); walk_at "ev")
  | ((with_reducible apply et_truI); walk_at "ev")
  | ((with_reducible apply et_B); walk_at "ev")
  | ((with_reducible apply et_not); walk_at "ev")
  | ((with_reducible apply et_and); walk_at "ev"; intro _; walk_at "ev")
  | ((with_reducible apply et_or); walk_at "ev"; intro _; walk_at "ev")
  | ((with_reducible apply ev_andV); walk_at "ev"; intro _; walk_at "ev")
  | ((with_reducible apply ev_orV); walk_at "ev"; intro _; walk_at "ev")
  | ((with_reducible apply ev_notV); walk_at "ev")
  | ((with_reducible apply ev_op); walk_at "ev"; walk_at "ev"; walk_at "rv")
  | ((with_reducible apply ev_un); walk_at "ev"; exact ru_neg)
  | (with_reducible exact ea_nil)
  | ((with_reducible apply ea_cons); walk_at "ev"; walk_at "ev")
  | ((with_reducible apply ev_int); walk_at "ev")
  | ((with_reducible apply ev_lenL); walk_at "ev"; walk_at "sq")
  | ((with_reducible apply ev_isEr); walk_at "ev"; walk_at "ev"; assumption)
  | ((with_reducible apply ev_isEt); walk_at "ev"; walk_at "ev"; assumption)
  | ((with_reducible apply ev_call); walk_at "ev"; walk_at "spv")
  | ((with_reducible apply el_call); walk_at "ev"; walk_at "spv"))
local macro_rules | `(tactic| walk_at "rv") => `(tactic| first
  | (with_reducible exact rv_xor)
  | (with_reducible exact rv_addN)
  | (with_reducible exact rv_and1)
  | (with_reducible exact rv_shr1)
  | (with_reducible exact rv_I0)
  | (with_reducible exact rv_eq rfl)
  | (with_reducible exact rv_ne rfl)
  | ((with_reducible apply rv_mod); first | decide | omega)
  | ((with_reducible apply rv_fdiv); first | decide | omega)
  | ((with_reducible apply rv_mulL); decide))
set_option synthInstance.maxSize 1000000
set_option synthInstance.maxHeartbeats 4000000
local macro_rules | `(tactic| walk_at "sm") => `(tactic| simp only [Sm.fSeq, Sm.fCut, Sm.fNext, Sm.fBreak, Sm.fCont, Sm.fDrop, Sm.fRet, Sm.fRetN, Sm.fIfS, Sm.fAsg, Sm.fPar, Sm.fPar3, Sm.fAug, Sm.gNm, Sm.gTp, Sm.gUn, Sm.gSb, Sm.hNil, Sm.hCons, Sm.fVar, Sm.fC, Sm.fOp, Sm.fUn, Sm.fB, Sm.fTru, Sm.fNot, Sm.fAnd, Sm.fOr, Sm.fYes, Sm.fAndV, Sm.fOrV, Sm.fNotV, Sm.fIf, Sm.fNil, Sm.fCons, Sm.fTup, Sm.fLst, Sm.fVal, Sm.fNew, Sm.fDNew, Sm.fFld, Sm.sFl, Sm.fCall, Sm.fMeth, Sm.fMake, Sm.fCB, Sm.fCN, Sm.fBL, Sm.fBL0, Sm.fDGet, Sm.fDIn, Sm.fDGet1, Sm.fDGet2, Sm.sDP, Sm.fDPop1, Sm.fSlL, Sm.fSlT, Sm.fNo, Sm.fPart, Sm.fOpN, Sm.oI, Sm.oI0, Sm.oU, Sm.oIxL, Sm.oIxT, Sm.oEq, Sm.oIsN, Sm.oIn, Sm.oLen, Sm.oList, Sm.oTuple, Sm.oInt_i, Sm.oInt_b, Sm.oAbs, Sm.oMax2, Sm.oMin2, Sm.oIsi_eq, Sm.oApp, Sm.oExt, Sm.oPopAt, Sm.oCat, Sm.oRep, Sm.oCatA, Sm.fFor, Sm.fiList, Sm.fiTup, Sm.fiR1, Sm.fiR2, Sm.startE, Sm.tupOf_t, Sm.lstOf_l, Sm.lstOf_r, Sm.lstOf_la, Sm.seqOf_la, Sm.lstX_la, Sm.truD_la, Sm.lk_hit, Sm.seqOf_t, Sm.seqOf_l, Sm.seqOf_r, Sm.lstX_l, Sm.lstX_r, Sm.keyOf_i, Sm.keyOf_s, Sm.truD_non, Sm.truD_bl, Sm.truD_int, Sm.truD_tup, Sm.truD_lst, Sm.truD_rl, Sm.truD_rd, Sm.flV_i, Sm.flV_b, Sm.flV_s, Sm.flV_n, Sm.isN_n, Sm.isN_i, Sm.isN_b, Sm.isN_s, Sm.isN_t, Sm.isN_l, Sm.isN_r, Sm.sc_ii, Sm.sc_ss, Sm.sc_bb, Sm.askD_i, Sm.askD_s, Sm.isDic_d, Sm.putS_i, Sm.putS_s, Option.isSome_some, Option.isSome_none, Sm.ixN_40, Sm.ixN_41, Sm.ixN_42, Sm.ixN_43, List.set_set, Sm.ofV, Sm.isF, L2.V.int.injEq, L2.V.str.injEq, L2.V.bl.injEq, Int.reduceEq, decide_true, decide_false, if_true, if_false, Bool.not_true, Bool.not_false, Sm.tyD_int, Sm.tyD_bl, Sm.tyD_str, Sm.tyD_non, Sm.tyD_tup, Sm.tyD_lst, Int.toNat_natCast, Sm.at_last, Sm.set_last, Sm.atI0, Sm.atI1, Sm.atI2, Sm.atI3, Sm.atI4, Nat.reduceLeDiff, Bool.not_true, Bool.not_false, Sm.wipeE, List.map, List.replicate, List.length, List.append, List.getElem?_cons_zero, List.getElem?_cons_succ, List.set, Option.some.injEq, Sm.D.int.injEq, Sm.D.str.injEq, Sm.D.bl.injEq, Sm.D.tup.injEq, Sm.D.lst.injEq, Sm.D.rf.injEq, Sm.D.ty.injEq, Sm.O.lst.injEq, Sm.O.dct.injEq, Sm.O.ins.injEq, Prod.mk.injEq, and_assoc, List.cons.injEq, exists_eq', exists_eq, exists_eq_left, exists_eq_left', exists_and_left, exists_eq_right, and_true, true_and, Sm.kit_ii, Sm.kit_ib, Sm.kit_bb, Sm.kit_bi, Sm.kit_ll, Sm.kit_tt, Sm.kit_ss, Sm.kit_st, Sm.kit_it, Sm.kit_is, Sm.kit_ts, Nat.reduceAdd, Nat.reduceSub, reduceIte, Bool.false_eq_true, List.cons_append, List.nil_append])
local macro_rules | `(tactic| walk_at "smh") => `(tactic| simp only [Sm.fSeq, Sm.fCut, Sm.fNext, Sm.fBreak, Sm.fCont, Sm.fDrop, Sm.fRet, Sm.fRetN, Sm.fIfS, Sm.fAsg, Sm.fPar, Sm.fPar3, Sm.fAug, Sm.gNm, Sm.gTp, Sm.gUn, Sm.gSb, Sm.hNil, Sm.hCons, Sm.fVar, Sm.fC, Sm.fOp, Sm.fUn, Sm.fB, Sm.fTru, Sm.fNot, Sm.fAnd, Sm.fOr, Sm.fYes, Sm.fAndV, Sm.fOrV, Sm.fNotV, Sm.fIf, Sm.fNil, Sm.fCons, Sm.fTup, Sm.fLst, Sm.fVal, Sm.fNew, Sm.fDNew, Sm.fFld, Sm.sFl, Sm.fCall, Sm.fMeth, Sm.fMake, Sm.fCB, Sm.fCN, Sm.fBL, Sm.fBL0, Sm.fDGet, Sm.fDIn, Sm.fDGet1, Sm.fDGet2, Sm.sDP, Sm.fDPop1, Sm.fSlL, Sm.fSlT, Sm.fNo, Sm.fPart, Sm.fOpN, Sm.oI, Sm.oI0, Sm.oU, Sm.oIxL, Sm.oIxT, Sm.oEq, Sm.oIsN, Sm.oIn, Sm.oLen, Sm.oList, Sm.oTuple, Sm.oInt_i, Sm.oInt_b, Sm.oAbs, Sm.oMax2, Sm.oMin2, Sm.oIsi_eq, Sm.oApp, Sm.oExt, Sm.oPopAt, Sm.oCat, Sm.oRep, Sm.oCatA, Sm.fFor, Sm.fiList, Sm.fiTup, Sm.fiR1, Sm.fiR2, Sm.startE, Sm.tupOf_t, Sm.lstOf_l, Sm.lstOf_r, Sm.lstOf_la, Sm.seqOf_la, Sm.lstX_la, Sm.truD_la, Sm.lk_hit, Sm.seqOf_t, Sm.seqOf_l, Sm.seqOf_r, Sm.lstX_l, Sm.lstX_r, Sm.keyOf_i, Sm.keyOf_s, Sm.truD_non, Sm.truD_bl, Sm.truD_int, Sm.truD_tup, Sm.truD_lst, Sm.truD_rl, Sm.truD_rd, Sm.flV_i, Sm.flV_b, Sm.flV_s, Sm.flV_n, Sm.isN_n, Sm.isN_i, Sm.isN_b, Sm.isN_s, Sm.isN_t, Sm.isN_l, Sm.isN_r, Sm.sc_ii, Sm.sc_ss, Sm.sc_bb, Sm.askD_i, Sm.askD_s, Sm.isDic_d, Sm.putS_i, Sm.putS_s, Option.isSome_some, Option.isSome_none, Sm.ixN_40, Sm.ixN_41, Sm.ixN_42, Sm.ixN_43, List.set_set, Sm.ofV, Sm.isF, L2.V.int.injEq, L2.V.str.injEq, L2.V.bl.injEq, Int.reduceEq, decide_true, decide_false, if_true, if_false, Bool.not_true, Bool.not_false, Sm.tyD_int, Sm.tyD_bl, Sm.tyD_str, Sm.tyD_non, Sm.tyD_tup, Sm.tyD_lst, Int.toNat_natCast, Sm.at_last, Sm.set_last, Sm.atI0, Sm.atI1, Sm.atI2, Sm.atI3, Sm.atI4, Nat.reduceLeDiff, Bool.not_true, Bool.not_false, Sm.wipeE, List.map, List.replicate, List.length, List.append, List.getElem?_cons_zero, List.getElem?_cons_succ, List.set, Option.some.injEq, Sm.D.int.injEq, Sm.D.str.injEq, Sm.D.bl.injEq, Sm.D.tup.injEq, Sm.D.lst.injEq, Sm.D.rf.injEq, Sm.D.ty.injEq, Sm.O.lst.injEq, Sm.O.dct.injEq, Sm.O.ins.injEq, Prod.mk.injEq, and_assoc, List.cons.injEq, exists_eq', exists_eq, exists_eq_left, exists_eq_left', exists_and_left, exists_eq_right, and_true, true_and, Sm.kit_ii, Sm.kit_ib, Sm.kit_bb, Sm.kit_bi, Sm.kit_ll, Sm.kit_tt, Sm.kit_ss, Sm.kit_st, Sm.kit_it, Sm.kit_is, Sm.kit_ts, Nat.reduceAdd, Nat.reduceSub, reduceIte, Bool.false_eq_true, List.cons_append, List.nil_append, Sm.lstOf_u, Sm.seqOf_u, Sm.lstX_u, Sm.truD_u, Sm.tyD_u, Sm.askD, Sm.isDic, Sm.putS, Option.map_some, *])
abbrev s__wall : Stmt := top 0
abbrev N__wall : List Str := ["k"]
abbrev P__wall : List Str := ["k"]
theorem sc__wall : FnScope N__wall P__wall (defScope s__wall) := ⟨rfl, rfl, rfl, by decide +kernel, rfl, by decide +kernel, by decide +kernel⟩
abbrev s_majority : Stmt := top 7
abbrev N_majority : List Str := ["count"]
abbrev P_majority : List Str := ["count"]
theorem sc_majority : FnScope N_majority P_majority (defScope s_majority) := ⟨rfl, rfl, rfl, by decide +kernel, rfl, by decide +kernel, by decide +kernel⟩
abbrev s_next_ballot : Stmt := top 8
abbrev N_next_ballot : List Str := ["seen", "porter", "life"]
abbrev P_next_ballot : List Str := ["seen", "porter", "life"]
theorem sc_next_ballot : FnScope N_next_ballot P_next_ballot (defScope s_next_ballot) := ⟨rfl, rfl, rfl, by decide +kernel, rfl, by decide +kernel, by decide +kernel⟩
abbrev s_Tally____init__ : Stmt := inClass (top 9) 0
abbrev N_Tally____init__ : List Str := ["self", "records", "record"]
abbrev P_Tally____init__ : List Str := ["self", "records"]
theorem sc_Tally____init__ : FnScope N_Tally____init__ P_Tally____init__ (defScope s_Tally____init__) := ⟨rfl, rfl, rfl, by decide +kernel, rfl, by decide +kernel, by decide +kernel⟩
abbrev s_Tally__apply : Stmt := inClass (top 9) 1
abbrev N_Tally__apply : List Str := ["self", "record", "kind", "slot", "promised", "voted", "command", "closed"]
abbrev P_Tally__apply : List Str := ["self", "record"]
theorem sc_Tally__apply : FnScope N_Tally__apply P_Tally__apply (defScope s_Tally__apply) := ⟨rfl, rfl, rfl, by decide +kernel, rfl, by decide +kernel, by decide +kernel⟩
abbrev s_Tally__promised : Stmt := inClass (top 9) 2
abbrev N_Tally__promised : List Str := ["self", "slot"]
abbrev P_Tally__promised : List Str := ["self", "slot"]
theorem sc_Tally__promised : FnScope N_Tally__promised P_Tally__promised (defScope s_Tally__promised) := ⟨rfl, rfl, rfl, by decide +kernel, rfl, by decide +kernel, by decide +kernel⟩
abbrev s_Tally__voted : Stmt := inClass (top 9) 3
abbrev N_Tally__voted : List Str := ["self", "slot"]
abbrev P_Tally__voted : List Str := ["self", "slot"]
theorem sc_Tally__voted : FnScope N_Tally__voted P_Tally__voted (defScope s_Tally__voted) := ⟨rfl, rfl, rfl, by decide +kernel, rfl, by decide +kernel, by decide +kernel⟩
abbrev s_Tally__command : Stmt := inClass (top 9) 4
abbrev N_Tally__command : List Str := ["self", "slot"]
abbrev P_Tally__command : List Str := ["self", "slot"]
theorem sc_Tally__command : FnScope N_Tally__command P_Tally__command (defScope s_Tally__command) := ⟨rfl, rfl, rfl, by decide +kernel, rfl, by decide +kernel, by decide +kernel⟩
abbrev s_Tally__closed : Stmt := inClass (top 9) 5
abbrev N_Tally__closed : List Str := ["self", "slot"]
abbrev P_Tally__closed : List Str := ["self", "slot"]
theorem sc_Tally__closed : FnScope N_Tally__closed P_Tally__closed (defScope s_Tally__closed) := ⟨rfl, rfl, rfl, by decide +kernel, rfl, by decide +kernel, by decide +kernel⟩
abbrev s_Tally__slots : Stmt := inClass (top 9) 6
abbrev N_Tally__slots : List Str := ["self"]
abbrev P_Tally__slots : List Str := ["self"]
theorem sc_Tally__slots : FnScope N_Tally__slots P_Tally__slots (defScope s_Tally__slots) := ⟨rfl, rfl, rfl, by decide +kernel, rfl, by decide +kernel, by decide +kernel⟩
abbrev s_Tally__records : Stmt := inClass (top 9) 7
abbrev N_Tally__records : List Str := ["self", "found", "slot", "promised", "voted", "command", "closed"]
abbrev P_Tally__records : List Str := ["self"]
theorem sc_Tally__records : FnScope N_Tally__records P_Tally__records (defScope s_Tally__records) := ⟨rfl, rfl, rfl, by decide +kernel, rfl, by decide +kernel, by decide +kernel⟩
abbrev s_Tally__copied : Stmt := inClass (top 9) 8
abbrev N_Tally__copied : List Str := ["self"]
abbrev P_Tally__copied : List Str := ["self"]
theorem sc_Tally__copied : FnScope N_Tally__copied P_Tally__copied (defScope s_Tally__copied) := ⟨rfl, rfl, rfl, by decide +kernel, rfl, by decide +kernel, by decide +kernel⟩
abbrev s_Tally___state_of : Stmt := inClass (top 9) 9
abbrev N_Tally___state_of : List Str := ["self", "slot"]
abbrev P_Tally___state_of : List Str := ["self", "slot"]
theorem sc_Tally___state_of : FnScope N_Tally___state_of P_Tally___state_of (defScope s_Tally___state_of) := ⟨rfl, rfl, rfl, by decide +kernel, rfl, by decide +kernel, by decide +kernel⟩
abbrev s__law_is_integer : Stmt := top 11
abbrev N__law_is_integer : List Str := ["actual"]
abbrev P__law_is_integer : List Str := ["actual"]
theorem sc__law_is_integer : FnScope N__law_is_integer P__law_is_integer (defScope s__law_is_integer) := ⟨rfl, rfl, rfl, by decide +kernel, rfl, by decide +kernel, by decide +kernel⟩
abbrev s__law_cell : Stmt := top 12
abbrev N__law_cell : List Str := ["script", "k"]
abbrev P__law_cell : List Str := ["script", "k"]
theorem sc__law_cell : FnScope N__law_cell P__law_cell (defScope s__law_cell) := ⟨rfl, rfl, rfl, by decide +kernel, rfl, by decide +kernel, by decide +kernel⟩
abbrev s__law_mixed : Stmt := top 13
abbrev N__law_mixed : List Str := ["cell", "k", "first", "second"]
abbrev P__law_mixed : List Str := ["cell", "k"]
theorem sc__law_mixed : FnScope N__law_mixed P__law_mixed (defScope s__law_mixed) := ⟨rfl, rfl, rfl, by decide +kernel, rfl, by decide +kernel, by decide +kernel⟩
abbrev s__law_digits : Stmt := top 14
abbrev N__law_digits : List Str := ["cell", "count", "many", "digits", "k"]
abbrev P__law_digits : List Str := ["cell", "count", "many"]
theorem sc__law_digits : FnScope N__law_digits P__law_digits (defScope s__law_digits) := ⟨rfl, rfl, rfl, by decide +kernel, rfl, by decide +kernel, by decide +kernel⟩
abbrev s__law_ballot : Stmt := top 15
abbrev N__law_ballot : List Str := ["number"]
abbrev P__law_ballot : List Str := ["number"]
theorem sc__law_ballot : FnScope N__law_ballot P__law_ballot (defScope s__law_ballot) := ⟨rfl, rfl, rfl, by decide +kernel, rfl, by decide +kernel, by decide +kernel⟩
abbrev s__law_command : Stmt := top 16
abbrev N__law_command : List Str := ["number"]
abbrev P__law_command : List Str := ["number"]
theorem sc__law_command : FnScope N__law_command P__law_command (defScope s__law_command) := ⟨rfl, rfl, rfl, by decide +kernel, rfl, by decide +kernel, by decide +kernel⟩
abbrev s__law_apply : Stmt := top 17
abbrev N__law_apply : List Str := ["rows", "record", "row"]
abbrev P__law_apply : List Str := ["rows", "record"]
theorem sc__law_apply : FnScope N__law_apply P__law_apply (defScope s__law_apply) := ⟨rfl, rfl, rfl, by decide +kernel, rfl, by decide +kernel, by decide +kernel⟩
abbrev s__law_records : Stmt := top 18
abbrev N__law_records : List Str := ["rows", "found", "slot", "row"]
abbrev P__law_records : List Str := ["rows"]
theorem sc__law_records : FnScope N__law_records P__law_records (defScope s__law_records) := ⟨rfl, rfl, rfl, by decide +kernel, rfl, by decide +kernel, by decide +kernel⟩
abbrev s__law_same_tally : Stmt := top 19
abbrev N__law_same_tally : List Str := ["tally", "rows", "slot", "row", "slots"]
abbrev P__law_same_tally : List Str := ["tally", "rows"]
theorem sc__law_same_tally : FnScope N__law_same_tally P__law_same_tally (defScope s__law_same_tally) := ⟨rfl, rfl, rfl, by decide +kernel, rfl, by decide +kernel, by decide +kernel⟩
abbrev s__law_record : Stmt := top 20
abbrev N__law_record : List Str := ["cell", "number", "ballot", "command", "kind", "slot", "made"]
abbrev P__law_record : List Str := ["cell"]
theorem sc__law_record : FnScope N__law_record P__law_record (defScope s__law_record) := ⟨rfl, rfl, rfl, by decide +kernel, rfl, by decide +kernel, by decide +kernel⟩
abbrev s_law : Stmt := top 21
abbrev N_law : List Str := ["script", "count", "seen", "porter", "life", "due", "records", "cell", "given", "tally", "rows", "other", "empty", "record", "whole", "turn", "told", "names"]
abbrev P_law : List Str := ["script"]
theorem sc_law : FnScope N_law P_law (defScope s_law) := ⟨rfl, rfl, rfl, by decide +kernel, rfl, by decide +kernel, by decide +kernel⟩
structure Txt (K : PySem.W.Frag) (mg : Str → Option Value) : Prop where
  g_Tally : mg "Tally" = some (.ref (He.ga K "Tally"))
  k_Tally : Cls K (He.ga K "Tally")
  mk_Tally : Mk K (He.ga K "Tally") (He.fAd K ("Tally", some "__init__"))
  n_Tally__states : NoAttr K (He.ga K "Tally") "_states"
  F__wall : FnAt K "_wall" s__wall
  g__wall : mg "_wall" = some (.ref (He.ga K "_wall"))
  p__wall : PySem.W.keepIn K (.ref (He.ga K "_wall")) = true
  F_majority : FnAt K "majority" s_majority
  g_majority : mg "majority" = some (.ref (He.ga K "majority"))
  p_majority : PySem.W.keepIn K (.ref (He.ga K "majority")) = true
  F_next_ballot : FnAt K "next_ballot" s_next_ballot
  g_next_ballot : mg "next_ballot" = some (.ref (He.ga K "next_ballot"))
  p_next_ballot : PySem.W.keepIn K (.ref (He.ga K "next_ballot")) = true
  F_Tally____init__ : ∃ fd, FnM K "Tally" "__init__" "Tally.__init__" s_Tally____init__ fd
  F_Tally__apply : ∃ fd, FnM K "Tally" "apply" "Tally.apply" s_Tally__apply fd
  mt_Tally__apply : Meth K (He.ga K "Tally") "apply" (He.fAd K ("Tally", some "apply"))
  F_Tally__promised : ∃ fd, FnM K "Tally" "promised" "Tally.promised" s_Tally__promised fd
  mt_Tally__promised : Meth K (He.ga K "Tally") "promised" (He.fAd K ("Tally", some "promised"))
  F_Tally__voted : ∃ fd, FnM K "Tally" "voted" "Tally.voted" s_Tally__voted fd
  mt_Tally__voted : Meth K (He.ga K "Tally") "voted" (He.fAd K ("Tally", some "voted"))
  F_Tally__command : ∃ fd, FnM K "Tally" "command" "Tally.command" s_Tally__command fd
  mt_Tally__command : Meth K (He.ga K "Tally") "command" (He.fAd K ("Tally", some "command"))
  F_Tally__closed : ∃ fd, FnM K "Tally" "closed" "Tally.closed" s_Tally__closed fd
  mt_Tally__closed : Meth K (He.ga K "Tally") "closed" (He.fAd K ("Tally", some "closed"))
  F_Tally__slots : ∃ fd, FnM K "Tally" "slots" "Tally.slots" s_Tally__slots fd
  mt_Tally__slots : Meth K (He.ga K "Tally") "slots" (He.fAd K ("Tally", some "slots"))
  F_Tally__records : ∃ fd, FnM K "Tally" "records" "Tally.records" s_Tally__records fd
  mt_Tally__records : Meth K (He.ga K "Tally") "records" (He.fAd K ("Tally", some "records"))
  F_Tally__copied : ∃ fd, FnM K "Tally" "copied" "Tally.copied" s_Tally__copied fd
  mt_Tally__copied : Meth K (He.ga K "Tally") "copied" (He.fAd K ("Tally", some "copied"))
  F_Tally___state_of : ∃ fd, FnM K "Tally" "_state_of" "Tally._state_of" s_Tally___state_of fd
  mt_Tally___state_of : Meth K (He.ga K "Tally") "_state_of" (He.fAd K ("Tally", some "_state_of"))
  F__law_is_integer : FnAt K "_law_is_integer" s__law_is_integer
  g__law_is_integer : mg "_law_is_integer" = some (.ref (He.ga K "_law_is_integer"))
  p__law_is_integer : PySem.W.keepIn K (.ref (He.ga K "_law_is_integer")) = true
  F__law_cell : FnAt K "_law_cell" s__law_cell
  g__law_cell : mg "_law_cell" = some (.ref (He.ga K "_law_cell"))
  p__law_cell : PySem.W.keepIn K (.ref (He.ga K "_law_cell")) = true
  F__law_mixed : FnAt K "_law_mixed" s__law_mixed
  g__law_mixed : mg "_law_mixed" = some (.ref (He.ga K "_law_mixed"))
  p__law_mixed : PySem.W.keepIn K (.ref (He.ga K "_law_mixed")) = true
  F__law_digits : FnAt K "_law_digits" s__law_digits
  g__law_digits : mg "_law_digits" = some (.ref (He.ga K "_law_digits"))
  p__law_digits : PySem.W.keepIn K (.ref (He.ga K "_law_digits")) = true
  F__law_ballot : FnAt K "_law_ballot" s__law_ballot
  g__law_ballot : mg "_law_ballot" = some (.ref (He.ga K "_law_ballot"))
  p__law_ballot : PySem.W.keepIn K (.ref (He.ga K "_law_ballot")) = true
  F__law_command : FnAt K "_law_command" s__law_command
  g__law_command : mg "_law_command" = some (.ref (He.ga K "_law_command"))
  p__law_command : PySem.W.keepIn K (.ref (He.ga K "_law_command")) = true
  F__law_apply : FnAt K "_law_apply" s__law_apply
  g__law_apply : mg "_law_apply" = some (.ref (He.ga K "_law_apply"))
  p__law_apply : PySem.W.keepIn K (.ref (He.ga K "_law_apply")) = true
  F__law_records : FnAt K "_law_records" s__law_records
  g__law_records : mg "_law_records" = some (.ref (He.ga K "_law_records"))
  p__law_records : PySem.W.keepIn K (.ref (He.ga K "_law_records")) = true
  F__law_same_tally : FnAt K "_law_same_tally" s__law_same_tally
  g__law_same_tally : mg "_law_same_tally" = some (.ref (He.ga K "_law_same_tally"))
  p__law_same_tally : PySem.W.keepIn K (.ref (He.ga K "_law_same_tally")) = true
  F__law_record : FnAt K "_law_record" s__law_record
  g__law_record : mg "_law_record" = some (.ref (He.ga K "_law_record"))
  p__law_record : PySem.W.keepIn K (.ref (He.ga K "_law_record")) = true
  F_law : FnAt K "law" s_law
  g_law : mg "law" = some (.ref (He.ga K "law"))
  p_law : PySem.W.keepIn K (.ref (He.ga K "law")) = true
  m_bool : mg "bool" = none
  m_int : mg "int" = none
  m_isinstance : mg "isinstance" = none
  m_len : mg "len" = none
  m_list : mg "list" = none
  m_max : mg "max" = none
  m_range : mg "range" = none
  m_sorted : mg "sorted" = none
  c_CLOSE : mg "CLOSE" = some (cst mg "CLOSE")
  r_CLOSE : RelV (.int 3) (cst mg "CLOSE")
  c_NOTHING : mg "NOTHING" = some (cst mg "NOTHING")
  r_NOTHING : RelV (.int 0) (cst mg "NOTHING")
  c_PROMISE : mg "PROMISE" = some (cst mg "PROMISE")
  r_PROMISE : RelV (.int 1) (cst mg "PROMISE")
  c_VOTE : mg "VOTE" = some (cst mg "VOTE")
  r_VOTE : RelV (.int 2) (cst mg "VOTE")
  c_UNTOUCHED : mg "UNTOUCHED" = some (.ref (He.ga K "UNTOUCHED"))
  r_UNTOUCHED : RelV (.ref (He.ga K "UNTOUCHED")) (.ref (He.ga K "UNTOUCHED"))
  t_UNTOUCHED : ∀ (m : Sm.M) (H : Hp), Sm.VR K m H (Sm.D.tup 3 [(Sm.D.tup 3 []), (Sm.D.tup 3 []), (Sm.D.tup 3 []), (Sm.D.bl false)]) (.ref (He.ga K "UNTOUCHED"))
def dd__wall : He.DefD := ⟨("_wall", none), "_wall", "_wall", defArgs s__wall, defBody s__wall, defScope s__wall, [], []⟩
def dd_majority : He.DefD := ⟨("majority", none), "majority", "majority", defArgs s_majority, defBody s_majority, defScope s_majority, [], []⟩
def dd_next_ballot : He.DefD := ⟨("next_ballot", none), "next_ballot", "next_ballot", defArgs s_next_ballot, defBody s_next_ballot, defScope s_next_ballot, [], []⟩
def dd_Tally____init__ : He.DefD := ⟨("Tally", some "__init__"), "__init__", "Tally.__init__", defArgs s_Tally____init__, defBody s_Tally____init__, defScope s_Tally____init__, [], []⟩
def dd_Tally__apply : He.DefD := ⟨("Tally", some "apply"), "apply", "Tally.apply", defArgs s_Tally__apply, defBody s_Tally__apply, defScope s_Tally__apply, [], []⟩
def dd_Tally__promised : He.DefD := ⟨("Tally", some "promised"), "promised", "Tally.promised", defArgs s_Tally__promised, defBody s_Tally__promised, defScope s_Tally__promised, [], []⟩
def dd_Tally__voted : He.DefD := ⟨("Tally", some "voted"), "voted", "Tally.voted", defArgs s_Tally__voted, defBody s_Tally__voted, defScope s_Tally__voted, [], []⟩
def dd_Tally__command : He.DefD := ⟨("Tally", some "command"), "command", "Tally.command", defArgs s_Tally__command, defBody s_Tally__command, defScope s_Tally__command, [], []⟩
def dd_Tally__closed : He.DefD := ⟨("Tally", some "closed"), "closed", "Tally.closed", defArgs s_Tally__closed, defBody s_Tally__closed, defScope s_Tally__closed, [], []⟩
def dd_Tally__slots : He.DefD := ⟨("Tally", some "slots"), "slots", "Tally.slots", defArgs s_Tally__slots, defBody s_Tally__slots, defScope s_Tally__slots, [], []⟩
def dd_Tally__records : He.DefD := ⟨("Tally", some "records"), "records", "Tally.records", defArgs s_Tally__records, defBody s_Tally__records, defScope s_Tally__records, [], []⟩
def dd_Tally__copied : He.DefD := ⟨("Tally", some "copied"), "copied", "Tally.copied", defArgs s_Tally__copied, defBody s_Tally__copied, defScope s_Tally__copied, [], []⟩
def dd_Tally___state_of : He.DefD := ⟨("Tally", some "_state_of"), "_state_of", "Tally._state_of", defArgs s_Tally___state_of, defBody s_Tally___state_of, defScope s_Tally___state_of, [], []⟩
def dd__law_is_integer : He.DefD := ⟨("_law_is_integer", none), "_law_is_integer", "_law_is_integer", defArgs s__law_is_integer, defBody s__law_is_integer, defScope s__law_is_integer, [], []⟩
def dd__law_cell : He.DefD := ⟨("_law_cell", none), "_law_cell", "_law_cell", defArgs s__law_cell, defBody s__law_cell, defScope s__law_cell, [], []⟩
def dd__law_mixed : He.DefD := ⟨("_law_mixed", none), "_law_mixed", "_law_mixed", defArgs s__law_mixed, defBody s__law_mixed, defScope s__law_mixed, [], []⟩
def dd__law_digits : He.DefD := ⟨("_law_digits", none), "_law_digits", "_law_digits", defArgs s__law_digits, defBody s__law_digits, defScope s__law_digits, [], []⟩
def dd__law_ballot : He.DefD := ⟨("_law_ballot", none), "_law_ballot", "_law_ballot", defArgs s__law_ballot, defBody s__law_ballot, defScope s__law_ballot, [], []⟩
def dd__law_command : He.DefD := ⟨("_law_command", none), "_law_command", "_law_command", defArgs s__law_command, defBody s__law_command, defScope s__law_command, [], []⟩
def dd__law_apply : He.DefD := ⟨("_law_apply", none), "_law_apply", "_law_apply", defArgs s__law_apply, defBody s__law_apply, defScope s__law_apply, [], []⟩
def dd__law_records : He.DefD := ⟨("_law_records", none), "_law_records", "_law_records", defArgs s__law_records, defBody s__law_records, defScope s__law_records, [], []⟩
def dd__law_same_tally : He.DefD := ⟨("_law_same_tally", none), "_law_same_tally", "_law_same_tally", defArgs s__law_same_tally, defBody s__law_same_tally, defScope s__law_same_tally, [], []⟩
def dd__law_record : He.DefD := ⟨("_law_record", none), "_law_record", "_law_record", defArgs s__law_record, defBody s__law_record, defScope s__law_record, [], []⟩
def dd_law : He.DefD := ⟨("law", none), "law", "law", defArgs s_law, defBody s_law, defScope s_law, [], []⟩
def fn : List He.DefD := [dd__wall, dd_majority, dd_next_ballot, dd_Tally____init__, dd_Tally__apply, dd_Tally__promised, dd_Tally__voted, dd_Tally__command, dd_Tally__closed, dd_Tally__slots, dd_Tally__records, dd_Tally__copied, dd_Tally___state_of, dd__law_is_integer, dd__law_cell, dd__law_mixed, dd__law_digits, dd__law_ballot, dd__law_command, dd__law_apply, dd__law_records, dd__law_same_tally, dd__law_record, dd_law]
def fa : List He.Fa := [.glo "Tally", .cls "Tally", .mkr "Tally", .noat "Tally" "_states", .glo "_wall", .glo "majority", .glo "next_ballot", .meth "Tally" "apply", .meth "Tally" "promised", .meth "Tally" "voted", .meth "Tally" "command", .meth "Tally" "closed", .meth "Tally" "slots", .meth "Tally" "records", .meth "Tally" "copied", .meth "Tally" "_state_of", .glo "_law_is_integer", .glo "_law_cell", .glo "_law_mixed", .glo "_law_digits", .glo "_law_ballot", .glo "_law_command", .glo "_law_apply", .glo "_law_records", .glo "_law_same_tally", .glo "_law_record", .glo "law", .free "bool", .free "int", .free "isinstance", .free "len", .free "list", .free "max", .free "range", .free "sorted", .int "CLOSE" 3, .int "NOTHING" 0, .int "PROMISE" 1, .int "VOTE" 2, .glo "UNTOUCHED"]
def exs (K : PySem.W.Frag) : List Bool := [Sm.vrB K (Sm.D.tup 3 [(Sm.D.tup 3 []), (Sm.D.tup 3 []), (Sm.D.tup 3 []), (Sm.D.bl false)]) (.ref (He.ga K "UNTOUCHED"))]
def exB (K : PySem.W.Frag) : Bool := (exs K).all id
abbrev R : PySem.W.OpenRow := PySem.W.OpenLaw.row PySem.Challenge.rw_cairn_k30_ballots_and_tallies
def names : List PySem.Str := "_wall" :: "NOTHING" :: "PROMISE" :: "VOTE" :: "CLOSE" :: "UNTOUCHED" :: "majority" :: "next_ballot" :: "Tally" :: "_law_is_integer" :: "_law_cell" :: "_law_mixed" :: "_law_digits" :: "_law_ballot" :: "_law_command" :: "_law_apply" :: "_law_records" :: "_law_same_tally" :: "_law_record" :: []
abbrev hk : PySem.W.Hook := He.hookX 8 fa fn [] [] exB
def ob (s : PySem.W.SharedT) : He.AlX := He.obsX 8 fa fn [] [] exB (HandSHeadRun.getT s)
theorem ob_eq (s : PySem.W.SharedT) : ob s = hk.obs s.abs := He.obsX_eq (HandSHeadRun.getT_eq s)
theorem run (w : World) : HandSHeadRun.RunEq R (PySem.W.view R.prog [21]) hk ob 20000 names w := by
  intro os
  kernel_rfl
section
variable {P : Program} {w : World} {K : PySem.W.Frag} {mg : Str → Option Value} {base : Heap}
def FS_majority (K : PySem.W.Frag) : Sm.FSp := fun ds s Q => ∃ i : Int, ds = [.int i] ∧ Q (.int (i / 2 + 1)) s

theorem ok_majority (T : Txt K mg) : Okf P w K mg base CX0 1 "majority" s_majority P_majority (Sm.spF K 1 (FS_majority K)) := by
  obtain ⟨fd, F⟩ := T.F_majority
  refine ⟨fd, F.ok sc_majority (fun vs H Q E h => (Sm.sp_len h).trans rfl) (fun cdv A outer s H vs Q E hr h => ?_), F.bindsN fun _ _ _ _ _ _ us hl => match us, hl with | [_], _ => rfl, F⟩
  ·
    refine ⟨_, PSs.nox (pss_one (ps_ret (pe_op op_add (pe_op op_fdiv (pv 0) pe_int) pe_int))), ?_⟩
    try dsimp only [Sm.cxK, Sm.cxK', List.map]
    refine Sm.fn_run inferInstance h ?_
    clear h
    intro ds s Q hl hp
    obtain ⟨i, rfl, q⟩ := hp
    walk_at "sm"
    exact ⟨⟨by decide, by decide⟩, .inl q⟩
def FS_next_ballot (K : PySem.W.Frag) : Sm.FSp := fun ds s Q => ∃ (k : Nat) (b : List Int) (p l : Int), ds = [.tup k (b.map .int), .int p, .int l] ∧ b.length ≤ 3 ∧ Q (.tup 0 [.int (Sm.bnx b), .int p, .int l]) s

theorem ok_next_ballot (T : Txt K mg) : Okf P w K mg base CX0 1 "next_ballot" s_next_ballot P_next_ballot (Sm.spF K 3 (FS_next_ballot K)) := by
  obtain ⟨fd, F⟩ := T.F_next_ballot
  refine ⟨fd, F.ok sc_next_ballot (fun vs H Q E h => (Sm.sp_len h).trans rfl) (fun cdv A outer s H vs Q E hr h => ?_), F.bindsN fun _ _ _ _ _ _ us hl => match us, hl with | [_, _, _], _ => rfl, F⟩
  ·
    refine ⟨_, PSs.nox (pss_cons (ps_if (pt_cmpR (op_eqDK (K := K) rfl hr.units) (pv 0) (pe_tup pa_nil) (nomark _)) (pss_one (ps_ret (pe_tup (pa_cons pe_int (pa_cons (pv 1) (pa_cons (pv 2) pa_nil)))))) pss_nil)
(pss_one (ps_ret (pe_tup (pa_cons (pe_op op_add (pe_ix (ix_tupK (K := K) rfl) (pv 0) pe_int (fun _ _ => rfl)) pe_int) (pa_cons (pv 1) (pa_cons (pv 2) pa_nil))))))), ?_⟩
    try dsimp only [Sm.cxK, Sm.cxK', List.map]
    refine Sm.fn_run inferInstance h ?_
    clear h
    intro ds s Q hl hp
    obtain ⟨k, b, p, l, rfl, hb, q⟩ := hp
    walk_at "sm"
    refine Sm.eqD_dp (Sm.dp_ints b) (Sm.dp_ints []) (Sm.shaped_ints b) (Sm.shaped_ints []) ?_
    cases b with
    | nil => exact ⟨true, rfl, .inl q⟩
    | cons x b =>
      refine ⟨false, rfl, ?_⟩
      exact ⟨_, Sm.atI0, x, rfl, .inl q⟩
def FS_Tally__slots (K : PySem.W.Frag) : Sm.FSp := fun ds s Q => ∃ (t r : Nat) (A : Sm.Tl), ds = [.rf t] ∧ Sm.TyAt K s t r A ∧ A.length < 64 ∧ Sm.Al ((Sm.srtI (A.map (·.1))).map .int) s Q

theorem ok_Tally__slots (T : Txt K mg) : OkM P w K mg base CX0 1 "Tally" "slots" "Tally.slots" s_Tally__slots P_Tally__slots (Sm.spF K 1 (FS_Tally__slots K)) := by
  obtain ⟨fd, F⟩ := T.F_Tally__slots
  refine ⟨fd, F.ok sc_Tally__slots (fun vs H Q E h => (Sm.sp_len h).trans rfl) (fun cdv A outer s H vs Q E hr h => ?_), F.bindsN fun _ _ _ _ _ _ us hl => match us, hl with | [_], _ => rfl, F⟩
  ·
    refine ⟨_, PSs.nox (pss_one (ps_ret (pe_callB (call_srtD rfl) (by rfl) T.m_sorted (by decide +kernel) (pa_cons (pe_fldK (K := K) rfl (pv 0) rfl) pa_nil)))), ?_⟩
    try dsimp only [Sm.cxK, Sm.cxK', List.map]
    refine Sm.fn_run inferInstance h ?_
    clear h
    intro ds s Q hl hp
    obtain ⟨t, r, A, rfl, ⟨h1, kvs, h2, h3⟩, hl2, q⟩ := hp
    have hk := T.k_Tally
    have hn := T.n_Tally__states
    walk_at "smh"
    exact ⟨r, false, kvs, A.map (·.1), rfl, h2, Sm.stp_keys h3, by rw [List.length_map]; exact hl2, Sm.al_gc q⟩
def FS_Tally___state_of (K : PySem.W.Frag) : Sm.FSp := fun ds s Q => ∃ (t r : Nat) (A : Sm.Tl) (k : Int), ds = [.rf t, .int k] ∧ Sm.TyAt K s t r A ∧ ∀ j ds, Sm.RwD ds (Sm.rowA A k) → Q (.tup j ds) s

theorem ok_Tally___state_of (T : Txt K mg) : OkM P w K mg base CX0 1 "Tally" "_state_of" "Tally._state_of" s_Tally___state_of P_Tally___state_of (Sm.spF K 2 (FS_Tally___state_of K)) := by
  obtain ⟨fd, F⟩ := T.F_Tally___state_of
  refine ⟨fd, F.ok sc_Tally___state_of (fun vs H Q E h => (Sm.sp_len h).trans rfl) (fun cdv A outer s H vs Q E hr h => ?_), F.bindsN fun _ _ _ _ _ _ us hl => match us, hl with | [_, _], _ => rfl, F⟩
  ·
    refine ⟨_, PSs.nox (pss_one (ps_ret (pe_dget2 (hu_of hr) (pe_fldK (K := K) rfl (pv 0) rfl) (pv 1) (pe_glob rfl T.c_UNTOUCHED T.r_UNTOUCHED) ⟨rfl, rfl, rfl, rfl⟩))), ?_⟩
    try dsimp only [Sm.cxK, Sm.cxK', List.map]
    haveI := Sm.se_const T.t_UNTOUCHED
    refine Sm.fn_run inferInstance h ?_
    clear h
    intro ds s Q hl hp
    obtain ⟨t, r, A, k, rfl, ⟨h1, kvs, h2, h3⟩, q⟩ := hp
    have hk := T.k_Tally
    have hn := T.n_Tally__states
    walk_at "smh"
    trace_state
    obtain ⟨g1, g2⟩ := Sm.stp_get (k := k) h3
    unfold Sm.rowA at q
    cases hA : Sm.lkA A k with
    | none =>
      rw [hA] at q
      rw [g2 hA]
      exact .inl (q 3 _ ⟨_, _, _, rfl, ⟨rfl, rfl⟩, ⟨rfl, rfl⟩, ⟨rfl, rfl⟩⟩)
    | some rw =>
      rw [hA] at q
      obtain ⟨j, es, e1, e2⟩ := g1 rw hA
      rw [e1]
      exact .inl (q j es e2)
def FS__law_is_integer (K : PySem.W.Frag) : Sm.FSp := fun ds s Q => ∃ i : Int, ds = [.int i] ∧ Q (.bl true) s

theorem ok__law_is_integer (T : Txt K mg) : Okf P w K mg base CX0 1 "_law_is_integer" s__law_is_integer P__law_is_integer (Sm.spF K 1 (FS__law_is_integer K)) := by
  obtain ⟨fd, F⟩ := T.F__law_is_integer
  refine ⟨fd, F.ok sc__law_is_integer (fun vs H Q E h => (Sm.sp_len h).trans rfl) (fun cdv A outer s H vs Q E hr h => ?_), F.bindsN fun _ _ _ _ _ _ us hl => match us, hl with | [_], _ => rfl, F⟩
  ·
    refine ⟨_, PSs.nox (pss_one (ps_ret (pe_and (pe_callB (call_isiK' (K := K) rfl) (by rfl) T.m_isinstance (by decide +kernel) (pa_cons (pv 0) (pa_cons (pe_bltn (v := .ty "int") (by rfl) T.m_int (by decide +kernel) rfl) pa_nil))) (pe_one (pe_not (pe_callB (call_isiK' (K := K) rfl) (by rfl) T.m_isinstance (by decide +kernel) (pa_cons (pv 0) (pa_cons (pe_bltn (v := .ty "bool") (by rfl) T.m_bool (by decide +kernel) rfl) pa_nil)))))))), ?_⟩
    try dsimp only [Sm.cxK, Sm.cxK', List.map]
    refine Sm.fn_run inferInstance h ?_
    clear h
    intro ds s Q hl hp
    obtain ⟨i, rfl, q⟩ := hp
    walk_at "sm"
    exact .inl q
def FS__law_cell (K : PySem.W.Frag) : Sm.FSp := fun ds s Q => ∃ (j k : Nat) (ns : List Int), ds = [.lst j (ns.map .int), .int (k : Int)] ∧ Q (.int (ns.getD k 0)) s

theorem ok__law_cell (T : Txt K mg) : Okf P w K mg base CX0 1 "_law_cell" s__law_cell P__law_cell (Sm.spF K 2 (FS__law_cell K)) := by
  obtain ⟨fd, F⟩ := T.F__law_cell
  refine ⟨fd, F.ok sc__law_cell (fun vs H Q E h => (Sm.sp_len h).trans rfl) (fun cdv A outer s H vs Q E hr h => ?_), F.bindsN fun _ _ _ _ _ _ us hl => match us, hl with | [_, _], _ => rfl, F⟩
  ·
    refine ⟨_, PSs.nox (pss_cons (ps_if (pt_cmpR op_lt (pv 1) (pe_callB (call_lenK (K := K) rfl) (by rfl) T.m_len (by decide +kernel) (pa_cons (pv 0) pa_nil)) (nomark _)) (pss_one (ps_ret (pe_ix (ix_listK (K := K) rfl) (pv 0) (pv 1) (fun _ _ => rfl)))) pss_nil)
(pss_one (ps_ret pe_int))), ?_⟩
    try dsimp only [Sm.cxK, Sm.cxK', List.map]
    refine Sm.fn_run inferInstance h ?_
    clear h
    intro ds s Q hl hp
    obtain ⟨j, k, ns, rfl, q⟩ := hp
    walk_at "sm"
    by_cases h : k < ns.length
    · rw [if_pos (decide_eq_true (by rw [List.length_map]; omega))]
      refine ⟨_, Sm.atI_nat (x := .int (ns.getD k 0)) ?_, .inl q⟩
      rw [List.getElem?_map, List.getD_eq_getElem?_getD, List.getElem?_eq_getElem h] <;> rfl
    · rw [if_neg (by rw [List.length_map]; simp; omega)]
      rw [List.getD_eq_getElem?_getD, List.getElem?_eq_none (by omega)] at q
      exact .inl q
def FS__law_mixed (K : PySem.W.Frag) : Sm.FSp := fun ds s Q => ∃ c k : Int, ds = [.int c, .int k] ∧ (0 ≤ k ∧ k < 1000) ∧ ∀ r : Int, 0 ≤ r → Q (.int r) s

theorem ok__law_mixed (T : Txt K mg) : Okf P w K mg base CX0 1 "_law_mixed" s__law_mixed P__law_mixed (Sm.spF K 2 (FS__law_mixed K)) := by
  obtain ⟨fd, F⟩ := T.F__law_mixed
  refine ⟨fd, F.ok sc__law_mixed (fun vs H Q E h => (Sm.sp_len h).trans rfl) (fun cdv A outer s H vs Q E hr h => ?_), F.bindsN fun _ _ _ _ _ _ us hl => match us, hl with | [_, _], _ => rfl, F⟩
  ·
    refine ⟨_, PSs.nox (pss_cons (ps_set (i := 2) sc__law_mixed.nd rfl (by first | exact Or.inl rfl | exact Or.inr rfl) (pe_op op_mod (pe_callTy call_int1 (by rfl) T.m_int (by decide +kernel) (pa_cons (pe_op op_add (pe_op op_add (pe_op op_mul (pe_callTy call_int1 (by rfl) T.m_int (by decide +kernel) (pa_cons (pv 0) pa_nil)) pe_int) (pe_op op_mul (pv 1) pe_int)) pe_int) pa_nil)) pe_int))
(pss_cons (ps_set (i := 3) sc__law_mixed.nd rfl (by first | exact Or.inl rfl | exact Or.inr rfl) (pe_op op_mod (pe_callTy call_int1 (by rfl) T.m_int (by decide +kernel) (pa_cons (pe_op op_add (pe_op op_add (pe_op op_mul (pv 2) pe_int) (pe_op op_mul (pe_op op_add (pv 1) pe_int) pe_int)) pe_int) pa_nil)) pe_int))
(pss_one (ps_ret (pe_op op_fdiv (pv 3) pe_int))))), ?_⟩
    try dsimp only [Sm.cxK, Sm.cxK', List.map]
    refine Sm.fn_run inferInstance h ?_
    clear h
    intro ds s Q hl hp
    obtain ⟨c, k, rfl, hk, q⟩ := hp
    walk_at "sm"
    exact ⟨.inr (by omega), .inr (by omega), by omega, .inr (by omega), .inr (by omega), by omega, ⟨by omega, by omega⟩, .inl (q _ (by omega))⟩
def FS__law_ballot (K : PySem.W.Frag) : Sm.FSp := fun ds s Q => ∃ i : Int, ds = [.int i] ∧ ∀ b : List Int, b.length ≤ 3 → Q (.tup 0 (b.map .int)) s

theorem ok__law_ballot (T : Txt K mg) : Okf P w K mg base CX0 1 "_law_ballot" s__law_ballot P__law_ballot (Sm.spF K 1 (FS__law_ballot K)) := by
  obtain ⟨fd, F⟩ := T.F__law_ballot
  refine ⟨fd, F.ok sc__law_ballot (fun vs H Q E h => (Sm.sp_len h).trans rfl) (fun cdv A outer s H vs Q E hr h => ?_), F.bindsN fun _ _ _ _ _ _ us hl => match us, hl with | [_], _ => rfl, F⟩
  ·
    refine ⟨_, PSs.nox (pss_cons (ps_set (i := 0) sc__law_ballot.nd rfl (by first | exact Or.inl rfl | exact Or.inr rfl) (pe_op op_mod (pe_callTy call_int1 (by rfl) T.m_int (by decide +kernel) (pa_cons (pv 0) pa_nil)) pe_int))
(pss_cons (ps_if (pt_cmpR op_lt (pv 0) pe_int (nomark _)) (pss_one (ps_ret (pe_tup pa_nil))) pss_nil)
(pss_one (ps_ret (pe_tup (pa_cons (pe_op op_add pe_int (pe_op op_mod (pv 0) pe_int)) (pa_cons (pe_op op_mod (pe_op op_fdiv (pv 0) pe_int) pe_int) (pa_cons (pe_op op_add pe_int (pe_op op_mod (pe_op op_fdiv (pv 0) pe_int) pe_int)) pa_nil)))))))), ?_⟩
    try dsimp only [Sm.cxK, Sm.cxK', List.map]
    refine Sm.fn_run inferInstance h ?_
    clear h
    intro ds s Q hl hp
    obtain ⟨i, rfl, q⟩ := hp
    walk_at "smh"
    refine ⟨by omega, ?_⟩
    cases hc : decide (i % 60 < 6) with
    | true =>
      rw [if_pos rfl]
      exact .inl (q [] (by decide))
    | false =>
      rw [if_neg Bool.false_ne_true]
      refine ⟨by omega, ⟨by decide, by decide⟩, by omega, ⟨by decide, by decide⟩, by omega, .inl (q [_, _, _] (by simp))⟩
def FS__law_command (K : PySem.W.Frag) : Sm.FSp := fun ds s Q => ∃ i : Int, ds = [.int i] ∧ ∀ d p, Sm.DP d p → Sm.Cmd p → Q d s

theorem ok__law_command (T : Txt K mg) : Okf P w K mg base CX0 1 "_law_command" s__law_command P__law_command (Sm.spF K 1 (FS__law_command K)) := by
  obtain ⟨fd, F⟩ := T.F__law_command
  refine ⟨fd, F.ok sc__law_command (fun vs H Q E h => (Sm.sp_len h).trans rfl) (fun cdv A outer s H vs Q E hr h => ?_), F.bindsN fun _ _ _ _ _ _ us hl => match us, hl with | [_], _ => rfl, F⟩
  ·
    refine ⟨_, PSs.nox (pss_cons (ps_set (i := 0) sc__law_command.nd rfl (by first | exact Or.inl rfl | exact Or.inr rfl) (pe_op op_mod (pe_callTy call_int1 (by rfl) T.m_int (by decide +kernel) (pa_cons (pv 0) pa_nil)) pe_int))
(pss_one (ps_ret (pe_ix (ix_listK (K := K) rfl) (pe_lst (pa_cons (pe_tup (pa_cons pe_str pa_nil)) (pa_cons (pe_tup (pa_cons pe_str (pa_cons (pe_op op_add pe_int (pv 0)) pa_nil))) (pa_cons (pe_tup (pa_cons pe_str (pa_cons (pe_op op_add pe_int (pe_op op_mod (pv 0) pe_int)) (pa_cons (pe_op op_add pe_int (pe_op op_fdiv (pv 0) pe_int)) pa_nil)))) (pa_cons (pe_tup pa_nil) pa_nil))))) (pe_op op_mod (pv 0) pe_int) (fun _ _ => rfl))))), ?_⟩
    try dsimp only [Sm.cxK, Sm.cxK', List.map]
    refine Sm.fn_run inferInstance h ?_
    clear h
    intro ds s Q hl hp
    obtain ⟨i, rfl, q⟩ := hp
    walk_at "smh"
    refine ⟨by omega, by omega, ⟨by decide, by decide⟩, by omega, ?_⟩
    have h1 : 0 ≤ i % 40 % 4 ∧ i % 40 % 4 < 4 := by omega
    generalize i % 40 % 4 = n at h1
    rcases (by omega : n = 0 ∨ n = 1 ∨ n = 2 ∨ n = 3) with rfl | rfl | rfl | rfl
    · exact ⟨_, Sm.atI0, .inl (q _ _ ⟨rfl, rfl⟩ (Sm.cmd_of (by kernel_rfl)))⟩
    · exact ⟨_, Sm.atI1, .inl (q _ _ ⟨rfl, rfl⟩ (Sm.cmd_of (by kernel_rfl)))⟩
    · exact ⟨_, Sm.atI2, .inl (q _ _ ⟨rfl, rfl⟩ (Sm.cmd_of (by kernel_rfl)))⟩
    · exact ⟨_, Sm.atI3, .inl (q _ _ ⟨rfl, rfl⟩ (Sm.cmd_of (by kernel_rfl)))⟩
def FS__law_apply (K : PySem.W.Frag) : Sm.FSp := fun ds s Q => ∃ (d kk : Nat) (A : Sm.Tl) (c : Sm.Rc) (rd : List Sm.D) (pre os : Sm.S), ds = [.rf d, .tup kk rd] ∧ s = pre ++ os ∧ pre[d]? = some (false, .dct (Sm.rowsK pre.length A)) ∧ Sm.RoP os A ∧ Sm.RcD rd c ∧ Sm.RcOk c ∧ Sm.TlOk A ∧ A.length < 1000 ∧ ∀ os' : Sm.S, Sm.RoP os' (Sm.stepA A c) → Q .non (pre.set d (false, .dct (Sm.rowsK pre.length (Sm.stepA A c))) ++ os')

theorem ok__law_apply (T : Txt K mg) : Okf P w K mg base CX0 1 "_law_apply" s__law_apply P__law_apply (Sm.spF K 2 (FS__law_apply K)) := by
  obtain ⟨fd, F⟩ := T.F__law_apply
  refine ⟨fd, F.ok sc__law_apply (fun vs H Q E h => (Sm.sp_len h).trans rfl) (fun cdv A outer s H vs Q E hr h => ?_), F.bindsN fun _ _ _ _ _ _ us hl => match us, hl with | [_, _], _ => rfl, F⟩
  ·
    refine ⟨_, PSs.nox (pss_cons (ps_if (pt_cmpR op_eq (pe_ix (ix_tupK (K := K) rfl) (pv 1) pe_int (fun _ _ => rfl)) pe_int (nomark _)) (pss_one ps_retN) pss_nil)
(pss_cons (ps_if (pt_cmp (pc_dnotin (hu_of hr) (pe_ix (ix_tupK (K := K) rfl) (pv 1) pe_int (fun _ _ => rfl)) (pv 0))) (pss_one (ps_dput (hu_of hr) (pv 0) (pe_ix (ix_tupK (K := K) rfl) (pv 1) pe_int (fun _ _ => rfl)) (pe_lst (pa_cons (pe_tup pa_nil) (pa_cons (pe_tup pa_nil) (pa_cons (pe_tup pa_nil) (pa_cons pe_bl pa_nil))))) rfl)) pss_nil)
(pss_cons (ps_set (i := 2) sc__law_apply.nd rfl (by first | exact Or.inl rfl | exact Or.inr rfl) (pe_dget (hu_of hr) (pv 0) (pe_ix (ix_tupK (K := K) rfl) (pv 1) pe_int (fun _ _ => rfl)) (fun _ _ => rfl)))
(pss_cons (ps_if (Sm.pt_truthS (K := K) rfl (pe_ix (ix_listK (K := K) rfl) (pv 2) pe_int (fun _ _ => rfl)) (by intro _; rfl)) (pss_one ps_retN) pss_nil)
(pss_cons (ps_if (pt_cmpR op_eq (pe_ix (ix_tupK (K := K) rfl) (pv 1) pe_int (fun _ _ => rfl)) pe_int (nomark _)) (pss_one (ps_asg (pe_callB (Sm.call_maxDD (K := K) rfl rfl hr.units) (by rfl) T.m_max (by decide +kernel) (pa_cons (pe_ix (ix_listK (K := K) rfl) (pv 2) pe_int (fun _ _ => rfl)) (pa_cons (pe_ix (ix_tupK (K := K) rfl) (pv 1) pe_int (fun _ _ => rfl)) pa_nil))) (pg_sub (pv 2) pe_int set_list))) pss_nil)
(pss_cons (ps_if (pt_cmpR op_eq (pe_ix (ix_tupK (K := K) rfl) (pv 1) pe_int (fun _ _ => rfl)) pe_int (nomark _)) (pss_cons (ps_asg (pe_callB (Sm.call_maxDD (K := K) rfl rfl hr.units) (by rfl) T.m_max (by decide +kernel) (pa_cons (pe_ix (ix_listK (K := K) rfl) (pv 2) pe_int (fun _ _ => rfl)) (pa_cons (pe_ix (ix_tupK (K := K) rfl) (pv 1) pe_int (fun _ _ => rfl)) pa_nil))) (pg_sub (pv 2) pe_int set_list))
(pss_cons (ps_asg (pe_ix (ix_tupK (K := K) rfl) (pv 1) pe_int (fun _ _ => rfl)) (pg_sub (pv 2) pe_int set_list))
(pss_one (ps_asg (pe_ix (ix_tupK (K := K) rfl) (pv 1) pe_int (fun _ _ => rfl)) (pg_sub (pv 2) pe_int set_list))))) pss_nil)
(pss_one (ps_if (pt_cmpR op_eq (pe_ix (ix_tupK (K := K) rfl) (pv 1) pe_int (fun _ _ => rfl)) pe_int (nomark _)) (pss_cons (ps_asg (pe_ix (ix_tupK (K := K) rfl) (pv 1) pe_int (fun _ _ => rfl)) (pg_sub (pv 2) pe_int set_list))
(pss_one (ps_asg pe_bl (pg_sub (pv 2) pe_int set_list)))) pss_nil)))))))), ?_⟩
    try dsimp only [Sm.cxK, Sm.cxK', List.map]
    refine Sm.fn_run inferInstance h ?_
    clear h
    intro ds s Q hl hp
    obtain ⟨d, kk, A, c, rd, pre, os, rfl, rfl, h1, h2, hc, co, ok, hl, q⟩ := hp
    have hd : d < pre.length := (List.getElem?_eq_some_iff.mp h1).1
    have hA : (pre ++ os)[d]? = some (false, .dct (Sm.rowsK pre.length A)) := by rw [List.getElem?_append_left hd]; exact h1
    have row := ok.row c.s
    have lo := Sm.rop_len h2
    have kl : (Sm.rowsK pre.length A).length < 100000 := by rw [Sm.rowsK_len]; omega
    by_cases ek : c.k = 0
    · rcases hc with ⟨_, rfl⟩ | ⟨z, _⟩ | ⟨z, _⟩ | ⟨z, _⟩
      · rw [Sm.stepA_0 ek] at q
        have q := q os h2
        rw [Sm.set_id h1] at q
        walk_at "sm"
        exact .inl q
      all_goals omega
    rw [Sm.stepA_n ek] at q
    have st : ∀ r, Sm.stepR r c = Sm.stepR r c := fun _ => rfl
    conv at st => intro r; rhs; unfold Sm.stepR
    cases hix : Sm.ixA A c.s with
    | some j =>
      have lj := Sm.ixA_lt hix
      have hg : Sm.getD (Sm.rowsK pre.length A) (.inl c.s) = some (.rf (pre.length + j)) := by rw [Sm.rowsK_get, hix]; rfl
      obtain ⟨es, e1, e2⟩ := Sm.rop_at h2 (List.getElem?_eq_getElem lj)
      have hrow : Sm.rowA A c.s = A[j].2 := by
        unfold Sm.rowA
        rw [Sm.ixA_lk, hix]
        show ((A[j]?).map (·.2)).getD _ = _
        rw [List.getElem?_eq_getElem lj]; rfl
      rw [← hrow] at e2
      obtain ⟨a, b, d', rfl, da, db, dd⟩ := e2
      have hS : (pre ++ os)[pre.length + j]? = some (false, .lst [a, b, d', .bl (Sm.rowA A c.s).cl]) := by rw [List.getElem?_append_right (by omega), Nat.add_sub_cancel_left]; exact e1
      have lS : pre.length + j < (pre ++ os).length := (List.getElem?_eq_some_iff.mp hS).1
      have hSS : ∀ x, ((pre ++ os).set (pre.length + j) x)[pre.length + j]? = some x := fun x => List.getElem?_set_self lS
      have fin : ∀ ds, Sm.RwD ds (Sm.stepR (Sm.rowA A c.s) c) → Q .non ((pre ++ os).set (pre.length + j) (false, .lst ds)) := fun ds h => by
        have := q (os.set j (false, .lst ds)) (by rw [Sm.setA_some hix]; exact Sm.rop_set h j h2)
        rw [Sm.setA_some hix, Sm.rowsK_set hix, Sm.set_id h1] at this
        rw [List.set_append_right _ _ (by omega), Nat.add_sub_cancel_left]
        exact this
      have fin0 : Sm.stepR (Sm.rowA A c.s) c = Sm.rowA A c.s → Q .non (pre ++ os) := fun e => by
        have := fin _ (by rw [e]; exact ⟨a, b, d', rfl, da, db, dd⟩)
        rw [Sm.set_id hS] at this
        exact this
      rw [st] at fin fin0
      cases hcl : (Sm.rowA A c.s).cl with
      | true =>
        rw [hcl, if_pos rfl] at fin0
        rw [hcl] at hS
        rcases hc with ⟨z, _⟩ | ⟨ek, x, rfl, hx⟩ | ⟨ek, x, y, rfl, hx, hy⟩ | ⟨ek, x, rfl, hx⟩
        · omega
        all_goals
          walk_at "smh"
          exact .inl (fin0 rfl)
      | false =>
        rw [hcl, if_neg Bool.false_ne_true] at fin
        rw [hcl] at hS
        rcases hc with ⟨z, _⟩ | ⟨ek, x, rfl, hx⟩ | ⟨ek, x, y, rfl, hx, hy⟩ | ⟨ek, x, rfl, hx⟩
        · omega
        · walk_at "smh"
          refine Sm.maxD_dp da hx row.p (co.x (by omega) (by omega)) fun e he => ?_
          walk_at "smh"
          exact .inl (fin _ (by rw [if_pos ek]; exact ⟨e, b, d', rfl, he, db, dd⟩))
        · walk_at "smh"
          refine Sm.maxD_dp da hx row.p (co.x (by omega) (by omega)) fun e he => ?_
          walk_at "smh"
          exact .inl (fin _ (by rw [if_neg (by omega), if_pos ek]; exact ⟨e, x, y, rfl, he, hx, hy⟩))
        · walk_at "smh"
          exact .inl (fin _ (by rw [if_neg (by omega), if_neg (by omega), if_pos ek]; exact ⟨a, b, x, rfl, da, db, hx⟩))
    | none =>
      have hg : Sm.getD (Sm.rowsK pre.length A) (.inl c.s) = none := by rw [Sm.rowsK_get, hix]; rfl
      have hrow : Sm.rowA A c.s = Sm.rw0 := by
        unfold Sm.rowA
        rw [Sm.ixA_lk, hix]; rfl
      have hA1 : ∀ x, (pre ++ os ++ [x])[d]? = some (false, .dct (Sm.rowsK pre.length A)) := fun x => by rw [List.getElem?_append_left (by rw [List.length_append]; omega)]; exact hA
      have ld : ∀ x : Bool × Sm.O, d < (pre ++ os ++ [x]).length := fun x => by rw [List.length_append, List.length_append]; omega
      have f1 : ∀ x y : Bool × Sm.O, ((pre ++ os ++ [x]).set d y)[d]? = some y := fun x y => List.getElem?_set_self (ld x)
      have f2 : ∀ x y : Bool × Sm.O, ((pre ++ os ++ [x]).set d y)[(pre ++ os).length]? = some x := fun x y => by
        rw [List.getElem?_set_ne (by rw [List.length_append]; omega)]
        exact Sm.at_last
      have f3 : ∀ v, Sm.getD (Sm.putD (Sm.rowsK pre.length A) (.inl c.s) v) (.inl c.s) = some v := fun v => Sm.getD_put hg
      have f4 : ∀ x y z : Bool × Sm.O, (((pre ++ os ++ [x]).set d y).set (pre ++ os).length z)[(pre ++ os).length]? = some z := fun x y z => List.getElem?_set_self (by simp only [List.length_set, List.length_append, List.length_cons, List.length_nil]; omega)
      have fin : ∀ ds x, Sm.RwD ds (Sm.stepR Sm.rw0 c) → Q .non (((pre ++ os ++ [x]).set d (false, .dct (Sm.putD (Sm.rowsK pre.length A) (.inl c.s) (.rf (pre ++ os).length)))).set (pre ++ os).length (false, .lst ds)) := fun ds x h => by
        rw [hrow] at q
        have := q (os ++ [(false, .lst ds)]) (by rw [Sm.setA_none hix]; exact Sm.rop_app h h2)
        rw [Sm.setA_none hix, Sm.rowsK_app, ← lo, ← List.length_append, ← Sm.putD_new hg] at this
        rw [Sm.ap_set hd]
        exact this
      rw [st] at fin
      rw [show Sm.rw0.cl = false from rfl, if_neg Bool.false_ne_true] at fin
      have dn : Sm.DP (.tup 0 []) Sm.nil' := ⟨rfl, rfl⟩
      rcases hc with ⟨z, _⟩ | ⟨ek, x, rfl, hx⟩ | ⟨ek, x, y, rfl, hx, hy⟩ | ⟨ek, x, rfl, hx⟩
      · omega
      · walk_at "smh"
        refine Sm.al_rf ?_
        walk_at "smh"
        refine Sm.maxD_dp dn hx Sm.bal_nil (co.x (by omega) (by omega)) fun e he => ?_
        walk_at "smh"
        exact .inl (fin _ _ (by rw [if_pos ek]; exact ⟨e, _, _, rfl, he, dn, dn⟩))
      · walk_at "smh"
        refine Sm.al_rf ?_
        walk_at "smh"
        refine Sm.maxD_dp dn hx Sm.bal_nil (co.x (by omega) (by omega)) fun e he => ?_
        walk_at "smh"
        exact .inl (fin _ _ (by rw [if_neg (by omega), if_pos ek]; exact ⟨e, x, y, rfl, he, hx, hy⟩))
      · walk_at "smh"
        refine Sm.al_rf ?_
        walk_at "smh"
        exact .inl (fin _ _ (by rw [if_neg (by omega), if_neg (by omega), if_pos ek]; exact ⟨_, _, x, rfl, dn, dn, hx⟩))
def FS__law_records (K : PySem.W.Frag) : Sm.FSp := fun ds s Q => ∃ (d : Nat) (A : Sm.Tl), ds = [.rf d] ∧ Sm.RowsAt s d A ∧ Sm.TlOk A ∧ A.length < 64 ∧ ∀ X, Sm.dats X = true → Sm.toPs X = Sm.recP A → Q (.lst 0 X) s

theorem ok__law_records (T : Txt K mg) : Okf P w K mg base CX0 1 "_law_records" s__law_records P__law_records (Sm.spF K 1 (FS__law_records K)) := by
  obtain ⟨fd, F⟩ := T.F__law_records
  refine ⟨fd, F.ok sc__law_records (fun vs H Q E h => (Sm.sp_len h).trans rfl) (fun cdv A outer s H vs Q E hr h => ?_), F.bindsN fun _ _ _ _ _ _ us hl => match us, hl with | [_], _ => rfl, F⟩
  ·
    refine ⟨_, PSs.nox (pss_cons (ps_set (i := 1) sc__law_records.nd rfl (by first | exact Or.inl rfl | exact Or.inr rfl) (pe_lst pa_nil))
(pss_cons (ps_for PassesOwn.never rfl (pi_listK (K := K) rfl (pe_callB (call_srtD rfl) (by rfl) T.m_sorted (by decide +kernel) (pa_cons (pv 0) pa_nil))) (pg_name (i := 2) sc__law_records.nd rfl (by first | exact Or.inl rfl | exact Or.inr rfl)) (pss_cons (ps_set (i := 3) sc__law_records.nd rfl (by first | exact Or.inl rfl | exact Or.inr rfl) (pe_dget (hu_of hr) (pv 0) (pv 2) (fun _ _ => rfl)))
(pss_cons (ps_if (Sm.pt_truthS (K := K) rfl (pe_ix (ix_listK (K := K) rfl) (pv 3) pe_int (fun _ _ => rfl)) (by intro _; rfl)) (pss_cons (ps_expr (pe_bm PySem.F.plainAttrs_list PySem.F.slot_list_append PySem.F.type_list_append mt_append (pv 1) (pa_cons (pe_tup (pa_cons pe_int (pa_cons (pv 2) (pa_cons (pe_ix (ix_listK (K := K) rfl) (pv 3) pe_int (fun _ _ => rfl)) pa_nil)))) pa_nil)))
(pss_one ps_continue)) pss_nil)
(pss_cons (ps_if (pt_cmpR (op_neDK (K := K) rfl hr.units) (pe_ix (ix_listK (K := K) rfl) (pv 3) pe_int (fun _ _ => rfl)) (pe_tup pa_nil) (nomark _)) (pss_one (ps_expr (pe_bm PySem.F.plainAttrs_list PySem.F.slot_list_append PySem.F.type_list_append mt_append (pv 1) (pa_cons (pe_tup (pa_cons pe_int (pa_cons (pv 2) (pa_cons (pe_ix (ix_listK (K := K) rfl) (pv 3) pe_int (fun _ _ => rfl)) (pa_cons (pe_ix (ix_listK (K := K) rfl) (pv 3) pe_int (fun _ _ => rfl)) pa_nil))))) pa_nil)))) pss_nil)
(pss_one (ps_if (pt_cmpR (Sm.op_gtD (K := K) rfl hr.units) (pe_ix (ix_listK (K := K) rfl) (pv 3) pe_int (fun _ _ => rfl)) (pe_ix (ix_listK (K := K) rfl) (pv 3) pe_int (fun _ _ => rfl)) (nomark _)) (pss_one (ps_expr (pe_bm PySem.F.plainAttrs_list PySem.F.slot_list_append PySem.F.type_list_append mt_append (pv 1) (pa_cons (pe_tup (pa_cons pe_int (pa_cons (pv 2) (pa_cons (pe_ix (ix_listK (K := K) rfl) (pv 3) pe_int (fun _ _ => rfl)) pa_nil)))) pa_nil)))) pss_nil))))))
(pss_one (ps_ret (pv 1))))), ?_⟩
    try dsimp only [Sm.cxK, Sm.cxK', List.map]
    refine Sm.fn_run inferInstance h ?_
    clear h
    intro ds s Q hl hp
    obtain ⟨d, A, rfl, h, ok, hl2, q⟩ := hp
    walk_at "smh"
    refine Sm.al_rf ?_
    have hh := h
    obtain ⟨n, h1, _⟩ := h
    have dl : d < s.length := (List.getElem?_eq_some_iff.mp h1).1
    have h1' : ∀ x, (s ++ [x])[d]? = some (false, .dct (Sm.rowsK n A)) := fun x => by rw [List.getElem?_append_left dl]; exact h1
    have hk2 : (A.map (·.1)).length < 64 := by rw [List.length_map]; exact hl2
    refine ⟨d, false, _, A.map (·.1), rfl, h1' _, Sm.rowsK_keys _ _, hk2, ?_⟩
    refine ⟨fun i e s' => ∃ X v2 v3, e = [some (.rf d), some (.rf s.length), v2, v3] ∧ s' = s ++ [(false, .lst X)] ∧ Sm.dats X = true ∧ Sm.toPs X = (((Sm.srtI (A.map (·.1))).take i).map fun k => Sm.rec1 k (Sm.rowA A k)).flatten, ⟨[], none, none, rfl, rfl, rfl, by simp [Sm.toPs]⟩, ?_, ?_⟩
    · rintro i x e s' hx ⟨X, v2, v3, rfl, rfl, dX, pX⟩
      obtain ⟨k, rfl, hki⟩ := Sm.ints_at hx
      obtain ⟨r, hr⟩ := Sm.lkA_of_mem (Sm.srtI_mem hki)
      obtain ⟨jj, a, b, c, g1, g2, g3, ga, gb, gc⟩ := Sm.rows_ask hh hr
      have row := ok.row k
      rw [Sm.rowA_some hr] at row
      have xl : X.length < 99999 := by
        have := Sm.toPs_len X
        have := Sm.flat_len ((Sm.srtI (A.map (·.1))).take i) (fun k => Sm.rec1 k (Sm.rowA A k)) (fun k => Sm.rec1_len _ _)
        rw [← pX] at this
        have : ((Sm.srtI (A.map (·.1))).take i).length ≤ (Sm.srtI (A.map (·.1))).length := by rw [List.length_take]; omega
        have := Sm.srtI_len (A.map (·.1))
        omega
      have xl1 : X.length < 100000 := by omega
      have nxt : ∀ Y, Sm.dats Y = true → Sm.toPs Y = Sm.rec1 k (Sm.rowA A k) → ∃ X', X ++ Y = X' ∧ Sm.dats X' = true ∧ Sm.toPs X' = (((Sm.srtI (A.map (·.1))).take (i + 1)).map fun k => Sm.rec1 k (Sm.rowA A k)).flatten := fun Y h1 h2 => ⟨_, rfl, by rw [Sm.dats_app, dX, h1]; rfl, by rw [Sm.toPs_app, pX, h2, Sm.flat_snoc _ hki]⟩
      rw [Sm.rowA_some hr] at nxt
      have hget : Sm.getD (Sm.rowsK n A) (.inl k) = some (.rf jj) := by
        have := g1 (false, .lst [])
        rw [Sm.askD_i (h1' _)] at this
        exact Option.some.inj this
      have t3 : Sm.dats [.tup 0 [.int 3, .int k, c]] = true ∧ Sm.toPs [.tup 0 [.int 3, .int k, c]] = [.tuple [.int 3, .int k, r.c]] := ⟨by simp [Sm.dats, Sm.dat, gc.1], by simp [Sm.toPs, Sm.toP, gc.2]⟩
      have t2 : Sm.dats [.tup 0 [.int 2, .int k, b, c]] = true ∧ Sm.toPs [.tup 0 [.int 2, .int k, b, c]] = [.tuple [.int 2, .int k, r.v, r.c]] := ⟨by simp [Sm.dats, Sm.dat, gb.1, gc.1], by simp [Sm.toPs, Sm.toP, gb.2, gc.2]⟩
      have t1 : Sm.dats [.tup 0 [.int 1, .int k, a]] = true ∧ Sm.toPs [.tup 0 [.int 1, .int k, a]] = [.tuple [.int 1, .int k, r.p]] := ⟨by simp [Sm.dats, Sm.dat, ga.1], by simp [Sm.toPs, Sm.toP, ga.2]⟩
      have r1 : Sm.rec1 k r = Sm.rec1 k r := rfl
      conv at r1 => rhs; unfold Sm.rec1
      cases hcl : r.cl with
      | true =>
        rw [hcl] at g2 g3
        rw [hcl, if_pos rfl] at r1
        walk_at "smh"
        obtain ⟨X', e, h1, h2⟩ := nxt _ t3.1 (t3.2.trans r1.symm)
        exact ⟨X', by rw [e], h1, h2⟩
      | false =>
        rw [hcl] at g2 g3
        rw [hcl, if_neg Bool.false_ne_true] at r1
        walk_at "smh"
        refine Sm.eqD_dp gb (q := Sm.nil') (by exact ⟨rfl, rfl⟩) row.v.shaped Sm.bal_nil.shaped ?_
        cases hv : PyData.eqv r.v Sm.nil' with
        | true =>
          rw [hv, if_pos rfl, List.nil_append] at r1
          walk_at "smh"
          refine Sm.gtD_dp ga gb row.p row.v ?_
          cases hp : PySem.W.dataLt r.v r.p with
          | true =>
            rw [hp, if_pos rfl] at r1
            walk_at "smh"
            obtain ⟨X', e, h1, h2⟩ := nxt _ t1.1 (t1.2.trans r1.symm)
            exact ⟨X', by rw [e], h1, h2⟩
          | false =>
            rw [hp, if_neg Bool.false_ne_true] at r1
            walk_at "smh"
            obtain ⟨X', e, h1, h2⟩ := nxt [] rfl (by rw [r1]; simp [Sm.toPs])
            exact ⟨X', by rw [← e, List.append_nil], h1, h2⟩
        | false =>
          rw [hv, if_neg Bool.false_ne_true] at r1
          walk_at "smh"
          have xl2 : ∀ y : Sm.D, (X ++ [y]).length < 100000 := fun y => by rw [List.length_append]; simp only [List.length_cons, List.length_nil]; omega
          refine Sm.gtD_dp ga gb row.p row.v ?_
          cases hp : PySem.W.dataLt r.v r.p with
          | true =>
            rw [hp, if_pos rfl] at r1
            walk_at "smh"
            obtain ⟨X', e, h1, h2⟩ := nxt ([.tup 0 [.int 2, .int k, b, c]] ++ [.tup 0 [.int 1, .int k, a]]) (by rw [Sm.dats_app, t2.1, t1.1]; rfl) (by rw [Sm.toPs_app, t2.2, t1.2]; exact r1.symm)
            exact ⟨X', by rw [← e, List.append_assoc], h1, h2⟩
          | false =>
            rw [hp, if_neg Bool.false_ne_true, List.append_nil] at r1
            walk_at "smh"
            obtain ⟨X', e, h1, h2⟩ := nxt _ t2.1 (t2.2.trans r1.symm)
            exact ⟨X', by rw [e], h1, h2⟩
    · rintro e s' ⟨X, v2, v3, rfl, rfl, dX, pX⟩
      rw [List.length_map, List.take_length] at pX
      walk_at "sm"
      exact Sm.gc_app (.lrf (Nat.le_refl _) Sm.at_last (Sm.fzs_dat X dX)) (q X dX pX)
def FS_Tally__apply (K : PySem.W.Frag) : Sm.FSp := fun ds s Q => ∃ (t r kk : Nat) (A : Sm.Tl) (c : Sm.Rc) (rd : List Sm.D), ds = [.rf t, .tup kk rd] ∧ Sm.TyAt K s t r A ∧ Sm.RcD rd c ∧ Sm.RcOk c ∧ Sm.TlOk A ∧ A.length < 1000 ∧ ∀ s' : Sm.S, (∀ j, j ≠ r → s'[j]? = s[j]?) → s'.length = s.length → Sm.TyAt K s' t r (Sm.stepA A c) → Q .non s'

theorem ok_Tally__apply (T : Txt K mg) : OkM P w K mg base CX0 2 "Tally" "apply" "Tally.apply" s_Tally__apply P_Tally__apply (Sm.spF K 2 (FS_Tally__apply K)) := by
  obtain ⟨fd_Tally___state_of, G_Tally___state_of, B_Tally___state_of, _⟩ := ok_Tally___state_of (P := P) (w := w) (base := base) T
  obtain ⟨fd, F⟩ := T.F_Tally__apply
  refine ⟨fd, F.ok sc_Tally__apply (fun vs H Q E h => (Sm.sp_len h).trans rfl) (fun cdv A outer s H vs Q E hr h => ?_), F.bindsN fun _ _ _ _ _ _ us hl => match us, hl with | [_, _], _ => rfl, F⟩
  ·
    refine ⟨_, PSs.nox (pss_cons (ps_set (i := 2) sc_Tally__apply.nd rfl (by first | exact Or.inl rfl | exact Or.inr rfl) (pe_ix (ix_tupK (K := K) rfl) (pv 1) pe_int (fun _ _ => rfl)))
(pss_cons (ps_if (pt_cmpR op_eq (pv 2) (pe_glob rfl T.c_NOTHING T.r_NOTHING) (nomark _)) (pss_one ps_retN) pss_nil)
(pss_cons (ps_set (i := 3) sc_Tally__apply.nd rfl (by first | exact Or.inl rfl | exact Or.inr rfl) (pe_ix (ix_tupK (K := K) rfl) (pv 1) pe_int (fun _ _ => rfl)))
(pss_cons (ps_asg (pe_meth (pv 0) T.k_Tally T.mt_Tally___state_of G_Tally___state_of (hr.mono (by decide)) B_Tally___state_of .nil pass0 (pa_cons (pv 3) pa_nil)) (pg_tupK (K := K) (n := 4) rfl rfl (pgs_cons (pg_name (i := 4) sc_Tally__apply.nd rfl (by first | exact Or.inl rfl | exact Or.inr rfl)) (pgs_cons (pg_name (i := 5) sc_Tally__apply.nd rfl (by first | exact Or.inl rfl | exact Or.inr rfl)) (pgs_cons (pg_name (i := 6) sc_Tally__apply.nd rfl (by first | exact Or.inl rfl | exact Or.inr rfl)) (pgs_cons (pg_name (i := 7) sc_Tally__apply.nd rfl (by first | exact Or.inl rfl | exact Or.inr rfl)) pgs_nil))))))
(pss_cons (ps_if (PW.pt (pw_and (pt_cmpR op_eq (pv 2) (pe_glob rfl T.c_CLOSE T.r_CLOSE) (nomark _)) (pw_and1 (pt_not (pt_val (pv 7)))))) (pss_one (ps_par (i := 6) (j := 7) (by rfl) sc_Tally__apply.nd rfl rfl (by decide) rfl rfl (pa_cons (pe_ix (ix_tupK (K := K) rfl) (pv 1) pe_int (fun _ _ => rfl)) (pa_cons pe_bl pa_nil)) (by rfl))) (pss_one (ps_if (pt_not (pt_val (pv 7))) (pss_cons (ps_set (i := 4) sc_Tally__apply.nd rfl (by first | exact Or.inl rfl | exact Or.inr rfl) (pe_callB (Sm.call_maxDD (K := K) rfl rfl hr.units) (by rfl) T.m_max (by decide +kernel) (pa_cons (pv 4) (pa_cons (pe_ix (ix_tupK (K := K) rfl) (pv 1) pe_int (fun _ _ => rfl)) pa_nil))))
(pss_one (ps_if (pt_cmpR op_eq (pv 2) (pe_glob rfl T.c_VOTE T.r_VOTE) (nomark _)) (pss_one (ps_par (i := 5) (j := 6) (by rfl) sc_Tally__apply.nd rfl rfl (by decide) rfl rfl (pa_cons (pe_ix (ix_tupK (K := K) rfl) (pv 1) pe_int (fun _ _ => rfl)) (pa_cons (pe_ix (ix_tupK (K := K) rfl) (pv 1) pe_int (fun _ _ => rfl)) pa_nil)) (by rfl))) pss_nil))) pss_nil)))
(pss_one (ps_dput (hu_of hr) (pe_fldK (K := K) rfl (pv 0) rfl) (pv 3) (pe_tup (pa_cons (pv 4) (pa_cons (pv 5) (pa_cons (pv 6) (pa_cons (pv 7) pa_nil))))) rfl))))))), ?_⟩
    try dsimp only [Sm.cxK, Sm.cxK', List.map]
    refine Sm.fn_run inferInstance h ?_
    clear h
    intro ds s Q hl hp
    obtain ⟨t, r, kk, A, c, rd, rfl, h, hc, co, ok, hl, q⟩ := hp
    have h1 := h.1
    obtain ⟨kvs, h2, h3⟩ := h.2
    have hk := T.k_Tally
    have hn := T.n_Tally__states
    have ht : t ≠ r := fun z => by rw [z, h2] at h1; cases h1
    have hr : r < s.length := (List.getElem?_eq_some_iff.mp h2).1
    have fin : ∀ j ds, c.k ≠ 0 → Sm.RwD ds (Sm.stepR (Sm.rowA A c.s) c) → Q .non (s.set r (false, .dct (Sm.putD kvs (.inl c.s) (.tup j ds)))) := fun j ds z hd => q _ (fun i hi => by rw [List.getElem?_set_ne hi.symm]) (by rw [List.length_set]) ⟨by rw [List.getElem?_set_ne ht.symm]; exact h1, _, List.getElem?_set_self hr, by rw [Sm.stepA_n z]; exact Sm.stp_put hd h3 ok.1⟩
    have kl : kvs.length < 100000 := by rw [Sm.stp_len h3]; omega
    have row := ok.row c.s
    rcases hc with ⟨ek, rfl⟩ | ⟨ek, x, rfl, hx⟩ | ⟨ek, x, y, rfl, hx, hy⟩ | ⟨ek, x, rfl, hx⟩
    · walk_at "sm"
      exact .inl (q s (fun _ _ => rfl) rfl (by rw [Sm.stepA_0 ek]; exact h))
    · walk_at "smh"
      refine ⟨by rfl, t, r, A, c.s, rfl, h, fun j es he => ?_⟩
      obtain ⟨a, b, d, rfl, ha, hb, hd⟩ := he
      have f := fin 0
      unfold Sm.stepR at f
      cases hcl : (Sm.rowA A c.s).cl with
      | true =>
        walk_at "smh"
        rw [hcl, if_pos rfl] at f
        exact .inl (f _ (by omega) ⟨a, b, d, by rw [hcl], ha, hb, hd⟩)
      | false =>
        walk_at "smh"
        refine Sm.maxD_dp ha hx row.p (co.x (by omega) (by omega)) fun e he => ?_
        walk_at "smh"
        rw [hcl, if_neg Bool.false_ne_true, if_pos ek] at f
        exact .inl (f _ (by omega) ⟨e, b, d, rfl, he, hb, hd⟩)
    · walk_at "smh"
      refine ⟨by rfl, t, r, A, c.s, rfl, h, fun j es he => ?_⟩
      obtain ⟨a, b, d, rfl, ha, hb, hd⟩ := he
      have f := fin 0
      unfold Sm.stepR at f
      cases hcl : (Sm.rowA A c.s).cl with
      | true =>
        walk_at "smh"
        rw [hcl, if_pos rfl] at f
        exact .inl (f _ (by omega) ⟨a, b, d, by rw [hcl], ha, hb, hd⟩)
      | false =>
        walk_at "smh"
        refine Sm.maxD_dp ha hx row.p (co.x (by omega) (by omega)) fun e he => ?_
        walk_at "smh"
        rw [hcl, if_neg Bool.false_ne_true, if_neg (by omega), if_pos ek] at f
        exact .inl (f _ (by omega) ⟨e, x, y, rfl, he, hx, hy⟩)
    · walk_at "smh"
      refine ⟨by rfl, t, r, A, c.s, rfl, h, fun j es he => ?_⟩
      obtain ⟨a, b, d, rfl, ha, hb, hd⟩ := he
      have f := fin 0
      unfold Sm.stepR at f
      cases hcl : (Sm.rowA A c.s).cl with
      | true =>
        walk_at "smh"
        rw [hcl, if_pos rfl] at f
        exact .inl (f _ (by omega) ⟨a, b, d, by rw [hcl], ha, hb, hd⟩)
      | false =>
        walk_at "smh"
        rw [hcl, if_neg Bool.false_ne_true, if_neg (by omega), if_neg (by omega), if_pos ek] at f
        exact .inl (f _ (by omega) ⟨a, b, x, rfl, ha, hb, hx⟩)
def FS_Tally__promised (K : PySem.W.Frag) : Sm.FSp := fun ds s Q => ∃ (t r : Nat) (A : Sm.Tl) (k : Int), ds = [.rf t, .int k] ∧ Sm.TyAt K s t r A ∧ ∀ d, Sm.DP d (Sm.rowA A k).p → Q d s

theorem ok_Tally__promised (T : Txt K mg) : OkM P w K mg base CX0 2 "Tally" "promised" "Tally.promised" s_Tally__promised P_Tally__promised (Sm.spF K 2 (FS_Tally__promised K)) := by
  obtain ⟨fd_Tally___state_of, G_Tally___state_of, B_Tally___state_of, _⟩ := ok_Tally___state_of (P := P) (w := w) (base := base) T
  obtain ⟨fd, F⟩ := T.F_Tally__promised
  refine ⟨fd, F.ok sc_Tally__promised (fun vs H Q E h => (Sm.sp_len h).trans rfl) (fun cdv A outer s H vs Q E hr h => ?_), F.bindsN fun _ _ _ _ _ _ us hl => match us, hl with | [_, _], _ => rfl, F⟩
  ·
    refine ⟨_, PSs.nox (pss_one (ps_ret (pe_ix (ix_tupK (K := K) rfl) (pe_meth (pv 0) T.k_Tally T.mt_Tally___state_of G_Tally___state_of (hr.mono (by decide)) B_Tally___state_of .nil pass0 (pa_cons (pv 1) pa_nil)) pe_int (fun _ _ => rfl)))), ?_⟩
    try dsimp only [Sm.cxK, Sm.cxK', List.map]
    refine Sm.fn_run inferInstance h ?_
    clear h
    intro ds s Q hl hp
    obtain ⟨t, r, A, k, rfl, h, q⟩ := hp
    have h1 := h.1
    have hk := T.k_Tally
    walk_at "smh"
    refine ⟨by rfl, t, r, A, k, rfl, h, fun j es he => ?_⟩
    obtain ⟨a, b, c, rfl, ha, hb, hc⟩ := he
    walk_at "smh"
    exact .inl (q _ ha)
def FS_Tally__voted (K : PySem.W.Frag) : Sm.FSp := fun ds s Q => ∃ (t r : Nat) (A : Sm.Tl) (k : Int), ds = [.rf t, .int k] ∧ Sm.TyAt K s t r A ∧ ∀ d, Sm.DP d (Sm.rowA A k).v → Q d s

theorem ok_Tally__voted (T : Txt K mg) : OkM P w K mg base CX0 2 "Tally" "voted" "Tally.voted" s_Tally__voted P_Tally__voted (Sm.spF K 2 (FS_Tally__voted K)) := by
  obtain ⟨fd_Tally___state_of, G_Tally___state_of, B_Tally___state_of, _⟩ := ok_Tally___state_of (P := P) (w := w) (base := base) T
  obtain ⟨fd, F⟩ := T.F_Tally__voted
  refine ⟨fd, F.ok sc_Tally__voted (fun vs H Q E h => (Sm.sp_len h).trans rfl) (fun cdv A outer s H vs Q E hr h => ?_), F.bindsN fun _ _ _ _ _ _ us hl => match us, hl with | [_, _], _ => rfl, F⟩
  ·
    refine ⟨_, PSs.nox (pss_one (ps_ret (pe_ix (ix_tupK (K := K) rfl) (pe_meth (pv 0) T.k_Tally T.mt_Tally___state_of G_Tally___state_of (hr.mono (by decide)) B_Tally___state_of .nil pass0 (pa_cons (pv 1) pa_nil)) pe_int (fun _ _ => rfl)))), ?_⟩
    try dsimp only [Sm.cxK, Sm.cxK', List.map]
    refine Sm.fn_run inferInstance h ?_
    clear h
    intro ds s Q hl hp
    obtain ⟨t, r, A, k, rfl, h, q⟩ := hp
    have h1 := h.1
    have hk := T.k_Tally
    walk_at "smh"
    refine ⟨by rfl, t, r, A, k, rfl, h, fun j es he => ?_⟩
    obtain ⟨a, b, c, rfl, ha, hb, hc⟩ := he
    walk_at "smh"
    exact .inl (q _ hb)
def FS_Tally__command (K : PySem.W.Frag) : Sm.FSp := fun ds s Q => ∃ (t r : Nat) (A : Sm.Tl) (k : Int), ds = [.rf t, .int k] ∧ Sm.TyAt K s t r A ∧ ∀ d, Sm.DP d (Sm.rowA A k).c → Q d s

theorem ok_Tally__command (T : Txt K mg) : OkM P w K mg base CX0 2 "Tally" "command" "Tally.command" s_Tally__command P_Tally__command (Sm.spF K 2 (FS_Tally__command K)) := by
  obtain ⟨fd_Tally___state_of, G_Tally___state_of, B_Tally___state_of, _⟩ := ok_Tally___state_of (P := P) (w := w) (base := base) T
  obtain ⟨fd, F⟩ := T.F_Tally__command
  refine ⟨fd, F.ok sc_Tally__command (fun vs H Q E h => (Sm.sp_len h).trans rfl) (fun cdv A outer s H vs Q E hr h => ?_), F.bindsN fun _ _ _ _ _ _ us hl => match us, hl with | [_, _], _ => rfl, F⟩
  ·
    refine ⟨_, PSs.nox (pss_one (ps_ret (pe_ix (ix_tupK (K := K) rfl) (pe_meth (pv 0) T.k_Tally T.mt_Tally___state_of G_Tally___state_of (hr.mono (by decide)) B_Tally___state_of .nil pass0 (pa_cons (pv 1) pa_nil)) pe_int (fun _ _ => rfl)))), ?_⟩
    try dsimp only [Sm.cxK, Sm.cxK', List.map]
    refine Sm.fn_run inferInstance h ?_
    clear h
    intro ds s Q hl hp
    obtain ⟨t, r, A, k, rfl, h, q⟩ := hp
    have h1 := h.1
    have hk := T.k_Tally
    walk_at "smh"
    refine ⟨by rfl, t, r, A, k, rfl, h, fun j es he => ?_⟩
    obtain ⟨a, b, c, rfl, ha, hb, hc⟩ := he
    walk_at "smh"
    exact .inl (q _ hc)
def FS_Tally__closed (K : PySem.W.Frag) : Sm.FSp := fun ds s Q => ∃ (t r : Nat) (A : Sm.Tl) (k : Int), ds = [.rf t, .int k] ∧ Sm.TyAt K s t r A ∧ Q (.bl (Sm.rowA A k).cl) s

theorem ok_Tally__closed (T : Txt K mg) : OkM P w K mg base CX0 2 "Tally" "closed" "Tally.closed" s_Tally__closed P_Tally__closed (Sm.spF K 2 (FS_Tally__closed K)) := by
  obtain ⟨fd_Tally___state_of, G_Tally___state_of, B_Tally___state_of, _⟩ := ok_Tally___state_of (P := P) (w := w) (base := base) T
  obtain ⟨fd, F⟩ := T.F_Tally__closed
  refine ⟨fd, F.ok sc_Tally__closed (fun vs H Q E h => (Sm.sp_len h).trans rfl) (fun cdv A outer s H vs Q E hr h => ?_), F.bindsN fun _ _ _ _ _ _ us hl => match us, hl with | [_, _], _ => rfl, F⟩
  ·
    refine ⟨_, PSs.nox (pss_one (ps_ret (pe_ix (ix_tupK (K := K) rfl) (pe_meth (pv 0) T.k_Tally T.mt_Tally___state_of G_Tally___state_of (hr.mono (by decide)) B_Tally___state_of .nil pass0 (pa_cons (pv 1) pa_nil)) pe_int (fun _ _ => rfl)))), ?_⟩
    try dsimp only [Sm.cxK, Sm.cxK', List.map]
    refine Sm.fn_run inferInstance h ?_
    clear h
    intro ds s Q hl hp
    obtain ⟨t, r, A, k, rfl, h, q⟩ := hp
    have h1 := h.1
    have hk := T.k_Tally
    walk_at "smh"
    refine ⟨by rfl, t, r, A, k, rfl, h, fun j es he => ?_⟩
    obtain ⟨a, b, c, rfl, ha, hb, hc⟩ := he
    walk_at "smh"
    exact .inl q
def FS_Tally__records (K : PySem.W.Frag) : Sm.FSp := fun ds s Q => ∃ (t r : Nat) (A : Sm.Tl), ds = [.rf t] ∧ Sm.TyAt K s t r A ∧ Sm.TlOk A ∧ A.length < 64 ∧ ∀ X, Sm.dats X = true → Sm.toPs X = Sm.recP A → Sm.Al X s Q

theorem ok_Tally__records (T : Txt K mg) : OkM P w K mg base CX0 2 "Tally" "records" "Tally.records" s_Tally__records P_Tally__records (Sm.spF K 1 (FS_Tally__records K)) := by
  obtain ⟨fd_Tally__slots, G_Tally__slots, B_Tally__slots, _⟩ := ok_Tally__slots (P := P) (w := w) (base := base) T
  obtain ⟨fd, F⟩ := T.F_Tally__records
  refine ⟨fd, F.ok sc_Tally__records (fun vs H Q E h => (Sm.sp_len h).trans rfl) (fun cdv A outer s H vs Q E hr h => ?_), F.bindsN fun _ _ _ _ _ _ us hl => match us, hl with | [_], _ => rfl, F⟩
  ·
    refine ⟨_, PSs.nox (pss_cons (ps_set (i := 1) sc_Tally__records.nd rfl (by first | exact Or.inl rfl | exact Or.inr rfl) (pe_lst pa_nil))
(pss_cons (ps_for PassesOwn.never rfl (pi_listK (K := K) rfl (pe_meth0 (pv 0) T.k_Tally T.mt_Tally__slots G_Tally__slots (hr.mono (by decide)) B_Tally__slots .nil pass0)) (pg_name (i := 2) sc_Tally__records.nd rfl (by first | exact Or.inl rfl | exact Or.inr rfl)) (pss_cons (ps_asg (pe_dget (hu_of hr) (pe_fldK (K := K) rfl (pv 0) rfl) (pv 2) (fun _ _ => rfl)) (pg_tupK (K := K) (n := 4) rfl rfl (pgs_cons (pg_name (i := 3) sc_Tally__records.nd rfl (by first | exact Or.inl rfl | exact Or.inr rfl)) (pgs_cons (pg_name (i := 4) sc_Tally__records.nd rfl (by first | exact Or.inl rfl | exact Or.inr rfl)) (pgs_cons (pg_name (i := 5) sc_Tally__records.nd rfl (by first | exact Or.inl rfl | exact Or.inr rfl)) (pgs_cons (pg_name (i := 6) sc_Tally__records.nd rfl (by first | exact Or.inl rfl | exact Or.inr rfl)) pgs_nil))))))
(pss_cons (ps_if (pt_val (pv 6)) (pss_one (ps_expr (pe_bm PySem.F.plainAttrs_list PySem.F.slot_list_append PySem.F.type_list_append mt_append (pv 1) (pa_cons (pe_tup (pa_cons (pe_glob rfl T.c_CLOSE T.r_CLOSE) (pa_cons (pv 2) (pa_cons (pv 5) pa_nil)))) pa_nil)))) (pss_one (ps_if (pt_cmpR (op_neDK (K := K) rfl hr.units) (pv 4) (pe_tup pa_nil) (nomark _)) (pss_one (ps_expr (pe_bm PySem.F.plainAttrs_list PySem.F.slot_list_append PySem.F.type_list_append mt_append (pv 1) (pa_cons (pe_tup (pa_cons (pe_glob rfl T.c_VOTE T.r_VOTE) (pa_cons (pv 2) (pa_cons (pv 4) (pa_cons (pv 5) pa_nil))))) pa_nil)))) pss_nil)))
(pss_one (ps_if (PW.pt (pw_and (pt_not (pt_val (pv 6))) (pw_and1 (pt_cmpR (Sm.op_gtD (K := K) rfl hr.units) (pv 3) (pv 4) (nomark _))))) (pss_one (ps_expr (pe_bm PySem.F.plainAttrs_list PySem.F.slot_list_append PySem.F.type_list_append mt_append (pv 1) (pa_cons (pe_tup (pa_cons (pe_glob rfl T.c_PROMISE T.r_PROMISE) (pa_cons (pv 2) (pa_cons (pv 3) pa_nil)))) pa_nil)))) pss_nil)))))
(pss_one (ps_ret (pv 1))))), ?_⟩
    try dsimp only [Sm.cxK, Sm.cxK', List.map]
    refine Sm.fn_run inferInstance h ?_
    clear h
    intro ds s Q hl hp
    obtain ⟨t, r, A, rfl, h, ok, hl2, q⟩ := hp
    have h1 := h.1
    obtain ⟨kvs, h2, h3⟩ := h.2
    have hk := T.k_Tally
    have hn := T.n_Tally__states
    walk_at "smh"
    refine Sm.al_rf ?_
    have tl : t < s.length := (List.getElem?_eq_some_iff.mp h1).1
    have rl : r < s.length := (List.getElem?_eq_some_iff.mp h2).1
    have h1' : ∀ x, (s ++ [x])[t]? = some (false, .ins (He.ga K "Tally") [("_states", .rf r)]) := fun x => by rw [List.getElem?_append_left tl]; exact h1
    have h2' : ∀ x, (s ++ [x])[r]? = some (false, .dct kvs) := fun x => by rw [List.getElem?_append_left rl]; exact h2
    have hk2 : (A.map (·.1)).length < 64 := by rw [List.length_map]; exact hl2
    walk_at "smh"
    refine ⟨by rfl, t, r, A, rfl, ⟨h1' _, kvs, h2' _, h3⟩, hl2, .inl ?_⟩
    walk_at "smh"
    refine ⟨fun i e s' => ∃ X v2 v3 v4 v5 v6, e = [some (.rf t), some (.rf s.length), v2, v3, v4, v5, v6] ∧ s' = s ++ [(false, .lst X)] ∧ Sm.dats X = true ∧ Sm.toPs X = (((Sm.srtI (A.map (·.1))).take i).map fun k => Sm.rec1 k (Sm.rowA A k)).flatten, ⟨[], none, none, none, none, none, rfl, rfl, rfl, by simp [Sm.toPs]⟩, ?_, ?_⟩
    · rintro i x e s' hx ⟨X, v2, v3, v4, v5, v6, rfl, rfl, dX, pX⟩
      obtain ⟨k, rfl, hki⟩ := Sm.ints_at hx
      obtain ⟨rw', hr⟩ := Sm.lkA_of_mem (Sm.srtI_mem hki)
      obtain ⟨jj, a, b, c, g1, ga, gb, gc⟩ := Sm.tal_ask h2 h3 hr
      have row := ok.row k
      rw [Sm.rowA_some hr] at row
      have xl : X.length < 99999 := by
        have := Sm.toPs_len X
        have := Sm.flat_len ((Sm.srtI (A.map (·.1))).take i) (fun k => Sm.rec1 k (Sm.rowA A k)) (fun k => Sm.rec1_len _ _)
        rw [← pX] at this
        have : ((Sm.srtI (A.map (·.1))).take i).length ≤ (Sm.srtI (A.map (·.1))).length := by rw [List.length_take]; omega
        have := Sm.srtI_len (A.map (·.1))
        omega
      have xl1 : X.length < 100000 := by omega
      have nxt : ∀ Y, Sm.dats Y = true → Sm.toPs Y = Sm.rec1 k (Sm.rowA A k) → ∃ X', X ++ Y = X' ∧ Sm.dats X' = true ∧ Sm.toPs X' = (((Sm.srtI (A.map (·.1))).take (i + 1)).map fun k => Sm.rec1 k (Sm.rowA A k)).flatten := fun Y h1 h2 => ⟨_, rfl, by rw [Sm.dats_app, dX, h1]; rfl, by rw [Sm.toPs_app, pX, h2, Sm.flat_snoc _ hki]⟩
      rw [Sm.rowA_some hr] at nxt
      have hget : Sm.getD kvs (.inl k) = some (.tup jj [a, b, c, .bl rw'.cl]) := by
        have := g1 (false, .lst [])
        rw [Sm.askD_i (h2' _)] at this
        exact Option.some.inj this
      have t3 : Sm.dats [.tup 0 [.int 3, .int k, c]] = true ∧ Sm.toPs [.tup 0 [.int 3, .int k, c]] = [.tuple [.int 3, .int k, rw'.c]] := ⟨by simp [Sm.dats, Sm.dat, gc.1], by simp [Sm.toPs, Sm.toP, gc.2]⟩
      have t2 : Sm.dats [.tup 0 [.int 2, .int k, b, c]] = true ∧ Sm.toPs [.tup 0 [.int 2, .int k, b, c]] = [.tuple [.int 2, .int k, rw'.v, rw'.c]] := ⟨by simp [Sm.dats, Sm.dat, gb.1, gc.1], by simp [Sm.toPs, Sm.toP, gb.2, gc.2]⟩
      have t1 : Sm.dats [.tup 0 [.int 1, .int k, a]] = true ∧ Sm.toPs [.tup 0 [.int 1, .int k, a]] = [.tuple [.int 1, .int k, rw'.p]] := ⟨by simp [Sm.dats, Sm.dat, ga.1], by simp [Sm.toPs, Sm.toP, ga.2]⟩
      have r1 : Sm.rec1 k rw' = Sm.rec1 k rw' := rfl
      conv at r1 => rhs; unfold Sm.rec1
      cases hcl : rw'.cl with
      | true =>
        rw [hcl] at hget
        rw [hcl, if_pos rfl] at r1
        walk_at "smh"
        obtain ⟨X', e, h1, h2⟩ := nxt _ t3.1 (t3.2.trans r1.symm)
        exact ⟨X', by rw [e], h1, h2⟩
      | false =>
        rw [hcl] at hget
        rw [hcl, if_neg Bool.false_ne_true] at r1
        walk_at "smh"
        refine Sm.eqD_dp gb (q := Sm.nil') (by exact ⟨rfl, rfl⟩) row.v.shaped Sm.bal_nil.shaped ?_
        cases hv : PyData.eqv rw'.v Sm.nil' with
        | true =>
          rw [hv, if_pos rfl, List.nil_append] at r1
          walk_at "smh"
          refine Sm.gtD_dp ga gb row.p row.v ?_
          cases hp : PySem.W.dataLt rw'.v rw'.p with
          | true =>
            rw [hp, if_pos rfl] at r1
            walk_at "smh"
            obtain ⟨X', e, h1, h2⟩ := nxt _ t1.1 (t1.2.trans r1.symm)
            exact ⟨X', by rw [e], h1, h2⟩
          | false =>
            rw [hp, if_neg Bool.false_ne_true] at r1
            walk_at "smh"
            obtain ⟨X', e, h1, h2⟩ := nxt [] rfl (by rw [r1]; simp [Sm.toPs])
            exact ⟨X', by rw [← e, List.append_nil], h1, h2⟩
        | false =>
          rw [hv, if_neg Bool.false_ne_true] at r1
          walk_at "smh"
          have xl2 : ∀ y : Sm.D, (X ++ [y]).length < 100000 := fun y => by rw [List.length_append]; simp only [List.length_cons, List.length_nil]; omega
          refine Sm.gtD_dp ga gb row.p row.v ?_
          cases hp : PySem.W.dataLt rw'.v rw'.p with
          | true =>
            rw [hp, if_pos rfl] at r1
            walk_at "smh"
            obtain ⟨X', e, h1, h2⟩ := nxt ([.tup 0 [.int 2, .int k, b, c]] ++ [.tup 0 [.int 1, .int k, a]]) (by rw [Sm.dats_app, t2.1, t1.1]; rfl) (by rw [Sm.toPs_app, t2.2, t1.2]; exact r1.symm)
            exact ⟨X', by rw [← e, List.append_assoc], h1, h2⟩
          | false =>
            rw [hp, if_neg Bool.false_ne_true, List.append_nil] at r1
            walk_at "smh"
            obtain ⟨X', e, h1, h2⟩ := nxt _ t2.1 (t2.2.trans r1.symm)
            exact ⟨X', by rw [e], h1, h2⟩
    · rintro e s' ⟨X, v2, v3, v4, v5, v6, rfl, rfl, dX, pX⟩
      rw [List.length_map, List.take_length] at pX
      walk_at "sm"
      exact Sm.gc_al dX (q X dX pX)
def FS__law_digits (K : PySem.W.Frag) : Sm.FSp := fun ds s Q => ∃ (c : Int) (n : Nat) (many : Int), ds = [.int c, .int (n : Int), .int many] ∧ n ≤ 1000 ∧ (1 ≤ many ∧ many < 1073741824) ∧ ∀ l : List Int, l.length = n → (∀ x ∈ l, 0 ≤ x ∧ x < many) → Q (.lst 0 (l.map .int)) s

theorem ok__law_digits (T : Txt K mg) : Okf P w K mg base CX0 2 "_law_digits" s__law_digits P__law_digits (Sm.spF K 3 (FS__law_digits K)) := by
  obtain ⟨fd__law_mixed, G__law_mixed, B__law_mixed, _⟩ := ok__law_mixed (P := P) (w := w) (base := base) T
  obtain ⟨fd, F⟩ := T.F__law_digits
  refine ⟨fd, F.ok sc__law_digits (fun vs H Q E h => (Sm.sp_len h).trans rfl) (fun cdv A outer s H vs Q E hr h => ?_), F.bindsN fun _ _ _ _ _ _ us hl => match us, hl with | [_, _, _], _ => rfl, F⟩
  ·
    refine ⟨_, PSs.nox (pss_cons (ps_set (i := 3) sc__law_digits.nd rfl (by first | exact Or.inl rfl | exact Or.inr rfl) (pe_lst pa_nil))
(pss_cons (ps_if (pt_cmpR op_lt (pv 0) (pe_op op_pow pe_int pe_int) (nomark _)) (pss_cons (ps_for PassesOwn.never rfl (pi_range1 rfl T.m_range (pa_cons (pv 1) pa_nil)) (pg_name (i := 4) sc__law_digits.nd rfl (by first | exact Or.inl rfl | exact Or.inr rfl)) (pss_one (ps_expr (pe_bm PySem.F.plainAttrs_list PySem.F.slot_list_append PySem.F.type_list_append mt_append (pv 3) (pa_cons (pe_op op_mod (pe_callTy call_int1 (by rfl) T.m_int (by decide +kernel) (pa_cons (pe_call G__law_mixed (hr.mono (by decide)) rfl T.g__law_mixed T.p__law_mixed B__law_mixed .nil pass0 (pa_cons (pv 0) (pa_cons (pv 4) pa_nil))) pa_nil)) (pv 2)) pa_nil)))))
(pss_one (ps_ret (pv 3)))) pss_nil)
(pss_cons (ps_for PassesOwn.never rfl (pi_range1 rfl T.m_range (pa_cons (pv 1) pa_nil)) (pg_name (i := 4) sc__law_digits.nd rfl (by first | exact Or.inl rfl | exact Or.inr rfl)) (pss_cons (ps_expr (pe_bm PySem.F.plainAttrs_list PySem.F.slot_list_append PySem.F.type_list_append mt_append (pv 3) (pa_cons (pe_op op_mod (pe_callTy call_int1 (by rfl) T.m_int (by decide +kernel) (pa_cons (pv 0) pa_nil)) (pv 2)) pa_nil)))
(pss_one (ps_set (i := 0) sc__law_digits.nd rfl (by first | exact Or.inl rfl | exact Or.inr rfl) (pe_op op_fdiv (pv 0) (pv 2))))))
(pss_one (ps_ret (pv 3)))))), ?_⟩
    try dsimp only [Sm.cxK, Sm.cxK', List.map]
    refine Sm.fn_run inferInstance h ?_
    clear h
    intro ds s Q hl hp
    obtain ⟨c, n, many, rfl, hn, hm, q⟩ := hp
    walk_at "sm"
    refine Sm.al_rf ?_
    refine ⟨⟨by decide, by decide, by decide⟩, ?_⟩
    have hr : (-2 ^ 62 ≤ (n : Int) ∧ (n : Int) < 2 ^ 62) := ⟨by omega, by omega⟩
    have app : ∀ (l : List Int) (i : Nat) (y : Int), l.length = i → (∀ x ∈ l, 0 ≤ x ∧ x < many) → ∃ l' : List Int, (s ++ [(false, Sm.O.lst (l.map .int ++ [.int (y % many)]))] : Sm.S) = s ++ [(false, .lst (l'.map .int))] ∧ l'.length = i + 1 ∧ ∀ x ∈ l', 0 ≤ x ∧ x < many := fun l i y hl hb => ⟨l ++ [y % many], by rw [List.map_append] <;> rfl, by rw [List.length_append, hl] <;> rfl, fun x hx => by
      rcases List.mem_append.mp hx with hx | hx
      · exact hb x hx
      · rw [List.mem_singleton.mp hx]
        exact ⟨Int.emod_nonneg _ (by omega), Int.emod_lt_of_pos _ (by omega)⟩⟩
    have hlen : ∀ (l : List Int) (i : Nat), l.length = i → i < n → (l.map Sm.D.int).length < 100000 := fun l i h1 h2 => by rw [List.length_map]; omega
    cases hc : decide (c < 10 ^ Int.toNat 18) with
    | true =>
      rw [if_pos rfl]
      refine ⟨hr.1, hr.2, fun i e s' => ∃ (l : List Int) (v : Option Sm.D), e = [some (.int c), some (.int n), some (.int many), some (.rf s.length), v] ∧ s' = s ++ [(false, .lst (l.map .int))] ∧ l.length = i ∧ ∀ x ∈ l, 0 ≤ x ∧ x < many, ?_, ?_, ?_⟩
      · exact ⟨[], none, rfl, rfl, rfl, fun x hx => nomatch hx⟩
      · rintro i d e s' hd ⟨l, v, rfl, rfl, hl, hb⟩
        obtain ⟨hi, rfl⟩ := Sm.rng1_at hd
        walk_at "sm"
        refine ⟨c, i, rfl, ⟨by omega, by omega⟩, fun r h0 => ?_⟩
        walk_at "sm"
        exact ⟨by omega, hlen l i hl hi, app l i r hl hb⟩
      · rintro e s' ⟨l, v, rfl, rfl, hl, hb⟩
        rw [Sm.rngD_len] at hl
        walk_at "sm"
        exact Sm.gc_ints (q l hl hb)
    | false =>
      rw [if_neg Bool.false_ne_true]
      refine ⟨hr.1, hr.2, fun i e s' => ∃ (l : List Int) (v : Option Sm.D) (c' : Int), e = [some (.int c'), some (.int n), some (.int many), some (.rf s.length), v] ∧ s' = s ++ [(false, .lst (l.map .int))] ∧ l.length = i ∧ ∀ x ∈ l, 0 ≤ x ∧ x < many, ?_, ?_, ?_⟩
      · exact ⟨[], none, c, rfl, rfl, rfl, fun x hx => nomatch hx⟩
      · rintro i d e s' hd ⟨l, v, c', rfl, rfl, hl, hb⟩
        obtain ⟨hi, rfl⟩ := Sm.rng1_at hd
        walk_at "sm"
        obtain ⟨l', e1, e2, e3⟩ := app l i c' hl hb
        exact ⟨by omega, hlen l i hl hi, ⟨by omega, hm.2⟩, l', e1, e2, e3⟩
      · rintro e s' ⟨l, v, c', rfl, rfl, hl, hb⟩
        rw [Sm.rngD_len] at hl
        walk_at "sm"
        exact Sm.gc_ints (q l hl hb)
def FS_Tally____init__ (K : PySem.W.Frag) : Sm.FSp := fun ds s Q => ∃ (t : Nat) (ld : Sm.D) (rds : List Sm.D) (cs : List Sm.Rc), ds = [.rf t, ld] ∧ s[t]? = some (false, .ins (He.ga K "Tally") []) ∧ Sm.RcsD rds cs ∧ cs.length ≤ 63 ∧ (∀ s' : Sm.S, (∀ j, j ≠ t → j < s.length → s'[j]? = s[j]?) → Sm.lstOf s' ld = some rds) ∧ ∀ s' : Sm.S, (∀ j, j ≠ t → j < s.length → s'[j]? = s[j]?) → s'.length = s.length + 1 → Sm.TyAt K s' t s.length (cs.foldl Sm.stepA []) → Q .non s'

theorem ok_Tally____init__ (T : Txt K mg) : OkM P w K mg base CX0 3 "Tally" "__init__" "Tally.__init__" s_Tally____init__ P_Tally____init__ (Sm.spF K 2 (FS_Tally____init__ K)) := by
  obtain ⟨fd_Tally__apply, G_Tally__apply, B_Tally__apply, _⟩ := ok_Tally__apply (P := P) (w := w) (base := base) T
  obtain ⟨fd, F⟩ := T.F_Tally____init__
  refine ⟨fd, F.ok sc_Tally____init__ (fun vs H Q E h => (Sm.sp_len h).trans rfl) (fun cdv A outer s H vs Q E hr h => ?_), F.bindsN fun _ _ _ _ _ _ us hl => match us, hl with | [_, _], _ => rfl, F⟩
  ·
    refine ⟨_, PSs.nox (pss_cons (ps_fld (pv 0) pe_dnewK rfl)
(pss_one (ps_for PassesOwn.never rfl (pi_listK (K := K) rfl (pv 1)) (pg_name (i := 2) sc_Tally____init__.nd rfl (by first | exact Or.inl rfl | exact Or.inr rfl)) (pss_one (ps_expr (pe_meth (pv 0) T.k_Tally T.mt_Tally__apply G_Tally__apply (hr.mono (by decide)) B_Tally__apply .nil pass0 (pa_cons (pv 2) pa_nil))))))), ?_⟩
    try dsimp only [Sm.cxK, Sm.cxK', List.map]
    refine Sm.fn_run inferInstance h ?_
    clear h
    intro ds s Q hl hp
    obtain ⟨t, ld, rds, cs, rfl, h1, hr, hl2, hld, q⟩ := hp
    have hk := T.k_Tally
    have hn := T.n_Tally__states
    have lt : t < s.length := (List.getElem?_eq_some_iff.mp h1).1
    have h1' : ∀ x, (s ++ [x])[t]? = some (false, .ins (He.ga K "Tally") []) := fun x => by rw [List.getElem?_append_left lt]; exact h1
    have old : ∀ (x y : Bool × Sm.O) (j : Nat), j ≠ t → j < s.length → ((s ++ [x]).set t y)[j]? = s[j]? := fun x y j hj hl => by rw [List.getElem?_set_ne hj.symm, List.getElem?_append_left hl]
    have hld0 := fun x y => hld _ (old x y)
    walk_at "smh"
    rw [Sm.putF0]
    have cl := Sm.rcs_len hr
    refine ⟨by decide, fun i e s' => ∃ v, e = [some (.rf t), some ld, v] ∧ (∀ j, j ≠ t → j < s.length → s'[j]? = s[j]?) ∧ s'.length = s.length + 1 ∧ Sm.TyAt K s' t s.length ((cs.take i).foldl Sm.stepA []), ?_, ?_, ?_⟩
    · refine ⟨none, rfl, old _ _, by rw [List.length_set, List.length_append]; rfl, ?_, [], ?_, .nil⟩
      · exact List.getElem?_set_self (by rw [List.length_append]; omega)
      · rw [List.getElem?_set_ne (by omega)]
        exact Sm.at_last
    · rintro i d e s' hd ⟨v, rfl, g1, g2, g3⟩
      refine ⟨hld s' g1, ?_⟩
      obtain ⟨kk, rd, c, rfl, hc, hrc, hco, _⟩ := Sm.rcs_at hr hd
      have gg := g3.1
      walk_at "sm"
      refine ⟨_, gg, by rfl, t, s.length, kk, _, c, rd, rfl, g3, hrc, hco, Sm.fold_ok _ _ (fun x hx => Sm.rcs_ok hr x (List.mem_of_mem_take hx)) Sm.tl0_ok, ?_, fun s2 k1 k2 k3 => ?_⟩
      · have := Sm.fold_len (cs.take i) []
        have := List.length_take_le' i cs
        have : (cs.take i).length ≤ cs.length := by rw [List.length_take]; omega
        simp only [List.length_nil] at *
        omega
      · refine ⟨fun j hj hl => by rw [k1 j (by omega), g1 j hj hl], by omega, ?_⟩
        rw [Sm.fold_snoc hc]
        exact k3
    · rintro e s' ⟨v, rfl, g1, g2, g3⟩
      refine ⟨hld s' g1, ?_⟩
      rw [cl, List.take_length] at g3
      exact .inl (q s' g1 g2 g3)
def FS__law_same_tally (K : PySem.W.Frag) : Sm.FSp := fun ds s Q => ∃ (t r d : Nat) (A : Sm.Tl), ds = [.rf t, .rf d] ∧ Sm.TyAt K s t r A ∧ Sm.RowsAt s d A ∧ Sm.TlOk A ∧ A.length < 64 ∧ Q (.bl true) s

theorem ok__law_same_tally (T : Txt K mg) : Okf P w K mg base CX0 3 "_law_same_tally" s__law_same_tally P__law_same_tally (Sm.spF K 2 (FS__law_same_tally K)) := by
  obtain ⟨fd_Tally__closed, G_Tally__closed, B_Tally__closed, _⟩ := ok_Tally__closed (P := P) (w := w) (base := base) T
  obtain ⟨fd_Tally__command, G_Tally__command, B_Tally__command, _⟩ := ok_Tally__command (P := P) (w := w) (base := base) T
  obtain ⟨fd_Tally__promised, G_Tally__promised, B_Tally__promised, _⟩ := ok_Tally__promised (P := P) (w := w) (base := base) T
  obtain ⟨fd_Tally__slots, G_Tally__slots, B_Tally__slots, _⟩ := ok_Tally__slots (P := P) (w := w) (base := base) T
  obtain ⟨fd_Tally__voted, G_Tally__voted, B_Tally__voted, _⟩ := ok_Tally__voted (P := P) (w := w) (base := base) T
  obtain ⟨fd, F⟩ := T.F__law_same_tally
  refine ⟨fd, F.ok sc__law_same_tally (fun vs H Q E h => (Sm.sp_len h).trans rfl) (fun cdv A outer s H vs Q E hr h => ?_), F.bindsN fun _ _ _ _ _ _ us hl => match us, hl with | [_, _], _ => rfl, F⟩
  ·
    refine ⟨_, PSs.nox (pss_cons (ps_for PassesOwn.never rfl (pi_listK (K := K) rfl (pe_lst (pa_cons pe_int (pa_cons pe_int (pa_cons pe_int (pa_cons pe_int (pa_cons pe_int (pa_cons pe_int (pa_cons pe_int (pa_cons pe_int (pa_cons pe_int pa_nil))))))))))) (pg_name (i := 2) sc__law_same_tally.nd rfl (by first | exact Or.inl rfl | exact Or.inr rfl)) (pss_cons (ps_set (i := 3) sc__law_same_tally.nd rfl (by first | exact Or.inl rfl | exact Or.inr rfl) (pe_dget2 (hu_of hr) (pv 1) (pv 2) (pe_lst (pa_cons (pe_tup pa_nil) (pa_cons (pe_tup pa_nil) (pa_cons (pe_tup pa_nil) (pa_cons pe_bl pa_nil))))) ⟨rfl, rfl, rfl, rfl⟩))
(pss_cons (ps_if (PW.pt (pw_or (pt_cmpR (op_neDK (K := K) rfl hr.units) (pe_meth (pv 0) T.k_Tally T.mt_Tally__promised G_Tally__promised (hr.mono (by decide)) B_Tally__promised .nil pass0 (pa_cons (pv 2) pa_nil)) (pe_ix (ix_listK (K := K) rfl) (pv 3) pe_int (fun _ _ => rfl)) (nomark _)) (pw_or (pt_cmpR (op_neDK (K := K) rfl hr.units) (pe_meth (pv 0) T.k_Tally T.mt_Tally__voted G_Tally__voted (hr.mono (by decide)) B_Tally__voted .nil pass0 (pa_cons (pv 2) pa_nil)) (pe_ix (ix_listK (K := K) rfl) (pv 3) pe_int (fun _ _ => rfl)) (nomark _)) (pw_or1 (pt_cmpR (op_neDK (K := K) rfl hr.units) (pe_meth (pv 0) T.k_Tally T.mt_Tally__command G_Tally__command (hr.mono (by decide)) B_Tally__command .nil pass0 (pa_cons (pv 2) pa_nil)) (pe_ix (ix_listK (K := K) rfl) (pv 3) pe_int (fun _ _ => rfl)) (nomark _)))))) (pss_one (ps_ret pe_bl)) pss_nil)
(pss_one (ps_if (PW.pt (pw_or (pt_cmpR (op_neDK (K := K) rfl hr.units) (pe_meth (pv 0) T.k_Tally T.mt_Tally__closed G_Tally__closed (hr.mono (by decide)) B_Tally__closed .nil pass0 (pa_cons (pv 2) pa_nil)) (pe_ix (ix_listK (K := K) rfl) (pv 3) pe_int (fun _ _ => rfl)) (nomark _)) (pw_or1 (pt_not (pt_val (pe_callB (call_isiK' (K := K) rfl) (by rfl) T.m_isinstance (by decide +kernel) (pa_cons (pe_meth (pv 0) T.k_Tally T.mt_Tally__closed G_Tally__closed (hr.mono (by decide)) B_Tally__closed .nil pass0 (pa_cons (pv 2) pa_nil)) (pa_cons (pe_bltn (v := .ty "bool") (by rfl) T.m_bool (by decide +kernel) rfl) pa_nil)))))))) (pss_one (ps_ret pe_bl)) pss_nil)))))
(pss_cons (ps_set (i := 4) sc__law_same_tally.nd rfl (by first | exact Or.inl rfl | exact Or.inr rfl) (pe_meth0 (pv 0) T.k_Tally T.mt_Tally__slots G_Tally__slots (hr.mono (by decide)) B_Tally__slots .nil pass0))
(pss_one (ps_ret (pe_and (pe_callB (call_isiK' (K := K) rfl) (by rfl) T.m_isinstance (by decide +kernel) (pa_cons (pv 4) (pa_cons (pe_bltn (v := .ty "list") (by rfl) T.m_list (by decide +kernel) rfl) pa_nil))) (pe_one (pe_cmpR (op_eqDK (K := K) rfl hr.units) (pv 4) (pe_callB (call_srtD rfl) (by rfl) T.m_sorted (by decide +kernel) (pa_cons (pv 1) pa_nil)) (nomark _)))))))), ?_⟩
    try dsimp only [Sm.cxK, Sm.cxK', List.map]
    refine Sm.fn_run inferInstance h ?_
    clear h
    intro ds s Q hl hp
    obtain ⟨t, r, d, A, rfl, h1, h2, ok, hl2, q⟩ := hp
    have g1 := h1.1
    have hk := T.k_Tally
    walk_at "smh"
    refine ⟨fun i e s' => ∃ v2 v3, e = [some (.rf t), some (.rf d), v2, v3, none] ∧ s' = s, ⟨none, none, rfl, rfl⟩, ?_, ?_⟩
    · rintro i x e s' hx ⟨v2, v3, rfl, rfl⟩
      obtain ⟨k, rfl⟩ : ∃ k : Int, x = .int k := by
        have := List.mem_of_getElem? hx
        simp only [List.mem_cons, List.not_mem_nil, or_false] at this
        rcases this with rfl | rfl | rfl | rfl | rfl | rfl | rfl | rfl | rfl <;> exact ⟨_, rfl⟩
      obtain ⟨n, a, b, c, g2, g3, ga, gb, gc⟩ := Sm.rows_read k h2
      have row := ok.row k
      walk_at "smh"
      refine ⟨by rfl, t, r, A, k, rfl, h1, fun x hx => ?_⟩
      walk_at "smh"
      refine Sm.neD_same hx ga row.p.shaped ?_
      walk_at "smh"
      refine ⟨by rfl, t, r, A, k, rfl, h1, fun x hx => ?_⟩
      walk_at "smh"
      refine Sm.neD_same hx gb row.v.shaped ?_
      walk_at "smh"
      refine ⟨by rfl, t, r, A, k, rfl, h1, fun x hx => ?_⟩
      walk_at "smh"
      refine Sm.neD_same hx gc row.c.shaped ?_
      walk_at "smh"
      refine ⟨by rfl, t, r, A, k, rfl, h1, ?_⟩
      walk_at "smh"
      refine Sm.neD_same (Sm.dp_bl _) (Sm.dp_bl _) rfl ?_
      walk_at "smh"
      refine ⟨by rfl, t, r, A, k, rfl, h1, ?_⟩
      walk_at "smh"
    · rintro e s' ⟨v2, v3, rfl, rfl⟩
      walk_at "smh"
      refine ⟨by rfl, t, r, A, rfl, h1, hl2, .inl ?_⟩
      obtain ⟨n, g2, _, _⟩ := Sm.rowsAt_get h2 (k := 0)
      walk_at "smh"
      refine ⟨d, false, _, A.map (·.1), rfl, g2, Sm.rowsK_keys _ _, by rw [List.length_map]; exact hl2, ?_⟩
      refine Sm.eqD_same (Sm.dp_intsL _) (Sm.dp_intsL _) (Sm.shaped_intsL _) ?_
      exact .inl q
def FS__law_record (K : PySem.W.Frag) : Sm.FSp := fun ds s Q => ∃ i : Int, ds = [.int i] ∧ ∀ rd c, Sm.RcD rd c → Sm.RcOk c → Sm.dats rd = true → Q (.tup 0 rd) s

theorem ok__law_record (T : Txt K mg) : Okf P w K mg base CX0 3 "_law_record" s__law_record P__law_record (Sm.spF K 1 (FS__law_record K)) := by
  obtain ⟨fd__law_command, G__law_command, B__law_command, _⟩ := ok__law_command (P := P) (w := w) (base := base) T
  obtain ⟨fd__law_digits, G__law_digits, B__law_digits, _⟩ := ok__law_digits (P := P) (w := w) (base := base) T
  obtain ⟨fd, F⟩ := T.F__law_record
  refine ⟨fd, F.ok sc__law_record (fun vs H Q E h => (Sm.sp_len h).trans rfl) (fun cdv A outer s H vs Q E hr h => ?_), F.bindsN fun _ _ _ _ _ _ us hl => match us, hl with | [_], _ => rfl, F⟩
  ·
    refine ⟨_, PSs.nox (pss_cons (ps_asg (pe_call G__law_digits (hr.mono (by decide)) rfl T.g__law_digits T.p__law_digits B__law_digits .nil pass0 (pa_cons (pv 0) (pa_cons pe_int (pa_cons pe_int pa_nil)))) (pg_unl (n := 3) rfl (pgs_cons (pg_name (i := 1) sc__law_record.nd rfl (by first | exact Or.inl rfl | exact Or.inr rfl)) (pgs_cons (pg_name (i := 2) sc__law_record.nd rfl (by first | exact Or.inl rfl | exact Or.inr rfl)) (pgs_cons (pg_name (i := 3) sc__law_record.nd rfl (by first | exact Or.inl rfl | exact Or.inr rfl)) pgs_nil)))))
(pss_cons (ps_set (i := 4) sc__law_record.nd rfl (by first | exact Or.inl rfl | exact Or.inr rfl) (pe_op op_mod (pv 1) pe_int))
(pss_cons (ps_set (i := 5) sc__law_record.nd rfl (by first | exact Or.inl rfl | exact Or.inr rfl) (pe_ix (ix_listK (K := K) rfl) (pe_lst (pa_cons pe_int (pa_cons pe_int (pa_cons pe_int (pa_cons pe_int (pa_cons pe_int (pa_cons pe_int pa_nil))))))) (pe_op op_mod (pe_op op_fdiv (pv 1) pe_int) pe_int) (fun _ _ => rfl)))
(pss_cons (ps_set (i := 6) sc__law_record.nd rfl (by first | exact Or.inl rfl | exact Or.inr rfl) (pe_tup (pa_cons (pe_ix (ix_listK (K := K) rfl) (pe_lst (pa_cons pe_int (pa_cons pe_int (pa_cons pe_int (pa_cons pe_int pa_nil))))) (pe_op op_mod (pv 2) pe_int) (fun _ _ => rfl)) (pa_cons (pe_ix (ix_listK (K := K) rfl) (pe_lst (pa_cons pe_int (pa_cons pe_int (pa_cons pe_int pa_nil)))) (pe_op op_mod (pe_op op_fdiv (pv 2) pe_int) pe_int) (fun _ _ => rfl)) (pa_cons (pe_ix (ix_listK (K := K) rfl) (pe_lst (pa_cons pe_int (pa_cons pe_int (pa_cons pe_int (pa_cons pe_int pa_nil))))) (pe_op op_mod (pe_op op_fdiv (pv 2) pe_int) pe_int) (fun _ _ => rfl)) pa_nil)))))
(pss_cons (ps_if (pt_cmpR op_eq (pv 4) pe_int (nomark _)) (pss_one (ps_ret (pe_tup (pa_cons pe_int pa_nil)))) pss_nil)
(pss_cons (ps_if (pt_cmpR op_lt (pv 4) pe_int (nomark _)) (pss_one (ps_ret (pe_tup (pa_cons pe_int (pa_cons (pv 5) (pa_cons (pv 6) pa_nil)))))) pss_nil)
(pss_cons (ps_if (pt_cmpR op_lt (pv 4) pe_int (nomark _)) (pss_one (ps_ret (pe_tup (pa_cons pe_int (pa_cons (pv 5) (pa_cons (pv 6) (pa_cons (pe_call G__law_command (hr.mono (by decide)) rfl T.g__law_command T.p__law_command B__law_command .nil pass0 (pa_cons (pv 3) pa_nil)) pa_nil))))))) pss_nil)
(pss_one (ps_ret (pe_tup (pa_cons pe_int (pa_cons (pv 5) (pa_cons (pe_call G__law_command (hr.mono (by decide)) rfl T.g__law_command T.p__law_command B__law_command .nil pass0 (pa_cons (pv 3) pa_nil)) pa_nil))))))))))))), ?_⟩
    try dsimp only [Sm.cxK, Sm.cxK', List.map]
    refine Sm.fn_run inferInstance h ?_
    clear h
    intro ds s Q hl hp
    obtain ⟨i, rfl, q⟩ := hp
    walk_at "smh"
    refine ⟨i, 3, 240, rfl, by decide, by decide, fun l hl hb => ?_⟩
    obtain ⟨a, b, c, rfl⟩ := Sm.len3 hl
    have ha := hb a (by simp)
    have hbb := hb b (by simp)
    have hc := hb c (by simp)
    walk_at "smh"
    obtain ⟨sl, _, e1⟩ := Sm.at_lit (L := [1, 2, 9, 10, 100, 60000]) (i := a / 8 % 6) (by simp; omega)
    obtain ⟨b1, _, e2⟩ := Sm.at_lit (L := [1, 2, 9, 10]) (i := b % 4) (by simp; omega)
    obtain ⟨b2, _, e3⟩ := Sm.at_lit (L := [0, 9, 10]) (i := b / 4 % 3) (by simp; omega)
    obtain ⟨b3, _, e4⟩ := Sm.at_lit (L := [1, 9, 10, 100]) (i := b / 12 % 4) (by simp; omega)
    have bal : Sm.Bal (.tuple [.int b1, .int b2, .int b3]) := ⟨[b1, b2, b3], rfl, Nat.le_refl _⟩
    have bdp : Sm.DP (.tup 0 [.int b1, .int b2, .int b3]) (.tuple [.int b1, .int b2, .int b3]) := ⟨rfl, rfl⟩
    refine ⟨by omega, ⟨by decide, by decide⟩, by omega, _, e1, by omega, _, e2, ⟨by decide, by decide⟩, by omega, _, e3, ⟨by decide, by decide⟩, by omega, _, e4, ?_⟩
    by_cases k0 : a % 8 = 0
    · rw [if_pos (decide_eq_true k0)]
      exact .inl (q _ ⟨0, 0, .none, .none⟩ (.inl ⟨rfl, rfl⟩) ⟨by simp, fun z => absurd rfl z, fun z => (nomatch z), fun z => (nomatch z)⟩ rfl)
    rw [if_neg (by simpa using k0)]
    by_cases k1 : a % 8 < 3
    · rw [if_pos (decide_eq_true k1)]
      exact .inl (q _ ⟨1, sl, _, .none⟩ (.inr (.inl ⟨rfl, _, rfl, bdp⟩)) ⟨by simp, fun _ _ => bal, fun z => (nomatch z), fun z => (nomatch z)⟩ rfl)
    rw [if_neg (by simpa using k1)]
    by_cases k2 : a % 8 < 7
    · rw [if_pos (decide_eq_true k2)]
      refine ⟨c, rfl, fun d p hd hp => ?_⟩
      exact .inl (q _ ⟨2, sl, _, p⟩ (.inr (.inr (.inl ⟨rfl, _, _, rfl, bdp, hd⟩))) ⟨by simp, fun _ _ => bal, fun _ => hp, fun z => (nomatch z)⟩ (by simp [Sm.dats, Sm.dat, hd.1]))
    rw [if_neg (by simpa using k2)]
    refine ⟨c, rfl, fun d p hd hp => ?_⟩
    exact .inl (q _ ⟨3, sl, p, .none⟩ (.inr (.inr (.inr ⟨rfl, _, rfl, hd⟩))) ⟨by simp, fun _ z => absurd rfl z, fun z => (nomatch z), fun _ => hp⟩ (by simp [Sm.dats, Sm.dat, hd.1]))
def sp_law (K : PySem.W.Frag) : Sp := fun vs H Q _ => ∃ (a : Addr) (ns : List Int), vs = [.ref a] ∧ SqL K H a (ns.map V.int) ∧ ns.length ≤ 63 ∧ ∀ H', Q (.bl true) H'

theorem ok_law (T : Txt K mg) : Okf P w K mg base CX0 5 "law" s_law P_law (sp_law K) := by
  obtain ⟨fd_Tally____init__, G_Tally____init__, B_Tally____init__, _⟩ := ok_Tally____init__ (P := P) (w := w) (base := base) T
  obtain ⟨fd_Tally__apply, G_Tally__apply, B_Tally__apply, _⟩ := ok_Tally__apply (P := P) (w := w) (base := base) T
  obtain ⟨fd_Tally__records, G_Tally__records, B_Tally__records, _⟩ := ok_Tally__records (P := P) (w := w) (base := base) T
  obtain ⟨fd_Tally__slots, G_Tally__slots, B_Tally__slots, _⟩ := ok_Tally__slots (P := P) (w := w) (base := base) T
  obtain ⟨fd__law_apply, G__law_apply, B__law_apply, _⟩ := ok__law_apply (P := P) (w := w) (base := base) T
  obtain ⟨fd__law_ballot, G__law_ballot, B__law_ballot, _⟩ := ok__law_ballot (P := P) (w := w) (base := base) T
  obtain ⟨fd__law_cell, G__law_cell, B__law_cell, _⟩ := ok__law_cell (P := P) (w := w) (base := base) T
  obtain ⟨fd__law_is_integer, G__law_is_integer, B__law_is_integer, _⟩ := ok__law_is_integer (P := P) (w := w) (base := base) T
  obtain ⟨fd__law_record, G__law_record, B__law_record, _⟩ := ok__law_record (P := P) (w := w) (base := base) T
  obtain ⟨fd__law_records, G__law_records, B__law_records, _⟩ := ok__law_records (P := P) (w := w) (base := base) T
  obtain ⟨fd__law_same_tally, G__law_same_tally, B__law_same_tally, _⟩ := ok__law_same_tally (P := P) (w := w) (base := base) T
  obtain ⟨fd_majority, G_majority, B_majority, _⟩ := ok_majority (P := P) (w := w) (base := base) T
  obtain ⟨fd_next_ballot, G_next_ballot, B_next_ballot, _⟩ := ok_next_ballot (P := P) (w := w) (base := base) T
  obtain ⟨fd, F⟩ := T.F_law
  refine ⟨fd, F.ok sc_law (fun vs H Q E h => ?_) (fun cdv A outer s H vs Q E hr h => ?_), F.bindsN fun _ _ _ _ _ _ us hl => match us, hl with | [_], _ => rfl, F⟩
  · obtain ⟨p, ns, rfl, hS, hl, k⟩ := h
    rfl
  · obtain ⟨p, ns, rfl, hS, hl, k⟩ := h
    refine ⟨_, PSs.nox (pss_cons (ps_set (i := 1) sc_law.nd rfl (by first | exact Or.inl rfl | exact Or.inr rfl) (pe_op op_add pe_int (pe_op op_mod (pe_callTy call_int1 (by rfl) T.m_int (by decide +kernel) (pa_cons (pe_call G__law_cell (hr.mono (by decide)) rfl T.g__law_cell T.p__law_cell B__law_cell .nil pass0 (pa_cons (pv 0) (pa_cons pe_int pa_nil))) pa_nil)) pe_int)))
(pss_cons (ps_if (PW.pt (pw_or (pt_not (pt_val (pe_call G__law_is_integer (hr.mono (by decide)) rfl T.g__law_is_integer T.p__law_is_integer B__law_is_integer .nil pass0 (pa_cons (pe_call G_majority (hr.mono (by decide)) rfl T.g_majority T.p_majority B_majority .nil pass0 (pa_cons (pv 1) pa_nil)) pa_nil)))) (pw_or1 (pt_cmpR op_ne (pe_call G_majority (hr.mono (by decide)) rfl T.g_majority T.p_majority B_majority .nil pass0 (pa_cons (pv 1) pa_nil)) (pe_op op_add (pe_op op_fdiv (pv 1) pe_int) pe_int) (nomark _))))) (pss_one (ps_ret pe_bl)) pss_nil)
(pss_cons (ps_set (i := 2) sc_law.nd rfl (by first | exact Or.inl rfl | exact Or.inr rfl) (pe_call G__law_ballot (hr.mono (by decide)) rfl T.g__law_ballot T.p__law_ballot B__law_ballot .nil pass0 (pa_cons (pe_call G__law_cell (hr.mono (by decide)) rfl T.g__law_cell T.p__law_cell B__law_cell .nil pass0 (pa_cons (pv 0) (pa_cons pe_int pa_nil))) pa_nil)))
(pss_cons (ps_par (i := 3) (j := 4) (by rfl) sc_law.nd rfl rfl (by decide) rfl rfl (pa_cons (pe_op op_mod (pe_op op_fdiv (pe_callTy call_int1 (by rfl) T.m_int (by decide +kernel) (pa_cons (pe_call G__law_cell (hr.mono (by decide)) rfl T.g__law_cell T.p__law_cell B__law_cell .nil pass0 (pa_cons (pv 0) (pa_cons pe_int pa_nil))) pa_nil)) pe_int) pe_int) (pa_cons (pe_op op_add pe_int (pe_op op_mod (pe_op op_fdiv (pe_callTy call_int1 (by rfl) T.m_int (by decide +kernel) (pa_cons (pe_call G__law_cell (hr.mono (by decide)) rfl T.g__law_cell T.p__law_cell B__law_cell .nil pass0 (pa_cons (pv 0) (pa_cons pe_int pa_nil))) pa_nil)) pe_int) pe_int)) pa_nil)) (by rfl))
(pss_cons (ps_set (i := 5) sc_law.nd rfl (by first | exact Or.inl rfl | exact Or.inr rfl) (pe_tup (pa_cons pe_int (pa_cons (pv 3) (pa_cons (pv 4) pa_nil)))))
(pss_cut (ps_if (pt_cmpR (op_neDK (K := K) rfl hr.units) (pv 2) (pe_tup pa_nil) (nomark _)) (pss_one (ps_set (i := 5) sc_law.nd rfl (by first | exact Or.inl rfl | exact Or.inr rfl) (pe_tup (pa_cons (pe_op op_add (pe_ix (ix_tupK (K := K) rfl) (pv 2) pe_int (fun _ _ => rfl)) pe_int) (pa_cons (pv 3) (pa_cons (pv 4) pa_nil)))))) pss_nil)
(pss_cons (ps_if (pt_cmpR (op_neDK (K := K) rfl hr.units) (pe_call G_next_ballot (hr.mono (by decide)) rfl T.g_next_ballot T.p_next_ballot B_next_ballot .nil pass0 (pa_cons (pv 2) (pa_cons (pv 3) (pa_cons (pv 4) pa_nil)))) (pv 5) (nomark _)) (pss_one (ps_ret pe_bl)) pss_nil)
(pss_cons (ps_setLc (i := 6) (own := [("cell", 7)]) (g := gName 7) (tt := tYes) (by rfl) sc_law.nd rfl rfl (sw_true rfl rfl rfl (by decide +kernel)) (pi_listK (K := K) rfl (pe_slice (sl_listK (K := K) rfl) (pv 0) (po_some pe_int) (po_some pe_int))) (blkOk_by (own := [("cell", 7)]) (N := N_law) (sc := defScope s_law) (by decide +kernel)) (fun _ _ _ _ _ => (pg_name (i := 7) sc_law.nd rfl (by first | exact Or.inl rfl | exact Or.inr rfl))) (fun _ _ _ _ _ => pts_nil) (fun _ _ _ _ _ => (pe_call G__law_record (hr.mono (by decide)) rfl T.g__law_record T.p__law_record B__law_record .nil pass0 (pa_cons (pv 7) pa_nil))))
(pss_cons (ps_set (i := 8) sc_law.nd rfl (by first | exact Or.inl rfl | exact Or.inr rfl) (pe_callTy (call_list_ofK (K := K) rfl) (by rfl) T.m_list (by decide +kernel) (pa_cons (pv 6) pa_nil)))
(pss_cut (ps_par (i := 9) (j := 10) (by rfl) sc_law.nd rfl rfl (by decide) rfl rfl (pa_cons (pe_make T.mk_Tally G_Tally____init__ (hr.mono (by decide)) (by rfl) T.g_Tally B_Tally____init__ .nil pass0 (pa_cons (pe_lst pa_nil) pa_nil)) (pa_cons pe_dnewK pa_nil)) (by rfl))
(pss_cut (ps_par (i := 11) (j := 12) (by rfl) sc_law.nd rfl rfl (by decide) rfl rfl (pa_cons (pe_make T.mk_Tally G_Tally____init__ (hr.mono (by decide)) (by rfl) T.g_Tally B_Tally____init__ .nil pass0 (pa_cons (pe_lst pa_nil) pa_nil)) (pa_cons pe_dnewK pa_nil)) (by rfl))
(pss_cut (ps_for PassesOwn.never rfl (pi_listK (K := K) rfl (pv 6)) (pg_name (i := 13) sc_law.nd rfl (by first | exact Or.inl rfl | exact Or.inr rfl)) (pss_cons (ps_if (pt_cmpR op_notN (pe_meth (pv 9) T.k_Tally T.mt_Tally__apply G_Tally__apply (hr.mono (by decide)) B_Tally__apply .nil pass0 (pa_cons (pv 13) pa_nil)) pe_non (nomark _)) (pss_one (ps_ret pe_bl)) pss_nil)
(pss_cons (ps_expr (pe_call G__law_apply (hr.mono (by decide)) rfl T.g__law_apply T.p__law_apply B__law_apply .nil pass0 (pa_cons (pv 10) (pa_cons (pv 13) pa_nil))))
(pss_one (ps_if (pt_not (pt_val (pe_call G__law_same_tally (hr.mono (by decide)) rfl T.g__law_same_tally T.p__law_same_tally B__law_same_tally .nil pass0 (pa_cons (pv 9) (pa_cons (pv 10) pa_nil))))) (pss_one (ps_ret pe_bl)) pss_nil)))))
(pss_cut (ps_set (i := 14) sc_law.nd rfl (by first | exact Or.inl rfl | exact Or.inr rfl) (pe_make T.mk_Tally G_Tally____init__ (hr.mono (by decide)) (by rfl) T.g_Tally B_Tally____init__ .nil pass0 (pa_cons (pv 8) pa_nil)))
(pss_cons (ps_if (PW.pt (pw_or (pt_not (pt_val (pe_call G__law_same_tally (hr.mono (by decide)) rfl T.g__law_same_tally T.p__law_same_tally B__law_same_tally .nil pass0 (pa_cons (pv 14) (pa_cons (pv 10) pa_nil))))) (pw_or (pt_not (pt_val (pe_call G__law_same_tally (hr.mono (by decide)) rfl T.g__law_same_tally T.p__law_same_tally B__law_same_tally .nil pass0 (pa_cons (pv 11) (pa_cons (pv 12) pa_nil))))) (pw_or1 (pt_cmpR (op_neDK (K := K) rfl hr.units) (pv 8) (pv 6) (nomark _)))))) (pss_one (ps_ret pe_bl)) pss_nil)
(pss_cons (ps_for PassesOwn.never rfl (pi_range1 rfl T.m_range (pa_cons pe_int pa_nil)) (pg_name (i := 15) sc_law.nd rfl (by first | exact Or.inl rfl | exact Or.inr rfl)) (pss_cons (ps_set (i := 16) sc_law.nd rfl (by first | exact Or.inl rfl | exact Or.inr rfl) (pe_meth0 (pv 14) T.k_Tally T.mt_Tally__records G_Tally__records (hr.mono (by decide)) B_Tally__records .nil pass0))
(pss_cons (ps_if (PW.pt (pw_or (pt_not (pt_val (pe_callB (call_isiK' (K := K) rfl) (by rfl) T.m_isinstance (by decide +kernel) (pa_cons (pv 16) (pa_cons (pe_bltn (v := .ty "list") (by rfl) T.m_list (by decide +kernel) rfl) pa_nil))))) (pw_or1 (pt_cmpR (op_neDK (K := K) rfl hr.units) (pv 16) (pe_call G__law_records (hr.mono (by decide)) rfl T.g__law_records T.p__law_records B__law_records .nil pass0 (pa_cons (pv 10) pa_nil)) (nomark _))))) (pss_one (ps_ret pe_bl)) pss_nil)
(pss_cons (ps_expr (pe_bm PySem.F.plainAttrs_list PySem.F.slot_list_append PySem.F.type_list_append mt_append (pv 16) (pa_cons (pe_tup (pa_cons pe_int (pa_cons pe_int (pa_cons (pe_tup pa_nil) pa_nil)))) pa_nil)))
(pss_cons (ps_set (i := 17) sc_law.nd rfl (by first | exact Or.inl rfl | exact Or.inr rfl) (pe_meth0 (pv 14) T.k_Tally T.mt_Tally__slots G_Tally__slots (hr.mono (by decide)) B_Tally__slots .nil pass0))
(pss_one (ps_expr (pe_bm PySem.F.plainAttrs_list PySem.F.slot_list_append PySem.F.type_list_append mt_append (pv 17) (pa_cons pe_int pa_nil)))))))))
(pss_cons (ps_expr (pe_bm PySem.F.plainAttrs_list PySem.F.slot_list_append PySem.F.type_list_append mt_append (pv 8) (pa_cons (pe_tup (pa_cons pe_int (pa_cons pe_int (pa_cons (pe_tup (pa_cons pe_str pa_nil)) pa_nil)))) pa_nil)))
(pss_one (ps_ret (pe_and (pe_call G__law_same_tally (hr.mono (by decide)) rfl T.g__law_same_tally T.p__law_same_tally B__law_same_tally .nil pass0 (pa_cons (pv 14) (pa_cons (pv 10) pa_nil))) (pe_one (pe_call G__law_same_tally (hr.mono (by decide)) rfl T.g__law_same_tally T.p__law_same_tally B__law_same_tally .nil pass0 (pa_cons (pv 9) (pa_cons (pv 10) pa_nil))))))))))))))))))))))), ?_⟩
    try dsimp only [Sm.cxK, Sm.cxK', List.map]
    refine Sm.law_run inferInstance hS k ?_
    intro j
    walk_at "sm"
    refine ⟨_, 0, ns, rfl, ?_⟩
    walk_at "sm"
    refine ⟨by omega, _, rfl, _, rfl, ?_⟩
    walk_at "sm"
    refine ⟨_, rfl, ⟨by decide, by decide⟩, ?_⟩
    walk_at "sm"
    refine ⟨_, 1, ns, rfl, _, rfl, fun b hb => ?_⟩
    walk_at "sm"
    refine ⟨_, 0, ns, rfl, ?_⟩
    walk_at "sm"
    refine ⟨⟨by decide, by decide⟩, by omega, _, 1, ns, rfl, ?_⟩
    walk_at "sm"
    refine ⟨⟨by decide, by decide⟩, by omega, ?_⟩
    generalize ns.getD 0 0 / 99 % 16 = po
    generalize 1 + ns.getD 1 0 / 60 % 60000 = li
    generalize 1 + ns.getD 0 0 % 99 = cn
    refine ⟨fun e s => s = [] ∧ e = [some (.lst (j + 1) (ns.map .int)), some (.int cn), some (.tup 0 (b.map .int)), some (.int po), some (.int li), some (.tup 0 [.int (Sm.bnx b), .int po, .int li]), none, none, none, none, none, none, none, none, none, none, none, none], ?_, ?_⟩
    · refine Sm.eqD_dp (Sm.dp_ints b) (Sm.dp_ints []) (Sm.shaped_ints b) (Sm.shaped_ints []) ?_
      cases b with
      | nil => exact ⟨false, rfl, rfl, rfl⟩
      | cons x b =>
        refine ⟨true, rfl, ?_⟩
        exact ⟨_, Sm.atI0, x, rfl, rfl, rfl⟩
    rintro e s ⟨rfl, rfl⟩
    walk_at "sm"
    refine ⟨0, b, po, li, rfl, hb, ?_⟩
    refine Sm.neD_same (p := .tuple [.int (Sm.bnx b), .int po, .int li]) ⟨rfl, rfl⟩ ⟨rfl, rfl⟩ (Sm.shaped_ints [Sm.bnx b, po, li]) ?_
    generalize Sm.bnx b = z
    refine ⟨false, rfl, ?_⟩
    obtain ⟨sc, esc, hsc⟩ := Sm.cut_ints ns (some 2) (some 32)
    simp only [Sm.fLc, Sm.fiList]
    walk_at "sm"
    rw [esc]
    refine ⟨by rw [List.length_map]; omega, fun i acc s' => s' = [] ∧ ∃ cs, Sm.RcsD acc cs ∧ cs.length = i, ⟨rfl, [], .nil, rfl⟩, ?_, ?_⟩
    · rintro i d acc s' hd hl2 ⟨rfl, cs, hcs, hl3⟩
      obtain ⟨k, rfl, _⟩ := Sm.ints_at hd
      walk_at "sm"
      exact ⟨k, rfl, fun rd c h1 h2 h3 => ⟨rfl, _, Sm.rcs_app h1 h2 h3 hcs, by rw [List.length_append, hl3]; rfl⟩⟩
    rintro rds s' ⟨rfl, cs, hcs, hl3⟩
    rw [List.length_map] at hl3
    have hcl : cs.length ≤ 63 := by omega
    refine Sm.al_val ?_
    walk_at "sm"
    refine Sm.al_rf ?_
    walk_at "sm"
    refine ⟨fun e s => e = [some (.lst (j + 1) (ns.map .int)), some (.int cn), some (.tup 0 (b.map .int)), some (.int po), some (.int li), some (.tup 0 [.int z, .int po, .int li]), some (.lst 0 rds), none, some (.rf 0), some (.rf 1), some (.rf 3), none, none, none, none, none, none, none] ∧ s = [(false, .lst rds), Sm.insT K 2, (false, .dct []), (false, .dct [])], ?_, ?_⟩
    · refine ⟨1, .lst 0 [], [], [], rfl, rfl, .nil, Nat.zero_le _, fun _ _ => rfl, fun s' g1 g2 g3 => ⟨rfl, ?_⟩⟩
      obtain ⟨g4, kvs, g5, g6⟩ := g3
      obtain rfl := Sm.stp_nil g6
      obtain rfl := Sm.ext_two (s := [(false, .lst rds)]) g1 g2 g4 g5
      exact ⟨rfl, rfl⟩
    rintro e s ⟨rfl, rfl⟩
    walk_at "sm"
    refine ⟨fun e s => e = [some (.lst (j + 1) (ns.map .int)), some (.int cn), some (.tup 0 (b.map .int)), some (.int po), some (.int li), some (.tup 0 [.int z, .int po, .int li]), some (.lst 0 rds), none, some (.rf 0), some (.rf 1), some (.rf 3), some (.rf 4), some (.rf 6), none, none, none, none, none] ∧ s = Sm.pre7 K rds [] [], ?_, ?_⟩
    · refine ⟨4, .lst 0 [], [], [], rfl, rfl, .nil, Nat.zero_le _, fun _ _ => rfl, fun s' g1 g2 g3 => ⟨rfl, ?_⟩⟩
      obtain ⟨g4, kvs, g5, g6⟩ := g3
      obtain rfl := Sm.stp_nil g6
      obtain rfl := Sm.ext_two (s := [(false, .lst rds), Sm.insT K 2, (false, .dct []), (false, .dct [])]) g1 g2 g4 g5
      exact ⟨rfl, rfl⟩
    rintro e s ⟨rfl, rfl⟩
    walk_at "sm"
    have okc := Sm.rcs_ok hcs
    have clen := Sm.rcs_len hcs
    have okA : ∀ i, Sm.TlOk ((cs.take i).foldl Sm.stepA []) := fun i => Sm.fold_ok _ _ (fun x hx => okc x (List.mem_of_mem_take hx)) Sm.tl0_ok
    have lnA : ∀ i, ((cs.take i).foldl Sm.stepA []).length < 64 := fun i => by
      have := Sm.fold_len (cs.take i) []
      have : (cs.take i).length ≤ cs.length := by rw [List.length_take]; omega
      simp only [List.length_nil] at *
      omega
    refine ⟨fun e s => ∃ v13 kvs os, e = [some (.lst (j + 1) (ns.map .int)), some (.int cn), some (.tup 0 (b.map .int)), some (.int po), some (.int li), some (.tup 0 [.int z, .int po, .int li]), some (.lst 0 rds), none, some (.rf 0), some (.rf 1), some (.rf 3), some (.rf 4), some (.rf 6), v13, none, none, none, none] ∧ s = Sm.pre7 K rds kvs (cs.foldl Sm.stepA []) ++ os ∧ Sm.StP kvs (cs.foldl Sm.stepA []) ∧ Sm.RoP os (cs.foldl Sm.stepA []), ?_, ?_⟩
    · refine ⟨fun i e s => ∃ v13 kvs os, e = [some (.lst (j + 1) (ns.map .int)), some (.int cn), some (.tup 0 (b.map .int)), some (.int po), some (.int li), some (.tup 0 [.int z, .int po, .int li]), some (.lst 0 rds), none, some (.rf 0), some (.rf 1), some (.rf 3), some (.rf 4), some (.rf 6), v13, none, none, none, none] ∧ s = Sm.pre7 K rds kvs ((cs.take i).foldl Sm.stepA []) ++ os ∧ Sm.StP kvs ((cs.take i).foldl Sm.stepA []) ∧ Sm.RoP os ((cs.take i).foldl Sm.stepA []), ⟨none, [], [], rfl, rfl, .nil, .nil⟩, ?_, ?_⟩
      · rintro i d e s hd ⟨v13, kvs, os, rfl, rfl, hst, hro⟩
        obtain ⟨kk, rd, c, rfl, hc, hrc, hco, _⟩ := Sm.rcs_at hcs hd
        walk_at "sm"
        have l1 : ((cs.take i).foldl Sm.stepA []).length < 1000 := by have := lnA i; omega
        refine ⟨_, rfl, by rfl, 1, 2, kk, _, c, rd, rfl, ⟨rfl, kvs, rfl, hst⟩, hrc, hco, okA i, l1, fun s2 g1 g2 g3 => ?_⟩
        obtain ⟨g4, kvs2, g5, g6⟩ := g3
        obtain rfl := Sm.ext_set g1 g2 g5
        walk_at "sm"
        refine ⟨3, kk, _, c, rd, Sm.pre7 K rds kvs2 ((cs.take i).foldl Sm.stepA []), os, rfl, rfl, rfl, hro, hrc, hco, okA i, l1, fun os' hro' => ?_⟩
        have ok1 := okA (i + 1)
        have ln1 := lnA (i + 1)
        rw [Sm.fold_snoc hc] at ok1 ln1 ⊢
        refine ⟨1, 2, 3, Sm.stepA ((cs.take i).foldl Sm.stepA []) c, rfl, ⟨rfl, kvs2, rfl, g6⟩, Sm.rowsAt_of (pre := Sm.pre7 K rds kvs2 (Sm.stepA ((cs.take i).foldl Sm.stepA []) c)) rfl hro', ok1, ln1, ?_⟩
        walk_at "sm"
        exact ⟨kvs2, os', rfl, g6, hro'⟩
      · rintro e s ⟨v13, kvs, os, rfl, rfl, hst, hro⟩
        rw [clen, List.take_length] at hst hro
        rw [clen, List.take_length]
        exact ⟨trivial, v13, kvs, os, rfl, rfl, hst, hro⟩
    rintro e s ⟨v13, kvs, os, rfl, rfl, hst, hro⟩
    have ok1 := okA cs.length
    have ln1 := lnA cs.length
    rw [List.take_length] at ok1 ln1
    walk_at "sm"
    generalize hA : cs.foldl Sm.stepA [] = A at *
    refine ⟨fun e s => ∃ kvs2, e = [some (.lst (j + 1) (ns.map .int)), some (.int cn), some (.tup 0 (b.map .int)), some (.int po), some (.int li), some (.tup 0 [.int z, .int po, .int li]), some (.lst 0 rds), none, some (.rf 0), some (.rf 1), some (.rf 3), some (.rf 4), some (.rf 6), v13, some (.rf (Sm.pre7 K rds kvs A ++ os).length), none, none, none] ∧ s = (Sm.pre7 K rds kvs A ++ os) ++ [Sm.insT K ((Sm.pre7 K rds kvs A ++ os).length + 1), (false, .dct kvs2)] ∧ Sm.StP kvs2 A, ?_, ?_⟩
    · refine ⟨_, .rf 0, rds, cs, rfl, Sm.at_last, hcs, hcl, fun s' g => ?_, fun s' g1 g2 g3 => ⟨rfl, ?_⟩⟩
      · have := g 0 (by simp [Sm.pre7]) (by simp [Sm.pre7])
        exact Sm.lstOf_r this
      · rw [hA] at g3
        obtain ⟨g4, kvs2, g5, g6⟩ := g3
        obtain rfl := Sm.ext_two g1 g2 g4 g5
        refine ⟨kvs2, rfl, ?_, g6⟩
        unfold Sm.insT
        rw [List.length_append (as := Sm.pre7 K rds kvs A ++ os)]
        rfl
    rintro e s ⟨kvs2, rfl, rfl, hst2⟩
    have ra : Sm.RowsAt (Sm.pre7 K rds kvs A ++ os) 3 A := Sm.rowsAt_of (pre := Sm.pre7 K rds kvs A) rfl hro
    have r0 : Sm.RowsAt (Sm.pre7 K rds kvs A ++ os) 6 [] := ⟨0, rfl, fun j a e => by simp at e⟩
    have t1 : Sm.TyAt K (Sm.pre7 K rds kvs A ++ os) 1 2 A := ⟨rfl, kvs, rfl, hst⟩
    have t0 : Sm.TyAt K (Sm.pre7 K rds kvs A ++ os) 4 5 [] := ⟨rfl, [], rfl, .nil⟩
    have z0 : (Sm.pre7 K rds kvs A ++ os)[0]? = some (false, .lst rds) := rfl
    have rr : (Sm.pre7 K rds kvs A ++ os)[3]? = some (false, .dct (Sm.rowsK 7 A)) ∧ ∀ (j : Nat) (a : Int × Sm.Rw), A[j]? = some a → ∃ ds, (Sm.pre7 K rds kvs A ++ os)[7 + j]? = some (false, .lst ds) ∧ Sm.RwD ds a.2 := by
      refine ⟨rfl, fun j a e => ?_⟩
      obtain ⟨ds, h1, h2⟩ := Sm.rop_at hro e
      refine ⟨ds, ?_, h2⟩
      rw [List.getElem?_append_right (by simp [Sm.pre7])]
      simpa [Sm.pre7] using h1
    generalize Sm.pre7 K rds kvs A ++ os = B at *
    have tw : Sm.TyAt K (B ++ [Sm.insT K (B.length + 1), (false, .dct kvs2)]) B.length (B.length + 1) A := ⟨by rw [List.getElem?_append_right (Nat.le_refl _), Nat.sub_self]; rfl, kvs2, by rw [List.getElem?_append_right (by omega)]; simp, hst2⟩
    walk_at "sm"
    refine ⟨_, _, 3, A, rfl, tw, Sm.rowsAt_app ra, ok1, ln1, ?_⟩
    walk_at "sm"
    refine ⟨4, 5, 6, [], rfl, Sm.tyAt_app t0, Sm.rowsAt_app r0, Sm.tl0_ok, by decide, ?_⟩
    walk_at "sm"
    have hs := Sm.sh_list (Sm.rcs_sh hcs) (by decide)
    refine Sm.neD_rf (X := rds) (Sm.lstOf_r (b := false) ?_) (Sm.rcs_dats hcs) (Sm.rcs_dats hcs) rfl hs ?_
    · rw [List.getElem?_append_left (List.getElem?_eq_some_iff.mp z0).1]
      exact z0
    walk_at "sm"
    have bl : 0 < B.length := (List.getElem?_eq_some_iff.mp z0).1
    have z0' : ∀ g, (B ++ [Sm.insT K (B.length + 1), (false, .dct kvs2)] ++ g)[0]? = some (false, .lst rds) := fun g => by
      rw [List.getElem?_append_left (by rw [List.length_append]; omega), List.getElem?_append_left bl]
      exact z0
    have ra' := Sm.rowsAt_app (g := [Sm.insT K (B.length + 1), (false, .dct kvs2)]) ra
    have t1' := Sm.tyAt_app (g := [Sm.insT K (B.length + 1), (false, .dct kvs2)]) t1
    have rr' : ∀ g, (B ++ [Sm.insT K (B.length + 1), (false, .dct kvs2)] ++ g)[3]? = some (false, .dct (Sm.rowsK 7 A)) ∧ ∀ (j : Nat) (a : Int × Sm.Rw), A[j]? = some a → ∃ ds, (B ++ [Sm.insT K (B.length + 1), (false, .dct kvs2)] ++ g)[7 + j]? = some (false, .lst ds) ∧ Sm.RwD ds a.2 := fun g => by
      obtain ⟨h1, h2⟩ := rr
      rw [List.append_assoc]
      refine ⟨by rw [List.getElem?_append_left (List.getElem?_eq_some_iff.mp h1).1]; exact h1, fun j a e => ?_⟩
      obtain ⟨ds, h3, h4⟩ := h2 j a e
      exact ⟨ds, by rw [List.getElem?_append_left (List.getElem?_eq_some_iff.mp h3).1]; exact h3, h4⟩
    generalize hn : B.length = n at tw z0' ra' t1' rr' bl ⊢
    generalize hC : B ++ [Sm.insT K (n + 1), (false, .dct kvs2)] = C at tw z0' ra' t1' rr' ⊢
    clear z0 ra r0 t1 t0 rr hC hn
    refine ⟨by decide, by decide, fun i e s => ∃ v15 v16 v17 g, e = [some (.lst (j + 1) (ns.map .int)), some (.int cn), some (.tup 0 (b.map .int)), some (.int po), some (.int li), some (.tup 0 [.int z, .int po, .int li]), some (.lst 0 rds), none, some (.rf 0), some (.rf 1), some (.rf 3), some (.rf 4), some (.rf 6), v13, some (.rf n), v15, v16, v17] ∧ s = C ++ g, ⟨none, none, none, [], rfl, by rw [List.append_nil]⟩, ?_, ?_⟩
    · rintro i d e s hd ⟨v15, v16, v17, g, rfl, rfl⟩
      refine ⟨trivial, ?_⟩
      have tg : ∀ x, Sm.TyAt K (C ++ g ++ [x]) n (n + 1) A := fun x => Sm.tyAt_app (Sm.tyAt_app tw)
      walk_at "sm"
      refine ⟨_, (Sm.tyAt_app tw).1, by rfl, n, n + 1, A, rfl, Sm.tyAt_app tw, ok1, ln1, fun X hX pX => .inr ?_⟩
      have xl : X.length < 100000 := by
        have h1 := Sm.toPs_len X
        have h2 := Sm.recP_len A
        rw [← pX] at h2
        omega
      walk_at "sm"
      refine ⟨_, Sm.tyD_rl Sm.at_last, _, Sm.kit_ll, ?_⟩
      walk_at "sm"
      refine ⟨3, A, rfl, Sm.rowsAt_app (Sm.rowsAt_app ra'), ok1, ln1, fun Y hY pY => ?_⟩
      refine Sm.neD_rf (X := X) (Sm.lstOf_r Sm.at_last) hX hY (pX.trans pY.symm) (by rw [pY]; exact Sm.recP_sh ok1) ?_
      walk_at "smh"
      refine ⟨_, (tg _).1, by rfl, n, n + 1, A, rfl, tg _, ln1, .inr ?_⟩
      refine ⟨⟨_, Sm.lstOf_r Sm.at_last⟩, _, rfl, _, Sm.at_last, ?_, ?_⟩
      · rw [List.length_map, Sm.srtI_len, List.length_map]; omega
      · exact ⟨_, by rw [Sm.set_last, List.append_assoc, List.append_assoc]⟩
    · rintro e s ⟨v15, v16, v17, g, rfl, rfl⟩
      refine ⟨trivial, ?_⟩
      have zz := z0' g
      walk_at "smh"
      refine ⟨by omega, n, n + 1, 3, A, rfl, Sm.tyAt_set (Sm.tyAt_app tw) (by omega) (by omega), Sm.rowsAt_set (rr' g) (by omega) (by omega), ok1, ln1, ?_⟩
      walk_at "sm"
      exact ⟨1, 2, 3, A, rfl, Sm.tyAt_set (Sm.tyAt_app t1') (by omega) (by omega), Sm.rowsAt_set (rr' g) (by omega) (by omega), ok1, ln1, rfl⟩
end
theorem txt_of {w : World} {K : PySem.W.Frag} {h h2 : Heap} {mg : Str → Option Value} (X : K.In h) (G : h.Ns mainGlobals mg) (c : He.SaysX fa fn [] [] exB w h2 K) : Txt K mg :=
  ⟨(He.glo_ok X G (c.t.d.fact 0 (f := .glo "Tally") rfl)),
   (He.cls_ok (c.t.d.fact 1 (f := .cls "Tally") rfl)),
   (He.mkr_ok (c.t.d.fact 2 (f := .mkr "Tally") rfl)),
   (He.noat_ok (c.t.d.fact 3 (f := .noat "Tally" "_states") rfl)),
   (by obtain ⟨fd, F⟩ := c.t.d.def_ 0 (d := dd__wall) rfl; exact ⟨fd, F⟩),
   (He.glo_ok X G (c.t.d.fact 4 (f := .glo "_wall") rfl)),
   (by obtain ⟨fd, F⟩ := c.t.d.def_ 0 (d := dd__wall) rfl; exact F.kp),
   (by obtain ⟨fd, F⟩ := c.t.d.def_ 1 (d := dd_majority) rfl; exact ⟨fd, F⟩),
   (He.glo_ok X G (c.t.d.fact 5 (f := .glo "majority") rfl)),
   (by obtain ⟨fd, F⟩ := c.t.d.def_ 1 (d := dd_majority) rfl; exact F.kp),
   (by obtain ⟨fd, F⟩ := c.t.d.def_ 2 (d := dd_next_ballot) rfl; exact ⟨fd, F⟩),
   (He.glo_ok X G (c.t.d.fact 6 (f := .glo "next_ballot") rfl)),
   (by obtain ⟨fd, F⟩ := c.t.d.def_ 2 (d := dd_next_ballot) rfl; exact F.kp),
   (by obtain ⟨fd, F⟩ := c.t.d.def_ 3 (d := dd_Tally____init__) rfl; exact ⟨fd, F⟩),
   (by obtain ⟨fd, F⟩ := c.t.d.def_ 4 (d := dd_Tally__apply) rfl; exact ⟨fd, F⟩),
   (He.meth_ok (c.t.d.fact 7 (f := .meth "Tally" "apply") rfl)),
   (by obtain ⟨fd, F⟩ := c.t.d.def_ 5 (d := dd_Tally__promised) rfl; exact ⟨fd, F⟩),
   (He.meth_ok (c.t.d.fact 8 (f := .meth "Tally" "promised") rfl)),
   (by obtain ⟨fd, F⟩ := c.t.d.def_ 6 (d := dd_Tally__voted) rfl; exact ⟨fd, F⟩),
   (He.meth_ok (c.t.d.fact 9 (f := .meth "Tally" "voted") rfl)),
   (by obtain ⟨fd, F⟩ := c.t.d.def_ 7 (d := dd_Tally__command) rfl; exact ⟨fd, F⟩),
   (He.meth_ok (c.t.d.fact 10 (f := .meth "Tally" "command") rfl)),
   (by obtain ⟨fd, F⟩ := c.t.d.def_ 8 (d := dd_Tally__closed) rfl; exact ⟨fd, F⟩),
   (He.meth_ok (c.t.d.fact 11 (f := .meth "Tally" "closed") rfl)),
   (by obtain ⟨fd, F⟩ := c.t.d.def_ 9 (d := dd_Tally__slots) rfl; exact ⟨fd, F⟩),
   (He.meth_ok (c.t.d.fact 12 (f := .meth "Tally" "slots") rfl)),
   (by obtain ⟨fd, F⟩ := c.t.d.def_ 10 (d := dd_Tally__records) rfl; exact ⟨fd, F⟩),
   (He.meth_ok (c.t.d.fact 13 (f := .meth "Tally" "records") rfl)),
   (by obtain ⟨fd, F⟩ := c.t.d.def_ 11 (d := dd_Tally__copied) rfl; exact ⟨fd, F⟩),
   (He.meth_ok (c.t.d.fact 14 (f := .meth "Tally" "copied") rfl)),
   (by obtain ⟨fd, F⟩ := c.t.d.def_ 12 (d := dd_Tally___state_of) rfl; exact ⟨fd, F⟩),
   (He.meth_ok (c.t.d.fact 15 (f := .meth "Tally" "_state_of") rfl)),
   (by obtain ⟨fd, F⟩ := c.t.d.def_ 13 (d := dd__law_is_integer) rfl; exact ⟨fd, F⟩),
   (He.glo_ok X G (c.t.d.fact 16 (f := .glo "_law_is_integer") rfl)),
   (by obtain ⟨fd, F⟩ := c.t.d.def_ 13 (d := dd__law_is_integer) rfl; exact F.kp),
   (by obtain ⟨fd, F⟩ := c.t.d.def_ 14 (d := dd__law_cell) rfl; exact ⟨fd, F⟩),
   (He.glo_ok X G (c.t.d.fact 17 (f := .glo "_law_cell") rfl)),
   (by obtain ⟨fd, F⟩ := c.t.d.def_ 14 (d := dd__law_cell) rfl; exact F.kp),
   (by obtain ⟨fd, F⟩ := c.t.d.def_ 15 (d := dd__law_mixed) rfl; exact ⟨fd, F⟩),
   (He.glo_ok X G (c.t.d.fact 18 (f := .glo "_law_mixed") rfl)),
   (by obtain ⟨fd, F⟩ := c.t.d.def_ 15 (d := dd__law_mixed) rfl; exact F.kp),
   (by obtain ⟨fd, F⟩ := c.t.d.def_ 16 (d := dd__law_digits) rfl; exact ⟨fd, F⟩),
   (He.glo_ok X G (c.t.d.fact 19 (f := .glo "_law_digits") rfl)),
   (by obtain ⟨fd, F⟩ := c.t.d.def_ 16 (d := dd__law_digits) rfl; exact F.kp),
   (by obtain ⟨fd, F⟩ := c.t.d.def_ 17 (d := dd__law_ballot) rfl; exact ⟨fd, F⟩),
   (He.glo_ok X G (c.t.d.fact 20 (f := .glo "_law_ballot") rfl)),
   (by obtain ⟨fd, F⟩ := c.t.d.def_ 17 (d := dd__law_ballot) rfl; exact F.kp),
   (by obtain ⟨fd, F⟩ := c.t.d.def_ 18 (d := dd__law_command) rfl; exact ⟨fd, F⟩),
   (He.glo_ok X G (c.t.d.fact 21 (f := .glo "_law_command") rfl)),
   (by obtain ⟨fd, F⟩ := c.t.d.def_ 18 (d := dd__law_command) rfl; exact F.kp),
   (by obtain ⟨fd, F⟩ := c.t.d.def_ 19 (d := dd__law_apply) rfl; exact ⟨fd, F⟩),
   (He.glo_ok X G (c.t.d.fact 22 (f := .glo "_law_apply") rfl)),
   (by obtain ⟨fd, F⟩ := c.t.d.def_ 19 (d := dd__law_apply) rfl; exact F.kp),
   (by obtain ⟨fd, F⟩ := c.t.d.def_ 20 (d := dd__law_records) rfl; exact ⟨fd, F⟩),
   (He.glo_ok X G (c.t.d.fact 23 (f := .glo "_law_records") rfl)),
   (by obtain ⟨fd, F⟩ := c.t.d.def_ 20 (d := dd__law_records) rfl; exact F.kp),
   (by obtain ⟨fd, F⟩ := c.t.d.def_ 21 (d := dd__law_same_tally) rfl; exact ⟨fd, F⟩),
   (He.glo_ok X G (c.t.d.fact 24 (f := .glo "_law_same_tally") rfl)),
   (by obtain ⟨fd, F⟩ := c.t.d.def_ 21 (d := dd__law_same_tally) rfl; exact F.kp),
   (by obtain ⟨fd, F⟩ := c.t.d.def_ 22 (d := dd__law_record) rfl; exact ⟨fd, F⟩),
   (He.glo_ok X G (c.t.d.fact 25 (f := .glo "_law_record") rfl)),
   (by obtain ⟨fd, F⟩ := c.t.d.def_ 22 (d := dd__law_record) rfl; exact F.kp),
   (by obtain ⟨fd, F⟩ := c.t.d.def_ 23 (d := dd_law) rfl; exact ⟨fd, F⟩),
   (He.glo_ok X G (c.t.d.fact 26 (f := .glo "law") rfl)),
   (by obtain ⟨fd, F⟩ := c.t.d.def_ 23 (d := dd_law) rfl; exact F.kp),
   (He.free_ok X G (c.t.d.fact 27 (f := .free "bool") rfl)),
   (He.free_ok X G (c.t.d.fact 28 (f := .free "int") rfl)),
   (He.free_ok X G (c.t.d.fact 29 (f := .free "isinstance") rfl)),
   (He.free_ok X G (c.t.d.fact 30 (f := .free "len") rfl)),
   (He.free_ok X G (c.t.d.fact 31 (f := .free "list") rfl)),
   (He.free_ok X G (c.t.d.fact 32 (f := .free "max") rfl)),
   (He.free_ok X G (c.t.d.fact 33 (f := .free "range") rfl)),
   (He.free_ok X G (c.t.d.fact 34 (f := .free "sorted") rfl)),
   (cst_int (He.int_ok X G (c.t.d.fact 35 (f := .int "CLOSE" 3) rfl))).1,
   (cst_int (He.int_ok X G (c.t.d.fact 35 (f := .int "CLOSE" 3) rfl))).2,
   (cst_int (He.int_ok X G (c.t.d.fact 36 (f := .int "NOTHING" 0) rfl))).1,
   (cst_int (He.int_ok X G (c.t.d.fact 36 (f := .int "NOTHING" 0) rfl))).2,
   (cst_int (He.int_ok X G (c.t.d.fact 37 (f := .int "PROMISE" 1) rfl))).1,
   (cst_int (He.int_ok X G (c.t.d.fact 37 (f := .int "PROMISE" 1) rfl))).2,
   (cst_int (He.int_ok X G (c.t.d.fact 38 (f := .int "VOTE" 2) rfl))).1,
   (cst_int (He.int_ok X G (c.t.d.fact 38 (f := .int "VOTE" 2) rfl))).2,
   (He.glo_ok X G (c.t.d.fact 39 (f := .glo "UNTOUCHED") rfl)),
   rfl,
   (Sm.vrB_ok (all_at c.more 0 rfl))⟩
end K30
open PySem PySem.W PySem.Calls PyProof.Rows
theorem PySem.Challenge.cw_cairn_k30_ballots_and_tallies_holds : PySem.Challenge.rw_cairn_k30_ballots_and_tallies.Holds := by
  w_on; o_law
  refine HandSHeadRun.head_any (r := OpenLaw.row PySem.Challenge.rw_cairn_k30_ballots_and_tallies) (q := view (OpenLaw.row PySem.Challenge.rw_cairn_k30_ballots_and_tallies).prog [21]) (H := K30.hk) (ob := K30.ob) (M := 20000) (loose := K30.names) (d := HandSHeadRun.topDef (OpenLaw.row PySem.Challenge.rw_cairn_k30_ballots_and_tallies).prog 21) (kwd := []) K30.ob_eq
    (by kernel_rfl) (fun s => by kernel_rfl) K30.run (by kernel_rfl) (by kernel_rfl) (by kernel_rfl) (by rfl) (by first | assumption | decide +kernel) (by decide +kernel) ⟨rfl, rfl, rfl, rfl, rfl, by decide +kernel⟩ ?hw ?hc
  case hw => w_witness2
  case hc =>
    refine L2.walk_ofE (l := PySem.Challenge.rw_cairn_k30_ballots_and_tallies) (n := 63) (k := 5) (x := "script") (CX := L2.CX0) rfl (by decide) (by kernel_rfl) ⟨rfl, by decide, by decide⟩ ?F (fun _ _ _ _ z => z)
    intro w mg fa h Y G hmg0
    obtain ⟨K, KX, c⟩ := Y
    have hmg : mg ("law" : PySem.Str) = some (.ref fa) := by
      have e : (HandSHeadRun.topDef (OpenLaw.row PySem.Challenge.rw_cairn_k30_ballots_and_tallies).prog 21).name = ("law" : PySem.Str) := by kernel_rfl
      rw [← e]
      exact hmg0
    have T := K30.txt_of KX G c
    have e : He.ga K "law" = fa := Value.ref.inj (Option.some.inj (T.g_law.symm.trans hmg))
    subst e
    obtain ⟨fd, F⟩ := T.F_law
    refine ⟨K, fd, K30.sp_law K, KX, fun s u => ?_, fun H a ns hl _ hS => ⟨a, ns, rfl, hS, hl, fun _ => rfl⟩, fun base KB GB => ?_⟩
    · exact L2.FunD.bindsA (ps := ["script"]) F (fun _ _ _ _ _ _ us hl => match us, hl with | [_], _ => rfl) s [u] rfl
    · obtain ⟨fd2, G2, _, F2⟩ := K30.ok_law (P := (PySem.Challenge.rw_cairn_k30_ballots_and_tallies).prog) (w := w) (base := base) T
      obtain rfl : fd2 = fd := Mx.fnat_eq F2 F
      exact G2
