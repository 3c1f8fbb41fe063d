import PyProof.Rows.All
import Wide.All
import OpenK.AllK
import Wide.FinOn
import HandS.ForMost
import HandS.Codes
import HandS.Wide
import HandS.WideBits
import HandS.IsInst
import HandS.RaiseMore
import HandS.Style
import HandS.NoneIn
import HandS.Walk
import HandS.SetFor
import KE.LtSeq
import KE.DatumOrd
import KE.SortData
import HandS.SortInts
import HandS.Deep
import HandS.Evl
import HandS.SortKw
import HandS.Conv
import PySem.Challenge.RW_leapfit_k30_whole_rates_have_rules
set_option Elab.async false
set_option linter.all false
set_option maxRecDepth 100000
set_option maxHeartbeats 4000000
set_option linter.all false
namespace Lf
/-! ### sums of rounded quotients -/
def fs : Nat → Int → Int → Int → Int
  | 0, _, _, _ => 0
  | n + 1, a, b, m => fs n a b m + (a * n + b) / m
def tri (n : Int) : Int := n * (n - 1) / 2
theorem tri_succ (n : Int) : tri (n + 1) = tri n + n := by
  unfold tri
  rw [show (n + 1) * (n + 1 - 1) = n * (n - 1) + n * 2 by
    rw [Int.add_sub_cancel, Int.mul_sub, Int.add_mul]; omega]
  rw [Int.add_mul_ediv_right _ _ (by decide)]
theorem tri_zero : tri 0 = 0 := rfl
theorem div_shift (x k m : Int) (h : 0 < m) : (x + m * k) / m = x / m + k := by
  rw [Int.add_mul_ediv_left _ _ (by omega)]
theorem fs_red (n : Nat) (a b m : Int) (h : 0 < m) : fs n a b m = fs n (a % m) b m + a / m * tri n := by
  induction n with
  | zero => simp [fs, tri_zero]
  | succ n ih =>
    show fs n a b m + (a * n + b) / m = fs n (a % m) b m + (a % m * n + b) / m + a / m * tri ((n + 1 : Nat) : Int)
    have e : a * n + b = (a % m * n + b) + m * (a / m * n) := by
      have q := Int.emod_add_mul_ediv a m
      have q2 : a * n = (a % m + m * (a / m)) * n := by rw [q]
      rw [q2, Int.add_mul, Int.mul_assoc]; omega
    rw [e, div_shift _ _ _ h, ih, Int.natCast_add, Int.natCast_one, tri_succ, Int.mul_add]
    omega
theorem fs_redb (n : Nat) (a b m : Int) (h : 0 < m) : fs n a b m = fs n a (b % m) m + b / m * n := by
  induction n with
  | zero => simp [fs]
  | succ n ih =>
    show fs n a b m + (a * n + b) / m = fs n a (b % m) m + (a * n + b % m) / m + b / m * ((n + 1 : Nat) : Int)
    have e : a * n + b = (a * n + b % m) + m * (b / m) := by
      have q := Int.emod_add_mul_ediv b m
      omega
    rw [e, div_shift _ _ _ h, ih, Int.natCast_add, Int.natCast_one, Int.mul_add, Int.mul_one]
    omega
/-- each term of the second sum grows by one when its offset grows by its divisor -/
theorem fs_up (n : Nat) (a b m : Int) (h : 0 < m) : fs n a (b + m) m = fs n a b m + n := by
  induction n with
  | zero => simp [fs]
  | succ n ih =>
    show fs n a (b + m) m + (a * n + (b + m)) / m = fs n a b m + (a * n + b) / m + ((n + 1 : Nat) : Int)
    rw [show a * n + (b + m) = (a * n + b) + m * 1 by omega, div_shift _ _ _ h, ih]
    omega
/-- the first term apart -/
theorem fs_first (n : Nat) (a b m : Int) : fs (n + 1) a b m = b / m + fs n a (b + a) m := by
  induction n with
  | zero => show 0 + (a * ((0 : Nat) : Int) + b) / m = b / m + 0; simp
  | succ n ih =>
    show fs (n + 1) a b m + (a * ((n + 1 : Nat) : Int) + b) / m = b / m + (fs n a (b + a) m + (a * n + (b + a)) / m)
    rw [ih, show a * ((n + 1 : Nat) : Int) + b = a * n + (b + a) by
      rw [Int.natCast_add, Int.natCast_one, Int.mul_add]; omega]
    omega
theorem fs_swap (n : Nat) (a b m : Int) (ha : 0 < a) (ham : a < m) (hb : 0 ≤ b) (hbm : b < m) :
    fs n a b m = fs ((a * n + b) / m).toNat m ((a * n + b) % m) a := by
  induction n with
  | zero =>
    have e : (a * ((0 : Nat) : Int) + b) / m = 0 := by
      rw [show a * ((0 : Nat) : Int) + b = b by simp]
      exact Int.ediv_eq_zero_of_lt hb hbm
    rw [e]; rfl
  | succ n ih =>
    show fs n a b m + (a * n + b) / m = fs ((a * ((n + 1 : Nat) : Int) + b) / m).toNat m ((a * ((n + 1 : Nat) : Int) + b) % m) a
    rw [ih]
    have hm : 0 < m := by omega
    have hy : 0 ≤ a * n + b := by
      have := Int.mul_nonneg (Int.le_of_lt ha) (Int.natCast_nonneg n); omega
    generalize hyd : a * (n : Int) + b = y at hy
    have e : a * ((n + 1 : Nat) : Int) + b = y + a := by
      rw [Int.natCast_add, Int.natCast_one, Int.mul_add]; omega
    rw [e]
    have hq : 0 ≤ y / m := Int.ediv_nonneg hy (by omega)
    have hr0 : 0 ≤ y % m := Int.emod_nonneg _ (by omega)
    have hr1 : y % m < m := Int.emod_lt_of_pos _ hm
    have hd := Int.emod_add_mul_ediv y m
    generalize y / m = q at *
    generalize y % m = r at *
    by_cases hc : r + a < m
    · have e1 : (y + a) / m = q := by
        rw [show y + a = (r + a) + m * q by omega, div_shift _ _ _ hm, Int.ediv_eq_zero_of_lt (by omega) hc]
        omega
      have e2 : (y + a) % m = r + a := by
        have := Int.emod_add_mul_ediv (y + a) m
        rw [e1] at this
        omega
      rw [e1, e2, fs_up _ _ _ _ ha]
      omega
    · have e1 : (y + a) / m = q + 1 := by
        rw [show y + a = (r + a - m) + m * (q + 1) by rw [Int.mul_add]; omega, div_shift _ _ _ hm, Int.ediv_eq_zero_of_lt (by omega) (by omega)]
        omega
      have e2 : (y + a) % m = r + a - m := by
        have := Int.emod_add_mul_ediv (y + a) m
        rw [e1, Int.mul_add] at this
        omega
      rw [e1, e2, show (q + 1).toNat = q.toNat + 1 by omega, fs_first, Int.ediv_eq_zero_of_lt (by omega) (by omega), show r + a - m + m = r + a by omega, fs_up _ _ _ _ ha]
      omega
/-- a whole turn of the loop -/
theorem fs_turn (n a b m : Int) (hn : 0 ≤ n) (hm : 0 < m) :
    fs n.toNat a b m = a / m * tri n + b / m * n + fs ((a % m * n + b % m) / m).toNat m ((a % m * n + b % m) % m) (a % m) := by
  have h1 := fs_red n.toNat a b m hm
  have h2 := fs_redb n.toNat (a % m) b m hm
  have en : ((n.toNat : Nat) : Int) = n := by omega
  rw [en] at h1 h2
  have ha0 : 0 ≤ a % m := Int.emod_nonneg _ (by omega)
  have ha1 : a % m < m := Int.emod_lt_of_pos _ hm
  have hb0 : 0 ≤ b % m := Int.emod_nonneg _ (by omega)
  have hb1 : b % m < m := Int.emod_lt_of_pos _ hm
  by_cases hz : a % m = 0
  · have e0 : (a % m * n + b % m) / m = 0 := by
      rw [hz, Int.zero_mul, Int.zero_add]
      exact Int.ediv_eq_zero_of_lt hb0 hb1
    have z : fs n.toNat (a % m) (b % m) m = 0 := by
      rw [hz]
      have : ∀ k : Nat, fs k 0 (b % m) m = 0 := fun k => by
        induction k with
        | zero => rfl
        | succ k ih =>
          show fs k 0 (b % m) m + (0 * (k : Int) + b % m) / m = 0
          rw [ih, Int.zero_mul, Int.zero_add, Int.zero_add]
          exact Int.ediv_eq_zero_of_lt hb0 hb1
      exact this _
    rw [e0]
    show _ = _ + fs 0 m _ _
    have e3 : fs 0 m ((a % m * n + b % m) % m) (a % m) = 0 := rfl
    have e4 : (0 : Int).toNat = 0 := rfl
    rw [e3, h1, h2, z]
    omega
  · have h3 := fs_swap n.toNat (a % m) (b % m) m (by omega) ha1 hb0 hb1
    rw [en] at h3
    rw [h1, h2, h3]
    omega
theorem turn_le (n a b m : Int) (hn : 0 < n) (hm : 0 < m) : (a % m * n + b % m) / m ≤ n ∧ 0 ≤ (a % m * n + b % m) / m := by
  have ha0 : 0 ≤ a % m := Int.emod_nonneg _ (by omega)
  have ha1 : a % m < m := Int.emod_lt_of_pos _ hm
  have hb0 : 0 ≤ b % m := Int.emod_nonneg _ (by omega)
  have hb1 : b % m < m := Int.emod_lt_of_pos _ hm
  have h0 : 0 ≤ a % m * n := Int.mul_nonneg ha0 (by omega)
  refine ⟨?_, Int.ediv_nonneg (by omega) (by omega)⟩
  have h1 : a % m * n ≤ (m - 1) * n := Int.mul_le_mul_of_nonneg_right (by omega) (by omega)
  rw [Int.sub_mul, Int.one_mul] at h1
  have h2 : (a % m * n + b % m) / m < n + 1 := by
    apply Int.ediv_lt_of_lt_mul hm
    rw [Int.add_mul, Int.one_mul, Int.mul_comm n m]
    omega
  omega
theorem turn_zero (n a b m : Int) (hm : 0 < m) (hz : a % m = 0) : (a % m * n + b % m) / m = 0 := by
  rw [hz, Int.zero_mul, Int.zero_add]
  exact Int.ediv_eq_zero_of_lt (Int.emod_nonneg _ (by omega)) (Int.emod_lt_of_pos _ hm)
/-! ### sizes -/
def Bd (k : Nat) (i : Int) : Prop := i.natAbs < 2 ^ k
theorem Bd.mono {k j : Nat} {i : Int} (h : Bd k i) (e : k ≤ j) : Bd j i := Nat.lt_of_lt_of_le h (Nat.pow_le_pow_right (by decide) e)
theorem Bd.le {k : Nat} {i j : Int} (h : Bd k j) (e : i.natAbs ≤ j.natAbs) : Bd k i := Nat.lt_of_le_of_lt e h
theorem Bd.mul {k j : Nat} {x y : Int} (h : Bd k x) (h2 : Bd j y) : Bd (k + j) (x * y) := by
  unfold Bd
  rw [Int.natAbs_mul, Nat.pow_add]
  exact Nat.mul_lt_mul'' h h2
theorem Bd.add {k : Nat} {x y : Int} (h : Bd k x) (h2 : Bd k y) : Bd (k + 1) (x + y) := by
  unfold Bd at *
  rw [Nat.pow_succ]
  omega
theorem Bd.sub {k : Nat} {x y : Int} (h : Bd k x) (h2 : Bd k y) : Bd (k + 1) (x - y) := by
  unfold Bd at *
  rw [Nat.pow_succ]
  omega
theorem Bd.neg {k : Nat} {x : Int} (h : Bd k x) : Bd k (-x) := by
  unfold Bd at *
  omega
theorem Bd.ediv {k : Nat} {x m : Int} (h : Bd k x) (hm : 0 < m) : Bd k (x / m) := by
  refine h.le ?_
  rcases Int.lt_or_le x 0 with hx | hx
  · have h1 : x / m < 0 := Int.ediv_neg_of_neg_of_pos hx hm
    have h2 : x ≤ x / m := by
      apply Int.le_ediv_of_mul_le hm
      have : (-x) * 1 ≤ (-x) * m := Int.mul_le_mul_of_nonneg_left (by omega) (by omega)
      rw [Int.neg_mul, Int.neg_mul, Int.mul_one] at this
      omega
    omega
  · have h1 : 0 ≤ x / m := Int.ediv_nonneg hx (by omega)
    have h2 : x / m ≤ x := Int.ediv_le_self _ hx
    omega
theorem Bd.emod {k : Nat} {x m : Int} (h : Bd k m) (hm : 0 < m) : Bd k (x % m) := by
  refine h.le ?_
  have := Int.emod_nonneg x (show m ≠ 0 by omega)
  have := Int.emod_lt_of_pos x hm
  omega
theorem Bd.log {k : Nat} {i : Int} (h : Bd k i) (hk : 0 < k) : i.natAbs.log2 < k := by
  by_cases e : i.natAbs = 0
  · rw [e]; exact hk
  · exact (Nat.log2_lt e).mpr h
theorem Bd.small {k : Nat} {i : Int} (c : Nat) (h : i.natAbs < 2 ^ c) (e : c ≤ k) : Bd k i := Bd.mono (k := c) h e
theorem Bd.between {k : Nat} {x y : Int} (h : Bd k y) (h0 : 0 ≤ x) (h1 : x ≤ y) : Bd k x := h.le (by omega)
/-! ### the greatest common divisor -/
theorem gcd_turn (x y : Int) (hx : 0 ≤ x) (hy : 0 < y) : Int.gcd y (x % y) = Int.gcd x y := by
  unfold Int.gcd
  rw [show (x % y).natAbs = x.natAbs % y.natAbs by
    obtain ⟨a, rfl⟩ := Int.eq_ofNat_of_zero_le hx
    obtain ⟨b, rfl⟩ := Int.eq_ofNat_of_zero_le (Int.le_of_lt hy)
    rfl]
  rw [Nat.gcd_comm, ← Nat.gcd_rec, Nat.gcd_comm]
end Lf
namespace Lf
theorem nab_ediv {x m : Int} (hm : 0 < m) : (x / m).natAbs ≤ x.natAbs := by
  rcases Int.lt_or_le x 0 with hx | hx
  · have h1 : x / m < 0 := Int.ediv_neg_of_neg_of_pos hx hm
    have h2 : x ≤ x / m := by
      apply Int.le_ediv_of_mul_le hm
      have : (-x) * 1 ≤ (-x) * m := Int.mul_le_mul_of_nonneg_left (by omega) (by omega)
      rw [Int.neg_mul, Int.neg_mul, Int.mul_one] at this
      omega
    omega
  · have h1 : 0 ≤ x / m := Int.ediv_nonneg hx (by omega)
    have h2 : x / m ≤ x := Int.ediv_le_self _ hx
    omega
theorem fs_nab (n : Nat) (a b m : Int) (hm : 0 < m) : (fs n a b m).natAbs ≤ n * (a.natAbs * n + b.natAbs) := by
  induction n with
  | zero => show (0 : Int).natAbs ≤ _; simp
  | succ n ih =>
    show (fs n a b m + (a * n + b) / m).natAbs ≤ (n + 1) * (a.natAbs * (n + 1) + b.natAbs)
    have h1 := nab_ediv (x := a * n + b) hm
    have h2 := Int.natAbs_add_le (a * n) b
    have h3 := Int.natAbs_add_le (fs n a b m) ((a * n + b) / m)
    have h4 : (a * (n : Int)).natAbs = a.natAbs * n := by rw [Int.natAbs_mul]; rfl
    rw [h4] at h2
    have h5 : n * (a.natAbs * n + b.natAbs) ≤ n * (a.natAbs * (n + 1) + b.natAbs) := Nat.mul_le_mul_left _ (Nat.add_le_add_right (Nat.mul_le_mul_left _ (by omega)) _)
    have h6 : a.natAbs * n ≤ a.natAbs * (n + 1) := Nat.mul_le_mul_left _ (by omega)
    rw [Nat.add_mul, Nat.one_mul]
    omega
theorem fs_bd {n k j : Nat} {a b m : Int} (hm : 0 < m) (hn : n < 2 ^ j) (ha : Bd k a) (hb : Bd k b) : Bd (j + (k + j + 1)) (fs n a b m) := by
  unfold Bd at *
  have h := fs_nab n a b m hm
  refine Nat.lt_of_le_of_lt h ?_
  rw [Nat.pow_add 2 j]
  have h1 : a.natAbs * n + b.natAbs < 2 ^ (k + j + 1) := by
    have e : a.natAbs * n ≤ 2 ^ k * 2 ^ j := Nat.mul_le_mul (Nat.le_of_lt ha) (Nat.le_of_lt hn)
    have e2 : 2 ^ k ≤ 2 ^ k * 2 ^ j := Nat.le_mul_of_pos_right _ (Nat.pow_pos (by decide))
    rw [Nat.pow_succ, Nat.pow_add]
    omega
  exact Nat.mul_lt_mul'' hn h1
def trm (p q c s : Int) (i : Nat) : Int := (p * (s + i) + c) / q
theorem trm_sum (p q c s : Int) (n : Nat) : ((List.range n).map (trm p q c s)).sum = fs n p (p * s + c) q := by
  induction n with
  | zero => rfl
  | succ n ih =>
    rw [List.range_succ, List.map_append, List.sum_append, ih]
    show _ + (trm p q c s n + 0) = fs n p (p * s + c) q + (p * n + (p * s + c)) / q
    unfold trm
    rw [show p * (s + (n : Int)) + c = p * n + (p * s + c) by rw [Int.mul_add]; omega]
    omega
end Lf
namespace Lf
/-! ### triples in lowest terms -/
def gg (p q : Int) : Int := (Int.gcd p q : Int)
theorem gg_pos {p q : Int} (h : 1 ≤ q) : 0 < gg p q := by
  have : 0 < Int.gcd p q := Int.gcd_pos_of_ne_zero_right _ (by omega)
  unfold gg
  omega
theorem gg_p (p q : Int) : p = gg p q * (p / gg p q) := (Int.mul_ediv_cancel' (Int.gcd_dvd_left ..)).symm
theorem gg_q (p q : Int) : q = gg p q * (q / gg p q) := (Int.mul_ediv_cancel' (Int.gcd_dvd_right ..)).symm
theorem gg_mul (g x y : Int) (h : 0 ≤ g) : gg (g * x) (g * y) = g * gg x y := by
  unfold gg
  rw [Int.gcd_mul_left, Int.natCast_mul, Int.natAbs_of_nonneg h]
/-- reduced, multiplied, reduced again -/
theorem gg_twice (p q u v : Int) (h : 1 ≤ q) : gg (u * p) (v * q) = gg p q * gg (u * (p / gg p q)) (v * (q / gg p q)) := by
  have hg := gg_pos (p := p) h
  rw [← gg_mul _ _ _ (Int.le_of_lt hg)]
  congr 1
  · rw [Int.mul_left_comm, ← gg_p]
  · rw [Int.mul_left_comm, ← gg_q]
theorem red_p (p q u v : Int) (h : 1 ≤ q) (hv : 1 ≤ v) : u * (p / gg p q) / gg (u * (p / gg p q)) (v * (q / gg p q)) = u * p / gg (u * p) (v * q) := by
  have hg := gg_pos (p := p) h
  have e := gg_twice p q u v h
  rw [e]
  have e2 : u * p = gg p q * (u * (p / gg p q)) := by rw [Int.mul_left_comm, ← gg_p]
  rw [e2, Int.mul_ediv_mul_of_pos _ _ hg]
theorem red_q (p q u v : Int) (h : 1 ≤ q) (hv : 1 ≤ v) : v * (q / gg p q) / gg (u * (p / gg p q)) (v * (q / gg p q)) = v * q / gg (u * p) (v * q) := by
  have hg := gg_pos (p := p) h
  have e := gg_twice p q u v h
  rw [e]
  have e2 : v * q = gg p q * (v * (q / gg p q)) := by rw [Int.mul_left_comm, ← gg_q]
  rw [e2, Int.mul_ediv_mul_of_pos _ _ hg]
theorem red_c (p q u v c : Int) (h : 1 ≤ q) (hv : 1 ≤ v) : c / gg p q / gg (u * (p / gg p q)) (v * (q / gg p q)) = c / gg (u * p) (v * q) := by
  have hg := gg_pos (p := p) h
  rw [gg_twice p q u v h, Int.ediv_ediv_of_nonneg (Int.le_of_lt hg)]
theorem red_shift (p q a b c : Int) (h : 1 ≤ q) : (p * a + q * b + c) / gg p q = p / gg p q * a + q / gg p q * b + c / gg p q := by
  have hg := gg_pos (p := p) h
  have e : p * a + q * b + c = c + gg p q * (p / gg p q * a + q / gg p q * b) := by
    rw [Int.mul_add, ← Int.mul_assoc, ← Int.mul_assoc, ← gg_p, ← gg_q]
    omega
  rw [e, div_shift _ _ _ hg]
  omega
theorem div_neg1 (c g : Int) (hg : 0 < g) : (-1 - c) / g = -1 - c / g := by
  have e := Int.emod_add_mul_ediv c g
  have h0 := Int.emod_nonneg c (show g ≠ 0 by omega)
  have h1 := Int.emod_lt_of_pos c hg
  have e2 : -1 - c = (g - 1 - c % g) + g * (-1 - c / g) := by
    rw [Int.mul_sub]
    omega
  rw [e2, div_shift _ _ _ hg, Int.ediv_eq_zero_of_lt (by omega) (by omega)]
  omega
theorem red_mirror (p q c : Int) (h : 1 ≤ q) : (q - 1 - c) / gg p q = q / gg p q - 1 - c / gg p q := by
  have hg := gg_pos (p := p) h
  have e : q - 1 - c = (-1 - c) + gg p q * (q / gg p q) := by
    rw [← gg_q]
    omega
  rw [e, div_shift _ _ _ hg, div_neg1 _ _ hg]
  omega
end Lf
namespace Lf
theorem gg1 {p q : Int} (h : Int.gcd p q = 1) : gg p q = 1 := by
  unfold gg
  rw [h]
  rfl
theorem thin2 (p q c j k : Int) (h : 1 ≤ q * j) (hk : 1 ≤ k) :
    p / gg p (q * j) / gg (p / gg p (q * j)) (q * j / gg p (q * j) * k) = p / gg p (q * (j * k)) ∧
    q * j / gg p (q * j) * k / gg (p / gg p (q * j)) (q * j / gg p (q * j) * k) = q * (j * k) / gg p (q * (j * k)) ∧
    c / gg p (q * j) / gg (p / gg p (q * j)) (q * j / gg p (q * j) * k) = c / gg p (q * (j * k)) := by
  have e : q * (j * k) = k * (q * j) := by rw [← Int.mul_assoc, Int.mul_comm]
  have h1 := red_p p (q * j) 1 k h hk
  have h2 := red_q p (q * j) 1 k h hk
  have h3 := red_c p (q * j) 1 k c h hk
  simp only [Int.one_mul] at h1 h2 h3
  rw [Int.mul_comm (q * j / gg p (q * j)) k, e]
  exact ⟨h1, h2, h3⟩
theorem sample2 (p q c j k : Int) (h : 1 ≤ q) :
    p * j / gg (p * j) q * k / gg (p * j / gg (p * j) q * k) (q / gg (p * j) q) = p * (j * k) / gg (p * (j * k)) q ∧
    q / gg (p * j) q / gg (p * j / gg (p * j) q * k) (q / gg (p * j) q) = q / gg (p * (j * k)) q ∧
    c / gg (p * j) q / gg (p * j / gg (p * j) q * k) (q / gg (p * j) q) = c / gg (p * (j * k)) q := by
  have e : p * (j * k) = k * (p * j) := by rw [← Int.mul_assoc, Int.mul_comm]
  have h1 := red_p (p * j) q k 1 h (by decide)
  have h2 := red_q (p * j) q k 1 h (by decide)
  have h3 := red_c (p * j) q k 1 c h (by decide)
  simp only [Int.one_mul] at h1 h2 h3
  rw [Int.mul_comm (p * j / gg (p * j) q) k, e]
  exact ⟨h1, h2, h3⟩
theorem both2 (p q c k : Int) (h : 1 ≤ q) (hk : 1 ≤ k) :
    p * k / gg (p * k) q / gg (p * k / gg (p * k) q) (q / gg (p * k) q * k) = k * p / gg (k * p) (k * q) ∧
    q / gg (p * k) q * k / gg (p * k / gg (p * k) q) (q / gg (p * k) q * k) = k * q / gg (k * p) (k * q) ∧
    c / gg (p * k) q / gg (p * k / gg (p * k) q) (q / gg (p * k) q * k) = c / gg (k * p) (k * q) := by
  have h1 := red_p (p * k) q 1 k h hk
  have h2 := red_q (p * k) q 1 k h hk
  have h3 := red_c (p * k) q 1 k c h hk
  simp only [Int.one_mul] at h1 h2 h3
  rw [Int.mul_comm (q / gg (p * k) q) k, Int.mul_comm k p]
  exact ⟨h1, h2, h3⟩
theorem one_le_mul {x y : Int} (h : 1 ≤ x) (h2 : 1 ≤ y) : 1 ≤ x * y := by
  have := Int.mul_le_mul h h2 (by decide) (by omega)
  omega
end Lf
namespace Lf
/-! ### sums over ranges -/
theorem fs_add (n m : Nat) (a b q : Int) : fs (n + m) a b q = fs n a b q + fs m a (a * n + b) q := by
  induction m with
  | zero => show fs n a b q = fs n a b q + 0; omega
  | succ m ih =>
    show fs (n + m) a b q + (a * ((n + m : Nat) : Int) + b) / q = fs n a b q + (fs m a (a * n + b) q + (a * m + (a * n + b)) / q)
    rw [ih, show a * ((n + m : Nat) : Int) + b = a * m + (a * n + b) by rw [Int.natCast_add, Int.mul_add]; omega]
    omega
/-- two neighbouring ranges -/
theorem fs_split (p q c s m e : Int) (h1 : s ≤ m) (h2 : m ≤ e) : fs (m - s).toNat p (p * s + c) q + fs (e - m).toNat p (p * m + c) q = fs (e - s).toNat p (p * s + c) q := by
  have e1 : (e - s).toNat = (m - s).toNat + (e - m).toNat := by omega
  rw [e1, fs_add, show ((m - s).toNat : Int) = m - s by omega, show p * (m - s) + (p * s + c) = p * m + c by rw [Int.mul_sub]; omega]
theorem fs_one (p b q : Int) : fs 1 p b q = b / q := by
  show 0 + (p * ((0 : Nat) : Int) + b) / q = b / q
  simp
/-- one step of the offset: a term grows by one exactly where the divisor divides -/
theorem step_div (x q : Int) (h : 0 < q) : (x + 1) / q = x / q + (if (x + 1) % q = 0 then 1 else 0) := by
  have e := Int.emod_add_mul_ediv x q
  have h0 := Int.emod_nonneg x (show q ≠ 0 by omega)
  have h1 := Int.emod_lt_of_pos x h
  by_cases hc : x % q + 1 = q
  · have e2 : x + 1 = 0 + q * (x / q + 1) := by rw [Int.mul_add]; omega
    have e3 : (x + 1) % q = 0 := by rw [e2, Int.zero_add, Int.mul_emod_right]
    rw [if_pos e3, e2, div_shift _ _ _ h, Int.zero_ediv]
    omega
  · have e2 : x + 1 = (x % q + 1) + q * (x / q) := by omega
    have e3 : (x + 1) % q = x % q + 1 := by
      rw [e2, Int.add_mul_emod_self_left]
      exact Int.emod_eq_of_lt (by omega) (by omega)
    rw [if_neg (by omega)]
    rw [e2, div_shift _ _ _ h, Int.ediv_eq_zero_of_lt (by omega) (by omega)]
    omega
theorem hit_once (p q b : Int) (hg : Int.gcd p q = 1) (i j : Int) (hi : 0 ≤ i) (hij : i < j) (hj : j < q) (h1 : (p * i + b) % q = 0) (h2 : (p * j + b) % q = 0) : False := by
  have d1 := Int.dvd_of_emod_eq_zero h1
  have d2 := Int.dvd_of_emod_eq_zero h2
  have d3 : q ∣ p * (j - i) := by
    have := Int.dvd_sub d2 d1
    rw [show p * j + b - (p * i + b) = p * (j - i) by rw [Int.mul_sub]; omega] at this
    exact this
  have d4 : q ∣ j - i := by
    have n1 : q.natAbs ∣ p.natAbs * (j - i).natAbs := by
      rw [← Int.natAbs_mul]
      exact Int.natAbs_dvd_natAbs.mpr d3
    have n2 : Nat.Coprime q.natAbs p.natAbs := by
      unfold Nat.Coprime
      rw [Nat.gcd_comm]
      exact hg
    exact Int.natAbs_dvd_natAbs.mp (Nat.Coprime.dvd_of_dvd_mul_left n2 n1)
  have := Int.le_of_dvd (by omega) d4
  omega
theorem fs_step_le (p q b : Int) (hq : 0 < q) (hg : Int.gcd p q = 1) (n : Nat) (hn : (n : Int) ≤ q) :
    fs n p (b + 1) q - fs n p b q = 0 ∧ (∀ i : Nat, i < n → (p * i + (b + 1)) % q ≠ 0) ∨ fs n p (b + 1) q - fs n p b q = 1 ∧ (∃ i : Nat, i < n ∧ (p * i + (b + 1)) % q = 0) := by
  induction n with
  | zero => exact .inl ⟨rfl, fun i h => absurd h (by omega)⟩
  | succ n ih =>
    have e : fs (n + 1) p (b + 1) q - fs (n + 1) p b q = (fs n p (b + 1) q - fs n p b q) + ((p * n + (b + 1)) / q - (p * n + b) / q) := by
      show fs n p (b + 1) q + (p * n + (b + 1)) / q - (fs n p b q + (p * n + b) / q) = _
      omega
    have s := step_div (p * n + b) q hq
    rw [show p * (n : Int) + b + 1 = p * n + (b + 1) by omega] at s
    rw [e]
    rcases ih (by omega) with ⟨h1, h2⟩ | ⟨h1, i, hi, h2⟩
    · by_cases hc : (p * (n : Int) + (b + 1)) % q = 0
      · rw [if_pos hc] at s
        exact .inr ⟨by omega, n, by omega, hc⟩
      · rw [if_neg hc] at s
        refine .inl ⟨by omega, fun i hi => ?_⟩
        by_cases hin : i = n
        · subst hin; exact hc
        · exact h2 i (by omega)
    · have hc : ¬ (p * (n : Int) + (b + 1)) % q = 0 := fun z => hit_once p q (b + 1) hg i n (by omega) (by omega) (by omega) h2 z
      rw [if_neg hc] at s
      exact .inr ⟨by omega, i, by omega, h2⟩
theorem fs_step (p q b : Int) (hq : 0 < q) (hg : Int.gcd p q = 1) : fs q.toNat p (b + 1) q = fs q.toNat p b q + 1 := by
  have hle : ∀ b, fs q.toNat p (b + 1) q - fs q.toNat p b q ≤ 1 := fun b => by
    rcases fs_step_le p q b hq hg q.toNat (by omega) with ⟨h, _⟩ | ⟨h, _⟩ <;> omega
  have many : ∀ (k : Nat) (b : Int), fs q.toNat p (b + k) q - fs q.toNat p b q ≤ k := fun k => by
    induction k with
    | zero => intro b; simp
    | succ k ih =>
      intro b
      have h1 := ih b
      have h2 := hle (b + k)
      rw [show b + ((k + 1 : Nat) : Int) = b + k + 1 by omega]
      omega
  have up := fs_up q.toNat p b q hq
  have h1 := many (q.toNat - 1) (b + 1)
  rw [show b + 1 + ((q.toNat - 1 : Nat) : Int) = b + q by omega] at h1
  have h2 := hle b
  omega
theorem fs_from (p q : Int) (hq : 0 < q) (hg : Int.gcd p q = 1) (k : Nat) (b : Int) : fs q.toNat p (b + k) q = fs q.toNat p b q + k := by
  induction k with
  | zero => simp
  | succ k ih =>
    rw [show b + ((k + 1 : Nat) : Int) = b + k + 1 by omega, fs_step p q _ hq hg, ih]
    omega
theorem fs_any (p q b : Int) (hq : 0 < q) (hg : Int.gcd p q = 1) : fs q.toNat p b q = fs q.toNat p 0 q + b := by
  rcases Int.lt_or_le b 0 with h | h
  · have := fs_from p q hq hg (-b).toNat b
    rw [show b + ((-b).toNat : Int) = 0 by omega] at this
    omega
  · have := fs_from p q hq hg b.toNat 0
    rw [show 0 + (b.toNat : Int) = b by omega] at this
    omega
/-- terms in reverse order -/
theorem fs_rev (n : Nat) (a b q : Int) : fs n a b q = fs n (-a) (a * (n - 1) + b) q := by
  induction n with
  | zero => rfl
  | succ n ih =>
    rw [fs_first n (-a)]
    show fs n a b q + (a * n + b) / q = _
    rw [ih, show a * (((n + 1 : Nat) : Int) - 1) + b = a * n + b by rw [show ((n + 1 : Nat) : Int) - 1 = n by omega],
      show a * (n : Int) + b + -a = a * (n - 1) + b by rw [Int.mul_sub]; omega]
    omega
/-- negated terms -/
theorem fs_neg (n : Nat) (a b q : Int) (hq : 0 < q) : fs n (-a) (-b) q = - fs n a (b + q - 1) q := by
  induction n with
  | zero => rfl
  | succ n ih =>
    show fs n (-a) (-b) q + (-a * n + -b) / q = - (fs n a (b + q - 1) q + (a * n + (b + q - 1)) / q)
    rw [ih]
    have h1 := div_neg1 (a * n + (b - 1)) q hq
    have h2 := div_shift (a * n + (b - 1)) 1 q hq
    rw [show -1 - (a * (n : Int) + (b - 1)) = -a * n + -b by rw [Int.neg_mul]; omega] at h1
    rw [show a * (n : Int) + (b - 1) + q * 1 = a * n + (b + q - 1) by omega] at h2
    omega
theorem fs_cycle (p q b : Int) (hq : 0 < q) (hg : Int.gcd p q = 1) : fs q.toNat p b q = b + (p - 1) * (q - 1) / 2 := by
  have h0 := fs_any p q b hq hg
  have r := fs_rev q.toNat p 0 q
  have ng := fs_neg q.toNat p (-(p * (q - 1))) q hq
  rw [show ((q.toNat : Nat) : Int) = q by omega, Int.add_zero] at r
  rw [Int.neg_neg] at ng
  have h2 := fs_any p q (-(p * (q - 1)) + q - 1) hq hg
  have key : 2 * fs q.toNat p 0 q = (p - 1) * (q - 1) := by
    have e : (p - 1) * (q - 1) = p * (q - 1) - (q - 1) := by rw [Int.sub_mul, Int.one_mul]
    omega
  have : (p - 1) * (q - 1) / 2 = fs q.toNat p 0 q := by
    rw [← key, Int.mul_ediv_cancel_left _ (by decide)]
  omega
/-- Hermite's identity -/
theorem fs_hermite (k y : Int) (hk : 0 < k) : fs k.toNat 1 y k = y := by
  have := fs_cycle 1 k y hk (by simp [Int.gcd])
  rw [this]
  simp
/-- mirrored -/
theorem fs_mirror (n : Nat) (p q c s : Int) (hq : 0 < q) : fs n p (p * (1 - (s + n)) + (q - 1 - c)) q = - fs n p (p * s + c) q := by
  induction n with
  | zero => rfl
  | succ n ih =>
    rw [fs_first]
    show _ = -(fs n p (p * s + c) q + (p * n + (p * s + c)) / q)
    have e1 : p * (1 - (s + ((n + 1 : Nat) : Int))) + (q - 1 - c) + p = p * (1 - (s + n)) + (q - 1 - c) := by
      rw [show (1 - (s + ((n + 1 : Nat) : Int))) = (1 - (s + n)) - 1 by omega, Int.mul_sub p _ 1]
      omega
    rw [e1, ih]
    have h1 := div_neg1 (p * n + (p * s + c)) q hq
    have h2 := div_shift (-1 - (p * n + (p * s + c))) 1 q hq
    rw [show -1 - (p * (n : Int) + (p * s + c)) + q * 1 = p * (1 - (s + ((n + 1 : Nat) : Int))) + (q - 1 - c) by
      rw [show (1 - (s + ((n + 1 : Nat) : Int))) = -(n : Int) - s by omega, Int.mul_sub, Int.mul_neg]; omega] at h2
    omega
theorem fs_lowest (n : Nat) (p q c s : Int) (hq : 1 ≤ q) : fs n (p / gg p q) (p / gg p q * s + c / gg p q) (q / gg p q) = fs n p (p * s + c) q := by
  have hg := gg_pos (p := p) hq
  induction n with
  | zero => rfl
  | succ n ih =>
    show fs n (p / gg p q) (p / gg p q * s + c / gg p q) (q / gg p q) + (p / gg p q * n + (p / gg p q * s + c / gg p q)) / (q / gg p q) = fs n p (p * s + c) q + (p * n + (p * s + c)) / q
    rw [ih]
    have e1 : p / gg p q * n + (p / gg p q * s + c / gg p q) = (p * n + (p * s + c)) / gg p q := by
      have : p * n + (p * s + c) = c + gg p q * (p / gg p q * n + p / gg p q * s) := by
        rw [Int.mul_add, ← Int.mul_assoc, ← Int.mul_assoc, ← gg_p]
        omega
      rw [this, div_shift _ _ _ hg]
      omega
    have e2 : (p * n + (p * s + c)) / gg p q / (q / gg p q) = (p * n + (p * s + c)) / q := by
      rw [Int.ediv_ediv_of_nonneg (Int.le_of_lt hg), ← gg_q]
    rw [e1, e2]
theorem sum_map_add {α : Type} (l : List α) (f g : α → Int) : (l.map fun x => f x + g x).sum = (l.map f).sum + (l.map g).sum := by
  induction l with
  | nil => rfl
  | cons x r ih => simp only [List.map_cons, List.sum_cons, ih]; omega
theorem range_fs (k : Nat) (a b q : Int) : ((List.range k).map fun (j : Nat) => (a * j + b) / q).sum = fs k a b q := by
  induction k with
  | zero => rfl
  | succ k ih =>
    rw [List.range_succ, List.map_append, List.sum_append, ih]
    show _ + ((a * k + b) / q + 0) = fs k a b q + (a * k + b) / q
    omega
theorem fs_thin (n : Nat) (p q b k : Int) (hq : 0 < q) (hk : 0 < k) : ((List.range k.toNat).map fun (j : Nat) => fs n p (b + q * j) (q * k)).sum = fs n p b q := by
  induction n with
  | zero =>
    show ((List.range k.toNat).map fun _ => (0 : Int)).sum = 0
    induction k.toNat with
    | zero => rfl
    | succ m ih => rw [List.range_succ, List.map_append, List.sum_append, ih]; rfl
  | succ n ih =>
    have e : (List.range k.toNat).map (fun (j : Nat) => fs (n + 1) p (b + q * j) (q * k)) = (List.range k.toNat).map (fun (j : Nat) => fs n p (b + q * j) (q * k) + (1 * (j : Int) + (p * n + b) / q) / k) := by
      apply List.map_congr_left
      intro j _
      show fs n p (b + q * j) (q * k) + (p * n + (b + q * j)) / (q * k) = _
      rw [← Int.ediv_ediv_of_nonneg (Int.le_of_lt hq), show p * (n : Int) + (b + q * j) = (p * n + b) + q * j by omega, div_shift _ _ _ hq, Int.one_mul, Int.add_comm]
      rw [Int.add_comm (j : Int)]
      omega
    rw [e, sum_map_add, ih, range_fs, fs_hermite _ _ hk]
    rfl
theorem fs_sample (n : Nat) (p q b k : Int) (hk : 0 ≤ k) : ((List.range k.toNat).map fun (j : Nat) => fs n (p * k) (b + p * j) q).sum = fs (k.toNat * n) p b q := by
  induction n with
  | zero =>
    show ((List.range k.toNat).map fun _ => (0 : Int)).sum = 0
    induction k.toNat with
    | zero => rfl
    | succ m ih => rw [List.range_succ, List.map_append, List.sum_append, ih]; rfl
  | succ n ih =>
    have e : (List.range k.toNat).map (fun (j : Nat) => fs (n + 1) (p * k) (b + p * j) q) = (List.range k.toNat).map (fun (j : Nat) => fs n (p * k) (b + p * j) q + (p * (j : Int) + (p * ((k.toNat * n : Nat) : Int) + b)) / q) := by
      apply List.map_congr_left
      intro j _
      show fs n (p * k) (b + p * j) q + (p * k * n + (b + p * j)) / q = _
      rw [Int.natCast_mul, show ((k.toNat : Nat) : Int) = k by omega, ← Int.mul_assoc]
      rw [show p * k * (n : Int) + (b + p * j) = p * j + (p * k * n + b) by omega]
    rw [e, sum_map_add, ih, range_fs, Nat.mul_succ, fs_add]
end Lf
namespace Lf
theorem fs_lin (n : Nat) (a b m i j : Int) (hm : 0 < m) : fs n (a + i * m) (b + j * m) m = fs n a b m + i * tri n + j * n := by
  induction n with
  | zero => simp [fs, tri_zero]
  | succ n ih =>
    show fs n (a + i * m) (b + j * m) m + ((a + i * m) * n + (b + j * m)) / m = fs n a b m + (a * n + b) / m + i * tri ((n + 1 : Nat) : Int) + j * ((n + 1 : Nat) : Int)
    rw [ih, show (a + i * m) * (n : Int) + (b + j * m) = (a * n + b) + m * (i * n + j) by
      rw [Int.add_mul, Int.mul_add, Int.mul_comm i m, Int.mul_assoc, Int.mul_comm j m]; omega, div_shift _ _ _ hm, Int.natCast_add, Int.natCast_one, tri_succ, Int.mul_add, Int.mul_add]
    omega
theorem fs_scale (n : Nat) (a b m k : Int) (hk : 0 < k) : fs n (a * k) (b * k) (m * k) = fs n a b m := by
  induction n with
  | zero => rfl
  | succ n ih =>
    show fs n (a * k) (b * k) (m * k) + (a * k * n + b * k) / (m * k) = fs n a b m + (a * n + b) / m
    rw [ih, show a * k * (n : Int) + b * k = (a * n + b) * k by rw [Int.add_mul, Int.mul_right_comm], Int.mul_ediv_mul_of_pos_left _ _ hk]
theorem fs_last (n a b m : Int) (hn : 0 < n) : fs n.toNat a b m - fs (n - 1).toNat a b m = (a * (n - 1) + b) / m := by
  have e : n.toNat = (n - 1).toNat + 1 := by omega
  rw [e]
  show fs (n - 1).toNat a b m + (a * ((n - 1).toNat : Int) + b) / m - fs (n - 1).toNat a b m = _
  rw [show ((n - 1).toNat : Int) = n - 1 by omega]
  omega
theorem fs_part (n k a b m : Int) (h0 : 0 ≤ k) (h1 : k ≤ n) : fs k.toNat a b m + fs (n - k).toNat a (a * k + b) m = fs n.toNat a b m := by
  rw [show n.toNat = k.toNat + (n - k).toNat by omega, fs_add, show ((k.toNat : Nat) : Int) = k by omega]
theorem Bd.grow3 {k : Nat} {r d : Int} (h0 : 0 ≤ r) (h : Bd k r) (d0 : 0 ≤ d) (d1 : d < 1000) : Bd (k + 10) (1000 * r + d) := by
  unfold Bd at *
  have e : (2 : Nat) ^ (k + 10) = 2 ^ k * 1024 := by rw [Nat.pow_add]
  rw [e]
  generalize (2 : Nat) ^ k = m at h
  omega
theorem Bd.grow1 {k : Nat} {r d : Int} (h0 : 0 ≤ r) (h : Bd k r) (d0 : 0 ≤ d) (d1 : d < 10) : Bd (k + 4) (10 * r + d) := by
  unfold Bd at *
  have e : (2 : Nat) ^ (k + 4) = 2 ^ k * 16 := by rw [Nat.pow_add]
  rw [e]
  generalize (2 : Nat) ^ k = m at h
  omega
end Lf
namespace Lf
/-! ### events -/
theorem gal {p q : Int} (c m t : Int) (hp : 1 ≤ p) (hq : 1 ≤ q) : m ≤ (p * t + c) / q ↔ (q * m + (p - 1 - c)) / p ≤ t := by
  rw [Int.le_ediv_iff_mul_le (by omega), ← Int.lt_add_one_iff (a := (q * m + (p - 1 - c)) / p), Int.ediv_lt_iff_lt_mul (by omega), Int.mul_comm m q, Int.add_mul, Int.one_mul, Int.mul_comm t p]
  omega
theorem ct_mono {p q c s t : Int} (hp : 0 ≤ p) (hq : 1 ≤ q) (h : s ≤ t) : (p * s + c) / q ≤ (p * t + c) / q := by
  apply Int.ediv_le_ediv (by omega)
  have := Int.mul_le_mul_of_nonneg_left h hp
  omega
theorem ev_at {p q c m t : Int} (hp : 1 ≤ p) (hq : 1 ≤ q) (h1 : (p * (t - 1) + c) / q < m) (h2 : m ≤ (p * t + c) / q) : (q * m + (p - 1 - c)) / p = t := by
  have a := (gal c m t hp hq).mp h2
  have b : ¬ (q * m + (p - 1 - c)) / p ≤ t - 1 := fun h => by
    have := (gal c m (t - 1) hp hq).mpr h
    omega
  omega
theorem fs_const (k : Nat) (a b m v : Int) (h : ∀ i : Nat, i < k → (a * i + b) / m = v) : fs k a b m = k * v := by
  induction k with
  | zero => simp [fs]
  | succ k ih =>
    show fs k a b m + (a * k + b) / m = ((k + 1 : Nat) : Int) * v
    rw [ih (fun i hi => h i (by omega)), h k (by omega), Int.natCast_add, Int.natCast_one, Int.add_mul]
    omega
/-- the sum of the counts of a range by the times of its events -/
theorem fs_dual (p q c s : Int) (hp : 1 ≤ p) (hq : 1 ≤ q) (n : Nat) :
    fs n p (p * s + c) q = n * ((p * (s - 1) + c) / q) + ((p * (s + n - 1) + c) / q - (p * (s - 1) + c) / q) * (s + n) - fs ((p * (s + n - 1) + c) / q - (p * (s - 1) + c) / q).toNat q (q * ((p * (s - 1) + c) / q + 1) + (p - 1 - c)) p := by
  induction n with
  | zero =>
    rw [show s + ((0 : Nat) : Int) - 1 = s - 1 by omega, Int.sub_self]
    simp [fs]
  | succ n ih =>
    show fs n p (p * s + c) q + (p * n + (p * s + c)) / q = _
    rw [ih]
    have e0 : p * (n : Int) + (p * s + c) = p * (s + ((n + 1 : Nat) : Int) - 1) + c := by
      rw [show s + ((n + 1 : Nat) : Int) - 1 = s + n by omega, Int.mul_add]
      omega
    rw [e0]
    have m1 : (p * (s - 1) + c) / q ≤ (p * (s + n - 1) + c) / q := ct_mono (by omega) hq (by omega)
    have m2 : (p * (s + n - 1) + c) / q ≤ (p * (s + ((n + 1 : Nat) : Int) - 1) + c) / q := ct_mono (by omega) hq (by omega)
    have key : ∀ i : Nat, (i : Int) < (p * (s + ((n + 1 : Nat) : Int) - 1) + c) / q - (p * (s + n - 1) + c) / q → (q * ((p * (s + n - 1) + c) / q + 1 + i) + (p - 1 - c)) / p = s + n := fun i hi => by
      apply ev_at hp hq
      · show (p * (s + n - 1) + c) / q < _
        omega
      · rw [show s + (n : Int) = s + ((n + 1 : Nat) : Int) - 1 by omega] at *
        omega
    generalize hl : (p * (s - 1) + c) / q = low at *
    generalize hh : (p * (s + n - 1) + c) / q = hi at *
    generalize hh2 : (p * (s + ((n + 1 : Nat) : Int) - 1) + c) / q = hi2 at *
    rw [show (hi2 - low).toNat = (hi - low).toNat + (hi2 - hi).toNat by omega, fs_add, show ((hi - low).toNat : Int) = hi - low by omega]
    have fc := fs_const (hi2 - hi).toNat q (q * (hi - low) + (q * (low + 1) + (p - 1 - c))) p (s + n) (fun i h => by
      have := key i (by omega)
      rw [show q * (i : Int) + (q * (hi - low) + (q * (low + 1) + (p - 1 - c))) = q * (hi + 1 + i) + (p - 1 - c) by
        have : q * (hi + 1 + i) = q * i + q * (hi - low) + q * (low + 1) := by rw [← Int.mul_add, ← Int.mul_add]; congr 1; omega
        omega]
      exact this)
    rw [fc, show ((hi2 - hi).toNat : Int) = hi2 - hi by omega]
    rw [show s + ((n + 1 : Nat) : Int) = s + n + 1 by omega, show ((n + 1 : Nat) : Int) = n + 1 by omega]
    generalize s + (n : Int) = x
    have e3 : (hi2 - low) * (x + 1) = hi2 * x - low * x + hi2 - low := by rw [Int.mul_add, Int.sub_mul]; omega
    have e4 : (hi - low) * x = hi * x - low * x := by rw [Int.sub_mul]
    have e5 : (hi2 - hi) * x = hi2 * x - hi * x := by rw [Int.sub_mul]
    have e6 : ((n : Int) + 1) * low = n * low + low := by rw [Int.add_mul, Int.one_mul]
    rw [e3, e4, e5, e6]
    omega
theorem ct_fast {p q c s : Int} (hq : 1 ≤ q) (h : q ≤ p) (n : Nat) : (n : Int) ≤ (p * (s + n) + c) / q - (p * s + c) / q := by
  induction n with
  | zero => simp
  | succ n ih =>
    have : (p * (s + n) + c) / q + 1 ≤ (p * (s + ((n + 1 : Nat) : Int)) + c) / q := by
      have e := div_shift (p * (s + n) + c) 1 q (by omega)
      rw [← e]
      apply Int.ediv_le_ediv (by omega)
      rw [show s + ((n + 1 : Nat) : Int) = s + n + 1 by omega, Int.mul_add p (s + n) 1]
      omega
    omega
theorem ct_slow {p q c s : Int} (hq : 1 ≤ q) (h : p ≤ q) (n : Nat) : (p * (s + n) + c) / q - (p * s + c) / q ≤ n := by
  induction n with
  | zero => simp
  | succ n ih =>
    have : (p * (s + ((n + 1 : Nat) : Int)) + c) / q ≤ (p * (s + n) + c) / q + 1 := by
      have e := div_shift (p * (s + n) + c) 1 q (by omega)
      rw [← e]
      apply Int.ediv_le_ediv (by omega)
      rw [show s + ((n + 1 : Nat) : Int) = s + n + 1 by omega, Int.mul_add p (s + n) 1]
      omega
    omega
end Lf

namespace Lf
open PySem PySem.Spec PyProof.Rows L2
def topS (i : Nat) : Stmt := PySem.Challenge.pw_leapfit_k30_whole_rates_have_rules.main.body.getD i (.Pass ⟨0, 0, 0, 0⟩)
/-! ### heaps -/
theorem len10 {n : Nat} (h : n ≤ 1000) : n ≤ sizeLine := Nat.le_of_lt (small1000 h)
def penD (l : Addr) (t r : Int) : List (Key × V) := [(Sum.inr "cells", .ref l), (Sum.inr "spot", .int t), (Sum.inr "more", .int r)]
/-- all but the source's own dict stays -/
structure Fr (H H' : Hp) : Prop where
  k : ∀ b o, H b = some o → (∀ x : Addr × Int × Int, o ≠ .dK (penD x.1 x.2.1 x.2.2)) → H' b = some o
theorem Fr.t {H H' : Hp} (f : Fr H H') (b : Addr) (xs : List V) (h : H b = some (.tup xs)) : H' b = some (.tup xs) := f.k b _ h fun _ z => by cases z
theorem Fr.l {H H' : Hp} (f : Fr H H') (b : Addr) (xs : List V) (h : H b = some (.lst xs)) : H' b = some (.lst xs) := f.k b _ h fun _ z => by cases z
theorem Fr.refl (H : Hp) : Fr H H := ⟨fun _ _ h _ => h⟩
theorem Fr.trans {H H1 H2 : Hp} (a : Fr H H1) (b : Fr H1 H2) : Fr H H2 := ⟨fun c o h n => b.k c o (a.k c o h n) n⟩
theorem Fr.same {H H1 : Hp} (a : Same H H1) : Fr H H1 := ⟨fun c o h _ => a c _ h⟩
theorem sm_upd {H : Hp} {p : Addr} {o : HO} (h : H p = none) : Same H (upd H p o) := fun b x e => by
  rw [upd_ne (ne_of_none e h)]
  exact e
theorem Fr.new {H : Hp} {p : Addr} {o : HO} (h : H p = none) : Fr H (upd H p o) := Fr.same (sm_upd h)
theorem Fr.dict {H : Hp} {p l : Addr} {t r : Int} {o : HO} (h : H p = some (.dK (penD l t r))) : Fr H (upd H p o) :=
  ⟨fun b o e n => by rw [upd_ne (ne_of e h (n (l, t, r)))]; exact e⟩
theorem Fr.d0 {H H' : Hp} (f : Fr H H') (b : Addr) (h : H b = some (.dK [])) : H' b = some (.dK []) := f.k b _ h fun _ z => by cases z
/-! ### the source of numbers -/
theorem sct : ¬ ("cells" : Str) = "spot" := by decide +kernel
theorem scr : ¬ ("cells" : Str) = "more" := by decide +kernel
theorem str_ : ¬ ("spot" : Str) = "more" := by decide +kernel
theorem srt : ¬ ("more" : Str) = "spot" := by decide +kernel
theorem kct : ¬ (Sum.inr ("cells" : Str) : Key) = Sum.inr ("spot" : Str) := fun h => sct (Sum.inr.inj h)
theorem kcr : ¬ (Sum.inr ("cells" : Str) : Key) = Sum.inr ("more" : Str) := fun h => scr (Sum.inr.inj h)
theorem ktr : ¬ (Sum.inr ("spot" : Str) : Key) = Sum.inr ("more" : Str) := fun h => str_ (Sum.inr.inj h)
theorem krt : ¬ (Sum.inr ("more" : Str) : Key) = Sum.inr ("spot" : Str) := fun h => srt (Sum.inr.inj h)
theorem dg_rest {H : Hp} {a l : Addr} {t r : Int} (h : H a = some (.dK (penD l t r))) : DGet H a (.str "more") (some (.int r)) := by
  have e : valV (penD l t r) (Sum.inr "more" : Key) = some (.int r) := by
    unfold penD
    rw [valV_neg kcr, valV_neg ktr, valV_pos rfl]
  rw [← e]
  exact DGet.k (k := Sum.inr "more") h
theorem dg_turn {H : Hp} {a l : Addr} {t r : Int} (h : H a = some (.dK (penD l t r))) : DGet H a (.str "spot") (some (.int t)) := by
  have e : valV (penD l t r) (Sum.inr "spot" : Key) = some (.int t) := by
    unfold penD
    rw [valV_neg kct, valV_pos rfl]
  rw [← e]
  exact DGet.k (k := Sum.inr "spot") h
theorem dg_cells {H : Hp} {a l : Addr} {t r : Int} (h : H a = some (.dK (penD l t r))) : DGet H a (.str "cells") (some (.ref l)) := by
  have e : valV (penD l t r) (Sum.inr "cells" : Key) = some (.ref l) := by
    unfold penD
    rw [valV_pos rfl]
  rw [← e]
  exact DGet.k (k := Sum.inr "cells") h
theorem dp_rest {H : Hp} {a l : Addr} {t r y : Int} (h : H a = some (.dK (penD l t r))) : DPut H a (.str "more") (.int y) (upd H a (.dK (penD l t y))) := by
  have e : putK (penD l t r) (Sum.inr "more" : Key) (.int y) = penD l t y := by
    simp [putK, penD, scr, str_]
  rw [← e]
  exact DPut.k (k := Sum.inr "more") h (by show 3 < sizeLine; exact small1000 (by decide))
theorem dp_turn {H : Hp} {a l : Addr} {t r y : Int} (h : H a = some (.dK (penD l t r))) : DPut H a (.str "spot") (.int y) (upd H a (.dK (penD l y r))) := by
  have e : putK (penD l t r) (Sum.inr "spot" : Key) (.int y) = penD l y r := by
    simp [putK, penD, sct, srt]
  rw [← e]
  exact DPut.k (k := Sum.inr "spot") h (by show 3 < sizeLine; exact small1000 (by decide))
/-- where the source stands: its dict, its list of cells -/
structure PA where
  d : Addr
  l : Addr
instance : Coe PA Addr := ⟨PA.d⟩
structure Pen (H : Hp) (a : PA) (n : Nat) : Prop where
  ex : ∃ (cs : List Int) (t r : Int), H a.d = some (.dK (penD a.l t r)) ∧ H a.l = some (.lst (cs.map V.int)) ∧ cs.length ≤ 63 ∧ 0 ≤ t ∧ t ≤ n ∧ 0 ≤ r
theorem Pen.same {H H' : Hp} {a : PA} {n : Nat} (p : Pen H a n) (s : Same H H') : Pen H' a n := by
  obtain ⟨cs, t, r, h1, h2, h3⟩ := p.ex
  exact ⟨cs, t, r, s _ _ h1, s _ _ h2, h3⟩
theorem Pen.new {H : Hp} {a : PA} {p : Addr} {n : Nat} {o : HO} (q : Pen H a n) (h : H p = none) : Pen (upd H p o) a n := q.same (sm_upd h)
theorem Pen.mono {H : Hp} {a : PA} {n m : Nat} (p : Pen H a n) (h : n ≤ m) : Pen H a m := by
  obtain ⟨cs, t, r, h1, h2, h3, h4, h5, h6⟩ := p.ex
  exact ⟨cs, t, r, h1, h2, h3, h4, by omega, h6⟩
theorem Pen.put {H : Hp} {a l : Addr} {cs : List Int} {t r : Int} {n : Nat} {kvs : List (Key × V)} (ha : H a = some (.dK kvs)) (hl : H l = some (.lst (cs.map V.int))) (h1 : cs.length ≤ 63) (h2 : 0 ≤ t) (h3 : t ≤ n) (h4 : 0 ≤ r) :
    Pen (upd H a (.dK (penD l t r))) ⟨a, l⟩ n :=
  ⟨cs, t, r, upd_same, by show upd H a _ l = _; rw [upd_ne (ne_of hl ha (by intro z; cases z))]; exact hl, h1, h2, h3, h4⟩
/-- an address that was free when the source stood already -/
theorem Pen.over {H H' : Hp} {a : PA} {L : Addr} {n m : Nat} {o : HO} (p0 : Pen H a m) (hL : H L = none) (p : Pen H' a n) : Pen (upd H' L o) a n := by
  obtain ⟨_, _, _, g1, g2, _⟩ := p0.ex
  obtain ⟨cs, t, r, h1, h2, h3⟩ := p.ex
  exact ⟨cs, t, r, by rw [upd_ne (ne_of_none g1 hL)]; exact h1, by rw [upd_ne (ne_of_none g2 hL)]; exact h2, h3⟩
theorem Fr.over {H H' : Hp} {L : Addr} {o : HO} (f : Fr H H') (hL : H L = none) : Fr H (upd H' L o) :=
  ⟨fun b o e n => by rw [upd_ne (ne_of_none e hL)]; exact f.k _ _ e n⟩
/-! ### defs by their names -/
def Df (K : PySem.W.Frag) (mg : Str → Option Value) (x : Str) (st : Stmt) (ps : List Str) : Prop := ∃ f fd, Fun K x x st f fd ∧ mg x = some (.ref f) ∧ Binds K fd ps []
structure Bi (mg : Str → Option Value) : Prop where
  len_ : mg "len" = none
  abs_ : mg "abs" = none
  list_ : mg "list" = none
  range_ : mg "range" = none
  sum_ : mg "sum" = none
  repr_ : mg "repr" = none
  max_ : mg "max" = none
  min_ : mg "min" = none
  reversed_ : mg "reversed" = none
  divmod_ : mg "divmod" = none
  isinstance_ : mg "isinstance" = none
  all_ : mg "all" = none
  int_ : mg "int" = none
  bool_ : mg "bool" = none
  tuple_ : mg "tuple" = none
  sorted_ : mg "sorted" = none
  zip_ : mg "zip" = none
  enumerate_ : mg "enumerate" = none
  set_ : mg "set" = none
  str_ : mg "str" = none
theorem bt_len : bootBuiltins ("len" : Str) = Option.some (Value.builtin "len") := by decide +kernel
theorem bt_abs : bootBuiltins ("abs" : Str) = Option.some (Value.builtin "abs") := by decide +kernel
theorem bt_sum : bootBuiltins ("sum" : Str) = Option.some (Value.builtin "sum") := by decide +kernel
theorem bt_repr : bootBuiltins ("repr" : Str) = Option.some (Value.builtin "repr") := by decide +kernel
theorem bt_max : bootBuiltins ("max" : Str) = Option.some (Value.builtin "max") := by decide +kernel
theorem bt_min : bootBuiltins ("min" : Str) = Option.some (Value.builtin "min") := by decide +kernel
theorem bt_divmod : bootBuiltins ("divmod" : Str) = Option.some (Value.builtin "divmod") := by decide +kernel
theorem bt_isinstance : bootBuiltins ("isinstance" : Str) = Option.some (Value.builtin "isinstance") := by decide +kernel
theorem bt_all : bootBuiltins ("all" : Str) = Option.some (Value.builtin "all") := by decide +kernel
theorem bt_set : bootBuiltins ("set" : Str) = Option.some (Value.type "set") := by decide +kernel
theorem bt_str : bootBuiltins ("str" : Str) = Option.some (Value.type "str") := by decide +kernel
theorem bt_sorted : bootBuiltins ("sorted" : Str) = Option.some (Value.builtin "sorted") := by decide +kernel
theorem bt_list : bootBuiltins ("list" : Str) = Option.some (Value.type "list") := by decide +kernel
theorem bt_int : bootBuiltins ("int" : Str) = Option.some (Value.type "int") := by decide +kernel
theorem bt_bool : bootBuiltins ("bool" : Str) = Option.some (Value.type "bool") := by decide +kernel
theorem bt_tuple : bootBuiltins ("tuple" : Str) = Option.some (Value.type "tuple") := by decide +kernel
section
variable {P : Program} {w : World} {K : PySem.W.Frag} {mg : Str → Option Value} {base : Heap}
theorem cal_of {x : Str} {st : Stmt} {N ps : List Str} {k : Nat} {sp : Sp} (D : Df K mg x st ps) (S : FnScope N ps (defScope st)) (len : ∀ vs H Q E, sp vs H Q E → vs.length = ps.length)
    (hb : ∀ (f : Addr) (cdv : Value) (A : Around) (outer : List Env) (s : Shared) (H : Hp) (vs : List V) (Q : VK) (E : XK), Room k (A.deeper (envOfC x (defScope st) s.heap.objs.size f cdv)) → sp vs H Q E →
      ∃ t, PSs (cxOf CX0 P w K mg base N x (defScope st) f cdv A outer s H E).nox (defBody st) t ∧ t { nx := fun _ H' => Q .non H', rt := Q } (start N vs) H) : C8.Cal P w K mg base (k + 1) x sp [] := by
  obtain ⟨f, fd, F, hm, b⟩ := D
  exact ⟨⟨f, fd, ps, [], F.ok S len (fun cdv A outer s H vs Q E hr h => hb f cdv A outer s H vs Q E hr h), hm, F.kp, b, .nil⟩⟩
/-- the same, its own row known (for calls with keywords) -/
def CalF (P : Program) (w : World) (K : PySem.W.Frag) (mg : Str → Option Value) (base : Heap) (k : Nat) (x : Str) (st : Stmt) (ps : List Str) (sp : Sp) : Prop :=
  ∃ f fd, Fun K x x st f fd ∧ mg x = some (.ref f) ∧ FnOk P w K mg base CX0 k f fd ps sp ∧ Binds K fd ps []
theorem calF_of {x : Str} {st : Stmt} {N ps : List Str} {k : Nat} {sp : Sp} (D : Df K mg x st ps) (S : FnScope N ps (defScope st)) (len : ∀ vs H Q E, sp vs H Q E → vs.length = ps.length)
    (hb : ∀ (f : Addr) (cdv : Value) (A : Around) (outer : List Env) (s : Shared) (H : Hp) (vs : List V) (Q : VK) (E : XK), Room k (A.deeper (envOfC x (defScope st) s.heap.objs.size f cdv)) → sp vs H Q E →
      ∃ t, PSs (cxOf CX0 P w K mg base N x (defScope st) f cdv A outer s H E).nox (defBody st) t ∧ t { nx := fun _ H' => Q .non H', rt := Q } (start N vs) H) : CalF P w K mg base (k + 1) x st ps sp := by
  obtain ⟨f, fd, F, hm, b⟩ := D
  exact ⟨f, fd, F, hm, F.ok S len (fun cdv A outer s H vs Q E hr h => hb f cdv A outer s H vs Q E hr h), b⟩
theorem CalF.cal {x : Str} {st : Stmt} {ps : List Str} {k : Nat} {sp : Sp} (c : CalF P w K mg base k x st ps sp) : C8.Cal P w K mg base k x sp [] := by
  obtain ⟨f, fd, F, hm, G, b⟩ := c
  exact ⟨⟨f, fd, ps, [], G, hm, F.kp, b, .nil⟩⟩
/-! ### _law_pen -/
theorem cut_ints (ns : List Int) : ∃ cs : List Int, cutV (ns.map V.int) none (some 63) = cs.map V.int ∧ cs.length ≤ 63 := by
  refine ⟨ns.take 63, ?_, by rw [List.length_take]; omega⟩
  unfold cutV
  rw [HT.sIx_none, show HT.sIx (ns.map V.int).length (ns.map V.int).length (some 63) = min 63 (ns.map V.int).length from HT.sIx_nat _ _ 63]
  rw [List.drop_zero, Nat.sub_zero, List.map_take, List.length_map]
  by_cases h : 63 ≤ ns.length
  · rw [Nat.min_eq_left h]
  · rw [Nat.min_eq_right (by omega), List.take_of_length_le (by rw [List.length_map]; omega), List.take_of_length_le (by rw [List.length_map]; omega)]
def spPen (K : PySem.W.Frag) : Sp := fun vs H Q _ => ∃ (s : Addr) (ns : List Int), vs = [.ref s] ∧ SqL K H s (ns.map V.int) ∧ ∀ (a : PA) H', Pen H' a 0 → Same H H' → Q (.ref a) H'
abbrev s_l_pen : Stmt := topS 26
abbrev N_l_pen : List Str := ["_law_script"]
abbrev P_l_pen : List Str := ["_law_script"]
theorem sc_l_pen : FnScope N_l_pen P_l_pen (defScope s_l_pen) := ⟨rfl, rfl, rfl, by decide +kernel, rfl, by decide +kernel, by decide +kernel⟩
theorem ok_l_pen (D : Df K mg "_law_pen" s_l_pen P_l_pen) (B : Bi mg) : C8.Cal P w K mg base 1 "_law_pen" (spPen K) [] := by
  refine cal_of D sc_l_pen (fun vs H Q E h => ?_) (fun f cdv A outer s H vs Q E hr h => ?_)
  · obtain ⟨a, ns, rfl, _⟩ := h
    rfl
  · obtain ⟨a, ns, rfl, hS, q⟩ := h
    refine ⟨_, (pss_one (ps_ret (pe_disp (pps_cons pe_str (pe_callTy (call_list_of) (by rfl) B.list_ bt_list (pa_cons (pe_slice sl_list (pv 0) po_none (po_some pe_int)) pa_nil)) (pps_cons pe_str pe_int (pps_cons pe_str pe_int pps_nil))) (by rfl) (by rfl) (fun z => by cases z) (by decide)))), ?_⟩
    refine fun p np => ?_
    have s1 : Same H (upd H p (.dK [])) := sm_upd np
    refine ⟨_, rfl, 63, rfl, a, _, rfl, s1.seq hS, fun c nc => ?_⟩
    obtain ⟨cs, ec, hc⟩ := cut_ints ns
    rw [ec]
    refine ⟨c, _, rfl, .inl (SqL.of upd_same), fun l nl => ?_⟩
    have ncp : p ≠ c := ne_of_none upd_same nc
    have nlc : c ≠ l := ne_of_none upd_same nl
    have nlp : p ≠ l := ne_of_none (by rw [upd_ne ncp]; exact upd_same) nl
    refine ⟨by rw [upd_ne nlp, upd_ne ncp, upd_same], penD l 0 0, rfl, by show 3 ≤ 15; decide, ?_⟩
    have e : mergeK [] (penD l 0 0) = penD l 0 0 := by
      simp [mergeK, penD, putK, sct, scr, str_]
    rw [e]
    refine q ⟨p, l⟩ _ ⟨cs, 0, 0, upd_same, ?_, hc, by omega, by omega, by omega⟩ ?_
    · show upd _ p _ l = _
      rw [upd_ne nlp.symm, upd_same]
    · intro b o eb
      have nb : b ≠ p := ne_of_none eb np
      have nb2 : b ≠ c := ne_of_none (s1 _ _ eb) nc
      have nb3 : b ≠ l := ne_of_none (sm_upd nc _ _ (s1 _ _ eb)) nl
      rw [upd_ne nb, upd_ne nb3, upd_ne nb2, upd_ne nb]
      exact eb
end
end Lf
namespace Lf
open PySem PySem.Spec PyProof.Rows L2
section
variable {P : Program} {w : World} {K : PySem.W.Frag} {mg : Str → Option Value} {base : Heap}
/-! ### _law_draw -/
theorem at_mod (cs : List Int) (t : Int) (h : cs ≠ []) : ∃ c, atI (cs.map V.int) (t % ((cs.map V.int).length : Int)) = some (.int c) := by
  have hl : 0 < cs.length := List.length_pos_iff.mpr h
  rw [List.length_map]
  have h0 := Int.emod_nonneg t (show (cs.length : Int) ≠ 0 by omega)
  have h1 := Int.emod_lt_of_pos t (show (0 : Int) < cs.length by omega)
  generalize t % (cs.length : Int) = i at h0 h1
  obtain ⟨j, rfl⟩ := Int.eq_ofNat_of_zero_le h0
  have hj : j < cs.length := by omega
  refine ⟨cs[j], atI_nat ?_⟩
  rw [List.getElem?_map, List.getElem?_eq_getElem hj]
  rfl
theorem dp_ints {K : PySem.W.Frag} {H : Hp} : ∀ cs : List Int, DpAll K H (cs.map V.int) (cs.map PyData.int)
  | [] => .nil
  | c :: r => .cons (.int c) (dp_ints r)
theorem sh_ints (cs : List Int) : SeqAt.shaped (.list (cs.map PyData.int)) = true := by
  have h : ∀ cs : List Int, PyData.canLayAll0 (cs.map PyData.int) = true ∧ PyData.depthAll (cs.map PyData.int) = 0 := by
    intro cs
    induction cs with
    | nil => exact ⟨rfl, rfl⟩
    | cons c r ih => exact ⟨by simpa [PyData.canLayAll0, PyData.canLay0] using ih.1, by simpa [PyData.depthAll, PyData.depth] using ih.2⟩
  simp [SeqAt.shaped, PyData.canLay0, PyData.depth, (h cs).1, (h cs).2]
def spDraw : Sp := fun vs H Q _ => ∃ (a : PA) (n : Nat) (many : Int), vs = [.ref a, .int many] ∧ Pen H a n ∧ n < 2 ^ 40 ∧ 0 < many ∧ Bd 9000 many ∧
  ∀ d H', 0 ≤ d → d < many → Pen H' a (n + 1) → Fr H H' → Q (.int d) H'
end
end Lf
namespace Lf
open PySem PySem.Spec PyProof.Rows L2
section
variable {P : Program} {w : World} {K : PySem.W.Frag} {mg : Str → Option Value} {base : Heap}
abbrev s_l_draw : Stmt := topS 27
abbrev N_l_draw : List Str := ["_law_pen_here", "_law_many", "_law_digit", "_law_spot", "_law_cell", "_law_mix"]
abbrev P_l_draw : List Str := ["_law_pen_here", "_law_many"]
theorem sc_l_draw : FnScope N_l_draw P_l_draw (defScope s_l_draw) := ⟨rfl, rfl, rfl, by decide +kernel, rfl, by decide +kernel, by decide +kernel⟩
theorem ok_l_draw (D : Df K mg "_law_draw" s_l_draw P_l_draw) (B : Bi mg) : C8.Cal P w K mg base 1 "_law_draw" spDraw [] := by
  refine cal_of D sc_l_draw (fun vs H Q E h => ?_) (fun f cdv A outer s H vs Q E hr h => ?_)
  · obtain ⟨a, n, many, rfl, _⟩ := h
    rfl
  · obtain ⟨⟨a, l⟩, n, many, rfl, hP, hn, h0, hb, q⟩ := h
    have hu := hu_of hr
    have hd : CDivW 0 many := ⟨h0, hb.log (by decide)⟩
    obtain ⟨cs, t, r, ea, el, hl, ht0, htn, hr0⟩ := hP.ex
    have ea : H a = some (.dK (penD l t r)) := ea
    have el : H l = some (.lst (cs.map V.int)) := el
    refine ⟨_, (pss_cons (ps_if (pt_cmpR op_gt (pe_dget hu (pv 0) pe_str (fun _ _ => rfl)) pe_int (nomark _))
      (pss_cons (ps_set (i := 2) sc_l_draw.nd rfl (Or.inl rfl) (pe_op op_mod (pe_dget hu (pv 0) pe_str (fun _ _ => rfl)) (pv 1)))
    (pss_cons (ps_dput hu (pv 0) pe_str (pe_op op_fdivW (pe_dget hu (pv 0) pe_str (fun _ _ => rfl)) (pv 1)) rfl)
    (pss_one (ps_ret (pv 2)))))
      pss_nil)
    (pss_cons (ps_set (i := 3) sc_l_draw.nd rfl (Or.inl rfl) (pe_dget hu (pv 0) pe_str (fun _ _ => rfl)))
    (pss_cons (ps_dput hu (pv 0) pe_str (pe_op op_add (pv 3) pe_int) rfl)
    (C8.pss_cut (ps_set (i := 4) sc_l_draw.nd rfl (Or.inl rfl) (pe_ifExp (pt_cmpR (op_neD hr.units) (pe_dget hu (pv 0) pe_str (fun _ _ => rfl)) (pe_lst pa_nil) (nomark _)) (pe_ix (r := rIxL K) ix_list (pe_dget hu (pv 0) pe_str (fun _ _ => rfl)) (pe_op op_mod (pv 3) (pe_callB (call_len_seq) (by rfl) B.len_ bt_len (pa_cons (pe_dget hu (pv 0) pe_str (fun _ _ => rfl)) pa_nil))) (fun _ _ => rfl)) (pe_op op_add (pe_op op_mul pe_int (pv 3)) pe_int)))
    (C8.pss_cut (ps_if (PW.pt (pw_and (pt_cmpR op_lt (pv 3) (pe_callB (call_len_seq) (by rfl) B.len_ bt_len (pa_cons (pe_dget hu (pv 0) pe_str (fun _ _ => rfl)) pa_nil)) (nomark _)) (pw_and1 (pt_cmpR op_ge (pe_callB (call_abs) (by rfl) B.abs_ bt_abs (pa_cons (pv 4) pa_nil)) (pe_op op_pow pe_int pe_int) (nomark _)))))
      (pss_cons (ps_dput hu (pv 0) pe_str (pe_op op_fdivW (pe_op op_sub (pe_callB (call_abs) (by rfl) B.abs_ bt_abs (pa_cons (pv 4) pa_nil)) (pe_op op_pow pe_int pe_int)) (pv 1)) rfl)
    (pss_one (ps_ret (pe_op op_mod (pe_op op_sub (pe_callB (call_abs) (by rfl) B.abs_ bt_abs (pa_cons (pv 4) pa_nil)) (pe_op op_pow pe_int pe_int)) (pv 1)))))
      pss_nil)
    (pss_cons (ps_set (i := 5) sc_l_draw.nd rfl (Or.inl rfl) (pe_op op_mod (pe_op op_add (pe_op op_add (pe_op op_add (pe_op op_mul (pe_op op_mod (pv 4) pe_int) pe_int) (pe_op op_mul (pe_op op_mul pe_int (pv 3)) (pv 3))) (pe_op op_mul pe_int (pv 3))) pe_int) pe_int))
    (pss_cons (ps_set (i := 5) sc_l_draw.nd rfl (Or.inl rfl) (pe_op op_mod (pe_op op_add (pe_op op_add (pe_op op_add (pe_op op_mul (pv 5) (pv 5)) (pe_op op_mul pe_int (pv 5))) (pe_op op_mul pe_int (pv 3))) pe_int) pe_int))
    (pss_one (ps_ret (pe_op op_mod (pe_op op_fdiv (pe_op op_mod (pe_op op_mul (pv 5) (pe_op op_add (pv 5) pe_int)) pe_int) pe_int) (pv 1))))))))))), ?_⟩
    -- the rest > 0
    refine ⟨_, rfl, a, _, rfl, dg_rest ea, _, _, rfl, rfl, _, rfl, ite2 (fun e => ?_) (fun e => ?_)⟩
    · refine ⟨_, rfl, a, _, rfl, dg_rest ea, _, rfl, _, _, rfl, rfl, h0, ?_⟩
      refine ⟨_, rfl, a, _, rfl, dg_rest ea, _, rfl, _, _, rfl, rfl, hd, _, rfl, a, _, rfl, dp_rest ea, ?_⟩
      refine ⟨_, rfl, ?_⟩
      exact q _ _ (Int.emod_nonneg _ (by omega)) (Int.emod_lt_of_pos _ h0) (Pen.put ea el hl ht0 (by omega) (Int.ediv_nonneg hr0 (by omega))) (Fr.dict ea)
    · refine ⟨_, rfl, a, _, rfl, dg_turn ea, ?_⟩
      refine ⟨_, rfl, _, _, rfl, rfl, _, rfl, a, _, rfl, dp_turn ea, ?_⟩
      have ea1 : upd H a (.dK (penD l (t + 1) r)) a = some (.dK (penD l (t + 1) r)) := upd_same
      have nla : l ≠ a := ne_of el ea (by intro z; cases z)
      have el1 : upd H a (.dK (penD l (t + 1) r)) l = some (.lst (cs.map V.int)) := by rw [upd_ne nla]; exact el
      have f1 : Fr H (upd H a (.dK (penD l (t + 1) r))) := Fr.dict ea
      generalize upd H a (.dK (penD l (t + 1) r)) = H1 at ea1 el1 f1
      refine ⟨fun σ' H' => ∃ c : Int, σ' = [some (.ref a), some (.int many), none, some (.int t), some (.int c), none] ∧ Same H1 H', ?_, ?_⟩
      · refine ⟨_, rfl, a, _, rfl, dg_cells ea1, Nat.zero_le _, fun p np => ?_⟩
        have s1 : Same H1 (upd H1 p (.lst [])) := sm_upd np
        refine ⟨.list (cs.map PyData.int), .list [], Dp.lst (SqL.of (s1 _ _ el1)) (dp_ints cs), Dp.lst (SqL.of upd_same) .nil, sh_ints cs, rfl, _, rfl, ?_⟩
        by_cases hc : cs = []
        · subst hc
          refine iteF ?_
          refine ⟨_, rfl, _, _, rfl, rfl, .inl ⟨by decide, by decide⟩, _, _, rfl, rfl, ?_⟩
          exact ⟨_, rfl, s1⟩
        · obtain ⟨c, r', rfl⟩ : ∃ c r', cs = c :: r' := by
            cases cs with
            | nil => exact absurd rfl hc
            | cons c r' => exact ⟨c, r', rfl⟩
          refine iteT ?_
          obtain ⟨v, hv⟩ := at_mod (c :: r') t hc
          refine ⟨_, rfl, a, _, rfl, dg_cells (s1 _ _ ea1), _, rfl, _, rfl, a, _, rfl, dg_cells (s1 _ _ ea1), l, _, rfl, .inl (SqL.of (s1 _ _ el1)), _, _, rfl, rfl, ?_, l, _, _, _, rfl, rfl, SqL.of (s1 _ _ el1), hv, ?_⟩
          · show (0 : Int) < (((c :: r').map V.int).length : Int)
            rw [List.length_map, List.length_cons]
            omega
          · exact ⟨v, rfl, s1⟩
      · rintro σ' H2 ⟨c, rfl, s2⟩
        have ea2 := s2 _ _ ea1
        have el2 := s2 _ _ el1
        have f2 : Fr H H2 := f1.trans (Fr.same s2)
        refine ⟨fun σ' H' => σ' = [some (.ref a), some (.int many), none, some (.int t), some (.int c), none] ∧ H' = H2, ?_, ?_⟩
        · refine ⟨_, rfl, _, rfl, a, _, rfl, dg_cells ea2, l, _, rfl, .inl (SqL.of el2), _, _, rfl, rfl, _, rfl, ite2 (fun e1 => ?_) (fun e1 => ?_)⟩
          · refine ⟨_, rfl, _, rfl, _, _, rfl, rfl, ⟨by decide, by decide, by decide⟩, _, _, rfl, rfl, _, rfl, ite2 (fun e2 => ?_) (fun e2 => ?_)⟩
            · have e3 := of_decide_eq_true e2
              refine ⟨_, rfl, _, rfl, _, _, rfl, rfl, ⟨by decide, by decide, by decide⟩, _, _, rfl, rfl, _, rfl, _, _, rfl, rfl, hd, _, rfl, a, _, rfl, dp_rest ea2, ?_⟩
              refine ⟨_, rfl, _, rfl, _, _, rfl, rfl, ⟨by decide, by decide, by decide⟩, _, _, rfl, rfl, _, rfl, _, _, rfl, rfl, h0, ?_⟩
              exact q _ _ (Int.emod_nonneg _ (by omega)) (Int.emod_lt_of_pos _ h0) (Pen.put ea2 el2 hl (by omega) (by omega) (Int.ediv_nonneg (by omega) (by omega))) (f2.trans (Fr.dict ea2))
            · exact ⟨rfl, rfl⟩
          · exact iteF ⟨rfl, rfl⟩
        · rintro σ' H' ⟨rfl, rfl⟩
          refine ⟨_, rfl, _, _, rfl, rfl, (by show (0 : Int) < 2147483647; decide), _, _, rfl, rfl, .inr ⟨by decide, by decide⟩, _, rfl, _, _, rfl, rfl, .inl ⟨by decide, by decide⟩, _, rfl, _, _, rfl, rfl, .inr ⟨by omega, by omega⟩, _, _, rfl, rfl, _, rfl, _, _, rfl, rfl, .inl ⟨by decide, by decide⟩, _, _, rfl, rfl, _, _, rfl, rfl, _, _, rfl, rfl, (by show (0 : Int) < 2147483629; decide), ?_⟩
          have d0 := Int.emod_nonneg (c % 2147483647 * 69621 + 48271 * t * t + 30011 * t + 13) (show (2147483629 : Int) ≠ 0 by decide)
          have d1 := Int.emod_lt_of_pos (c % 2147483647 * 69621 + 48271 * t * t + 30011 * t + 13) (show (0 : Int) < 2147483629 by decide)
          dsimp only
          generalize (c % 2147483647 * 69621 + 48271 * t * t + 30011 * t + 13) % 2147483629 = x1 at d0 d1
          refine ⟨_, rfl, _, rfl, _, _, rfl, rfl, .inl ⟨by omega, by omega⟩, _, rfl, _, _, rfl, rfl, .inl ⟨by decide, by decide⟩, _, _, rfl, rfl, _, rfl, _, _, rfl, rfl, .inl ⟨by decide, by decide⟩, _, _, rfl, rfl, _, _, rfl, rfl, _, _, rfl, rfl, (by show (0 : Int) < 2147483587; decide), ?_⟩
          have d20 := Int.emod_nonneg (x1 * x1 + 40692 * x1 + 7 * t + 3) (show (2147483587 : Int) ≠ 0 by decide)
          have d21 := Int.emod_lt_of_pos (x1 * x1 + 40692 * x1 + 7 * t + 3) (show (0 : Int) < 2147483587 by decide)
          dsimp only
          generalize (x1 * x1 + 40692 * x1 + 7 * t + 3) % 2147483587 = x2 at d20 d21
          refine ⟨_, rfl, _, rfl, _, _, rfl, rfl, _, _, rfl, rfl, .inl ⟨by omega, by omega⟩, _, _, rfl, rfl, (by show (0 : Int) < 2147483579; decide), _, _, rfl, rfl, ⟨by decide, by decide⟩, _, rfl, _, _, rfl, rfl, h0, ?_⟩
          have hP2 : Pen H' ⟨a, l⟩ (n + 1) := ⟨cs, t + 1, r, ea2, el2, hl, by omega, by omega, hr0⟩
          exact q _ _ (Int.emod_nonneg _ (by omega)) (Int.emod_lt_of_pos _ h0) hP2 f2
end
end Lf
namespace Lf
open PySem PySem.Spec PyProof.Rows L2
section
variable {P : Program} {w : World} {K : PySem.W.Frag} {mg : Str → Option Value} {base : Heap}
/-! ### _law_pick -/
def spPick : Sp := fun vs H Q _ => ∃ (a : PA) (l : Addr) (n : Nat) (xs : List V), vs = [.ref a, .ref l] ∧ Pen H a n ∧ n < 2 ^ 40 ∧ H l = some (.lst xs) ∧ xs ≠ [] ∧ xs.length ≤ 1000 ∧
  ∀ x H', x ∈ xs → Pen H' a (n + 1) → Fr H H' → Q x H'
abbrev s_l_pick : Stmt := topS 28
abbrev N_l_pick : List Str := ["_law_pen_here", "_law_some"]
abbrev P_l_pick : List Str := ["_law_pen_here", "_law_some"]
theorem sc_l_pick : FnScope N_l_pick P_l_pick (defScope s_l_pick) := ⟨rfl, rfl, rfl, by decide +kernel, rfl, by decide +kernel, by decide +kernel⟩
theorem ok_l_pick (D : Df K mg "_law_pick" s_l_pick P_l_pick) (B : Bi mg) (c_l_draw : C8.Cal P w K mg base 1 "_law_draw" spDraw []) : C8.Cal P w K mg base 2 "_law_pick" spPick [] := by
  refine cal_of D sc_l_pick (fun vs H Q E h => ?_) (fun f cdv A outer s H vs Q E hr h => ?_)
  · obtain ⟨a, l, n, xs, rfl, _⟩ := h
    rfl
  · obtain ⟨a, l, n, xs, rfl, hP, hn, el, hx, hxl, q⟩ := h
    have hu := hu_of hr
    refine ⟨_, (pss_one (ps_ret (pe_ix (r := rIxL K) ix_list (pv 1) (C8.pe_c c_l_draw hr (by decide) (by rfl) (pa_cons (pv 0) (pa_cons (pe_callB (call_len_seq) (by rfl) B.len_ bt_len (pa_cons (pv 1) pa_nil)) pa_nil))) (fun _ _ => rfl)))), ?_⟩
    have hl : 0 < xs.length := List.length_pos_iff.mpr hx
    refine ⟨_, rfl, _, rfl, _, rfl, l, _, rfl, .inl (SqL.of el), a, n, _, rfl, hP, hn, by omega, Bd.small 20 (by omega) (by decide), fun d H' d0 d1 hP' f' => ?_⟩
    obtain ⟨j, rfl⟩ := Int.eq_ofNat_of_zero_le d0
    have hj : j < xs.length := by omega
    refine ⟨l, _, _, _, rfl, rfl, SqL.of (f'.l _ _ el), atI_nat (List.getElem?_eq_getElem hj), ?_⟩
    exact q _ _ (List.getElem_mem hj) hP' f'
end
end Lf
namespace Lf
open PySem PySem.Spec PyProof.Rows L2
theorem Bd.grow {k : Nat} {r d : Int} (h0 : 0 ≤ r) (h : Bd k r) (d0 : 0 ≤ d) (d1 : d < 10 ^ 6) : Bd (k + 20) (r * 10 ^ 6 + d) := by
  unfold Bd at *
  have e : (2 : Nat) ^ (k + 20) = 2 ^ k * 1048576 := by rw [Nat.pow_add]
  rw [e]
  generalize (2 : Nat) ^ k = m at h
  omega
/-- a rule, its numbers within k bits -/
structure RuleB (k : Nat) (p q c : Int) : Prop where
  p0 : 0 ≤ p
  q1 : 1 ≤ q
  g : Int.gcd p q = 1
  bp : Bd k p
  bq : Bd k q
  bc : Bd k c
theorem RuleB.mono {k j : Nat} {p q c : Int} (h : RuleB k p q c) (e : k ≤ j) : RuleB j p q c := ⟨h.p0, h.q1, h.g, h.bp.mono e, h.bq.mono e, h.bc.mono e⟩
theorem gcd_pos {p q : Int} (h : 1 ≤ q) : 0 < (Int.gcd p q : Int) := by
  have : 0 < Int.gcd p q := Int.gcd_pos_of_ne_zero_right _ (by omega)
  omega
theorem gcd_le {p q : Int} (h : 1 ≤ q) : (Int.gcd p q : Int) ≤ q := Int.le_of_dvd (by omega) (Int.gcd_dvd_right ..)
theorem low_rule {k : Nat} {p q c : Int} (h0 : 0 ≤ p) (h1 : 1 ≤ q) (bp : Bd k p) (bq : Bd k q) (bc : Bd k c) : RuleB k (p / (Int.gcd p q : Int)) (q / (Int.gcd p q : Int)) (c / (Int.gcd p q : Int)) := by
  have hg := gcd_pos (p := p) h1
  refine ⟨Int.ediv_nonneg h0 (by omega), ?_, ?_, bp.ediv hg, bq.ediv hg, bc.ediv hg⟩
  · exact Int.le_ediv_of_mul_le hg (by rw [Int.one_mul]; exact gcd_le h1)
  · have : 0 < Int.gcd p q := by omega
    exact Int.gcd_ediv_gcd_ediv_gcd this
/-- a new rule stands at r -/
abbrev tup3 (p q c : Int) : HO := .tup [.int p, .int q, .int c]
theorem low_rule' {k : Nat} {p q c : Int} (h0 : 0 ≤ p) (h1 : 1 ≤ q) (bp : Bd k p) (bq : Bd k q) (bc : Bd k c) : RuleB k (p / gg p q) (q / gg p q) (c / gg p q) := low_rule h0 h1 bp bq bc
theorem low_le {p q : Int} (h1 : 1 ≤ q) : q / (Int.gcd p q : Int) ≤ q := Int.ediv_le_self _ (by omega)
section
variable {P : Program} {w : World} {K : PySem.W.Frag} {mg : Str → Option Value} {base : Heap}
/-! ### _law_gcd, _law_lowest -/
def spGcd : Sp := fun vs H Q _ => ∃ (x y : Int), vs = [.int x, .int y] ∧ 0 ≤ x ∧ 0 ≤ y ∧ Q (.int (Int.gcd x y : Int)) H
def mu1 : L2.St → Hp → Nat := fun σ _ => match σ with
  | _ :: some (.int v) :: _ => v.toNat
  | _ => 0
abbrev s_l_gcd : Stmt := topS 30
abbrev N_l_gcd : List Str := ["_law_one", "_law_other"]
abbrev P_l_gcd : List Str := ["_law_one", "_law_other"]
theorem sc_l_gcd : FnScope N_l_gcd P_l_gcd (defScope s_l_gcd) := ⟨rfl, rfl, rfl, by decide +kernel, rfl, by decide +kernel, by decide +kernel⟩
theorem ok_l_gcd (D : Df K mg "_law_gcd" s_l_gcd P_l_gcd) : C8.Cal P w K mg base 1 "_law_gcd" spGcd [] := by
  refine cal_of D sc_l_gcd (fun vs H Q E h => ?_) (fun f cdv A outer s H vs Q E hr h => ?_)
  · obtain ⟨x, y, rfl, _⟩ := h
    rfl
  · obtain ⟨x, y, rfl, hx, hy, q⟩ := h
    refine ⟨_, (pss_cons (ps_while PassesOwn.never (pt_cmpR op_gt (pv 1) pe_int (nomark _))
      (pss_one (ps_par (i := 0) (j := 1) rfl sc_l_gcd.nd rfl rfl (by decide) rfl rfl (pa_cons (pv 1) (pa_cons (pe_op op_mod (pv 0) (pv 1)) pa_nil)) rfl)))
    (pss_one (ps_ret (pv 0)))), ?_⟩
    refine while_by (fun σ H' => ∃ u v : Int, σ = [some (.int u), some (.int v)] ∧ 0 ≤ u ∧ 0 ≤ v ∧ Int.gcd u v = Int.gcd x y ∧ H' = H) mu1 ⟨x, y, rfl, hx, hy, rfl, rfl⟩ ?_ ?_
    · rintro σ H' ⟨u, v, rfl, hu, hv, e, rfl⟩
      refine ⟨_, rfl, _, _, rfl, rfl, _, rfl, ite2 (fun c => ?_) (fun c => ?_)⟩
      · have hv0 : 0 < v := of_decide_eq_true c
        refine ⟨_, rfl, _, rfl, _, rfl, _, _, rfl, rfl, hv0, _, _, rfl, ⟨v, u % v, rfl, hv, Int.emod_nonneg _ (by omega), ?_, rfl⟩, ?_⟩
        · rw [gcd_turn u v hu hv0]; exact e
        · show (u % v).toNat < v.toNat
          have := Int.emod_lt_of_pos u hv0
          omega
      · have hv0 : v = 0 := by
          have : ¬ 0 < v := fun z => c (decide_eq_true z)
          omega
        subst hv0
        refine ⟨_, rfl, ?_⟩
        have e2 : (Int.gcd x y : Int) = u := by
          rw [← e, Int.gcd_zero_right]
          omega
        rw [← e2]
        exact q
    · rintro σ H' Q1 Q2 hQ ⟨v, h1, i, j, h2, h3, b, h4, h5⟩
      exact ⟨v, h1, i, j, h2, h3, b, h4, hQ _ _ h5⟩
end
end Lf
namespace Lf
open PySem PySem.Spec PyProof.Rows L2
/-! ### objects in a row -/
inductive Obs {α : Type} (O : α → HO) (H : Hp) : List V → List α → Prop
  | nil : Obs O H [] []
  | cons {r : Addr} {vs : List V} {d : α} {ds : List α} : H r = some (O d) → Obs O H vs ds → Obs O H (.ref r :: vs) (d :: ds)
section
variable {α : Type} {O : α → HO} {H H' : Hp}
theorem Obs.len {vs : List V} {ds : List α} (h : Obs O H vs ds) : vs.length = ds.length := by
  induction h with
  | nil => rfl
  | cons _ _ ih => rw [List.length_cons, List.length_cons, ih]
theorem Obs.at {vs : List V} {ds : List α} (h : Obs O H vs ds) : ∀ {i : Nat} {x : V}, vs[i]? = some x → ∃ r d, x = .ref r ∧ H r = some (O d) ∧ ds[i]? = some d := by
  induction h with
  | nil =>
    intro i x e
    cases e
  | cons e0 _ ih =>
    intro i x e
    cases i with
    | zero =>
      cases e
      exact ⟨_, _, rfl, e0, rfl⟩
    | succ i => exact ih e
theorem Obs.on {vs : List V} {ds : List α} (h : Obs O H vs ds) : ∀ {i : Nat} {d : α}, ds[i]? = some d → ∃ r, vs[i]? = some (.ref r) ∧ H r = some (O d) := by
  induction h with
  | nil =>
    intro i x e
    cases e
  | cons e0 _ ih =>
    intro i x e
    cases i with
    | zero =>
      cases e
      exact ⟨_, rfl, e0⟩
    | succ i => exact ih e
theorem Obs.keep {vs : List V} {ds : List α} (h : Obs O H vs ds) (f : ∀ b d, H b = some (O d) → H' b = some (O d)) : Obs O H' vs ds := by
  induction h with
  | nil => exact .nil
  | cons e0 _ ih => exact .cons (f _ _ e0) ih
theorem Obs.same {vs : List V} {ds : List α} (h : Obs O H vs ds) (s : Same H H') : Obs O H' vs ds := h.keep fun b d e => s _ _ e
theorem Obs.snoc {vs : List V} {ds : List α} {r : Addr} {d : α} (h : Obs O H vs ds) (e : H r = some (O d)) : Obs O H (vs ++ [.ref r]) (ds ++ [d]) := by
  induction h with
  | nil => exact .cons e .nil
  | cons e0 _ ih => exact .cons e0 ih
theorem Obs.app {vs us : List V} {ds es : List α} (h : Obs O H vs ds) (h2 : Obs O H us es) : Obs O H (vs ++ us) (ds ++ es) := by
  induction h with
  | nil => exact h2
  | cons e0 _ ih => exact .cons e0 ih
theorem Obs.drop {vs : List V} {ds : List α} (h : Obs O H vs ds) : ∀ n, Obs O H (vs.drop n) (ds.drop n) := by
  induction h with
  | nil =>
    intro n
    rw [List.drop_nil, List.drop_nil]
    exact .nil
  | cons e0 h ih =>
    intro n
    cases n with
    | zero => exact .cons e0 h
    | succ n => exact ih n
theorem Obs.take {vs : List V} {ds : List α} (h : Obs O H vs ds) : ∀ n, Obs O H (vs.take n) (ds.take n) := by
  induction h with
  | nil =>
    intro n
    rw [List.take_nil, List.take_nil]
    exact .nil
  | cons e0 h ih =>
    intro n
    cases n with
    | zero => exact .nil
    | succ n => exact .cons e0 (ih n)
end
/-! ### records -/
structure Rec where
  lo : Bool
  t : Int
  n : Int
def wd : Bool → Str
  | true => "at least"
  | false => "at most"
abbrev rcO (d : Rec) : HO := .tup [.str (wd d.lo), .int d.t, .int d.n]
theorem w_lo (b : Bool) : decide (V.str (wd b) = V.str ("at least" : Str)) = b := by
  cases b
  · exact decide_eq_false (by intro z; exact absurd (V.str.inj z) (by decide +kernel))
  · exact decide_eq_true rfl
theorem w_hi (b : Bool) : decide (V.str (wd b) = V.str ("at most" : Str)) = !b := by
  cases b
  · exact decide_eq_true rfl
  · exact decide_eq_false (by intro z; exact absurd (V.str.inj z) (by decide +kernel))
def RcB (k : Nat) (ds : List Rec) : Prop := ∀ d ∈ ds, Bd k d.t ∧ Bd k d.n
theorem RcB.mono {k j : Nat} {ds : List Rec} (h : RcB k ds) (e : k ≤ j) : RcB j ds := fun d hd => ⟨(h d hd).1.mono e, (h d hd).2.mono e⟩
theorem Obs.fr {H H' : Hp} {vs : List V} {ds : List Rec} (h : Obs rcO H vs ds) (f : Fr H H') : Obs rcO H' vs ds := h.keep fun b d e => f.t _ _ e
/-- what split_records gives: index, time, count -/
abbrev T3 := Int × Int × Int
abbrev trO (x : T3) : HO := .tup [.int x.1, .int x.2.1, .int x.2.2]
def sel (b : Bool) : Nat → List Rec → List T3
  | _, [] => []
  | k, d :: ds => if d.lo = b then ((k : Int), d.t, d.n) :: sel b (k + 1) ds else sel b (k + 1) ds
theorem sel_snoc (b : Bool) (k : Nat) (ds : List Rec) (d : Rec) : sel b k (ds ++ [d]) = sel b k ds ++ (if d.lo = b then [(((k + ds.length : Nat) : Int), d.t, d.n)] else []) := by
  induction ds generalizing k with
  | nil =>
    show (if d.lo = b then _ else _) = _
    by_cases h : d.lo = b
    · rw [if_pos h, if_pos h]
      rfl
    · rw [if_neg h, if_neg h]
      rfl
  | cons e r ih =>
    show (if e.lo = b then ((k : Int), e.t, e.n) :: sel b (k + 1) (r ++ [d]) else sel b (k + 1) (r ++ [d])) = (if e.lo = b then _ else _) ++ _
    rw [ih (k + 1), List.length_cons, show k + 1 + r.length = k + (r.length + 1) by omega]
    by_cases h : e.lo = b
    · rw [if_pos h, if_pos h]
      rfl
    · rw [if_neg h, if_neg h]
theorem sel_len (b : Bool) (k : Nat) (ds : List Rec) : (sel b k ds).length ≤ ds.length := by
  induction ds generalizing k with
  | nil => exact Nat.le_refl _
  | cons e r ih =>
    show (if e.lo = b then _ else _ : List T3).length ≤ _
    have := ih (k + 1)
    by_cases h : e.lo = b
    · rw [if_pos h, List.length_cons, List.length_cons]
      omega
    · rw [if_neg h, List.length_cons]
      omega
theorem sel_take {b : Bool} {ds : List Rec} {i : Nat} {d : Rec} (e : ds[i]? = some d) : sel b 0 (ds.take (i + 1)) = sel b 0 (ds.take i) ++ (if d.lo = b then [((i : Int), d.t, d.n)] else []) := by
  have hi : i < ds.length := (List.getElem?_eq_some_iff.mp e).1
  rw [List.take_add_one, e]
  show sel b 0 (ds.take i ++ [d]) = _
  rw [sel_snoc, List.length_take, Nat.min_eq_left (by omega), Nat.zero_add]
/-- each of them speaks of a record at its index -/
theorem sel_mem {b : Bool} {k : Nat} {ds : List Rec} {x : T3} (h : x ∈ sel b k ds) : ∃ (i : Nat) (d : Rec), ds[i]? = some d ∧ d.lo = b ∧ x = (((k + i : Nat) : Int), d.t, d.n) := by
  induction ds generalizing k with
  | nil => cases h
  | cons e r ih =>
    have h : x ∈ (if e.lo = b then ((k : Int), e.t, e.n) :: sel b (k + 1) r else sel b (k + 1) r) := h
    have up : x ∈ sel b (k + 1) r → ∃ (i : Nat) (d : Rec), (e :: r)[i]? = some d ∧ d.lo = b ∧ x = (((k + i : Nat) : Int), d.t, d.n) := fun z => by
      obtain ⟨i, d, h1, h2, h3⟩ := ih z
      exact ⟨i + 1, d, h1, h2, by rw [h3, show k + 1 + i = k + (i + 1) by omega]⟩
    by_cases hb : e.lo = b
    · rw [if_pos hb] at h
      rcases List.mem_cons.mp h with rfl | h
      · exact ⟨0, e, rfl, hb, rfl⟩
      · exact up h
    · rw [if_neg hb] at h
      exact up h
theorem mem_sel {b : Bool} {ds : List Rec} {i : Nat} {d : Rec} (e : ds[i]? = some d) (hb : d.lo = b) : ∀ k, (((k + i : Nat) : Int), d.t, d.n) ∈ sel b k ds := by
  induction ds generalizing i with
  | nil => cases e
  | cons f r ih =>
    intro k
    show _ ∈ (if f.lo = b then _ else _)
    cases i with
    | zero =>
      cases e
      rw [if_pos hb]
      exact List.mem_cons_self
    | succ i =>
      have := ih e (k + 1)
      rw [show k + 1 + i = k + (i + 1) by omega] at this
      by_cases h : f.lo = b
      · rw [if_pos h]
        exact List.mem_cons_of_mem _ this
      · rw [if_neg h]
        exact this
theorem sel_bd {k : Nat} {b : Bool} {ds : List Rec} (h : RcB k ds) {x : T3} (hx : x ∈ sel b 0 ds) : Bd k x.2.1 ∧ Bd k x.2.2 := by
  obtain ⟨i, d, e, _, rfl⟩ := sel_mem hx
  exact h d (List.mem_of_getElem? e)
/-- what a list has as its greatest -/
def IsMx (l : List Int) : Option Int → Prop
  | none => l = []
  | some m => m ∈ l ∧ ∀ y ∈ l, y ≤ m
def IsMn (l : List Int) : Option Int → Prop
  | none => l = []
  | some m => m ∈ l ∧ ∀ y ∈ l, m ≤ y
def oV : Option Int → V
  | none => .non
  | some i => .int i
theorem maxOf_mx (x : Int) (xs : List Int) : PySem.W.maxOf x xs ∈ x :: xs ∧ ∀ y ∈ x :: xs, y ≤ PySem.W.maxOf x xs := by
  induction xs generalizing x with
  | nil => exact ⟨List.mem_cons_self, fun y hy => by rw [List.mem_singleton.mp hy]; exact Int.le_refl _⟩
  | cons z r ih =>
    have e : PySem.W.maxOf x (z :: r) = PySem.W.maxOf (if decide (x < z) = true then z else x) r := rfl
    rw [e]
    obtain ⟨h1, h2⟩ := ih (if decide (x < z) = true then z else x)
    refine ⟨?_, fun y hy => ?_⟩
    · rcases List.mem_cons.mp h1 with h | h
      · rw [h]
        by_cases c : x < z
        · rw [if_pos (decide_eq_true c)]
          exact List.mem_cons_of_mem _ List.mem_cons_self
        · rw [if_neg (fun h => c (of_decide_eq_true h))]
          exact List.mem_cons_self
      · exact List.mem_cons_of_mem _ (List.mem_cons_of_mem _ h)
    · have g := h2 _ List.mem_cons_self
      have gx : x ≤ PySem.W.maxOf (if decide (x < z) = true then z else x) r ∧ z ≤ PySem.W.maxOf (if decide (x < z) = true then z else x) r := by
        by_cases c : x < z
        · rw [if_pos (decide_eq_true c)] at g ⊢
          exact ⟨by omega, g⟩
        · rw [if_neg (fun h => c (of_decide_eq_true h))] at g ⊢
          exact ⟨g, by omega⟩
      rcases List.mem_cons.mp hy with rfl | hy
      · exact gx.1
      · rcases List.mem_cons.mp hy with rfl | hy
        · exact gx.2
        · exact h2 _ (List.mem_cons_of_mem _ hy)
theorem minOf_mn (x : Int) (xs : List Int) : PySem.W.minOf x xs ∈ x :: xs ∧ ∀ y ∈ x :: xs, PySem.W.minOf x xs ≤ y := by
  induction xs generalizing x with
  | nil => exact ⟨List.mem_cons_self, fun y hy => by rw [List.mem_singleton.mp hy]; exact Int.le_refl _⟩
  | cons z r ih =>
    have e : PySem.W.minOf x (z :: r) = PySem.W.minOf (if decide (z < x) = true then z else x) r := rfl
    rw [e]
    obtain ⟨h1, h2⟩ := ih (if decide (z < x) = true then z else x)
    refine ⟨?_, fun y hy => ?_⟩
    · rcases List.mem_cons.mp h1 with h | h
      · rw [h]
        by_cases c : z < x
        · rw [if_pos (decide_eq_true c)]
          exact List.mem_cons_of_mem _ List.mem_cons_self
        · rw [if_neg (fun h => c (of_decide_eq_true h))]
          exact List.mem_cons_self
      · exact List.mem_cons_of_mem _ (List.mem_cons_of_mem _ h)
    · have g := h2 _ List.mem_cons_self
      have gx : PySem.W.minOf (if decide (z < x) = true then z else x) r ≤ x ∧ PySem.W.minOf (if decide (z < x) = true then z else x) r ≤ z := by
        by_cases c : z < x
        · rw [if_pos (decide_eq_true c)] at g ⊢
          exact ⟨by omega, g⟩
        · rw [if_neg (fun h => c (of_decide_eq_true h))] at g ⊢
          exact ⟨g, by omega⟩
      rcases List.mem_cons.mp hy with rfl | hy
      · exact gx.1
      · rcases List.mem_cons.mp hy with rfl | hy
        · exact gx.2
        · exact h2 _ (List.mem_cons_of_mem _ hy)
/-- max(list, default=d), min(list, default=d) -/
def rMxD (K : PySem.W.Frag) : List V → List V → Hp → VK → Prop := fun vs zs H Q => ∃ (a : Addr) (ns : List Int), vs = [V.ref a] ∧ zs = [.non] ∧ SqL K H a (ns.map V.int) ∧ ∀ m, IsMx ns m → Q (oV m) H
def rMnD (K : PySem.W.Frag) : List V → List V → Hp → VK → Prop := fun vs zs H Q => ∃ (a : Addr) (ns : List Int), vs = [V.ref a] ∧ zs = [.non] ∧ SqL K H a (ns.map V.int) ∧ ∀ m, IsMn ns m → Q (oV m) H
theorem cr_maxD {X : Cx} (hc : X.calm = true) (hu : X.A.units + 64 < cLine) : CallRK X (.builtin "max") [Str.ofString "default"] (rMxD X.K) := by
  intro pins s σ H xs zs us ws Q I r rz h
  obtain ⟨a, ns, rfl, rfl, hs, q⟩ := h
  obtain ⟨its, rv, hl, _⟩ := I.list hs
  rw [Vals.ref1 r]
  obtain ⟨d, rfl, rd⟩ := vals1 rz
  have ed : d = Value.none := rd
  subst ed
  refine PySem.W.max_list_datum_default (α := Int) (xs := ns) (I.ok.hd hc) hl.isList (by simpa using PySem.W.HoldAll.of_ints rv.ints) (by show _ + 1 + 0 < _; omega) (fun e h' tk hk => ⟨.non, H, I.kept hk, rfl, q none e⟩) fun y ys i v h' tk e hv hh hk => ?_
  obtain ⟨as, hr⟩ := hh
  obtain ⟨t, rfl⟩ : ∃ t, v = Value.int (PySem.W.maxOf y ys) t := by
    cases hr
    exact ⟨_, rfl⟩
  exact ⟨.int _, H, I.kept hk, ⟨_, rfl⟩, q (some _) (by rw [e]; exact maxOf_mx y ys)⟩
theorem cr_minD {X : Cx} (hc : X.calm = true) (hu : X.A.units + 64 < cLine) : CallRK X (.builtin "min") [Str.ofString "default"] (rMnD X.K) := by
  intro pins s σ H xs zs us ws Q I r rz h
  obtain ⟨a, ns, rfl, rfl, hs, q⟩ := h
  obtain ⟨its, rv, hl, _⟩ := I.list hs
  rw [Vals.ref1 r]
  obtain ⟨d, rfl, rd⟩ := vals1 rz
  have ed : d = Value.none := rd
  subst ed
  refine PySem.W.min_list_datum_default (α := Int) (xs := ns) (I.ok.hd hc) hl.isList (by simpa using PySem.W.HoldAll.of_ints rv.ints) (by show _ + 1 + 0 < _; omega) (fun e h' tk hk => ⟨.non, H, I.kept hk, rfl, q none e⟩) fun y ys i v h' tk e hv hh hk => ?_
  obtain ⟨as, hr⟩ := hh
  obtain ⟨t, rfl⟩ : ∃ t, v = Value.int (PySem.W.minOf y ys) t := by
    cases hr
    exact ⟨_, rfl⟩
  exact ⟨.int _, H, I.kept hk, ⟨_, rfl⟩, q (some _) (by rw [e]; exact minOf_mn y ys)⟩
end Lf
namespace Lf
open PySem PySem.Spec PyProof.Rows L2
theorem iteD {c A B : Prop} [Decidable c] (hc : c) (h : A) : if decide c = true then A else B := by
  rw [if_pos (decide_eq_true hc)]
  exact h
theorem iteDn {c A B : Prop} [Decidable c] (hc : ¬ c) (h : B) : if decide c = true then A else B := by
  rw [if_neg (fun z => hc (of_decide_eq_true z))]
  exact h
theorem mulW {a b : Nat} {x y : Int} (h : Bd a x) (h2 : Bd b y) (ha : 0 < a) (hb : 0 < b) (hab : a + b ≤ 1000000) : CMulW x y := wide_mul h h2 ha hb hab
theorem divW {b : Nat} {x y : Int} (h0 : 0 < y) (h : Bd b y) (hb : b ≤ 9000) : CDivW x y := ⟨h0, (h.mono hb).log (by decide)⟩
theorem divP {b : Nat} {x y : Int} (h0 : 0 < y) (h : Bd b y) (hb : b ≤ 9000) : CDivP x y := ⟨h0, PyProof.noPylong_of_log2 ((h.mono hb).log (by decide))⟩
theorem kii : kitB "int" "int" = some true := by decide +kernel
theorem kib : kitB "int" "bool" = some false := by decide +kernel
theorem ktt : kitB "tuple" "tuple" = some true := by decide +kernel
section
variable {P : Program} {w : World} {K : PySem.W.Frag} {mg : Str → Option Value} {base : Heap}
/-! ### integers -/
def spIsInt : Sp := fun vs H Q _ => ∃ i : Int, vs = [.int i] ∧ Q (.bl true) H
abbrev s_is_integer : Stmt := topS 5
abbrev N_is_integer : List Str := ["value"]
abbrev P_is_integer : List Str := ["value"]
theorem sc_is_integer : FnScope N_is_integer P_is_integer (defScope s_is_integer) := ⟨rfl, rfl, rfl, by decide +kernel, rfl, by decide +kernel, by decide +kernel⟩
theorem ok_is_integer (D : Df K mg "is_integer" s_is_integer P_is_integer) (B : Bi mg) : C8.Cal P w K mg base 1 "is_integer" spIsInt [] := by
  refine cal_of D sc_is_integer (fun vs H Q E h => ?_) (fun f cdv A outer s H vs Q E hr h => ?_)
  · obtain ⟨i, rfl, _⟩ := h
    rfl
  · obtain ⟨i, rfl, q⟩ := h
    refine ⟨_, (pss_one (ps_ret (pe_and (pe_callB (call_isi) (by rfl) B.isinstance_ bt_isinstance (pa_cons (pv 0) (pa_cons (pe_bltn (v := .ty "int") (by rfl) B.int_ bt_int rfl) pa_nil))) (pe_one (pe_not (pe_callB (call_isi) (by rfl) B.isinstance_ bt_isinstance (pa_cons (pv 0) (pa_cons (pe_bltn (v := .ty "bool") (by rfl) B.bool_ bt_bool rfl) pa_nil)))))))), ?_⟩
    refine ⟨_, rfl, _, _, _, _, true, rfl, .ty "int", .base (.int i), kit_ty kii, true, rfl, iteT ?_⟩
    exact ⟨_, rfl, _, _, _, _, false, rfl, .ty "bool", .base (.int i), kit_ty kib, false, rfl, q⟩
def spCheckInt : Sp := fun vs H Q _ => ∃ i : Int, vs = [.int i] ∧ Q .non H
end
end Lf
namespace Lf
open PySem PySem.Spec PyProof.Rows L2
section
variable {P : Program} {w : World} {K : PySem.W.Frag} {mg : Str → Option Value} {base : Heap}
abbrev s_gcd : Stmt := topS 6
abbrev N_gcd : List Str := ["first", "second"]
abbrev P_gcd : List Str := ["first", "second"]
theorem sc_gcd : FnScope N_gcd P_gcd (defScope s_gcd) := ⟨rfl, rfl, rfl, by decide +kernel, rfl, by decide +kernel, by decide +kernel⟩
theorem ok_gcd (D : Df K mg "gcd" s_gcd P_gcd) : C8.Cal P w K mg base 1 "gcd" spGcd [] := by
  refine cal_of D sc_gcd (fun vs H Q E h => ?_) (fun f cdv A outer s H vs Q E hr h => ?_)
  · obtain ⟨x, y, rfl, _⟩ := h
    rfl
  · obtain ⟨x, y, rfl, hx, hy, q⟩ := h
    refine ⟨_, (pss_cons (ps_while PassesOwn.never (pt_truth (pv 1) (fun _ => rfl))
      (pss_one (ps_par (i := 0) (j := 1) rfl sc_gcd.nd rfl rfl (by decide) rfl rfl (pa_cons (pv 1) (pa_cons (pe_op op_mod (pv 0) (pv 1)) pa_nil)) rfl)))
    (pss_one (ps_ret (pv 0)))), ?_⟩
    refine while_by (fun σ H' => ∃ u v : Int, σ = [some (.int u), some (.int v)] ∧ 0 ≤ u ∧ 0 ≤ v ∧ Int.gcd u v = Int.gcd x y ∧ H' = H) mu1 ⟨x, y, rfl, hx, hy, rfl, rfl⟩ ?_ ?_
    · rintro σ H' ⟨u, v, rfl, hu, hv, e, rfl⟩
      refine ⟨_, rfl, _, rfl, ite2 (fun c => ?_) (fun c => ?_)⟩
      · have hv0 : 0 < v := by
          have : v ≠ 0 := by simpa using c
          omega
        refine ⟨_, rfl, _, rfl, _, rfl, _, _, rfl, rfl, hv0, _, _, rfl, ⟨v, u % v, rfl, hv, Int.emod_nonneg _ (by omega), ?_, rfl⟩, ?_⟩
        · rw [gcd_turn u v hu hv0]; exact e
        · show (u % v).toNat < v.toNat
          have := Int.emod_lt_of_pos u hv0
          omega
      · have hv0 : v = 0 := by simpa using c
        subst hv0
        refine ⟨_, rfl, ?_⟩
        have e2 : (Int.gcd x y : Int) = u := by
          rw [← e, Int.gcd_zero_right]
          omega
        rw [← e2]
        exact q
    · rintro σ H' Q1 Q2 hQ ⟨v, h1, b, h4, h5⟩
      exact ⟨v, h1, b, h4, hQ _ _ h5⟩
/-! ### rules -/
def spIsRule : Sp := fun vs H Q _ => ∃ (r : Addr) (p q c : Int) (k : Nat), vs = [.ref r] ∧ H r = some (.tup [.int p, .int q, .int c]) ∧ RuleB k p q c ∧ ∀ H', Same H H' → Q (.bl true) H'
def spCheckRule : Sp := fun vs H Q _ => ∃ (r : Addr) (p q c : Int) (k : Nat), vs = [.ref r] ∧ H r = some (.tup [.int p, .int q, .int c]) ∧ RuleB k p q c ∧ ∀ H', Same H H' → Q .non H'
end
end Lf
namespace Lf
open PySem PySem.Spec PyProof.Rows L2
def Btw (p q t b x y : Int) : Prop := p * y < x * q ∧ x * b < t * y
structure Sim (p q t b N D : Int) : Prop where
  d1 : 1 ≤ D
  n1 : 1 ≤ N
  bt : Btw p q t b N D
  mi : ∀ x y, 1 ≤ y → Btw p q t b x y → D ≤ y ∧ N ≤ x
theorem pos_of_mul {a b : Int} (h : 0 < a * b) (hb : 0 ≤ b) : 0 < a := by
  rcases Int.lt_or_le 0 a with z | z
  · exact z
  · have := Int.mul_le_mul_of_nonneg_right z hb
    rw [Int.zero_mul] at this
    omega
theorem sim_base {p q t b : Int} (hp : 0 ≤ p) (hq : 1 ≤ q) (h : (p / q + 1) * b < t) : Sim p q t b (p / q + 1) 1 := by
  have w0 : 0 ≤ p / q := Int.ediv_nonneg hp (by omega)
  have w1 : p < (p / q + 1) * q := Int.lt_ediv_add_one_mul_self p (by omega)
  have w2 : p / q * q ≤ p := Int.ediv_mul_le p (by omega)
  generalize p / q = w at *
  refine ⟨by omega, by omega, ⟨by omega, by omega⟩, fun x y hy hb => ⟨hy, ?_⟩⟩
  have h1 := Int.mul_le_mul_of_nonneg_right w2 (show 0 ≤ y by omega)
  have h2 : 0 < (x - w * y) * q := by
    have e : w * q * y = w * y * q := by grind
    have := hb.1
    rw [Int.sub_mul]
    omega
  have h3 := pos_of_mul h2 (by omega)
  have h4 := Int.mul_le_mul_of_nonneg_left hy w0
  omega
theorem sim_step {p q t b N D : Int} (hp : 0 ≤ p) (hq : 1 ≤ q) (s : Sim b (t - p / q * b) q (p - p / q * q) N D) : Sim p q t b (p / q * N + D) N := by
  have w0 : 0 ≤ p / q := Int.ediv_nonneg hp (by omega)
  have w2 : p / q * q ≤ p := Int.ediv_mul_le p (by omega)
  generalize p / q = w at *
  obtain ⟨d1, n1, ⟨b1, b2⟩, mi⟩ := s
  have n0 := Int.mul_nonneg w0 (show 0 ≤ N by omega)
  refine ⟨n1, by omega, ⟨by grind, by grind⟩, fun x y hy ⟨g1, g2⟩ => ?_⟩
  have h1 := Int.mul_le_mul_of_nonneg_right w2 (show 0 ≤ y by omega)
  have h2 : 0 < (x - w * y) * q := by grind
  have h3 := pos_of_mul h2 (by omega)
  obtain ⟨m1, m2⟩ := mi y (x - w * y) (by omega) ⟨by grind, by grind⟩
  have h4 := Int.mul_le_mul_of_nonneg_left m2 w0
  exact ⟨m2, by omega⟩
/-- what the loop of wholes says, read backwards -/
def fold2 : List Int → Int × Int → Int × Int
  | [], x => x
  | w :: r, x => (w * (fold2 r x).1 + (fold2 r x).2, (fold2 r x).1)
theorem fold2_snoc (l : List Int) (w N D : Int) : fold2 (l ++ [w]) (N, D) = fold2 l (w * N + D, N) := by
  induction l with
  | nil => rfl
  | cons v r ih =>
    show (v * (fold2 (r ++ [w]) (N, D)).1 + (fold2 (r ++ [w]) (N, D)).2, (fold2 (r ++ [w]) (N, D)).1) = _
    rw [ih]
    rfl
structure Iv (k : Nat) (p q t b : Int) : Prop where
  p0 : 0 ≤ p
  q1 : 1 ≤ q
  b0 : 0 ≤ b
  lt : p * b < t * q
  bp : Bd k p
  bq : Bd k q
  bt : Bd k t
  bb : Bd k b
theorem Iv.mono {k j : Nat} {p q t b : Int} (I : Iv k p q t b) (h : k ≤ j) : Iv j p q t b := ⟨I.p0, I.q1, I.b0, I.lt, I.bp.mono h, I.bq.mono h, I.bt.mono h, I.bb.mono h⟩
theorem Iv.t1 {k : Nat} {p q t b : Int} (I : Iv k p q t b) : 1 ≤ t := by
  have h1 := Int.mul_nonneg I.p0 I.b0
  have h2 := I.lt
  have := pos_of_mul (a := t) (b := q) (by omega) (by have := I.q1; omega)
  omega
theorem Iv.next {k : Nat} {p q t b : Int} (I : Iv k p q t b) (h : t ≤ (p / q + 1) * b) : Iv k b (t - p / q * b) q (p - p / q * q) ∧ 1 ≤ b ∧ t - p / q * b ≤ b ∧ p - p / q * q < q := by
  have t1 := I.t1
  obtain ⟨p0, q1, b0, lt, bp, bq, bt, bb⟩ := I
  have w0 : 0 ≤ p / q := Int.ediv_nonneg p0 (by omega)
  have w1 : p < (p / q + 1) * q := Int.lt_ediv_add_one_mul_self p (by omega)
  have w2 : p / q * q ≤ p := Int.ediv_mul_le p (by omega)
  generalize p / q = w at *
  have b1 : 1 ≤ b := by
    rcases Int.lt_or_le 0 b with z | z
    · exact z
    · have : b = 0 := by omega
      subst this
      rw [Int.mul_zero] at h
      omega
  have h1 : 0 < (t - w * b) * q := by
    have := Int.mul_le_mul_of_nonneg_right w2 b0
    grind
  have h2 := pos_of_mul h1 (by omega)
  have h3 : t - w * b ≤ b := by
    rw [Int.add_mul] at h
    omega
  have h4 : p - w * q < q := by
    rw [Int.add_mul] at w1
    omega
  exact ⟨⟨b0, by omega, by omega, by grind, bb, bb.between (by omega) h3, bq, bq.between (by omega) (by omega)⟩, b1, h3, h4⟩
theorem Iv.med {k : Nat} {p q t b N D : Int} (I : Iv k p q t b) (s : Sim p q t b N D) : D ≤ q + b ∧ N ≤ p + t := by
  have h := I.lt
  have := I.q1
  have := I.b0
  exact s.mi (p + t) (q + b) (by omega) ⟨by grind, by grind⟩
theorem Iv.bds {k : Nat} {p q t b N D : Int} (I : Iv k p q t b) (s : Sim p q t b N D) : Bd (k + 1) N ∧ Bd (k + 1) D := by
  obtain ⟨m1, m2⟩ := I.med s
  have := s.n1
  have := s.d1
  exact ⟨(Bd.add I.bp I.bt).between (by omega) m2, (Bd.add I.bq I.bb).between (by omega) m1⟩
structure Lw (k : Nat) (p0 q0 t0 b0 : Int) (ws : List Int) (p q t b : Int) : Prop where
  iv : Iv k p q t b
  c : ∀ l1 l2, ws = l1 ++ l2 → ∀ N D, Sim p q t b N D → Bd (k + 1) (fold2 l2 (N, D)).1 ∧ Bd (k + 1) (fold2 l2 (N, D)).2
  a : ∀ N D, Sim p q t b N D → Sim p0 q0 t0 b0 (fold2 ws (N, D)).1 (fold2 ws (N, D)).2
  d : ∀ w ∈ ws, Bd k w
  n : (ws = [] ∧ q = q0 ∧ b = b0) ∨ (q ≤ p ∧ (p * b).toNat * 2 ^ ws.length ≤ (2 * (q0 * b0)).toNat)
theorem Lw.init {k : Nat} {p q t b : Int} (I : Iv k p q t b) : Lw k p q t b [] p q t b :=
  ⟨I, fun l1 l2 e N D s => by
    have : l2 = [] := (List.append_eq_nil_iff.mp e.symm).2
    subst this
    exact I.bds s, fun N D s => s, fun w hw => by simp at hw, .inl ⟨rfl, rfl, rfl⟩⟩
theorem Lw.next {k : Nat} {p0 q0 t0 b0 p q t b : Int} {ws : List Int} (L : Lw k p0 q0 t0 b0 ws p q t b) (h : t ≤ (p / q + 1) * b) : Lw k p0 q0 t0 b0 (ws ++ [p / q]) b (t - p / q * b) q (p - p / q * q) := by
  have I := L.iv
  obtain ⟨I2, b1, h3, h4⟩ := I.next h
  have st : ∀ N D, Sim b (t - p / q * b) q (p - p / q * q) N D → Sim p q t b (p / q * N + D) N := fun N D s => sim_step I.p0 I.q1 s
  refine ⟨I2, fun l1 l2 e N D s => ?_, fun N D s => ?_, fun w hw => ?_, .inr ⟨h3, ?_⟩⟩
  · rcases List.eq_nil_or_concat l2 with rfl | ⟨l', w', rfl⟩
    · exact I2.bds s
    · rw [List.concat_eq_append, ← List.append_assoc] at e
      obtain ⟨e1, e2⟩ := List.append_inj' e rfl
      have e3 : p / q = w' := by simpa using e2
      rw [List.concat_eq_append, ← e3, fold2_snoc]
      exact L.c l1 l' e1 _ _ (st N D s)
  · rw [fold2_snoc]
    exact L.a _ _ (st N D s)
  · rcases List.mem_append.mp hw with z | z
    · exact L.d w z
    · rw [List.mem_singleton.mp z]
      exact I.bp.ediv (by have := I.q1; omega)
  · have r0 := I2.b0
    rw [List.length_append, List.length_singleton, Nat.pow_succ]
    rcases L.n with ⟨rfl, rfl, rfl⟩ | ⟨hq, hn⟩
    · have := Int.mul_le_mul_of_nonneg_left (show p - p / q * q ≤ q by omega) (show 0 ≤ b by omega)
      rw [Int.mul_comm q b]
      simp only [List.length_nil, Nat.pow_zero, Nat.one_mul]
      generalize b * (p - p / q * q) = x at *
      generalize b * q = y at *
      omega
    · refine Nat.le_trans ?_ hn
      rw [Nat.mul_comm (2 ^ ws.length) 2, ← Nat.mul_assoc]
      refine Nat.mul_le_mul_right _ ?_
      have w1 : 1 ≤ p / q := Int.le_ediv_of_mul_le (by have := I.q1; omega) (by omega)
      have h5 := Int.mul_le_mul_of_nonneg_right w1 (show 0 ≤ q by have := I.q1; omega)
      have h6 := Int.mul_le_mul_of_nonneg_left (show 2 * (p - p / q * q) ≤ p by omega) (show 0 ≤ b by omega)
      generalize p - p / q * q = r at *
      have e1 : b * (2 * r) = 2 * (b * r) := by grind
      rw [e1, Int.mul_comm b p] at h6
      have := Int.mul_nonneg (show 0 ≤ b by omega) r0
      generalize b * r = x at *
      generalize p * b = y at *
      omega
theorem Lw.len {k : Nat} {p0 q0 t0 b0 p q t b : Int} {ws : List Int} (L : Lw k p0 q0 t0 b0 ws p q t b) (b1 : 1 ≤ b) (bq : Bd k q0) (bb : Bd k b0) : ws.length < 2 * k + 2 := by
  rcases L.n with ⟨rfl, _⟩ | ⟨hq, hn⟩
  · simp
  · have B1 : Bd (k + k + 1) (2 * (q0 * b0)) := by
      have := Bd.add (Bd.mul bq bb) (Bd.mul bq bb)
      rw [show 2 * (q0 * b0) = q0 * b0 + q0 * b0 by omega]
      exact this
    have p1 : 1 ≤ p * b := by
      have := Int.mul_le_mul (show 1 ≤ p by have := L.iv.q1; omega) b1 (by omega) (by have := L.iv.p0; omega)
      omega
    unfold Bd at B1
    have h2 : 2 ^ ws.length ≤ (p * b).toNat * 2 ^ ws.length := Nat.le_mul_of_pos_left _ (by omega)
    have h3 : 2 ^ ws.length < 2 ^ (k + k + 1) := by omega
    have := (Nat.pow_lt_pow_iff_right (by decide)).mp h3
    omega
section
variable {P : Program} {w : World} {K : PySem.W.Frag} {mg : Str → Option Value} {base : Heap}
/-! ### rates -/
structure Rt (k : Nat) (p q : Int) : Prop where
  p0 : 0 ≤ p
  q1 : 1 ≤ q
  g : Int.gcd p q = 1
  bp : Bd k p
  bq : Bd k q
theorem Rt.mono {k j : Nat} {p q : Int} (h : Rt k p q) (e : k ≤ j) : Rt j p q := ⟨h.p0, h.q1, h.g, h.bp.mono e, h.bq.mono e⟩
abbrev tup2 (p q : Int) : HO := .tup [.int p, .int q]
def spIsRate : Sp := fun vs H Q _ => ∃ (r : Addr) (p q : Int) (k : Nat), vs = [.ref r] ∧ H r = some (tup2 p q) ∧ Rt k p q ∧ Q (.bl true) H
abbrev s_is_rate : Stmt := topS 8
abbrev N_is_rate : List Str := ["value"]
abbrev P_is_rate : List Str := ["value"]
theorem sc_is_rate : FnScope N_is_rate P_is_rate (defScope s_is_rate) := ⟨rfl, rfl, rfl, by decide +kernel, rfl, by decide +kernel, by decide +kernel⟩
theorem ok_is_rate (D : Df K mg "is_rate" s_is_rate P_is_rate) (B : Bi mg) (c_is_integer : C8.Cal P w K mg base 1 "is_integer" spIsInt []) (c_gcd : C8.Cal P w K mg base 1 "gcd" spGcd []) : C8.Cal P w K mg base 2 "is_rate" spIsRate [] := by
  refine cal_of D sc_is_rate (fun vs H Q E h => ?_) (fun f cdv A outer s H vs Q E hr h => ?_)
  · obtain ⟨r, p, q, k, rfl, _⟩ := h
    rfl
  · obtain ⟨r, p, q, k, rfl, er, R, kk⟩ := h
    refine ⟨_, (pss_cons (ps_if (PW.pt (pw_or (pt_not (pt_val (pe_callB (call_isi) (by rfl) B.isinstance_ bt_isinstance (pa_cons (pv 0) (pa_cons (pe_bltn (v := .ty "tuple") (by rfl) B.tuple_ bt_tuple rfl) pa_nil))))) (pw_or1 (pt_cmpR op_ne (pe_callB (call_len_seq) (by rfl) B.len_ bt_len (pa_cons (pv 0) pa_nil)) pe_int (nomark _)))))
      (pss_one (ps_ret pe_bl))
      pss_nil)
    (pss_cons (ps_if (PW.pt (pw_or (pt_not (pt_val (C8.pe_c c_is_integer hr (by decide) (by rfl) (pa_cons (pe_ix (r := rIxT K) ix_tup (pv 0) pe_int (fun _ _ => rfl)) pa_nil)))) (pw_or1 (pt_not (pt_val (C8.pe_c c_is_integer hr (by decide) (by rfl) (pa_cons (pe_ix (r := rIxT K) ix_tup (pv 0) pe_int (fun _ _ => rfl)) pa_nil)))))))
      (pss_one (ps_ret pe_bl))
      pss_nil)
    (pss_one (ps_ret (pe_and (pe_cmpR op_ge (pe_ix (r := rIxT K) ix_tup (pv 0) pe_int (fun _ _ => rfl)) pe_int (nomark _)) (pe_and (pe_cmpR op_ge (pe_ix (r := rIxT K) ix_tup (pv 0) pe_int (fun _ _ => rfl)) pe_int (nomark _)) (pe_one (pe_cmpR op_eq (C8.pe_c c_gcd hr (by decide) (by rfl) (pa_cons (pe_ix (r := rIxT K) ix_tup (pv 0) pe_int (fun _ _ => rfl)) (pa_cons (pe_ix (r := rIxT K) ix_tup (pv 0) pe_int (fun _ _ => rfl)) pa_nil))) pe_int (nomark _))))))))), ?_⟩
    refine ⟨_, rfl, _, _, _, _, true, rfl, .ty "tuple", .base (.tup er), kit_ty ktt, true, rfl, iteF ?_⟩
    refine ⟨_, rfl, r, _, rfl, .inr (SqT.of er), rfl, _, rfl, iteNS rfl ?_⟩
    refine ⟨_, rfl, r, _, _, _, rfl, rfl, SqT.of er, atI_nat (j := 0) rfl, p, rfl, true, rfl, iteF ?_⟩
    refine ⟨_, rfl, r, _, _, _, rfl, rfl, SqT.of er, atI_nat (j := 1) rfl, q, rfl, true, rfl, iteF ?_⟩
    refine ⟨_, rfl, r, _, _, _, rfl, rfl, SqT.of er, atI_nat (j := 0) rfl, _, _, rfl, rfl, _, rfl, iteD R.p0 ?_⟩
    refine ⟨_, rfl, r, _, _, _, rfl, rfl, SqT.of er, atI_nat (j := 1) rfl, _, _, rfl, rfl, _, rfl, iteD R.q1 ?_⟩
    refine ⟨_, rfl, r, _, _, _, rfl, rfl, SqT.of er, atI_nat (j := 0) rfl, _, rfl, r, _, _, _, rfl, rfl, SqT.of er, atI_nat (j := 1) rfl, p, q, rfl, R.p0, by have := R.q1; omega, rfl, ?_⟩
    rw [R.g]
    exact kk
def spCheckRate : Sp := fun vs H Q _ => ∃ (r : Addr) (p q : Int) (k : Nat), vs = [.ref r] ∧ H r = some (tup2 p q) ∧ Rt k p q ∧ Q .non H
abbrev s_check_rate : Stmt := topS 9
abbrev N_check_rate : List Str := ["value"]
abbrev P_check_rate : List Str := ["value"]
theorem sc_check_rate : FnScope N_check_rate P_check_rate (defScope s_check_rate) := ⟨rfl, rfl, rfl, by decide +kernel, rfl, by decide +kernel, by decide +kernel⟩
theorem ok_check_rate (D : Df K mg "check_rate" s_check_rate P_check_rate) (c_is_rate : C8.Cal P w K mg base 2 "is_rate" spIsRate []) : C8.Cal P w K mg base 3 "check_rate" spCheckRate [] := by
  refine cal_of D sc_check_rate (fun vs H Q E h => ?_) (fun f cdv A outer s H vs Q E hr h => ?_)
  · obtain ⟨r, p, q, k, rfl, _⟩ := h
    rfl
  · obtain ⟨r, p, q, k, rfl, er, R, kk⟩ := h
    refine ⟨_, (pss_one (ps_if (pt_not (pt_val (C8.pe_c c_is_rate hr (by decide) (by rfl) (pa_cons (pv 0) pa_nil))))
      (pss_one ps_never)
      pss_nil)), ?_⟩
    exact ⟨_, rfl, r, p, q, k, rfl, er, R, true, rfl, iteF kk⟩
/-! ### simplest_inside -/
def spInside : Sp := fun vs H Q _ => ∃ (l h : Addr) (p q t b : Int) (k : Nat), vs = [.ref l, .ref h] ∧ H l = some (tup2 p q) ∧ H h = some (tup2 t b) ∧ Iv k p q t b ∧ 0 < k ∧ k ≤ 400 ∧
  ∀ r H' N D, Same H H' → H r = none → H' r = some (tup2 N D) → Sim p q t b N D → Bd (k + 1) N → Bd (k + 1) D → Q (.ref r) H'
def muF : L2.St → Hp → Nat := fun σ _ => match σ with
  | _ :: _ :: _ :: some (.int q) :: _ :: some (.int b) :: _ => (q + b).toNat
  | _ => 0
end
end Lf
namespace Lf
open PySem PySem.Spec PyProof.Rows L2
theorem iteTs {b : Bool} {A B : Prop} (h : b = true) (hA : A) : if b = true then A else B := by
  rw [h, if_pos rfl]
  exact hA
theorem iteFz {b : Bool} {A B : Prop} (h : b = false) (hB : B) : if b = true then A else B := by
  rw [h, if_neg Bool.false_ne_true]
  exact hB
theorem bool_f {b : Bool} (h : ¬ b = true) : b = false := by
  cases b
  · rfl
  · exact absurd rfl h
theorem obs_cut {α : Type} {O : α → HO} {H : Hp} {vs : List V} {ds : List α} (h : Obs O H vs ds) (lo hi : Option Int) : ∃ es, Obs O H (cutV vs lo hi) es ∧ (∀ d ∈ es, d ∈ ds) ∧ es.length ≤ ds.length := by
  unfold cutV
  generalize HT.sIx vs.length 0 lo = i
  generalize HT.sIx vs.length vs.length hi - i = j
  refine ⟨(ds.drop i).take j, (h.drop i).take j, fun d hd => List.mem_of_mem_drop (List.mem_of_mem_take hd), ?_⟩
  rw [List.length_take, List.length_drop]
  omega
theorem lenS {n : Nat} (h : n ≤ 100000) : n ≤ sizeLine := by
  rw [sizeLine_eq]
  omega
theorem ltS {n : Nat} (h : n ≤ 100000) : n < sizeLine := by
  rw [sizeLine_eq]
  omega
theorem flat_is (ns : List Int) : (ns.map V.int).all flatV = true := by
  induction ns with
  | nil => rfl
  | cons n r ih => simpa [flatV] using ih
theorem at_map {cs : List Int} {i : Nat} {x : V} (h : (cs.map V.int)[i]? = some x) : ∃ c, c ∈ cs ∧ x = .int c := by
  rw [List.getElem?_map] at h
  cases e : cs[i]? with
  | none =>
    rw [e] at h
    cases h
  | some c =>
    rw [e] at h
    cases h
    exact ⟨c, List.mem_of_getElem? e, rfl⟩
theorem in_words (b : Bool) : inV (.str (wd b)) [.str "at least", .str "at most"] = true := by
  cases b <;> decide +kernel
theorem kit_lt {K : PySem.W.Frag} : PySem.W.kitAny K (.type "list") [.type "list", .type "tuple"] = some true :=
  kitAny_cons (b := true) (kit_ty (by decide +kernel)) (fun z => by cases z) (fun _ => rfl)
def lph (p q : Int) (ds : List Rec) : List Int := (sel true 0 ds).map fun x => x.2.2 * q - p * x.2.1
def hph (p q : Int) (ds : List Rec) : List Int := (sel false 0 ds).map fun x => (x.2.2 + 1) * q - p * x.2.1 - 1
def okPh : Option Int → Option Int → Bool
  | some x, some y => decide (x ≤ y)
  | _, _ => true
theorem mx_uniq {l : List Int} {a b : Option Int} (h : IsMx l a) (h2 : IsMx l b) : a = b := by
  cases a with
  | none =>
    cases b with
    | none => rfl
    | some y =>
      have e : l = [] := h
      subst e
      cases h2.1
  | some x =>
    cases b with
    | none =>
      have e : l = [] := h2
      subst e
      cases h.1
    | some y =>
      have h1 := h.2 y h2.1
      have h3 := h2.2 x h.1
      rw [show x = y by omega]
theorem mn_uniq {l : List Int} {a b : Option Int} (h : IsMn l a) (h2 : IsMn l b) : a = b := by
  cases a with
  | none =>
    cases b with
    | none => rfl
    | some y =>
      have e : l = [] := h
      subst e
      cases h2.1
  | some x =>
    cases b with
    | none =>
      have e : l = [] := h2
      subst e
      cases h.1
    | some y =>
      have h1 := h.2 y h2.1
      have h3 := h2.2 x h.1
      rw [show x = y by omega]
def fitB (p q c : Int) (d : Rec) : Bool := if d.lo = true then decide (d.n ≤ (p * d.t + c) / q) else decide ((p * d.t + c) / q ≤ d.n)
structure Bc (mg : Str → Option Value) : Prop where
  most_ : ∃ t, mg "MOST_RECORDS" = some (.int 200 t)
section
variable {P : Program} {w : World} {K : PySem.W.Frag} {mg : Str → Option Value} {base : Heap}
/-! ### is_record, check_records -/
def spIsRec : Sp := fun vs H Q _ => ∃ (r : Addr) (d : Rec), vs = [.ref r] ∧ H r = some (rcO d) ∧ ∀ H', Same H H' → Q (.bl true) H'
abbrev s_is_record : Stmt := topS 13
abbrev N_is_record : List Str := ["value"]
abbrev P_is_record : List Str := ["value"]
theorem sc_is_record : FnScope N_is_record P_is_record (defScope s_is_record) := ⟨rfl, rfl, rfl, by decide +kernel, rfl, by decide +kernel, by decide +kernel⟩
theorem ok_is_record (D : Df K mg "is_record" s_is_record P_is_record) (B : Bi mg) (c_is_integer : C8.Cal P w K mg base 1 "is_integer" spIsInt []) : C8.Cal P w K mg base 2 "is_record" spIsRec [] := by
  refine cal_of D sc_is_record (fun vs H Q E h => ?_) (fun f cdv A outer s H vs Q E hr h => ?_)
  · obtain ⟨r, d, rfl, _⟩ := h
    rfl
  · obtain ⟨r, d, rfl, er, kk⟩ := h
    refine ⟨_, (pss_cons (ps_if (PW.pt (pw_or (pt_not (pt_val (pe_callB (call_isi) (by rfl) B.isinstance_ bt_isinstance (pa_cons (pv 0) (pa_cons (pe_bltn (v := .ty "tuple") (by rfl) B.tuple_ bt_tuple rfl) pa_nil))))) (pw_or1 (pt_cmpR op_ne (pe_callB (call_len_seq) (by rfl) B.len_ bt_len (pa_cons (pv 0) pa_nil)) pe_int (nomark _)))))
      (pss_one (ps_ret pe_bl))
      pss_nil)
    (pss_one (ps_ret (pe_and (pe_cmpR op_in_seq (pe_ix (r := rIxT K) ix_tup (pv 0) pe_int (fun _ _ => rfl)) (pe_tup (pa_cons pe_str (pa_cons pe_str pa_nil))) rfl) (pe_and (C8.pe_c c_is_integer hr (by decide) (by rfl) (pa_cons (pe_ix (r := rIxT K) ix_tup (pv 0) pe_int (fun _ _ => rfl)) pa_nil)) (pe_one (C8.pe_c c_is_integer hr (by decide) (by rfl) (pa_cons (pe_ix (r := rIxT K) ix_tup (pv 0) pe_int (fun _ _ => rfl)) pa_nil)))))))), ?_⟩
    refine ⟨_, rfl, _, _, _, _, true, rfl, .ty "tuple", .base (.tup er), kit_ty ktt, true, rfl, iteF ?_⟩
    refine ⟨_, rfl, r, _, rfl, .inr (SqT.of er), rfl, _, rfl, iteNS rfl ?_⟩
    refine ⟨_, rfl, r, _, _, _, rfl, rfl, SqT.of er, atI_nat (j := 0) rfl, len10 (by simp), fun p np => ?_⟩
    have er1 := sm_upd (o := .tup [.str "at least", .str "at most"]) np _ _ er
    refine ⟨p, _, rfl, .inr (SqT.of upd_same), rfl, rfl, _, rfl, iteTs (in_words d.lo) ?_⟩
    refine ⟨_, rfl, r, _, _, _, rfl, rfl, SqT.of er1, atI_nat (j := 1) rfl, d.t, rfl, true, rfl, iteT ?_⟩
    refine ⟨_, rfl, r, _, _, _, rfl, rfl, SqT.of er1, atI_nat (j := 2) rfl, d.n, rfl, ?_⟩
    exact kk _ (sm_upd np)
def spCkRec : Sp := fun vs H Q _ => ∃ (L : Addr) (xs : List V) (ds : List Rec), vs = [.ref L] ∧ H L = some (.lst xs) ∧ Obs rcO H xs ds ∧ ds.length ≤ 200 ∧ ∀ H', Same H H' → Q .non H'
abbrev s_check_records : Stmt := topS 14
abbrev N_check_records : List Str := ["value", "index", "item"]
abbrev P_check_records : List Str := ["value"]
theorem sc_check_records : FnScope N_check_records P_check_records (defScope s_check_records) := ⟨rfl, rfl, rfl, by decide +kernel, rfl, by decide +kernel, by decide +kernel⟩
theorem ok_check_records (D : Df K mg "check_records" s_check_records P_check_records) (B : Bi mg) (U : Bc mg) (c_is_record : C8.Cal P w K mg base 2 "is_record" spIsRec []) : C8.Cal P w K mg base 3 "check_records" spCkRec [] := by
  refine cal_of D sc_check_records (fun vs H Q E h => ?_) (fun f cdv A outer s H vs Q E hr h => ?_)
  · obtain ⟨L, xs, ds, rfl, _⟩ := h
    rfl
  · obtain ⟨L, xs, ds, rfl, eL, hO, hl, kk⟩ := h
    obtain ⟨tM, hc_MOST_RECORDS⟩ := U.most_
    refine ⟨_, (pss_cons (ps_if (PW.pt (pw_or (pt_not (pt_val (pe_callB (call_isiT) (by rfl) B.isinstance_ bt_isinstance (pa_cons (pv 0) (pa_cons (pe_tup (pa_cons (pe_bltn (v := .ty "list") (by rfl) B.list_ bt_list rfl) (pa_cons (pe_bltn (v := .ty "tuple") (by rfl) B.tuple_ bt_tuple rfl) pa_nil))) pa_nil))))) (pw_or1 (pt_cmpR op_gt (pe_callB (call_len_seq) (by rfl) B.len_ bt_len (pa_cons (pv 0) pa_nil)) (pe_glob (v := .int 200) (by rfl) hc_MOST_RECORDS ⟨_, rfl⟩) (nomark _)))))
      (pss_one ps_never)
      pss_nil)
    (pss_one (ps_for PassesOwn.never rfl (pi_enum (by rfl) B.enumerate_ (pa_cons (pv 0) pa_nil)) (pg_tup rfl (pgs_cons (pg_name (i := 1) sc_check_records.nd rfl (Or.inl rfl)) (pgs_cons (pg_name (i := 2) sc_check_records.nd rfl (Or.inl rfl)) pgs_nil)))
      (pss_one (ps_if (pt_not (pt_val (C8.pe_c c_is_record hr (by decide) (by rfl) (pa_cons (pv 2) pa_nil))))
      (pss_one ps_never)
      pss_nil))))), ?_⟩
    refine ⟨_, rfl, len10 (by simp), fun tp ntp => ?_⟩
    have s1 := sm_upd (o := .tup [.ty "list", .ty "tuple"]) ntp
    refine ⟨_, tp, _, _, _, true, rfl, upd_same, .cons (.ty "list") (.cons (.ty "tuple") .nil), .base (.lst (s1 _ _ eL)), kit_lt, true, rfl, iteF ?_⟩
    refine ⟨_, rfl, L, _, rfl, .inl (SqL.of (s1 _ _ eL)), _, _, rfl, rfl, _, rfl, iteDn (by rw [hO.len]; omega) ?_⟩
    generalize upd H tp (.tup [.ty "list", .ty "tuple"]) = H1 at s1
    refine ⟨_, rfl, L, _, rfl, SqL.of (s1 _ _ eL), ?_⟩
    refine for_it (walk_enum (K := K) (a := L) (xs := xs)) (fun i σ H' => ∃ (y1 y2 : Option V), σ = [some (.ref L), y1, y2] ∧ Same H H') ⟨_, _, rfl, s1⟩ ?_ ?_ ?_
    · rintro i σ H2 _ ⟨_, _, _, s2⟩
      exact SqL.of (s2 _ _ eL)
    · rintro i v σ H2 H3 hi ⟨y1, y2, rfl, s2⟩ ⟨T, x, y, rfl, nT, rfl, hx, hy⟩
      cases hx
      obtain ⟨r, d, rfl, er, _⟩ := hO.at hy
      have s3 := s2.trans (sm_upd (o := .tup [.int (i : Nat), .ref r]) nT)
      refine ⟨T, _, rfl, SqT.of upd_same, rfl, _, _, rfl, _, _, rfl, rfl, ?_⟩
      refine ⟨_, rfl, r, d, rfl, s3 _ _ er, fun H4 s4 => ⟨true, rfl, iteF ?_⟩⟩
      exact ⟨_, _, rfl, s3.trans s4⟩
    · rintro σ H2 ⟨_, _, rfl, s2⟩
      exact kk _ s2
/-! ### split_records -/
def spSplit : Sp := fun vs H Q _ => ∃ (L : Addr) (xs : List V) (ds : List Rec), vs = [.ref L] ∧ H L = some (.lst xs) ∧ Obs rcO H xs ds ∧ ds.length ≤ 1000 ∧
  ∀ T H' A B as bs, Same H H' → H' T = some (.tup [.ref A, .ref B]) → H' A = some (.lst as) → Obs trO H' as (sel true 0 ds) → H' B = some (.lst bs) → Obs trO H' bs (sel false 0 ds) → Q (.ref T) H'
abbrev s_split_records : Stmt := topS 18
abbrev N_split_records : List Str := ["records", "lows", "highs", "i", "word", "t", "n", "j", "u", "m"]
abbrev P_split_records : List Str := ["records"]
theorem sc_split_records : FnScope N_split_records P_split_records (defScope s_split_records) := ⟨rfl, rfl, rfl, by decide +kernel, rfl, by decide +kernel, by decide +kernel⟩
theorem ok_split_records (D : Df K mg "split_records" s_split_records P_split_records) (B : Bi mg) : C8.Cal P w K mg base 1 "split_records" spSplit [] := by
  refine cal_of D sc_split_records (fun vs H Q E h => ?_) (fun f cdv A outer s H vs Q E hr h => ?_)
  · obtain ⟨L, xs, ds, rfl, _⟩ := h
    rfl
  · obtain ⟨L, xs, ds, rfl, eL, hO, hl, kk⟩ := h
    refine ⟨_, (pss_cons (ps_setLc (i := 1) (own := [("i", 3), ("word", 4), ("t", 5), ("n", 6)]) (g := (gTup K 2 (gCons (gName 3) (gCons (gTup K 3 (gCons (gName 4) (gCons (gName 5) (gCons (gName 6) gNil)))) gNil)))) (by rfl) sc_split_records.nd rfl rfl (sw_true rfl rfl rfl (by decide +kernel)) (pi_enum (by rfl) B.enumerate_ (pa_cons (pv 0) pa_nil)) (blkOk_by (own := [("i", 3), ("word", 4), ("t", 5), ("n", 6)]) (N := N_split_records) (sc := defScope s_split_records) (by decide +kernel)) (fun _ _ _ _ _ => (pg_tup rfl (pgs_cons (pg_name (i := 3) sc_split_records.nd rfl (Or.inl rfl)) (pgs_cons (pg_tup rfl (pgs_cons (pg_name (i := 4) sc_split_records.nd rfl (Or.inl rfl)) (pgs_cons (pg_name (i := 5) sc_split_records.nd rfl (Or.inl rfl)) (pgs_cons (pg_name (i := 6) sc_split_records.nd rfl (Or.inl rfl)) pgs_nil)))) pgs_nil)))) (fun _ _ _ _ _ => (pts_one (pt_cmpR op_eq (pv 4) pe_str (nomark _)))) (fun _ _ _ _ _ => (pe_tup (pa_cons (pv 3) (pa_cons (pv 5) (pa_cons (pv 6) pa_nil))))))
    (pss_cons (ps_setLc (i := 2) (own := [("j", 7), ("word", 4), ("u", 8), ("m", 9)]) (g := (gTup K 2 (gCons (gName 7) (gCons (gTup K 3 (gCons (gName 4) (gCons (gName 8) (gCons (gName 9) gNil)))) gNil)))) (by rfl) sc_split_records.nd rfl rfl (sw_true rfl rfl rfl (by decide +kernel)) (pi_enum (by rfl) B.enumerate_ (pa_cons (pv 0) pa_nil)) (blkOk_by (own := [("j", 7), ("word", 4), ("u", 8), ("m", 9)]) (N := N_split_records) (sc := defScope s_split_records) (by decide +kernel)) (fun _ _ _ _ _ => (pg_tup rfl (pgs_cons (pg_name (i := 7) sc_split_records.nd rfl (Or.inl rfl)) (pgs_cons (pg_tup rfl (pgs_cons (pg_name (i := 4) sc_split_records.nd rfl (Or.inl rfl)) (pgs_cons (pg_name (i := 8) sc_split_records.nd rfl (Or.inl rfl)) (pgs_cons (pg_name (i := 9) sc_split_records.nd rfl (Or.inl rfl)) pgs_nil)))) pgs_nil)))) (fun _ _ _ _ _ => (pts_one (pt_cmpR op_eq (pv 4) pe_str (nomark _)))) (fun _ _ _ _ _ => (pe_tup (pa_cons (pv 7) (pa_cons (pv 8) (pa_cons (pv 9) pa_nil))))))
    (pss_one (ps_ret (pe_tup (pa_cons (pv 1) (pa_cons (pv 2) pa_nil))))))), ?_⟩
    refine ⟨_, rfl, L, _, rfl, SqL.of eL, fun A nA => ?_⟩
    refine lc_it (walk_enum (K := K) (a := L) (xs := xs)) (fun i H' => ∃ as, H' A = some (.lst as) ∧ Obs trO H' as (sel true 0 (ds.take i)) ∧ Same H H') ⟨_, upd_same, .nil, sm_upd nA⟩ ?_ ?_ ?_
    · rintro i H1 _ ⟨_, _, _, s1⟩
      exact SqL.of (s1 _ _ eL)
    · rintro i v H1 H2 hi ⟨as, eA, oA, s1⟩ ⟨T, x, y, rfl, nT, rfl, hx, hy⟩
      cases hx
      obtain ⟨r, d, rfl, er, hd⟩ := hO.at hy
      have z := sm_upd (o := .tup [.int (i : Nat), .ref r]) nT
      have s2 := s1.trans z
      have al : as.length < sizeLine := by
        have h1 := oA.len
        have h2 := sel_len true 0 (ds.take i)
        rw [List.length_take] at h2
        exact small1000 (by omega)
      refine ⟨T, _, rfl, SqT.of upd_same, rfl, _, _, rfl, _, _, rfl, r, _, rfl, SqT.of (s2 _ _ er), rfl, _, _, rfl, _, _, rfl, _, _, rfl, rfl, rfl, ?_⟩
      refine ⟨rfl, _, rfl, rfl, _, rfl, ?_⟩
      rw [w_lo]
      cases hb : d.lo with
      | true =>
        refine iteT ⟨_, rfl, _, rfl, _, rfl, len10 (by simp), fun t nt => ?_⟩
        have z2 := sm_upd (o := .tup [.int (i : Nat), .int d.t, .int d.n]) nt
        have nA2 : t ≠ A := (ne_of_none (z _ _ eA) nt).symm
        refine ⟨as, z2 _ _ (z _ _ eA), al, _, upd_same, ?_, ?_⟩
        · rw [sel_take hd, if_pos hb]
          refine Obs.snoc (Obs.keep ((oA.same z).same z2) fun b d' e => ?_) ?_
          · rw [upd_ne (ne_of e (z2 _ _ (z _ _ eA)) (by intro q; cases q))]
            exact e
          · rw [upd_ne nA2]
            exact upd_same
        · intro b o e
          rw [upd_ne (ne_of_none e nA)]
          exact z2 _ _ (s2 _ _ e)
      | false =>
        refine iteF ⟨as, z _ _ eA, ?_, s2⟩
        rw [sel_take hd, if_neg (by rw [hb]; exact Bool.false_ne_true), List.append_nil]
        exact oA.same z
    rintro H1 ⟨as, eA, oA, s1⟩
    rw [List.take_of_length_le (by rw [hO.len]; exact Nat.le_refl _)] at oA
    refine ⟨_, rfl, L, _, rfl, SqL.of (s1 _ _ eL), fun B2 nB => ?_⟩
    refine lc_it (walk_enum (K := K) (a := L) (xs := xs)) (fun i H' => ∃ bs, H' B2 = some (.lst bs) ∧ Obs trO H' bs (sel false 0 (ds.take i)) ∧ Same H1 H') ⟨_, upd_same, .nil, sm_upd nB⟩ ?_ ?_ ?_
    · rintro i H2 _ ⟨_, _, _, s2⟩
      exact SqL.of (s2 _ _ (s1 _ _ eL))
    · rintro i v H2 H3 hi ⟨bs, eB, oB, s2⟩ ⟨T, x, y, rfl, nT, rfl, hx, hy⟩
      cases hx
      obtain ⟨r, d, rfl, er, hd⟩ := hO.at hy
      have z := sm_upd (o := .tup [.int (i : Nat), .ref r]) nT
      have s3 := s2.trans z
      have al : bs.length < sizeLine := by
        have h1 := oB.len
        have h2 := sel_len false 0 (ds.take i)
        rw [List.length_take] at h2
        exact small1000 (by omega)
      refine ⟨T, _, rfl, SqT.of upd_same, rfl, _, _, rfl, _, _, rfl, r, _, rfl, SqT.of (s3 _ _ (s1 _ _ er)), rfl, _, _, rfl, _, _, rfl, _, _, rfl, rfl, rfl, ?_⟩
      refine ⟨rfl, _, rfl, rfl, _, rfl, ?_⟩
      rw [w_hi]
      cases hb : d.lo with
      | false =>
        refine iteT ⟨_, rfl, _, rfl, _, rfl, len10 (by simp), fun t nt => ?_⟩
        have z2 := sm_upd (o := .tup [.int (i : Nat), .int d.t, .int d.n]) nt
        have nB2 : t ≠ B2 := (ne_of_none (z _ _ eB) nt).symm
        refine ⟨bs, z2 _ _ (z _ _ eB), al, _, upd_same, ?_, ?_⟩
        · rw [sel_take hd, if_pos hb]
          refine Obs.snoc (Obs.keep ((oB.same z).same z2) fun b d' e => ?_) ?_
          · rw [upd_ne (ne_of e (z2 _ _ (z _ _ eB)) (by intro q; cases q))]
            exact e
          · rw [upd_ne nB2]
            exact upd_same
        · intro b o e
          rw [upd_ne (ne_of_none e nB)]
          exact z2 _ _ (s3 _ _ e)
      | true =>
        refine iteF ⟨bs, z _ _ eB, ?_, s3⟩
        rw [sel_take hd, if_neg (by rw [hb]; exact fun q => Bool.false_ne_true q.symm), List.append_nil]
        exact oB.same z
    rintro H2 ⟨bs, eB, oB, s2⟩
    rw [List.take_of_length_le (by rw [hO.len]; exact Nat.le_refl _)] at oB
    refine ⟨_, rfl, _, rfl, len10 (by simp), fun T nT => ?_⟩
    have z := sm_upd (o := .tup [.ref A, .ref B2]) nT
    exact kk T _ A B2 as bs ((s1.trans s2).trans z) upd_same (z _ _ (s2 _ _ eA)) ((oA.same s2).same z) (z _ _ eB) (oB.same z)
end
end Lf
namespace Lf
open PySem PySem.Spec PyProof.Rows L2
/-! ### the bounds of the rates -/
abbrev T4 := Int × Int × Int × Int
abbrev t4O (z : T4) : HO := .tup [.int z.1, .int z.2.1, .int z.2.2.1, .int z.2.2.2]
def PrV (H : Hp) (v : V) : Option T4 → Prop
  | none => v = .non
  | some z => ∃ r, v = .ref r ∧ H r = some (t4O z)
theorem PrV.same {H H' : Hp} {v : V} {o : Option T4} (h : PrV H v o) (s : Same H H') : PrV H' v o := by
  cases o with
  | none => exact h
  | some z =>
    obtain ⟨r, e, h⟩ := h
    exact ⟨r, e, s _ _ h⟩
def uc (x y : T3) : Prop := ¬ y.2.1 < x.2.1 ∧ (x.2.1 < y.2.1 ∨ x.2.2 > y.2.2)
def bot (x y : T3) : Int := if y.2.1 - x.2.1 > 1 then y.2.1 - x.2.1 else 1
theorem bot_pos (x y : T3) : 1 ≤ bot x y := by
  unfold bot
  by_cases h : y.2.1 - x.2.1 > 1
  · rw [if_pos h]
    omega
  · rw [if_neg h]
    omega
theorem bot_eq {x y : T3} (h : x.2.1 < y.2.1) : bot x y = y.2.1 - x.2.1 := by
  unfold bot
  by_cases h : y.2.1 - x.2.1 > 1
  · rw [if_pos h]
  · rw [if_neg h]
    omega
def LoOk (S : T3 → T3 → Prop) : Option T4 → Prop
  | none => ∀ x y, S x y → ¬ y.2.1 < x.2.1
  | some z => (∃ x y, S x y ∧ y.2.1 < x.2.1 ∧ z = (x.2.2 - y.2.2 - 1, x.2.1 - y.2.1, x.1, y.1)) ∧ ∀ x y, S x y → y.2.1 < x.2.1 → (x.2.2 - y.2.2 - 1) * z.2.1 ≤ z.1 * (x.2.1 - y.2.1)
def UpOk (S : T3 → T3 → Prop) : Option T4 → Prop
  | none => ∀ x y, S x y → ¬ uc x y
  | some z => (∃ x y, S x y ∧ uc x y ∧ z = (y.2.2 + 1 - x.2.2, bot x y, x.1, y.1)) ∧ ∀ x y, S x y → uc x y → z.1 * bot x y ≤ (y.2.2 + 1 - x.2.2) * z.2.1
theorem frac_trans {a b c d e f : Int} (hd : 0 < d) (hb : 0 < b) (hf : 0 < f) (h1 : a * d ≤ c * b) (h2 : c * f ≤ e * d) : a * f ≤ e * b := by
  refine Int.le_of_mul_le_mul_right ?_ hd
  have g1 := Int.mul_le_mul_of_nonneg_right h1 (Int.le_of_lt hf)
  have g2 := Int.mul_le_mul_of_nonneg_right h2 (Int.le_of_lt hb)
  have e1 : a * f * d = a * d * f := by grind
  have e2 : e * b * d = e * d * b := by grind
  have e3 : c * b * f = c * f * b := by grind
  omega
theorem frac_lt {a b c d e f : Int} (hd : 0 < d) (hb : 0 < b) (hf : 0 < f) (h1 : a * d ≤ c * b) (h2 : c * f < e * d) : a * f < e * b := by
  refine Int.lt_of_mul_lt_mul_right ?_ (Int.le_of_lt hd)
  have g1 := Int.mul_le_mul_of_nonneg_right h1 (Int.le_of_lt hf)
  have g2 := Int.mul_lt_mul_of_pos_right h2 hb
  have e1 : a * f * d = a * d * f := by grind
  have e2 : e * b * d = e * d * b := by grind
  have e3 : c * b * f = c * f * b := by grind
  omega
theorem frac_lt' {a b c d e f : Int} (hd : 0 < d) (hb : 0 < b) (hf : 0 < f) (h1 : a * d < c * b) (h2 : c * f ≤ e * d) : a * f < e * b := by
  refine Int.lt_of_mul_lt_mul_right ?_ (Int.le_of_lt hd)
  have g1 := Int.mul_lt_mul_of_pos_right h1 hf
  have g2 := Int.mul_le_mul_of_nonneg_right h2 (Int.le_of_lt hb)
  have e1 : a * f * d = a * d * f := by grind
  have e2 : e * b * d = e * d * b := by grind
  have e3 : c * b * f = c * f * b := by grind
  omega
def ad (S : T3 → T3 → Prop) (x y : T3) : T3 → T3 → Prop := fun x' y' => S x' y' ∨ (x' = x ∧ y' = y)
section
variable {S S' : T3 → T3 → Prop} {x y : T3} {o : Option T4}
theorem LoOk.congr (h : LoOk S o) (e : ∀ x y, S x y ↔ S' x y) : LoOk S' o := by
  have : S = S' := by
    funext x y
    exact propext (e x y)
  rw [← this]
  exact h
theorem UpOk.congr (h : UpOk S o) (e : ∀ x y, S x y ↔ S' x y) : UpOk S' o := by
  have : S = S' := by
    funext x y
    exact propext (e x y)
  rw [← this]
  exact h
theorem LoOk.den (h : LoOk S o) : ∀ z, o = some z → 1 ≤ z.2.1 := fun z e => by
  subst e
  obtain ⟨⟨x, y, _, h1, rfl⟩, _⟩ := h
  show 1 ≤ x.2.1 - y.2.1
  omega
theorem UpOk.den (h : UpOk S o) : ∀ z, o = some z → 1 ≤ z.2.1 := fun z e => by
  subst e
  obtain ⟨⟨x, y, _, h1, rfl⟩, _⟩ := h
  exact bot_pos x y
theorem LoOk.skip (h : LoOk S o) (n : ¬ y.2.1 < x.2.1) : LoOk (ad S x y) o := by
  cases o with
  | none =>
    rintro x' y' (z | ⟨rfl, rfl⟩)
    · exact h _ _ z
    · exact n
  | some z =>
    obtain ⟨⟨x0, y0, s0, h1, h2⟩, h3⟩ := h
    refine ⟨⟨x0, y0, .inl s0, h1, h2⟩, ?_⟩
    rintro x' y' (z | ⟨rfl, rfl⟩) c
    · exact h3 _ _ z c
    · exact absurd c n
theorem UpOk.skip (h : UpOk S o) (n : ¬ uc x y) : UpOk (ad S x y) o := by
  cases o with
  | none =>
    rintro x' y' (z | ⟨rfl, rfl⟩)
    · exact h _ _ z
    · exact n
  | some z =>
    obtain ⟨⟨x0, y0, s0, h1, h2⟩, h3⟩ := h
    refine ⟨⟨x0, y0, .inl s0, h1, h2⟩, ?_⟩
    rintro x' y' (z | ⟨rfl, rfl⟩) c
    · exact h3 _ _ z c
    · exact absurd c n
theorem LoOk.first (h : LoOk S none) (c : y.2.1 < x.2.1) : LoOk (ad S x y) (some (x.2.2 - y.2.2 - 1, x.2.1 - y.2.1, x.1, y.1)) := by
  refine ⟨⟨x, y, .inr ⟨rfl, rfl⟩, c, rfl⟩, ?_⟩
  rintro x' y' (z | ⟨rfl, rfl⟩) c'
  · exact absurd c' (h _ _ z)
  · exact Int.le_refl _
theorem LoOk.keep {z : T4} (h : LoOk S (some z)) (g : (x.2.2 - y.2.2 - 1) * z.2.1 ≤ z.1 * (x.2.1 - y.2.1)) : LoOk (ad S x y) (some z) := by
  obtain ⟨⟨x0, y0, s0, h1, h2⟩, h3⟩ := h
  refine ⟨⟨x0, y0, .inl s0, h1, h2⟩, ?_⟩
  rintro x' y' (z | ⟨rfl, rfl⟩) c
  · exact h3 _ _ z c
  · exact g
theorem LoOk.upd {z : T4} (h : LoOk S (some z)) (c : y.2.1 < x.2.1) (g : z.1 * (x.2.1 - y.2.1) < (x.2.2 - y.2.2 - 1) * z.2.1) : LoOk (ad S x y) (some (x.2.2 - y.2.2 - 1, x.2.1 - y.2.1, x.1, y.1)) := by
  refine ⟨⟨x, y, .inr ⟨rfl, rfl⟩, c, rfl⟩, ?_⟩
  have dz := h.den z rfl
  rintro x' y' (s | ⟨rfl, rfl⟩) c'
  · show (x'.2.2 - y'.2.2 - 1) * (x.2.1 - y.2.1) ≤ (x.2.2 - y.2.2 - 1) * (x'.2.1 - y'.2.1)
    exact frac_trans (by omega : 0 < z.2.1) (by omega) (by omega) (h.2 _ _ s c') (Int.le_of_lt g)
  · exact Int.le_refl _
theorem UpOk.first (h : UpOk S none) (c : uc x y) : UpOk (ad S x y) (some (y.2.2 + 1 - x.2.2, bot x y, x.1, y.1)) := by
  refine ⟨⟨x, y, .inr ⟨rfl, rfl⟩, c, rfl⟩, ?_⟩
  rintro x' y' (z | ⟨rfl, rfl⟩) c'
  · exact absurd c' (h _ _ z)
  · exact Int.le_refl _
theorem UpOk.keep {z : T4} (h : UpOk S (some z)) (g : z.1 * bot x y ≤ (y.2.2 + 1 - x.2.2) * z.2.1) : UpOk (ad S x y) (some z) := by
  obtain ⟨⟨x0, y0, s0, h1, h2⟩, h3⟩ := h
  refine ⟨⟨x0, y0, .inl s0, h1, h2⟩, ?_⟩
  rintro x' y' (z | ⟨rfl, rfl⟩) c
  · exact h3 _ _ z c
  · exact g
theorem UpOk.upd {z : T4} (h : UpOk S (some z)) (c : uc x y) (g : (y.2.2 + 1 - x.2.2) * z.2.1 < z.1 * bot x y) : UpOk (ad S x y) (some (y.2.2 + 1 - x.2.2, bot x y, x.1, y.1)) := by
  refine ⟨⟨x, y, .inr ⟨rfl, rfl⟩, c, rfl⟩, ?_⟩
  have dz := h.den z rfl
  have b1 := bot_pos x y
  rintro x' y' (s | ⟨rfl, rfl⟩) c'
  · have b2 := bot_pos x' y'
    show (y.2.2 + 1 - x.2.2) * bot x' y' ≤ (y'.2.2 + 1 - x'.2.2) * bot x y
    exact frac_trans (by omega : 0 < z.2.1) (by omega) (by omega) (Int.le_of_lt g) (h.2 _ _ s c')
  · exact Int.le_refl _
end
/-- a rate within the bounds -/
def RateIn (lo up : Option T4) (p q : Int) : Prop := (∀ z, lo = some z → z.1 * q < p * z.2.1) ∧ ∀ z, up = some z → p * z.2.1 < z.1 * q
theorem rate_iff {S : T3 → T3 → Prop} {lo up : Option T4} {p q : Int} (hp : 0 ≤ p) (hq : 1 ≤ q) (hl : LoOk S lo) (hu : UpOk S up) : (∀ x y, S x y → p * (y.2.1 - x.2.1) < (y.2.2 + 1 - x.2.2) * q) ↔ RateIn lo up p q := by
  constructor
  · intro h
    constructor
    · rintro z rfl
      obtain ⟨⟨x, y, s, c, rfl⟩, _⟩ := hl
      have := h x y s
      show (x.2.2 - y.2.2 - 1) * q < p * (x.2.1 - y.2.1)
      have e1 : (x.2.2 - y.2.2 - 1) * q = -((y.2.2 + 1 - x.2.2) * q) := by grind
      have e2 : p * (x.2.1 - y.2.1) = -(p * (y.2.1 - x.2.1)) := by grind
      omega
    · rintro z rfl
      obtain ⟨⟨x, y, s, c, rfl⟩, _⟩ := hu
      have g := h x y s
      show p * bot x y < (y.2.2 + 1 - x.2.2) * q
      by_cases c2 : x.2.1 < y.2.1
      · rw [bot_eq c2]
        exact g
      · have e : y.2.1 - x.2.1 = 0 := by
          have := c.1
          omega
        rw [e, Int.mul_zero] at g
        have : 0 < y.2.2 + 1 - x.2.2 := pos_of_mul g (by omega)
        have := c.2
        omega
  · rintro ⟨h1, h2⟩ x y s
    by_cases c : y.2.1 < x.2.1
    · cases lo with
      | none => exact absurd c (hl x y s)
      | some z =>
        have dz := hl.den z rfl
        have g := frac_lt (by omega : 0 < z.2.1) (by omega) (by omega : 0 < q) (hl.2 x y s c) (h1 z rfl)
        have e1 : (x.2.2 - y.2.2 - 1) * q = -((y.2.2 + 1 - x.2.2) * q) := by grind
        have e2 : p * (x.2.1 - y.2.1) = -(p * (y.2.1 - x.2.1)) := by grind
        omega
    · by_cases c2 : x.2.1 < y.2.1 ∨ x.2.2 > y.2.2
      · cases up with
        | none => exact absurd ⟨c, c2⟩ (hu x y s)
        | some z =>
          have dz := hu.den z rfl
          have b1 := bot_pos x y
          have g := frac_lt' (by omega : 0 < z.2.1) (by omega : 0 < q) (by omega : 0 < bot x y) (h2 z rfl) (hu.2 x y s ⟨c, c2⟩)
          have le : y.2.1 - x.2.1 ≤ bot x y := by
            by_cases c3 : x.2.1 < y.2.1
            · rw [bot_eq c3]
              exact Int.le_refl _
            · omega
          have := Int.mul_le_mul_of_nonneg_left le hp
          omega
      · have e : y.2.1 - x.2.1 = 0 := by omega
        rw [e, Int.mul_zero]
        exact Int.mul_pos (by omega) (by omega)
/-- no rate is left -/
def nr : Option T4 → Option T4 → Bool
  | _, none => false
  | none, some h => decide (h.1 ≤ 0)
  | some l, some h => decide (h.1 ≤ 0) || decide (h.1 * l.2.1 ≤ l.1 * h.2.1)
theorem nr_none {S : T3 → T3 → Prop} {lo up : Option T4} {p q : Int} (hp : 0 ≤ p) (hq : 1 ≤ q) (hl : LoOk S lo) (hu : UpOk S up) (h : nr lo up = true) : ¬ RateIn lo up p q := by
  rintro ⟨h1, h2⟩
  cases up with
  | none => cases lo <;> cases h
  | some z =>
    have dz := hu.den z rfl
    have g2 := h2 z rfl
    have pz : z.1 ≤ 0 → False := fun c => by
      have := Int.mul_le_mul_of_nonneg_right c (show 0 ≤ q by omega)
      have := Int.mul_nonneg hp (show 0 ≤ z.2.1 by omega)
      rw [Int.zero_mul] at *
      omega
    cases lo with
    | none => exact pz (of_decide_eq_true h)
    | some l =>
      have dl := hl.den l rfl
      have g1 := h1 l rfl
      rcases Bool.or_eq_true _ _ ▸ h with h | h
      · exact pz (of_decide_eq_true h)
      · have h : z.1 * l.2.1 ≤ l.1 * z.2.1 := of_decide_eq_true h
        have := frac_lt (by omega : 0 < l.2.1) (by omega : 0 < z.2.1) (by omega : 0 < q) h g1
        omega
def PB (k : Nat) (o : Option T4) : Prop := ∀ z, o = some z → Bd (k + 2) z.1 ∧ Bd (k + 2) z.2.1
def TB (k : Nat) (ls : List T3) : Prop := ∀ x ∈ ls, Bd k x.2.1 ∧ Bd k x.2.2
section
variable {P : Program} {w : World} {K : PySem.W.Frag} {mg : Str → Option Value} {base : Heap}
def spTP : Sp := fun vs H Q _ => ∃ (T A B : Addr) (vl vu : V) (lo up : Option T4) (as bs : List V) (ls hs : List T3) (S : T3 → T3 → Prop) (k : Nat), vs = [.ref T, .ref A, .ref B] ∧ H T = some (.tup [vl, vu]) ∧ PrV H vl lo ∧ PrV H vu up ∧ H A = some (.lst as) ∧ Obs trO H as ls ∧ H B = some (.lst bs) ∧ Obs trO H bs hs ∧
  TB k ls ∧ TB k hs ∧ PB k lo ∧ PB k up ∧ LoOk S lo ∧ UpOk S up ∧ 0 < k ∧ k ≤ 10000 ∧
  ∀ R H' wl wu lo' up', Same H H' → H' R = some (.tup [wl, wu]) → PrV H' wl lo' → PrV H' wu up' → PB k lo' → PB k up' → LoOk (fun x y => S x y ∨ (x ∈ ls ∧ y ∈ hs)) lo' → UpOk (fun x y => S x y ∨ (x ∈ ls ∧ y ∈ hs)) up' → Q (.ref R) H'
abbrev s_tighter_pairs : Stmt := topS 20
abbrev N_tighter_pairs : List Str := ["pairs", "lows", "highs", "lower", "upper", "i", "t", "n", "j", "u", "m", "bottom"]
abbrev P_tighter_pairs : List Str := ["pairs", "lows", "highs"]
theorem sc_tighter_pairs : FnScope N_tighter_pairs P_tighter_pairs (defScope s_tighter_pairs) := ⟨rfl, rfl, rfl, by decide +kernel, rfl, by decide +kernel, by decide +kernel⟩
theorem ok_tighter_pairs (D : Df K mg "tighter_pairs" s_tighter_pairs P_tighter_pairs) (B : Bi mg) : C8.Cal P w K mg base 1 "tighter_pairs" spTP [] := by
  refine cal_of D sc_tighter_pairs (fun vs H Q E h => ?_) (fun f cdv A outer s H vs Q E hr h => ?_)
  · obtain ⟨T, A, B, vl, vu, lo, up, as, bs, ls, hs, S, k, rfl, _⟩ := h
    rfl
  · obtain ⟨T, A', B', vl, vu, lo, up, as, bs, ls, hs, S, k, rfl, eT, pl, pu, eA, oA, eB, oB, tA, tB, bl, bu, hlo, hup, k0, k1, kk⟩ := h
    refine ⟨_, (pss_cons (ps_asg (pv 0) (pg_tup rfl (pgs_cons (pg_name (i := 3) sc_tighter_pairs.nd rfl (Or.inl rfl)) (pgs_cons (pg_name (i := 4) sc_tighter_pairs.nd rfl (Or.inl rfl)) pgs_nil))))
    (pss_cons (ps_for PassesOwn.never rfl (pi_list (pv 1)) (pg_tup rfl (pgs_cons (pg_name (i := 5) sc_tighter_pairs.nd rfl (Or.inl rfl)) (pgs_cons (pg_name (i := 6) sc_tighter_pairs.nd rfl (Or.inl rfl)) (pgs_cons (pg_name (i := 7) sc_tighter_pairs.nd rfl (Or.inl rfl)) pgs_nil))))
      (pss_one (ps_for PassesOwn.never rfl (pi_list (pv 2)) (pg_tup rfl (pgs_cons (pg_name (i := 8) sc_tighter_pairs.nd rfl (Or.inl rfl)) (pgs_cons (pg_name (i := 9) sc_tighter_pairs.nd rfl (Or.inl rfl)) (pgs_cons (pg_name (i := 10) sc_tighter_pairs.nd rfl (Or.inl rfl)) pgs_nil))))
      (pss_one (ps_if (pt_cmpR op_lt (pv 9) (pv 6) (nomark _))
      (pss_one (ps_if (PW.pt (pw_or (pt_cmpR op_isN (pv 3) pe_non (nomark _)) (pw_or1 (pt_cmpR op_gt (pe_op op_mulW (pe_op op_sub (pe_op op_sub (pv 7) (pv 10)) pe_int) (pe_ix (r := rIxT K) ix_tup (pv 3) pe_int (fun _ _ => rfl))) (pe_op op_mulW (pe_ix (r := rIxT K) ix_tup (pv 3) pe_int (fun _ _ => rfl)) (pe_op op_sub (pv 6) (pv 9))) (nomark _)))))
      (pss_one (ps_set (i := 3) sc_tighter_pairs.nd rfl (Or.inl rfl) (pe_tup (pa_cons (pe_op op_sub (pe_op op_sub (pv 7) (pv 10)) pe_int) (pa_cons (pe_op op_sub (pv 6) (pv 9)) (pa_cons (pv 5) (pa_cons (pv 8) pa_nil)))))))
      pss_nil))
      (pss_one (ps_if (PW.pt (pw_or (pt_cmpR op_lt (pv 6) (pv 9) (nomark _)) (pw_or1 (pt_cmpR op_gt (pv 7) (pv 10) (nomark _)))))
      (pss_cons (ps_set (i := 11) sc_tighter_pairs.nd rfl (Or.inl rfl) (pe_callB (call_max2 rfl) (by rfl) B.max_ bt_max (pa_cons pe_int (pa_cons (pe_op op_sub (pv 9) (pv 6)) pa_nil))))
    (pss_one (ps_if (PW.pt (pw_or (pt_cmpR op_isN (pv 4) pe_non (nomark _)) (pw_or1 (pt_cmpR op_lt (pe_op op_mulW (pe_op op_sub (pe_op op_add (pv 10) pe_int) (pv 7)) (pe_ix (r := rIxT K) ix_tup (pv 4) pe_int (fun _ _ => rfl))) (pe_op op_mulW (pe_ix (r := rIxT K) ix_tup (pv 4) pe_int (fun _ _ => rfl)) (pv 11)) (nomark _)))))
      (pss_one (ps_set (i := 4) sc_tighter_pairs.nd rfl (Or.inl rfl) (pe_tup (pa_cons (pe_op op_sub (pe_op op_add (pv 10) pe_int) (pv 7)) (pa_cons (pv 11) (pa_cons (pv 5) (pa_cons (pv 8) pa_nil)))))))
      pss_nil)))
      pss_nil)))))))
    (pss_one (ps_ret (pe_tup (pa_cons (pv 3) (pa_cons (pv 4) pa_nil))))))), ?_⟩
    refine ⟨_, rfl, T, _, rfl, SqT.of eT, rfl, _, _, rfl, _, _, rfl, rfl, ?_⟩
    refine ⟨_, rfl, A', rfl, ⟨_, SqL.of eA⟩, ?_⟩
    refine for_list (K := K) (a := A') (xs := as) (fun i σ H' => ∃ (vl vu : V) (lo up : Option T4) (y5 y6 y7 y8 y9 y10 y11 : Option V), σ = [some (.ref T), some (.ref A'), some (.ref B'), some vl, some vu, y5, y6, y7, y8, y9, y10, y11] ∧ Same H H' ∧ PrV H' vl lo ∧ PrV H' vu up ∧ PB k lo ∧ PB k up ∧ LoOk (fun x y => S x y ∨ (x ∈ ls.take i ∧ y ∈ hs)) lo ∧ UpOk (fun x y => S x y ∨ (x ∈ ls.take i ∧ y ∈ hs)) up) ?_ ?_ ?_ ?_
    · refine ⟨vl, vu, lo, up, _, _, _, _, _, _, _, rfl, Same.refl _, pl, pu, bl, bu, hlo.congr fun x y => ?_, hup.congr fun x y => ?_⟩
      · constructor
        · exact .inl
        · rintro (z | ⟨z, _⟩)
          · exact z
          · cases z
      · constructor
        · exact .inl
        · rintro (z | ⟨z, _⟩)
          · exact z
          · cases z
    · rintro i σ H' _ ⟨_, _, _, _, _, _, _, _, _, _, _, _, s', _⟩
      exact SqL.of (s' _ _ eA)
    · rintro i v σ H1 hv ⟨vl, vu, lo, up, y5, y6, y7, y8, y9, y10, y11, rfl, s1, pl, pu, bl, bu, hlo, hup⟩
      obtain ⟨r, x, rfl, er, hx⟩ := oA.at hv
      have xb := tA x (List.mem_of_getElem? hx)
      refine ⟨r, _, rfl, SqT.of (s1 _ _ er), rfl, _, _, rfl, _, _, rfl, _, _, rfl, rfl, ?_⟩
      refine ⟨_, rfl, B', rfl, ⟨_, SqL.of (s1 _ _ eB)⟩, ?_⟩
      refine for_list (K := K) (a := B') (xs := bs) (fun j σ H' => ∃ (vl vu : V) (lo up : Option T4) (y8 y9 y10 y11 : Option V), σ = [some (.ref T), some (.ref A'), some (.ref B'), some vl, some vu, some (.int x.1), some (.int x.2.1), some (.int x.2.2), y8, y9, y10, y11] ∧ Same H H' ∧ PrV H' vl lo ∧ PrV H' vu up ∧ PB k lo ∧ PB k up ∧ LoOk (fun x' y' => (S x' y' ∨ (x' ∈ ls.take i ∧ y' ∈ hs)) ∨ (x' = x ∧ y' ∈ hs.take j)) lo ∧ UpOk (fun x' y' => (S x' y' ∨ (x' ∈ ls.take i ∧ y' ∈ hs)) ∨ (x' = x ∧ y' ∈ hs.take j)) up) ?_ ?_ ?_ ?_
      · refine ⟨vl, vu, lo, up, _, _, _, _, rfl, s1, pl, pu, bl, bu, hlo.congr fun x y => ?_, hup.congr fun x y => ?_⟩
        · constructor
          · exact .inl
          · rintro (z | ⟨_, z⟩)
            · exact z
            · cases z
        · constructor
          · exact .inl
          · rintro (z | ⟨_, z⟩)
            · exact z
            · cases z
      · rintro j σ H' _ ⟨_, _, _, _, _, _, _, _, _, s', _⟩
        exact SqL.of (s' _ _ eB)
      · clear hlo hup pl pu bl bu vl vu lo up
        rintro j v σ H2 hv ⟨vl, vu, lo, up, y8, y9, y10, y11, rfl, s2, pl, pu, bl, bu, hlo, hup⟩
        obtain ⟨r2, y, rfl, er2, hy⟩ := oB.at hv
        have yb := tB y (List.mem_of_getElem? hy)
        have cg : ∀ x' y', ad (fun x' y' => (S x' y' ∨ (x' ∈ ls.take i ∧ y' ∈ hs)) ∨ (x' = x ∧ y' ∈ hs.take j)) x y x' y' ↔ ((S x' y' ∨ (x' ∈ ls.take i ∧ y' ∈ hs)) ∨ (x' = x ∧ y' ∈ hs.take (j + 1))) := fun x' y' => by
          rw [List.take_add_one, hy]
          constructor
          · rintro ((z | ⟨z1, z2⟩) | ⟨z1, z2⟩)
            · exact .inl z
            · exact .inr ⟨z1, List.mem_append.mpr (.inl z2)⟩
            · exact .inr ⟨z1, List.mem_append.mpr (.inr (List.mem_singleton.mpr z2))⟩
          · rintro (z | ⟨z1, z2⟩)
            · exact .inl (.inl z)
            · rcases List.mem_append.mp z2 with z2 | z2
              · exact .inl (.inr ⟨z1, z2⟩)
              · exact .inr ⟨z1, List.mem_singleton.mp z2⟩
        have hlo' := hlo
        have hup' := hup
        refine ⟨r2, _, rfl, SqT.of (s2 _ _ er2), rfl, _, _, rfl, _, _, rfl, _, _, rfl, rfl, ?_⟩
        have b1 : Bd (k + 2) (x.2.2 - y.2.2 - 1) := Bd.sub (Bd.sub xb.2 yb.2) (Bd.small 1 (by decide) (by omega))
        have b2 : Bd (k + 1) (x.2.1 - y.2.1) := Bd.sub xb.1 yb.1
        have b3 : Bd (k + 2) (y.2.2 + 1 - x.2.2) := Bd.sub (Bd.add yb.2 (Bd.small 1 (by decide) (by omega))) (xb.2.mono (by omega))
        have b4 : Bd (k + 1) (bot x y) := by
          unfold bot
          by_cases h : y.2.1 - x.2.1 > 1
          · rw [if_pos h]
            exact Bd.sub yb.1 xb.1
          · rw [if_neg h]
            exact Bd.small 1 (by decide) (by omega)
        refine ⟨_, rfl, _, rfl, _, _, rfl, rfl, _, rfl, ite2 (fun c => ?_) (fun c => ?_)⟩
        · have c : y.2.1 < x.2.1 := of_decide_eq_true c
          have upS := (hup.skip (x := x) (y := y) (fun z => z.1 c)).congr cg
          cases lo with
          | none =>
            have e : vl = .non := pl
            subst e
            refine ⟨_, rfl, rfl, _, rfl, iteT (iteT ?_)⟩
            refine ⟨_, rfl, _, rfl, _, _, rfl, rfl, _, _, rfl, rfl, _, rfl, _, rfl, _, _, rfl, rfl, _, rfl, _, rfl, len10 (by simp), fun r3 nr3 => ?_⟩
            have z3 := sm_upd (o := t4O (x.2.2 - y.2.2 - 1, x.2.1 - y.2.1, x.1, y.1)) nr3
            exact ⟨_, _, some (x.2.2 - y.2.2 - 1, x.2.1 - y.2.1, x.1, y.1), up, _, _, _, _, rfl, s2.trans z3, ⟨r3, rfl, upd_same⟩, pu.same z3, fun z e => by cases e; exact ⟨b1, b2.mono (by omega)⟩, bu, (hlo.first c).congr cg, upS⟩
          | some z =>
            obtain ⟨rz, rfl, ez⟩ := pl
            obtain ⟨bz1, bz2⟩ := bl z rfl
            refine ⟨_, rfl, rfl, _, rfl, iteF ?_⟩
            refine ⟨_, rfl, _, rfl, _, _, rfl, rfl, _, _, rfl, rfl, _, rfl, rz, _, _, _, rfl, rfl, SqT.of ez, atI_nat (j := 1) rfl, _, _, rfl, rfl, mulW b1 bz2 (by omega) (by omega) (by omega), _, rfl, rz, _, _, _, rfl, rfl, SqT.of ez, atI_nat (j := 0) rfl, _, rfl, _, rfl, _, _, rfl, rfl, _, _, rfl, rfl, mulW bz1 b2 (by omega) (by omega) (by omega), _, _, rfl, rfl, _, rfl, ite2 (fun g => ?_) (fun g => ?_)⟩
            · have g : (x.2.2 - y.2.2 - 1) * z.2.1 > z.1 * (x.2.1 - y.2.1) := of_decide_eq_true g
              refine ⟨_, rfl, _, rfl, _, _, rfl, rfl, _, _, rfl, rfl, _, rfl, _, rfl, _, _, rfl, rfl, _, rfl, _, rfl, len10 (by simp), fun r3 nr3 => ?_⟩
              have z3 := sm_upd (o := t4O (x.2.2 - y.2.2 - 1, x.2.1 - y.2.1, x.1, y.1)) nr3
              exact ⟨_, _, some (x.2.2 - y.2.2 - 1, x.2.1 - y.2.1, x.1, y.1), up, _, _, _, _, rfl, s2.trans z3, ⟨r3, rfl, upd_same⟩, pu.same z3, fun z e => by cases e; exact ⟨b1, b2.mono (by omega)⟩, bu, (hlo.upd c g).congr cg, upS⟩
            · have g : ¬ (x.2.2 - y.2.2 - 1) * z.2.1 > z.1 * (x.2.1 - y.2.1) := fun h => g (decide_eq_true h)
              exact ⟨_, _, some z, up, _, _, _, _, rfl, s2, ⟨rz, rfl, ez⟩, pu, bl, bu, (hlo.keep (by omega)).congr cg, upS⟩
        · have c : ¬ y.2.1 < x.2.1 := fun h => c (decide_eq_true h)
          have loS := (hlo.skip (x := x) (y := y) c).congr cg
          refine ⟨_, rfl, _, rfl, _, _, rfl, rfl, _, rfl, ite2 (fun c1 => iteT ((fun (hu : uc x y) => ?tw1) ⟨c, .inl (of_decide_eq_true c1)⟩)) (fun c1 => ⟨_, rfl, _, rfl, _, _, rfl, rfl, _, rfl, ite2 (fun c2 => (fun (hu : uc x y) => ?tw2) ⟨c, .inr (of_decide_eq_true c2)⟩) (fun c2 => ?_)⟩)⟩
          case tw1 | tw2 =>
            refine ⟨_, rfl, _, rfl, _, _, rfl, rfl, _, _, rfl, ?_⟩
            show gName 11 (.int (bot x y)) _ H2 _
            cases up with
            | none =>
              have e : vu = .non := pu
              subst e
              refine ⟨_, rfl, rfl, _, rfl, iteT (iteT ?_)⟩
              refine ⟨_, rfl, _, _, rfl, rfl, _, rfl, _, _, rfl, rfl, _, rfl, _, rfl, _, rfl, len10 (by simp), fun r3 nr3 => ?_⟩
              have z3 := sm_upd (o := t4O (y.2.2 + 1 - x.2.2, bot x y, x.1, y.1)) nr3
              exact ⟨_, _, lo, some (y.2.2 + 1 - x.2.2, bot x y, x.1, y.1), _, _, _, _, rfl, s2.trans z3, pl.same z3, ⟨r3, rfl, upd_same⟩, bl, fun z e => by cases e; exact ⟨b3, b4.mono (by omega)⟩, loS, (hup.first hu).congr cg⟩
            | some z =>
              obtain ⟨rz, rfl, ez⟩ := pu
              obtain ⟨bz1, bz2⟩ := bu z rfl
              refine ⟨_, rfl, rfl, _, rfl, iteF ?_⟩
              refine ⟨_, rfl, _, _, rfl, rfl, _, rfl, _, _, rfl, rfl, _, rfl, rz, _, _, _, rfl, rfl, SqT.of ez, atI_nat (j := 1) rfl, _, _, rfl, rfl, mulW b3 bz2 (by omega) (by omega) (by omega), _, rfl, rz, _, _, _, rfl, rfl, SqT.of ez, atI_nat (j := 0) rfl, _, rfl, _, _, rfl, rfl, mulW bz1 b4 (by omega) (by omega) (by omega), _, _, rfl, rfl, _, rfl, ite2 (fun g => ?_) (fun g => ?_)⟩
              · have g : (y.2.2 + 1 - x.2.2) * z.2.1 < z.1 * bot x y := of_decide_eq_true g
                refine ⟨_, rfl, _, _, rfl, rfl, _, rfl, _, _, rfl, rfl, _, rfl, _, rfl, _, rfl, len10 (by simp), fun r3 nr3 => ?_⟩
                have z3 := sm_upd (o := t4O (y.2.2 + 1 - x.2.2, bot x y, x.1, y.1)) nr3
                exact ⟨_, _, lo, some (y.2.2 + 1 - x.2.2, bot x y, x.1, y.1), _, _, _, _, rfl, s2.trans z3, pl.same z3, ⟨r3, rfl, upd_same⟩, bl, fun z e => by cases e; exact ⟨b3, b4.mono (by omega)⟩, loS, (hup.upd hu g).congr cg⟩
              · have g : ¬ (y.2.2 + 1 - x.2.2) * z.2.1 < z.1 * bot x y := fun h => g (decide_eq_true h)
                exact ⟨_, _, lo, some z, _, _, _, _, rfl, s2, pl, ⟨rz, rfl, ez⟩, bl, bu, loS, (hup.keep (by omega)).congr cg⟩
          · have nu : ¬ uc x y := fun z => z.2.elim (fun h => c1 (decide_eq_true h)) (fun h => c2 (decide_eq_true h))
            exact ⟨_, _, lo, up, _, _, _, _, rfl, s2, pl, pu, bl, bu, loS, (hup.skip nu).congr cg⟩
      · clear hlo hup pl pu bl bu vl vu lo up
        rintro σ H2 ⟨vl, vu, lo, up, y8, y9, y10, y11, rfl, s2, pl, pu, bl, bu, hlo, hup⟩
        have etk : hs.take bs.length = hs := List.take_of_length_le (by rw [oB.len]; exact Nat.le_refl _)
        rw [etk] at hlo hup
        have cg : ∀ x' y', ((S x' y' ∨ (x' ∈ ls.take i ∧ y' ∈ hs)) ∨ (x' = x ∧ y' ∈ hs)) ↔ (S x' y' ∨ (x' ∈ ls.take (i + 1) ∧ y' ∈ hs)) := fun x' y' => by
          rw [List.take_add_one, hx]
          constructor
          · rintro ((z | ⟨z1, z2⟩) | ⟨z1, z2⟩)
            · exact .inl z
            · exact .inr ⟨List.mem_append.mpr (.inl z1), z2⟩
            · exact .inr ⟨List.mem_append.mpr (.inr (List.mem_singleton.mpr z1)), z2⟩
          · rintro (z | ⟨z1, z2⟩)
            · exact .inl (.inl z)
            · rcases List.mem_append.mp z1 with z1 | z1
              · exact .inl (.inr ⟨z1, z2⟩)
              · exact .inr ⟨List.mem_singleton.mp z1, z2⟩
        exact ⟨vl, vu, lo, up, _, _, _, _, _, _, _, rfl, s2, pl, pu, bl, bu, hlo.congr cg, hup.congr cg⟩
    · clear hlo hup pl pu bl bu eT vl vu lo up
      rintro σ H2 ⟨vl, vu, lo, up, y5, y6, y7, y8, y9, y10, y11, rfl, s2, pl, pu, bl, bu, hlo, hup⟩
      have etk : ls.take as.length = ls := List.take_of_length_le (by rw [oA.len]; exact Nat.le_refl _)
      rw [etk] at hlo hup
      refine ⟨_, rfl, _, rfl, len10 (by simp), fun R nR => ?_⟩
      have z := sm_upd (o := .tup [vl, vu]) nR
      exact kk R _ vl vu lo up (s2.trans z) upd_same (pl.same z) (pu.same z) bl bu hlo hup
end
end Lf
namespace Lf
open PySem PySem.Spec PyProof.Rows L2
def EndV (H : Hp) (k : Nat) (v : V) : Option (Int × Int) → Prop
  | none => v = .non
  | some e => ∃ a, v = .ref a ∧ H a = some (tup2 e.1 e.2) ∧ Rt k e.1 e.2
def OkE : Option (Int × Int) → Option (Int × Int) → Prop
  | some l, some h => l.1 * h.2 < h.1 * l.2
  | none, some h => 0 < h.1
  | _, none => True
def ResE : Option (Int × Int) → Option (Int × Int) → Int → Int → Prop
  | none, _, N, D => N = 0 ∧ D = 1
  | some l, some h, N, D => Sim l.1 l.2 h.1 h.2 N D
  | some l, none, N, D => Sim l.1 l.2 1 0 N D
section
variable {P : Program} {w : World} {K : PySem.W.Frag} {mg : Str → Option Value} {base : Heap}
def spSB : Sp := fun vs H Q _ => ∃ (v1 v2 : V) (e1 e2 : Option (Int × Int)) (k : Nat), vs = [v1, v2] ∧ EndV H k v1 e1 ∧ EndV H k v2 e2 ∧ OkE e1 e2 ∧ 0 < k ∧ k ≤ 398 ∧
  ∀ r H' N D, Same H H' → H r = none → H' r = some (tup2 N D) → ResE e1 e2 N D → Bd (k + 1) N → Bd (k + 1) D → Q (.ref r) H'
theorem ok_simplest_between (cA_simplest_between : CalF P w K mg base 4 "simplest_between" s_simplest_between P_simplest_between spSB) : C8.Cal P w K mg base 4 "simplest_between" spSB [] := by
  exact cA_simplest_between.cal
end
end Lf
namespace Lf
open PySem PySem.Spec PyProof.Rows L2
def SD (ds : List Rec) : T3 → T3 → Prop := fun x y => x ∈ sel true 0 ds ∧ y ∈ sel false 0 ds
theorem sel_tb {k : Nat} {b : Bool} {ds : List Rec} (h : RcB k ds) : TB k (sel b 0 ds) := fun _ hx => sel_bd h hx
theorem EndV.sm {H H' : Hp} {k : Nat} {v : V} {e : Option (Int × Int)} (h : EndV H k v e) (s : Same H H') : EndV H' k v e := by
  match e, h with
  | none, h => exact h
  | some e, ⟨a, h1, h2, h3⟩ => exact ⟨a, h1, s _ _ h2, h3⟩
theorem EndV.fr {H H' : Hp} {k : Nat} {v : V} {e : Option (Int × Int)} (h : EndV H k v e) (s : Fr H H') : EndV H' k v e := by
  match e, h with
  | none, h => exact h
  | some e, ⟨a, h1, h2, h3⟩ => exact ⟨a, h1, s.t _ _ h2, h3⟩
theorem redRt {k : Nat} {x y : Int} (h0 : 0 ≤ x) (h1 : 1 ≤ y) (bx : Bd k x) (by_ : Bd k y) : Rt k (x / (Int.gcd x y : Int)) (y / (Int.gcd x y : Int)) := by
  have g := gcd_pos (p := x) h1
  refine ⟨Int.ediv_nonneg h0 (by omega), ?_, ?_, bx.ediv g, by_.ediv g⟩
  · have := Int.ediv_le_ediv g (gcd_le (p := x) h1)
    rw [Int.ediv_self (by omega)] at this
    exact this
  · exact Int.gcd_ediv_gcd_ediv_gcd (by omega)
def redE (z : T4) : Int × Int := (z.1 / (Int.gcd z.1 z.2.1 : Int), z.2.1 / (Int.gcd z.1 z.2.1 : Int))
def lowE : Option T4 → Option (Int × Int)
  | none => none
  | some z => if z.1 < 0 then none else some (redE z)
def highE : Option T4 → Option (Int × Int)
  | none => none
  | some z => some (redE z)
theorem red_lt_iff {z : T4} {p q : Int} (d : 1 ≤ z.2.1) : ((redE z).1 * q < p * (redE z).2 ↔ z.1 * q < p * z.2.1) ∧ (p * (redE z).2 < (redE z).1 * q ↔ p * z.2.1 < z.1 * q) := by
  have g := gcd_pos (p := z.1) d
  have e1 : (Int.gcd z.1 z.2.1 : Int) * (z.1 / (Int.gcd z.1 z.2.1 : Int)) = z.1 := Int.mul_ediv_cancel' (Int.gcd_dvd_left ..)
  have e2 : (Int.gcd z.1 z.2.1 : Int) * (z.2.1 / (Int.gcd z.1 z.2.1 : Int)) = z.2.1 := Int.mul_ediv_cancel' (Int.gcd_dvd_right ..)
  unfold redE
  dsimp only
  generalize (Int.gcd z.1 z.2.1 : Int) = gg at *
  generalize z.1 / gg = a at *
  generalize z.2.1 / gg = b at *
  rw [← e1, ← e2]
  have h1 : gg * a * q = gg * (a * q) := by grind
  have h2 : p * (gg * b) = gg * (p * b) := by grind
  rw [h1, h2]
  constructor
  · exact ⟨fun h => Int.mul_lt_mul_of_pos_left h g, fun h => Int.lt_of_mul_lt_mul_left h (Int.le_of_lt g)⟩
  · exact ⟨fun h => Int.mul_lt_mul_of_pos_left h g, fun h => Int.lt_of_mul_lt_mul_left h (Int.le_of_lt g)⟩
/-- strictly between the ends that rates gives -/
def Ins (e1 e2 : Option (Int × Int)) (p q : Int) : Prop := (∀ z, e1 = some z → z.1 * q < p * z.2) ∧ ∀ z, e2 = some z → p * z.2 < z.1 * q
theorem ins_iff {S : T3 → T3 → Prop} {lo up : Option T4} {p q : Int} (hp : 0 ≤ p) (hq : 1 ≤ q) (hl : LoOk S lo) (hu : UpOk S up) : Ins (lowE lo) (highE up) p q ↔ RateIn lo up p q := by
  unfold Ins RateIn
  constructor
  · rintro ⟨h1, h2⟩
    constructor
    · rintro z rfl
      have d := hl.den z rfl
      by_cases c : z.1 < 0
      · have := Int.mul_neg_of_neg_of_pos c (show 0 < q by omega)
        have := Int.mul_nonneg hp (show 0 ≤ z.2.1 by omega)
        omega
      · exact (red_lt_iff d).1.mp (h1 _ (by show (if z.1 < 0 then none else some (redE z)) = _; rw [if_neg c]))
    · rintro z rfl
      exact (red_lt_iff (hu.den z rfl)).2.mp (h2 _ rfl)
  · rintro ⟨h1, h2⟩
    constructor
    · intro z e
      cases lo with
      | none => cases e
      | some y =>
        have e : (if y.1 < 0 then none else some (redE y)) = some z := e
        by_cases c : y.1 < 0
        · rw [if_pos c] at e
          cases e
        · rw [if_neg c] at e
          cases e
          exact (red_lt_iff (hl.den y rfl)).1.mpr (h1 y rfl)
    · intro z e
      cases up with
      | none => cases e
      | some y =>
        cases e
        exact (red_lt_iff (hu.den y rfl)).2.mpr (h2 y rfl)
/-- the phases are there just where all pairs leave room -/
theorem ph_iff {p q : Int} {ds : List Rec} {a b : Option Int} (ha : IsMx (lph p q ds) a) (hb : IsMn (hph p q ds) b) : okPh a b = true ↔ ∀ x y, SD ds x y → p * (y.2.1 - x.2.1) < (y.2.2 + 1 - x.2.2) * q := by
  have key : ∀ x y : T3, (x.2.2 * q - p * x.2.1 ≤ (y.2.2 + 1) * q - p * y.2.1 - 1) ↔ p * (y.2.1 - x.2.1) < (y.2.2 + 1 - x.2.2) * q := fun x y => by
    rw [Int.mul_sub, Int.sub_mul (y.2.2 + 1)]
    omega
  constructor
  · intro h x y ⟨hx, hy⟩
    rw [← key]
    have mx : x.2.2 * q - p * x.2.1 ∈ lph p q ds := List.mem_map.mpr ⟨x, hx, rfl⟩
    have my : (y.2.2 + 1) * q - p * y.2.1 - 1 ∈ hph p q ds := List.mem_map.mpr ⟨y, hy, rfl⟩
    cases a with
    | none =>
      rw [show lph p q ds = [] from ha] at mx
      cases mx
    | some v =>
      cases b with
      | none =>
        rw [show hph p q ds = [] from hb] at my
        cases my
      | some u =>
        have h : v ≤ u := of_decide_eq_true h
        have := ha.2 _ mx
        have := hb.2 _ my
        omega
  · intro h
    cases a with
    | none => rfl
    | some v =>
      cases b with
      | none => rfl
      | some u =>
        obtain ⟨x, hx, ex⟩ := List.mem_map.mp ha.1
        obtain ⟨y, hy, ey⟩ := List.mem_map.mp hb.1
        refine decide_eq_true ?_
        rw [← ex, ← ey]
        exact (key x y).mpr (h x y ⟨hx, hy⟩)
section
variable {P : Program} {w : World} {K : PySem.W.Frag} {mg : Str → Option Value} {base : Heap}
def spRedR : Sp := fun vs H Q _ => ∃ (p q : Int), vs = [.int p, .int q] ∧ 0 ≤ p ∧ 1 ≤ q ∧ Bd 9000 q ∧
  ∀ r H', Same H H' → H r = none → H' r = some (tup2 (p / (Int.gcd p q : Int)) (q / (Int.gcd p q : Int))) → Q (.ref r) H'
abbrev s_reduce_rate : Stmt := topS 10
abbrev N_reduce_rate : List Str := ["p", "q", "divisor"]
abbrev P_reduce_rate : List Str := ["p", "q"]
theorem sc_reduce_rate : FnScope N_reduce_rate P_reduce_rate (defScope s_reduce_rate) := ⟨rfl, rfl, rfl, by decide +kernel, rfl, by decide +kernel, by decide +kernel⟩
theorem ok_reduce_rate (D : Df K mg "reduce_rate" s_reduce_rate P_reduce_rate) (c_gcd : C8.Cal P w K mg base 1 "gcd" spGcd []) : C8.Cal P w K mg base 2 "reduce_rate" spRedR [] := by
  refine cal_of D sc_reduce_rate (fun vs H Q E h => ?_) (fun f cdv A outer s H vs Q E hr h => ?_)
  · obtain ⟨p, q, rfl, _⟩ := h
    rfl
  · obtain ⟨p, q, rfl, hp, hq, hb, k⟩ := h
    refine ⟨_, (pss_cons (ps_set (i := 2) sc_reduce_rate.nd rfl (Or.inl rfl) (C8.pe_c c_gcd hr (by decide) (by rfl) (pa_cons (pv 0) (pa_cons (pv 1) pa_nil))))
    (pss_one (ps_ret (pe_tup (pa_cons (pe_op op_fdivW (pv 0) (pv 2)) (pa_cons (pe_op op_fdivW (pv 1) (pv 2)) pa_nil)))))), ?_⟩
    have hg := gcd_pos (p := p) hq
    have hd : CDivW 0 (Int.gcd p q : Int) := ⟨hg, (hb.between (by omega) (gcd_le hq)).log (by decide)⟩
    refine ⟨_, rfl, _, rfl, p, q, rfl, hp, by omega, ?_⟩
    refine ⟨_, rfl, _, rfl, _, _, rfl, rfl, hd, _, rfl, _, rfl, _, _, rfl, rfl, hd, len10 (by simp), fun r nr => ?_⟩
    exact k r _ (sm_upd nr) nr upd_same
def spTight : Sp := fun vs H Q _ => ∃ (L : Addr) (xs : List V) (ds : List Rec) (k : Nat), vs = [.ref L] ∧ H L = some (.lst xs) ∧ Obs rcO H xs ds ∧ ds.length ≤ 1000 ∧ RcB k ds ∧ 0 < k ∧ k ≤ 8000 ∧
  ∀ R H' wl wu lo up, Same H H' → H' R = some (.tup [wl, wu]) → PrV H' wl lo → PrV H' wu up → PB k lo → PB k up → LoOk (SD ds) lo → UpOk (SD ds) up → Q (.ref R) H'
abbrev s_tight_pairs : Stmt := topS 19
abbrev N_tight_pairs : List Str := ["records", "lows", "highs"]
abbrev P_tight_pairs : List Str := ["records"]
theorem sc_tight_pairs : FnScope N_tight_pairs P_tight_pairs (defScope s_tight_pairs) := ⟨rfl, rfl, rfl, by decide +kernel, rfl, by decide +kernel, by decide +kernel⟩
theorem ok_tight_pairs (D : Df K mg "tight_pairs" s_tight_pairs P_tight_pairs) (c_split_records : C8.Cal P w K mg base 1 "split_records" spSplit []) (c_tighter_pairs : C8.Cal P w K mg base 1 "tighter_pairs" spTP []) : C8.Cal P w K mg base 2 "tight_pairs" spTight [] := by
  refine cal_of D sc_tight_pairs (fun vs H Q E h => ?_) (fun f cdv A outer s H vs Q E hr h => ?_)
  · obtain ⟨L, xs, ds, k, rfl, _⟩ := h
    rfl
  · obtain ⟨L, xs, ds, k, rfl, eL, hO, hl, bd, k0, k1, kk⟩ := h
    refine ⟨_, (pss_cons (ps_asg (C8.pe_c c_split_records hr (by decide) (by rfl) (pa_cons (pv 0) pa_nil)) (pg_tup rfl (pgs_cons (pg_name (i := 1) sc_tight_pairs.nd rfl (Or.inl rfl)) (pgs_cons (pg_name (i := 2) sc_tight_pairs.nd rfl (Or.inl rfl)) pgs_nil))))
    (pss_one (ps_ret (C8.pe_c c_tighter_pairs hr (by decide) (by rfl) (pa_cons (pe_tup (pa_cons pe_non (pa_cons pe_non pa_nil))) (pa_cons (pv 1) (pa_cons (pv 2) pa_nil))))))), ?_⟩
    refine ⟨_, rfl, L, xs, ds, rfl, eL, hO, hl, fun T H1 A' B' as bs s1 eT eA oA eB oB => ?_⟩
    refine ⟨T, _, rfl, SqT.of eT, rfl, _, _, rfl, _, _, rfl, rfl, ?_⟩
    refine ⟨len10 (by simp), fun N nN => ?_⟩
    have z := sm_upd (o := .tup [.non, .non]) nN
    have nf : ∀ x y : T3, (False ∨ x ∈ sel true 0 ds ∧ y ∈ sel false 0 ds) ↔ SD ds x y := fun x y => ⟨fun h => h.elim False.elim id, .inr⟩
    refine ⟨_, rfl, _, rfl, N, A', B', .non, .non, none, none, as, bs, _, _, fun _ _ => False, k, rfl, upd_same, rfl, rfl, z _ _ eA, oA.same z, z _ _ eB, oB.same z, sel_tb bd, sel_tb bd, fun _ h => (nomatch h), fun _ h => (nomatch h), fun _ _ h => h.elim, fun _ _ h => h.elim, k0, by omega, fun R H2 wl wu lo up s2 eR pl pu bl bu hl hu => ?_⟩
    exact kk R H2 wl wu lo up ((s1.trans z).trans s2) eR pl pu bl bu (hl.congr nf) (hu.congr nf)
def spLNR : Sp := fun vs H Q _ => ∃ (R : Addr) (wl wu : V) (lo up : Option T4) (k : Nat), vs = [.ref R] ∧ H R = some (.tup [wl, wu]) ∧ PrV H wl lo ∧ PrV H wu up ∧ PB k lo ∧ PB k up ∧ k ≤ 10000 ∧ Q (.bl (nr lo up)) H
abbrev s_leave_no_rate : Stmt := topS 21
abbrev N_leave_no_rate : List Str := ["pairs", "lower", "upper"]
abbrev P_leave_no_rate : List Str := ["pairs"]
theorem sc_leave_no_rate : FnScope N_leave_no_rate P_leave_no_rate (defScope s_leave_no_rate) := ⟨rfl, rfl, rfl, by decide +kernel, rfl, by decide +kernel, by decide +kernel⟩
theorem ok_leave_no_rate (D : Df K mg "leave_no_rate" s_leave_no_rate P_leave_no_rate) : C8.Cal P w K mg base 1 "leave_no_rate" spLNR [] := by
  refine cal_of D sc_leave_no_rate (fun vs H Q E h => ?_) (fun f cdv A outer s H vs Q E hr h => ?_)
  · obtain ⟨R, wl, wu, lo, up, k, rfl, _⟩ := h
    rfl
  · obtain ⟨R, wl, wu, lo, up, k, rfl, eR, pl, pu, bl, bu, k1, kk⟩ := h
    refine ⟨_, (pss_cons (ps_asg (pv 0) (pg_tup rfl (pgs_cons (pg_name (i := 1) sc_leave_no_rate.nd rfl (Or.inl rfl)) (pgs_cons (pg_name (i := 2) sc_leave_no_rate.nd rfl (Or.inl rfl)) pgs_nil))))
    (pss_cons (ps_if (pt_cmpR op_isN (pv 2) pe_non (nomark _))
      (pss_one (ps_ret pe_bl))
      pss_nil)
    (pss_one (ps_ret (pe_or (pe_cmpR op_le (pe_ix (r := rIxT K) ix_tup (pv 2) pe_int (fun _ _ => rfl)) pe_int (nomark _)) (pe_one (pe_and (pe_cmpR op_notN (pv 1) pe_non (nomark _)) (pe_one (pe_cmpR op_ge (pe_op op_mulW (pe_ix (r := rIxT K) ix_tup (pv 1) pe_int (fun _ _ => rfl)) (pe_ix (r := rIxT K) ix_tup (pv 2) pe_int (fun _ _ => rfl))) (pe_op op_mulW (pe_ix (r := rIxT K) ix_tup (pv 2) pe_int (fun _ _ => rfl)) (pe_ix (r := rIxT K) ix_tup (pv 1) pe_int (fun _ _ => rfl))) (nomark _)))))))))), ?_⟩
    refine ⟨_, rfl, R, _, rfl, SqT.of eR, rfl, _, _, rfl, _, _, rfl, rfl, ?_⟩
    cases up with
    | none =>
      have e : wu = .non := pu
      subst e
      have kk : Q (.bl false) H := by
        cases lo <;> exact kk
      exact ⟨_, rfl, rfl, _, rfl, iteT kk⟩
    | some z =>
      obtain ⟨rz, rfl, ez⟩ := pu
      obtain ⟨b1, b2⟩ := bu z rfl
      refine ⟨_, rfl, rfl, _, rfl, iteF ?_⟩
      refine ⟨_, rfl, rz, _, _, _, rfl, rfl, SqT.of ez, atI_nat (j := 0) rfl, _, _, rfl, rfl, _, rfl, ?_⟩
      cases lo with
      | none =>
        have e : wl = .non := pl
        subst e
        refine ite2 (fun c => ?_) (fun c => ?_)
        · have kk : Q (.bl (decide (z.1 ≤ 0))) H := kk
          rw [c] at kk
          exact kk
        · refine ⟨_, rfl, rfl, _, rfl, iteF ?_⟩
          have kk : Q (.bl (decide (z.1 ≤ 0))) H := kk
          rw [bool_f c] at kk
          exact kk
      | some l =>
        obtain ⟨rl, rfl, el⟩ := pl
        obtain ⟨b3, b4⟩ := bl l rfl
        have kk : Q (.bl (decide (z.1 ≤ 0) || decide (z.1 * l.2.1 ≤ l.1 * z.2.1))) H := kk
        refine ite2 (fun c => ?_) (fun c => ?_)
        · rw [c] at kk
          exact kk
        · rw [bool_f c] at kk
          refine ⟨_, rfl, rfl, _, rfl, iteT ?_⟩
          exact ⟨_, rfl, rl, _, _, _, rfl, rfl, SqT.of el, atI_nat (j := 0) rfl, _, rfl, rz, _, _, _, rfl, rfl, SqT.of ez, atI_nat (j := 1) rfl, _, _, rfl, rfl, mulW b3 b2 (by omega) (by omega) (by omega), _, rfl, rz, _, _, _, rfl, rfl, SqT.of ez, atI_nat (j := 0) rfl, _, rfl, rl, _, _, _, rfl, rfl, SqT.of el, atI_nat (j := 1) rfl, _, _, rfl, rfl, mulW b1 b4 (by omega) (by omega) (by omega), _, _, rfl, rfl, kk⟩
/-- what rate_ends gives -/
def RV (H : Hp) (k : Nat) (v : V) (lo up : Option T4) : Prop := (nr lo up = true ∧ v = .non) ∨ (nr lo up = false ∧ ∃ T a b, v = .ref T ∧ H T = some (.tup [a, b]) ∧ EndV H (k + 2) a (lowE lo) ∧ EndV H (k + 2) b (highE up))
def spRateEnds (m : Nat) : Sp := fun vs H Q _ => ∃ (L : Addr) (xs : List V) (ds : List Rec) (k : Nat), vs = [.ref L] ∧ H L = some (.lst xs) ∧ Obs rcO H xs ds ∧ ds.length ≤ m ∧ RcB k ds ∧ 0 < k ∧ k ≤ 8000 ∧
  ∀ H' v lo up, Same H H' → LoOk (SD ds) lo → UpOk (SD ds) up → PB k lo → PB k up → RV H' k v lo up → Q v H'
abbrev s_rate_ends : Stmt := topS 22
abbrev N_rate_ends : List Str := ["records", "pairs", "lower", "upper", "low", "high"]
abbrev P_rate_ends : List Str := ["records"]
theorem sc_rate_ends : FnScope N_rate_ends P_rate_ends (defScope s_rate_ends) := ⟨rfl, rfl, rfl, by decide +kernel, rfl, by decide +kernel, by decide +kernel⟩
theorem ok_rate_ends (D : Df K mg "rate_ends" s_rate_ends P_rate_ends) (c_tight_pairs : C8.Cal P w K mg base 2 "tight_pairs" spTight []) (c_leave_no_rate : C8.Cal P w K mg base 1 "leave_no_rate" spLNR []) (c_reduce_rate : C8.Cal P w K mg base 2 "reduce_rate" spRedR []) : C8.Cal P w K mg base 3 "rate_ends" (spRateEnds 1000) [] := by
  refine cal_of D sc_rate_ends (fun vs H Q E h => ?_) (fun f cdv A outer s H vs Q E hr h => ?_)
  · obtain ⟨L, xs, ds, k, rfl, _⟩ := h
    rfl
  · obtain ⟨L, xs, ds, k, rfl, eL, hO, hl, bd, k0, k1, kk⟩ := h
    refine ⟨_, (pss_cons (ps_set (i := 1) sc_rate_ends.nd rfl (Or.inl rfl) (C8.pe_c c_tight_pairs hr (by decide) (by rfl) (pa_cons (pv 0) pa_nil)))
    (pss_cons (ps_if (pt_val (C8.pe_c c_leave_no_rate hr (by decide) (by rfl) (pa_cons (pv 1) pa_nil)))
      (pss_one (ps_ret pe_non))
      pss_nil)
    (pss_cons (ps_asg (pv 1) (pg_tup rfl (pgs_cons (pg_name (i := 2) sc_rate_ends.nd rfl (Or.inl rfl)) (pgs_cons (pg_name (i := 3) sc_rate_ends.nd rfl (Or.inl rfl)) pgs_nil))))
    (C8.pss_cut (ps_set (i := 4) sc_rate_ends.nd rfl (Or.inl rfl) (pe_ifExp (PW.pt (pw_or (pt_cmpR op_isN (pv 2) pe_non (nomark _)) (pw_or1 (pt_cmpR op_lt (pe_ix (r := rIxT K) ix_tup (pv 2) pe_int (fun _ _ => rfl)) pe_int (nomark _))))) pe_non (C8.pe_c c_reduce_rate hr (by decide) (by rfl) (pa_cons (pe_ix (r := rIxT K) ix_tup (pv 2) pe_int (fun _ _ => rfl)) (pa_cons (pe_ix (r := rIxT K) ix_tup (pv 2) pe_int (fun _ _ => rfl)) pa_nil)))))
    (C8.pss_cut (ps_set (i := 5) sc_rate_ends.nd rfl (Or.inl rfl) (pe_ifExp (pt_cmpR op_isN (pv 3) pe_non (nomark _)) pe_non (C8.pe_c c_reduce_rate hr (by decide) (by rfl) (pa_cons (pe_ix (r := rIxT K) ix_tup (pv 3) pe_int (fun _ _ => rfl)) (pa_cons (pe_ix (r := rIxT K) ix_tup (pv 3) pe_int (fun _ _ => rfl)) pa_nil)))))
    (pss_one (ps_ret (pe_tup (pa_cons (pv 4) (pa_cons (pv 5) pa_nil)))))))))), ?_⟩
    refine ⟨_, rfl, L, xs, ds, k, rfl, eL, hO, hl, bd, k0, k1, fun R H1 wl wu lo up s1 eR pl pu bl bu hlo hup => ?_⟩
    refine ⟨_, rfl, R, wl, wu, lo, up, k, rfl, eR, pl, pu, bl, bu, by omega, ?_⟩
    refine ⟨_, rfl, ?_⟩
    cases hn : nr lo up with
    | true =>
      refine iteT ?_
      exact kk _ _ lo up s1 hlo hup bl bu (.inl ⟨hn, rfl⟩)
    | false =>
      refine iteF ?_
      refine ⟨_, rfl, R, _, rfl, SqT.of eR, rfl, _, _, rfl, _, _, rfl, rfl, ?_⟩
      refine ⟨fun σ' H' => ∃ va, σ' = [some (.ref L), some (.ref R), some wl, some wu, some va, none] ∧ Same H1 H' ∧ EndV H' (k + 2) va (lowE lo), ?_, ?_⟩
      · cases lo with
        | none =>
          have e : wl = .non := pl
          subst e
          refine ⟨_, rfl, rfl, _, rfl, iteT (iteT ?_)⟩
          exact ⟨_, rfl, Same.refl _, rfl⟩
        | some z =>
          obtain ⟨rz, rfl, ez⟩ := pl
          obtain ⟨b1, b2⟩ := bl z rfl
          have dz := hlo.den z rfl
          refine ⟨_, rfl, rfl, _, rfl, iteF ?_⟩
          refine ⟨_, rfl, rz, _, _, _, rfl, rfl, SqT.of ez, atI_nat (j := 0) rfl, _, _, rfl, rfl, _, rfl, ite2 (fun c => ?_) (fun c => ?_)⟩
          · have c : z.1 < 0 := of_decide_eq_true c
            refine ⟨_, rfl, Same.refl _, ?_⟩
            show EndV H1 (k + 2) .non (if z.1 < 0 then none else some (redE z))
            rw [if_pos c]
            rfl
          · have c : ¬ z.1 < 0 := fun h => c (decide_eq_true h)
            refine ⟨_, rfl, rz, _, _, _, rfl, rfl, SqT.of ez, atI_nat (j := 0) rfl, _, rfl, rz, _, _, _, rfl, rfl, SqT.of ez, atI_nat (j := 1) rfl, z.1, z.2.1, rfl, by omega, dz, b2.mono (by omega), fun r H2 s2 nr er => ?_⟩
            refine ⟨_, rfl, s2, ?_⟩
            show EndV H2 (k + 2) (.ref r) (if z.1 < 0 then none else some (redE z))
            rw [if_neg c]
            exact ⟨r, rfl, er, redRt (by omega) dz b1 b2⟩
      rintro σ H2 ⟨va, rfl, s2, hva⟩
      refine ⟨fun σ' H' => ∃ vb, σ' = [some (.ref L), some (.ref R), some wl, some wu, some va, some vb] ∧ Same H2 H' ∧ EndV H' (k + 2) vb (highE up), ?_, ?_⟩
      · cases up with
        | none =>
          have e : wu = .non := pu
          subst e
          refine ⟨_, rfl, rfl, _, rfl, iteT ?_⟩
          exact ⟨_, rfl, Same.refl _, rfl⟩
        | some z =>
          obtain ⟨rz, rfl, ez⟩ := pu
          have ez := s2 _ _ ez
          obtain ⟨b1, b2⟩ := bu z rfl
          have dz := hup.den z rfl
          have pz : 0 < z.1 := by
            rcases Int.lt_or_le 0 z.1 with h | h
            · exact h
            · exfalso
              cases lo with
              | none =>
                have hn : decide (z.1 ≤ 0) = false := hn
                rw [decide_eq_true h] at hn
                cases hn
              | some l =>
                have hn : (decide (z.1 ≤ 0) || decide (z.1 * l.2.1 ≤ l.1 * z.2.1)) = false := hn
                rw [decide_eq_true h] at hn
                cases hn
          refine ⟨_, rfl, rfl, _, rfl, iteF ?_⟩
          refine ⟨_, rfl, rz, _, _, _, rfl, rfl, SqT.of ez, atI_nat (j := 0) rfl, _, rfl, rz, _, _, _, rfl, rfl, SqT.of ez, atI_nat (j := 1) rfl, z.1, z.2.1, rfl, by omega, dz, b2.mono (by omega), fun r H3 s3 nr er => ?_⟩
          exact ⟨_, rfl, s3, r, rfl, er, redRt (by omega) dz b1 b2⟩
      rintro σ H3 ⟨vb, rfl, s3, hvb⟩
      refine ⟨_, rfl, _, rfl, len10 (by simp), fun T nT => ?_⟩
      have z := sm_upd (o := .tup [va, vb]) nT
      exact kk _ _ lo up (((s1.trans s2).trans s3).trans z) hlo hup bl bu (.inr ⟨hn, T, va, vb, rfl, upd_same, (hva.sm s3).sm z, hvb.sm z⟩)
abbrev s_rates : Stmt := topS 16
abbrev N_rates : List Str := ["records"]
abbrev P_rates : List Str := ["records"]
theorem sc_rates : FnScope N_rates P_rates (defScope s_rates) := ⟨rfl, rfl, rfl, by decide +kernel, rfl, by decide +kernel, by decide +kernel⟩
theorem ok_rates (D : Df K mg "rates" s_rates P_rates) (c_check_records : C8.Cal P w K mg base 3 "check_records" spCkRec []) (c_rate_ends : C8.Cal P w K mg base 3 "rate_ends" (spRateEnds 1000) []) : C8.Cal P w K mg base 4 "rates" (spRateEnds 200) [] := by
  refine cal_of D sc_rates (fun vs H Q E h => ?_) (fun f cdv A outer s H vs Q E hr h => ?_)
  · obtain ⟨L, xs, ds, k, rfl, _⟩ := h
    rfl
  · obtain ⟨L, xs, ds, k, rfl, eL, hO, hl, bd, k0, k1, kk⟩ := h
    refine ⟨_, (pss_cons (ps_expr (C8.pe_c c_check_records hr (by decide) (by rfl) (pa_cons (pv 0) pa_nil)))
    (pss_one (ps_ret (C8.pe_c c_rate_ends hr (by decide) (by rfl) (pa_cons (pv 0) pa_nil))))), ?_⟩
    refine ⟨_, rfl, L, xs, ds, rfl, eL, hO, hl, fun H1 s1 => ?_⟩
    refine ⟨_, rfl, L, xs, ds, k, rfl, s1 _ _ eL, hO.same s1, by omega, bd, k0, k1, fun H2 v lo up s2 hlo hup bl bu rv => ?_⟩
    exact kk H2 v lo up (s1.trans s2) hlo hup bl bu rv
end
end Lf
namespace Lf
open PySem PySem.Spec PyProof.Rows L2
section
variable {P : Program} {w : World} {K : PySem.W.Frag} {mg : Str → Option Value} {base : Heap}
/-! ### phase_ends, rate_fits, phases -/
def spPhE : Sp := fun vs H Q _ => ∃ (L rt : Addr) (xs : List V) (ds : List Rec) (p q : Int) (k : Nat), vs = [.ref L, .ref rt] ∧ H L = some (.lst xs) ∧ Obs rcO H xs ds ∧ ds.length ≤ 1000 ∧ H rt = some (tup2 p q) ∧ RcB k ds ∧ Bd k p ∧ Bd k q ∧ 0 < k ∧ k ≤ 100000 ∧
  ∀ T H' a b, Same H H' → H T = none → H' T = some (.tup [oV a, oV b]) → IsMx (lph p q ds) a → IsMn (hph p q ds) b → Q (.ref T) H'
abbrev s_phase_ends : Stmt := topS 23
abbrev N_phase_ends : List Str := ["records", "rate", "p", "q", "lows", "highs", "least", "greatest", "i", "t", "n", "j", "u", "m"]
abbrev P_phase_ends : List Str := ["records", "rate"]
theorem sc_phase_ends : FnScope N_phase_ends P_phase_ends (defScope s_phase_ends) := ⟨rfl, rfl, rfl, by decide +kernel, rfl, by decide +kernel, by decide +kernel⟩
theorem ok_phase_ends (D : Df K mg "phase_ends" s_phase_ends P_phase_ends) (B : Bi mg) (c_split_records : C8.Cal P w K mg base 1 "split_records" spSplit []) : C8.Cal P w K mg base 2 "phase_ends" spPhE [] := by
  refine cal_of D sc_phase_ends (fun vs H Q E h => ?_) (fun f cdv A outer s H vs Q E hr h => ?_)
  · obtain ⟨L, rt, xs, ds, p, q, k, rfl, _⟩ := h
    rfl
  · obtain ⟨L, rt, xs, ds, p, q, k, rfl, eL, hO, hl, er, bd, bp, bq, k0, k1, kk⟩ := h
    refine ⟨_, (pss_cons (ps_asg (pv 1) (pg_tup rfl (pgs_cons (pg_name (i := 2) sc_phase_ends.nd rfl (Or.inr rfl)) (pgs_cons (pg_name (i := 3) sc_phase_ends.nd rfl (Or.inr rfl)) pgs_nil))))
    (pss_cons (ps_asg (C8.pe_c c_split_records hr (by decide) (by rfl) (pa_cons (pv 0) pa_nil)) (pg_tup rfl (pgs_cons (pg_name (i := 4) sc_phase_ends.nd rfl (Or.inl rfl)) (pgs_cons (pg_name (i := 5) sc_phase_ends.nd rfl (Or.inl rfl)) pgs_nil))))
    (pss_cons (ps_set (i := 6) sc_phase_ends.nd rfl (Or.inl rfl) (pe_callBK (cr_maxD rfl hr.units) (by rfl) B.max_ bt_max (pa_cons (pe_lc (own := [("i", 8), ("t", 9), ("n", 10)]) (g := (gTup K 3 (gCons (gName 8) (gCons (gName 9) (gCons (gName 10) gNil))))) (by rfl) sc_phase_ends.nd (pi_list (pv 4)) (blkOk_by (own := [("i", 8), ("t", 9), ("n", 10)]) (N := N_phase_ends) (sc := defScope s_phase_ends) (by decide +kernel)) (fun _ _ _ _ _ => (pg_tup rfl (pgs_cons (pg_name (i := 8) sc_phase_ends.nd rfl (Or.inl rfl)) (pgs_cons (pg_name (i := 9) sc_phase_ends.nd rfl (Or.inl rfl)) (pgs_cons (pg_name (i := 10) sc_phase_ends.nd rfl (Or.inl rfl)) pgs_nil))))) (fun _ _ _ _ _ => pts_nil) (fun _ _ _ _ _ => (pe_op op_sub (pe_op op_mulW (pv 10) (pv 3)) (pe_op op_mulW (pv 2) (pv 9))))) pa_nil) (pk_cons pe_non pk_nil)))
    (pss_cons (ps_set (i := 7) sc_phase_ends.nd rfl (Or.inl rfl) (pe_callBK (cr_minD rfl hr.units) (by rfl) B.min_ bt_min (pa_cons (pe_lc (own := [("j", 11), ("u", 12), ("m", 13)]) (g := (gTup K 3 (gCons (gName 11) (gCons (gName 12) (gCons (gName 13) gNil))))) (by rfl) sc_phase_ends.nd (pi_list (pv 5)) (blkOk_by (own := [("j", 11), ("u", 12), ("m", 13)]) (N := N_phase_ends) (sc := defScope s_phase_ends) (by decide +kernel)) (fun _ _ _ _ _ => (pg_tup rfl (pgs_cons (pg_name (i := 11) sc_phase_ends.nd rfl (Or.inl rfl)) (pgs_cons (pg_name (i := 12) sc_phase_ends.nd rfl (Or.inl rfl)) (pgs_cons (pg_name (i := 13) sc_phase_ends.nd rfl (Or.inl rfl)) pgs_nil))))) (fun _ _ _ _ _ => pts_nil) (fun _ _ _ _ _ => (pe_op op_sub (pe_op op_sub (pe_op op_mulW (pe_op op_add (pv 13) pe_int) (pv 3)) (pe_op op_mulW (pv 2) (pv 12))) pe_int))) pa_nil) (pk_cons pe_non pk_nil)))
    (pss_one (ps_ret (pe_tup (pa_cons (pv 6) (pa_cons (pv 7) pa_nil))))))))), ?_⟩
    refine ⟨_, rfl, rt, _, rfl, SqT.of er, rfl, _, _, rfl, _, _, rfl, rfl, ?_⟩
    refine ⟨_, rfl, L, xs, ds, rfl, eL, hO, hl, fun T H1 A' B' as bs s1 eT eA oA eB oB => ?_⟩
    refine ⟨T, _, rfl, SqT.of eT, rfl, _, _, rfl, _, _, rfl, rfl, ?_⟩
    refine ⟨_, rfl, A', rfl, ⟨_, SqL.of eA⟩, fun D1 nD1 => ?_⟩
    refine lc_list (K := K) (a := A') (xs := as) (fun i H' => Same H1 H' ∧ H' D1 = some (.lst ((((sel true 0 ds).take i).map fun x => x.2.2 * q - p * x.2.1).map V.int))) ⟨sm_upd nD1, upd_same⟩ ?_ ?_ ?_
    · rintro i H2 _ ⟨s2, _⟩
      exact SqL.of (s2 _ _ eA)
    · rintro i x H2 hx ⟨s2, e2⟩
      obtain ⟨r, d, rfl, ed, hd⟩ := oA.at hx
      have bb := sel_bd bd (List.mem_of_getElem? hd)
      have hi := (List.getElem?_eq_some_iff.mp hd).1
      have hz := sel_len true 0 ds
      refine ⟨r, _, rfl, SqT.of (s2 _ _ ed), rfl, _, _, rfl, _, _, rfl, _, _, rfl, rfl, ?_⟩
      refine ⟨rfl, _, rfl, _, rfl, _, _, rfl, rfl, mulW bb.2 bq k0 k0 (by omega), _, rfl, _, rfl, _, _, rfl, rfl, mulW bp bb.1 k0 k0 (by omega), _, _, rfl, rfl, _, e2, ?_, ?_, ?_⟩
      · rw [List.length_map, List.length_map, List.length_take]
        exact small1000 (by omega)
      · intro b o eb
        rw [upd_ne (ne_of_none eb nD1)]
        exact s2 _ _ eb
      · rw [upd_same, List.take_add_one, hd, List.map_append, List.map_append]
        rfl
    rintro H2 ⟨s2, e2⟩
    rw [List.take_of_length_le (by rw [oA.len]; exact Nat.le_refl _)] at e2
    refine ⟨D1, _, rfl, rfl, SqL.of e2, fun a ha => ?_⟩
    refine ⟨_, rfl, B', rfl, ⟨_, SqL.of (s2 _ _ eB)⟩, fun D2 nD2 => ?_⟩
    refine lc_list (K := K) (a := B') (xs := bs) (fun i H' => Same H2 H' ∧ H' D2 = some (.lst ((((sel false 0 ds).take i).map fun x => (x.2.2 + 1) * q - p * x.2.1 - 1).map V.int))) ⟨sm_upd nD2, upd_same⟩ ?_ ?_ ?_
    · rintro i H3 _ ⟨s3, _⟩
      exact SqL.of (s3 _ _ (s2 _ _ eB))
    · rintro i x H3 hx ⟨s3, e3⟩
      obtain ⟨r, d, rfl, ed, hd⟩ := oB.at hx
      have bb := sel_bd bd (List.mem_of_getElem? hd)
      have hi := (List.getElem?_eq_some_iff.mp hd).1
      have hz := sel_len false 0 ds
      refine ⟨r, _, rfl, SqT.of (s3 _ _ (s2 _ _ ed)), rfl, _, _, rfl, _, _, rfl, _, _, rfl, rfl, ?_⟩
      have b1 : Bd (k + 1) (d.2.2 + 1) := Bd.add bb.2 (Bd.small 1 (by decide) (by omega))
      refine ⟨rfl, _, rfl, _, _, rfl, rfl, _, rfl, _, _, rfl, rfl, mulW b1 bq (by omega) k0 (by omega), _, rfl, _, rfl, _, _, rfl, rfl, mulW bp bb.1 k0 k0 (by omega), _, _, rfl, rfl, _, _, rfl, rfl, _, e3, ?_, ?_, ?_⟩
      · rw [List.length_map, List.length_map, List.length_take]
        exact small1000 (by omega)
      · intro b o eb
        rw [upd_ne (ne_of_none eb nD2)]
        exact s3 _ _ eb
      · rw [upd_same, List.take_add_one, hd, List.map_append, List.map_append]
        rfl
    rintro H3 ⟨s3, e3⟩
    rw [List.take_of_length_le (by rw [oB.len]; exact Nat.le_refl _)] at e3
    refine ⟨D2, _, rfl, rfl, SqL.of e3, fun b hb => ?_⟩
    refine ⟨_, rfl, _, rfl, len10 (by simp), fun T2 nT2 => ?_⟩
    refine kk T2 _ a b (((s1.trans s2).trans s3).trans (sm_upd nT2)) ?_ upd_same ha hb
    cases z : H T2 with
    | none => rfl
    | some o =>
      rw [((s1.trans s2).trans s3) _ _ z] at nT2
      cases nT2
def spRF : Sp := fun vs H Q _ => ∃ (L rt : Addr) (xs : List V) (ds : List Rec) (p q : Int) (k : Nat), vs = [.ref L, .ref rt] ∧ H L = some (.lst xs) ∧ Obs rcO H xs ds ∧ ds.length ≤ 1000 ∧ H rt = some (tup2 p q) ∧ RcB k ds ∧ Bd k p ∧ Bd k q ∧ 0 < k ∧ k ≤ 100000 ∧
  ∀ H' a b, Same H H' → IsMx (lph p q ds) a → IsMn (hph p q ds) b → Q (.bl (okPh a b)) H'
abbrev s_rate_fits : Stmt := topS 24
abbrev N_rate_fits : List Str := ["records", "rate", "least", "greatest"]
abbrev P_rate_fits : List Str := ["records", "rate"]
theorem sc_rate_fits : FnScope N_rate_fits P_rate_fits (defScope s_rate_fits) := ⟨rfl, rfl, rfl, by decide +kernel, rfl, by decide +kernel, by decide +kernel⟩
theorem ok_rate_fits (D : Df K mg "rate_fits" s_rate_fits P_rate_fits) (c_phase_ends : C8.Cal P w K mg base 2 "phase_ends" spPhE []) : C8.Cal P w K mg base 3 "rate_fits" spRF [] := by
  refine cal_of D sc_rate_fits (fun vs H Q E h => ?_) (fun f cdv A outer s H vs Q E hr h => ?_)
  · obtain ⟨L, rt, xs, ds, p, q, k, rfl, _⟩ := h
    rfl
  · obtain ⟨L, rt, xs, ds, p, q, k, rfl, eL, hO, hl, er, bd, bp, bq, k0, k1, kk⟩ := h
    refine ⟨_, (pss_cons (ps_asg (C8.pe_c c_phase_ends hr (by decide) (by rfl) (pa_cons (pv 0) (pa_cons (pv 1) pa_nil))) (pg_tup rfl (pgs_cons (pg_name (i := 2) sc_rate_fits.nd rfl (Or.inl rfl)) (pgs_cons (pg_name (i := 3) sc_rate_fits.nd rfl (Or.inl rfl)) pgs_nil))))
    (pss_one (ps_ret (pe_or (pe_cmpR op_isN (pv 2) pe_non (nomark _)) (pe_or (pe_cmpR op_isN (pv 3) pe_non (nomark _)) (pe_one (pe_cmpR op_le (pv 2) (pv 3) (nomark _)))))))), ?_⟩
    refine ⟨_, rfl, _, rfl, L, rt, xs, ds, p, q, k, rfl, eL, hO, hl, er, bd, bp, bq, k0, k1, fun T H1 a b s1 nT eT ha hb => ?_⟩
    refine ⟨T, _, rfl, SqT.of eT, rfl, _, _, rfl, _, _, rfl, rfl, ?_⟩
    have q := kk H1 a b s1 ha hb
    match a, b, q with
    | none, b, q =>
      refine ⟨_, rfl, rfl, _, rfl, iteT ?_⟩
      exact q
    | some x, none, q =>
      refine ⟨_, rfl, rfl, _, rfl, iteF ?_⟩
      refine ⟨_, rfl, rfl, _, rfl, iteT ?_⟩
      exact q
    | some x, some y, q =>
      refine ⟨_, rfl, rfl, _, rfl, iteF ?_⟩
      refine ⟨_, rfl, rfl, _, rfl, iteF ?_⟩
      refine ⟨_, rfl, _, rfl, _, _, rfl, rfl, ?_⟩
      exact q
def spPhases : Sp := fun vs H Q _ => ∃ (L rt : Addr) (xs : List V) (ds : List Rec) (p q : Int) (k : Nat), vs = [.ref L, .ref rt] ∧ H L = some (.lst xs) ∧ Obs rcO H xs ds ∧ ds.length ≤ 200 ∧ H rt = some (tup2 p q) ∧ RcB k ds ∧ Rt k p q ∧ 0 < k ∧ k ≤ 100000 ∧
  ∀ H' a b v, Same H H' → IsMx (lph p q ds) a → IsMn (hph p q ds) b → ((okPh a b = false ∧ v = .non) ∨ (okPh a b = true ∧ ∃ T, v = .ref T ∧ H T = none ∧ H' T = some (.tup [oV a, oV b]))) → Q v H'
abbrev s_phases : Stmt := topS 17
abbrev N_phases : List Str := ["records", "rate"]
abbrev P_phases : List Str := ["records", "rate"]
theorem sc_phases : FnScope N_phases P_phases (defScope s_phases) := ⟨rfl, rfl, rfl, by decide +kernel, rfl, by decide +kernel, by decide +kernel⟩
theorem ok_phases (D : Df K mg "phases" s_phases P_phases) (c_check_records : C8.Cal P w K mg base 3 "check_records" spCkRec []) (c_check_rate : C8.Cal P w K mg base 3 "check_rate" spCheckRate []) (c_phase_ends : C8.Cal P w K mg base 2 "phase_ends" spPhE []) (c_rate_fits : C8.Cal P w K mg base 3 "rate_fits" spRF []) : C8.Cal P w K mg base 4 "phases" spPhases [] := by
  refine cal_of D sc_phases (fun vs H Q E h => ?_) (fun f cdv A outer s H vs Q E hr h => ?_)
  · obtain ⟨L, rt, xs, ds, p, q, k, rfl, _⟩ := h
    rfl
  · obtain ⟨L, rt, xs, ds, p, q, k, rfl, eL, hO, hl, er, bd, R, k0, k1, kk⟩ := h
    refine ⟨_, (pss_cons (ps_expr (C8.pe_c c_check_records hr (by decide) (by rfl) (pa_cons (pv 0) pa_nil)))
    (pss_cons (ps_expr (C8.pe_c c_check_rate hr (by decide) (by rfl) (pa_cons (pv 1) pa_nil)))
    (pss_cons (ps_if (pt_not (pt_val (C8.pe_c c_rate_fits hr (by decide) (by rfl) (pa_cons (pv 0) (pa_cons (pv 1) pa_nil)))))
      (pss_one (ps_ret pe_non))
      pss_nil)
    (pss_one (ps_ret (C8.pe_c c_phase_ends hr (by decide) (by rfl) (pa_cons (pv 0) (pa_cons (pv 1) pa_nil)))))))), ?_⟩
    refine ⟨_, rfl, L, xs, ds, rfl, eL, hO, hl, fun H1 s1 => ?_⟩
    refine ⟨_, rfl, rt, p, q, k, rfl, s1 _ _ er, R, ?_⟩
    refine ⟨_, rfl, _, rfl, L, rt, xs, ds, p, q, k, rfl, s1 _ _ eL, hO.same s1, by omega, s1 _ _ er, bd, R.bp, R.bq, k0, k1, fun H2 a b s2 ha hb => ?_⟩
    have s12 := s1.trans s2
    refine ⟨_, rfl, ?_⟩
    cases ho : okPh a b with
    | false =>
      refine iteT ?_
      exact kk _ a b _ s12 ha hb (.inl ⟨ho, rfl⟩)
    | true =>
      refine iteF ?_
      refine ⟨_, rfl, _, rfl, L, rt, xs, ds, p, q, k, rfl, s12 _ _ eL, hO.same s12, by omega, s12 _ _ er, bd, R.bp, R.bq, k0, k1, fun T H3 a' b' s3 nT eT ha' hb' => ?_⟩
      obtain rfl := mx_uniq ha ha'
      obtain rfl := mn_uniq hb hb'
      refine kk _ a b _ (s12.trans s3) ha hb (.inr ⟨ho, T, rfl, ?_, eT⟩)
      cases z : H T with
      | none => rfl
      | some o =>
        rw [s12 _ _ z] at nT
        cases nT
/-! ### fits_record, fits -/
def spFitsRec : Sp := fun vs H Q _ => ∃ (r e : Addr) (p q c : Int) (d : Rec) (k : Nat), vs = [.ref r, .ref e] ∧ H r = some (.tup [.int p, .int q, .int c]) ∧ H e = some (rcO d) ∧ 1 ≤ q ∧ Bd k p ∧ Bd k q ∧ Bd k d.t ∧ 0 < k ∧ k ≤ 9000 ∧ Q (.bl (fitB p q c d)) H
def spFits : Sp := fun vs H Q _ => ∃ (r L : Addr) (p q c : Int) (xs : List V) (ds : List Rec) (k : Nat), vs = [.ref r, .ref L] ∧ H r = some (.tup [.int p, .int q, .int c]) ∧ RuleB k p q c ∧ H L = some (.lst xs) ∧ Obs rcO H xs ds ∧ ds.length ≤ 200 ∧ RcB k ds ∧ 0 < k ∧ k ≤ 9000 ∧
  ∀ H', Same H H' → Q (.bl (ds.all (fitB p q c))) H'
end
end Lf
namespace Lf
open PySem PySem.Spec PyProof.Rows L2
theorem at_in {xs : List V} {d : Int} (h0 : 0 ≤ d) (h1 : d < (xs.length : Int)) : ∃ x, atI xs d = some x ∧ x ∈ xs := by
  obtain ⟨j, rfl⟩ := Int.eq_ofNat_of_zero_le h0
  have hj : j < xs.length := by omega
  exact ⟨_, atI_nat (List.getElem?_eq_getElem hj), List.getElem_mem hj⟩
section
variable {P : Program} {w : World} {K : PySem.W.Frag} {mg : Str → Option Value} {base : Heap}
/-! ### _law_far, _law_rule, _law_count, _law_time, _law_record -/
def spFar : Sp := fun vs H Q _ => ∃ (a : PA) (n : Nat) (dg : Int) (m : Nat), vs = [.ref a, .int dg] ∧ Pen H a n ∧ n < 2 ^ 39 ∧ dg / 6 = (m : Int) ∧ 1 ≤ m ∧ m ≤ 60 ∧
  ∀ z H', Bd (20 * m) z → Pen H' a (n + m + 2) → Fr H H' → Q (.int z) H'
abbrev s_l_far : Stmt := topS 29
abbrev N_l_far : List Str := ["_law_pen_here", "_law_digits", "_law_number", "_law_k"]
abbrev P_l_far : List Str := ["_law_pen_here", "_law_digits"]
theorem sc_l_far : FnScope N_l_far P_l_far (defScope s_l_far) := ⟨rfl, rfl, rfl, by decide +kernel, rfl, by decide +kernel, by decide +kernel⟩
theorem ok_l_far (D : Df K mg "_law_far" s_l_far P_l_far) (B : Bi mg) (c_l_draw : C8.Cal P w K mg base 1 "_law_draw" spDraw []) : C8.Cal P w K mg base 2 "_law_far" spFar [] := by
  refine cal_of D sc_l_far (fun vs H Q E h => ?_) (fun f cdv A outer s H vs Q E hr h => ?_)
  · obtain ⟨a, n, dg, m, rfl, _⟩ := h
    rfl
  · obtain ⟨a, n, dg, m, rfl, hP, hn, hm, m1, m40, q⟩ := h
    refine ⟨_, (pss_cons (ps_set (i := 2) sc_l_far.nd rfl (Or.inl rfl) pe_int)
    (pss_cons (ps_for PassesOwn.never rfl (pi_range1 rfl B.range_ (pa_cons (C8.pe_c c_l_draw hr (by decide) (by rfl) (pa_cons (pv 0) (pa_cons (pe_op op_add (pe_op op_fdiv (pv 1) pe_int) pe_int) pa_nil))) pa_nil)) (pg_name (i := 3) sc_l_far.nd rfl (Or.inl rfl))
      (pss_one (ps_set (i := 2) sc_l_far.nd rfl (Or.inl rfl) (pe_op op_add (pe_op op_mul (pv 2) (pe_op op_pow pe_int pe_int)) (C8.pe_c c_l_draw hr (by decide) (by rfl) (pa_cons (pv 0) (pa_cons (pe_op op_pow pe_int pe_int) pa_nil)))))))
    (pss_one (ps_ret (pe_ix (r := rIxL K) ix_list (pe_lst (pa_cons (pv 2) (pa_cons (pe_op op_sub pe_int (pv 2)) pa_nil))) (C8.pe_c c_l_draw hr (by decide) (by rfl) (pa_cons (pv 0) (pa_cons pe_int pa_nil))) (fun _ _ => rfl)))))), ?_⟩
    refine ⟨_, rfl, _, rfl, _, _, rfl, rfl, ⟨by decide, by decide⟩, _, _, rfl, rfl, a, n, _, rfl, hP, by omega, by omega, Bd.small 20 (by omega) (by decide), fun dd H1 d0 d1 hP1 f1 => ?_⟩
    refine ⟨_, rfl, by omega, by omega, ?_⟩
    refine for_range (lo := 0) (n := dd.toNat) (fun i σ H2 => ∃ (r : Int) (y : Option V), σ = [some (.ref a), some (.int dg), some (.int r), y] ∧ 0 ≤ r ∧ Bd (20 * i) r ∧ Pen H2 a (n + 1 + i) ∧ Fr H H2) ?_ ?_ ?_
    · exact ⟨0, none, rfl, by omega, by show (0 : Int).natAbs < 2 ^ 0; decide, hP1, f1⟩
    · rintro i σ H2 hi ⟨r, y, rfl, r0, rb, hP2, f2⟩
      refine ⟨_, rfl, _, _, rfl, rfl, ⟨by decide, by decide, by decide⟩, _, _, rfl, rfl, .inr ⟨by decide, by decide⟩, _, rfl, _, _, rfl, rfl, ⟨by decide, by decide, by decide⟩, a, _, _, rfl, hP2, by omega, by decide, Bd.small 20 (by decide) (by decide), fun e H3 e0 e1 hP3 f3 => ?_⟩
      refine ⟨_, _, rfl, rfl, ?_⟩
      refine ⟨_, _, rfl, ?_, ?_, hP3, f2.trans f3⟩
      · have : (0 : Int) ≤ 10 ^ (6 : Int).toNat := by decide
        have := Int.mul_nonneg r0 this
        omega
      · exact Bd.grow r0 rb e0 e1
    · rintro σ H2 ⟨r, y, rfl, r0, rb, hP2, f2⟩
      have rm : Bd (20 * m) r := rb.mono (by omega)
      refine ⟨_, rfl, _, rfl, _, _, rfl, rfl, len10 (by simp), fun l nl => ?_⟩
      refine ⟨_, rfl, a, _, _, rfl, hP2.new nl, by omega, by decide, Bd.small 20 (by decide) (by decide), fun d H3 d20 d21 hP3 f3 => ?_⟩
      have el := f3.l _ _ (upd_same (H := H2) (a := l) (o := .lst [.int r, .int (0 - r)]))
      obtain ⟨x, hx, mx⟩ := at_in (xs := [.int r, .int (0 - r)]) d20 (by show d < 2; omega)
      refine ⟨l, _, _, _, rfl, rfl, SqL.of el, hx, ?_⟩
      have fF : Fr H H3 := f2.trans ((Fr.new nl).trans f3)
      simp only [List.mem_cons, List.not_mem_nil, or_false] at mx
      rcases mx with rfl | rfl
      · exact q _ _ rm (hP3.mono (by omega)) fF
      · exact q _ _ (by rw [Int.zero_sub]; exact rm.neg) (hP3.mono (by omega)) fF
theorem absB {k : Nat} {z : Int} (h : Bd k z) : 0 ≤ (if z < 0 then -z else z) ∧ Bd k (if z < 0 then -z else z) := by
  by_cases c : z < 0
  · rw [if_pos c]
    exact ⟨by omega, h.neg⟩
  · rw [if_neg c]
    exact ⟨by omega, h⟩
def spRule30 : Sp := fun vs H Q _ => ∃ (a : PA) (n : Nat) (dg : Int) (m : Nat), vs = [.ref a, .int dg] ∧ Pen H a n ∧ n < 2 ^ 38 ∧ dg / 6 = (m : Int) ∧ 2 ≤ m ∧ m ≤ 20 ∧
  ∀ r H' p q c, RuleB (20 * m + 4) p q c → H' r = some (.tup [.int p, .int q, .int c]) → Pen H' a (n + 100) → Fr H H' → Q (.ref r) H'
abbrev s_l_rule : Stmt := topS 31
abbrev N_l_rule : List Str := ["_law_pen_here", "_law_digits", "_law_road", "_law_q", "_law_p", "_law_divisor", "_law_c"]
abbrev P_l_rule : List Str := ["_law_pen_here", "_law_digits"]
theorem sc_l_rule : FnScope N_l_rule P_l_rule (defScope s_l_rule) := ⟨rfl, rfl, rfl, by decide +kernel, rfl, by decide +kernel, by decide +kernel⟩
theorem ok_l_rule (D : Df K mg "_law_rule" s_l_rule P_l_rule) (B : Bi mg) (c_l_draw : C8.Cal P w K mg base 1 "_law_draw" spDraw []) (c_l_far : C8.Cal P w K mg base 2 "_law_far" spFar []) (c_l_gcd : C8.Cal P w K mg base 1 "_law_gcd" spGcd []) : C8.Cal P w K mg base 3 "_law_rule" spRule30 [] := by
  refine cal_of D sc_l_rule (fun vs H Q E h => ?_) (fun f cdv A outer s H vs Q E hr h => ?_)
  · obtain ⟨a, n, dg, m, rfl, _⟩ := h
    rfl
  · obtain ⟨a, n, dg, m, rfl, hP, hn, hm, m1, m20, kk⟩ := h
    refine ⟨_, (pss_cons (ps_set (i := 2) sc_l_rule.nd rfl (Or.inl rfl) (C8.pe_c c_l_draw hr (by decide) (by rfl) (pa_cons (pv 0) (pa_cons pe_int pa_nil))))
    (C8.pss_cut (ps_set (i := 3) sc_l_rule.nd rfl (Or.inl rfl) (pe_op op_add pe_int (pe_ix (r := rIxL K) ix_list (pe_lst (pa_cons (C8.pe_c c_l_draw hr (by decide) (by rfl) (pa_cons (pv 0) (pa_cons pe_int pa_nil))) (pa_cons (C8.pe_c c_l_draw hr (by decide) (by rfl) (pa_cons (pv 0) (pa_cons pe_int pa_nil))) (pa_cons (C8.pe_c c_l_draw hr (by decide) (by rfl) (pa_cons (pv 0) (pa_cons (pe_op op_pow pe_int pe_int) pa_nil))) (pa_cons (pe_callB (call_abs) (by rfl) B.abs_ bt_abs (pa_cons (C8.pe_c c_l_far hr (by decide) (by rfl) (pa_cons (pv 0) (pa_cons (pv 1) pa_nil))) pa_nil)) pa_nil))))) (pv 2) (fun _ _ => rfl))))
    (C8.pss_cut (ps_set (i := 4) sc_l_rule.nd rfl (Or.inl rfl) (pe_ix (r := rIxL K) ix_list (pe_lst (pa_cons (C8.pe_c c_l_draw hr (by decide) (by rfl) (pa_cons (pv 0) (pa_cons (pe_op op_add (pe_op op_mul pe_int (pv 3)) pe_int) pa_nil))) (pa_cons (C8.pe_c c_l_draw hr (by decide) (by rfl) (pa_cons (pv 0) (pa_cons pe_int pa_nil))) (pa_cons (pe_callB (call_abs) (by rfl) B.abs_ bt_abs (pa_cons (C8.pe_c c_l_far hr (by decide) (by rfl) (pa_cons (pv 0) (pa_cons (pv 1) pa_nil))) pa_nil)) pa_nil)))) (C8.pe_c c_l_draw hr (by decide) (by rfl) (pa_cons (pv 0) (pa_cons pe_int pa_nil))) (fun _ _ => rfl)))
    (pss_cons (ps_set (i := 5) sc_l_rule.nd rfl (Or.inl rfl) (C8.pe_c c_l_gcd hr (by decide) (by rfl) (pa_cons (pv 4) (pa_cons (pv 3) pa_nil))))
    (C8.pss_cut (ps_set (i := 6) sc_l_rule.nd rfl (Or.inl rfl) (pe_ix (r := rIxL K) ix_list (pe_lst (pa_cons (pe_op op_sub (C8.pe_c c_l_draw hr (by decide) (by rfl) (pa_cons (pv 0) (pa_cons pe_int pa_nil))) pe_int) (pa_cons (C8.pe_c c_l_far hr (by decide) (by rfl) (pa_cons (pv 0) (pa_cons (pv 1) pa_nil))) pa_nil))) (C8.pe_c c_l_draw hr (by decide) (by rfl) (pa_cons (pv 0) (pa_cons pe_int pa_nil))) (fun _ _ => rfl)))
    (pss_one (ps_ret (pe_tup (pa_cons (pe_op op_fdivW (pv 4) (pv 5)) (pa_cons (pe_op op_fdivW (pv 3) (pv 5)) (pa_cons (pv 6) pa_nil))))))))))), ?_⟩
    have sB : ∀ {x : Int}, x.natAbs < 2 ^ 20 → Bd (20 * m) x := fun h => Bd.small 20 h (by omega)
    -- road, q
    refine ⟨_, rfl, a, _, _, rfl, hP, by omega, by decide, Bd.small 20 (by decide) (by decide), fun rd H1 r0 r1 hP1 f1 => ?_⟩
    refine ⟨fun σ' H' => ∃ q : Int, σ' = [some (.ref a), some (.int dg), some (.int rd), some (.int q), none, none, none] ∧ 1 ≤ q ∧ Bd (20 * m + 1) q ∧ Pen H' a (n + 30) ∧ Fr H H', ?_, ?_⟩
    · refine ⟨_, rfl, a, _, _, rfl, hP1, by omega, by decide, Bd.small 20 (by decide) (by decide), fun e1 H2 e10 e11 hP2 f2 => ?_⟩
      refine ⟨_, rfl, a, _, _, rfl, hP2, by omega, by decide, Bd.small 20 (by decide) (by decide), fun e2 H3 e20 e21 hP3 f3 => ?_⟩
      refine ⟨_, rfl, _, _, rfl, rfl, ⟨by decide, by decide, by decide⟩, a, _, _, rfl, hP3, by omega, by decide, Bd.small 20 (by decide) (by decide), fun e3 H4 e30 e31 hP4 f4 => ?_⟩
      refine ⟨_, rfl, _, rfl, a, _, dg, m, rfl, hP4, by omega, hm, by omega, by omega, fun z H5 bz hP5 f5 => ?_⟩
      obtain ⟨z0, zb⟩ := absB bz
      refine ⟨_, rfl, ?_⟩
      have e31 : e3 < 1000000 := e31
      generalize (if z < 0 then -z else z) = z' at z0 zb
      refine ⟨len10 (by simp), fun l nl => ?_⟩
      obtain ⟨x, hx, mx⟩ := at_in (xs := [.int e1, .int e2, .int e3, .int z']) r0 (by show rd < 4; omega)
      refine ⟨_, rfl, l, _, _, _, rfl, rfl, SqL.of upd_same, hx, ?_⟩
      obtain ⟨v, rfl, v0, vb⟩ : ∃ v, x = V.int v ∧ 0 ≤ v ∧ Bd (20 * m) v := by
        simp only [List.mem_cons, List.not_mem_nil, or_false] at mx
        rcases mx with rfl | rfl | rfl | rfl
        · exact ⟨_, rfl, by omega, sB (by omega)⟩
        · exact ⟨_, rfl, by omega, sB (by omega)⟩
        · exact ⟨_, rfl, by omega, sB (by omega)⟩
        · exact ⟨_, rfl, z0, zb⟩
      refine ⟨_, _, rfl, rfl, ?_⟩
      exact ⟨_, rfl, by omega, Bd.add (sB (by decide)) vb, (hP5.new nl).mono (by omega), f1.trans (f2.trans (f3.trans (f4.trans (f5.trans (Fr.new nl)))))⟩
    rintro σ H2 ⟨q, rfl, q1, qb, hP2, f2⟩
    -- p
    refine ⟨fun σ' H' => ∃ p : Int, σ' = [some (.ref a), some (.int dg), some (.int rd), some (.int q), some (.int p), none, none] ∧ 0 ≤ p ∧ Bd (20 * m + 4) p ∧ Pen H' a (n + 60) ∧ Fr H H', ?_, ?_⟩
    · have b3 : Bd (20 * m + 3) (3 * q) := by
        rw [show 3 * q = q + q + q by omega]
        exact Bd.add (Bd.add qb qb) (qb.mono (by omega))
      have b31 : Bd (20 * m + 4) (3 * q + 1) := Bd.add b3 (Bd.small 1 (by decide) (by omega))
      refine ⟨_, rfl, _, rfl, _, _, rfl, rfl, .inl ⟨by decide, by decide⟩, _, _, rfl, rfl, a, _, _, rfl, hP2, by omega, by omega, b31.mono (by omega), fun e1 H3 e10 e11 hP3 f3 => ?_⟩
      refine ⟨_, rfl, a, _, _, rfl, hP3, by omega, by decide, Bd.small 20 (by decide) (by decide), fun e2 H4 e20 e21 hP4 f4 => ?_⟩
      refine ⟨_, rfl, _, rfl, a, _, dg, m, rfl, hP4, by omega, hm, by omega, by omega, fun z H5 bz hP5 f5 => ?_⟩
      obtain ⟨z0, zb⟩ := absB bz
      refine ⟨_, rfl, ?_⟩
      generalize (if z < 0 then -z else z) = z' at z0 zb
      refine ⟨len10 (by simp), fun l nl => ?_⟩
      refine ⟨_, rfl, a, _, _, rfl, hP5.new nl, by omega, by decide, Bd.small 20 (by decide) (by decide), fun d H6 d0 d1 hP6 f6 => ?_⟩
      have el := f6.l _ _ (upd_same (H := H5) (a := l) (o := .lst [.int e1, .int e2, .int z']))
      obtain ⟨x, hx, mx⟩ := at_in (xs := [.int e1, .int e2, .int z']) d0 (by show d < 3; omega)
      refine ⟨l, _, _, _, rfl, rfl, SqL.of el, hx, ?_⟩
      obtain ⟨v, rfl, v0, vb⟩ : ∃ v, x = V.int v ∧ 0 ≤ v ∧ Bd (20 * m + 4) v := by
        simp only [List.mem_cons, List.not_mem_nil, or_false] at mx
        rcases mx with rfl | rfl | rfl
        · exact ⟨_, rfl, by omega, b31.between (by omega) (by omega)⟩
        · exact ⟨_, rfl, by omega, (sB (by omega)).mono (by omega)⟩
        · exact ⟨_, rfl, z0, zb.mono (by omega)⟩
      exact ⟨_, rfl, v0, vb, hP6.mono (by omega), f2.trans (f3.trans (f4.trans (f5.trans ((Fr.new nl).trans f6))))⟩
    rintro σ H3 ⟨p, rfl, p0, pb, hP3, f3⟩
    -- divisor, c
    refine ⟨_, rfl, _, rfl, p, q, rfl, p0, by omega, ?_⟩
    have hg := gcd_pos (p := p) q1
    have hgl := gcd_le (p := p) q1
    have hcop : Int.gcd (p / (Int.gcd p q : Int)) (q / (Int.gcd p q : Int)) = 1 := Int.gcd_ediv_gcd_ediv_gcd (by omega)
    have hq1 : 1 ≤ q / (Int.gcd p q : Int) := Int.le_ediv_of_mul_le hg (by rw [Int.one_mul]; exact hgl)
    have gb : Bd (20 * m + 1) (Int.gcd p q : Int) := qb.between (by omega) hgl
    generalize (Int.gcd p q : Int) = g at hg hgl hcop hq1 gb
    refine ⟨fun σ' H' => ∃ c : Int, σ' = [some (.ref a), some (.int dg), some (.int rd), some (.int q), some (.int p), some (.int g), some (.int c)] ∧ Bd (20 * m + 4) c ∧ Pen H' a (n + 100) ∧ Fr H H', ?_, ?_⟩
    · refine ⟨_, rfl, a, _, _, rfl, hP3, by omega, by decide, Bd.small 20 (by decide) (by decide), fun e1 H4 e10 e11 hP4 f4 => ?_⟩
      refine ⟨_, _, rfl, rfl, _, rfl, _, rfl, a, _, dg, m, rfl, hP4, by omega, hm, by omega, by omega, fun z H5 bz hP5 f5 => ?_⟩
      refine ⟨len10 (by simp), fun l nl => ?_⟩
      refine ⟨_, rfl, a, _, _, rfl, hP5.new nl, by omega, by decide, Bd.small 20 (by decide) (by decide), fun d H6 d0 d1 hP6 f6 => ?_⟩
      have el := f6.l _ _ (upd_same (H := H5) (a := l) (o := .lst [.int (e1 - 20), .int z]))
      obtain ⟨x, hx, mx⟩ := at_in (xs := [.int (e1 - 20), .int z]) d0 (by show d < 2; omega)
      refine ⟨l, _, _, _, rfl, rfl, SqL.of el, hx, ?_⟩
      obtain ⟨v, rfl, vb⟩ : ∃ v, x = V.int v ∧ Bd (20 * m + 4) v := by
        simp only [List.mem_cons, List.not_mem_nil, or_false] at mx
        rcases mx with rfl | rfl
        · exact ⟨_, rfl, (sB (by omega)).mono (by omega)⟩
        · exact ⟨_, rfl, bz.mono (by omega)⟩
      exact ⟨_, rfl, vb, hP6.mono (by omega), f3.trans (f4.trans (f5.trans ((Fr.new nl).trans f6)))⟩
    rintro σ H4 ⟨c, rfl, cb, hP4, f4⟩
    have hd : CDivW 0 g := ⟨hg, (gb.mono (by omega : 20 * m + 1 ≤ 9000)).log (by decide)⟩
    refine ⟨_, rfl, _, rfl, _, _, rfl, rfl, hd, _, rfl, _, rfl, _, _, rfl, rfl, hd, _, rfl, len10 (by simp), fun r nr => ?_⟩
    exact kk r _ _ _ _ ⟨Int.ediv_nonneg p0 (by omega), hq1, hcop, pb.ediv hg, (qb.ediv hg).mono (by omega), cb⟩ upd_same (hP4.new nr) (f4.trans (Fr.new nr))
def spCount30 : Sp := fun vs H Q _ => ∃ (r : Addr) (p q c t : Int) (k : Nat), vs = [.ref r, .int t] ∧ H r = some (.tup [.int p, .int q, .int c]) ∧ RuleB k p q c ∧ Bd k t ∧ 0 < k ∧ k ≤ 3000 ∧ Q (.int ((p * t + c) / q)) H
abbrev s_l_count : Stmt := topS 32
abbrev N_l_count : List Str := ["_law_rule_here", "_law_time_here"]
abbrev P_l_count : List Str := ["_law_rule_here", "_law_time_here"]
theorem sc_l_count : FnScope N_l_count P_l_count (defScope s_l_count) := ⟨rfl, rfl, rfl, by decide +kernel, rfl, by decide +kernel, by decide +kernel⟩
theorem ok_l_count (D : Df K mg "_law_count" s_l_count P_l_count) : C8.Cal P w K mg base 1 "_law_count" spCount30 [] := by
  refine cal_of D sc_l_count (fun vs H Q E h => ?_) (fun f cdv A outer s H vs Q E hr h => ?_)
  · obtain ⟨r, p, q, c, t, k, rfl, _⟩ := h
    rfl
  · obtain ⟨r, p, q, c, t, k, rfl, er, R, bt, k0, k3, kk⟩ := h
    refine ⟨_, (pss_one (ps_ret (pe_op op_fdivW (pe_op op_add (pe_op op_mulW (pe_ix (r := rIxT K) ix_tup (pv 0) pe_int (fun _ _ => rfl)) (pv 1)) (pe_ix (r := rIxT K) ix_tup (pv 0) pe_int (fun _ _ => rfl))) (pe_ix (r := rIxT K) ix_tup (pv 0) pe_int (fun _ _ => rfl))))), ?_⟩
    refine ⟨_, rfl, r, _, _, _, rfl, rfl, SqT.of er, atI_nat (j := 0) rfl, _, rfl, _, _, rfl, rfl, mulW R.bp bt k0 k0 (by omega), ?_⟩
    refine ⟨_, rfl, r, _, _, _, rfl, rfl, SqT.of er, atI_nat (j := 2) rfl, _, _, rfl, rfl, ?_⟩
    refine ⟨_, rfl, r, _, _, _, rfl, rfl, SqT.of er, atI_nat (j := 1) rfl, _, _, rfl, rfl, divW (by have := R.q1; omega) R.bq (by omega), kk⟩
def spTime30 : Sp := fun vs H Q _ => ∃ (a : PA) (n : Nat) (dg : Int) (m : Nat), vs = [.ref a, .int dg] ∧ Pen H a n ∧ n < 2 ^ 38 ∧ dg / 6 = (m : Int) ∧ 1 ≤ m ∧ m ≤ 60 ∧
  ∀ z H', Bd (20 * m) z → Pen H' a (n + m + 5) → Fr H H' → Q (.int z) H'
abbrev s_l_time : Stmt := topS 33
abbrev N_l_time : List Str := ["_law_pen_here", "_law_digits"]
abbrev P_l_time : List Str := ["_law_pen_here", "_law_digits"]
theorem sc_l_time : FnScope N_l_time P_l_time (defScope s_l_time) := ⟨rfl, rfl, rfl, by decide +kernel, rfl, by decide +kernel, by decide +kernel⟩
theorem ok_l_time (D : Df K mg "_law_time" s_l_time P_l_time) (B : Bi mg) (c_l_draw : C8.Cal P w K mg base 1 "_law_draw" spDraw []) (c_l_far : C8.Cal P w K mg base 2 "_law_far" spFar []) : C8.Cal P w K mg base 3 "_law_time" spTime30 [] := by
  refine cal_of D sc_l_time (fun vs H Q E h => ?_) (fun f cdv A outer s H vs Q E hr h => ?_)
  · obtain ⟨a, n, dg, m, rfl, _⟩ := h
    rfl
  · obtain ⟨a, n, dg, m, rfl, hP, hn, hm, m1, m20, kk⟩ := h
    refine ⟨_, (pss_one (ps_ret (pe_ix (r := rIxL K) ix_list (pe_lst (pa_cons (pe_op op_sub (C8.pe_c c_l_draw hr (by decide) (by rfl) (pa_cons (pv 0) (pa_cons pe_int pa_nil))) pe_int) (pa_cons (pe_op op_sub (C8.pe_c c_l_draw hr (by decide) (by rfl) (pa_cons (pv 0) (pa_cons pe_int pa_nil))) pe_int) (pa_cons (C8.pe_c c_l_far hr (by decide) (by rfl) (pa_cons (pv 0) (pa_cons (pv 1) pa_nil))) pa_nil)))) (C8.pe_c c_l_draw hr (by decide) (by rfl) (pa_cons (pv 0) (pa_cons pe_int pa_nil))) (fun _ _ => rfl)))), ?_⟩
    have sB : ∀ {x : Int}, x.natAbs < 2 ^ 20 → Bd (20 * m) x := fun h => Bd.small 20 h (by omega)
    refine ⟨_, rfl, a, _, _, rfl, hP, by omega, by decide, Bd.small 20 (by decide) (by decide), fun e1 H1 e10 e11 hP1 f1 => ?_⟩
    refine ⟨_, _, rfl, rfl, _, rfl, a, _, _, rfl, hP1, by omega, by decide, Bd.small 20 (by decide) (by decide), fun e2 H2 e20 e21 hP2 f2 => ?_⟩
    refine ⟨_, _, rfl, rfl, _, rfl, _, rfl, a, _, dg, m, rfl, hP2, by omega, hm, by omega, by omega, fun z H3 bz hP3 f3 => ?_⟩
    refine ⟨len10 (by simp), fun l nl => ?_⟩
    refine ⟨_, rfl, a, _, _, rfl, hP3.new nl, by omega, by decide, Bd.small 20 (by decide) (by decide), fun d H4 d0 d1 hP4 f4 => ?_⟩
    have el := f4.l _ _ (upd_same (H := H3) (a := l) (o := .lst [.int (e1 - 4), .int (e2 - 30), .int z]))
    obtain ⟨x, hx, mx⟩ := at_in (xs := [.int (e1 - 4), .int (e2 - 30), .int z]) d0 (by show d < 3; omega)
    refine ⟨l, _, _, _, rfl, rfl, SqL.of el, hx, ?_⟩
    have fF := f1.trans (f2.trans (f3.trans ((Fr.new nl).trans f4)))
    simp only [List.mem_cons, List.not_mem_nil, or_false] at mx
    rcases mx with rfl | rfl | rfl
    · exact kk _ _ (sB (by omega)) (hP4.mono (by omega)) fF
    · exact kk _ _ (sB (by omega)) (hP4.mono (by omega)) fF
    · exact kk _ _ bz (hP4.mono (by omega)) fF
def spRec30 : Sp := fun vs H Q _ => ∃ (a : PA) (n : Nat) (r L : Addr) (p q c : Int) (offs : List Int) (dg : Int) (m k : Nat), vs = [.ref a, .ref r, .ref L, .int dg] ∧ Pen H a n ∧ n < 2 ^ 37 ∧ H r = some (.tup [.int p, .int q, .int c]) ∧ RuleB k p q c ∧
  H L = some (.lst (offs.map V.int)) ∧ offs ≠ [] ∧ offs.length ≤ 1000 ∧ (∀ z ∈ offs, Bd 200 z) ∧ dg / 6 = (m : Int) ∧ 1 ≤ m ∧ m ≤ 60 ∧ 100 ≤ k ∧ 20 * m ≤ k ∧ k ≤ 3000 ∧
  ∀ e H' d o, H' e = some (rcO d) → Bd k d.t → Bd (2 * k + 2) d.n → o ∈ offs → d.n = (p * d.t + c) / q + (if d.lo = true then o else -o) → Pen H' a (n + m + 10) → Fr H H' → Q (.ref e) H'
abbrev s_l_record : Stmt := topS 34
abbrev N_l_record : List Str := ["_law_pen_here", "_law_rule_here", "_law_offs", "_law_digits", "_law_time_here", "_law_off"]
abbrev P_l_record : List Str := ["_law_pen_here", "_law_rule_here", "_law_offs", "_law_digits"]
theorem sc_l_record : FnScope N_l_record P_l_record (defScope s_l_record) := ⟨rfl, rfl, rfl, by decide +kernel, rfl, by decide +kernel, by decide +kernel⟩
theorem ok_l_record (D : Df K mg "_law_record" s_l_record P_l_record) (B : Bi mg) (c_l_draw : C8.Cal P w K mg base 1 "_law_draw" spDraw []) (c_l_pick : C8.Cal P w K mg base 2 "_law_pick" spPick []) (c_l_count : C8.Cal P w K mg base 1 "_law_count" spCount30 []) (c_l_time : C8.Cal P w K mg base 3 "_law_time" spTime30 []) : C8.Cal P w K mg base 4 "_law_record" spRec30 [] := by
  refine cal_of D sc_l_record (fun vs H Q E h => ?_) (fun f cdv A outer s H vs Q E hr h => ?_)
  · obtain ⟨a, n, r, L, p, q, c, offs, dg, m, k, rfl, _⟩ := h
    rfl
  · obtain ⟨a, n, r, L, p, q, c, offs, dg, m, k, rfl, hP, hn, er, R, eL, ho0, hol, hob, hm, m1, m20, k0, km, k3, kk⟩ := h
    refine ⟨_, (pss_cons (ps_par (i := 4) (j := 5) rfl sc_l_record.nd rfl rfl (by decide) rfl rfl (pa_cons (C8.pe_c c_l_time hr (by decide) (by rfl) (pa_cons (pv 0) (pa_cons (pv 3) pa_nil))) (pa_cons (C8.pe_c c_l_pick hr (by decide) (by rfl) (pa_cons (pv 0) (pa_cons (pv 2) pa_nil))) pa_nil)) rfl)
    (pss_cons (ps_if (pt_cmpR op_eq (C8.pe_c c_l_draw hr (by decide) (by rfl) (pa_cons (pv 0) (pa_cons pe_int pa_nil))) pe_int (nomark _))
      (pss_one (ps_ret (pe_tup (pa_cons pe_str (pa_cons (pv 4) (pa_cons (pe_op op_add (C8.pe_c c_l_count hr (by decide) (by rfl) (pa_cons (pv 1) (pa_cons (pv 4) pa_nil))) (pv 5)) pa_nil))))))
      pss_nil)
    (pss_one (ps_ret (pe_tup (pa_cons pe_str (pa_cons (pv 4) (pa_cons (pe_op op_sub (C8.pe_c c_l_count hr (by decide) (by rfl) (pa_cons (pv 1) (pa_cons (pv 4) pa_nil))) (pv 5)) pa_nil)))))))), ?_⟩
    refine ⟨_, rfl, _, rfl, a, n, dg, m, rfl, hP, by omega, hm, m1, m20, fun t H1 bt hP1 f1 => ?_⟩
    refine ⟨_, rfl, _, rfl, a, L, _, _, rfl, hP1, by omega, f1.l _ _ eL, by simpa using ho0, by simpa using hol, fun x H2 hx hP2 f2 => ?_⟩
    obtain ⟨o, ho, rfl⟩ := List.mem_map.mp hx
    have bo := hob o ho
    have bt : Bd k t := bt.mono km
    refine ⟨_, _, rfl, ?_⟩
    refine ⟨_, rfl, a, _, _, rfl, hP2, by omega, by decide, Bd.small 20 (by decide) (by decide), fun d H3 d0 d1 hP3 f3 => ?_⟩
    have fF := f1.trans (f2.trans f3)
    have er3 := fF.t _ _ er
    have bc : Bd (2 * k + 1) ((p * t + c) / q) := Bd.ediv (Bd.add ((Bd.mul R.bp bt).mono (by omega)) (R.bc.mono (by omega))) (by have := R.q1; omega)
    refine ⟨rfl, _, rfl, ite2 (fun _ => ?_) (fun _ => ?_)⟩
    · refine ⟨_, rfl, _, rfl, _, rfl, r, p, q, c, t, k, rfl, er3, R, bt, by omega, by omega, ?_⟩
      refine ⟨_, rfl, _, _, rfl, rfl, len10 (by simp), fun e ne => ?_⟩
      refine kk e _ ⟨true, t, (p * t + c) / q + o⟩ o upd_same bt (Bd.add bc (bo.mono (by omega))) ho rfl ((hP3.new ne).mono (by omega)) (fF.trans (Fr.new ne))
    · refine ⟨_, rfl, _, rfl, _, rfl, r, p, q, c, t, k, rfl, er3, R, bt, by omega, by omega, ?_⟩
      refine ⟨_, rfl, _, _, rfl, rfl, len10 (by simp), fun e ne => ?_⟩
      refine kk e _ ⟨false, t, (p * t + c) / q - o⟩ o upd_same bt (Bd.sub bc (bo.mono (by omega))) ho ?_ ((hP3.new ne).mono (by omega)) (fF.trans (Fr.new ne))
      show (p * t + c) / q - o = (p * t + c) / q + -o
      omega
end
end Lf
namespace Lf
open PySem PySem.Spec PyProof.Rows L2
def rcD (d : Rec) : PyData := .tuple [.str (wd d.lo), .int d.t, .int d.n]
theorem dp_rec {K : PySem.W.Frag} {H : Hp} {r : Addr} {d : Rec} (e : H r = some (rcO d)) : Dp K H (.ref r) (rcD d) := Dp.tup (SqT.of e) (.cons (.str _) (.cons (.int _) (.cons (.int _) .nil)))
theorem dp_recs {K : PySem.W.Frag} {H : Hp} {xs : List V} {ds : List Rec} (h : Obs rcO H xs ds) : DpAll K H xs (ds.map rcD) := by
  induction h with
  | nil => exact .nil
  | cons e _ ih => exact .cons (dp_rec e) ih
theorem sh_recs (ds : List Rec) : SeqAt.shaped (.list (ds.map rcD)) = true := by
  have h : ∀ ds : List Rec, PyData.canLayAll0 (ds.map rcD) = true ∧ PyData.depthAll (ds.map rcD) ≤ 1 := by
    intro cs
    induction cs with
    | nil => exact ⟨rfl, by decide⟩
    | cons c r ih =>
      refine ⟨?_, ?_⟩
      · have hw : PyData.strOk (wd c.lo) = true := by
          cases c.lo <;> decide +kernel
        simpa [PyData.canLayAll0, PyData.canLay0, rcD, hw] using ih.1
      · have := ih.2
        simp only [List.map_cons, PyData.depthAll, rcD, PyData.depth]
        omega
  have h2 : (PyData.list (ds.map rcD)).depth ≤ 64 := by
    have := (h ds).2
    simp only [PyData.depth]
    omega
  show (PyData.canLay0 _ && decide _) = true
  rw [Bool.and_eq_true]
  exact ⟨by simpa [PyData.canLay0] using (h ds).1, decide_eq_true h2⟩
section
variable {P : Program} {w : World} {K : PySem.W.Frag} {mg : Str → Option Value} {base : Heap}
def spRecs30 : Sp := fun vs H Q _ => ∃ (a : PA) (n : Nat) (L : Addr) (mo : Int) (offs : List Int) (dg : Int) (m : Nat), vs = [.ref a, .int mo, .ref L, .int dg] ∧ Pen H a n ∧ n < 2 ^ 36 ∧ 0 ≤ mo ∧ mo ≤ 200 ∧
  H L = some (.lst (offs.map V.int)) ∧ offs ≠ [] ∧ offs.length ≤ 1000 ∧ (∀ z ∈ offs, Bd 200 z) ∧ dg / 6 = (m : Int) ∧ 5 ≤ m ∧ m ≤ 20 ∧
  ∀ F H' xs ds, H' F = some (.lst xs) → Obs rcO H' xs ds → (ds.length : Int) ≤ mo → RcB (40 * m + 10) ds → Pen H' a (n + 10000) → Fr H H' → Q (.ref F) H'
abbrev s_l_records : Stmt := topS 35
abbrev N_l_records : List Str := ["_law_pen_here", "_law_most", "_law_offs", "_law_digits", "_law_rule_here", "_law_found", "_law_k"]
abbrev P_l_records : List Str := ["_law_pen_here", "_law_most", "_law_offs", "_law_digits"]
theorem sc_l_records : FnScope N_l_records P_l_records (defScope s_l_records) := ⟨rfl, rfl, rfl, by decide +kernel, rfl, by decide +kernel, by decide +kernel⟩
theorem ok_l_records (D : Df K mg "_law_records" s_l_records P_l_records) (B : Bi mg) (c_l_draw : C8.Cal P w K mg base 1 "_law_draw" spDraw []) (c_l_pick : C8.Cal P w K mg base 2 "_law_pick" spPick []) (c_l_rule : C8.Cal P w K mg base 3 "_law_rule" spRule30 []) (c_l_record : C8.Cal P w K mg base 4 "_law_record" spRec30 []) : C8.Cal P w K mg base 5 "_law_records" spRecs30 [] := by
  refine cal_of D sc_l_records (fun vs H Q E h => ?_) (fun f cdv A outer s H vs Q E hr h => ?_)
  · obtain ⟨a, n, L, mo, offs, dg, m, rfl, _⟩ := h
    rfl
  · obtain ⟨a, n, O, mo, offs, dg, m, rfl, hP, hn, mo0, mo1, eO, on0, ol, ob, hm, m5, m20, kk⟩ := h
    refine ⟨_, (pss_cons (ps_set (i := 4) sc_l_records.nd rfl (Or.inr rfl) (C8.pe_c c_l_rule hr (by decide) (by rfl) (pa_cons (pv 0) (pa_cons (pv 3) pa_nil))))
    (pss_cons (ps_setLc (i := 5) (own := [("_law_k", 6)]) (g := (gName 6)) (by rfl) sc_l_records.nd rfl rfl (sw_true rfl rfl rfl (by decide +kernel)) (pi_range1 rfl B.range_ (pa_cons (C8.pe_c c_l_draw hr (by decide) (by rfl) (pa_cons (pv 0) (pa_cons (pe_op op_add (pv 1) pe_int) pa_nil))) pa_nil)) (blkOk_by (own := [("_law_k", 6)]) (N := N_l_records) (sc := defScope s_l_records) (by decide +kernel)) (fun _ _ _ _ _ => (pg_name (i := 6) sc_l_records.nd rfl (Or.inl rfl))) (fun _ _ _ _ _ => pts_nil) (fun _ _ _ _ _ => (C8.pe_c c_l_record hr (by decide) (by rfl) (pa_cons (pv 0) (pa_cons (pv 4) (pa_cons (pv 2) (pa_cons (pv 3) pa_nil)))))))
    (C8.pss_cut (ps_if (PW.pt (pw_and (pt_cmpR (op_neD hr.units) (pv 5) (pe_lst pa_nil) (nomark _)) (pw_and (pt_cmpR op_lt (pe_callB (call_len_seq) (by rfl) B.len_ bt_len (pa_cons (pv 5) pa_nil)) (pv 1) (nomark _)) (pw_and1 (pt_cmpR op_eq (C8.pe_c c_l_draw hr (by decide) (by rfl) (pa_cons (pv 0) (pa_cons pe_int pa_nil))) pe_int (nomark _))))))
      (pss_one (ps_expr (pe_bm PySem.F.plainAttrs_list PySem.F.slot_list_append PySem.F.type_list_append mt_append (pv 5) (pa_cons (C8.pe_c c_l_pick hr (by decide) (by rfl) (pa_cons (pv 0) (pa_cons (pv 5) pa_nil))) pa_nil))))
      pss_nil)
    (pss_one (ps_ret (pv 5)))))), ?_⟩
    refine ⟨_, rfl, _, rfl, a, n, dg, m, rfl, hP, by omega, hm, by omega, m20, fun r H1 p q c R er hP1 f1 => ?_⟩
    refine ⟨_, rfl, _, rfl, _, _, rfl, rfl, a, _, _, rfl, hP1, by omega, by omega, Bd.small 20 (by omega) (by decide), fun mm H2 mm0 mm1 hP2 f2 => ?_⟩
    have f12 := f1.trans f2
    have er2 := f2.t _ _ er
    have eO2 := f12.l _ _ eO
    refine ⟨_, rfl, by omega, by omega, fun F nF => ?_⟩
    refine lc_range (lo := 0) (n := mm.toNat) (fun j H' => ∃ (xs : List V) (ds : List Rec), H' F = some (.lst xs) ∧ Obs rcO H' xs ds ∧ ds.length = j ∧ RcB (40 * m + 10) ds ∧ Pen H' a (n + 110 + 40 * j) ∧ Fr H2 H') ⟨[], [], upd_same, .nil, rfl, fun _ z => (nomatch z), (hP2.new nF).mono (by omega), Fr.new nF⟩ ?_ ?_
    · rintro j H7 hj ⟨xs, ds, eL, oD, ld, bD, hP7, f7⟩
      refine ⟨rfl, _, rfl, _, rfl, _, rfl, _, rfl, a, _, r, O, p, q, c, offs, dg, m, 20 * m + 4, rfl, hP7, by omega, f7.t _ _ er2, R, f7.l _ _ eO2, on0, ol, ob, hm, by omega, by omega, by omega, by omega, by omega, fun e H8 d o ed bt bn _ _ hP8 f8 => ?_⟩
      have eL8 := f8.l _ _ eL
      refine ⟨xs, eL8, ?_, xs ++ [.ref e], ds ++ [d], upd_same, ?_, ?_, ?_, ?_, ?_⟩
      · have := oD.len
        exact ltS (by omega)
      · refine Obs.keep ((oD.fr f8).snoc ed) fun b d' eb => ?_
        rw [upd_ne (ne_of eb eL8 (by intro q; cases q))]
        exact eb
      · rw [List.length_append, ld]
        rfl
      · intro d' hd'
        rcases List.mem_append.mp hd' with h | h
        · exact bD d' h
        · rw [List.mem_singleton.mp h]
          exact ⟨bt.mono (by omega), bn.mono (by omega)⟩
      · exact ((hP2.over nF hP8)).mono (by omega)
      · exact (f7.trans f8).over nF
    rintro H7 ⟨xs, ds, eL, oD, ld, bD, hP7, f7⟩
    have f27 := f12.trans f7
    refine ⟨fun σ' H' => ∃ (xs : List V) (ds : List Rec), σ' = [some (.ref a), some (.int mo), some (.ref O), some (.int dg), some (.ref r), some (.ref F), none] ∧ H' F = some (.lst xs) ∧ Obs rcO H' xs ds ∧ (ds.length : Int) ≤ mo ∧ RcB (40 * m + 10) ds ∧ Pen H' a (n + 10000) ∧ Fr H H', ?_, ?_⟩
    · have skip : ∀ H', Fr H H' → Fr H7 H' → Pen H' a (n + 9000) → ∃ (xs : List V) (ds : List Rec), [some (.ref a), some (.int mo), some (.ref O), some (.int dg), some (.ref r), some (.ref F), none] = [some (V.ref a), some (.int mo), some (.ref O), some (.int dg), some (.ref r), some (.ref F), none] ∧ H' F = some (.lst xs) ∧ Obs rcO H' xs ds ∧ (ds.length : Int) ≤ mo ∧ RcB (40 * m + 10) ds ∧ Pen H' a (n + 10000) ∧ Fr H H' :=
        fun H' fa fb hp => ⟨xs, ds, rfl, fb.l _ _ eL, oD.fr fb, by omega, bD, hp.mono (by omega), fa⟩
      refine ⟨_, rfl, Nat.zero_le _, fun E2 nE2 => ?_⟩
      have z := sm_upd (o := .lst []) nE2
      have f8 := f27.trans (Fr.same z)
      refine ⟨.list (ds.map rcD), .list [], Dp.lst (SqL.of (z _ _ eL)) (dp_recs (oD.same z)), Dp.lst (SqL.of upd_same) .nil, sh_recs ds, rfl, _, rfl, ?_⟩
      cases ds with
      | nil => exact iteF (iteF (skip _ f8 (Fr.same z) ((hP7.same z).mono (by omega))))
      | cons d0 dr =>
        refine iteT ?_
        refine ⟨_, rfl, F, _, rfl, .inl (SqL.of (z _ _ eL)), _, rfl, _, _, rfl, rfl, _, rfl, ite2 (fun c1 => ?_) (fun c1 => ?_)⟩
        · have c1 : (xs.length : Int) < mo := of_decide_eq_true c1
          refine ⟨_, rfl, a, _, _, rfl, hP7.same z, by omega, by decide, Bd.small 20 (by decide) (by decide), fun d H8 d1 d2 hP8 f9 => ⟨rfl, _, rfl, ite2 (fun _ => ?_) (fun _ => ?_)⟩⟩
          · have eL8 := f9.l _ _ (z _ _ eL)
            have lx := oD.len
            refine ⟨_, rfl, .inl ⟨rfl, _, SqL.of eL8⟩, _, rfl, _, rfl, a, F, _, xs, rfl, hP8, by omega, eL8, (fun e => by rw [e] at lx; cases lx), by omega, fun x H9 hx hP9 f10 => ?_⟩
            have fA := (Fr.same z).trans (f9.trans f10)
            have eL9 := fA.l _ _ eL
            obtain ⟨i, hi⟩ := List.mem_iff_getElem?.mp hx
            obtain ⟨e, d', rfl, ed, hd⟩ := (oD.fr fA).at hi
            refine ⟨F, _, _, rfl, rfl, eL9, ltS (by omega), ?_⟩
            refine ⟨xs ++ [.ref e], (d0 :: dr) ++ [d'], rfl, upd_same, ?_, ?_, ?_, ?_, f12.trans ((f7.trans fA).over nF)⟩
            · refine Obs.keep ((oD.fr fA).snoc ed) fun b d' eb => ?_
              rw [upd_ne (ne_of eb eL9 (by intro q; cases q))]
              exact eb
            · rw [List.length_append]
              show ((d0 :: dr).length + 1 : Nat) ≤ mo
              omega
            · intro d'' h
              rcases List.mem_append.mp h with h | h
              · exact bD d'' h
              · rw [List.mem_singleton.mp h]
                exact bD d' (List.mem_of_getElem? hd)
            · exact (hP2.over nF hP9).mono (by omega)
          · exact skip _ (f8.trans f9) ((Fr.same z).trans f9) (hP8.mono (by omega))
        · exact iteF (skip _ f8 (Fr.same z) ((hP7.same z).mono (by omega)))
    · rintro σ H8 ⟨xs, ds, rfl, eL8, oD8, ld8, bD8, hP8, f8⟩
      exact ⟨_, rfl, kk F H8 xs ds eL8 oD8 ld8 bD8 hP8 f8⟩
def spLow2 : Sp := fun vs H Q _ => ∃ (p q : Int), vs = [.int p, .int q] ∧ 0 ≤ p ∧ 1 ≤ q ∧ Bd 9000 q ∧
  ∀ r H', Same H H' → H r = none → H' r = some (tup2 (p / (Int.gcd p q : Int)) (q / (Int.gcd p q : Int))) → Q (.ref r) H'
abbrev s_l_lowest : Stmt := topS 36
abbrev N_l_lowest : List Str := ["_law_top", "_law_bottom", "_law_divisor"]
abbrev P_l_lowest : List Str := ["_law_top", "_law_bottom"]
theorem sc_l_lowest : FnScope N_l_lowest P_l_lowest (defScope s_l_lowest) := ⟨rfl, rfl, rfl, by decide +kernel, rfl, by decide +kernel, by decide +kernel⟩
theorem ok_l_lowest (D : Df K mg "_law_lowest" s_l_lowest P_l_lowest) (c_l_gcd : C8.Cal P w K mg base 1 "_law_gcd" spGcd []) : C8.Cal P w K mg base 2 "_law_lowest" spLow2 [] := by
  refine cal_of D sc_l_lowest (fun vs H Q E h => ?_) (fun f cdv A outer s H vs Q E hr h => ?_)
  · obtain ⟨p, q, rfl, _⟩ := h
    rfl
  · obtain ⟨p, q, rfl, hp, hq, hb, k⟩ := h
    refine ⟨_, (pss_cons (ps_set (i := 2) sc_l_lowest.nd rfl (Or.inl rfl) (C8.pe_c c_l_gcd hr (by decide) (by rfl) (pa_cons (pv 0) (pa_cons (pv 1) pa_nil))))
    (pss_one (ps_ret (pe_tup (pa_cons (pe_op op_fdivW (pv 0) (pv 2)) (pa_cons (pe_op op_fdivW (pv 1) (pv 2)) pa_nil)))))), ?_⟩
    have hg := gcd_pos (p := p) hq
    have hd : CDivW 0 (Int.gcd p q : Int) := ⟨hg, (hb.between (by omega) (gcd_le hq)).log (by decide)⟩
    refine ⟨_, rfl, _, rfl, p, q, rfl, hp, by omega, ?_⟩
    refine ⟨_, rfl, _, rfl, _, _, rfl, rfl, hd, _, rfl, _, rfl, _, _, rfl, rfl, hd, len10 (by simp), fun r nr => ?_⟩
    exact k r _ (sm_upd nr) nr upd_same
end
end Lf
namespace Lf
open PySem PySem.Spec PyProof.Rows L2
/-- x not in a tuple whose items are data of any depth -/
def rNotInDT (K : PySem.W.Frag) : R2 := fun x y H Q => ∃ d ds, Dp K H x d ∧ Dp K H y (.tuple ds) ∧ SeqAt.shaped d = true ∧ SeqAt.shaped (.tuple ds) = true ∧ Q (.bl (!ds.any fun z => PyData.eqv z d)) H
theorem op_notInDT {X : Cx} (hu : X.A.units + 65 < cLine) : OpR X (compareOp .NotIn) (rNotInDT X.K) := by
  intro pins s σ H x y v u Q I rx ry h
  obtain ⟨d, ds, hd, he, sd, se, q⟩ := h
  obtain ⟨as, r1⟩ := Dp.reads I d x v hd rx
  obtain ⟨bs, r2⟩ := Dp.reads I (.tuple ds) y u he ry
  exact SeqAt.notIn_tuple_reads r2 r1 (SeqAt.canLay_of_shaped se) (SeqAt.canLay_of_shaped sd) (room_in_shaped sd hu) ⟨.bl _, H, I, rfl, q⟩
def RtL (H : Hp) (xs : List V) : Prop := ∀ x ∈ xs, ∃ r p q, x = .ref r ∧ H r = some (tup2 p q) ∧ Rt 1000 p q
theorem RtL.fr {H H' : Hp} {xs : List V} (h : RtL H xs) (f : Fr H H') : RtL H' xs := fun x hx => by
  obtain ⟨r, p, q, e, h1, h2⟩ := h x hx
  exact ⟨r, p, q, e, f.t _ _ h1, h2⟩
theorem RtL.app {H : Hp} {xs ys : List V} (h : RtL H xs) (h2 : RtL H ys) : RtL H (xs ++ ys) := fun x hx => (List.mem_append.mp hx).elim (h x) (h2 x)
theorem RtL.one {H : Hp} {r : Addr} {p q : Int} (e : H r = some (tup2 p q)) (R : Rt 1000 p q) : RtL H [.ref r] := fun x hx => by
  rw [List.mem_singleton.mp hx]
  exact ⟨r, p, q, rfl, e, R⟩
theorem RtL.keep {H H' : Hp} {xs : List V} (h : RtL H xs) (f : ∀ b p q, H b = some (tup2 p q) → H' b = some (tup2 p q)) : RtL H' xs := fun x hx => by
  obtain ⟨r, p, q, e, h1, h2⟩ := h x hx
  exact ⟨r, p, q, e, f _ _ _ h1, h2⟩
def endD : Option (Int × Int) → PyData
  | none => .none
  | some e => .tuple [.int e.1, .int e.2]
theorem EndV.dp {K : PySem.W.Frag} {H : Hp} {k : Nat} {v : V} {e : Option (Int × Int)} (h : EndV H k v e) : Dp K H v (endD e) := by
  match e, h with
  | none, h =>
    have h : v = .non := h
    rw [h]
    exact .non
  | some e, ⟨a, h1, h2, _⟩ =>
    rw [h1]
    exact Dp.tup (SqT.of h2) (.cons (.int _) (.cons (.int _) .nil))
theorem mx0 (x : Int) : 0 ≤ (if x > 0 then x else 0) ∧ ∀ k, Bd k x → Bd k (if x > 0 then x else 0) := by
  by_cases h : x > 0
  · rw [if_pos h]
    exact ⟨by omega, fun _ b => b⟩
  · rw [if_neg h]
    refine ⟨by omega, fun k b => ?_⟩
    have : (0 : Nat) < 2 ^ k := Nat.pow_pos (by decide)
    exact this
section
variable {P : Program} {w : World} {K : PySem.W.Frag} {mg : Str → Option Value} {base : Heap}
def spTried : Sp := fun vs H Q _ => ∃ (a : PA) (n : Nat) (N : Addr) (va vb : V) (e1 e2 : Option (Int × Int)), vs = [.ref a, .ref N] ∧ Pen H a n ∧ n < 2 ^ 37 ∧ H N = some (.tup [va, vb]) ∧ EndV H 412 va e1 ∧ EndV H 412 vb e2 ∧
  ∀ F H' xs, H' F = some (.lst xs) → RtL H' xs → xs.length ≤ 20 → Pen H' a (n + 200) → Fr H H' → Q (.ref F) H'
abbrev s_l_tried : Stmt := topS 37
abbrev N_l_tried : List Str := ["_law_pen_here", "_law_ends", "_law_found", "_law_end", "_law_many"]
abbrev P_l_tried : List Str := ["_law_pen_here", "_law_ends"]
theorem sc_l_tried : FnScope N_l_tried P_l_tried (defScope s_l_tried) := ⟨rfl, rfl, rfl, by decide +kernel, rfl, by decide +kernel, by decide +kernel⟩
theorem ok_l_tried (D : Df K mg "_law_tried" s_l_tried P_l_tried) (B : Bi mg) (c_l_draw : C8.Cal P w K mg base 1 "_law_draw" spDraw []) (c_l_far : C8.Cal P w K mg base 2 "_law_far" spFar []) (c_l_lowest : C8.Cal P w K mg base 2 "_law_lowest" spLow2 []) : C8.Cal P w K mg base 3 "_law_tried" spTried [] := by
  refine cal_of D sc_l_tried (fun vs H Q E h => ?_) (fun f cdv A outer s H vs Q E hr h => ?_)
  · obtain ⟨a, n, N, va, vb, e1, e2, rfl, _⟩ := h
    rfl
  · obtain ⟨a, n, N, va, vb, e1, e2, rfl, hP, hn, eN, g1, g2, kk⟩ := h
    have hu : (A.deeper (envOfC "_law_tried" (defScope s_l_tried) s.heap.objs.size f cdv)).units + 65 < cLine := by
      have := hr.un
      omega
    refine ⟨_, (pss_cons (ps_set (i := 2) sc_l_tried.nd rfl (Or.inl rfl) (pe_lst (pa_cons (pe_tup (pa_cons pe_int (pa_cons pe_int pa_nil))) (pa_cons (C8.pe_c c_l_lowest hr (by decide) (by rfl) (pa_cons (C8.pe_c c_l_draw hr (by decide) (by rfl) (pa_cons (pv 0) (pa_cons pe_int pa_nil))) (pa_cons (pe_op op_add pe_int (C8.pe_c c_l_draw hr (by decide) (by rfl) (pa_cons (pv 0) (pa_cons pe_int pa_nil)))) pa_nil))) pa_nil))))
    (pss_cons (ps_expr (pe_bm PySem.F.plainAttrs_list PySem.F.slot_list_append PySem.F.type_list_append mt_append (pv 2) (pa_cons (C8.pe_c c_l_lowest hr (by decide) (by rfl) (pa_cons (pe_callB (call_abs) (by rfl) B.abs_ bt_abs (pa_cons (C8.pe_c c_l_far hr (by decide) (by rfl) (pa_cons (pv 0) (pa_cons pe_int pa_nil))) pa_nil)) (pa_cons (pe_op op_add pe_int (pe_callB (call_abs) (by rfl) B.abs_ bt_abs (pa_cons (C8.pe_c c_l_far hr (by decide) (by rfl) (pa_cons (pv 0) (pa_cons pe_int pa_nil))) pa_nil))) pa_nil))) pa_nil)))
    (pss_cons (ps_for PassesOwn.never rfl (pi_list (pe_lc (own := [("_law_end", 3)]) (g := (gName 3)) (by rfl) sc_l_tried.nd (pi_tup (pv 1)) (blkOk_by (own := [("_law_end", 3)]) (N := N_l_tried) (sc := defScope s_l_tried) (by decide +kernel)) (fun _ _ _ _ _ => (pg_name (i := 3) sc_l_tried.nd rfl (Or.inl rfl))) (fun _ _ _ _ _ => (pts_one (pt_cmpR op_notN (pv 3) pe_non (nomark _)))) (fun _ _ _ _ _ => (pv 3)))) (pg_name (i := 3) sc_l_tried.nd rfl (Or.inl rfl))
      (pss_cons (ps_set (i := 4) sc_l_tried.nd rfl (Or.inl rfl) (pe_op op_add pe_int (pe_ix (r := rIxL K) ix_list (pe_lst (pa_cons (C8.pe_c c_l_draw hr (by decide) (by rfl) (pa_cons (pv 0) (pa_cons pe_int pa_nil))) (pa_cons (pe_callB (call_abs) (by rfl) B.abs_ bt_abs (pa_cons (C8.pe_c c_l_far hr (by decide) (by rfl) (pa_cons (pv 0) (pa_cons pe_int pa_nil))) pa_nil)) pa_nil))) (C8.pe_c c_l_draw hr (by decide) (by rfl) (pa_cons (pv 0) (pa_cons pe_int pa_nil))) (fun _ _ => rfl))))
    (pss_cons (ps_set (i := 2) sc_l_tried.nd rfl (Or.inl rfl) (pe_op op_cat (pv 2) (pe_lst (pa_cons (pv 3) (pa_cons (C8.pe_c c_l_lowest hr (by decide) (by rfl) (pa_cons (pe_op op_add (pe_op op_mulW (pe_ix (r := rIxT K) ix_tup (pv 3) pe_int (fun _ _ => rfl)) (pv 4)) pe_int) (pa_cons (pe_op op_mulW (pe_ix (r := rIxT K) ix_tup (pv 3) pe_int (fun _ _ => rfl)) (pv 4)) pa_nil))) pa_nil)))))
    (pss_one (ps_expr (pe_bm PySem.F.plainAttrs_list PySem.F.slot_list_append PySem.F.type_list_append mt_append (pv 2) (pa_cons (C8.pe_c c_l_lowest hr (by decide) (by rfl) (pa_cons (pe_callB (call_max2 rfl) (by rfl) B.max_ bt_max (pa_cons pe_int (pa_cons (pe_op op_sub (pe_op op_mulW (pe_ix (r := rIxT K) ix_tup (pv 3) pe_int (fun _ _ => rfl)) (pv 4)) pe_int) pa_nil))) (pa_cons (pe_op op_mulW (pe_ix (r := rIxT K) ix_tup (pv 3) pe_int (fun _ _ => rfl)) (pv 4)) pa_nil))) pa_nil)))))))
    (pss_cons (ps_if (pt_cmpR (op_notInDT hu) pe_non (pv 1) rfl)
      (pss_one (ps_expr (pe_bm PySem.F.plainAttrs_list PySem.F.slot_list_append PySem.F.type_list_append mt_append (pv 2) (pa_cons (C8.pe_c c_l_lowest hr (by decide) (by rfl) (pa_cons (pe_op op_add (pe_ix (r := rIxT K) ix_tup (pe_ix (r := rIxT K) ix_tup (pv 1) pe_int (fun _ _ => rfl)) pe_int (fun _ _ => rfl)) (pe_ix (r := rIxT K) ix_tup (pe_ix (r := rIxT K) ix_tup (pv 1) pe_int (fun _ _ => rfl)) pe_int (fun _ _ => rfl))) (pa_cons (pe_op op_add (pe_ix (r := rIxT K) ix_tup (pe_ix (r := rIxT K) ix_tup (pv 1) pe_int (fun _ _ => rfl)) pe_int (fun _ _ => rfl)) (pe_ix (r := rIxT K) ix_tup (pe_ix (r := rIxT K) ix_tup (pv 1) pe_int (fun _ _ => rfl)) pe_int (fun _ _ => rfl))) pa_nil))) pa_nil))))
      pss_nil)
    (pss_one (ps_ret (pv 2))))))), ?_⟩
    have kp : ∀ {H : Hp} {F : Addr} {xs ys : List V}, H F = some (.lst xs) → ∀ b p q, H b = some (tup2 p q) → upd H F (.lst ys) b = some (tup2 p q) := fun e b p q eb => by
      rw [upd_ne (ne_of eb e (by intro z; cases z))]
      exact eb
    refine ⟨len10 (by simp), fun t1 nt1 => ?_⟩
    have z1 := sm_upd (o := .tup [.int 0, .int 1]) nt1
    refine ⟨_, rfl, a, _, _, rfl, hP.same z1, by omega, by decide, Bd.small 20 (by decide) (by decide), fun d1 H1 d10 d11 hP1 f1 => ?_⟩
    refine ⟨_, rfl, a, _, _, rfl, hP1, by omega, by decide, Bd.small 20 (by decide) (by decide), fun d2 H2 d20 d21 hP2 f2 => ?_⟩
    refine ⟨_, _, rfl, rfl, d1, 1 + d2, rfl, d10, by omega, Bd.small 20 (by omega) (by decide), fun r1 H3 s3 nr1 er1 => ?_⟩
    have R1 := redRt (k := 1000) d10 (show 1 ≤ 1 + d2 by omega) (Bd.small 20 (by omega) (by decide)) (Bd.small 20 (by omega) (by decide))
    refine ⟨len10 (by simp), fun F nF => ?_⟩
    have z13 : Fr (upd H t1 (.tup [.int 0, .int 1])) H3 := f1.trans (f2.trans (Fr.same s3))
    have f03 : Fr H H3 := (Fr.same z1).trans z13
    have zF := sm_upd (o := .lst [.ref t1, .ref r1]) nF
    have et1 := zF _ _ (z13.t _ _ (upd_same (H := H) (a := t1) (o := .tup [.int 0, .int 1])))
    have er1 := zF _ _ er1
    have hP3 := hP2.same s3
    have hP4 := hP3.same zF
    have f34 : Fr H3 _ := Fr.same zF
    have eF := upd_same (H := H3) (a := F) (o := .lst [.ref t1, .ref r1])
    generalize upd H3 F (.lst [.ref t1, .ref r1]) = H4 at et1 er1 hP4 f34 eF ⊢
    have L4 : RtL H4 [.ref t1, .ref r1] := RtL.app (xs := [.ref t1]) (RtL.one et1 ⟨by decide, by decide, by decide, Bd.small 1 (by decide) (by decide), Bd.small 1 (by decide) (by decide)⟩) (RtL.one er1 R1)
    clear z1 z13 zF hP1 hP2 f1 f2 s3 nr1
    -- far away
    refine ⟨_, rfl, .inl ⟨rfl, _, SqL.of eF⟩, ?_⟩
    refine ⟨_, rfl, a, _, 60, 10, rfl, hP4, by omega, by decide, by decide, by decide, fun x1 H5 bx1 hP5 f5 => ?_⟩
    obtain ⟨x10, bx1⟩ := absB bx1
    refine ⟨_, rfl, ?_⟩
    refine ⟨_, rfl, a, _, 60, 10, rfl, hP5, by omega, by decide, by decide, by decide, fun x2 H6 bx2 hP6 f6 => ?_⟩
    obtain ⟨x20, bx2⟩ := absB bx2
    refine ⟨_, rfl, _, _, rfl, rfl, ?_⟩
    dsimp only
    generalize (if x1 < 0 then -x1 else x1) = y1 at x10 bx1
    generalize (if x2 < 0 then -x2 else x2) = y2 at x20 bx2
    have by2 : Bd 201 (1 + y2) := Bd.add (Bd.small 1 (by decide) (by decide)) bx2
    refine ⟨y1, 1 + y2, rfl, x10, by omega, by2.mono (by decide), fun r2 H7 s7 nr2 er2 => ?_⟩
    have R2 := redRt (k := 1000) x10 (show 1 ≤ 1 + y2 by omega) (bx1.mono (by decide)) (by2.mono (by decide))
    have f47 := f5.trans (f6.trans (Fr.same s7))
    have eF7 := f47.l _ _ eF
    refine ⟨F, _, _, rfl, rfl, eF7, ltS (by simp), ?_⟩
    have L8 : RtL (upd H7 F (.lst ([.ref t1, .ref r1] ++ [.ref r2]))) ([.ref t1, .ref r1] ++ [.ref r2]) := (RtL.app (L4.fr f47) (RtL.one er2 R2)).keep (kp eF7)
    have hP8 : Pen (upd H7 F (.lst ([.ref t1, .ref r1] ++ [.ref r2]))) a (n + 60) := (hP3.over nF (hP6.same s7)).mono (by omega)
    have f38 : Fr H3 (upd H7 F (.lst ([.ref t1, .ref r1] ++ [.ref r2]))) := (f34.trans f47).over nF
    have eF8 := upd_same (H := H7) (a := F) (o := .lst ([.ref t1, .ref r1] ++ [.ref r2]))
    generalize upd H7 F (.lst ([.ref t1, .ref r1] ++ [.ref r2])) = H8 at L8 hP8 f38 eF8
    have l8 : ([.ref t1, .ref r1] ++ [.ref r2] : List V).length ≤ 3 := by simp
    generalize ([.ref t1, .ref r1] ++ [.ref r2] : List V) = xs8 at L8 eF8 l8
    clear eF et1 er1 L4 hP4 hP5 hP6 f34 f5 f6 s7 nr2 er2 f47 eF7
    have f08 := f03.trans f38
    have eN8 := f08.t _ _ eN
    have g18 := g1.fr f08
    have g28 := g2.fr f08
    -- the ends
    refine ⟨_, rfl, N, rfl, ⟨_, SqT.of eN8⟩, fun D nD => ?_⟩
    refine lc_tup (K := K) (a := N) (xs := [va, vb]) (fun i H' => ∃ ys : List V, H' D = some (.lst ys) ∧ ys.length ≤ i ∧ (∀ y ∈ ys, ∃ r p q, y = .ref r ∧ H8 r = some (tup2 p q) ∧ Rt 412 p q) ∧ Same H8 H') ⟨[], upd_same, Nat.le_refl _, fun _ z => (nomatch z), sm_upd nD⟩ ?_ ?_ ?_
    · rintro i H' _ ⟨_, _, _, _, s'⟩
      exact SqT.of (s' _ _ eN8)
    · rintro i x H' hx ⟨ys, eD, ld, hd, s'⟩
      obtain ⟨e, ge⟩ : ∃ e, EndV H8 412 x e := by
        have hi : i < 2 := (List.getElem?_eq_some_iff.mp hx).1
        match i, hi with
        | 0, _ => exact ⟨e1, by cases hx; exact g18⟩
        | 1, _ => exact ⟨e2, by cases hx; exact g28⟩
      match e, ge with
      | none, ge =>
        have ge : x = .non := ge
        subst ge
        exact ⟨rfl, _, rfl, rfl, _, rfl, iteF ⟨ys, eD, by omega, hd, s'⟩⟩
      | some e, ⟨re, hre, ee, Re⟩ =>
        subst hre
        refine ⟨rfl, _, rfl, rfl, _, rfl, iteT ⟨_, rfl, ys, eD, ltS (by have := (List.getElem?_eq_some_iff.mp hx).1; have : i < 2 := this; omega), ys ++ [.ref re], upd_same, by rw [List.length_append]; show ys.length + 1 ≤ i + 1; omega, fun y hy => ?_, fun b o eb => ?_⟩⟩
        · rcases List.mem_append.mp hy with h | h
          · exact hd y h
          · rw [List.mem_singleton.mp h]
            exact ⟨re, _, _, rfl, ee, Re⟩
        · rw [upd_ne (ne_of_none eb nD)]
          exact s' _ _ eb
    rintro H9 ⟨ys, eD, ld, hd, s9⟩
    have ld : ys.length ≤ 2 := ld
    refine ⟨D, rfl, ⟨_, SqL.of eD⟩, ?_⟩
    refine for_list (K := K) (a := D) (xs := ys) (fun i σ H' => ∃ (F' : Addr) (xs : List V) (y3 y4 : Option V) (Hb : Hp) (m : Nat), σ = [some (.ref a), some (.ref N), some (.ref F'), y3, y4] ∧ H' F' = some (.lst xs) ∧ RtL H' xs ∧ xs.length ≤ 3 + 3 * i ∧ Pen H' a (n + 60 + 40 * i) ∧ Fr H9 H' ∧ Hb F' = none ∧ Pen Hb a m ∧ Fr H Hb ∧ Fr Hb H') ⟨F, xs8, _, _, H3, _, rfl, s9 _ _ eF8, L8.fr (Fr.same s9), l8, hP8.same s9, Fr.refl _, nF, hP3, f03, f38.trans (Fr.same s9)⟩ ?_ ?_ ?_
    · rintro i σ H' _ ⟨_, _, _, _, _, _, _, _, _, _, _, f', _⟩
      exact SqL.of (f'.l _ _ eD)
    · rintro i x σ H' hx ⟨F', xs, y3, y4, Hb, m, rfl, eF', hL, lx, hP', f', nb, pb, fb1, fb2⟩
      have hi : i < 2 := by
        have := (List.getElem?_eq_some_iff.mp hx).1
        omega
      obtain ⟨re, p, q, rfl, ee, Re⟩ := hd x (List.mem_of_getElem? hx)
      have ee' := f'.t _ _ (s9 _ _ ee)
      refine ⟨_, rfl, a, _, _, rfl, hP', by omega, by decide, Bd.small 20 (by decide) (by decide), fun c1 H10 c10 c11 hP10 f10 => ?_⟩
      refine ⟨_, rfl, a, _, 120, 20, rfl, hP10, by omega, by decide, by decide, by decide, fun x1 H11 bx1 hP11 f11 => ?_⟩
      obtain ⟨x10, bx1⟩ := absB bx1
      refine ⟨_, rfl, ?_⟩
      generalize (if x1 < 0 then -x1 else x1) = y1 at x10 bx1
      refine ⟨len10 (by simp), fun l nl => ?_⟩
      refine ⟨_, rfl, a, _, _, rfl, hP11.new nl, by omega, by decide, Bd.small 20 (by decide) (by decide), fun d H12 d0 d1 hP12 f12 => ?_⟩
      have el := f12.l _ _ (upd_same (H := H11) (a := l) (o := .lst [.int c1, .int y1]))
      obtain ⟨x, hx, mx⟩ := at_in (xs := [.int c1, .int y1]) d0 (by show d < 2; omega)
      refine ⟨l, _, _, _, rfl, rfl, SqL.of el, hx, ?_⟩
      obtain ⟨v, rfl, v0, vb'⟩ : ∃ v, x = V.int v ∧ 0 ≤ v ∧ Bd 400 v := by
        simp only [List.mem_cons, List.not_mem_nil, or_false] at mx
        rcases mx with rfl | rfl
        · exact ⟨_, rfl, c10, Bd.small 20 (by omega) (by decide)⟩
        · exact ⟨_, rfl, x10, bx1⟩
      refine ⟨_, _, rfl, rfl, ?_⟩
      have bm : Bd 401 (1 + v) := Bd.add (Bd.small 1 (by decide) (by decide)) vb'
      have m1 : 1 ≤ 1 + v := by omega
      dsimp only
      generalize 1 + v = mm at bm m1
      have fX := f10.trans (f11.trans ((Fr.new nl).trans f12))
      have ee2 := fX.t _ _ ee'
      have q1 := Re.q1
      have bp : Bd 813 (p * mm) := Bd.mul Re.bp bm
      have bq : Bd 813 (q * mm) := Bd.mul Re.bq bm
      have pm : 0 ≤ p * mm := Int.mul_nonneg Re.p0 (by omega)
      have qm : 1 ≤ q * mm := Int.mul_pos (by omega) (by omega)
      refine ⟨_, rfl, _, rfl, ?_⟩
      refine ⟨_, rfl, re, _, _, _, rfl, rfl, SqT.of ee2, atI_nat (j := 0) rfl, _, rfl, _, _, rfl, rfl, mulW Re.bp bm (by decide) (by decide) (by decide), _, _, rfl, rfl, ?_⟩
      refine ⟨_, rfl, re, _, _, _, rfl, rfl, SqT.of ee2, atI_nat (j := 1) rfl, _, rfl, _, _, rfl, rfl, mulW Re.bq bm (by decide) (by decide) (by decide), ?_⟩
      refine ⟨p * mm + 1, q * mm, rfl, by omega, qm, bq.mono (by decide), fun r3 H13 s13 nr3 er3 => ?_⟩
      have bp1 : Bd 814 (p * mm + 1) := Bd.add bp (Bd.small 1 (by decide) (by decide))
      have R3 := redRt (k := 1000) (show 0 ≤ p * mm + 1 by omega) qm (bp1.mono (by decide)) (bq.mono (by decide))
      refine ⟨len10 (by simp), fun l2 nl2 => ?_⟩
      have zl2 := sm_upd (o := .lst [.ref re, .ref r3]) nl2
      have fY := fX.trans ((Fr.same s13).trans (Fr.same zl2))
      refine ⟨F', l2, _, _, rfl, rfl, fY.l _ _ eF', upd_same, lenS (by show xs.length + 2 ≤ _; omega), fun F2 nF2 => ?_⟩
      have zF2 := sm_upd (o := .lst (xs ++ [.ref re, .ref r3])) nF2
      have fZ := fY.trans (Fr.same zF2)
      have hPb := ((hP12.same s13).same zl2)
      have hPc := hPb.same zF2
      have eF2 := upd_same (H := upd H13 l2 (.lst [.ref re, .ref r3])) (a := F2) (o := .lst (xs ++ [.ref re, .ref r3]))
      have er3' := zF2 _ _ (zl2 _ _ er3)
      have ee3 := fZ.t _ _ ee'
      have Ln : RtL _ (xs ++ [V.ref re, V.ref r3]) := (hL.fr fZ).app (RtL.app (xs := [.ref re]) (RtL.one ee3 (Re.mono (by decide))) (RtL.one er3' R3))
      have fcd : Fr (upd H13 l2 (.lst [.ref re, .ref r3])) _ := Fr.same zF2
      generalize upd (upd H13 l2 (.lst [.ref re, .ref r3])) F2 (.lst (xs ++ [.ref re, .ref r3])) = H14 at fZ hPc eF2 ee3 Ln fcd ⊢
      have fHb := (fb1.trans fb2).trans fY
      generalize upd H13 l2 (.lst [.ref re, .ref r3]) = H13' at nF2 hPb fcd fHb fY
      have lx2 : (xs ++ [V.ref re, V.ref r3]).length ≤ 5 + 3 * i := by
        rw [List.length_append]
        show xs.length + 2 ≤ _
        omega
      generalize xs ++ [V.ref re, V.ref r3] = xs2 at eF2 Ln lx2
      refine ⟨_, rfl, .inl ⟨rfl, _, SqL.of eF2⟩, ?_⟩
      refine ⟨_, rfl, re, _, _, _, rfl, rfl, SqT.of ee3, atI_nat (j := 0) rfl, _, rfl, _, _, rfl, rfl, mulW Re.bp bm (by decide) (by decide) (by decide), _, _, rfl, rfl, _, _, rfl, ?_⟩
      obtain ⟨w0, wb⟩ := mx0 (p * mm - 1)
      have wb := wb 814 (Bd.sub bp (Bd.small 1 (by decide) (by decide)))
      generalize (if p * mm - 1 > 0 then p * mm - 1 else 0) = ww at w0 wb
      refine ⟨_, rfl, re, _, _, _, rfl, rfl, SqT.of ee3, atI_nat (j := 1) rfl, _, rfl, _, _, rfl, rfl, mulW Re.bq bm (by decide) (by decide) (by decide), ?_⟩
      refine ⟨ww, q * mm, rfl, w0, qm, bq.mono (by decide), fun r4 H15 s15 nr4 er4 => ?_⟩
      have R4 := redRt (k := 1000) w0 qm (wb.mono (by decide)) (bq.mono (by decide))
      have eF3 := s15 _ _ eF2
      refine ⟨F2, _, _, rfl, rfl, eF3, ltS (by omega), ?_⟩
      refine ⟨F2, xs2 ++ [.ref r4], _, _, H13', _, rfl, upd_same, ?_, ?_, ?_, ?_, nF2, hPb, fHb, ?_⟩
      · exact ((Ln.fr (Fr.same s15)).app (RtL.one er4 R4)).keep (kp eF3)
      · rw [List.length_append]
        show xs2.length + 1 ≤ _
        omega
      · exact (hPb.over nF2 (hPc.same s15)).mono (by omega)
      · exact (f'.trans fY).trans ((fcd.trans (Fr.same s15)).over nF2)
      · exact (fcd.trans (Fr.same s15)).over nF2
    · rintro σ H' ⟨F', xs, y3, y4, Hb, m, rfl, eF', hL, lx, hP', f', nb, pb, fb1, fb2⟩
      have fH' := fb1.trans fb2
      have eN' := fH'.t _ _ eN
      have g1' := g1.fr fH'
      have g2' := g2.fr fH'
      have sh : SeqAt.shaped (.tuple [endD e1, endD e2]) = true := by
        cases e1 <;> cases e2 <;> rfl
      have fin := kk F' H' xs eF' hL (by omega) (hP'.mono (by omega)) fH'
      refine ⟨_, rfl, .none, _, .non, Dp.tup (SqT.of eN') (.cons g1'.dp (.cons g2'.dp .nil)), rfl, sh, _, rfl, ?_⟩
      match e1, e2, g1', g2' with
      | none, _, _, _ => exact iteF ⟨_, rfl, fin⟩
      | some _, none, _, _ => exact iteF ⟨_, rfl, fin⟩
      | some (p, q), some (t, b), ⟨ra, ha, ea, Ra⟩, ⟨rb, hb, eb, Rb⟩ =>
        subst ha hb
        have ea : H' ra = some (tup2 p q) := ea
        have eb : H' rb = some (tup2 t b) := eb
        have Ra : Rt 412 p q := Ra
        have Rb : Rt 412 t b := Rb
        refine iteT ?_
        refine ⟨_, rfl, .inl ⟨rfl, _, SqL.of eF'⟩, ?_⟩
        refine ⟨_, rfl, N, _, _, _, rfl, rfl, SqT.of eN', atI_nat (j := 0) rfl, ra, _, _, _, rfl, rfl, SqT.of ea, atI_nat (j := 0) rfl, _, rfl, N, _, _, _, rfl, rfl, SqT.of eN', atI_nat (j := 1) rfl, rb, _, _, _, rfl, rfl, SqT.of eb, atI_nat (j := 0) rfl, _, _, rfl, rfl, ?_⟩
        refine ⟨_, rfl, N, _, _, _, rfl, rfl, SqT.of eN', atI_nat (j := 0) rfl, ra, _, _, _, rfl, rfl, SqT.of ea, atI_nat (j := 1) rfl, _, rfl, N, _, _, _, rfl, rfl, SqT.of eN', atI_nat (j := 1) rfl, rb, _, _, _, rfl, rfl, SqT.of eb, atI_nat (j := 1) rfl, _, _, rfl, rfl, ?_⟩
        have b1 : Bd 413 (p + t) := Bd.add Ra.bp Rb.bp
        have b2 : Bd 413 (q + b) := Bd.add Ra.bq Rb.bq
        have h0 := Ra.p0
        have h1 := Rb.p0
        have h2 := Ra.q1
        have h3 := Rb.q1
        refine ⟨p + t, q + b, rfl, by omega, by omega, b2.mono (by decide), fun r5 H16 s16 nr5 er5 => ?_⟩
        have R5 := redRt (k := 1000) (show 0 ≤ p + t by omega) (show 1 ≤ q + b by omega) (b1.mono (by decide)) (b2.mono (by decide))
        have eF5 := s16 _ _ eF'
        refine ⟨F', _, _, rfl, rfl, eF5, ltS (by omega), ?_⟩
        refine ⟨_, rfl, kk F' _ (xs ++ [.ref r5]) upd_same (((hL.fr (Fr.same s16)).app (RtL.one er5 R5)).keep (kp eF5)) ?_ ((pb.over nb (hP'.same s16)).mono (by omega)) (fb1.trans ((fb2.trans (Fr.same s16)).over nb))⟩
        rw [List.length_append]
        show xs.length + 1 ≤ 20
        omega
def spInside30 : Sp := fun vs H Q _ => ∃ (N rt : Addr) (va vb : V) (e1 e2 : Option (Int × Int)) (p q : Int), vs = [.ref N, .ref rt] ∧ H N = some (.tup [va, vb]) ∧ EndV H 412 va e1 ∧ EndV H 412 vb e2 ∧ H rt = some (tup2 p q) ∧ Rt 1000 p q ∧
  ∀ b : Bool, (b = true ↔ Ins e1 e2 p q) → Q (.bl b) H
abbrev s_l_inside : Stmt := topS 38
abbrev N_l_inside : List Str := ["_law_ends", "_law_rate"]
abbrev P_l_inside : List Str := ["_law_ends", "_law_rate"]
theorem sc_l_inside : FnScope N_l_inside P_l_inside (defScope s_l_inside) := ⟨rfl, rfl, rfl, by decide +kernel, rfl, by decide +kernel, by decide +kernel⟩
theorem ok_l_inside (D : Df K mg "_law_inside" s_l_inside P_l_inside) : C8.Cal P w K mg base 1 "_law_inside" spInside30 [] := by
  refine cal_of D sc_l_inside (fun vs H Q E h => ?_) (fun f cdv A outer s H vs Q E hr h => ?_)
  · obtain ⟨N, rt, va, vb, e1, e2, p, q, rfl, _⟩ := h
    rfl
  · obtain ⟨N, rt, va, vb, e1, e2, p, q, rfl, eN, g1, g2, er, R, kk⟩ := h
    refine ⟨_, (pss_cons (ps_if (PW.pt (pw_and (pt_cmpR op_notN (pe_ix (r := rIxT K) ix_tup (pv 0) pe_int (fun _ _ => rfl)) pe_non (nomark _)) (pw_and1 (pt_cmpR op_le (pe_op op_mulW (pe_ix (r := rIxT K) ix_tup (pv 1) pe_int (fun _ _ => rfl)) (pe_ix (r := rIxT K) ix_tup (pe_ix (r := rIxT K) ix_tup (pv 0) pe_int (fun _ _ => rfl)) pe_int (fun _ _ => rfl))) (pe_op op_mulW (pe_ix (r := rIxT K) ix_tup (pe_ix (r := rIxT K) ix_tup (pv 0) pe_int (fun _ _ => rfl)) pe_int (fun _ _ => rfl)) (pe_ix (r := rIxT K) ix_tup (pv 1) pe_int (fun _ _ => rfl))) (nomark _)))))
      (pss_one (ps_ret pe_bl))
      pss_nil)
    (pss_one (ps_ret (pe_or (pe_cmpR op_isN (pe_ix (r := rIxT K) ix_tup (pv 0) pe_int (fun _ _ => rfl)) pe_non (nomark _)) (pe_one (pe_cmpR op_lt (pe_op op_mulW (pe_ix (r := rIxT K) ix_tup (pv 1) pe_int (fun _ _ => rfl)) (pe_ix (r := rIxT K) ix_tup (pe_ix (r := rIxT K) ix_tup (pv 0) pe_int (fun _ _ => rfl)) pe_int (fun _ _ => rfl))) (pe_op op_mulW (pe_ix (r := rIxT K) ix_tup (pe_ix (r := rIxT K) ix_tup (pv 0) pe_int (fun _ _ => rfl)) pe_int (fun _ _ => rfl)) (pe_ix (r := rIxT K) ix_tup (pv 1) pe_int (fun _ _ => rfl))) (nomark _))))))), ?_⟩
    have hb : ∀ b : Bool, (∀ z, e1 = some z → z.1 * q < p * z.2) → (b = true ↔ ∀ z, e2 = some z → p * z.2 < z.1 * q) → Q (.bl b) H := fun b h1 h2 => kk b (by
      unfold Ins
      rw [h2]
      exact ⟨fun h => ⟨h1, h⟩, fun h => h.2⟩)
    refine ⟨_, rfl, N, _, _, _, rfl, rfl, SqT.of eN, atI_nat (j := 0) rfl, rfl, _, rfl, ?_⟩
    match e1, g1, kk, hb with
    | none, g1, kk, hb =>
      have g1 : va = .non := g1
      subst g1
      refine iteF (iteF ?_)
      refine ⟨_, rfl, N, _, _, _, rfl, rfl, SqT.of eN, atI_nat (j := 1) rfl, rfl, _, rfl, ?_⟩
      match e2, g2, hb with
      | none, g2, hb =>
        have g2 : vb = .non := g2
        subst g2
        exact iteT (hb true (fun _ z => (nomatch z)) ⟨fun _ _ z => (nomatch z), fun _ => rfl⟩)
      | some (t, b), ⟨rb, h2, eb, Rb⟩, hb =>
        subst h2
        have eb : H rb = some (tup2 t b) := eb
        refine iteF ⟨_, rfl, rt, _, _, _, rfl, rfl, SqT.of er, atI_nat (j := 0) rfl, _, rfl, N, _, _, _, rfl, rfl, SqT.of eN, atI_nat (j := 1) rfl, rb, _, _, _, rfl, rfl, SqT.of eb, atI_nat (j := 1) rfl, _, _, rfl, rfl, mulW R.bp Rb.bq (by decide) (by decide) (by decide), _, rfl, N, _, _, _, rfl, rfl, SqT.of eN, atI_nat (j := 1) rfl, rb, _, _, _, rfl, rfl, SqT.of eb, atI_nat (j := 0) rfl, _, rfl, rt, _, _, _, rfl, rfl, SqT.of er, atI_nat (j := 1) rfl, _, _, rfl, rfl, mulW Rb.bp R.bq (by decide) (by decide) (by decide), _, _, rfl, rfl, ?_⟩
        exact hb _ (fun _ z => (nomatch z)) ⟨fun h z e => by cases e; exact of_decide_eq_true h, fun h => decide_eq_true (h _ rfl)⟩
    | some (l, d), ⟨ra, h1, ea, Ra⟩, kk, hb =>
      subst h1
      have ea : H ra = some (tup2 l d) := ea
      have Ra : Rt 412 l d := Ra
      refine iteT ⟨_, rfl, rt, _, _, _, rfl, rfl, SqT.of er, atI_nat (j := 0) rfl, _, rfl, N, _, _, _, rfl, rfl, SqT.of eN, atI_nat (j := 0) rfl, ra, _, _, _, rfl, rfl, SqT.of ea, atI_nat (j := 1) rfl, _, _, rfl, rfl, mulW R.bp Ra.bq (by decide) (by decide) (by decide), _, rfl, N, _, _, _, rfl, rfl, SqT.of eN, atI_nat (j := 0) rfl, ra, _, _, _, rfl, rfl, SqT.of ea, atI_nat (j := 0) rfl, _, rfl, rt, _, _, _, rfl, rfl, SqT.of er, atI_nat (j := 1) rfl, _, _, rfl, rfl, mulW Ra.bp R.bq (by decide) (by decide) (by decide), _, _, rfl, rfl, _, rfl, ite2 (fun c => ?_) (fun c => ?_)⟩
      · have c : p * d ≤ l * q := of_decide_eq_true c
        refine kk false ⟨fun z => (nomatch z), fun z => ?_⟩
        have : l * q < p * d := z.1 _ rfl
        omega
      · have c : ¬ p * d ≤ l * q := fun h => c (decide_eq_true h)
        have lo1 : ∀ z, some (l, d) = some z → z.1 * q < p * z.2 := fun z e => by
          cases e
          show l * q < p * d
          omega
        refine ⟨_, rfl, N, _, _, _, rfl, rfl, SqT.of eN, atI_nat (j := 1) rfl, rfl, _, rfl, ?_⟩
        match e2, g2, hb with
        | none, g2, hb =>
          have g2 : vb = .non := g2
          subst g2
          exact iteT (hb true lo1 ⟨fun _ _ z => (nomatch z), fun _ => rfl⟩)
        | some (t, b), ⟨rb, h2, eb, Rb⟩, hb =>
          subst h2
          have eb : H rb = some (tup2 t b) := eb
          refine iteF ⟨_, rfl, rt, _, _, _, rfl, rfl, SqT.of er, atI_nat (j := 0) rfl, _, rfl, N, _, _, _, rfl, rfl, SqT.of eN, atI_nat (j := 1) rfl, rb, _, _, _, rfl, rfl, SqT.of eb, atI_nat (j := 1) rfl, _, _, rfl, rfl, mulW R.bp Rb.bq (by decide) (by decide) (by decide), _, rfl, N, _, _, _, rfl, rfl, SqT.of eN, atI_nat (j := 1) rfl, rb, _, _, _, rfl, rfl, SqT.of eb, atI_nat (j := 0) rfl, _, rfl, rt, _, _, _, rfl, rfl, SqT.of er, atI_nat (j := 1) rfl, _, _, rfl, rfl, mulW Rb.bp R.bq (by decide) (by decide) (by decide), _, _, rfl, rfl, ?_⟩
          exact hb _ lo1 ⟨fun h z e => by cases e; exact of_decide_eq_true h, fun h => decide_eq_true (h _ rfl)⟩
end
end Lf
namespace Lf
open PySem PySem.Spec PyProof.Rows L2
/-- two rules that are the same are not different -/
theorem ne3 {K : PySem.W.Frag} {H : Hp} {r1 r2 : Addr} {p q c p' q' c' : Int} {Q : V → Hp → Prop} (e1 : H r1 = some (.tup [.int p, .int q, .int c])) (e2 : H r2 = some (.tup [.int p', .int q', .int c'])) (hp : p = p') (hq : q = q') (hc : c = c') (h : Q (.bl false) H) : rNeD K (.ref r1) (.ref r2) H Q := by
  subst hp hq hc
  refine ⟨.tuple [.int p, .int q, .int c], .tuple [.int p, .int q, .int c], Dp.tup (SqT.of e1) (.cons (.int p) (.cons (.int q) (.cons (.int c) .nil))), Dp.tup (SqT.of e2) (.cons (.int p) (.cons (.int q) (.cons (.int c) .nil))), rfl, rfl, ?_⟩
  rw [SeqAt.eqv_refl _ rfl]
  exact h
theorem logR {k : Nat} {i : Int} (h : Bd k i) (hk : k ≤ 1920) : i.natAbs.log2 < 1920 := (h.mono hk).log (by decide)
def spLaw (K : PySem.W.Frag) : Sp := fun vs H Q _ => ∃ (a : Addr) (ns : List Int), vs = [.ref a] ∧ SqL K H a (ns.map V.int) ∧ ns.length ≤ 63 ∧ ∀ H', Q (.bl true) H'
end Lf
namespace Lf
open PySem PySem.Spec PyProof.Rows L2
theorem mn4 (x : Int) (h : 0 ≤ x) : 0 ≤ (if x < 4 then x else 4) ∧ (if x < 4 then x else 4) ≤ 4 := by
  by_cases z : x < 4
  · rw [if_pos z]
    omega
  · rw [if_neg z]
    omega
section
variable {P : Program} {w : World} {K : PySem.W.Frag} {mg : Str → Option Value} {base : Heap}
abbrev s_law : Stmt := topS 39
abbrev N_law : List Str := ["_law_script", "_law_pen_here", "_law_turn", "_law_offs", "_law_records_here", "_law_ends", "_law_rate", "_law_due"]
abbrev P_law : List Str := ["_law_script"]
theorem sc_law : FnScope N_law P_law (defScope s_law) := ⟨rfl, rfl, rfl, by decide +kernel, rfl, by decide +kernel, by decide +kernel⟩
theorem ok_law {f : Addr} {fd : FuncData} (F : Fun K "law" "law" s_law f fd) (B : Bi mg) (c_l_pen : C8.Cal P w K mg base 1 "_law_pen" (spPen K) []) (c_l_pick : C8.Cal P w K mg base 2 "_law_pick" spPick []) (c_l_records : C8.Cal P w K mg base 5 "_law_records" spRecs30 []) (c_rates : C8.Cal P w K mg base 4 "rates" (spRateEnds 200) []) (c_phases : C8.Cal P w K mg base 4 "phases" spPhases [])
    (c_l_tried : C8.Cal P w K mg base 3 "_law_tried" spTried []) (c_l_inside : C8.Cal P w K mg base 1 "_law_inside" spInside30 []) : FnOk P w K mg base CX0 6 f fd P_law (spLaw K) := by
  refine F.ok sc_law (fun vs H Q E h => ?_) (fun cdv A outer s H vs Q E hr h => ?_)
  · obtain ⟨a, ns, rfl, _⟩ := h
    rfl
  · obtain ⟨sc, ns, rfl, hS, hlen, kk⟩ := h
    refine ⟨_, (pss_cons (ps_set (i := 1) sc_law.nd rfl (Or.inl rfl) (C8.pe_c c_l_pen hr (by decide) (by rfl) (pa_cons (pv 0) pa_nil)))
    (pss_cons (ps_for PassesOwn.never rfl (pi_range1 rfl B.range_ (pa_cons (pe_op op_add pe_int (pe_callB (call_min2 rfl) (by rfl) B.min_ bt_min (pa_cons pe_int (pa_cons (pe_callB (call_len_seq) (by rfl) B.len_ bt_len (pa_cons (pv 0) pa_nil)) pa_nil)))) pa_nil)) (pg_name (i := 2) sc_law.nd rfl (Or.inl rfl))
      (pss_cons (ps_set (i := 3) sc_law.nd rfl (Or.inl rfl) (C8.pe_c c_l_pick hr (by decide) (by rfl) (pa_cons (pv 1) (pa_cons (pe_lst (pa_cons (pe_lst (pa_cons pe_int (pa_cons pe_int (pa_cons pe_int (pa_cons pe_int (pa_cons pe_int (pa_cons pe_int (pa_cons (pe_un un_neg pe_int) pa_nil)))))))) (pa_cons (pe_lst (pa_cons pe_int (pa_cons pe_int (pa_cons (pe_un un_neg pe_int) (pa_cons (pe_un un_neg pe_int) pa_nil))))) pa_nil))) pa_nil))))
    (pss_cons (ps_set (i := 4) sc_law.nd rfl (Or.inl rfl) (C8.pe_c c_l_records hr (by decide) (by rfl) (pa_cons (pv 1) (pa_cons (C8.pe_c c_l_pick hr (by decide) (by rfl) (pa_cons (pv 1) (pa_cons (pe_lst (pa_cons pe_int (pa_cons pe_int (pa_cons pe_int pa_nil)))) pa_nil))) (pa_cons (pv 3) (pa_cons pe_int pa_nil))))))
    (pss_cons (ps_set (i := 5) sc_law.nd rfl (Or.inl rfl) (C8.pe_c c_rates hr (by decide) (by rfl) (pa_cons (pv 4) pa_nil)))
    (pss_one (ps_for PassesOwn.never rfl (pi_list (C8.pe_c c_l_tried hr (by decide) (by rfl) (pa_cons (pv 1) (pa_cons (pe_ifExp (pt_cmpR op_isN (pv 5) pe_non (nomark _)) (pe_tup (pa_cons pe_non (pa_cons pe_non pa_nil))) (pv 5)) pa_nil)))) (pg_name (i := 6) sc_law.nd rfl (Or.inl rfl))
      (C8.pss_cut (ps_set (i := 7) sc_law.nd rfl (Or.inl rfl) (pe_and (pe_cmpR op_notN (pv 5) pe_non (nomark _)) (pe_one (C8.pe_c c_l_inside hr (by decide) (by rfl) (pa_cons (pv 5) (pa_cons (pv 6) pa_nil))))))
    (pss_one (ps_if (pt_cmpR op_ne (pe_cmpR op_notN (C8.pe_c c_phases hr (by decide) (by rfl) (pa_cons (pv 4) (pa_cons (pv 6) pa_nil))) pe_non (nomark _)) (pv 7) (nomark _))
      (pss_one (ps_ret pe_bl))
      pss_nil)))))))))
    (pss_one (ps_ret pe_bl)))), ?_⟩
    refine ⟨_, rfl, sc, ns, rfl, hS, fun a H0 hP0 s0 => ?_⟩
    refine ⟨_, rfl, sc, _, rfl, .inl (s0.seq hS), _, _, rfl, _, _, rfl, rfl, _, rfl, ?_⟩
    obtain ⟨m0, m1⟩ := mn4 ((ns.map V.int).length : Int) (by omega)
    refine ⟨by omega, by omega, ?_⟩
    refine for_range (lo := 0) (n := (3 + (if ((ns.map V.int).length : Int) < 4 then ((ns.map V.int).length : Int) else 4)).toNat) (fun i σ H1 => ∃ (y2 y3 y4 y5 y6 y7 : Option V), σ = [some (.ref sc), some (.ref a), y2, y3, y4, y5, y6, y7] ∧ Pen H1 a (12000 * i)) ⟨_, _, _, _, _, _, rfl, hP0⟩ ?_ ?_
    · rintro i σ H1 hi ⟨y2, y3, y4, y5, y6, y7, rfl, hP1⟩
      refine ⟨_, rfl, 1, rfl, len10 (by simp), fun o1 no1 => ⟨1, rfl, 3, rfl, len10 (by simp), fun o2 no2 => ⟨len10 (by simp), fun l2 nl2 => ?_⟩⟩⟩
      have so1 := sm_upd (o := .lst [.int 0, .int 0, .int 0, .int 0, .int 1, .int 2, .int (-1)]) no1
      have so2 := sm_upd (o := .lst [.int 0, .int 0, .int (-1), .int (-3)]) no2
      have so3 := sm_upd (o := .lst [.ref o1, .ref o2]) nl2
      have e1 := so3 _ _ (so2 _ _ (upd_same (H := H1) (a := o1) (o := .lst [.int 0, .int 0, .int 0, .int 0, .int 1, .int 2, .int (-1)])))
      have e2 := so3 _ _ (upd_same (H := upd H1 o1 (.lst [.int 0, .int 0, .int 0, .int 0, .int 1, .int 2, .int (-1)])) (a := o2) (o := .lst [.int 0, .int 0, .int (-1), .int (-3)]))
      refine ⟨a, l2, _, _, rfl, hP1.same ((so1.trans so2).trans so3), by omega, upd_same, by simp, by simp, fun y H5 hy hP5 f5 => ?_⟩
      obtain ⟨O, offs, rfl, eO, on0, ol, ob⟩ : ∃ (O : Addr) (offs : List Int), y = .ref O ∧ H5 O = some (.lst (offs.map V.int)) ∧ offs ≠ [] ∧ offs.length ≤ 1000 ∧ ∀ z ∈ offs, Bd 200 z := by
        simp only [List.mem_cons, List.not_mem_nil, or_false] at hy
        rcases hy with rfl | rfl
        · refine ⟨o1, [0, 0, 0, 0, 1, 2, -1], rfl, f5.l _ _ e1, by simp, by simp, fun z hz => ?_⟩
          simp only [List.mem_cons, List.not_mem_nil, or_false] at hz
          rcases hz with rfl | rfl | rfl | rfl | rfl | rfl | rfl <;> exact Bd.small 10 (by decide) (by decide)
        · refine ⟨o2, [0, 0, -1, -3], rfl, f5.l _ _ e2, by simp, by simp, fun z hz => ?_⟩
          simp only [List.mem_cons, List.not_mem_nil, or_false] at hz
          rcases hz with rfl | rfl | rfl | rfl <;> exact Bd.small 10 (by decide) (by decide)
      -- the records
      refine ⟨_, rfl, _, rfl, len10 (by simp), fun l nl => ?_⟩
      refine ⟨a, l, _, _, rfl, hP5.new nl, by omega, upd_same, by simp, by simp, fun x H6 hx hP6 f6 => ?_⟩
      obtain ⟨mn, rfl, mn1, mn2⟩ : ∃ mn, x = V.int mn ∧ 0 ≤ mn ∧ mn ≤ 150 := by
        simp only [List.mem_cons, List.not_mem_nil, or_false] at hx
        rcases hx with rfl | rfl | rfl <;> exact ⟨_, rfl, by omega, by omega⟩
      have eO6 := f6.l _ _ ((Fr.new nl).l _ _ eO)
      refine ⟨_, rfl, a, _, O, mn, offs, 60, 10, rfl, hP6, by omega, mn1, by omega, eO6, on0, ol, ob, by decide, by decide, by decide, fun L H7 xs ds eL hO hl bd hP7 f7 => ?_⟩
      have bd : RcB 410 ds := bd
      have hl : ds.length ≤ 200 := by omega
      refine ⟨_, rfl, L, xs, ds, 410, rfl, eL, hO, hl, bd, by decide, by decide, fun H8 v lo up s8 hlo hup bl bu rv => ?_⟩
      have eL8 := s8 _ _ eL
      have hO8 := hO.same s8
      have hP8 : Pen H8 a (12000 * i + 10010) := (hP7.same s8).mono (by omega)
      clear e1 e2 so1 so2 so3 hP1 hP5 hP6 hP7 f5 f6 f7 eO eO6 hy hx eL hO s8
      -- the rates to try
      refine ⟨_, rfl, _, rfl, rfl, _, rfl, ?_⟩
      have rel8 : ∀ {H9 : Hp}, Same H8 H9 → RV H9 410 v lo up := fun {H9} s9 => by
        rcases rv with ⟨h1, h2⟩ | ⟨h1, T, x, y, h2, h3, h4, h5⟩
        · exact .inl ⟨h1, h2⟩
        · exact .inr ⟨h1, T, x, y, h2, s9 _ _ h3, h4.sm s9, h5.sm s9⟩
      have hr2 : ¬ v = .non → ∃ N x y, v = .ref N ∧ H8 N = some (.tup [x, y]) ∧ EndV H8 412 x (lowE lo) ∧ EndV H8 412 y (highE up) := fun hv => by
        rcases rv with ⟨_, h2⟩ | ⟨_, h⟩
        · exact absurd h2 hv
        · exact h
      refine ite2 (fun e => ⟨len10 (by simp), fun N nN => (fun (s9 : Same H8 (upd H8 N (.tup [.non, .non]))) (hN : [V.ref a.d, .ref N] = [.ref a.d, .ref N]) (eN : upd H8 N (.tup [.non, .non]) N = some (.tup [.non, .non])) (c1 c2 : Option (Int × Int)) (g1 : EndV (upd H8 N (.tup [.non, .non])) 412 .non c1) (g2 : EndV (upd H8 N (.tup [.non, .non])) 412 .non c2) => ?tw1) (sm_upd nN) rfl upd_same none none rfl rfl⟩)
        (fun e => (hr2 (fun z => e (decide_eq_true z))).elim fun N h => h.elim fun x h => h.elim fun y h => ⟨_, rfl, (fun (s9 : Same H8 H8) (hN : [V.ref a.d, v] = [.ref a.d, .ref N]) (eN : H8 N = some (.tup [x, y])) (c1 c2 : Option (Int × Int)) (g1 : EndV H8 412 x c1) (g2 : EndV H8 412 y c2) => ?tw2) (Same.refl _) (by rw [h.1]) h.2.1 (lowE lo) (highE up) h.2.2.1 h.2.2.2⟩)
      case tw1 | tw2 =>
        refine ⟨a, 12000 * i + 10010, _, _, _, c1, c2, hN, hP8.same s9, by omega, eN, g1, g2, fun F H10 ys eF hL ly hP10 f10 => ?_⟩
        have f8 : Fr H8 H10 := (Fr.same s9).trans f10
        refine ⟨F, rfl, ⟨_, SqL.of eF⟩, ?_⟩
        refine for_list (K := K) (a := F) (xs := ys) (fun m σ H' => ∃ (w6 w7 : Option V), σ = [some (.ref sc), some (.ref a), some (.int (0 + (i : Int))), some (.ref O), some (.ref L), some v, w6, w7] ∧ Same H10 H') ⟨_, _, rfl, Same.refl _⟩ ?_ ?_ ?_
        · rintro m σ H' _ ⟨_, _, _, s'⟩
          exact SqL.of (s' _ _ eF)
        · rintro m x σ H' hx ⟨w6, w7, rfl, s'⟩
          obtain ⟨rt, p, q, rfl, ert, R⟩ := hL x (List.mem_of_getElem? hx)
          have ert := s' _ _ ert
          have fH : Fr H8 H' := f8.trans (Fr.same s')
          have eL' := fH.l _ _ eL8
          have hO' := hO8.fr fH
          -- due
          refine ⟨fun σ' H'' => ∃ due : Bool, σ' = [some (.ref sc), some (.ref a), some (.int (0 + (i : Int))), some (.ref O), some (.ref L), some v, some (.ref rt), some (.bl due)] ∧ H'' = H' ∧ (due = true ↔ RateIn lo up p q), ?_, ?_⟩
          · refine ⟨_, rfl, rfl, _, rfl, ?_⟩
            rcases rv with ⟨h1, h2⟩ | ⟨h1, T, x, y, h2, h3, h4, h5⟩
            · subst h2
              refine iteF ⟨false, rfl, rfl, fun z => (nomatch z), fun z => absurd z (nr_none R.p0 R.q1 hlo hup h1)⟩
            · subst h2
              refine iteT ⟨_, rfl, _, rfl, T, rt, x, y, lowE lo, highE up, p, q, rfl, fH.t _ _ h3, h4.fr fH, h5.fr fH, ert, R, fun b hb => ?_⟩
              exact ⟨b, rfl, rfl, hb.trans (ins_iff R.p0 R.q1 hlo hup)⟩
          · rintro σ' H'' ⟨due, rfl, rfl, hdue⟩
            refine ⟨_, rfl, _, rfl, L, rt, xs, ds, p, q, 1000, rfl, eL', hO', hl, ert, bd.mono (by decide), R, by decide, by decide, fun H11 b1 b2 v' s11 ha hb hv' => ?_⟩
            have key : okPh b1 b2 = due := by
              have h := (ph_iff ha hb).trans (rate_iff R.p0 R.q1 hlo hup)
              rw [Bool.eq_iff_iff]
              exact h.trans hdue.symm
            refine ⟨rfl, _, rfl, rfl, _, rfl, iteNS ?_ ?_⟩
            · rcases hv' with ⟨h1, rfl⟩ | ⟨h1, T, rfl, _, _⟩
              · rw [← key, h1]
                rfl
              · rw [← key, h1]
                rfl
            · exact ⟨_, _, rfl, s'.trans s11⟩
        · rintro σ H' ⟨w6, w7, rfl, s'⟩
          exact ⟨_, _, _, _, _, _, rfl, (hP10.same s').mono (by omega)⟩
    · rintro σ H1 _
      exact kk _
end
/-! ### what the top has written -/
theorem all_mk {l : PySem.W.OpenLaw} {w : World} {K : PySem.W.Frag} {h : Heap} {mg : Str → Option Value} {fa : Addr} (X : K.In h) (G : h.Ns mainGlobals mg) (hfa : mg "law" = some (.ref fa))
    {f0 f1 f2 f3 f4 f5 f6 f7 f8 f9 f10 f11 f12 f13 f14 f15 f16 f17 f18 f19 f20 f21 f22 f23 f24 f25 f26 f27 f28 f29 : Addr} {od0 an0 od1 an1 od2 an2 od3 an3 od4 an4 od5 an5 od6 an6 od7 an7 od8 an8 od9 an9 od10 an10 od11 an11 od12 an12 od13 an13 od14 an14 od15 an15 od16 an16 od17 an17 od18 an18 od19 an19 od20 an20 od21 an21 od22 an22 od23 an23 od24 an24 od25 an25 od26 an26 od27 an27 od28 an28 od29 an29 : Option Addr} {sl0 sl1 sl2 sl3 sl4 sl5 sl6 sl7 sl8 sl9 sl10 sl11 sl12 sl13 sl14 sl15 sl16 sl17 sl18 sl19 sl20 sl21 sl22 sl23 sl24 sl25 sl26 sl27 sl28 sl29 : Array (Option Value)} {oc0 kV0 dc0 pm0 cd0 ct0 oc1 kV1 dc1 pm1 cd1 ct1 oc2 kV2 dc2 pm2 cd2 ct2 oc3 kV3 dc3 pm3 cd3 ct3 oc4 kV4 dc4 pm4 cd4 ct4 oc5 kV5 dc5 pm5 cd5 ct5 oc6 kV6 dc6 pm6 cd6 ct6 oc7 kV7 dc7 pm7 cd7 ct7 oc8 kV8 dc8 pm8 cd8 ct8 oc9 kV9 dc9 pm9 cd9 ct9 oc10 kV10 dc10 pm10 cd10 ct10 oc11 kV11 dc11 pm11 cd11 ct11 oc12 kV12 dc12 pm12 cd12 ct12 oc13 kV13 dc13 pm13 cd13 ct13 oc14 kV14 dc14 pm14 cd14 ct14 oc15 kV15 dc15 pm15 cd15 ct15 oc16 kV16 dc16 pm16 cd16 ct16 oc17 kV17 dc17 pm17 cd17 ct17 oc18 kV18 dc18 pm18 cd18 ct18 oc19 kV19 dc19 pm19 cd19 ct19 oc20 kV20 dc20 pm20 cd20 ct20 oc21 kV21 dc21 pm21 cd21 ct21 oc22 kV22 dc22 pm22 cd22 ct22 oc23 kV23 dc23 pm23 cd23 ct23 oc24 kV24 dc24 pm24 cd24 ct24 oc25 kV25 dc25 pm25 cd25 ct25 oc26 kV26 dc26 pm26 cd26 ct26 oc27 kV27 dc27 pm27 cd27 ct27 oc28 kV28 dc28 pm28 cd28 ct28 oc29 kV29 dc29 pm29 cd29 ct29 : Value}
    (a0 : PySem.W.nsIn K mainGlobals "_law_pen" = some (some (.ref f0))) (l0 : K.lookup f0 = some ⟨oc0, od0, .func (PySem.W.fnOf "_law_pen" "_law_pen" (defArgs s_l_pen) (defBody s_l_pen) (defScope s_l_pen) .none kV0 dc0 pm0 an0 cd0 ct0), sl0⟩) (c0 : PySem.W.codeIn K cd0 "_law_pen" = true) (k0 : PySem.W.keepIn K (.ref f0) = true)
    (a1 : PySem.W.nsIn K mainGlobals "_law_draw" = some (some (.ref f1))) (l1 : K.lookup f1 = some ⟨oc1, od1, .func (PySem.W.fnOf "_law_draw" "_law_draw" (defArgs s_l_draw) (defBody s_l_draw) (defScope s_l_draw) .none kV1 dc1 pm1 an1 cd1 ct1), sl1⟩) (c1 : PySem.W.codeIn K cd1 "_law_draw" = true) (k1 : PySem.W.keepIn K (.ref f1) = true)
    (a2 : PySem.W.nsIn K mainGlobals "_law_pick" = some (some (.ref f2))) (l2 : K.lookup f2 = some ⟨oc2, od2, .func (PySem.W.fnOf "_law_pick" "_law_pick" (defArgs s_l_pick) (defBody s_l_pick) (defScope s_l_pick) .none kV2 dc2 pm2 an2 cd2 ct2), sl2⟩) (c2 : PySem.W.codeIn K cd2 "_law_pick" = true) (k2 : PySem.W.keepIn K (.ref f2) = true)
    (a3 : PySem.W.nsIn K mainGlobals "_law_gcd" = some (some (.ref f3))) (l3 : K.lookup f3 = some ⟨oc3, od3, .func (PySem.W.fnOf "_law_gcd" "_law_gcd" (defArgs s_l_gcd) (defBody s_l_gcd) (defScope s_l_gcd) .none kV3 dc3 pm3 an3 cd3 ct3), sl3⟩) (c3 : PySem.W.codeIn K cd3 "_law_gcd" = true) (k3 : PySem.W.keepIn K (.ref f3) = true)
    (a4 : PySem.W.nsIn K mainGlobals "is_integer" = some (some (.ref f4))) (l4 : K.lookup f4 = some ⟨oc4, od4, .func (PySem.W.fnOf "is_integer" "is_integer" (defArgs s_is_integer) (defBody s_is_integer) (defScope s_is_integer) .none kV4 dc4 pm4 an4 cd4 ct4), sl4⟩) (c4 : PySem.W.codeIn K cd4 "is_integer" = true) (k4 : PySem.W.keepIn K (.ref f4) = true)
    (a5 : PySem.W.nsIn K mainGlobals "gcd" = some (some (.ref f5))) (l5 : K.lookup f5 = some ⟨oc5, od5, .func (PySem.W.fnOf "gcd" "gcd" (defArgs s_gcd) (defBody s_gcd) (defScope s_gcd) .none kV5 dc5 pm5 an5 cd5 ct5), sl5⟩) (c5 : PySem.W.codeIn K cd5 "gcd" = true) (k5 : PySem.W.keepIn K (.ref f5) = true)
    (a6 : PySem.W.nsIn K mainGlobals "is_rate" = some (some (.ref f6))) (l6 : K.lookup f6 = some ⟨oc6, od6, .func (PySem.W.fnOf "is_rate" "is_rate" (defArgs s_is_rate) (defBody s_is_rate) (defScope s_is_rate) .none kV6 dc6 pm6 an6 cd6 ct6), sl6⟩) (c6 : PySem.W.codeIn K cd6 "is_rate" = true) (k6 : PySem.W.keepIn K (.ref f6) = true)
    (a7 : PySem.W.nsIn K mainGlobals "check_rate" = some (some (.ref f7))) (l7 : K.lookup f7 = some ⟨oc7, od7, .func (PySem.W.fnOf "check_rate" "check_rate" (defArgs s_check_rate) (defBody s_check_rate) (defScope s_check_rate) .none kV7 dc7 pm7 an7 cd7 ct7), sl7⟩) (c7 : PySem.W.codeIn K cd7 "check_rate" = true) (k7 : PySem.W.keepIn K (.ref f7) = true)
    (a8 : PySem.W.nsIn K mainGlobals "is_record" = some (some (.ref f8))) (l8 : K.lookup f8 = some ⟨oc8, od8, .func (PySem.W.fnOf "is_record" "is_record" (defArgs s_is_record) (defBody s_is_record) (defScope s_is_record) .none kV8 dc8 pm8 an8 cd8 ct8), sl8⟩) (c8 : PySem.W.codeIn K cd8 "is_record" = true) (k8 : PySem.W.keepIn K (.ref f8) = true)
    (a9 : PySem.W.nsIn K mainGlobals "check_records" = some (some (.ref f9))) (l9 : K.lookup f9 = some ⟨oc9, od9, .func (PySem.W.fnOf "check_records" "check_records" (defArgs s_check_records) (defBody s_check_records) (defScope s_check_records) .none kV9 dc9 pm9 an9 cd9 ct9), sl9⟩) (c9 : PySem.W.codeIn K cd9 "check_records" = true) (k9 : PySem.W.keepIn K (.ref f9) = true)
    (a10 : PySem.W.nsIn K mainGlobals "split_records" = some (some (.ref f10))) (l10 : K.lookup f10 = some ⟨oc10, od10, .func (PySem.W.fnOf "split_records" "split_records" (defArgs s_split_records) (defBody s_split_records) (defScope s_split_records) .none kV10 dc10 pm10 an10 cd10 ct10), sl10⟩) (c10 : PySem.W.codeIn K cd10 "split_records" = true) (k10 : PySem.W.keepIn K (.ref f10) = true)
    (a11 : PySem.W.nsIn K mainGlobals "tighter_pairs" = some (some (.ref f11))) (l11 : K.lookup f11 = some ⟨oc11, od11, .func (PySem.W.fnOf "tighter_pairs" "tighter_pairs" (defArgs s_tighter_pairs) (defBody s_tighter_pairs) (defScope s_tighter_pairs) .none kV11 dc11 pm11 an11 cd11 ct11), sl11⟩) (c11 : PySem.W.codeIn K cd11 "tighter_pairs" = true) (k11 : PySem.W.keepIn K (.ref f11) = true)
    (a12 : PySem.W.nsIn K mainGlobals "reduce_rate" = some (some (.ref f12))) (l12 : K.lookup f12 = some ⟨oc12, od12, .func (PySem.W.fnOf "reduce_rate" "reduce_rate" (defArgs s_reduce_rate) (defBody s_reduce_rate) (defScope s_reduce_rate) .none kV12 dc12 pm12 an12 cd12 ct12), sl12⟩) (c12 : PySem.W.codeIn K cd12 "reduce_rate" = true) (k12 : PySem.W.keepIn K (.ref f12) = true)
    (a13 : PySem.W.nsIn K mainGlobals "tight_pairs" = some (some (.ref f13))) (l13 : K.lookup f13 = some ⟨oc13, od13, .func (PySem.W.fnOf "tight_pairs" "tight_pairs" (defArgs s_tight_pairs) (defBody s_tight_pairs) (defScope s_tight_pairs) .none kV13 dc13 pm13 an13 cd13 ct13), sl13⟩) (c13 : PySem.W.codeIn K cd13 "tight_pairs" = true) (k13 : PySem.W.keepIn K (.ref f13) = true)
    (a14 : PySem.W.nsIn K mainGlobals "leave_no_rate" = some (some (.ref f14))) (l14 : K.lookup f14 = some ⟨oc14, od14, .func (PySem.W.fnOf "leave_no_rate" "leave_no_rate" (defArgs s_leave_no_rate) (defBody s_leave_no_rate) (defScope s_leave_no_rate) .none kV14 dc14 pm14 an14 cd14 ct14), sl14⟩) (c14 : PySem.W.codeIn K cd14 "leave_no_rate" = true) (k14 : PySem.W.keepIn K (.ref f14) = true)
    (a15 : PySem.W.nsIn K mainGlobals "rate_ends" = some (some (.ref f15))) (l15 : K.lookup f15 = some ⟨oc15, od15, .func (PySem.W.fnOf "rate_ends" "rate_ends" (defArgs s_rate_ends) (defBody s_rate_ends) (defScope s_rate_ends) .none kV15 dc15 pm15 an15 cd15 ct15), sl15⟩) (c15 : PySem.W.codeIn K cd15 "rate_ends" = true) (k15 : PySem.W.keepIn K (.ref f15) = true)
    (a16 : PySem.W.nsIn K mainGlobals "rates" = some (some (.ref f16))) (l16 : K.lookup f16 = some ⟨oc16, od16, .func (PySem.W.fnOf "rates" "rates" (defArgs s_rates) (defBody s_rates) (defScope s_rates) .none kV16 dc16 pm16 an16 cd16 ct16), sl16⟩) (c16 : PySem.W.codeIn K cd16 "rates" = true) (k16 : PySem.W.keepIn K (.ref f16) = true)
    (a17 : PySem.W.nsIn K mainGlobals "phase_ends" = some (some (.ref f17))) (l17 : K.lookup f17 = some ⟨oc17, od17, .func (PySem.W.fnOf "phase_ends" "phase_ends" (defArgs s_phase_ends) (defBody s_phase_ends) (defScope s_phase_ends) .none kV17 dc17 pm17 an17 cd17 ct17), sl17⟩) (c17 : PySem.W.codeIn K cd17 "phase_ends" = true) (k17 : PySem.W.keepIn K (.ref f17) = true)
    (a18 : PySem.W.nsIn K mainGlobals "rate_fits" = some (some (.ref f18))) (l18 : K.lookup f18 = some ⟨oc18, od18, .func (PySem.W.fnOf "rate_fits" "rate_fits" (defArgs s_rate_fits) (defBody s_rate_fits) (defScope s_rate_fits) .none kV18 dc18 pm18 an18 cd18 ct18), sl18⟩) (c18 : PySem.W.codeIn K cd18 "rate_fits" = true) (k18 : PySem.W.keepIn K (.ref f18) = true)
    (a19 : PySem.W.nsIn K mainGlobals "phases" = some (some (.ref f19))) (l19 : K.lookup f19 = some ⟨oc19, od19, .func (PySem.W.fnOf "phases" "phases" (defArgs s_phases) (defBody s_phases) (defScope s_phases) .none kV19 dc19 pm19 an19 cd19 ct19), sl19⟩) (c19 : PySem.W.codeIn K cd19 "phases" = true) (k19 : PySem.W.keepIn K (.ref f19) = true)
    (a20 : PySem.W.nsIn K mainGlobals "_law_far" = some (some (.ref f20))) (l20 : K.lookup f20 = some ⟨oc20, od20, .func (PySem.W.fnOf "_law_far" "_law_far" (defArgs s_l_far) (defBody s_l_far) (defScope s_l_far) .none kV20 dc20 pm20 an20 cd20 ct20), sl20⟩) (c20 : PySem.W.codeIn K cd20 "_law_far" = true) (k20 : PySem.W.keepIn K (.ref f20) = true)
    (a21 : PySem.W.nsIn K mainGlobals "_law_rule" = some (some (.ref f21))) (l21 : K.lookup f21 = some ⟨oc21, od21, .func (PySem.W.fnOf "_law_rule" "_law_rule" (defArgs s_l_rule) (defBody s_l_rule) (defScope s_l_rule) .none kV21 dc21 pm21 an21 cd21 ct21), sl21⟩) (c21 : PySem.W.codeIn K cd21 "_law_rule" = true) (k21 : PySem.W.keepIn K (.ref f21) = true)
    (a22 : PySem.W.nsIn K mainGlobals "_law_count" = some (some (.ref f22))) (l22 : K.lookup f22 = some ⟨oc22, od22, .func (PySem.W.fnOf "_law_count" "_law_count" (defArgs s_l_count) (defBody s_l_count) (defScope s_l_count) .none kV22 dc22 pm22 an22 cd22 ct22), sl22⟩) (c22 : PySem.W.codeIn K cd22 "_law_count" = true) (k22 : PySem.W.keepIn K (.ref f22) = true)
    (a23 : PySem.W.nsIn K mainGlobals "_law_time" = some (some (.ref f23))) (l23 : K.lookup f23 = some ⟨oc23, od23, .func (PySem.W.fnOf "_law_time" "_law_time" (defArgs s_l_time) (defBody s_l_time) (defScope s_l_time) .none kV23 dc23 pm23 an23 cd23 ct23), sl23⟩) (c23 : PySem.W.codeIn K cd23 "_law_time" = true) (k23 : PySem.W.keepIn K (.ref f23) = true)
    (a24 : PySem.W.nsIn K mainGlobals "_law_record" = some (some (.ref f24))) (l24 : K.lookup f24 = some ⟨oc24, od24, .func (PySem.W.fnOf "_law_record" "_law_record" (defArgs s_l_record) (defBody s_l_record) (defScope s_l_record) .none kV24 dc24 pm24 an24 cd24 ct24), sl24⟩) (c24 : PySem.W.codeIn K cd24 "_law_record" = true) (k24 : PySem.W.keepIn K (.ref f24) = true)
    (a25 : PySem.W.nsIn K mainGlobals "_law_records" = some (some (.ref f25))) (l25 : K.lookup f25 = some ⟨oc25, od25, .func (PySem.W.fnOf "_law_records" "_law_records" (defArgs s_l_records) (defBody s_l_records) (defScope s_l_records) .none kV25 dc25 pm25 an25 cd25 ct25), sl25⟩) (c25 : PySem.W.codeIn K cd25 "_law_records" = true) (k25 : PySem.W.keepIn K (.ref f25) = true)
    (a26 : PySem.W.nsIn K mainGlobals "_law_lowest" = some (some (.ref f26))) (l26 : K.lookup f26 = some ⟨oc26, od26, .func (PySem.W.fnOf "_law_lowest" "_law_lowest" (defArgs s_l_lowest) (defBody s_l_lowest) (defScope s_l_lowest) .none kV26 dc26 pm26 an26 cd26 ct26), sl26⟩) (c26 : PySem.W.codeIn K cd26 "_law_lowest" = true) (k26 : PySem.W.keepIn K (.ref f26) = true)
    (a27 : PySem.W.nsIn K mainGlobals "_law_tried" = some (some (.ref f27))) (l27 : K.lookup f27 = some ⟨oc27, od27, .func (PySem.W.fnOf "_law_tried" "_law_tried" (defArgs s_l_tried) (defBody s_l_tried) (defScope s_l_tried) .none kV27 dc27 pm27 an27 cd27 ct27), sl27⟩) (c27 : PySem.W.codeIn K cd27 "_law_tried" = true) (k27 : PySem.W.keepIn K (.ref f27) = true)
    (a28 : PySem.W.nsIn K mainGlobals "_law_inside" = some (some (.ref f28))) (l28 : K.lookup f28 = some ⟨oc28, od28, .func (PySem.W.fnOf "_law_inside" "_law_inside" (defArgs s_l_inside) (defBody s_l_inside) (defScope s_l_inside) .none kV28 dc28 pm28 an28 cd28 ct28), sl28⟩) (c28 : PySem.W.codeIn K cd28 "_law_inside" = true) (k28 : PySem.W.keepIn K (.ref f28) = true)
    (a29 : PySem.W.nsIn K mainGlobals "law" = some (some (.ref f29))) (l29 : K.lookup f29 = some ⟨oc29, od29, .func (PySem.W.fnOf "law" "law" (defArgs s_law) (defBody s_law) (defScope s_law) .none kV29 dc29 pm29 an29 cd29 ct29), sl29⟩) (c29 : PySem.W.codeIn K cd29 "law" = true) (k29 : PySem.W.keepIn K (.ref f29) = true)
    (z0 : PySem.W.nsIn K mainGlobals "len" = some none) (z1 : PySem.W.nsIn K mainGlobals "abs" = some none) (z2 : PySem.W.nsIn K mainGlobals "list" = some none) (z3 : PySem.W.nsIn K mainGlobals "range" = some none) (z4 : PySem.W.nsIn K mainGlobals "sum" = some none) (z5 : PySem.W.nsIn K mainGlobals "repr" = some none) (z6 : PySem.W.nsIn K mainGlobals "max" = some none) (z7 : PySem.W.nsIn K mainGlobals "min" = some none) (z8 : PySem.W.nsIn K mainGlobals "reversed" = some none) (z9 : PySem.W.nsIn K mainGlobals "divmod" = some none) (z10 : PySem.W.nsIn K mainGlobals "isinstance" = some none) (z11 : PySem.W.nsIn K mainGlobals "all" = some none) (z12 : PySem.W.nsIn K mainGlobals "int" = some none) (z13 : PySem.W.nsIn K mainGlobals "bool" = some none) (z14 : PySem.W.nsIn K mainGlobals "tuple" = some none) (z15 : PySem.W.nsIn K mainGlobals "sorted" = some none) (z16 : PySem.W.nsIn K mainGlobals "zip" = some none) (z17 : PySem.W.nsIn K mainGlobals "enumerate" = some none) (z18 : PySem.W.nsIn K mainGlobals "set" = some none) (z19 : PySem.W.nsIn K mainGlobals "str" = some none)
    {tM : Tok} (xM : PySem.W.nsIn K mainGlobals "MOST_RECORDS" = some (some (.int 200 tM))) :
    ∃ fd : FuncData, (∀ (s : Shared) (v : Value), BindsTo s fd ⟨[v], []⟩ [("_law_script", v)]) ∧ ∀ base : Heap, K.In base → base.Ns mainGlobals mg → FnOk l.prog w K mg base CX0 6 fa fd ["_law_script"] (spLaw K) := by
  have e := hfa.symm.trans (PySem.W.mg_of X G a29)
  cases e
  have B : Bi mg := ⟨PySem.W.mg_none_of X G z0, PySem.W.mg_none_of X G z1, PySem.W.mg_none_of X G z2, PySem.W.mg_none_of X G z3, PySem.W.mg_none_of X G z4, PySem.W.mg_none_of X G z5, PySem.W.mg_none_of X G z6, PySem.W.mg_none_of X G z7, PySem.W.mg_none_of X G z8, PySem.W.mg_none_of X G z9, PySem.W.mg_none_of X G z10, PySem.W.mg_none_of X G z11, PySem.W.mg_none_of X G z12, PySem.W.mg_none_of X G z13, PySem.W.mg_none_of X G z14, PySem.W.mg_none_of X G z15, PySem.W.mg_none_of X G z16, PySem.W.mg_none_of X G z17, PySem.W.mg_none_of X G z18, PySem.W.mg_none_of X G z19⟩
  have U : Bc mg := ⟨⟨tM, PySem.W.mg_of X G xM⟩⟩
  have F0 := fun_mk (st := s_l_pen) l0 c0 k0
  have D_l_pen : Df K mg "_law_pen" s_l_pen P_l_pen := ⟨f0, _, F0, PySem.W.mg_of X G a0, F0.binds fun _ _ _ _ _ _ us hl => match us, hl with | [_], _ => rfl⟩
  have F1 := fun_mk (st := s_l_draw) l1 c1 k1
  have D_l_draw : Df K mg "_law_draw" s_l_draw P_l_draw := ⟨f1, _, F1, PySem.W.mg_of X G a1, F1.binds fun _ _ _ _ _ _ us hl => match us, hl with | [_, _], _ => rfl⟩
  have F2 := fun_mk (st := s_l_pick) l2 c2 k2
  have D_l_pick : Df K mg "_law_pick" s_l_pick P_l_pick := ⟨f2, _, F2, PySem.W.mg_of X G a2, F2.binds fun _ _ _ _ _ _ us hl => match us, hl with | [_, _], _ => rfl⟩
  have F3 := fun_mk (st := s_l_gcd) l3 c3 k3
  have D_l_gcd : Df K mg "_law_gcd" s_l_gcd P_l_gcd := ⟨f3, _, F3, PySem.W.mg_of X G a3, F3.binds fun _ _ _ _ _ _ us hl => match us, hl with | [_, _], _ => rfl⟩
  have F4 := fun_mk (st := s_is_integer) l4 c4 k4
  have D_is_integer : Df K mg "is_integer" s_is_integer P_is_integer := ⟨f4, _, F4, PySem.W.mg_of X G a4, F4.binds fun _ _ _ _ _ _ us hl => match us, hl with | [_], _ => rfl⟩
  have F5 := fun_mk (st := s_gcd) l5 c5 k5
  have D_gcd : Df K mg "gcd" s_gcd P_gcd := ⟨f5, _, F5, PySem.W.mg_of X G a5, F5.binds fun _ _ _ _ _ _ us hl => match us, hl with | [_, _], _ => rfl⟩
  have F6 := fun_mk (st := s_is_rate) l6 c6 k6
  have D_is_rate : Df K mg "is_rate" s_is_rate P_is_rate := ⟨f6, _, F6, PySem.W.mg_of X G a6, F6.binds fun _ _ _ _ _ _ us hl => match us, hl with | [_], _ => rfl⟩
  have F7 := fun_mk (st := s_check_rate) l7 c7 k7
  have D_check_rate : Df K mg "check_rate" s_check_rate P_check_rate := ⟨f7, _, F7, PySem.W.mg_of X G a7, F7.binds fun _ _ _ _ _ _ us hl => match us, hl with | [_], _ => rfl⟩
  have F8 := fun_mk (st := s_is_record) l8 c8 k8
  have D_is_record : Df K mg "is_record" s_is_record P_is_record := ⟨f8, _, F8, PySem.W.mg_of X G a8, F8.binds fun _ _ _ _ _ _ us hl => match us, hl with | [_], _ => rfl⟩
  have F9 := fun_mk (st := s_check_records) l9 c9 k9
  have D_check_records : Df K mg "check_records" s_check_records P_check_records := ⟨f9, _, F9, PySem.W.mg_of X G a9, F9.binds fun _ _ _ _ _ _ us hl => match us, hl with | [_], _ => rfl⟩
  have F10 := fun_mk (st := s_split_records) l10 c10 k10
  have D_split_records : Df K mg "split_records" s_split_records P_split_records := ⟨f10, _, F10, PySem.W.mg_of X G a10, F10.binds fun _ _ _ _ _ _ us hl => match us, hl with | [_], _ => rfl⟩
  have F11 := fun_mk (st := s_tighter_pairs) l11 c11 k11
  have D_tighter_pairs : Df K mg "tighter_pairs" s_tighter_pairs P_tighter_pairs := ⟨f11, _, F11, PySem.W.mg_of X G a11, F11.binds fun _ _ _ _ _ _ us hl => match us, hl with | [_, _, _], _ => rfl⟩
  have F12 := fun_mk (st := s_reduce_rate) l12 c12 k12
  have D_reduce_rate : Df K mg "reduce_rate" s_reduce_rate P_reduce_rate := ⟨f12, _, F12, PySem.W.mg_of X G a12, F12.binds fun _ _ _ _ _ _ us hl => match us, hl with | [_, _], _ => rfl⟩
  have F13 := fun_mk (st := s_tight_pairs) l13 c13 k13
  have D_tight_pairs : Df K mg "tight_pairs" s_tight_pairs P_tight_pairs := ⟨f13, _, F13, PySem.W.mg_of X G a13, F13.binds fun _ _ _ _ _ _ us hl => match us, hl with | [_], _ => rfl⟩
  have F14 := fun_mk (st := s_leave_no_rate) l14 c14 k14
  have D_leave_no_rate : Df K mg "leave_no_rate" s_leave_no_rate P_leave_no_rate := ⟨f14, _, F14, PySem.W.mg_of X G a14, F14.binds fun _ _ _ _ _ _ us hl => match us, hl with | [_], _ => rfl⟩
  have F15 := fun_mk (st := s_rate_ends) l15 c15 k15
  have D_rate_ends : Df K mg "rate_ends" s_rate_ends P_rate_ends := ⟨f15, _, F15, PySem.W.mg_of X G a15, F15.binds fun _ _ _ _ _ _ us hl => match us, hl with | [_], _ => rfl⟩
  have F16 := fun_mk (st := s_rates) l16 c16 k16
  have D_rates : Df K mg "rates" s_rates P_rates := ⟨f16, _, F16, PySem.W.mg_of X G a16, F16.binds fun _ _ _ _ _ _ us hl => match us, hl with | [_], _ => rfl⟩
  have F17 := fun_mk (st := s_phase_ends) l17 c17 k17
  have D_phase_ends : Df K mg "phase_ends" s_phase_ends P_phase_ends := ⟨f17, _, F17, PySem.W.mg_of X G a17, F17.binds fun _ _ _ _ _ _ us hl => match us, hl with | [_, _], _ => rfl⟩
  have F18 := fun_mk (st := s_rate_fits) l18 c18 k18
  have D_rate_fits : Df K mg "rate_fits" s_rate_fits P_rate_fits := ⟨f18, _, F18, PySem.W.mg_of X G a18, F18.binds fun _ _ _ _ _ _ us hl => match us, hl with | [_, _], _ => rfl⟩
  have F19 := fun_mk (st := s_phases) l19 c19 k19
  have D_phases : Df K mg "phases" s_phases P_phases := ⟨f19, _, F19, PySem.W.mg_of X G a19, F19.binds fun _ _ _ _ _ _ us hl => match us, hl with | [_, _], _ => rfl⟩
  have F20 := fun_mk (st := s_l_far) l20 c20 k20
  have D_l_far : Df K mg "_law_far" s_l_far P_l_far := ⟨f20, _, F20, PySem.W.mg_of X G a20, F20.binds fun _ _ _ _ _ _ us hl => match us, hl with | [_, _], _ => rfl⟩
  have F21 := fun_mk (st := s_l_rule) l21 c21 k21
  have D_l_rule : Df K mg "_law_rule" s_l_rule P_l_rule := ⟨f21, _, F21, PySem.W.mg_of X G a21, F21.binds fun _ _ _ _ _ _ us hl => match us, hl with | [_, _], _ => rfl⟩
  have F22 := fun_mk (st := s_l_count) l22 c22 k22
  have D_l_count : Df K mg "_law_count" s_l_count P_l_count := ⟨f22, _, F22, PySem.W.mg_of X G a22, F22.binds fun _ _ _ _ _ _ us hl => match us, hl with | [_, _], _ => rfl⟩
  have F23 := fun_mk (st := s_l_time) l23 c23 k23
  have D_l_time : Df K mg "_law_time" s_l_time P_l_time := ⟨f23, _, F23, PySem.W.mg_of X G a23, F23.binds fun _ _ _ _ _ _ us hl => match us, hl with | [_, _], _ => rfl⟩
  have F24 := fun_mk (st := s_l_record) l24 c24 k24
  have D_l_record : Df K mg "_law_record" s_l_record P_l_record := ⟨f24, _, F24, PySem.W.mg_of X G a24, F24.binds fun _ _ _ _ _ _ us hl => match us, hl with | [_, _, _, _], _ => rfl⟩
  have F25 := fun_mk (st := s_l_records) l25 c25 k25
  have D_l_records : Df K mg "_law_records" s_l_records P_l_records := ⟨f25, _, F25, PySem.W.mg_of X G a25, F25.binds fun _ _ _ _ _ _ us hl => match us, hl with | [_, _, _, _], _ => rfl⟩
  have F26 := fun_mk (st := s_l_lowest) l26 c26 k26
  have D_l_lowest : Df K mg "_law_lowest" s_l_lowest P_l_lowest := ⟨f26, _, F26, PySem.W.mg_of X G a26, F26.binds fun _ _ _ _ _ _ us hl => match us, hl with | [_, _], _ => rfl⟩
  have F27 := fun_mk (st := s_l_tried) l27 c27 k27
  have D_l_tried : Df K mg "_law_tried" s_l_tried P_l_tried := ⟨f27, _, F27, PySem.W.mg_of X G a27, F27.binds fun _ _ _ _ _ _ us hl => match us, hl with | [_, _], _ => rfl⟩
  have F28 := fun_mk (st := s_l_inside) l28 c28 k28
  have D_l_inside : Df K mg "_law_inside" s_l_inside P_l_inside := ⟨f28, _, F28, PySem.W.mg_of X G a28, F28.binds fun _ _ _ _ _ _ us hl => match us, hl with | [_, _], _ => rfl⟩
  have F29 := fun_mk (st := s_law) l29 c29 k29
  refine ⟨PySem.W.fnOf "law" "law" (defArgs s_law) (defBody s_law) (defScope s_law) .none kV29 dc29 pm29 an29 cd29 ct29, fun s v => .of_eq rfl, fun base _ _ => ?_⟩
  have c_l_pen := ok_l_pen (P := l.prog) (w := w) (base := base) D_l_pen B
  have c_l_draw := ok_l_draw (P := l.prog) (w := w) (base := base) D_l_draw B
  have c_l_pick := ok_l_pick (P := l.prog) (w := w) (base := base) D_l_pick B c_l_draw
  have c_l_gcd := ok_l_gcd (P := l.prog) (w := w) (base := base) D_l_gcd
  have c_is_integer := ok_is_integer (P := l.prog) (w := w) (base := base) D_is_integer B
  have c_gcd := ok_gcd (P := l.prog) (w := w) (base := base) D_gcd
  have c_is_rate := ok_is_rate (P := l.prog) (w := w) (base := base) D_is_rate B c_is_integer c_gcd
  have c_check_rate := ok_check_rate (P := l.prog) (w := w) (base := base) D_check_rate c_is_rate
  have c_is_record := ok_is_record (P := l.prog) (w := w) (base := base) D_is_record B c_is_integer
  have c_check_records := ok_check_records (P := l.prog) (w := w) (base := base) D_check_records B U c_is_record
  have c_split_records := ok_split_records (P := l.prog) (w := w) (base := base) D_split_records B
  have c_tighter_pairs := ok_tighter_pairs (P := l.prog) (w := w) (base := base) D_tighter_pairs B
  have c_reduce_rate := ok_reduce_rate (P := l.prog) (w := w) (base := base) D_reduce_rate c_gcd
  have c_tight_pairs := ok_tight_pairs (P := l.prog) (w := w) (base := base) D_tight_pairs c_split_records c_tighter_pairs
  have c_leave_no_rate := ok_leave_no_rate (P := l.prog) (w := w) (base := base) D_leave_no_rate
  have c_rate_ends := ok_rate_ends (P := l.prog) (w := w) (base := base) D_rate_ends c_tight_pairs c_leave_no_rate c_reduce_rate
  have c_rates := ok_rates (P := l.prog) (w := w) (base := base) D_rates c_check_records c_rate_ends
  have c_phase_ends := ok_phase_ends (P := l.prog) (w := w) (base := base) D_phase_ends B c_split_records
  have c_rate_fits := ok_rate_fits (P := l.prog) (w := w) (base := base) D_rate_fits c_phase_ends
  have c_phases := ok_phases (P := l.prog) (w := w) (base := base) D_phases c_check_records c_check_rate c_phase_ends c_rate_fits
  have c_l_far := ok_l_far (P := l.prog) (w := w) (base := base) D_l_far B c_l_draw
  have c_l_rule := ok_l_rule (P := l.prog) (w := w) (base := base) D_l_rule B c_l_draw c_l_far c_l_gcd
  have c_l_count := ok_l_count (P := l.prog) (w := w) (base := base) D_l_count
  have c_l_time := ok_l_time (P := l.prog) (w := w) (base := base) D_l_time B c_l_draw c_l_far
  have c_l_record := ok_l_record (P := l.prog) (w := w) (base := base) D_l_record B c_l_draw c_l_pick c_l_count c_l_time
  have c_l_records := ok_l_records (P := l.prog) (w := w) (base := base) D_l_records B c_l_draw c_l_pick c_l_rule c_l_record
  have c_l_lowest := ok_l_lowest (P := l.prog) (w := w) (base := base) D_l_lowest c_l_gcd
  have c_l_tried := ok_l_tried (P := l.prog) (w := w) (base := base) D_l_tried B c_l_draw c_l_far c_l_lowest
  have c_l_inside := ok_l_inside (P := l.prog) (w := w) (base := base) D_l_inside
  exact ok_law F29 B c_l_pen c_l_pick c_l_records c_rates c_phases c_l_tried c_l_inside
end Lf
open PySem PySem.W PyProof.Rows
set_option maxRecDepth 100000 in
set_option maxHeartbeats 0 in
theorem PySem.Challenge.cw_leapfit_k30_whole_rates_have_rules_holds : PySem.Challenge.rw_leapfit_k30_whole_rates_have_rules.Holds := by
  w_on; o_law; k_head; (case hw => w_witness2)
  k_fill
  refine L2.walk_of (l := PySem.Challenge.rw_leapfit_k30_whole_rates_have_rules) (n := 63) (k := 6) (x := "_law_script") (CX := fun _ => L2.CX0) (sp := fun w => Lf.spLaw _) rfl (by decide) rfl ⟨rfl, by decide, by decide⟩ (fun w h Y => PySem.W.kIn_of Y) ?F (fun _ _ a ns hl _ hS => ⟨a, ns, rfl, hS, hl, fun _ => rfl⟩) (fun _ _ _ _ _ h => h)
  case F =>
    intro w mg fa h KX G hmg
    refine' Lf.all_mk KX G hmg ?a0 ?l0 ?c0 ?k0 ?a1 ?l1 ?c1 ?k1 ?a2 ?l2 ?c2 ?k2 ?a3 ?l3 ?c3 ?k3 ?a4 ?l4 ?c4 ?k4 ?a5 ?l5 ?c5 ?k5 ?a6 ?l6 ?c6 ?k6 ?a7 ?l7 ?c7 ?k7 ?a8 ?l8 ?c8 ?k8 ?a9 ?l9 ?c9 ?k9 ?a10 ?l10 ?c10 ?k10 ?a11 ?l11 ?c11 ?k11 ?a12 ?l12 ?c12 ?k12 ?a13 ?l13 ?c13 ?k13 ?a14 ?l14 ?c14 ?k14 ?a15 ?l15 ?c15 ?k15 ?a16 ?l16 ?c16 ?k16 ?a17 ?l17 ?c17 ?k17 ?a18 ?l18 ?c18 ?k18 ?a19 ?l19 ?c19 ?k19 ?a20 ?l20 ?c20 ?k20 ?a21 ?l21 ?c21 ?k21 ?a22 ?l22 ?c22 ?k22 ?a23 ?l23 ?c23 ?k23 ?a24 ?l24 ?c24 ?k24 ?a25 ?l25 ?c25 ?k25 ?a26 ?l26 ?c26 ?k26 ?a27 ?l27 ?c27 ?k27 ?a28 ?l28 ?c28 ?k28 ?a29 ?l29 ?c29 ?k29 ?z0 ?z1 ?z2 ?z3 ?z4 ?z5 ?z6 ?z7 ?z8 ?z9 ?z10 ?z11 ?z12 ?z13 ?z14 ?z15 ?z16 ?z17 ?z18 ?z19 ?xM
    (case a0 => k_is); (case l0 => k_is); (case c0 => k_is); (case k0 => k_is)
    (case a1 => k_is); (case l1 => k_is); (case c1 => k_is); (case k1 => k_is)
    (case a2 => k_is); (case l2 => k_is); (case c2 => k_is); (case k2 => k_is)
    (case a3 => k_is); (case l3 => k_is); (case c3 => k_is); (case k3 => k_is)
    (case a4 => k_is); (case l4 => k_is); (case c4 => k_is); (case k4 => k_is)
    (case a5 => k_is); (case l5 => k_is); (case c5 => k_is); (case k5 => k_is)
    (case a6 => k_is); (case l6 => k_is); (case c6 => k_is); (case k6 => k_is)
    (case a7 => k_is); (case l7 => k_is); (case c7 => k_is); (case k7 => k_is)
    (case a8 => k_is); (case l8 => k_is); (case c8 => k_is); (case k8 => k_is)
    (case a9 => k_is); (case l9 => k_is); (case c9 => k_is); (case k9 => k_is)
    (case a10 => k_is); (case l10 => k_is); (case c10 => k_is); (case k10 => k_is)
    (case a11 => k_is); (case l11 => k_is); (case c11 => k_is); (case k11 => k_is)
    (case a12 => k_is); (case l12 => k_is); (case c12 => k_is); (case k12 => k_is)
    (case a13 => k_is); (case l13 => k_is); (case c13 => k_is); (case k13 => k_is)
    (case a14 => k_is); (case l14 => k_is); (case c14 => k_is); (case k14 => k_is)
    (case a15 => k_is); (case l15 => k_is); (case c15 => k_is); (case k15 => k_is)
    (case a16 => k_is); (case l16 => k_is); (case c16 => k_is); (case k16 => k_is)
    (case a17 => k_is); (case l17 => k_is); (case c17 => k_is); (case k17 => k_is)
    (case a18 => k_is); (case l18 => k_is); (case c18 => k_is); (case k18 => k_is)
    (case a19 => k_is); (case l19 => k_is); (case c19 => k_is); (case k19 => k_is)
    (case a20 => k_is); (case l20 => k_is); (case c20 => k_is); (case k20 => k_is)
    (case a21 => k_is); (case l21 => k_is); (case c21 => k_is); (case k21 => k_is)
    (case a22 => k_is); (case l22 => k_is); (case c22 => k_is); (case k22 => k_is)
    (case a23 => k_is); (case l23 => k_is); (case c23 => k_is); (case k23 => k_is)
    (case a24 => k_is); (case l24 => k_is); (case c24 => k_is); (case k24 => k_is)
    (case a25 => k_is); (case l25 => k_is); (case c25 => k_is); (case k25 => k_is)
    (case a26 => k_is); (case l26 => k_is); (case c26 => k_is); (case k26 => k_is)
    (case a27 => k_is); (case l27 => k_is); (case c27 => k_is); (case k27 => k_is)
    (case a28 => k_is); (case l28 => k_is); (case c28 => k_is); (case k28 => k_is)
    (case a29 => k_is); (case l29 => k_is); (case c29 => k_is); (case k29 => k_is)
    (case z0 => k_is); (case z1 => k_is); (case z2 => k_is); (case z3 => k_is); (case z4 => k_is); (case z5 => k_is); (case z6 => k_is); (case z7 => k_is); (case z8 => k_is); (case z9 => k_is); (case z10 => k_is); (case z11 => k_is); (case z12 => k_is); (case z13 => k_is); (case z14 => k_is); (case z15 => k_is); (case z16 => k_is); (case z17 => k_is); (case z18 => k_is); (case z19 => k_is)
    (case xM => k_is)
