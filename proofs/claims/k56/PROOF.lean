import PyProof.Rows.All
import Wide.All
import OpenK.AllK
import Wide.FinOn
import HandS.ForMost
import HandS.Codes
import HandS.Wide
import HandS.WideBits
import HandS.IsInst
import HandS.RaiseMore
import HandS.Style
import HandS.NoneIn
import HandS.Walk
import HandS.SetFor
import KE.LtSeq
import KE.DatumOrd
import KE.SortData
import HandS.SortInts
import HandS.Deep
import HandS.Evl
import HandS.Conv
import PySem.Challenge.RW_leapfit_k56_whole_simplest_fractions_far
set_option Elab.async false
set_option linter.all false
set_option maxRecDepth 100000
set_option maxHeartbeats 4000000
set_option linter.all false
namespace Lf
/-! ### sums of rounded quotients -/
def fs : Nat → Int → Int → Int → Int
  | 0, _, _, _ => 0
  | n + 1, a, b, m => fs n a b m + (a * n + b) / m
def tri (n : Int) : Int := n * (n - 1) / 2
theorem tri_succ (n : Int) : tri (n + 1) = tri n + n := by
  unfold tri
  rw [show (n + 1) * (n + 1 - 1) = n * (n - 1) + n * 2 by
    rw [Int.add_sub_cancel, Int.mul_sub, Int.add_mul]; omega]
  rw [Int.add_mul_ediv_right _ _ (by decide)]
theorem tri_zero : tri 0 = 0 := rfl
theorem div_shift (x k m : Int) (h : 0 < m) : (x + m * k) / m = x / m + k := by
  rw [Int.add_mul_ediv_left _ _ (by omega)]
theorem fs_red (n : Nat) (a b m : Int) (h : 0 < m) : fs n a b m = fs n (a % m) b m + a / m * tri n := by
  induction n with
  | zero => simp [fs, tri_zero]
  | succ n ih =>
    show fs n a b m + (a * n + b) / m = fs n (a % m) b m + (a % m * n + b) / m + a / m * tri ((n + 1 : Nat) : Int)
    have e : a * n + b = (a % m * n + b) + m * (a / m * n) := by
      have q := Int.emod_add_mul_ediv a m
      have q2 : a * n = (a % m + m * (a / m)) * n := by rw [q]
      rw [q2, Int.add_mul, Int.mul_assoc]; omega
    rw [e, div_shift _ _ _ h, ih, Int.natCast_add, Int.natCast_one, tri_succ, Int.mul_add]
    omega
theorem fs_redb (n : Nat) (a b m : Int) (h : 0 < m) : fs n a b m = fs n a (b % m) m + b / m * n := by
  induction n with
  | zero => simp [fs]
  | succ n ih =>
    show fs n a b m + (a * n + b) / m = fs n a (b % m) m + (a * n + b % m) / m + b / m * ((n + 1 : Nat) : Int)
    have e : a * n + b = (a * n + b % m) + m * (b / m) := by
      have q := Int.emod_add_mul_ediv b m
      omega
    rw [e, div_shift _ _ _ h, ih, Int.natCast_add, Int.natCast_one, Int.mul_add, Int.mul_one]
    omega
/-- each term of the second sum grows by one when its offset grows by its divisor -/
theorem fs_up (n : Nat) (a b m : Int) (h : 0 < m) : fs n a (b + m) m = fs n a b m + n := by
  induction n with
  | zero => simp [fs]
  | succ n ih =>
    show fs n a (b + m) m + (a * n + (b + m)) / m = fs n a b m + (a * n + b) / m + ((n + 1 : Nat) : Int)
    rw [show a * n + (b + m) = (a * n + b) + m * 1 by omega, div_shift _ _ _ h, ih]
    omega
/-- the first term apart -/
theorem fs_first (n : Nat) (a b m : Int) : fs (n + 1) a b m = b / m + fs n a (b + a) m := by
  induction n with
  | zero => show 0 + (a * ((0 : Nat) : Int) + b) / m = b / m + 0; simp
  | succ n ih =>
    show fs (n + 1) a b m + (a * ((n + 1 : Nat) : Int) + b) / m = b / m + (fs n a (b + a) m + (a * n + (b + a)) / m)
    rw [ih, show a * ((n + 1 : Nat) : Int) + b = a * n + (b + a) by
      rw [Int.natCast_add, Int.natCast_one, Int.mul_add]; omega]
    omega
theorem fs_swap (n : Nat) (a b m : Int) (ha : 0 < a) (ham : a < m) (hb : 0 ≤ b) (hbm : b < m) :
    fs n a b m = fs ((a * n + b) / m).toNat m ((a * n + b) % m) a := by
  induction n with
  | zero =>
    have e : (a * ((0 : Nat) : Int) + b) / m = 0 := by
      rw [show a * ((0 : Nat) : Int) + b = b by simp]
      exact Int.ediv_eq_zero_of_lt hb hbm
    rw [e]; rfl
  | succ n ih =>
    show fs n a b m + (a * n + b) / m = fs ((a * ((n + 1 : Nat) : Int) + b) / m).toNat m ((a * ((n + 1 : Nat) : Int) + b) % m) a
    rw [ih]
    have hm : 0 < m := by omega
    have hy : 0 ≤ a * n + b := by
      have := Int.mul_nonneg (Int.le_of_lt ha) (Int.natCast_nonneg n); omega
    generalize hyd : a * (n : Int) + b = y at hy
    have e : a * ((n + 1 : Nat) : Int) + b = y + a := by
      rw [Int.natCast_add, Int.natCast_one, Int.mul_add]; omega
    rw [e]
    have hq : 0 ≤ y / m := Int.ediv_nonneg hy (by omega)
    have hr0 : 0 ≤ y % m := Int.emod_nonneg _ (by omega)
    have hr1 : y % m < m := Int.emod_lt_of_pos _ hm
    have hd := Int.emod_add_mul_ediv y m
    generalize y / m = q at *
    generalize y % m = r at *
    by_cases hc : r + a < m
    · have e1 : (y + a) / m = q := by
        rw [show y + a = (r + a) + m * q by omega, div_shift _ _ _ hm, Int.ediv_eq_zero_of_lt (by omega) hc]
        omega
      have e2 : (y + a) % m = r + a := by
        have := Int.emod_add_mul_ediv (y + a) m
        rw [e1] at this
        omega
      rw [e1, e2, fs_up _ _ _ _ ha]
      omega
    · have e1 : (y + a) / m = q + 1 := by
        rw [show y + a = (r + a - m) + m * (q + 1) by rw [Int.mul_add]; omega, div_shift _ _ _ hm, Int.ediv_eq_zero_of_lt (by omega) (by omega)]
        omega
      have e2 : (y + a) % m = r + a - m := by
        have := Int.emod_add_mul_ediv (y + a) m
        rw [e1, Int.mul_add] at this
        omega
      rw [e1, e2, show (q + 1).toNat = q.toNat + 1 by omega, fs_first, Int.ediv_eq_zero_of_lt (by omega) (by omega), show r + a - m + m = r + a by omega, fs_up _ _ _ _ ha]
      omega
/-- a whole turn of the loop -/
theorem fs_turn (n a b m : Int) (hn : 0 ≤ n) (hm : 0 < m) :
    fs n.toNat a b m = a / m * tri n + b / m * n + fs ((a % m * n + b % m) / m).toNat m ((a % m * n + b % m) % m) (a % m) := by
  have h1 := fs_red n.toNat a b m hm
  have h2 := fs_redb n.toNat (a % m) b m hm
  have en : ((n.toNat : Nat) : Int) = n := by omega
  rw [en] at h1 h2
  have ha0 : 0 ≤ a % m := Int.emod_nonneg _ (by omega)
  have ha1 : a % m < m := Int.emod_lt_of_pos _ hm
  have hb0 : 0 ≤ b % m := Int.emod_nonneg _ (by omega)
  have hb1 : b % m < m := Int.emod_lt_of_pos _ hm
  by_cases hz : a % m = 0
  · have e0 : (a % m * n + b % m) / m = 0 := by
      rw [hz, Int.zero_mul, Int.zero_add]
      exact Int.ediv_eq_zero_of_lt hb0 hb1
    have z : fs n.toNat (a % m) (b % m) m = 0 := by
      rw [hz]
      have : ∀ k : Nat, fs k 0 (b % m) m = 0 := fun k => by
        induction k with
        | zero => rfl
        | succ k ih =>
          show fs k 0 (b % m) m + (0 * (k : Int) + b % m) / m = 0
          rw [ih, Int.zero_mul, Int.zero_add, Int.zero_add]
          exact Int.ediv_eq_zero_of_lt hb0 hb1
      exact this _
    rw [e0]
    show _ = _ + fs 0 m _ _
    have e3 : fs 0 m ((a % m * n + b % m) % m) (a % m) = 0 := rfl
    have e4 : (0 : Int).toNat = 0 := rfl
    rw [e3, h1, h2, z]
    omega
  · have h3 := fs_swap n.toNat (a % m) (b % m) m (by omega) ha1 hb0 hb1
    rw [en] at h3
    rw [h1, h2, h3]
    omega
theorem turn_le (n a b m : Int) (hn : 0 < n) (hm : 0 < m) : (a % m * n + b % m) / m ≤ n ∧ 0 ≤ (a % m * n + b % m) / m := by
  have ha0 : 0 ≤ a % m := Int.emod_nonneg _ (by omega)
  have ha1 : a % m < m := Int.emod_lt_of_pos _ hm
  have hb0 : 0 ≤ b % m := Int.emod_nonneg _ (by omega)
  have hb1 : b % m < m := Int.emod_lt_of_pos _ hm
  have h0 : 0 ≤ a % m * n := Int.mul_nonneg ha0 (by omega)
  refine ⟨?_, Int.ediv_nonneg (by omega) (by omega)⟩
  have h1 : a % m * n ≤ (m - 1) * n := Int.mul_le_mul_of_nonneg_right (by omega) (by omega)
  rw [Int.sub_mul, Int.one_mul] at h1
  have h2 : (a % m * n + b % m) / m < n + 1 := by
    apply Int.ediv_lt_of_lt_mul hm
    rw [Int.add_mul, Int.one_mul, Int.mul_comm n m]
    omega
  omega
theorem turn_zero (n a b m : Int) (hm : 0 < m) (hz : a % m = 0) : (a % m * n + b % m) / m = 0 := by
  rw [hz, Int.zero_mul, Int.zero_add]
  exact Int.ediv_eq_zero_of_lt (Int.emod_nonneg _ (by omega)) (Int.emod_lt_of_pos _ hm)
/-! ### sizes -/
def Bd (k : Nat) (i : Int) : Prop := i.natAbs < 2 ^ k
theorem Bd.mono {k j : Nat} {i : Int} (h : Bd k i) (e : k ≤ j) : Bd j i := Nat.lt_of_lt_of_le h (Nat.pow_le_pow_right (by decide) e)
theorem Bd.le {k : Nat} {i j : Int} (h : Bd k j) (e : i.natAbs ≤ j.natAbs) : Bd k i := Nat.lt_of_le_of_lt e h
theorem Bd.mul {k j : Nat} {x y : Int} (h : Bd k x) (h2 : Bd j y) : Bd (k + j) (x * y) := by
  unfold Bd
  rw [Int.natAbs_mul, Nat.pow_add]
  exact Nat.mul_lt_mul'' h h2
theorem Bd.add {k : Nat} {x y : Int} (h : Bd k x) (h2 : Bd k y) : Bd (k + 1) (x + y) := by
  unfold Bd at *
  rw [Nat.pow_succ]
  omega
theorem Bd.sub {k : Nat} {x y : Int} (h : Bd k x) (h2 : Bd k y) : Bd (k + 1) (x - y) := by
  unfold Bd at *
  rw [Nat.pow_succ]
  omega
theorem Bd.neg {k : Nat} {x : Int} (h : Bd k x) : Bd k (-x) := by
  unfold Bd at *
  omega
theorem Bd.ediv {k : Nat} {x m : Int} (h : Bd k x) (hm : 0 < m) : Bd k (x / m) := by
  refine h.le ?_
  rcases Int.lt_or_le x 0 with hx | hx
  · have h1 : x / m < 0 := Int.ediv_neg_of_neg_of_pos hx hm
    have h2 : x ≤ x / m := by
      apply Int.le_ediv_of_mul_le hm
      have : (-x) * 1 ≤ (-x) * m := Int.mul_le_mul_of_nonneg_left (by omega) (by omega)
      rw [Int.neg_mul, Int.neg_mul, Int.mul_one] at this
      omega
    omega
  · have h1 : 0 ≤ x / m := Int.ediv_nonneg hx (by omega)
    have h2 : x / m ≤ x := Int.ediv_le_self _ hx
    omega
theorem Bd.emod {k : Nat} {x m : Int} (h : Bd k m) (hm : 0 < m) : Bd k (x % m) := by
  refine h.le ?_
  have := Int.emod_nonneg x (show m ≠ 0 by omega)
  have := Int.emod_lt_of_pos x hm
  omega
theorem Bd.log {k : Nat} {i : Int} (h : Bd k i) (hk : 0 < k) : i.natAbs.log2 < k := by
  by_cases e : i.natAbs = 0
  · rw [e]; exact hk
  · exact (Nat.log2_lt e).mpr h
theorem Bd.small {k : Nat} {i : Int} (c : Nat) (h : i.natAbs < 2 ^ c) (e : c ≤ k) : Bd k i := Bd.mono (k := c) h e
theorem Bd.between {k : Nat} {x y : Int} (h : Bd k y) (h0 : 0 ≤ x) (h1 : x ≤ y) : Bd k x := h.le (by omega)
/-! ### the greatest common divisor -/
theorem gcd_turn (x y : Int) (hx : 0 ≤ x) (hy : 0 < y) : Int.gcd y (x % y) = Int.gcd x y := by
  unfold Int.gcd
  rw [show (x % y).natAbs = x.natAbs % y.natAbs by
    obtain ⟨a, rfl⟩ := Int.eq_ofNat_of_zero_le hx
    obtain ⟨b, rfl⟩ := Int.eq_ofNat_of_zero_le (Int.le_of_lt hy)
    rfl]
  rw [Nat.gcd_comm, ← Nat.gcd_rec, Nat.gcd_comm]
end Lf
namespace Lf
theorem nab_ediv {x m : Int} (hm : 0 < m) : (x / m).natAbs ≤ x.natAbs := by
  rcases Int.lt_or_le x 0 with hx | hx
  · have h1 : x / m < 0 := Int.ediv_neg_of_neg_of_pos hx hm
    have h2 : x ≤ x / m := by
      apply Int.le_ediv_of_mul_le hm
      have : (-x) * 1 ≤ (-x) * m := Int.mul_le_mul_of_nonneg_left (by omega) (by omega)
      rw [Int.neg_mul, Int.neg_mul, Int.mul_one] at this
      omega
    omega
  · have h1 : 0 ≤ x / m := Int.ediv_nonneg hx (by omega)
    have h2 : x / m ≤ x := Int.ediv_le_self _ hx
    omega
theorem fs_nab (n : Nat) (a b m : Int) (hm : 0 < m) : (fs n a b m).natAbs ≤ n * (a.natAbs * n + b.natAbs) := by
  induction n with
  | zero => show (0 : Int).natAbs ≤ _; simp
  | succ n ih =>
    show (fs n a b m + (a * n + b) / m).natAbs ≤ (n + 1) * (a.natAbs * (n + 1) + b.natAbs)
    have h1 := nab_ediv (x := a * n + b) hm
    have h2 := Int.natAbs_add_le (a * n) b
    have h3 := Int.natAbs_add_le (fs n a b m) ((a * n + b) / m)
    have h4 : (a * (n : Int)).natAbs = a.natAbs * n := by rw [Int.natAbs_mul]; rfl
    rw [h4] at h2
    have h5 : n * (a.natAbs * n + b.natAbs) ≤ n * (a.natAbs * (n + 1) + b.natAbs) := Nat.mul_le_mul_left _ (Nat.add_le_add_right (Nat.mul_le_mul_left _ (by omega)) _)
    have h6 : a.natAbs * n ≤ a.natAbs * (n + 1) := Nat.mul_le_mul_left _ (by omega)
    rw [Nat.add_mul, Nat.one_mul]
    omega
theorem fs_bd {n k j : Nat} {a b m : Int} (hm : 0 < m) (hn : n < 2 ^ j) (ha : Bd k a) (hb : Bd k b) : Bd (j + (k + j + 1)) (fs n a b m) := by
  unfold Bd at *
  have h := fs_nab n a b m hm
  refine Nat.lt_of_le_of_lt h ?_
  rw [Nat.pow_add 2 j]
  have h1 : a.natAbs * n + b.natAbs < 2 ^ (k + j + 1) := by
    have e : a.natAbs * n ≤ 2 ^ k * 2 ^ j := Nat.mul_le_mul (Nat.le_of_lt ha) (Nat.le_of_lt hn)
    have e2 : 2 ^ k ≤ 2 ^ k * 2 ^ j := Nat.le_mul_of_pos_right _ (Nat.pow_pos (by decide))
    rw [Nat.pow_succ, Nat.pow_add]
    omega
  exact Nat.mul_lt_mul'' hn h1
def trm (p q c s : Int) (i : Nat) : Int := (p * (s + i) + c) / q
theorem trm_sum (p q c s : Int) (n : Nat) : ((List.range n).map (trm p q c s)).sum = fs n p (p * s + c) q := by
  induction n with
  | zero => rfl
  | succ n ih =>
    rw [List.range_succ, List.map_append, List.sum_append, ih]
    show _ + (trm p q c s n + 0) = fs n p (p * s + c) q + (p * n + (p * s + c)) / q
    unfold trm
    rw [show p * (s + (n : Int)) + c = p * n + (p * s + c) by rw [Int.mul_add]; omega]
    omega
end Lf
namespace Lf
/-! ### triples in lowest terms -/
def gg (p q : Int) : Int := (Int.gcd p q : Int)
theorem gg_pos {p q : Int} (h : 1 ≤ q) : 0 < gg p q := by
  have : 0 < Int.gcd p q := Int.gcd_pos_of_ne_zero_right _ (by omega)
  unfold gg
  omega
theorem gg_p (p q : Int) : p = gg p q * (p / gg p q) := (Int.mul_ediv_cancel' (Int.gcd_dvd_left ..)).symm
theorem gg_q (p q : Int) : q = gg p q * (q / gg p q) := (Int.mul_ediv_cancel' (Int.gcd_dvd_right ..)).symm
theorem gg_mul (g x y : Int) (h : 0 ≤ g) : gg (g * x) (g * y) = g * gg x y := by
  unfold gg
  rw [Int.gcd_mul_left, Int.natCast_mul, Int.natAbs_of_nonneg h]
/-- reduced, multiplied, reduced again -/
theorem gg_twice (p q u v : Int) (h : 1 ≤ q) : gg (u * p) (v * q) = gg p q * gg (u * (p / gg p q)) (v * (q / gg p q)) := by
  have hg := gg_pos (p := p) h
  rw [← gg_mul _ _ _ (Int.le_of_lt hg)]
  congr 1
  · rw [Int.mul_left_comm, ← gg_p]
  · rw [Int.mul_left_comm, ← gg_q]
theorem red_p (p q u v : Int) (h : 1 ≤ q) (hv : 1 ≤ v) : u * (p / gg p q) / gg (u * (p / gg p q)) (v * (q / gg p q)) = u * p / gg (u * p) (v * q) := by
  have hg := gg_pos (p := p) h
  have e := gg_twice p q u v h
  rw [e]
  have e2 : u * p = gg p q * (u * (p / gg p q)) := by rw [Int.mul_left_comm, ← gg_p]
  rw [e2, Int.mul_ediv_mul_of_pos _ _ hg]
theorem red_q (p q u v : Int) (h : 1 ≤ q) (hv : 1 ≤ v) : v * (q / gg p q) / gg (u * (p / gg p q)) (v * (q / gg p q)) = v * q / gg (u * p) (v * q) := by
  have hg := gg_pos (p := p) h
  have e := gg_twice p q u v h
  rw [e]
  have e2 : v * q = gg p q * (v * (q / gg p q)) := by rw [Int.mul_left_comm, ← gg_q]
  rw [e2, Int.mul_ediv_mul_of_pos _ _ hg]
theorem red_c (p q u v c : Int) (h : 1 ≤ q) (hv : 1 ≤ v) : c / gg p q / gg (u * (p / gg p q)) (v * (q / gg p q)) = c / gg (u * p) (v * q) := by
  have hg := gg_pos (p := p) h
  rw [gg_twice p q u v h, Int.ediv_ediv_of_nonneg (Int.le_of_lt hg)]
theorem red_shift (p q a b c : Int) (h : 1 ≤ q) : (p * a + q * b + c) / gg p q = p / gg p q * a + q / gg p q * b + c / gg p q := by
  have hg := gg_pos (p := p) h
  have e : p * a + q * b + c = c + gg p q * (p / gg p q * a + q / gg p q * b) := by
    rw [Int.mul_add, ← Int.mul_assoc, ← Int.mul_assoc, ← gg_p, ← gg_q]
    omega
  rw [e, div_shift _ _ _ hg]
  omega
theorem div_neg1 (c g : Int) (hg : 0 < g) : (-1 - c) / g = -1 - c / g := by
  have e := Int.emod_add_mul_ediv c g
  have h0 := Int.emod_nonneg c (show g ≠ 0 by omega)
  have h1 := Int.emod_lt_of_pos c hg
  have e2 : -1 - c = (g - 1 - c % g) + g * (-1 - c / g) := by
    rw [Int.mul_sub]
    omega
  rw [e2, div_shift _ _ _ hg, Int.ediv_eq_zero_of_lt (by omega) (by omega)]
  omega
theorem red_mirror (p q c : Int) (h : 1 ≤ q) : (q - 1 - c) / gg p q = q / gg p q - 1 - c / gg p q := by
  have hg := gg_pos (p := p) h
  have e : q - 1 - c = (-1 - c) + gg p q * (q / gg p q) := by
    rw [← gg_q]
    omega
  rw [e, div_shift _ _ _ hg, div_neg1 _ _ hg]
  omega
end Lf
namespace Lf
theorem gg1 {p q : Int} (h : Int.gcd p q = 1) : gg p q = 1 := by
  unfold gg
  rw [h]
  rfl
theorem thin2 (p q c j k : Int) (h : 1 ≤ q * j) (hk : 1 ≤ k) :
    p / gg p (q * j) / gg (p / gg p (q * j)) (q * j / gg p (q * j) * k) = p / gg p (q * (j * k)) ∧
    q * j / gg p (q * j) * k / gg (p / gg p (q * j)) (q * j / gg p (q * j) * k) = q * (j * k) / gg p (q * (j * k)) ∧
    c / gg p (q * j) / gg (p / gg p (q * j)) (q * j / gg p (q * j) * k) = c / gg p (q * (j * k)) := by
  have e : q * (j * k) = k * (q * j) := by rw [← Int.mul_assoc, Int.mul_comm]
  have h1 := red_p p (q * j) 1 k h hk
  have h2 := red_q p (q * j) 1 k h hk
  have h3 := red_c p (q * j) 1 k c h hk
  simp only [Int.one_mul] at h1 h2 h3
  rw [Int.mul_comm (q * j / gg p (q * j)) k, e]
  exact ⟨h1, h2, h3⟩
theorem sample2 (p q c j k : Int) (h : 1 ≤ q) :
    p * j / gg (p * j) q * k / gg (p * j / gg (p * j) q * k) (q / gg (p * j) q) = p * (j * k) / gg (p * (j * k)) q ∧
    q / gg (p * j) q / gg (p * j / gg (p * j) q * k) (q / gg (p * j) q) = q / gg (p * (j * k)) q ∧
    c / gg (p * j) q / gg (p * j / gg (p * j) q * k) (q / gg (p * j) q) = c / gg (p * (j * k)) q := by
  have e : p * (j * k) = k * (p * j) := by rw [← Int.mul_assoc, Int.mul_comm]
  have h1 := red_p (p * j) q k 1 h (by decide)
  have h2 := red_q (p * j) q k 1 h (by decide)
  have h3 := red_c (p * j) q k 1 c h (by decide)
  simp only [Int.one_mul] at h1 h2 h3
  rw [Int.mul_comm (p * j / gg (p * j) q) k, e]
  exact ⟨h1, h2, h3⟩
theorem both2 (p q c k : Int) (h : 1 ≤ q) (hk : 1 ≤ k) :
    p * k / gg (p * k) q / gg (p * k / gg (p * k) q) (q / gg (p * k) q * k) = k * p / gg (k * p) (k * q) ∧
    q / gg (p * k) q * k / gg (p * k / gg (p * k) q) (q / gg (p * k) q * k) = k * q / gg (k * p) (k * q) ∧
    c / gg (p * k) q / gg (p * k / gg (p * k) q) (q / gg (p * k) q * k) = c / gg (k * p) (k * q) := by
  have h1 := red_p (p * k) q 1 k h hk
  have h2 := red_q (p * k) q 1 k h hk
  have h3 := red_c (p * k) q 1 k c h hk
  simp only [Int.one_mul] at h1 h2 h3
  rw [Int.mul_comm (q / gg (p * k) q) k, Int.mul_comm k p]
  exact ⟨h1, h2, h3⟩
theorem one_le_mul {x y : Int} (h : 1 ≤ x) (h2 : 1 ≤ y) : 1 ≤ x * y := by
  have := Int.mul_le_mul h h2 (by decide) (by omega)
  omega
end Lf
namespace Lf
/-! ### sums over ranges -/
theorem fs_add (n m : Nat) (a b q : Int) : fs (n + m) a b q = fs n a b q + fs m a (a * n + b) q := by
  induction m with
  | zero => show fs n a b q = fs n a b q + 0; omega
  | succ m ih =>
    show fs (n + m) a b q + (a * ((n + m : Nat) : Int) + b) / q = fs n a b q + (fs m a (a * n + b) q + (a * m + (a * n + b)) / q)
    rw [ih, show a * ((n + m : Nat) : Int) + b = a * m + (a * n + b) by rw [Int.natCast_add, Int.mul_add]; omega]
    omega
/-- two neighbouring ranges -/
theorem fs_split (p q c s m e : Int) (h1 : s ≤ m) (h2 : m ≤ e) : fs (m - s).toNat p (p * s + c) q + fs (e - m).toNat p (p * m + c) q = fs (e - s).toNat p (p * s + c) q := by
  have e1 : (e - s).toNat = (m - s).toNat + (e - m).toNat := by omega
  rw [e1, fs_add, show ((m - s).toNat : Int) = m - s by omega, show p * (m - s) + (p * s + c) = p * m + c by rw [Int.mul_sub]; omega]
theorem fs_one (p b q : Int) : fs 1 p b q = b / q := by
  show 0 + (p * ((0 : Nat) : Int) + b) / q = b / q
  simp
/-- one step of the offset: a term grows by one exactly where the divisor divides -/
theorem step_div (x q : Int) (h : 0 < q) : (x + 1) / q = x / q + (if (x + 1) % q = 0 then 1 else 0) := by
  have e := Int.emod_add_mul_ediv x q
  have h0 := Int.emod_nonneg x (show q ≠ 0 by omega)
  have h1 := Int.emod_lt_of_pos x h
  by_cases hc : x % q + 1 = q
  · have e2 : x + 1 = 0 + q * (x / q + 1) := by rw [Int.mul_add]; omega
    have e3 : (x + 1) % q = 0 := by rw [e2, Int.zero_add, Int.mul_emod_right]
    rw [if_pos e3, e2, div_shift _ _ _ h, Int.zero_ediv]
    omega
  · have e2 : x + 1 = (x % q + 1) + q * (x / q) := by omega
    have e3 : (x + 1) % q = x % q + 1 := by
      rw [e2, Int.add_mul_emod_self_left]
      exact Int.emod_eq_of_lt (by omega) (by omega)
    rw [if_neg (by omega)]
    rw [e2, div_shift _ _ _ h, Int.ediv_eq_zero_of_lt (by omega) (by omega)]
    omega
theorem hit_once (p q b : Int) (hg : Int.gcd p q = 1) (i j : Int) (hi : 0 ≤ i) (hij : i < j) (hj : j < q) (h1 : (p * i + b) % q = 0) (h2 : (p * j + b) % q = 0) : False := by
  have d1 := Int.dvd_of_emod_eq_zero h1
  have d2 := Int.dvd_of_emod_eq_zero h2
  have d3 : q ∣ p * (j - i) := by
    have := Int.dvd_sub d2 d1
    rw [show p * j + b - (p * i + b) = p * (j - i) by rw [Int.mul_sub]; omega] at this
    exact this
  have d4 : q ∣ j - i := by
    have n1 : q.natAbs ∣ p.natAbs * (j - i).natAbs := by
      rw [← Int.natAbs_mul]
      exact Int.natAbs_dvd_natAbs.mpr d3
    have n2 : Nat.Coprime q.natAbs p.natAbs := by
      unfold Nat.Coprime
      rw [Nat.gcd_comm]
      exact hg
    exact Int.natAbs_dvd_natAbs.mp (Nat.Coprime.dvd_of_dvd_mul_left n2 n1)
  have := Int.le_of_dvd (by omega) d4
  omega
theorem fs_step_le (p q b : Int) (hq : 0 < q) (hg : Int.gcd p q = 1) (n : Nat) (hn : (n : Int) ≤ q) :
    fs n p (b + 1) q - fs n p b q = 0 ∧ (∀ i : Nat, i < n → (p * i + (b + 1)) % q ≠ 0) ∨ fs n p (b + 1) q - fs n p b q = 1 ∧ (∃ i : Nat, i < n ∧ (p * i + (b + 1)) % q = 0) := by
  induction n with
  | zero => exact .inl ⟨rfl, fun i h => absurd h (by omega)⟩
  | succ n ih =>
    have e : fs (n + 1) p (b + 1) q - fs (n + 1) p b q = (fs n p (b + 1) q - fs n p b q) + ((p * n + (b + 1)) / q - (p * n + b) / q) := by
      show fs n p (b + 1) q + (p * n + (b + 1)) / q - (fs n p b q + (p * n + b) / q) = _
      omega
    have s := step_div (p * n + b) q hq
    rw [show p * (n : Int) + b + 1 = p * n + (b + 1) by omega] at s
    rw [e]
    rcases ih (by omega) with ⟨h1, h2⟩ | ⟨h1, i, hi, h2⟩
    · by_cases hc : (p * (n : Int) + (b + 1)) % q = 0
      · rw [if_pos hc] at s
        exact .inr ⟨by omega, n, by omega, hc⟩
      · rw [if_neg hc] at s
        refine .inl ⟨by omega, fun i hi => ?_⟩
        by_cases hin : i = n
        · subst hin; exact hc
        · exact h2 i (by omega)
    · have hc : ¬ (p * (n : Int) + (b + 1)) % q = 0 := fun z => hit_once p q (b + 1) hg i n (by omega) (by omega) (by omega) h2 z
      rw [if_neg hc] at s
      exact .inr ⟨by omega, i, by omega, h2⟩
theorem fs_step (p q b : Int) (hq : 0 < q) (hg : Int.gcd p q = 1) : fs q.toNat p (b + 1) q = fs q.toNat p b q + 1 := by
  have hle : ∀ b, fs q.toNat p (b + 1) q - fs q.toNat p b q ≤ 1 := fun b => by
    rcases fs_step_le p q b hq hg q.toNat (by omega) with ⟨h, _⟩ | ⟨h, _⟩ <;> omega
  have many : ∀ (k : Nat) (b : Int), fs q.toNat p (b + k) q - fs q.toNat p b q ≤ k := fun k => by
    induction k with
    | zero => intro b; simp
    | succ k ih =>
      intro b
      have h1 := ih b
      have h2 := hle (b + k)
      rw [show b + ((k + 1 : Nat) : Int) = b + k + 1 by omega]
      omega
  have up := fs_up q.toNat p b q hq
  have h1 := many (q.toNat - 1) (b + 1)
  rw [show b + 1 + ((q.toNat - 1 : Nat) : Int) = b + q by omega] at h1
  have h2 := hle b
  omega
theorem fs_from (p q : Int) (hq : 0 < q) (hg : Int.gcd p q = 1) (k : Nat) (b : Int) : fs q.toNat p (b + k) q = fs q.toNat p b q + k := by
  induction k with
  | zero => simp
  | succ k ih =>
    rw [show b + ((k + 1 : Nat) : Int) = b + k + 1 by omega, fs_step p q _ hq hg, ih]
    omega
theorem fs_any (p q b : Int) (hq : 0 < q) (hg : Int.gcd p q = 1) : fs q.toNat p b q = fs q.toNat p 0 q + b := by
  rcases Int.lt_or_le b 0 with h | h
  · have := fs_from p q hq hg (-b).toNat b
    rw [show b + ((-b).toNat : Int) = 0 by omega] at this
    omega
  · have := fs_from p q hq hg b.toNat 0
    rw [show 0 + (b.toNat : Int) = b by omega] at this
    omega
/-- terms in reverse order -/
theorem fs_rev (n : Nat) (a b q : Int) : fs n a b q = fs n (-a) (a * (n - 1) + b) q := by
  induction n with
  | zero => rfl
  | succ n ih =>
    rw [fs_first n (-a)]
    show fs n a b q + (a * n + b) / q = _
    rw [ih, show a * (((n + 1 : Nat) : Int) - 1) + b = a * n + b by rw [show ((n + 1 : Nat) : Int) - 1 = n by omega],
      show a * (n : Int) + b + -a = a * (n - 1) + b by rw [Int.mul_sub]; omega]
    omega
/-- negated terms -/
theorem fs_neg (n : Nat) (a b q : Int) (hq : 0 < q) : fs n (-a) (-b) q = - fs n a (b + q - 1) q := by
  induction n with
  | zero => rfl
  | succ n ih =>
    show fs n (-a) (-b) q + (-a * n + -b) / q = - (fs n a (b + q - 1) q + (a * n + (b + q - 1)) / q)
    rw [ih]
    have h1 := div_neg1 (a * n + (b - 1)) q hq
    have h2 := div_shift (a * n + (b - 1)) 1 q hq
    rw [show -1 - (a * (n : Int) + (b - 1)) = -a * n + -b by rw [Int.neg_mul]; omega] at h1
    rw [show a * (n : Int) + (b - 1) + q * 1 = a * n + (b + q - 1) by omega] at h2
    omega
theorem fs_cycle (p q b : Int) (hq : 0 < q) (hg : Int.gcd p q = 1) : fs q.toNat p b q = b + (p - 1) * (q - 1) / 2 := by
  have h0 := fs_any p q b hq hg
  have r := fs_rev q.toNat p 0 q
  have ng := fs_neg q.toNat p (-(p * (q - 1))) q hq
  rw [show ((q.toNat : Nat) : Int) = q by omega, Int.add_zero] at r
  rw [Int.neg_neg] at ng
  have h2 := fs_any p q (-(p * (q - 1)) + q - 1) hq hg
  have key : 2 * fs q.toNat p 0 q = (p - 1) * (q - 1) := by
    have e : (p - 1) * (q - 1) = p * (q - 1) - (q - 1) := by rw [Int.sub_mul, Int.one_mul]
    omega
  have : (p - 1) * (q - 1) / 2 = fs q.toNat p 0 q := by
    rw [← key, Int.mul_ediv_cancel_left _ (by decide)]
  omega
/-- Hermite's identity -/
theorem fs_hermite (k y : Int) (hk : 0 < k) : fs k.toNat 1 y k = y := by
  have := fs_cycle 1 k y hk (by simp [Int.gcd])
  rw [this]
  simp
/-- mirrored -/
theorem fs_mirror (n : Nat) (p q c s : Int) (hq : 0 < q) : fs n p (p * (1 - (s + n)) + (q - 1 - c)) q = - fs n p (p * s + c) q := by
  induction n with
  | zero => rfl
  | succ n ih =>
    rw [fs_first]
    show _ = -(fs n p (p * s + c) q + (p * n + (p * s + c)) / q)
    have e1 : p * (1 - (s + ((n + 1 : Nat) : Int))) + (q - 1 - c) + p = p * (1 - (s + n)) + (q - 1 - c) := by
      rw [show (1 - (s + ((n + 1 : Nat) : Int))) = (1 - (s + n)) - 1 by omega, Int.mul_sub p _ 1]
      omega
    rw [e1, ih]
    have h1 := div_neg1 (p * n + (p * s + c)) q hq
    have h2 := div_shift (-1 - (p * n + (p * s + c))) 1 q hq
    rw [show -1 - (p * (n : Int) + (p * s + c)) + q * 1 = p * (1 - (s + ((n + 1 : Nat) : Int))) + (q - 1 - c) by
      rw [show (1 - (s + ((n + 1 : Nat) : Int))) = -(n : Int) - s by omega, Int.mul_sub, Int.mul_neg]; omega] at h2
    omega
theorem fs_lowest (n : Nat) (p q c s : Int) (hq : 1 ≤ q) : fs n (p / gg p q) (p / gg p q * s + c / gg p q) (q / gg p q) = fs n p (p * s + c) q := by
  have hg := gg_pos (p := p) hq
  induction n with
  | zero => rfl
  | succ n ih =>
    show fs n (p / gg p q) (p / gg p q * s + c / gg p q) (q / gg p q) + (p / gg p q * n + (p / gg p q * s + c / gg p q)) / (q / gg p q) = fs n p (p * s + c) q + (p * n + (p * s + c)) / q
    rw [ih]
    have e1 : p / gg p q * n + (p / gg p q * s + c / gg p q) = (p * n + (p * s + c)) / gg p q := by
      have : p * n + (p * s + c) = c + gg p q * (p / gg p q * n + p / gg p q * s) := by
        rw [Int.mul_add, ← Int.mul_assoc, ← Int.mul_assoc, ← gg_p]
        omega
      rw [this, div_shift _ _ _ hg]
      omega
    have e2 : (p * n + (p * s + c)) / gg p q / (q / gg p q) = (p * n + (p * s + c)) / q := by
      rw [Int.ediv_ediv_of_nonneg (Int.le_of_lt hg), ← gg_q]
    rw [e1, e2]
theorem sum_map_add {α : Type} (l : List α) (f g : α → Int) : (l.map fun x => f x + g x).sum = (l.map f).sum + (l.map g).sum := by
  induction l with
  | nil => rfl
  | cons x r ih => simp only [List.map_cons, List.sum_cons, ih]; omega
theorem range_fs (k : Nat) (a b q : Int) : ((List.range k).map fun (j : Nat) => (a * j + b) / q).sum = fs k a b q := by
  induction k with
  | zero => rfl
  | succ k ih =>
    rw [List.range_succ, List.map_append, List.sum_append, ih]
    show _ + ((a * k + b) / q + 0) = fs k a b q + (a * k + b) / q
    omega
theorem fs_thin (n : Nat) (p q b k : Int) (hq : 0 < q) (hk : 0 < k) : ((List.range k.toNat).map fun (j : Nat) => fs n p (b + q * j) (q * k)).sum = fs n p b q := by
  induction n with
  | zero =>
    show ((List.range k.toNat).map fun _ => (0 : Int)).sum = 0
    induction k.toNat with
    | zero => rfl
    | succ m ih => rw [List.range_succ, List.map_append, List.sum_append, ih]; rfl
  | succ n ih =>
    have e : (List.range k.toNat).map (fun (j : Nat) => fs (n + 1) p (b + q * j) (q * k)) = (List.range k.toNat).map (fun (j : Nat) => fs n p (b + q * j) (q * k) + (1 * (j : Int) + (p * n + b) / q) / k) := by
      apply List.map_congr_left
      intro j _
      show fs n p (b + q * j) (q * k) + (p * n + (b + q * j)) / (q * k) = _
      rw [← Int.ediv_ediv_of_nonneg (Int.le_of_lt hq), show p * (n : Int) + (b + q * j) = (p * n + b) + q * j by omega, div_shift _ _ _ hq, Int.one_mul, Int.add_comm]
      rw [Int.add_comm (j : Int)]
      omega
    rw [e, sum_map_add, ih, range_fs, fs_hermite _ _ hk]
    rfl
theorem fs_sample (n : Nat) (p q b k : Int) (hk : 0 ≤ k) : ((List.range k.toNat).map fun (j : Nat) => fs n (p * k) (b + p * j) q).sum = fs (k.toNat * n) p b q := by
  induction n with
  | zero =>
    show ((List.range k.toNat).map fun _ => (0 : Int)).sum = 0
    induction k.toNat with
    | zero => rfl
    | succ m ih => rw [List.range_succ, List.map_append, List.sum_append, ih]; rfl
  | succ n ih =>
    have e : (List.range k.toNat).map (fun (j : Nat) => fs (n + 1) (p * k) (b + p * j) q) = (List.range k.toNat).map (fun (j : Nat) => fs n (p * k) (b + p * j) q + (p * (j : Int) + (p * ((k.toNat * n : Nat) : Int) + b)) / q) := by
      apply List.map_congr_left
      intro j _
      show fs n (p * k) (b + p * j) q + (p * k * n + (b + p * j)) / q = _
      rw [Int.natCast_mul, show ((k.toNat : Nat) : Int) = k by omega, ← Int.mul_assoc]
      rw [show p * k * (n : Int) + (b + p * j) = p * j + (p * k * n + b) by omega]
    rw [e, sum_map_add, ih, range_fs, Nat.mul_succ, fs_add]
end Lf
namespace Lf
theorem fs_lin (n : Nat) (a b m i j : Int) (hm : 0 < m) : fs n (a + i * m) (b + j * m) m = fs n a b m + i * tri n + j * n := by
  induction n with
  | zero => simp [fs, tri_zero]
  | succ n ih =>
    show fs n (a + i * m) (b + j * m) m + ((a + i * m) * n + (b + j * m)) / m = fs n a b m + (a * n + b) / m + i * tri ((n + 1 : Nat) : Int) + j * ((n + 1 : Nat) : Int)
    rw [ih, show (a + i * m) * (n : Int) + (b + j * m) = (a * n + b) + m * (i * n + j) by
      rw [Int.add_mul, Int.mul_add, Int.mul_comm i m, Int.mul_assoc, Int.mul_comm j m]; omega, div_shift _ _ _ hm, Int.natCast_add, Int.natCast_one, tri_succ, Int.mul_add, Int.mul_add]
    omega
theorem fs_scale (n : Nat) (a b m k : Int) (hk : 0 < k) : fs n (a * k) (b * k) (m * k) = fs n a b m := by
  induction n with
  | zero => rfl
  | succ n ih =>
    show fs n (a * k) (b * k) (m * k) + (a * k * n + b * k) / (m * k) = fs n a b m + (a * n + b) / m
    rw [ih, show a * k * (n : Int) + b * k = (a * n + b) * k by rw [Int.add_mul, Int.mul_right_comm], Int.mul_ediv_mul_of_pos_left _ _ hk]
theorem fs_last (n a b m : Int) (hn : 0 < n) : fs n.toNat a b m - fs (n - 1).toNat a b m = (a * (n - 1) + b) / m := by
  have e : n.toNat = (n - 1).toNat + 1 := by omega
  rw [e]
  show fs (n - 1).toNat a b m + (a * ((n - 1).toNat : Int) + b) / m - fs (n - 1).toNat a b m = _
  rw [show ((n - 1).toNat : Int) = n - 1 by omega]
  omega
theorem fs_part (n k a b m : Int) (h0 : 0 ≤ k) (h1 : k ≤ n) : fs k.toNat a b m + fs (n - k).toNat a (a * k + b) m = fs n.toNat a b m := by
  rw [show n.toNat = k.toNat + (n - k).toNat by omega, fs_add, show ((k.toNat : Nat) : Int) = k by omega]
theorem Bd.grow3 {k : Nat} {r d : Int} (h0 : 0 ≤ r) (h : Bd k r) (d0 : 0 ≤ d) (d1 : d < 1000) : Bd (k + 10) (1000 * r + d) := by
  unfold Bd at *
  have e : (2 : Nat) ^ (k + 10) = 2 ^ k * 1024 := by rw [Nat.pow_add]
  rw [e]
  generalize (2 : Nat) ^ k = m at h
  omega
theorem Bd.grow1 {k : Nat} {r d : Int} (h0 : 0 ≤ r) (h : Bd k r) (d0 : 0 ≤ d) (d1 : d < 10) : Bd (k + 4) (10 * r + d) := by
  unfold Bd at *
  have e : (2 : Nat) ^ (k + 4) = 2 ^ k * 16 := by rw [Nat.pow_add]
  rw [e]
  generalize (2 : Nat) ^ k = m at h
  omega
end Lf
namespace Lf
/-! ### events -/
theorem gal {p q : Int} (c m t : Int) (hp : 1 ≤ p) (hq : 1 ≤ q) : m ≤ (p * t + c) / q ↔ (q * m + (p - 1 - c)) / p ≤ t := by
  rw [Int.le_ediv_iff_mul_le (by omega), ← Int.lt_add_one_iff (a := (q * m + (p - 1 - c)) / p), Int.ediv_lt_iff_lt_mul (by omega), Int.mul_comm m q, Int.add_mul, Int.one_mul, Int.mul_comm t p]
  omega
theorem ct_mono {p q c s t : Int} (hp : 0 ≤ p) (hq : 1 ≤ q) (h : s ≤ t) : (p * s + c) / q ≤ (p * t + c) / q := by
  apply Int.ediv_le_ediv (by omega)
  have := Int.mul_le_mul_of_nonneg_left h hp
  omega
theorem ev_at {p q c m t : Int} (hp : 1 ≤ p) (hq : 1 ≤ q) (h1 : (p * (t - 1) + c) / q < m) (h2 : m ≤ (p * t + c) / q) : (q * m + (p - 1 - c)) / p = t := by
  have a := (gal c m t hp hq).mp h2
  have b : ¬ (q * m + (p - 1 - c)) / p ≤ t - 1 := fun h => by
    have := (gal c m (t - 1) hp hq).mpr h
    omega
  omega
theorem fs_const (k : Nat) (a b m v : Int) (h : ∀ i : Nat, i < k → (a * i + b) / m = v) : fs k a b m = k * v := by
  induction k with
  | zero => simp [fs]
  | succ k ih =>
    show fs k a b m + (a * k + b) / m = ((k + 1 : Nat) : Int) * v
    rw [ih (fun i hi => h i (by omega)), h k (by omega), Int.natCast_add, Int.natCast_one, Int.add_mul]
    omega
/-- the sum of the counts of a range by the times of its events -/
theorem fs_dual (p q c s : Int) (hp : 1 ≤ p) (hq : 1 ≤ q) (n : Nat) :
    fs n p (p * s + c) q = n * ((p * (s - 1) + c) / q) + ((p * (s + n - 1) + c) / q - (p * (s - 1) + c) / q) * (s + n) - fs ((p * (s + n - 1) + c) / q - (p * (s - 1) + c) / q).toNat q (q * ((p * (s - 1) + c) / q + 1) + (p - 1 - c)) p := by
  induction n with
  | zero =>
    rw [show s + ((0 : Nat) : Int) - 1 = s - 1 by omega, Int.sub_self]
    simp [fs]
  | succ n ih =>
    show fs n p (p * s + c) q + (p * n + (p * s + c)) / q = _
    rw [ih]
    have e0 : p * (n : Int) + (p * s + c) = p * (s + ((n + 1 : Nat) : Int) - 1) + c := by
      rw [show s + ((n + 1 : Nat) : Int) - 1 = s + n by omega, Int.mul_add]
      omega
    rw [e0]
    have m1 : (p * (s - 1) + c) / q ≤ (p * (s + n - 1) + c) / q := ct_mono (by omega) hq (by omega)
    have m2 : (p * (s + n - 1) + c) / q ≤ (p * (s + ((n + 1 : Nat) : Int) - 1) + c) / q := ct_mono (by omega) hq (by omega)
    have key : ∀ i : Nat, (i : Int) < (p * (s + ((n + 1 : Nat) : Int) - 1) + c) / q - (p * (s + n - 1) + c) / q → (q * ((p * (s + n - 1) + c) / q + 1 + i) + (p - 1 - c)) / p = s + n := fun i hi => by
      apply ev_at hp hq
      · show (p * (s + n - 1) + c) / q < _
        omega
      · rw [show s + (n : Int) = s + ((n + 1 : Nat) : Int) - 1 by omega] at *
        omega
    generalize hl : (p * (s - 1) + c) / q = low at *
    generalize hh : (p * (s + n - 1) + c) / q = hi at *
    generalize hh2 : (p * (s + ((n + 1 : Nat) : Int) - 1) + c) / q = hi2 at *
    rw [show (hi2 - low).toNat = (hi - low).toNat + (hi2 - hi).toNat by omega, fs_add, show ((hi - low).toNat : Int) = hi - low by omega]
    have fc := fs_const (hi2 - hi).toNat q (q * (hi - low) + (q * (low + 1) + (p - 1 - c))) p (s + n) (fun i h => by
      have := key i (by omega)
      rw [show q * (i : Int) + (q * (hi - low) + (q * (low + 1) + (p - 1 - c))) = q * (hi + 1 + i) + (p - 1 - c) by
        have : q * (hi + 1 + i) = q * i + q * (hi - low) + q * (low + 1) := by rw [← Int.mul_add, ← Int.mul_add]; congr 1; omega
        omega]
      exact this)
    rw [fc, show ((hi2 - hi).toNat : Int) = hi2 - hi by omega]
    rw [show s + ((n + 1 : Nat) : Int) = s + n + 1 by omega, show ((n + 1 : Nat) : Int) = n + 1 by omega]
    generalize s + (n : Int) = x
    have e3 : (hi2 - low) * (x + 1) = hi2 * x - low * x + hi2 - low := by rw [Int.mul_add, Int.sub_mul]; omega
    have e4 : (hi - low) * x = hi * x - low * x := by rw [Int.sub_mul]
    have e5 : (hi2 - hi) * x = hi2 * x - hi * x := by rw [Int.sub_mul]
    have e6 : ((n : Int) + 1) * low = n * low + low := by rw [Int.add_mul, Int.one_mul]
    rw [e3, e4, e5, e6]
    omega
theorem ct_fast {p q c s : Int} (hq : 1 ≤ q) (h : q ≤ p) (n : Nat) : (n : Int) ≤ (p * (s + n) + c) / q - (p * s + c) / q := by
  induction n with
  | zero => simp
  | succ n ih =>
    have : (p * (s + n) + c) / q + 1 ≤ (p * (s + ((n + 1 : Nat) : Int)) + c) / q := by
      have e := div_shift (p * (s + n) + c) 1 q (by omega)
      rw [← e]
      apply Int.ediv_le_ediv (by omega)
      rw [show s + ((n + 1 : Nat) : Int) = s + n + 1 by omega, Int.mul_add p (s + n) 1]
      omega
    omega
theorem ct_slow {p q c s : Int} (hq : 1 ≤ q) (h : p ≤ q) (n : Nat) : (p * (s + n) + c) / q - (p * s + c) / q ≤ n := by
  induction n with
  | zero => simp
  | succ n ih =>
    have : (p * (s + ((n + 1 : Nat) : Int)) + c) / q ≤ (p * (s + n) + c) / q + 1 := by
      have e := div_shift (p * (s + n) + c) 1 q (by omega)
      rw [← e]
      apply Int.ediv_le_ediv (by omega)
      rw [show s + ((n + 1 : Nat) : Int) = s + n + 1 by omega, Int.mul_add p (s + n) 1]
      omega
    omega
end Lf

namespace Lf
open PySem PySem.Spec PyProof.Rows L2
def topS (i : Nat) : Stmt := PySem.Challenge.pw_leapfit_k56_whole_simplest_fractions_far.main.body.getD i (.Pass ⟨0, 0, 0, 0⟩)
/-! ### heaps -/
theorem len10 {n : Nat} (h : n ≤ 1000) : n ≤ sizeLine := Nat.le_of_lt (small1000 h)
def penD (l : Addr) (t r : Int) : List (Key × V) := [(Sum.inr "cells", .ref l), (Sum.inr "turn", .int t), (Sum.inr "left", .int r)]
/-- all but the source's own dict stays -/
structure Fr (H H' : Hp) : Prop where
  k : ∀ b o, H b = some o → (∀ x : Addr × Int × Int, o ≠ .dK (penD x.1 x.2.1 x.2.2)) → H' b = some o
theorem Fr.t {H H' : Hp} (f : Fr H H') (b : Addr) (xs : List V) (h : H b = some (.tup xs)) : H' b = some (.tup xs) := f.k b _ h fun _ z => by cases z
theorem Fr.l {H H' : Hp} (f : Fr H H') (b : Addr) (xs : List V) (h : H b = some (.lst xs)) : H' b = some (.lst xs) := f.k b _ h fun _ z => by cases z
theorem Fr.refl (H : Hp) : Fr H H := ⟨fun _ _ h _ => h⟩
theorem Fr.trans {H H1 H2 : Hp} (a : Fr H H1) (b : Fr H1 H2) : Fr H H2 := ⟨fun c o h n => b.k c o (a.k c o h n) n⟩
theorem Fr.same {H H1 : Hp} (a : Same H H1) : Fr H H1 := ⟨fun c o h _ => a c _ h⟩
theorem sm_upd {H : Hp} {p : Addr} {o : HO} (h : H p = none) : Same H (upd H p o) := fun b x e => by
  rw [upd_ne (ne_of_none e h)]
  exact e
theorem Fr.new {H : Hp} {p : Addr} {o : HO} (h : H p = none) : Fr H (upd H p o) := Fr.same (sm_upd h)
theorem Fr.dict {H : Hp} {p l : Addr} {t r : Int} {o : HO} (h : H p = some (.dK (penD l t r))) : Fr H (upd H p o) :=
  ⟨fun b o e n => by rw [upd_ne (ne_of e h (n (l, t, r)))]; exact e⟩
theorem Fr.d0 {H H' : Hp} (f : Fr H H') (b : Addr) (h : H b = some (.dK [])) : H' b = some (.dK []) := f.k b _ h fun _ z => by cases z
/-! ### the source of numbers -/
theorem sct : ¬ ("cells" : Str) = "turn" := by decide +kernel
theorem scr : ¬ ("cells" : Str) = "left" := by decide +kernel
theorem str_ : ¬ ("turn" : Str) = "left" := by decide +kernel
theorem srt : ¬ ("left" : Str) = "turn" := by decide +kernel
theorem kct : ¬ (Sum.inr ("cells" : Str) : Key) = Sum.inr ("turn" : Str) := fun h => sct (Sum.inr.inj h)
theorem kcr : ¬ (Sum.inr ("cells" : Str) : Key) = Sum.inr ("left" : Str) := fun h => scr (Sum.inr.inj h)
theorem ktr : ¬ (Sum.inr ("turn" : Str) : Key) = Sum.inr ("left" : Str) := fun h => str_ (Sum.inr.inj h)
theorem krt : ¬ (Sum.inr ("left" : Str) : Key) = Sum.inr ("turn" : Str) := fun h => srt (Sum.inr.inj h)
theorem dg_rest {H : Hp} {a l : Addr} {t r : Int} (h : H a = some (.dK (penD l t r))) : DGet H a (.str "left") (some (.int r)) := by
  have e : valV (penD l t r) (Sum.inr "left" : Key) = some (.int r) := by
    unfold penD
    rw [valV_neg kcr, valV_neg ktr, valV_pos rfl]
  rw [← e]
  exact DGet.k (k := Sum.inr "left") h
theorem dg_turn {H : Hp} {a l : Addr} {t r : Int} (h : H a = some (.dK (penD l t r))) : DGet H a (.str "turn") (some (.int t)) := by
  have e : valV (penD l t r) (Sum.inr "turn" : Key) = some (.int t) := by
    unfold penD
    rw [valV_neg kct, valV_pos rfl]
  rw [← e]
  exact DGet.k (k := Sum.inr "turn") h
theorem dg_cells {H : Hp} {a l : Addr} {t r : Int} (h : H a = some (.dK (penD l t r))) : DGet H a (.str "cells") (some (.ref l)) := by
  have e : valV (penD l t r) (Sum.inr "cells" : Key) = some (.ref l) := by
    unfold penD
    rw [valV_pos rfl]
  rw [← e]
  exact DGet.k (k := Sum.inr "cells") h
theorem dp_rest {H : Hp} {a l : Addr} {t r y : Int} (h : H a = some (.dK (penD l t r))) : DPut H a (.str "left") (.int y) (upd H a (.dK (penD l t y))) := by
  have e : putK (penD l t r) (Sum.inr "left" : Key) (.int y) = penD l t y := by
    simp [putK, penD, scr, str_]
  rw [← e]
  exact DPut.k (k := Sum.inr "left") h (by show 3 < sizeLine; exact small1000 (by decide))
theorem dp_turn {H : Hp} {a l : Addr} {t r y : Int} (h : H a = some (.dK (penD l t r))) : DPut H a (.str "turn") (.int y) (upd H a (.dK (penD l y r))) := by
  have e : putK (penD l t r) (Sum.inr "turn" : Key) (.int y) = penD l y r := by
    simp [putK, penD, sct, srt]
  rw [← e]
  exact DPut.k (k := Sum.inr "turn") h (by show 3 < sizeLine; exact small1000 (by decide))
/-- where the source stands: its dict, its list of cells -/
structure PA where
  d : Addr
  l : Addr
instance : Coe PA Addr := ⟨PA.d⟩
structure Pen (H : Hp) (a : PA) (n : Nat) : Prop where
  ex : ∃ (cs : List Int) (t r : Int), H a.d = some (.dK (penD a.l t r)) ∧ H a.l = some (.lst (cs.map V.int)) ∧ cs.length ≤ 63 ∧ 0 ≤ t ∧ t ≤ n ∧ 0 ≤ r
theorem Pen.same {H H' : Hp} {a : PA} {n : Nat} (p : Pen H a n) (s : Same H H') : Pen H' a n := by
  obtain ⟨cs, t, r, h1, h2, h3⟩ := p.ex
  exact ⟨cs, t, r, s _ _ h1, s _ _ h2, h3⟩
theorem Pen.new {H : Hp} {a : PA} {p : Addr} {n : Nat} {o : HO} (q : Pen H a n) (h : H p = none) : Pen (upd H p o) a n := q.same (sm_upd h)
theorem Pen.mono {H : Hp} {a : PA} {n m : Nat} (p : Pen H a n) (h : n ≤ m) : Pen H a m := by
  obtain ⟨cs, t, r, h1, h2, h3, h4, h5, h6⟩ := p.ex
  exact ⟨cs, t, r, h1, h2, h3, h4, by omega, h6⟩
theorem Pen.put {H : Hp} {a l : Addr} {cs : List Int} {t r : Int} {n : Nat} {kvs : List (Key × V)} (ha : H a = some (.dK kvs)) (hl : H l = some (.lst (cs.map V.int))) (h1 : cs.length ≤ 63) (h2 : 0 ≤ t) (h3 : t ≤ n) (h4 : 0 ≤ r) :
    Pen (upd H a (.dK (penD l t r))) ⟨a, l⟩ n :=
  ⟨cs, t, r, upd_same, by show upd H a _ l = _; rw [upd_ne (ne_of hl ha (by intro z; cases z))]; exact hl, h1, h2, h3, h4⟩
/-- an address that was free when the source stood already -/
theorem Pen.over {H H' : Hp} {a : PA} {L : Addr} {n m : Nat} {o : HO} (p0 : Pen H a m) (hL : H L = none) (p : Pen H' a n) : Pen (upd H' L o) a n := by
  obtain ⟨_, _, _, g1, g2, _⟩ := p0.ex
  obtain ⟨cs, t, r, h1, h2, h3⟩ := p.ex
  exact ⟨cs, t, r, by rw [upd_ne (ne_of_none g1 hL)]; exact h1, by rw [upd_ne (ne_of_none g2 hL)]; exact h2, h3⟩
theorem Fr.over {H H' : Hp} {L : Addr} {o : HO} (f : Fr H H') (hL : H L = none) : Fr H (upd H' L o) :=
  ⟨fun b o e n => by rw [upd_ne (ne_of_none e hL)]; exact f.k _ _ e n⟩
/-! ### defs by their names -/
def Df (K : PySem.W.Frag) (mg : Str → Option Value) (x : Str) (st : Stmt) (ps : List Str) : Prop := ∃ f fd, Fun K x x st f fd ∧ mg x = some (.ref f) ∧ Binds K fd ps []
structure Bi (mg : Str → Option Value) : Prop where
  len_ : mg "len" = none
  abs_ : mg "abs" = none
  list_ : mg "list" = none
  range_ : mg "range" = none
  sum_ : mg "sum" = none
  repr_ : mg "repr" = none
  max_ : mg "max" = none
  min_ : mg "min" = none
  reversed_ : mg "reversed" = none
  divmod_ : mg "divmod" = none
  isinstance_ : mg "isinstance" = none
  all_ : mg "all" = none
  int_ : mg "int" = none
  bool_ : mg "bool" = none
  tuple_ : mg "tuple" = none
  sorted_ : mg "sorted" = none
  zip_ : mg "zip" = none
theorem bt_len : bootBuiltins ("len" : Str) = Option.some (Value.builtin "len") := by decide +kernel
theorem bt_abs : bootBuiltins ("abs" : Str) = Option.some (Value.builtin "abs") := by decide +kernel
theorem bt_sum : bootBuiltins ("sum" : Str) = Option.some (Value.builtin "sum") := by decide +kernel
theorem bt_repr : bootBuiltins ("repr" : Str) = Option.some (Value.builtin "repr") := by decide +kernel
theorem bt_max : bootBuiltins ("max" : Str) = Option.some (Value.builtin "max") := by decide +kernel
theorem bt_min : bootBuiltins ("min" : Str) = Option.some (Value.builtin "min") := by decide +kernel
theorem bt_divmod : bootBuiltins ("divmod" : Str) = Option.some (Value.builtin "divmod") := by decide +kernel
theorem bt_isinstance : bootBuiltins ("isinstance" : Str) = Option.some (Value.builtin "isinstance") := by decide +kernel
theorem bt_all : bootBuiltins ("all" : Str) = Option.some (Value.builtin "all") := by decide +kernel
theorem bt_sorted : bootBuiltins ("sorted" : Str) = Option.some (Value.builtin "sorted") := by decide +kernel
theorem bt_list : bootBuiltins ("list" : Str) = Option.some (Value.type "list") := by decide +kernel
theorem bt_int : bootBuiltins ("int" : Str) = Option.some (Value.type "int") := by decide +kernel
theorem bt_bool : bootBuiltins ("bool" : Str) = Option.some (Value.type "bool") := by decide +kernel
theorem bt_tuple : bootBuiltins ("tuple" : Str) = Option.some (Value.type "tuple") := by decide +kernel
section
variable {P : Program} {w : World} {K : PySem.W.Frag} {mg : Str → Option Value} {base : Heap}
theorem cal_of {x : Str} {st : Stmt} {N ps : List Str} {k : Nat} {sp : Sp} (D : Df K mg x st ps) (S : FnScope N ps (defScope st)) (len : ∀ vs H Q E, sp vs H Q E → vs.length = ps.length)
    (hb : ∀ (f : Addr) (cdv : Value) (A : Around) (outer : List Env) (s : Shared) (H : Hp) (vs : List V) (Q : VK) (E : XK), Room k (A.deeper (envOfC x (defScope st) s.heap.objs.size f cdv)) → sp vs H Q E →
      ∃ t, PSs (cxOf CX0 P w K mg base N x (defScope st) f cdv A outer s H E).nox (defBody st) t ∧ t { nx := fun _ H' => Q .non H', rt := Q } (start N vs) H) : C8.Cal P w K mg base (k + 1) x sp [] := by
  obtain ⟨f, fd, F, hm, b⟩ := D
  exact ⟨⟨f, fd, ps, [], F.ok S len (fun cdv A outer s H vs Q E hr h => hb f cdv A outer s H vs Q E hr h), hm, F.kp, b, .nil⟩⟩
/-- the same, its own row known (for calls with keywords) -/
def CalF (P : Program) (w : World) (K : PySem.W.Frag) (mg : Str → Option Value) (base : Heap) (k : Nat) (x : Str) (st : Stmt) (ps : List Str) (sp : Sp) : Prop :=
  ∃ f fd, Fun K x x st f fd ∧ mg x = some (.ref f) ∧ FnOk P w K mg base CX0 k f fd ps sp ∧ Binds K fd ps []
theorem calF_of {x : Str} {st : Stmt} {N ps : List Str} {k : Nat} {sp : Sp} (D : Df K mg x st ps) (S : FnScope N ps (defScope st)) (len : ∀ vs H Q E, sp vs H Q E → vs.length = ps.length)
    (hb : ∀ (f : Addr) (cdv : Value) (A : Around) (outer : List Env) (s : Shared) (H : Hp) (vs : List V) (Q : VK) (E : XK), Room k (A.deeper (envOfC x (defScope st) s.heap.objs.size f cdv)) → sp vs H Q E →
      ∃ t, PSs (cxOf CX0 P w K mg base N x (defScope st) f cdv A outer s H E).nox (defBody st) t ∧ t { nx := fun _ H' => Q .non H', rt := Q } (start N vs) H) : CalF P w K mg base (k + 1) x st ps sp := by
  obtain ⟨f, fd, F, hm, b⟩ := D
  exact ⟨f, fd, F, hm, F.ok S len (fun cdv A outer s H vs Q E hr h => hb f cdv A outer s H vs Q E hr h), b⟩
theorem CalF.cal {x : Str} {st : Stmt} {ps : List Str} {k : Nat} {sp : Sp} (c : CalF P w K mg base k x st ps sp) : C8.Cal P w K mg base k x sp [] := by
  obtain ⟨f, fd, F, hm, G, b⟩ := c
  exact ⟨⟨f, fd, ps, [], G, hm, F.kp, b, .nil⟩⟩
/-! ### _law_pen -/
theorem cut_ints (ns : List Int) : ∃ cs : List Int, cutV (ns.map V.int) none (some 63) = cs.map V.int ∧ cs.length ≤ 63 := by
  refine ⟨ns.take 63, ?_, by rw [List.length_take]; omega⟩
  unfold cutV
  rw [HT.sIx_none, show HT.sIx (ns.map V.int).length (ns.map V.int).length (some 63) = min 63 (ns.map V.int).length from HT.sIx_nat _ _ 63]
  rw [List.drop_zero, Nat.sub_zero, List.map_take, List.length_map]
  by_cases h : 63 ≤ ns.length
  · rw [Nat.min_eq_left h]
  · rw [Nat.min_eq_right (by omega), List.take_of_length_le (by rw [List.length_map]; omega), List.take_of_length_le (by rw [List.length_map]; omega)]
def spPen (K : PySem.W.Frag) : Sp := fun vs H Q _ => ∃ (s : Addr) (ns : List Int), vs = [.ref s] ∧ SqL K H s (ns.map V.int) ∧ ∀ (a : PA) H', Pen H' a 0 → Same H H' → Q (.ref a) H'
abbrev s_l_pen : Stmt := topS 12
abbrev N_l_pen : List Str := ["_law_script"]
abbrev P_l_pen : List Str := ["_law_script"]
theorem sc_l_pen : FnScope N_l_pen P_l_pen (defScope s_l_pen) := ⟨rfl, rfl, rfl, by decide +kernel, rfl, by decide +kernel, by decide +kernel⟩
theorem ok_l_pen (D : Df K mg "_law_pen" s_l_pen P_l_pen) (B : Bi mg) : C8.Cal P w K mg base 1 "_law_pen" (spPen K) [] := by
  refine cal_of D sc_l_pen (fun vs H Q E h => ?_) (fun f cdv A outer s H vs Q E hr h => ?_)
  · obtain ⟨a, ns, rfl, _⟩ := h
    rfl
  · obtain ⟨a, ns, rfl, hS, q⟩ := h
    refine ⟨_, (pss_one (ps_ret (pe_disp (pps_cons pe_str (pe_callTy (call_list_of) (by rfl) B.list_ bt_list (pa_cons (pe_slice sl_list (pv 0) po_none (po_some pe_int)) pa_nil)) (pps_cons pe_str pe_int (pps_cons pe_str pe_int pps_nil))) (by rfl) (by rfl) (fun z => by cases z) (by decide)))), ?_⟩
    refine fun p np => ?_
    have s1 : Same H (upd H p (.dK [])) := sm_upd np
    refine ⟨_, rfl, 63, rfl, a, _, rfl, s1.seq hS, fun c nc => ?_⟩
    obtain ⟨cs, ec, hc⟩ := cut_ints ns
    rw [ec]
    refine ⟨c, _, rfl, .inl (SqL.of upd_same), fun l nl => ?_⟩
    have ncp : p ≠ c := ne_of_none upd_same nc
    have nlc : c ≠ l := ne_of_none upd_same nl
    have nlp : p ≠ l := ne_of_none (by rw [upd_ne ncp]; exact upd_same) nl
    refine ⟨by rw [upd_ne nlp, upd_ne ncp, upd_same], penD l 0 0, rfl, by show 3 ≤ 15; decide, ?_⟩
    have e : mergeK [] (penD l 0 0) = penD l 0 0 := by
      simp [mergeK, penD, putK, sct, scr, str_]
    rw [e]
    refine q ⟨p, l⟩ _ ⟨cs, 0, 0, upd_same, ?_, hc, by omega, by omega, by omega⟩ ?_
    · show upd _ p _ l = _
      rw [upd_ne nlp.symm, upd_same]
    · intro b o eb
      have nb : b ≠ p := ne_of_none eb np
      have nb2 : b ≠ c := ne_of_none (s1 _ _ eb) nc
      have nb3 : b ≠ l := ne_of_none (sm_upd nc _ _ (s1 _ _ eb)) nl
      rw [upd_ne nb, upd_ne nb3, upd_ne nb2, upd_ne nb]
      exact eb
end
end Lf
namespace Lf
open PySem PySem.Spec PyProof.Rows L2
section
variable {P : Program} {w : World} {K : PySem.W.Frag} {mg : Str → Option Value} {base : Heap}
/-! ### _law_draw -/
theorem at_mod (cs : List Int) (t : Int) (h : cs ≠ []) : ∃ c, atI (cs.map V.int) (t % ((cs.map V.int).length : Int)) = some (.int c) := by
  have hl : 0 < cs.length := List.length_pos_iff.mpr h
  rw [List.length_map]
  have h0 := Int.emod_nonneg t (show (cs.length : Int) ≠ 0 by omega)
  have h1 := Int.emod_lt_of_pos t (show (0 : Int) < cs.length by omega)
  generalize t % (cs.length : Int) = i at h0 h1
  obtain ⟨j, rfl⟩ := Int.eq_ofNat_of_zero_le h0
  have hj : j < cs.length := by omega
  refine ⟨cs[j], atI_nat ?_⟩
  rw [List.getElem?_map, List.getElem?_eq_getElem hj]
  rfl
theorem dp_ints {K : PySem.W.Frag} {H : Hp} : ∀ cs : List Int, DpAll K H (cs.map V.int) (cs.map PyData.int)
  | [] => .nil
  | c :: r => .cons (.int c) (dp_ints r)
theorem sh_ints (cs : List Int) : SeqAt.shaped (.list (cs.map PyData.int)) = true := by
  have h : ∀ cs : List Int, PyData.canLayAll0 (cs.map PyData.int) = true ∧ PyData.depthAll (cs.map PyData.int) = 0 := by
    intro cs
    induction cs with
    | nil => exact ⟨rfl, rfl⟩
    | cons c r ih => exact ⟨by simpa [PyData.canLayAll0, PyData.canLay0] using ih.1, by simpa [PyData.depthAll, PyData.depth] using ih.2⟩
  simp [SeqAt.shaped, PyData.canLay0, PyData.depth, (h cs).1, (h cs).2]
def spDraw : Sp := fun vs H Q _ => ∃ (a : PA) (n : Nat) (many : Int), vs = [.ref a, .int many] ∧ Pen H a n ∧ n < 2 ^ 40 ∧ 0 < many ∧ Bd 9000 many ∧
  ∀ d H', 0 ≤ d → d < many → Pen H' a (n + 1) → Fr H H' → Q (.int d) H'
end
end Lf
namespace Lf
open PySem PySem.Spec PyProof.Rows L2
section
variable {P : Program} {w : World} {K : PySem.W.Frag} {mg : Str → Option Value} {base : Heap}
abbrev s_l_draw : Stmt := topS 13
abbrev N_l_draw : List Str := ["_law_pen_here", "_law_many", "_law_digit", "_law_turn", "_law_cell", "_law_mix"]
abbrev P_l_draw : List Str := ["_law_pen_here", "_law_many"]
theorem sc_l_draw : FnScope N_l_draw P_l_draw (defScope s_l_draw) := ⟨rfl, rfl, rfl, by decide +kernel, rfl, by decide +kernel, by decide +kernel⟩
theorem ok_l_draw (D : Df K mg "_law_draw" s_l_draw P_l_draw) (B : Bi mg) : C8.Cal P w K mg base 1 "_law_draw" spDraw [] := by
  refine cal_of D sc_l_draw (fun vs H Q E h => ?_) (fun f cdv A outer s H vs Q E hr h => ?_)
  · obtain ⟨a, n, many, rfl, _⟩ := h
    rfl
  · obtain ⟨⟨a, l⟩, n, many, rfl, hP, hn, h0, hb, q⟩ := h
    have hu := hu_of hr
    have hd : CDivW 0 many := ⟨h0, hb.log (by decide)⟩
    obtain ⟨cs, t, r, ea, el, hl, ht0, htn, hr0⟩ := hP.ex
    have ea : H a = some (.dK (penD l t r)) := ea
    have el : H l = some (.lst (cs.map V.int)) := el
    refine ⟨_, (pss_cons (ps_if (pt_cmpR op_gt (pe_dget hu (pv 0) pe_str (fun _ _ => rfl)) pe_int (nomark _))
      (pss_cons (ps_set (i := 2) sc_l_draw.nd rfl (Or.inl rfl) (pe_op op_mod (pe_dget hu (pv 0) pe_str (fun _ _ => rfl)) (pv 1)))
    (pss_cons (ps_dput hu (pv 0) pe_str (pe_op op_fdivW (pe_dget hu (pv 0) pe_str (fun _ _ => rfl)) (pv 1)) rfl)
    (pss_one (ps_ret (pv 2)))))
      pss_nil)
    (pss_cons (ps_set (i := 3) sc_l_draw.nd rfl (Or.inl rfl) (pe_dget hu (pv 0) pe_str (fun _ _ => rfl)))
    (pss_cons (ps_dput hu (pv 0) pe_str (pe_op op_add (pv 3) pe_int) rfl)
    (pss_cons (ps_set (i := 4) sc_l_draw.nd rfl (Or.inl rfl) (pe_op op_add (pe_op op_mul pe_int (pv 3)) pe_int))
    (C8.pss_cut (ps_if (pt_cmpR (op_neD hr.units) (pe_dget hu (pv 0) pe_str (fun _ _ => rfl)) (pe_lst pa_nil) (nomark _))
      (pss_one (ps_set (i := 4) sc_l_draw.nd rfl (Or.inl rfl) (pe_ix (r := rIxL K) ix_list (pe_dget hu (pv 0) pe_str (fun _ _ => rfl)) (pe_op op_mod (pv 3) (pe_callB (call_len_seq) (by rfl) B.len_ bt_len (pa_cons (pe_dget hu (pv 0) pe_str (fun _ _ => rfl)) pa_nil))) (fun _ _ => rfl))))
      pss_nil)
    (C8.pss_cut (ps_if (PW.pt (pw_and (pt_cmpR op_lt (pv 3) (pe_callB (call_len_seq) (by rfl) B.len_ bt_len (pa_cons (pe_dget hu (pv 0) pe_str (fun _ _ => rfl)) pa_nil)) (nomark _)) (pw_and1 (pt_cmpR op_ge (pe_callB (call_abs) (by rfl) B.abs_ bt_abs (pa_cons (pv 4) pa_nil)) (pe_op op_pow pe_int pe_int) (nomark _)))))
      (pss_cons (ps_dput hu (pv 0) pe_str (pe_op op_fdivW (pe_op op_sub (pe_callB (call_abs) (by rfl) B.abs_ bt_abs (pa_cons (pv 4) pa_nil)) (pe_op op_pow pe_int pe_int)) (pv 1)) rfl)
    (pss_one (ps_ret (pe_op op_mod (pe_op op_sub (pe_callB (call_abs) (by rfl) B.abs_ bt_abs (pa_cons (pv 4) pa_nil)) (pe_op op_pow pe_int pe_int)) (pv 1)))))
      pss_nil)
    (pss_cons (ps_set (i := 5) sc_l_draw.nd rfl (Or.inl rfl) (pe_op op_mod (pe_op op_add (pe_op op_add (pe_op op_add (pe_op op_mul (pe_op op_mod (pv 4) pe_int) pe_int) (pe_op op_mul (pe_op op_mul pe_int (pv 3)) (pv 3))) (pe_op op_mul pe_int (pv 3))) pe_int) pe_int))
    (pss_cons (ps_set (i := 5) sc_l_draw.nd rfl (Or.inl rfl) (pe_op op_mod (pe_op op_add (pe_op op_add (pe_op op_add (pe_op op_mul (pv 5) (pv 5)) (pe_op op_mul pe_int (pv 5))) (pe_op op_mul pe_int (pv 3))) pe_int) pe_int))
    (pss_one (ps_ret (pe_op op_mod (pe_op op_fdiv (pe_op op_mod (pe_op op_mul (pv 5) (pe_op op_add (pv 5) pe_int)) pe_int) pe_int) (pv 1)))))))))))), ?_⟩
    -- rest > 0
    refine ⟨_, rfl, a, _, rfl, dg_rest ea, _, _, rfl, rfl, _, rfl, ite2 (fun e => ?_) (fun e => ?_)⟩
    · refine ⟨_, rfl, a, _, rfl, dg_rest ea, _, rfl, _, _, rfl, rfl, h0, ?_⟩
      refine ⟨_, rfl, a, _, rfl, dg_rest ea, _, rfl, _, _, rfl, rfl, hd, _, rfl, a, _, rfl, dp_rest ea, ?_⟩
      refine ⟨_, rfl, ?_⟩
      exact q _ _ (Int.emod_nonneg _ (by omega)) (Int.emod_lt_of_pos _ h0) (Pen.put ea el hl ht0 (by omega) (Int.ediv_nonneg hr0 (by omega))) (Fr.dict ea)
    · -- turn = ..; turn + 1; 43 * turn + 19
      refine ⟨_, rfl, a, _, rfl, dg_turn ea, ?_⟩
      refine ⟨_, rfl, _, _, rfl, rfl, _, rfl, a, _, rfl, dp_turn ea, ?_⟩
      have ea1 : upd H a (.dK (penD l (t + 1) r)) a = some (.dK (penD l (t + 1) r)) := upd_same
      have nla : l ≠ a := ne_of el ea (by intro z; cases z)
      have el1 : upd H a (.dK (penD l (t + 1) r)) l = some (.lst (cs.map V.int)) := by rw [upd_ne nla]; exact el
      have f1 : Fr H (upd H a (.dK (penD l (t + 1) r))) := Fr.dict ea
      generalize upd H a (.dK (penD l (t + 1) r)) = H1 at ea1 el1 f1
      refine ⟨_, rfl, _, _, rfl, rfl, .inl ⟨by decide, by decide⟩, _, _, rfl, rfl, ?_⟩
      refine ⟨fun σ' H' => ∃ c : Int, σ' = [some (.ref a), some (.int many), none, some (.int t), some (.int c), none] ∧ Same H1 H', ?_, ?_⟩
      · refine ⟨_, rfl, a, _, rfl, dg_cells ea1, Nat.zero_le _, fun p np => ?_⟩
        have s1 : Same H1 (upd H1 p (.lst [])) := sm_upd np
        refine ⟨.list (cs.map PyData.int), .list [], Dp.lst (SqL.of (s1 _ _ el1)) (dp_ints cs), Dp.lst (SqL.of upd_same) .nil, sh_ints cs, rfl, _, rfl, ?_⟩
        by_cases hc : cs = []
        · subst hc
          refine iteF ?_
          exact ⟨_, rfl, s1⟩
        · obtain ⟨c, r', rfl⟩ : ∃ c r', cs = c :: r' := by
            cases cs with
            | nil => exact absurd rfl hc
            | cons c r' => exact ⟨c, r', rfl⟩
          refine iteT ?_
          obtain ⟨v, hv⟩ := at_mod (c :: r') t hc
          refine ⟨_, rfl, a, _, rfl, dg_cells (s1 _ _ ea1), _, rfl, _, rfl, a, _, rfl, dg_cells (s1 _ _ ea1), l, _, rfl, .inl (SqL.of (s1 _ _ el1)), _, _, rfl, rfl, ?_, l, _, _, _, rfl, rfl, SqL.of (s1 _ _ el1), hv, ?_⟩
          · show (0 : Int) < (((c :: r').map V.int).length : Int)
            rw [List.length_map, List.length_cons]
            omega
          · exact ⟨v, rfl, s1⟩
      · rintro σ' H2 ⟨c, rfl, s2⟩
        have ea2 := s2 _ _ ea1
        have el2 := s2 _ _ el1
        have f2 : Fr H H2 := f1.trans (Fr.same s2)
        refine ⟨fun σ' H' => σ' = [some (.ref a), some (.int many), none, some (.int t), some (.int c), none] ∧ H' = H2, ?_, ?_⟩
        · refine ⟨_, rfl, _, rfl, a, _, rfl, dg_cells ea2, l, _, rfl, .inl (SqL.of el2), _, _, rfl, rfl, _, rfl, ite2 (fun e1 => ?_) (fun e1 => ?_)⟩
          · refine ⟨_, rfl, _, rfl, _, _, rfl, rfl, ⟨by decide, by decide, by decide⟩, _, _, rfl, rfl, _, rfl, ite2 (fun e2 => ?_) (fun e2 => ?_)⟩
            · have e3 := of_decide_eq_true e2
              refine ⟨_, rfl, _, rfl, _, _, rfl, rfl, ⟨by decide, by decide, by decide⟩, _, _, rfl, rfl, _, rfl, _, _, rfl, rfl, hd, _, rfl, a, _, rfl, dp_rest ea2, ?_⟩
              refine ⟨_, rfl, _, rfl, _, _, rfl, rfl, ⟨by decide, by decide, by decide⟩, _, _, rfl, rfl, _, rfl, _, _, rfl, rfl, h0, ?_⟩
              exact q _ _ (Int.emod_nonneg _ (by omega)) (Int.emod_lt_of_pos _ h0) (Pen.put ea2 el2 hl (by omega) (by omega) (Int.ediv_nonneg (by omega) (by omega))) (f2.trans (Fr.dict ea2))
            · exact ⟨rfl, rfl⟩
          · exact iteF ⟨rfl, rfl⟩
        · rintro σ' H' ⟨rfl, rfl⟩
          refine ⟨_, rfl, _, _, rfl, rfl, (by show (0 : Int) < 2147483647; decide), _, _, rfl, rfl, .inr ⟨by decide, by decide⟩, _, rfl, _, _, rfl, rfl, .inl ⟨by decide, by decide⟩, _, rfl, _, _, rfl, rfl, .inr ⟨by omega, by omega⟩, _, _, rfl, rfl, _, rfl, _, _, rfl, rfl, .inl ⟨by decide, by decide⟩, _, _, rfl, rfl, _, _, rfl, rfl, _, _, rfl, rfl, (by show (0 : Int) < 2147483629; decide), ?_⟩
          have d0 := Int.emod_nonneg (c % 2147483647 * 69621 + 48271 * t * t + 30011 * t + 23) (show (2147483629 : Int) ≠ 0 by decide)
          have d1 := Int.emod_lt_of_pos (c % 2147483647 * 69621 + 48271 * t * t + 30011 * t + 23) (show (0 : Int) < 2147483629 by decide)
          dsimp only
          generalize (c % 2147483647 * 69621 + 48271 * t * t + 30011 * t + 23) % 2147483629 = x1 at d0 d1
          refine ⟨_, rfl, _, rfl, _, _, rfl, rfl, .inl ⟨by omega, by omega⟩, _, rfl, _, _, rfl, rfl, .inl ⟨by decide, by decide⟩, _, _, rfl, rfl, _, rfl, _, _, rfl, rfl, .inl ⟨by decide, by decide⟩, _, _, rfl, rfl, _, _, rfl, rfl, _, _, rfl, rfl, (by show (0 : Int) < 2147483587; decide), ?_⟩
          have d20 := Int.emod_nonneg (x1 * x1 + 40692 * x1 + 11 * t + 5) (show (2147483587 : Int) ≠ 0 by decide)
          have d21 := Int.emod_lt_of_pos (x1 * x1 + 40692 * x1 + 11 * t + 5) (show (0 : Int) < 2147483587 by decide)
          dsimp only
          generalize (x1 * x1 + 40692 * x1 + 11 * t + 5) % 2147483587 = x2 at d20 d21
          refine ⟨_, rfl, _, rfl, _, _, rfl, rfl, _, _, rfl, rfl, .inl ⟨by omega, by omega⟩, _, _, rfl, rfl, (by show (0 : Int) < 2147483579; decide), _, _, rfl, rfl, ⟨by decide, by decide⟩, _, rfl, _, _, rfl, rfl, h0, ?_⟩
          have hP2 : Pen H' ⟨a, l⟩ (n + 1) := ⟨cs, t + 1, r, ea2, el2, hl, by omega, by omega, hr0⟩
          exact q _ _ (Int.emod_nonneg _ (by omega)) (Int.emod_lt_of_pos _ h0) hP2 f2
end
end Lf
namespace Lf
open PySem PySem.Spec PyProof.Rows L2
section
variable {P : Program} {w : World} {K : PySem.W.Frag} {mg : Str → Option Value} {base : Heap}
/-! ### _law_pick -/
def spPick : Sp := fun vs H Q _ => ∃ (a : PA) (l : Addr) (n : Nat) (xs : List V), vs = [.ref a, .ref l] ∧ Pen H a n ∧ n < 2 ^ 40 ∧ H l = some (.lst xs) ∧ xs ≠ [] ∧ xs.length ≤ 1000 ∧
  ∀ x H', x ∈ xs → Pen H' a (n + 1) → Fr H H' → Q x H'
abbrev s_l_pick : Stmt := topS 14
abbrev N_l_pick : List Str := ["_law_pen_here", "_law_options"]
abbrev P_l_pick : List Str := ["_law_pen_here", "_law_options"]
theorem sc_l_pick : FnScope N_l_pick P_l_pick (defScope s_l_pick) := ⟨rfl, rfl, rfl, by decide +kernel, rfl, by decide +kernel, by decide +kernel⟩
theorem ok_l_pick (D : Df K mg "_law_pick" s_l_pick P_l_pick) (B : Bi mg) (c_l_draw : C8.Cal P w K mg base 1 "_law_draw" spDraw []) : C8.Cal P w K mg base 2 "_law_pick" spPick [] := by
  refine cal_of D sc_l_pick (fun vs H Q E h => ?_) (fun f cdv A outer s H vs Q E hr h => ?_)
  · obtain ⟨a, l, n, xs, rfl, _⟩ := h
    rfl
  · obtain ⟨a, l, n, xs, rfl, hP, hn, el, hx, hxl, q⟩ := h
    have hu := hu_of hr
    refine ⟨_, (pss_one (ps_ret (pe_ix (r := rIxL K) ix_list (pv 1) (C8.pe_c c_l_draw hr (by decide) (by rfl) (pa_cons (pv 0) (pa_cons (pe_callB (call_len_seq) (by rfl) B.len_ bt_len (pa_cons (pv 1) pa_nil)) pa_nil))) (fun _ _ => rfl)))), ?_⟩
    have hl : 0 < xs.length := List.length_pos_iff.mpr hx
    refine ⟨_, rfl, _, rfl, _, rfl, l, _, rfl, .inl (SqL.of el), a, n, _, rfl, hP, hn, by omega, Bd.small 20 (by omega) (by decide), fun d H' d0 d1 hP' f' => ?_⟩
    obtain ⟨j, rfl⟩ := Int.eq_ofNat_of_zero_le d0
    have hj : j < xs.length := by omega
    refine ⟨l, _, _, _, rfl, rfl, SqL.of (f'.l _ _ el), atI_nat (List.getElem?_eq_getElem hj), ?_⟩
    exact q _ _ (List.getElem_mem hj) hP' f'
end
end Lf
namespace Lf
open PySem PySem.Spec PyProof.Rows L2
theorem gcd_pos {p q : Int} (h : 1 ≤ q) : 0 < (Int.gcd p q : Int) := by
  have : 0 < Int.gcd p q := Int.gcd_pos_of_ne_zero_right _ (by omega)
  omega
theorem gcd_le {p q : Int} (h : 1 ≤ q) : (Int.gcd p q : Int) ≤ q := Int.le_of_dvd (by omega) (Int.gcd_dvd_right ..)
theorem absI {x : Int} (h : 0 ≤ x) : (if x < 0 then -x else x) = x := if_neg (by omega)
section
variable {P : Program} {w : World} {K : PySem.W.Frag} {mg : Str → Option Value} {base : Heap}
def spGcd : Sp := fun vs H Q _ => ∃ (x y : Int), vs = [.int x, .int y] ∧ 0 ≤ x ∧ 0 ≤ y ∧ Q (.int (Int.gcd x y : Int)) H
def mu1 : L2.St → Hp → Nat := fun σ _ => match σ with
  | _ :: some (.int v) :: _ => v.toNat
  | _ => 0
abbrev s_l_gcd : Stmt := topS 16
abbrev N_l_gcd : List Str := ["_law_one", "_law_two"]
abbrev P_l_gcd : List Str := ["_law_one", "_law_two"]
theorem sc_l_gcd : FnScope N_l_gcd P_l_gcd (defScope s_l_gcd) := ⟨rfl, rfl, rfl, by decide +kernel, rfl, by decide +kernel, by decide +kernel⟩
theorem ok_l_gcd (D : Df K mg "_law_gcd" s_l_gcd P_l_gcd) (B : Bi mg) : C8.Cal P w K mg base 1 "_law_gcd" spGcd [] := by
  refine cal_of D sc_l_gcd (fun vs H Q E h => ?_) (fun f cdv A outer s H vs Q E hr h => ?_)
  · obtain ⟨x, y, rfl, _⟩ := h
    rfl
  · obtain ⟨x, y, rfl, hx, hy, q⟩ := h
    refine ⟨_, (pss_cons (ps_par (i := 0) (j := 1) rfl sc_l_gcd.nd rfl rfl (by decide) rfl rfl (pa_cons (pe_callB (call_abs) (by rfl) B.abs_ bt_abs (pa_cons (pv 0) pa_nil)) (pa_cons (pe_callB (call_abs) (by rfl) B.abs_ bt_abs (pa_cons (pv 1) pa_nil)) pa_nil)) rfl)
    (pss_cons (ps_while PassesOwn.never (pt_cmpR op_gt (pv 1) pe_int (nomark _))
      (pss_one (ps_par (i := 0) (j := 1) rfl sc_l_gcd.nd rfl rfl (by decide) rfl rfl (pa_cons (pv 1) (pa_cons (pe_op op_mod (pv 0) (pv 1)) pa_nil)) rfl)))
    (pss_one (ps_ret (pv 0))))), ?_⟩
    refine ⟨_, rfl, _, rfl, _, rfl, _, rfl, _, _, rfl, ?_⟩
    refine while_by (fun σ H' => ∃ u v : Int, σ = [some (.int u), some (.int v)] ∧ 0 ≤ u ∧ 0 ≤ v ∧ Int.gcd u v = Int.gcd x y ∧ H' = H) mu1 ⟨x, y, by rw [absI hx, absI hy]; rfl, hx, hy, rfl, rfl⟩ ?_ ?_
    · rintro σ H' ⟨u, v, rfl, hu, hv, e, rfl⟩
      refine ⟨_, rfl, _, _, rfl, rfl, _, rfl, ite2 (fun c => ?_) (fun c => ?_)⟩
      · have hv0 : 0 < v := of_decide_eq_true c
        refine ⟨_, rfl, _, rfl, _, rfl, _, _, rfl, rfl, hv0, _, _, rfl, ⟨v, u % v, rfl, hv, Int.emod_nonneg _ (by omega), ?_, rfl⟩, ?_⟩
        · rw [gcd_turn u v hu hv0]; exact e
        · show (u % v).toNat < v.toNat
          have := Int.emod_lt_of_pos u hv0
          omega
      · have hv0 : v = 0 := by
          have : ¬ 0 < v := fun z => c (decide_eq_true z)
          omega
        subst hv0
        refine ⟨_, rfl, ?_⟩
        have e2 : (Int.gcd x y : Int) = u := by
          rw [← e, Int.gcd_zero_right]
          omega
        rw [← e2]
        exact q
    · rintro σ H' Q1 Q2 hQ ⟨v, h1, i, j, h2, h3, b, h4, h5⟩
      exact ⟨v, h1, i, j, h2, h3, b, h4, hQ _ _ h5⟩
def spReduced : Sp := fun vs H Q _ => ∃ (p q : Int), vs = [.int p, .int q] ∧ 0 ≤ p ∧ 1 ≤ q ∧ Bd 9000 q ∧
  ∀ r H', Same H H' → H r = none → H' r = some (.tup [.int (p / (Int.gcd p q : Int)), .int (q / (Int.gcd p q : Int))]) → Q (.ref r) H'
abbrev s_l_reduced : Stmt := topS 17
abbrev N_l_reduced : List Str := ["_law_top", "_law_bottom", "_law_both"]
abbrev P_l_reduced : List Str := ["_law_top", "_law_bottom"]
theorem sc_l_reduced : FnScope N_l_reduced P_l_reduced (defScope s_l_reduced) := ⟨rfl, rfl, rfl, by decide +kernel, rfl, by decide +kernel, by decide +kernel⟩
theorem ok_l_reduced (D : Df K mg "_law_reduced" s_l_reduced P_l_reduced) (c_l_gcd : C8.Cal P w K mg base 1 "_law_gcd" spGcd []) : C8.Cal P w K mg base 2 "_law_reduced" spReduced [] := by
  refine cal_of D sc_l_reduced (fun vs H Q E h => ?_) (fun f cdv A outer s H vs Q E hr h => ?_)
  · obtain ⟨p, q, rfl, _⟩ := h
    rfl
  · obtain ⟨p, q, rfl, hp, hq, hb, k⟩ := h
    refine ⟨_, (pss_cons (ps_set (i := 2) sc_l_reduced.nd rfl (Or.inl rfl) (C8.pe_c c_l_gcd hr (by decide) (by rfl) (pa_cons (pv 0) (pa_cons (pv 1) pa_nil))))
    (pss_one (ps_ret (pe_tup (pa_cons (pe_op op_fdivW (pv 0) (pv 2)) (pa_cons (pe_op op_fdivW (pv 1) (pv 2)) pa_nil)))))), ?_⟩
    have hg := gcd_pos (p := p) hq
    have hd : CDivW 0 (Int.gcd p q : Int) := ⟨hg, (hb.between (by omega) (gcd_le hq)).log (by decide)⟩
    refine ⟨_, rfl, _, rfl, p, q, rfl, hp, by omega, ?_⟩
    refine ⟨_, rfl, _, rfl, _, _, rfl, rfl, hd, _, rfl, _, rfl, _, _, rfl, rfl, hd, len10 (by simp), fun r nr => ?_⟩
    exact k r _ (sm_upd nr) nr upd_same
end
end Lf
namespace Lf
open PySem PySem.Spec PyProof.Rows L2
theorem iteD {c A B : Prop} [Decidable c] (hc : c) (h : A) : if decide c = true then A else B := by
  rw [if_pos (decide_eq_true hc)]
  exact h
theorem iteDn {c A B : Prop} [Decidable c] (hc : ¬ c) (h : B) : if decide c = true then A else B := by
  rw [if_neg (fun z => hc (of_decide_eq_true z))]
  exact h
theorem mulW {a b : Nat} {x y : Int} (h : Bd a x) (h2 : Bd b y) (ha : 0 < a) (hb : 0 < b) (hab : a + b ≤ 1000000) : CMulW x y := wide_mul h h2 ha hb hab
theorem divW {b : Nat} {x y : Int} (h0 : 0 < y) (h : Bd b y) (hb : b ≤ 9000) : CDivW x y := ⟨h0, (h.mono hb).log (by decide)⟩
theorem divP {b : Nat} {x y : Int} (h0 : 0 < y) (h : Bd b y) (hb : b ≤ 9000) : CDivP x y := ⟨h0, PyProof.noPylong_of_log2 ((h.mono hb).log (by decide))⟩
theorem kii : kitB "int" "int" = some true := by decide +kernel
theorem kib : kitB "int" "bool" = some false := by decide +kernel
theorem ktt : kitB "tuple" "tuple" = some true := by decide +kernel
section
variable {P : Program} {w : World} {K : PySem.W.Frag} {mg : Str → Option Value} {base : Heap}
/-! ### integers -/
def spIsInt : Sp := fun vs H Q _ => ∃ i : Int, vs = [.int i] ∧ Q (.bl true) H
abbrev s_is_integer : Stmt := topS 4
abbrev N_is_integer : List Str := ["value"]
abbrev P_is_integer : List Str := ["value"]
theorem sc_is_integer : FnScope N_is_integer P_is_integer (defScope s_is_integer) := ⟨rfl, rfl, rfl, by decide +kernel, rfl, by decide +kernel, by decide +kernel⟩
theorem ok_is_integer (D : Df K mg "is_integer" s_is_integer P_is_integer) (B : Bi mg) : C8.Cal P w K mg base 1 "is_integer" spIsInt [] := by
  refine cal_of D sc_is_integer (fun vs H Q E h => ?_) (fun f cdv A outer s H vs Q E hr h => ?_)
  · obtain ⟨i, rfl, _⟩ := h
    rfl
  · obtain ⟨i, rfl, q⟩ := h
    refine ⟨_, (pss_one (ps_ret (pe_and (pe_callB (call_isi) (by rfl) B.isinstance_ bt_isinstance (pa_cons (pv 0) (pa_cons (pe_bltn (v := .ty "int") (by rfl) B.int_ bt_int rfl) pa_nil))) (pe_one (pe_not (pe_callB (call_isi) (by rfl) B.isinstance_ bt_isinstance (pa_cons (pv 0) (pa_cons (pe_bltn (v := .ty "bool") (by rfl) B.bool_ bt_bool rfl) pa_nil)))))))), ?_⟩
    refine ⟨_, rfl, _, _, _, _, true, rfl, .ty "int", .base (.int i), kit_ty kii, true, rfl, iteT ?_⟩
    exact ⟨_, rfl, _, _, _, _, false, rfl, .ty "bool", .base (.int i), kit_ty kib, false, rfl, q⟩
def spCheckInt : Sp := fun vs H Q _ => ∃ i : Int, vs = [.int i] ∧ Q .non H
end
end Lf
namespace Lf
open PySem PySem.Spec PyProof.Rows L2
section
variable {P : Program} {w : World} {K : PySem.W.Frag} {mg : Str → Option Value} {base : Heap}
abbrev s_gcd : Stmt := topS 5
abbrev N_gcd : List Str := ["first", "second"]
abbrev P_gcd : List Str := ["first", "second"]
theorem sc_gcd : FnScope N_gcd P_gcd (defScope s_gcd) := ⟨rfl, rfl, rfl, by decide +kernel, rfl, by decide +kernel, by decide +kernel⟩
theorem ok_gcd (D : Df K mg "gcd" s_gcd P_gcd) : C8.Cal P w K mg base 1 "gcd" spGcd [] := by
  refine cal_of D sc_gcd (fun vs H Q E h => ?_) (fun f cdv A outer s H vs Q E hr h => ?_)
  · obtain ⟨x, y, rfl, _⟩ := h
    rfl
  · obtain ⟨x, y, rfl, hx, hy, q⟩ := h
    refine ⟨_, (pss_cons (ps_while PassesOwn.never (pt_truth (pv 1) (fun _ => rfl))
      (pss_one (ps_par (i := 0) (j := 1) rfl sc_gcd.nd rfl rfl (by decide) rfl rfl (pa_cons (pv 1) (pa_cons (pe_op op_mod (pv 0) (pv 1)) pa_nil)) rfl)))
    (pss_one (ps_ret (pv 0)))), ?_⟩
    refine while_by (fun σ H' => ∃ u v : Int, σ = [some (.int u), some (.int v)] ∧ 0 ≤ u ∧ 0 ≤ v ∧ Int.gcd u v = Int.gcd x y ∧ H' = H) mu1 ⟨x, y, rfl, hx, hy, rfl, rfl⟩ ?_ ?_
    · rintro σ H' ⟨u, v, rfl, hu, hv, e, rfl⟩
      refine ⟨_, rfl, _, rfl, ite2 (fun c => ?_) (fun c => ?_)⟩
      · have hv0 : 0 < v := by
          have : v ≠ 0 := by simpa using c
          omega
        refine ⟨_, rfl, _, rfl, _, rfl, _, _, rfl, rfl, hv0, _, _, rfl, ⟨v, u % v, rfl, hv, Int.emod_nonneg _ (by omega), ?_, rfl⟩, ?_⟩
        · rw [gcd_turn u v hu hv0]; exact e
        · show (u % v).toNat < v.toNat
          have := Int.emod_lt_of_pos u hv0
          omega
      · have hv0 : v = 0 := by simpa using c
        subst hv0
        refine ⟨_, rfl, ?_⟩
        have e2 : (Int.gcd x y : Int) = u := by
          rw [← e, Int.gcd_zero_right]
          omega
        rw [← e2]
        exact q
    · rintro σ H' Q1 Q2 hQ ⟨v, h1, b, h4, h5⟩
      exact ⟨v, h1, b, h4, hQ _ _ h5⟩
end
end Lf
namespace Lf
open PySem PySem.Spec PyProof.Rows L2
def Btw (p q t b x y : Int) : Prop := p * y < x * q ∧ x * b < t * y
structure Sim (p q t b N D : Int) : Prop where
  d1 : 1 ≤ D
  n1 : 1 ≤ N
  bt : Btw p q t b N D
  mi : ∀ x y, 1 ≤ y → Btw p q t b x y → D ≤ y ∧ N ≤ x
theorem pos_of_mul {a b : Int} (h : 0 < a * b) (hb : 0 ≤ b) : 0 < a := by
  rcases Int.lt_or_le 0 a with z | z
  · exact z
  · have := Int.mul_le_mul_of_nonneg_right z hb
    rw [Int.zero_mul] at this
    omega
theorem sim_base {p q t b : Int} (hp : 0 ≤ p) (hq : 1 ≤ q) (h : (p / q + 1) * b < t) : Sim p q t b (p / q + 1) 1 := by
  have w0 : 0 ≤ p / q := Int.ediv_nonneg hp (by omega)
  have w1 : p < (p / q + 1) * q := Int.lt_ediv_add_one_mul_self p (by omega)
  have w2 : p / q * q ≤ p := Int.ediv_mul_le p (by omega)
  generalize p / q = w at *
  refine ⟨by omega, by omega, ⟨by omega, by omega⟩, fun x y hy hb => ⟨hy, ?_⟩⟩
  have h1 := Int.mul_le_mul_of_nonneg_right w2 (show 0 ≤ y by omega)
  have h2 : 0 < (x - w * y) * q := by
    have e : w * q * y = w * y * q := by grind
    have := hb.1
    rw [Int.sub_mul]
    omega
  have h3 := pos_of_mul h2 (by omega)
  have h4 := Int.mul_le_mul_of_nonneg_left hy w0
  omega
theorem sim_step {p q t b N D : Int} (hp : 0 ≤ p) (hq : 1 ≤ q) (s : Sim b (t - p / q * b) q (p - p / q * q) N D) : Sim p q t b (p / q * N + D) N := by
  have w0 : 0 ≤ p / q := Int.ediv_nonneg hp (by omega)
  have w2 : p / q * q ≤ p := Int.ediv_mul_le p (by omega)
  generalize p / q = w at *
  obtain ⟨d1, n1, ⟨b1, b2⟩, mi⟩ := s
  have n0 := Int.mul_nonneg w0 (show 0 ≤ N by omega)
  refine ⟨n1, by omega, ⟨by grind, by grind⟩, fun x y hy ⟨g1, g2⟩ => ?_⟩
  have h1 := Int.mul_le_mul_of_nonneg_right w2 (show 0 ≤ y by omega)
  have h2 : 0 < (x - w * y) * q := by grind
  have h3 := pos_of_mul h2 (by omega)
  obtain ⟨m1, m2⟩ := mi y (x - w * y) (by omega) ⟨by grind, by grind⟩
  have h4 := Int.mul_le_mul_of_nonneg_left m2 w0
  exact ⟨m2, by omega⟩
/-- what the loop of wholes says, read backwards -/
def fold2 : List Int → Int × Int → Int × Int
  | [], x => x
  | w :: r, x => (w * (fold2 r x).1 + (fold2 r x).2, (fold2 r x).1)
theorem fold2_snoc (l : List Int) (w N D : Int) : fold2 (l ++ [w]) (N, D) = fold2 l (w * N + D, N) := by
  induction l with
  | nil => rfl
  | cons v r ih =>
    show (v * (fold2 (r ++ [w]) (N, D)).1 + (fold2 (r ++ [w]) (N, D)).2, (fold2 (r ++ [w]) (N, D)).1) = _
    rw [ih]
    rfl
structure Iv (k : Nat) (p q t b : Int) : Prop where
  p0 : 0 ≤ p
  q1 : 1 ≤ q
  b0 : 0 ≤ b
  lt : p * b < t * q
  bp : Bd k p
  bq : Bd k q
  bt : Bd k t
  bb : Bd k b
theorem Iv.mono {k j : Nat} {p q t b : Int} (I : Iv k p q t b) (h : k ≤ j) : Iv j p q t b := ⟨I.p0, I.q1, I.b0, I.lt, I.bp.mono h, I.bq.mono h, I.bt.mono h, I.bb.mono h⟩
theorem Iv.t1 {k : Nat} {p q t b : Int} (I : Iv k p q t b) : 1 ≤ t := by
  have h1 := Int.mul_nonneg I.p0 I.b0
  have h2 := I.lt
  have := pos_of_mul (a := t) (b := q) (by omega) (by have := I.q1; omega)
  omega
theorem Iv.next {k : Nat} {p q t b : Int} (I : Iv k p q t b) (h : t ≤ (p / q + 1) * b) : Iv k b (t - p / q * b) q (p - p / q * q) ∧ 1 ≤ b ∧ t - p / q * b ≤ b ∧ p - p / q * q < q := by
  have t1 := I.t1
  obtain ⟨p0, q1, b0, lt, bp, bq, bt, bb⟩ := I
  have w0 : 0 ≤ p / q := Int.ediv_nonneg p0 (by omega)
  have w1 : p < (p / q + 1) * q := Int.lt_ediv_add_one_mul_self p (by omega)
  have w2 : p / q * q ≤ p := Int.ediv_mul_le p (by omega)
  generalize p / q = w at *
  have b1 : 1 ≤ b := by
    rcases Int.lt_or_le 0 b with z | z
    · exact z
    · have : b = 0 := by omega
      subst this
      rw [Int.mul_zero] at h
      omega
  have h1 : 0 < (t - w * b) * q := by
    have := Int.mul_le_mul_of_nonneg_right w2 b0
    grind
  have h2 := pos_of_mul h1 (by omega)
  have h3 : t - w * b ≤ b := by
    rw [Int.add_mul] at h
    omega
  have h4 : p - w * q < q := by
    rw [Int.add_mul] at w1
    omega
  exact ⟨⟨b0, by omega, by omega, by grind, bb, bb.between (by omega) h3, bq, bq.between (by omega) (by omega)⟩, b1, h3, h4⟩
theorem Iv.med {k : Nat} {p q t b N D : Int} (I : Iv k p q t b) (s : Sim p q t b N D) : D ≤ q + b ∧ N ≤ p + t := by
  have h := I.lt
  have := I.q1
  have := I.b0
  exact s.mi (p + t) (q + b) (by omega) ⟨by grind, by grind⟩
theorem Iv.bds {k : Nat} {p q t b N D : Int} (I : Iv k p q t b) (s : Sim p q t b N D) : Bd (k + 1) N ∧ Bd (k + 1) D := by
  obtain ⟨m1, m2⟩ := I.med s
  have := s.n1
  have := s.d1
  exact ⟨(Bd.add I.bp I.bt).between (by omega) m2, (Bd.add I.bq I.bb).between (by omega) m1⟩
structure Lw (k : Nat) (p0 q0 t0 b0 : Int) (ws : List Int) (p q t b : Int) : Prop where
  iv : Iv k p q t b
  c : ∀ l1 l2, ws = l1 ++ l2 → ∀ N D, Sim p q t b N D → Bd (k + 1) (fold2 l2 (N, D)).1 ∧ Bd (k + 1) (fold2 l2 (N, D)).2
  a : ∀ N D, Sim p q t b N D → Sim p0 q0 t0 b0 (fold2 ws (N, D)).1 (fold2 ws (N, D)).2
  d : ∀ w ∈ ws, Bd k w
  n : (ws = [] ∧ q = q0 ∧ b = b0) ∨ (q ≤ p ∧ (p * b).toNat * 2 ^ ws.length ≤ (2 * (q0 * b0)).toNat)
theorem Lw.init {k : Nat} {p q t b : Int} (I : Iv k p q t b) : Lw k p q t b [] p q t b :=
  ⟨I, fun l1 l2 e N D s => by
    have : l2 = [] := (List.append_eq_nil_iff.mp e.symm).2
    subst this
    exact I.bds s, fun N D s => s, fun w hw => by simp at hw, .inl ⟨rfl, rfl, rfl⟩⟩
theorem Lw.next {k : Nat} {p0 q0 t0 b0 p q t b : Int} {ws : List Int} (L : Lw k p0 q0 t0 b0 ws p q t b) (h : t ≤ (p / q + 1) * b) : Lw k p0 q0 t0 b0 (ws ++ [p / q]) b (t - p / q * b) q (p - p / q * q) := by
  have I := L.iv
  obtain ⟨I2, b1, h3, h4⟩ := I.next h
  have st : ∀ N D, Sim b (t - p / q * b) q (p - p / q * q) N D → Sim p q t b (p / q * N + D) N := fun N D s => sim_step I.p0 I.q1 s
  refine ⟨I2, fun l1 l2 e N D s => ?_, fun N D s => ?_, fun w hw => ?_, .inr ⟨h3, ?_⟩⟩
  · rcases List.eq_nil_or_concat l2 with rfl | ⟨l', w', rfl⟩
    · exact I2.bds s
    · rw [List.concat_eq_append, ← List.append_assoc] at e
      obtain ⟨e1, e2⟩ := List.append_inj' e rfl
      have e3 : p / q = w' := by simpa using e2
      rw [List.concat_eq_append, ← e3, fold2_snoc]
      exact L.c l1 l' e1 _ _ (st N D s)
  · rw [fold2_snoc]
    exact L.a _ _ (st N D s)
  · rcases List.mem_append.mp hw with z | z
    · exact L.d w z
    · rw [List.mem_singleton.mp z]
      exact I.bp.ediv (by have := I.q1; omega)
  · have r0 := I2.b0
    rw [List.length_append, List.length_singleton, Nat.pow_succ]
    rcases L.n with ⟨rfl, rfl, rfl⟩ | ⟨hq, hn⟩
    · have := Int.mul_le_mul_of_nonneg_left (show p - p / q * q ≤ q by omega) (show 0 ≤ b by omega)
      rw [Int.mul_comm q b]
      simp only [List.length_nil, Nat.pow_zero, Nat.one_mul]
      generalize b * (p - p / q * q) = x at *
      generalize b * q = y at *
      omega
    · refine Nat.le_trans ?_ hn
      rw [Nat.mul_comm (2 ^ ws.length) 2, ← Nat.mul_assoc]
      refine Nat.mul_le_mul_right _ ?_
      have w1 : 1 ≤ p / q := Int.le_ediv_of_mul_le (by have := I.q1; omega) (by omega)
      have h5 := Int.mul_le_mul_of_nonneg_right w1 (show 0 ≤ q by have := I.q1; omega)
      have h6 := Int.mul_le_mul_of_nonneg_left (show 2 * (p - p / q * q) ≤ p by omega) (show 0 ≤ b by omega)
      generalize p - p / q * q = r at *
      have e1 : b * (2 * r) = 2 * (b * r) := by grind
      rw [e1, Int.mul_comm b p] at h6
      have := Int.mul_nonneg (show 0 ≤ b by omega) r0
      generalize b * r = x at *
      generalize p * b = y at *
      omega
theorem Lw.len {k : Nat} {p0 q0 t0 b0 p q t b : Int} {ws : List Int} (L : Lw k p0 q0 t0 b0 ws p q t b) (b1 : 1 ≤ b) (bq : Bd k q0) (bb : Bd k b0) : ws.length < 2 * k + 2 := by
  rcases L.n with ⟨rfl, _⟩ | ⟨hq, hn⟩
  · simp
  · have B1 : Bd (k + k + 1) (2 * (q0 * b0)) := by
      have := Bd.add (Bd.mul bq bb) (Bd.mul bq bb)
      rw [show 2 * (q0 * b0) = q0 * b0 + q0 * b0 by omega]
      exact this
    have p1 : 1 ≤ p * b := by
      have := Int.mul_le_mul (show 1 ≤ p by have := L.iv.q1; omega) b1 (by omega) (by have := L.iv.p0; omega)
      omega
    unfold Bd at B1
    have h2 : 2 ^ ws.length ≤ (p * b).toNat * 2 ^ ws.length := Nat.le_mul_of_pos_left _ (by omega)
    have h3 : 2 ^ ws.length < 2 ^ (k + k + 1) := by omega
    have := (Nat.pow_lt_pow_iff_right (by decide)).mp h3
    omega
section
variable {P : Program} {w : World} {K : PySem.W.Frag} {mg : Str → Option Value} {base : Heap}
/-! ### rates -/
structure Rt (k : Nat) (p q : Int) : Prop where
  p0 : 0 ≤ p
  q1 : 1 ≤ q
  g : Int.gcd p q = 1
  bp : Bd k p
  bq : Bd k q
theorem Rt.mono {k j : Nat} {p q : Int} (h : Rt k p q) (e : k ≤ j) : Rt j p q := ⟨h.p0, h.q1, h.g, h.bp.mono e, h.bq.mono e⟩
abbrev tup2 (p q : Int) : HO := .tup [.int p, .int q]
def spIsRate : Sp := fun vs H Q _ => ∃ (r : Addr) (p q : Int) (k : Nat), vs = [.ref r] ∧ H r = some (tup2 p q) ∧ Rt k p q ∧ Q (.bl true) H
abbrev s_is_rate : Stmt := topS 7
abbrev N_is_rate : List Str := ["value"]
abbrev P_is_rate : List Str := ["value"]
theorem sc_is_rate : FnScope N_is_rate P_is_rate (defScope s_is_rate) := ⟨rfl, rfl, rfl, by decide +kernel, rfl, by decide +kernel, by decide +kernel⟩
theorem ok_is_rate (D : Df K mg "is_rate" s_is_rate P_is_rate) (B : Bi mg) (c_is_integer : C8.Cal P w K mg base 1 "is_integer" spIsInt []) (c_gcd : C8.Cal P w K mg base 1 "gcd" spGcd []) : C8.Cal P w K mg base 2 "is_rate" spIsRate [] := by
  refine cal_of D sc_is_rate (fun vs H Q E h => ?_) (fun f cdv A outer s H vs Q E hr h => ?_)
  · obtain ⟨r, p, q, k, rfl, _⟩ := h
    rfl
  · obtain ⟨r, p, q, k, rfl, er, R, kk⟩ := h
    refine ⟨_, (pss_cons (ps_if (PW.pt (pw_or (pt_not (pt_val (pe_callB (call_isi) (by rfl) B.isinstance_ bt_isinstance (pa_cons (pv 0) (pa_cons (pe_bltn (v := .ty "tuple") (by rfl) B.tuple_ bt_tuple rfl) pa_nil))))) (pw_or1 (pt_cmpR op_ne (pe_callB (call_len_seq) (by rfl) B.len_ bt_len (pa_cons (pv 0) pa_nil)) pe_int (nomark _)))))
      (pss_one (ps_ret pe_bl))
      pss_nil)
    (pss_cons (ps_if (PW.pt (pw_or (pt_not (pt_val (C8.pe_c c_is_integer hr (by decide) (by rfl) (pa_cons (pe_ix (r := rIxT K) ix_tup (pv 0) pe_int (fun _ _ => rfl)) pa_nil)))) (pw_or1 (pt_not (pt_val (C8.pe_c c_is_integer hr (by decide) (by rfl) (pa_cons (pe_ix (r := rIxT K) ix_tup (pv 0) pe_int (fun _ _ => rfl)) pa_nil)))))))
      (pss_one (ps_ret pe_bl))
      pss_nil)
    (pss_one (ps_ret (pe_and (pe_cmpR op_ge (pe_ix (r := rIxT K) ix_tup (pv 0) pe_int (fun _ _ => rfl)) pe_int (nomark _)) (pe_and (pe_cmpR op_ge (pe_ix (r := rIxT K) ix_tup (pv 0) pe_int (fun _ _ => rfl)) pe_int (nomark _)) (pe_one (pe_cmpR op_eq (C8.pe_c c_gcd hr (by decide) (by rfl) (pa_cons (pe_ix (r := rIxT K) ix_tup (pv 0) pe_int (fun _ _ => rfl)) (pa_cons (pe_ix (r := rIxT K) ix_tup (pv 0) pe_int (fun _ _ => rfl)) pa_nil))) pe_int (nomark _))))))))), ?_⟩
    refine ⟨_, rfl, _, _, _, _, true, rfl, .ty "tuple", .base (.tup er), kit_ty ktt, true, rfl, iteF ?_⟩
    refine ⟨_, rfl, r, _, rfl, .inr (SqT.of er), rfl, _, rfl, iteNS rfl ?_⟩
    refine ⟨_, rfl, r, _, _, _, rfl, rfl, SqT.of er, atI_nat (j := 0) rfl, p, rfl, true, rfl, iteF ?_⟩
    refine ⟨_, rfl, r, _, _, _, rfl, rfl, SqT.of er, atI_nat (j := 1) rfl, q, rfl, true, rfl, iteF ?_⟩
    refine ⟨_, rfl, r, _, _, _, rfl, rfl, SqT.of er, atI_nat (j := 0) rfl, _, _, rfl, rfl, _, rfl, iteD R.p0 ?_⟩
    refine ⟨_, rfl, r, _, _, _, rfl, rfl, SqT.of er, atI_nat (j := 1) rfl, _, _, rfl, rfl, _, rfl, iteD R.q1 ?_⟩
    refine ⟨_, rfl, r, _, _, _, rfl, rfl, SqT.of er, atI_nat (j := 0) rfl, _, rfl, r, _, _, _, rfl, rfl, SqT.of er, atI_nat (j := 1) rfl, p, q, rfl, R.p0, by have := R.q1; omega, rfl, ?_⟩
    rw [R.g]
    exact kk
def spCheckRate : Sp := fun vs H Q _ => ∃ (r : Addr) (p q : Int) (k : Nat), vs = [.ref r] ∧ H r = some (tup2 p q) ∧ Rt k p q ∧ Q .non H
abbrev s_check_rate : Stmt := topS 8
abbrev N_check_rate : List Str := ["value"]
abbrev P_check_rate : List Str := ["value"]
theorem sc_check_rate : FnScope N_check_rate P_check_rate (defScope s_check_rate) := ⟨rfl, rfl, rfl, by decide +kernel, rfl, by decide +kernel, by decide +kernel⟩
theorem ok_check_rate (D : Df K mg "check_rate" s_check_rate P_check_rate) (c_is_rate : C8.Cal P w K mg base 2 "is_rate" spIsRate []) : C8.Cal P w K mg base 3 "check_rate" spCheckRate [] := by
  refine cal_of D sc_check_rate (fun vs H Q E h => ?_) (fun f cdv A outer s H vs Q E hr h => ?_)
  · obtain ⟨r, p, q, k, rfl, _⟩ := h
    rfl
  · obtain ⟨r, p, q, k, rfl, er, R, kk⟩ := h
    refine ⟨_, (pss_one (ps_if (pt_not (pt_val (C8.pe_c c_is_rate hr (by decide) (by rfl) (pa_cons (pv 0) pa_nil))))
      (pss_one ps_never)
      pss_nil)), ?_⟩
    exact ⟨_, rfl, r, p, q, k, rfl, er, R, true, rfl, iteF kk⟩
/-! ### simplest_inside -/
def spInside : Sp := fun vs H Q _ => ∃ (l h : Addr) (p q t b : Int) (k : Nat), vs = [.ref l, .ref h] ∧ H l = some (tup2 p q) ∧ H h = some (tup2 t b) ∧ Iv k p q t b ∧ 0 < k ∧ k ≤ 400 ∧
  ∀ r H' N D, Same H H' → H r = none → H' r = some (tup2 N D) → Sim p q t b N D → Bd (k + 1) N → Bd (k + 1) D → Q (.ref r) H'
def muF : L2.St → Hp → Nat := fun σ _ => match σ with
  | _ :: _ :: _ :: some (.int q) :: _ :: some (.int b) :: _ => (q + b).toNat
  | _ => 0
abbrev s_simplest_inside : Stmt := topS 10
abbrev N_simplest_inside : List Str := ["low", "high", "p", "q", "top", "bottom", "wholes", "whole", "numerator", "denominator"]
abbrev P_simplest_inside : List Str := ["low", "high"]
theorem sc_simplest_inside : FnScope N_simplest_inside P_simplest_inside (defScope s_simplest_inside) := ⟨rfl, rfl, rfl, by decide +kernel, rfl, by decide +kernel, by decide +kernel⟩
theorem ok_simplest_inside (D : Df K mg "simplest_inside" s_simplest_inside P_simplest_inside) (B : Bi mg) : C8.Cal P w K mg base 1 "simplest_inside" spInside [] := by
  refine cal_of D sc_simplest_inside (fun vs H Q E h => ?_) (fun f cdv A outer s H vs Q E hr h => ?_)
  · obtain ⟨l, h, p, q, t, b, k, rfl, _⟩ := h
    rfl
  · obtain ⟨l, h, p0, q0, t0, b0, k, rfl, el, eh, I, k0, k4, kk⟩ := h
    refine ⟨_, (pss_cons (ps_asg (pv 0) (pg_tup rfl (pgs_cons (pg_name (i := 2) sc_simplest_inside.nd rfl (Or.inl rfl)) (pgs_cons (pg_name (i := 3) sc_simplest_inside.nd rfl (Or.inl rfl)) pgs_nil))))
    (pss_cons (ps_asg (pv 1) (pg_tup rfl (pgs_cons (pg_name (i := 4) sc_simplest_inside.nd rfl (Or.inl rfl)) (pgs_cons (pg_name (i := 5) sc_simplest_inside.nd rfl (Or.inl rfl)) pgs_nil))))
    (pss_cons (ps_set (i := 6) sc_simplest_inside.nd rfl (Or.inl rfl) (pe_lst pa_nil))
    (pss_cons (ps_set (i := 7) sc_simplest_inside.nd rfl (Or.inl rfl) (pe_op op_fdivW (pv 2) (pv 3)))
    (pss_cons (ps_while PassesOwn.never (pt_cmpR op_ge (pe_op op_mulW (pe_op op_add (pv 7) pe_int) (pv 5)) (pv 4) (nomark _))
      (pss_cons (ps_expr (pe_bm PySem.F.plainAttrs_list PySem.F.slot_list_append PySem.F.type_list_append mt_append (pv 6) (pa_cons (pv 7) pa_nil)))
    (pss_cons (ps_asg (pe_tup (pa_cons (pv 5) (pa_cons (pe_op op_sub (pv 4) (pe_op op_mulW (pv 7) (pv 5))) (pa_cons (pv 3) (pa_cons (pe_op op_sub (pv 2) (pe_op op_mulW (pv 7) (pv 3))) pa_nil))))) (pg_tup rfl (pgs_cons (pg_name (i := 2) sc_simplest_inside.nd rfl (Or.inl rfl)) (pgs_cons (pg_name (i := 3) sc_simplest_inside.nd rfl (Or.inl rfl)) (pgs_cons (pg_name (i := 4) sc_simplest_inside.nd rfl (Or.inl rfl)) (pgs_cons (pg_name (i := 5) sc_simplest_inside.nd rfl (Or.inl rfl)) pgs_nil))))))
    (pss_one (ps_set (i := 7) sc_simplest_inside.nd rfl (Or.inl rfl) (pe_op op_fdivW (pv 2) (pv 3)))))))
    (pss_cons (ps_par (i := 8) (j := 9) rfl sc_simplest_inside.nd rfl rfl (by decide) rfl rfl (pa_cons (pe_op op_add (pv 7) pe_int) (pa_cons pe_int pa_nil)) rfl)
    (pss_cons (ps_for PassesOwn.never rfl (pi_reversed (by rfl) B.reversed_ (pa_cons (pv 6) pa_nil)) (pg_name (i := 7) sc_simplest_inside.nd rfl (Or.inl rfl))
      (pss_one (ps_par (i := 8) (j := 9) rfl sc_simplest_inside.nd rfl rfl (by decide) rfl rfl (pa_cons (pe_op op_add (pe_op op_mulW (pv 7) (pv 8)) (pv 9)) (pa_cons (pv 8) pa_nil)) rfl)))
    (pss_one (ps_ret (pe_tup (pa_cons (pv 8) (pa_cons (pv 9) pa_nil)))))))))))), ?_⟩
    refine ⟨_, rfl, l, _, rfl, SqT.of el, rfl, _, _, rfl, _, _, rfl, rfl, ?_⟩
    refine ⟨_, rfl, h, _, rfl, SqT.of eh, rfl, _, _, rfl, _, _, rfl, rfl, ?_⟩
    refine ⟨Nat.zero_le _, fun lv nlv => ?_⟩
    refine ⟨_, rfl, _, rfl, _, _, rfl, rfl, divW (by have := I.q1; omega) I.bq (by omega), ?_⟩
    refine while_by (fun σ H' => ∃ (p q t b : Int) (ws : List Int), σ = [some (.ref l), some (.ref h), some (.int p), some (.int q), some (.int t), some (.int b), some (.ref lv), some (.int (p / q)), none, none] ∧ Lw k p0 q0 t0 b0 ws p q t b ∧ Same H H' ∧ H' lv = some (.lst (ws.map V.int))) muF ⟨p0, q0, t0, b0, [], rfl, Lw.init I, sm_upd nlv, upd_same⟩ ?_ ?_
    · rintro σ H1 ⟨p, q, t, b, ws, rfl, L, sH, elv⟩
      have J := L.iv
      have q1 := J.q1
      have bw : Bd k (p / q) := J.bp.ediv (by omega)
      have bw1 : Bd (k + 1) (p / q + 1) := Bd.add bw (Bd.small 1 (by decide) (by omega))
      refine ⟨_, rfl, _, _, rfl, rfl, _, rfl, _, _, rfl, rfl, mulW bw1 J.bb (by omega) k0 (by omega), _, rfl, _, _, rfl, rfl, _, rfl, ite2 (fun c => ?_) (fun c => ?_)⟩
      · have hc : t ≤ (p / q + 1) * b := of_decide_eq_true c
        obtain ⟨_, b1, h3, h4⟩ := J.next hc
        have LN := L.next hc
        have ln := L.len b1 I.bq I.bb
        have q1' := LN.iv.q1
        refine ⟨_, rfl, .inl ⟨rfl, _, SqL.of elv⟩, _, rfl, lv, _, _, rfl, rfl, elv, ?_, ?_⟩
        · rw [List.length_map]
          exact small1000 (by omega)
        · refine ⟨_, rfl, _, rfl, _, rfl, _, rfl, _, _, rfl, rfl, mulW bw J.bb k0 k0 (by omega), _, _, rfl, rfl, _, rfl, _, rfl, _, rfl, _, rfl, _, _, rfl, rfl, mulW bw J.bq k0 k0 (by omega), _, _, rfl, rfl, len10 (by simp), fun t2 nt2 => ?_⟩
          refine ⟨t2, _, rfl, SqT.of upd_same, rfl, _, _, rfl, _, _, rfl, _, _, rfl, _, _, rfl, rfl, ?_⟩
          refine ⟨_, rfl, _, rfl, _, _, rfl, rfl, divW (by omega) LN.iv.bq (by omega), ?_⟩
          refine ⟨⟨_, _, _, _, ws ++ [p / q], rfl, LN, ?_, ?_⟩, ?_⟩
          · intro x o ex
            have z := sH _ _ ex
            have nx : x ≠ lv := ne_of_none ex nlv
            have z2 : upd H1 lv (.lst (ws.map V.int ++ [.int (p / q)])) x = some o := by
              rw [upd_ne nx]
              exact z
            exact sm_upd nt2 _ _ z2
          · have z2 : upd H1 lv (.lst (ws.map V.int ++ [.int (p / q)])) lv = some (.lst ((ws ++ [p / q]).map V.int)) := by
              rw [upd_same, List.map_append]
              rfl
            exact sm_upd nt2 _ _ z2
          · show (t - p / q * b + (p - p / q * q)).toNat < (q + b).toNat
            have := LN.iv.b0
            omega
      · have hc : (p / q + 1) * b < t := by
          have : ¬ t ≤ (p / q + 1) * b := fun z => c (decide_eq_true z)
          omega
        have S := sim_base J.p0 J.q1 hc
        refine ⟨_, rfl, _, _, rfl, rfl, _, _, rfl, ?_⟩
        refine ⟨_, rfl, lv, _, rfl, SqL.of elv, ?_⟩
        have CC := L.c
        have CA := L.a
        generalize hN : p / q + 1 = N at S
        refine for_it walk_rev (fun i σ H2 => ∃ (y : Option V), σ = [some (.ref l), some (.ref h), some (.int p), some (.int q), some (.int t), some (.int b), some (.ref lv), y, some (.int (fold2 (ws.drop (ws.length - i)) (N, 1)).1), some (.int (fold2 (ws.drop (ws.length - i)) (N, 1)).2)] ∧ H2 = H1) ?_ ?_ ?_ ?_
        · refine ⟨some (.int (p / q)), ?_, rfl⟩
          rw [Nat.sub_zero, List.drop_length, ← hN]
          rfl
        · rintro i σ H2 _ ⟨_, _, rfl⟩
          exact SqL.of elv
        · rintro i x σ H2 H3 hi ⟨y, rfl, rfl⟩ ⟨rfl, hx⟩
          rw [List.length_map] at hi hx
          have hj : ws.length - 1 - i < ws.length := by omega
          rw [List.getElem?_map, List.getElem?_eq_getElem hj] at hx
          have ex : x = V.int ws[ws.length - 1 - i] := (Option.some.inj hx).symm
          subst ex
          have d1 := L.d _ (List.getElem_mem hj)
          have cc := CC (ws.take (ws.length - i)) (ws.drop (ws.length - i)) (List.take_append_drop _ _).symm N 1 S
          have ed : ws.drop (ws.length - (i + 1)) = ws[ws.length - 1 - i] :: ws.drop (ws.length - i) := by
            rw [show ws.length - (i + 1) = ws.length - 1 - i by omega, List.drop_eq_getElem_cons hj, show ws.length - 1 - i + 1 = ws.length - i by omega]
          generalize ws[ws.length - 1 - i] = e at *
          refine ⟨_, rfl, _, rfl, _, _, rfl, rfl, mulW d1 cc.1 k0 (by omega) (by omega), _, rfl, _, _, rfl, rfl, _, rfl, _, _, rfl, ?_⟩
          refine ⟨some (.int e), ?_, rfl⟩
          rw [ed]
          rfl
        · rintro σ H2 ⟨y, rfl, rfl⟩
          have e0 : ws.drop (ws.length - (ws.map V.int).length) = ws := by
            rw [List.length_map, Nat.sub_self]
            rfl
          rw [e0]
          refine ⟨_, rfl, _, rfl, len10 (by simp), fun r nr => ?_⟩
          have F2 := CA N 1 S
          have bd := I.bds F2
          refine kk r _ _ _ (sH.trans (sm_upd nr)) ?_ upd_same F2 bd.1 bd.2
          cases z : H r with
          | none => rfl
          | some o =>
            rw [sH _ _ z] at nr
            cases nr
    · rintro σ H' Q1 Q2 hQ ⟨v, h1, i, j, h2, h3, v2, g1, i2, j2, g2, g3, gm, v3, g4, i3, j3, g5, g6, b, h4, h5⟩
      exact ⟨v, h1, i, j, h2, h3, v2, g1, i2, j2, g2, g3, gm, v3, g4, i3, j3, g5, g6, b, h4, hQ _ _ h5⟩
end
end Lf
namespace Lf
open PySem PySem.Spec PyProof.Rows L2
def EndV (H : Hp) (k : Nat) (v : V) : Option (Int × Int) → Prop
  | none => v = .non
  | some e => ∃ a, v = .ref a ∧ H a = some (tup2 e.1 e.2) ∧ Rt k e.1 e.2
def OkE : Option (Int × Int) → Option (Int × Int) → Prop
  | some l, some h => l.1 * h.2 < h.1 * l.2
  | none, some h => 0 < h.1
  | _, none => True
def ResE : Option (Int × Int) → Option (Int × Int) → Int → Int → Prop
  | none, _, N, D => N = 0 ∧ D = 1
  | some l, some h, N, D => Sim l.1 l.2 h.1 h.2 N D
  | some l, none, N, D => Sim l.1 l.2 1 0 N D
section
variable {P : Program} {w : World} {K : PySem.W.Frag} {mg : Str → Option Value} {base : Heap}
def spSB : Sp := fun vs H Q _ => ∃ (v1 v2 : V) (e1 e2 : Option (Int × Int)) (k : Nat), vs = [v1, v2] ∧ EndV H k v1 e1 ∧ EndV H k v2 e2 ∧ OkE e1 e2 ∧ 0 < k ∧ k ≤ 398 ∧
  ∀ r H' N D, Same H H' → H r = none → H' r = some (tup2 N D) → ResE e1 e2 N D → Bd (k + 1) N → Bd (k + 1) D → Q (.ref r) H'
abbrev s_simplest_between : Stmt := topS 9
abbrev N_simplest_between : List Str := ["low", "high", "p", "q"]
abbrev P_simplest_between : List Str := ["low", "high"]
theorem sc_simplest_between : FnScope N_simplest_between P_simplest_between (defScope s_simplest_between) := ⟨rfl, rfl, rfl, by decide +kernel, rfl, by decide +kernel, by decide +kernel⟩
theorem okA_simplest_between (D : Df K mg "simplest_between" s_simplest_between P_simplest_between) (c_check_rate : C8.Cal P w K mg base 3 "check_rate" spCheckRate []) (c_simplest_inside : C8.Cal P w K mg base 1 "simplest_inside" spInside []) : CalF P w K mg base 4 "simplest_between" s_simplest_between P_simplest_between spSB := by
  refine calF_of D sc_simplest_between (fun vs H Q E h => ?_) (fun f cdv A outer s H vs Q E hr h => ?_)
  · obtain ⟨v1, v2, e1, e2, k, rfl, _⟩ := h
    rfl
  · obtain ⟨v1, v2, e1, e2, k, rfl, g1, g2, ok, k0, k3, kk⟩ := h
    refine ⟨_, (pss_cons (ps_if (pt_cmpR op_notN (pv 0) pe_non (nomark _))
      (pss_one (ps_expr (C8.pe_c c_check_rate hr (by decide) (by rfl) (pa_cons (pv 0) pa_nil))))
      pss_nil)
    (pss_cons (ps_if (pt_cmpR op_notN (pv 1) pe_non (nomark _))
      (pss_cons (ps_expr (C8.pe_c c_check_rate hr (by decide) (by rfl) (pa_cons (pv 1) pa_nil)))
    (pss_cons (ps_asg (pe_ifExp (pt_cmpR op_isN (pv 0) pe_non (nomark _)) (pe_tup (pa_cons pe_int (pa_cons pe_int pa_nil))) (pv 0)) (pg_tup rfl (pgs_cons (pg_name (i := 2) sc_simplest_between.nd rfl (Or.inl rfl)) (pgs_cons (pg_name (i := 3) sc_simplest_between.nd rfl (Or.inl rfl)) pgs_nil))))
    (pss_one (ps_if (pt_cmpR op_le (pe_op op_mulW (pe_ix (r := rIxT K) ix_tup (pv 1) pe_int (fun _ _ => rfl)) (pv 3)) (pe_op op_mulW (pv 2) (pe_ix (r := rIxT K) ix_tup (pv 1) pe_int (fun _ _ => rfl))) (nomark _))
      (pss_one ps_never)
      pss_nil))))
      pss_nil)
    (pss_cons (ps_if (pt_cmpR op_isN (pv 0) pe_non (nomark _))
      (pss_one (ps_ret (pe_tup (pa_cons pe_int (pa_cons pe_int pa_nil)))))
      pss_nil)
    (pss_one (ps_ret (C8.pe_c c_simplest_inside hr (by decide) (by rfl) (pa_cons (pv 0) (pa_cons (pe_ifExp (pt_cmpR op_isN (pv 1) pe_non (nomark _)) (pe_tup (pa_cons pe_int (pa_cons pe_int pa_nil))) (pv 1)) pa_nil)))))))), ?_⟩
    match e1, e2, g1, g2, ok, kk with
    | none, none, g1, g2, ok, kk =>
      have h1 : v1 = .non := g1
      have h2 : v2 = .non := g2
      subst h1 h2
      refine ⟨_, rfl, rfl, _, rfl, iteF ?_⟩
      refine ⟨_, rfl, rfl, _, rfl, iteF ?_⟩
      refine ⟨_, rfl, rfl, _, rfl, iteT ?_⟩
      refine ⟨len10 (by simp), fun r nr => ?_⟩
      exact kk r _ 0 1 (sm_upd nr) nr upd_same ⟨rfl, rfl⟩ (Bd.small 1 (by decide) (by omega)) (Bd.small 1 (by decide) (by omega))
    | none, some (t, b), g1, ⟨h, h2, eh, R⟩, ok, kk =>
      have h1 : v1 = .non := g1
      subst h1 h2
      have eh : H h = some (tup2 t b) := eh
      have ok : 0 < t := ok
      refine ⟨_, rfl, rfl, _, rfl, iteF ?_⟩
      refine ⟨_, rfl, rfl, _, rfl, iteT ?_⟩
      refine ⟨_, rfl, h, t, b, k, rfl, eh, R, ?_⟩
      refine ⟨_, rfl, rfl, _, rfl, iteT ?_⟩
      refine ⟨len10 (by simp), fun z nz => ⟨z, _, rfl, SqT.of upd_same, rfl, _, _, rfl, _, _, rfl, rfl, ?_⟩⟩
      have s1 : Same H (upd H z (tup2 0 1)) := sm_upd nz
      have eh1 := s1 _ _ eh
      refine ⟨_, rfl, h, _, _, _, rfl, rfl, SqT.of eh1, atI_nat (j := 0) rfl, _, rfl, _, _, rfl, rfl, mulW R.bp (Bd.small 1 (by decide) (Nat.le_refl 1)) k0 (by decide) (by omega), _, rfl, _, rfl, h, _, _, _, rfl, rfl, SqT.of eh1, atI_nat (j := 1) rfl, _, _, rfl, rfl, mulW (Bd.small 1 (by decide) (Nat.le_refl 1)) R.bq (by decide) k0 (by omega), _, _, rfl, rfl, _, rfl, iteDn (by omega) ?_⟩
      refine ⟨_, rfl, rfl, _, rfl, iteT ?_⟩
      refine ⟨len10 (by simp), fun r nr => ?_⟩
      refine kk r _ 0 1 (s1.trans (sm_upd nr)) ?_ upd_same ⟨rfl, rfl⟩ (Bd.small 1 (by decide) (by omega)) (Bd.small 1 (by decide) (by omega))
      cases zz : H r with
      | none => rfl
      | some o =>
        rw [s1 _ _ zz] at nr
        cases nr
    | some (p, q), none, ⟨l, h1, el, R⟩, g2, ok, kk =>
      have h2 : v2 = .non := g2
      subst h1 h2
      have el : H l = some (tup2 p q) := el
      refine ⟨_, rfl, rfl, _, rfl, iteT ?_⟩
      refine ⟨_, rfl, l, p, q, k, rfl, el, R, ?_⟩
      refine ⟨_, rfl, rfl, _, rfl, iteF ?_⟩
      refine ⟨_, rfl, rfl, _, rfl, iteF ?_⟩
      refine ⟨_, rfl, _, rfl, rfl, _, rfl, iteT ?_⟩
      refine ⟨len10 (by simp), fun z nz => ?_⟩
      have s1 : Same H (upd H z (tup2 1 0)) := sm_upd nz
      refine ⟨l, z, p, q, 1, 0, k, rfl, s1 _ _ el, upd_same, ⟨R.p0, R.q1, by decide, by have := R.q1; omega, R.bp, R.bq, Bd.small 1 (by decide) (by omega), Bd.small 1 (by decide) (by omega)⟩, k0, by omega, fun r H' N D s2 nr er S b1 b2 => ?_⟩
      refine kk r H' N D (s1.trans s2) ?_ er S b1 b2
      cases zz : H r with
      | none => rfl
      | some o =>
        rw [s1 _ _ zz] at nr
        cases nr
    | some (p, q), some (t, b), ⟨l, h1, el, R⟩, ⟨h, h2, eh, R2⟩, ok, kk =>
      subst h1 h2
      have el : H l = some (tup2 p q) := el
      have eh : H h = some (tup2 t b) := eh
      have ok : p * b < t * q := ok
      refine ⟨_, rfl, rfl, _, rfl, iteT ?_⟩
      refine ⟨_, rfl, l, p, q, k, rfl, el, R, ?_⟩
      refine ⟨_, rfl, rfl, _, rfl, iteT ?_⟩
      refine ⟨_, rfl, h, t, b, k, rfl, eh, R2, ?_⟩
      refine ⟨_, rfl, rfl, _, rfl, iteF ?_⟩
      refine ⟨_, rfl, l, _, rfl, SqT.of el, rfl, _, _, rfl, _, _, rfl, rfl, ?_⟩
      refine ⟨_, rfl, h, _, _, _, rfl, rfl, SqT.of eh, atI_nat (j := 0) rfl, _, rfl, _, _, rfl, rfl, mulW R2.bp R.bq k0 k0 (by omega), _, rfl, _, rfl, h, _, _, _, rfl, rfl, SqT.of eh, atI_nat (j := 1) rfl, _, _, rfl, rfl, mulW R.bp R2.bq k0 k0 (by omega), _, _, rfl, rfl, _, rfl, iteDn (by omega) ?_⟩
      refine ⟨_, rfl, rfl, _, rfl, iteF ?_⟩
      refine ⟨_, rfl, _, rfl, rfl, _, rfl, iteF ?_⟩
      refine ⟨_, rfl, l, h, p, q, t, b, k, rfl, el, eh, ⟨R.p0, R.q1, by have := R2.q1; omega, ok, R.bp, R.bq, R2.bp, R2.bq⟩, k0, by omega, fun r H' N D s2 nr er S b1 b2 => kk r H' N D s2 nr er S b1 b2⟩
theorem ok_simplest_between (cA_simplest_between : CalF P w K mg base 4 "simplest_between" s_simplest_between P_simplest_between spSB) : C8.Cal P w K mg base 4 "simplest_between" spSB [] := by
  exact cA_simplest_between.cal
end
end Lf
namespace Lf
open PySem PySem.Spec PyProof.Rows L2
section
variable {P : Program} {w : World} {K : PySem.W.Frag} {mg : Str → Option Value} {base : Heap}
/-! ### _law_natural, _law_integer -/
def spNatural : Sp := fun vs H Q _ => ∃ (a : PA) (n : Nat) (d : Int), vs = [.ref a, .int d] ∧ Pen H a n ∧ n < 2 ^ 39 ∧ 0 ≤ d ∧ d ≤ 60 ∧
  ∀ g H', 0 ≤ g → Bd 210 g → Pen H' a (n + 21) → Fr H H' → Q (.int g) H'
abbrev s_l_natural : Stmt := topS 15
abbrev N_l_natural : List Str := ["_law_pen_here", "_law_figures", "_law_result", "_law_k"]
abbrev P_l_natural : List Str := ["_law_pen_here", "_law_figures"]
theorem sc_l_natural : FnScope N_l_natural P_l_natural (defScope s_l_natural) := ⟨rfl, rfl, rfl, by decide +kernel, rfl, by decide +kernel, by decide +kernel⟩
theorem ok_l_natural (D : Df K mg "_law_natural" s_l_natural P_l_natural) (B : Bi mg) (c_l_draw : C8.Cal P w K mg base 1 "_law_draw" spDraw []) : C8.Cal P w K mg base 2 "_law_natural" spNatural [] := by
  refine cal_of D sc_l_natural (fun vs H Q E h => ?_) (fun f cdv A outer s H vs Q E hr h => ?_)
  · obtain ⟨a, n, d, rfl, _⟩ := h
    rfl
  · obtain ⟨a, n, d, rfl, hP, hn, h6, h12, q⟩ := h
    refine ⟨_, (pss_cons (ps_set (i := 2) sc_l_natural.nd rfl (Or.inl rfl) pe_int)
    (pss_cons (ps_for PassesOwn.never rfl (pi_range1 rfl B.range_ (pa_cons (pe_op op_fdiv (pv 1) pe_int) pa_nil)) (pg_name (i := 3) sc_l_natural.nd rfl (Or.inl rfl))
      (pss_one (ps_set (i := 2) sc_l_natural.nd rfl (Or.inl rfl) (pe_op op_add (pe_op op_mul pe_int (pv 2)) (C8.pe_c c_l_draw hr (by decide) (by rfl) (pa_cons (pv 0) (pa_cons pe_int pa_nil)))))))
    (pss_one (ps_ret (pe_ifExp (pt_cmpR op_eq (pe_op op_mod (pv 1) pe_int) pe_int (nomark _)) (pv 2) (pe_op op_add (pe_op op_mul pe_int (pv 2)) (C8.pe_c c_l_draw hr (by decide) (by rfl) (pa_cons (pv 0) (pa_cons pe_int pa_nil))))))))), ?_⟩
    refine ⟨_, rfl, _, _, rfl, rfl, ⟨by decide, by decide⟩, _, rfl, by omega, by omega, ?_⟩
    refine for_range (lo := 0) (n := (d / 3).toNat) (fun i σ H2 => ∃ (r : Int) (y : Option V), σ = [some (.ref a), some (.int d), some (.int r), y] ∧ 0 ≤ r ∧ Bd (10 * i) r ∧ Pen H2 a (n + i) ∧ Fr H H2) ?_ ?_ ?_
    · exact ⟨0, none, rfl, by omega, by show (0 : Int).natAbs < 2 ^ 0; decide, hP, Fr.refl _⟩
    · rintro i σ H2 hi ⟨r, y, rfl, r0, rb, hP2, f2⟩
      refine ⟨_, rfl, _, _, rfl, rfl, .inl ⟨by decide, by decide⟩, _, rfl, a, _, _, rfl, hP2, by omega, by decide, Bd.small 20 (by decide) (by decide), fun e H3 e0 e1 hP3 f3 => ?_⟩
      refine ⟨_, _, rfl, rfl, ?_⟩
      exact ⟨_, _, rfl, by omega, Bd.grow3 r0 rb e0 e1, hP3, f2.trans f3⟩
    · rintro σ H2 ⟨r, y, rfl, r0, rb, hP2, f2⟩
      have h3 : (d / 3).toNat ≤ 20 := by omega
      refine ⟨_, rfl, _, _, rfl, rfl, (by show (0 : Int) < 3; decide), rfl, _, rfl, ite2 (fun _ => ?_) (fun _ => ?_)⟩
      · exact ⟨_, rfl, q _ _ r0 (rb.mono (by omega)) (hP2.mono (by omega)) f2⟩
      · refine ⟨_, rfl, _, _, rfl, rfl, .inl ⟨by decide, by decide⟩, _, rfl, a, _, _, rfl, hP2, by omega, by decide, Bd.small 20 (by decide) (by decide), fun e H3 e0 e1 hP3 f3 => ?_⟩
        refine ⟨_, _, rfl, rfl, ?_⟩
        exact q _ _ (by omega) ((Bd.grow1 r0 rb e0 e1).mono (by omega)) (hP3.mono (by omega)) (f2.trans f3)
def spInteger : Sp := fun vs H Q _ => ∃ (a : PA) (n : Nat) (d : Int), vs = [.ref a, .int d] ∧ Pen H a n ∧ n < 2 ^ 38 ∧ 0 ≤ d ∧ d ≤ 60 ∧
  ∀ g H', Bd 210 g → Pen H' a (n + 22) → Fr H H' → Q (.int g) H'
end
end Lf
namespace Lf
open PySem PySem.Spec PyProof.Rows L2
/-- two rules that are the same are not different -/
theorem ne3 {K : PySem.W.Frag} {H : Hp} {r1 r2 : Addr} {p q c p' q' c' : Int} {Q : V → Hp → Prop} (e1 : H r1 = some (.tup [.int p, .int q, .int c])) (e2 : H r2 = some (.tup [.int p', .int q', .int c'])) (hp : p = p') (hq : q = q') (hc : c = c') (h : Q (.bl false) H) : rNeD K (.ref r1) (.ref r2) H Q := by
  subst hp hq hc
  refine ⟨.tuple [.int p, .int q, .int c], .tuple [.int p, .int q, .int c], Dp.tup (SqT.of e1) (.cons (.int p) (.cons (.int q) (.cons (.int c) .nil))), Dp.tup (SqT.of e2) (.cons (.int p) (.cons (.int q) (.cons (.int c) .nil))), rfl, rfl, ?_⟩
  rw [SeqAt.eqv_refl _ rfl]
  exact h
theorem logR {k : Nat} {i : Int} (h : Bd k i) (hk : k ≤ 1920) : i.natAbs.log2 < 1920 := (h.mono hk).log (by decide)
def spLaw (K : PySem.W.Frag) : Sp := fun vs H Q _ => ∃ (a : Addr) (ns : List Int), vs = [.ref a] ∧ SqL K H a (ns.map V.int) ∧ ns.length ≤ 63 ∧ ∀ H', Q (.bl true) H'
end Lf
namespace Lf
open PySem PySem.Spec PyProof.Rows L2
/-! ### simplest fractions by their denominators -/
theorem Sim.gcd {p q t b N D : Int} (s : Sim p q t b N D) : Int.gcd N D = 1 := by
  have g1 := gcd_pos (p := N) s.d1
  have e1 : (Int.gcd N D : Int) * (N / (Int.gcd N D : Int)) = N := Int.mul_ediv_cancel' (Int.gcd_dvd_left ..)
  have e2 : (Int.gcd N D : Int) * (D / (Int.gcd N D : Int)) = D := Int.mul_ediv_cancel' (Int.gcd_dvd_right ..)
  generalize (Int.gcd N D) = g at *
  generalize N / (g : Int) = n at *
  generalize D / (g : Int) = d at *
  have d1 := s.d1
  have hd : 0 < d := by
    refine pos_of_mul (b := (g : Int)) ?_ (by omega)
    rw [Int.mul_comm]
    omega
  have hb := s.bt
  have h1 : p * d < n * q := by
    have := hb.1
    have h : 0 < (n * q - p * d) * (g : Int) := by
      have e : (n * q - p * d) * (g : Int) = g * n * q - p * (g * d) := by grind
      rw [e, e1, e2]
      omega
    have := pos_of_mul h (by omega)
    omega
  have h2 : n * b < t * d := by
    have := hb.2
    have h : 0 < (t * d - n * b) * (g : Int) := by
      have e : (t * d - n * b) * (g : Int) = t * (g * d) - g * n * b := by grind
      rw [e, e1, e2]
      omega
    have := pos_of_mul h (by omega)
    omega
  have m := (s.mi n d (by omega) ⟨h1, h2⟩).1
  rw [← e2] at m
  have : ¬ (2 : Int) ≤ g := fun z => by
    have := Int.mul_le_mul_of_nonneg_right z (show 0 ≤ d by omega)
    omega
  omega
theorem Sim.lt {p q t b N D y : Int} (s : Sim p q t b N D) (hq : 1 ≤ q) (h : p * y / q + 1 = x) (y1 : 1 ≤ y) (hy : y < D) : ¬ x * b < t * y := fun z => by
  have w1 : p * y < (p * y / q + 1) * q := Int.lt_ediv_add_one_mul_self _ (by omega)
  rw [h] at w1
  have := (s.mi x y y1 ⟨w1, z⟩).1
  omega
theorem Sim.at {p q t b N D : Int} (s : Sim p q t b N D) (hq : 1 ≤ q) (hb : 0 ≤ b) : p * D / q + 1 = N ∧ N * b < t * D := by
  have w1 : p * D < (p * D / q + 1) * q := Int.lt_ediv_add_one_mul_self _ (by omega)
  have w2 : p * D / q < N := Int.ediv_lt_of_lt_mul (by omega) s.bt.1
  have h2 := s.bt.2
  refine ⟨?_, h2⟩
  have h3 : (p * D / q + 1) * b < t * D := by
    have := Int.mul_le_mul_of_nonneg_right (show p * D / q + 1 ≤ N by omega) hb
    omega
  have := (s.mi _ D s.d1 ⟨w1, h3⟩).2
  omega
section
variable {P : Program} {w : World} {K : PySem.W.Frag} {mg : Str → Option Value} {base : Heap}
theorem red_rt {k : Nat} {x y : Int} (h0 : 0 ≤ x) (h1 : 1 ≤ y) (bx : Bd k x) (by_ : Bd k y) : Rt k (x / (Int.gcd x y : Int)) (y / (Int.gcd x y : Int)) := by
  have g := gcd_pos (p := x) h1
  refine ⟨Int.ediv_nonneg h0 (by omega), ?_, ?_, bx.ediv g, by_.ediv g⟩
  · have := Int.ediv_le_ediv g (gcd_le (p := x) h1)
    rw [Int.ediv_self (by omega)] at this
    exact this
  · exact Int.gcd_ediv_gcd_ediv_gcd (by omega)
/-- the simplest one, with its own denominator in reach -/
def ResD : Option (Int × Int) → Option (Int × Int) → Int → Int → Prop := fun e1 e2 N D => ResE e1 e2 N D ∧ D < 4000
def spDue : Sp := fun vs H Q _ => ∃ (v1 v2 : V) (e1 e2 : Option (Int × Int)) (N D : Int), vs = [v1, v2] ∧ EndV H 30 v1 e1 ∧ EndV H 30 v2 e2 ∧ OkE e1 e2 ∧ ResD e1 e2 N D ∧
  ∀ r H', Same H H' → H r = none → H' r = some (tup2 N D) → Q (.ref r) H'
def spSomeRate : Sp := fun vs H Q _ => ∃ (a : PA) (n : Nat), vs = [.ref a] ∧ Pen H a n ∧ n < 2 ^ 39 ∧
  ∀ r H' p q, Rt 30 p q → q ≤ 60 → p ≤ 200 → H' r = some (tup2 p q) → Pen H' a (n + 3) → Fr H H' → Q (.ref r) H'
end
end Lf
namespace Lf
open PySem PySem.Spec PyProof.Rows L2
/-! ### Euclid's steps -/
structure Eu (p q o t f s : Int) : Prop where
  o1 : 1 ≤ o
  oq : o ≤ q
  t0 : 0 ≤ t
  lt : t < o
  g : Int.gcd o t = 1
  cf : q ∣ f * p - o
  cs : q ∣ s * p - t
  ex : ∃ e F S : Int, (e = 1 ∨ e = -1) ∧ 0 ≤ F ∧ 0 ≤ S ∧ f = -(e * F) ∧ s = e * S ∧ S * o + F * t = q
theorem Eu.init {p q : Int} (p0 : 0 ≤ p) (q2 : 2 ≤ q) (g : Int.gcd p q = 1) : Eu p q q (p % q) 0 1 := by
  refine ⟨by omega, Int.le_refl _, Int.emod_nonneg _ (by omega), Int.emod_lt_of_pos _ (by omega), ?_, ?_, ?_, 1, 0, 1, .inl rfl, by decide, by decide, rfl, rfl, by omega⟩
  · rw [gcd_turn p q p0 (by omega)]
    exact g
  · rw [Int.zero_mul]
    exact ⟨-1, by omega⟩
  · rw [Int.one_mul]
    exact ⟨p / q, by have := Int.mul_ediv_add_emod p q; omega⟩
theorem Eu.next {p q o t f s : Int} (E : Eu p q o t f s) (ht : 0 < t) : Eu p q t (o - o / t * t) s (f - o / t * s) := by
  obtain ⟨o1, oq, t0, lt, g, cf, cs, e, F, S, he, F0, S0, rfl, rfl, hq⟩ := E
  have e1 : o - o / t * t = o % t := by
    have := Int.mul_ediv_add_emod o t
    rw [Int.mul_comm] at this
    omega
  have m0 := Int.emod_nonneg o (show t ≠ 0 by omega)
  have m1 := Int.emod_lt_of_pos o ht
  have w0 : 0 ≤ o / t := Int.ediv_nonneg (by omega) (by omega)
  refine ⟨by omega, by omega, by omega, by omega, ?_, cs, ?_, -e, S, F + o / t * S, by omega, S0, ?_, ?_, ?_, ?_⟩
  · rw [e1, gcd_turn o t (by omega) ht]
    exact g
  · have h := Int.dvd_sub cf (Int.dvd_mul_of_dvd_right (b := o / t) cs)
    have e2 : (-(e * F) - o / t * (e * S)) * p - (o - o / t * t) = -(e * F) * p - o - o / t * (e * S * p - t) := by grind
    rw [e2]
    exact h
  · have := Int.mul_nonneg w0 S0
    omega
  · grind
  · grind
  · rw [← hq]
    grind
theorem Eu.last {p q o f s : Int} (E : Eu p q o 0 f s) (q2 : 2 ≤ q) : 1 ≤ f % q ∧ f % q < q ∧ q ∣ p * (f % q) - 1 := by
  have ho : o = 1 := by
    have := E.g
    rw [Int.gcd_zero_right] at this
    have := E.o1
    omega
  have h := E.cf
  rw [ho] at h
  have m0 := Int.emod_nonneg f (show q ≠ 0 by omega)
  have m1 := Int.emod_lt_of_pos f (show 0 < q by omega)
  have d : q ∣ p * (f % q) - 1 := by
    have e : p * (f % q) - 1 = f * p - 1 - q * (f / q * p) := by
      have := Int.mul_ediv_add_emod f q
      grind
    rw [e]
    exact Int.dvd_sub h (Int.dvd_mul_right ..)
  refine ⟨?_, m1, d⟩
  rcases Int.lt_or_le 0 (f % q) with z | z
  · exact z
  · have z : f % q = 0 := by omega
    rw [z, Int.mul_zero] at d
    have := Int.le_of_dvd (a := q) (b := 1) (by decide) (by have := Int.dvd_neg.mpr d; simpa using this)
    omega
theorem Eu.bd {k : Nat} {p q o t f s : Int} (E : Eu p q o t f s) (bq : Bd k q) (ht : 0 < t) : Bd k f ∧ Bd k s ∧ Bd k o ∧ Bd k t ∧ Bd k (o / t) := by
  obtain ⟨o1, oq, t0, lt, g, cf, cs, e, F, S, he, F0, S0, rfl, rfl, hq⟩ := E
  have h1 := Int.mul_le_mul_of_nonneg_left o1 S0
  have h2 := Int.mul_le_mul_of_nonneg_left (show 1 ≤ t by omega) F0
  have h3 := Int.mul_nonneg S0 (show 0 ≤ o by omega)
  have h4 := Int.mul_nonneg F0 t0
  have d0 : 0 ≤ o / t := Int.ediv_nonneg (by omega) (by omega)
  have d1 := Int.ediv_le_self t (show 0 ≤ o by omega)
  unfold Bd at *
  rcases he with rfl | rfl
  · exact ⟨by omega, by omega, by omega, by omega, by omega⟩
  · exact ⟨by omega, by omega, by omega, by omega, by omega⟩
section
variable {P : Program} {w : World} {K : PySem.W.Frag} {mg : Str → Option Value} {base : Heap}
def muI : L2.St → Hp → Nat := fun σ _ => match σ with
  | _ :: _ :: _ :: some (.int v) :: _ => v.toNat
  | _ => 0
def spInv : Sp := fun vs H Q _ => ∃ (p q : Int) (k : Nat), vs = [.int p, .int q] ∧ 0 ≤ p ∧ 2 ≤ q ∧ Int.gcd p q = 1 ∧ Bd k p ∧ Bd k q ∧ 0 < k ∧ k ≤ 4000 ∧
  ∀ b H', Same H H' → 1 ≤ b → b < q → q ∣ p * b - 1 → Q (.int b) H'
abbrev s_l_inverse : Stmt := topS 18
abbrev N_l_inverse : List Str := ["_law_p", "_law_q", "_law_one", "_law_two", "_law_first", "_law_second", "_law_part"]
abbrev P_l_inverse : List Str := ["_law_p", "_law_q"]
theorem sc_l_inverse : FnScope N_l_inverse P_l_inverse (defScope s_l_inverse) := ⟨rfl, rfl, rfl, by decide +kernel, rfl, by decide +kernel, by decide +kernel⟩
theorem ok_l_inverse (D : Df K mg "_law_inverse" s_l_inverse P_l_inverse) : C8.Cal P w K mg base 1 "_law_inverse" spInv [] := by
  refine cal_of D sc_l_inverse (fun vs H Q E h => ?_) (fun f cdv A outer s H vs Q E hr h => ?_)
  · obtain ⟨p, q, k, rfl, _⟩ := h
    rfl
  · obtain ⟨p, q, k, rfl, p0, q2, g, bp, bq, k0, k4, kk⟩ := h
    refine ⟨_, (pss_cons (ps_asg (pe_tup (pa_cons (pv 1) (pa_cons (pe_op op_mod (pv 0) (pv 1)) (pa_cons pe_int (pa_cons pe_int pa_nil))))) (pg_tup rfl (pgs_cons (pg_name (i := 2) sc_l_inverse.nd rfl (Or.inl rfl)) (pgs_cons (pg_name (i := 3) sc_l_inverse.nd rfl (Or.inl rfl)) (pgs_cons (pg_name (i := 4) sc_l_inverse.nd rfl (Or.inl rfl)) (pgs_cons (pg_name (i := 5) sc_l_inverse.nd rfl (Or.inl rfl)) pgs_nil))))))
    (pss_cons (ps_while PassesOwn.never (pt_cmpR op_gt (pv 3) pe_int (nomark _))
      (pss_cons (ps_set (i := 6) sc_l_inverse.nd rfl (Or.inl rfl) (pe_op op_fdivW (pv 2) (pv 3)))
    (pss_cons (ps_par (i := 2) (j := 3) rfl sc_l_inverse.nd rfl rfl (by decide) rfl rfl (pa_cons (pv 3) (pa_cons (pe_op op_sub (pv 2) (pe_op op_mulW (pv 6) (pv 3))) pa_nil)) rfl)
    (pss_one (ps_par (i := 4) (j := 5) rfl sc_l_inverse.nd rfl rfl (by decide) rfl rfl (pa_cons (pv 5) (pa_cons (pe_op op_sub (pv 4) (pe_op op_mulW (pv 6) (pv 5))) pa_nil)) rfl)))))
    (pss_one (ps_ret (pe_op op_mod (pv 4) (pv 1)))))), ?_⟩
    refine ⟨_, rfl, _, rfl, _, rfl, _, _, rfl, rfl, by omega, ?_⟩
    refine ⟨len10 (by simp), fun tp ntp => ?_⟩
    refine ⟨tp, _, rfl, SqT.of upd_same, rfl, _, _, rfl, _, _, rfl, _, _, rfl, _, _, rfl, rfl, ?_⟩
    refine while_by (fun σ H' => ∃ (o t u v : Int) (y : Option V), σ = [some (.int p), some (.int q), some (.int o), some (.int t), some (.int u), some (.int v), y] ∧ Eu p q o t u v ∧ Same H H') muI ⟨q, p % q, 0, 1, _, rfl, Eu.init p0 q2 g, sm_upd ntp⟩ ?_ ?_
    · rintro σ H1 ⟨o, t, u, v, y, rfl, E, sH⟩
      refine ⟨_, rfl, _, _, rfl, rfl, _, rfl, ite2 (fun c => ?_) (fun c => ?_)⟩
      · have ht : 0 < t := of_decide_eq_true c
        obtain ⟨b1, b2, b3, b4, b5⟩ := E.bd bq ht
        refine ⟨_, rfl, _, rfl, _, _, rfl, rfl, divW ht b4 (by omega), ?_⟩
        refine ⟨_, rfl, _, rfl, _, rfl, _, rfl, _, _, rfl, rfl, mulW b5 b4 k0 k0 (by omega), _, _, rfl, rfl, _, _, rfl, ?_⟩
        refine ⟨_, rfl, _, rfl, _, rfl, _, rfl, _, _, rfl, rfl, mulW b5 b2 k0 k0 (by omega), _, _, rfl, rfl, _, _, rfl, ?_⟩
        refine ⟨⟨_, _, _, _, _, rfl, E.next ht, sH⟩, ?_⟩
        show (o - o / t * t).toNat < t.toNat
        have := (E.next ht).lt
        omega
      · have ht : t = 0 := by
          have : ¬ 0 < t := fun z => c (decide_eq_true z)
          have := E.t0
          omega
        subst ht
        obtain ⟨l1, l2, l3⟩ := E.last q2
        exact ⟨_, rfl, _, rfl, _, _, rfl, rfl, by omega, kk _ _ sH l1 l2 l3⟩
    · rintro σ H' Q1 Q2 hQ ⟨v, h1, i, j, h2, h3, b, h4, h5⟩
      exact ⟨v, h1, i, j, h2, h3, b, h4, hQ _ _ h5⟩
end
end Lf
namespace Lf
open PySem PySem.Spec PyProof.Rows L2 HT
/-! ### t[::-1], of a pair -/
section
variable {w : World} {prog : Program} {s : Shared} {A : Around} {E : Value → Shared → Prop}
theorem applied_rev2 {sl : Addr} {v1 v2 v3 : Value} {Q : Int × Int × Nat → Shared → Prop} (hs : s.heap.IsSliceOf sl v1 v2 v3) (h1 : IsPart v1 none) (h2 : IsPart v2 none) (h3 : IsPart v3 (some (-1))) (h : Q (1, -1, 2) s) : wpAny (model prog w) A (Builtin.Slice.sliceApplied (.ref sl) (pure ((2 : Nat) : Int))) Q E s := by
  obtain ⟨ob, e1, e2, e3⟩ := id hs
  unfold Builtin.Slice.sliceApplied; unfold Builtin.Slice.sliceFields
  refine wpAny_bind (wpAny_bind (wpAny_field e1 e3 (x := v1) rfl (wpAny_bind (wpAny_field e1 e3 (x := v2) rfl (wpAny_bind (wpAny_field e1 e3 (x := v3) rfl (wpAny_pure ?_)))))))
  refine wpAny_bind (slicePart_ h3 ?_)
  refine wpAny_bind (slicePart_ h1 (wpAny_bind (slicePart_ h2 (wpAny_bind (wpAny_pure ?_)))))
  exact wpAny_pure h
theorem item_rev2 {t sl : Addr} {v1 v2 v3 a b : Value} {Q : Value → Shared → Prop} (ht : IsTup s.heap t #[a, b]) (hs : s.heap.IsSliceOf sl v1 v2 v3) (h1 : IsPart v1 none) (h2 : IsPart v2 none) (h3 : IsPart v3 (some (-1)))
    (h : Q (.ref s.heap.objs.size) { s with heap := s.heap.push { cls := .type "tuple", data := .seq #[b, a] } }) : wpAny (model prog w) A (getItem (.ref t) (.ref sl)) Q E s := by
  have ok2 : sizeOk (.seq #[b, a]) := by
    show (#[b, a] : Array Value).size ≤ sizeLine
    exact len10 (by show 2 ≤ 1000; decide)
  obtain ⟨ob, e1, e2, e3⟩ := id hs
  have hT : s.TypeIs (.ref sl) "slice" := ⟨ob, e1, e2⟩
  unfold getItem; (try with_reducible refine wpAny_holding ?_); (first | refine wpAny_bind (wpAny_pure ?_) | skip)
  refine wpAny_bind (wpAny_sequenceKey ht.typeIs (by decide) (wpAny_bind (wpAny_callSpecial?_slot (name := Str.ofString "__getitem__") ht.typeIs PyProof.Rows.slot_tuple_getitem (wpAny_call_entry PyProof.Rows.slot_tuple_getitem ht.typeIs entry_tuple_getitem ?_ (args_tuple_getitem _ _)))))
  refine wpAny_bind (m := Builtin.Tuple.tupleItemsOf (.ref t)) (tupleItemsOf_ ht (wpAny_bind (wpAny_typeOf hT ?_)))
  rw [if_pos (by decide)]
  refine wpAny_bind (applied_rev2 hs h1 h2 h3 ?_)
  first
    | exact wpAny_bind (m := Builtin.Tuple.tupleExact #[b, a]) (wpAny_newObj_type (wpAny_pure ⟨_, rfl, wpAny_pure h⟩) ok2)
    | exact wpAny_bind (m := Builtin.Tuple.tupleExact #[b, a]) (wpAny_newObj_type (wpAny_bind (wpAny_pure (wpAny_pure ⟨_, rfl, wpAny_pure h⟩))) ok2)
    | exact wpAny_bind (wpAny_bind (m := Builtin.Tuple.tupleExact #[b, a]) (wpAny_newObj_type (wpAny_pure (wpAny_pure ⟨_, rfl, wpAny_pure h⟩)) ok2))
    | exact wpAny_bind (wpAny_bind (m := Builtin.Tuple.tupleExact #[b, a]) (wpAny_newObj_type (wpAny_pure ⟨_, rfl, wpAny_pure h⟩) ok2))
end
section
variable {X : Cx}
def tRev2 (K : PySem.W.Frag) (te : TE) : TE := fun σ H Q => te σ H fun x H1 => ∃ a y z, x = .ref a ∧ SqT K H1 a [y, z] ∧ ∀ p, H1 p = none → Q (.ref p) (upd H1 p (.tup [z, y]))
theorem pe_rev2 {e : Expr} {te : TE} {k : Nat} {p1 p2 p3 pos : Pos} (he : PE X e te) : PE X (.Subscript e (.Slice none none (some (.UnaryOp .USub (.Constant (.int 1) k p1) p2)) p3) pos) (tRev2 X.K te) := by
  refine ⟨fun pins s σ H Q I h => Subscript_ (thn (he.run pins s σ H _ I h) fun v s1 ⟨x, H1, I1, r1, a, y, z, ex, hx, q⟩ => ?_)⟩
  subst ex
  cases r1
  have st : PO X (some (.UnaryOp .USub (.Constant (.int 1) k p1) p2)) (tPart (tUn (rU fun i => .int (-i)) (tC (.int 1)))) := po_some (pe_un un_neg pe_int)
  refine wpAny_Slice (thn (po_none.run pins s1 σ H1 (fun o H2 => o = none ∧ H2 = H1) I1 ⟨rfl, rfl⟩) fun u1 s2 ⟨o1, H2, I2, g1, f1, f2⟩ => ?_)
  subst f1 f2
  refine thn (po_none.run pins s2 σ H2 (fun o H3 => o = none ∧ H3 = H2) I2 ⟨rfl, rfl⟩) fun u2 s3 ⟨o2, H3, I3, g2, f3, f4⟩ => ?_
  subst f3 f4
  refine thn (st.run pins s3 σ H3 (fun o H4 => o = some (-1) ∧ H4 = H3) I3 ⟨1, rfl, -1, rfl, rfl, rfl⟩) fun u3 s4 ⟨o3, H4, I4, g3, f5, f6⟩ => ?_
  subst f5 f6
  have I5 : Inv X pins σ H4 { s4 with heap := s4.heap.push { cls := .type "slice", data := .fields #[u1, u2, u3] } } := I4.kept (t' := s4.toks) fun b ob w => Heap.get?_push_of_some _ w
  obtain ⟨its, r, ht, hz⟩ := I5.tuple hx
  obtain ⟨a1, a2, rfl, q1, q2⟩ : ∃ a1 a2, its = [a1, a2] ∧ RelV y a1 ∧ RelV z a2 := by
    cases r with
    | cons q1 r =>
      cases r with
      | cons q2 r =>
        cases r
        exact ⟨_, _, rfl, q1, q2⟩
  show wpAny (model X.prog X.w) X.A (subscriptTail e (.Slice none none (some (.UnaryOp .USub (.Constant (.int 1) k p1) p2)) p3) (.ref a) (.ref s4.heap.objs.size)) (EP X pins σ Q) X.xe _
  refine tail_any (ops := [.ref a, .ref s4.heap.objs.size]) ht.typeIs (PyProof.Rows.slot_tuple_getitem.lookup) ?_ (by with_unfolding_all rfl)
  refine item_rev2 ht (Heap.IsSliceOf.new _ u1 u2 u3) g1 g2 g3 ?_
  refine ⟨.ref _, _, I5.laid (t' := s4.toks) (o := .tup [z, y]) (fun b ob w => Heap.get?_push_of_some _ w) (Nat.le_refl _) ?_, rfl, q _ (I5.hok.fresh (Nat.le_refl _))⟩
  exact ⟨len10 (by show 2 ≤ 1000; decide), [a2, a1], .cons q2 (.cons q1 .nil), IsTup.new _ _⟩
end
end Lf
namespace Lf
open PySem PySem.Spec PyProof.Rows L2
theorem sim_one {p q t b N : Int} (S : Sim p q t b N 1) (b1 : 0 ≤ b) : (N - 1) * q ≤ p := by
  rcases Int.lt_or_le p ((N - 1) * q) with z | z
  · have h2 := S.bt.2
    have := (S.mi (N - 1) 1 (by decide) ⟨by omega, by rw [Int.sub_mul]; omega⟩).2
    omega
  · exact z
theorem sim_nb {p q t b N D B a : Int} (S : Sim p q t b N D) (q1 : 1 ≤ q) (b1 : 1 ≤ b) (B1 : 1 ≤ B) (B2 : B < D) (e : N * B - 1 = D * a) : a * q ≤ p * B ∧ t * (D - B) ≤ (N - a) * b := by
  have h1 := S.bt.1
  have h2 := S.bt.2
  have d1 := S.d1
  constructor
  · rcases Int.lt_or_le (p * B) (a * q) with z | z
    · have g : 0 < (t * B - a * b) * D := by
        have e2 : (t * B - a * b) * D = (t * D - N * b) * B + b := by grind
        have := Int.mul_pos (show 0 < t * D - N * b by omega) (show 0 < B by omega)
        omega
      have := pos_of_mul g (by omega)
      have := (S.mi a B B1 ⟨z, by omega⟩).1
      omega
    · exact z
  · rcases Int.lt_or_le ((N - a) * b) (t * (D - B)) with z | z
    · have g : 0 < ((N - a) * q - p * (D - B)) * D := by
        have e2 : ((N - a) * q - p * (D - B)) * D = (N * q - p * D) * (D - B) + q := by grind
        have := Int.mul_pos (show 0 < N * q - p * D by omega) (show 0 < D - B by omega)
        omega
      have := pos_of_mul g (by omega)
      have := (S.mi (N - a) (D - B) (by omega) ⟨by omega, z⟩).1
      omega
    · exact z
section
variable {P : Program} {w : World} {K : PySem.W.Frag} {mg : Str → Option Value} {base : Heap}
def spIsS : Sp := fun vs H Q _ => ∃ (l h r : Addr) (p q t b N D : Int) (k : Nat), vs = [.ref l, .ref h, .ref r] ∧ H l = some (tup2 p q) ∧ H h = some (tup2 t b) ∧ H r = some (tup2 N D) ∧ Iv k p q t b ∧ 1 ≤ b ∧ 0 < k ∧ k ≤ 1000 ∧ Sim p q t b N D ∧
  ∀ H', Same H H' → Q (.bl true) H'
abbrev s_l_is_simplest : Stmt := topS 19
abbrev N_l_is_simplest : List Str := ["_law_least", "_law_most", "_law_rate", "_law_p", "_law_q", "_law_b", "_law_a"]
abbrev P_l_is_simplest : List Str := ["_law_least", "_law_most", "_law_rate"]
theorem sc_l_is_simplest : FnScope N_l_is_simplest P_l_is_simplest (defScope s_l_is_simplest) := ⟨rfl, rfl, rfl, by decide +kernel, rfl, by decide +kernel, by decide +kernel⟩
theorem ok_l_is_simplest (D : Df K mg "_law_is_simplest" s_l_is_simplest P_l_is_simplest) (c_l_inverse : C8.Cal P w K mg base 1 "_law_inverse" spInv []) : C8.Cal P w K mg base 2 "_law_is_simplest" spIsS [] := by
  refine cal_of D sc_l_is_simplest (fun vs H Q E h => ?_) (fun f cdv A outer s H vs Q E hr h => ?_)
  · obtain ⟨l, h, r, p, q, t, b, N, D, k, rfl, _⟩ := h
    rfl
  · obtain ⟨l, h, r, p, q, t, b, N, D, k, rfl, el, eh, er, I, b1, k0, k1, S, kk⟩ := h
    refine ⟨_, (pss_cons (ps_asg (pv 2) (pg_tup rfl (pgs_cons (pg_name (i := 3) sc_l_is_simplest.nd rfl (Or.inl rfl)) (pgs_cons (pg_name (i := 4) sc_l_is_simplest.nd rfl (Or.inl rfl)) pgs_nil))))
    (pss_cons (ps_if (PW.pt (pw_or (pt_cmpR op_ge (pe_op op_mulW (pe_ix (r := rIxT K) ix_tup (pv 0) pe_int (fun _ _ => rfl)) (pv 4)) (pe_op op_mulW (pv 3) (pe_ix (r := rIxT K) ix_tup (pv 0) pe_int (fun _ _ => rfl))) (nomark _)) (pw_or1 (pt_cmpR op_ge (pe_op op_mulW (pv 3) (pe_ix (r := rIxT K) ix_tup (pv 1) pe_int (fun _ _ => rfl))) (pe_op op_mulW (pe_ix (r := rIxT K) ix_tup (pv 1) pe_int (fun _ _ => rfl)) (pv 4)) (nomark _)))))
      (pss_one (ps_ret pe_bl))
      pss_nil)
    (pss_cons (ps_if (pt_cmpR op_eq (pv 4) pe_int (nomark _))
      (pss_one (ps_ret (pe_cmpR op_le (pe_op op_mulW (pe_op op_sub (pv 3) pe_int) (pe_ix (r := rIxT K) ix_tup (pv 0) pe_int (fun _ _ => rfl))) (pe_ix (r := rIxT K) ix_tup (pv 0) pe_int (fun _ _ => rfl)) (nomark _))))
      pss_nil)
    (pss_cons (ps_set (i := 5) sc_l_is_simplest.nd rfl (Or.inl rfl) (C8.pe_c c_l_inverse hr (by decide) (by rfl) (pa_cons (pv 3) (pa_cons (pv 4) pa_nil))))
    (pss_cons (ps_set (i := 6) sc_l_is_simplest.nd rfl (Or.inl rfl) (pe_op op_fdivW (pe_op op_sub (pe_op op_mulW (pv 3) (pv 5)) pe_int) (pv 4)))
    (pss_one (ps_ret (pe_and (pe_cmpR op_le (pe_op op_mulW (pv 6) (pe_ix (r := rIxT K) ix_tup (pv 0) pe_int (fun _ _ => rfl))) (pe_op op_mulW (pe_ix (r := rIxT K) ix_tup (pv 0) pe_int (fun _ _ => rfl)) (pv 5)) (nomark _)) (pe_one (pe_cmpR op_ge (pe_op op_mulW (pe_op op_sub (pv 3) (pv 6)) (pe_ix (r := rIxT K) ix_tup (pv 1) pe_int (fun _ _ => rfl))) (pe_op op_mulW (pe_ix (r := rIxT K) ix_tup (pv 1) pe_int (fun _ _ => rfl)) (pe_op op_sub (pv 4) (pv 5))) (nomark _))))))))))), ?_⟩
    obtain ⟨bN, bD⟩ := I.bds S
    have d1 := S.d1
    have n1 := S.n1
    have h1 := S.bt.1
    have h2 := S.bt.2
    refine ⟨_, rfl, r, _, rfl, SqT.of er, rfl, _, _, rfl, _, _, rfl, rfl, ?_⟩
    refine ⟨_, rfl, l, _, _, _, rfl, rfl, SqT.of el, atI_nat (j := 0) rfl, _, rfl, _, _, rfl, rfl, mulW I.bp bD k0 (by omega) (by omega), ?_⟩
    refine ⟨_, rfl, _, rfl, l, _, _, _, rfl, rfl, SqT.of el, atI_nat (j := 1) rfl, _, _, rfl, rfl, mulW bN I.bq (by omega) k0 (by omega), _, _, rfl, rfl, _, rfl, iteDn (by omega) ?_⟩
    refine ⟨_, rfl, _, rfl, h, _, _, _, rfl, rfl, SqT.of eh, atI_nat (j := 1) rfl, _, _, rfl, rfl, mulW bN I.bb (by omega) k0 (by omega), ?_⟩
    refine ⟨_, rfl, h, _, _, _, rfl, rfl, SqT.of eh, atI_nat (j := 0) rfl, _, rfl, _, _, rfl, rfl, mulW I.bt bD k0 (by omega) (by omega), _, _, rfl, rfl, _, rfl, iteDn (by omega) ?_⟩
    have gN := S.gcd
    refine ⟨_, rfl, rfl, _, rfl, ite2 (fun c => ?_) (fun c => ?_)⟩
    · have c : D = 1 := by simpa using c
      subst c
      refine ⟨_, rfl, _, _, rfl, rfl, _, rfl, l, _, _, _, rfl, rfl, SqT.of el, atI_nat (j := 1) rfl, _, _, rfl, rfl, mulW (Bd.sub bN (Bd.small 1 (by decide) (by omega))) I.bq (by omega) k0 (by omega), _, rfl, l, _, _, _, rfl, rfl, SqT.of el, atI_nat (j := 0) rfl, _, _, rfl, rfl, ?_⟩
      show Q (V.bl (decide ((N - 1) * q ≤ p))) H
      rw [decide_eq_true (sim_one S (by omega))]
      exact kk _ (Same.refl _)
    · have c : D ≠ 1 := by simpa using c
      refine ⟨_, rfl, _, rfl, N, D, k + 1, rfl, by omega, by omega, gN, bN, bD, by omega, by omega, fun B H1 s1 B1 B2 dv => ?_⟩
      have el := s1 _ _ el
      have eh := s1 _ _ eh
      have bB : Bd (k + 1) B := bD.between (by omega) (by omega)
      obtain ⟨a, ea⟩ := dv
      have ea' : (N * B - 1) / D = a := by rw [ea, Int.mul_ediv_cancel_left _ (by omega)]
      have ba : Bd (k + 1 + (k + 1) + 1) a := by
        rw [← ea']
        exact Bd.ediv (Bd.sub (Bd.mul bN bB) (Bd.small 1 (by decide) (by omega))) (by omega)
      refine ⟨_, rfl, _, rfl, _, _, rfl, rfl, mulW bN bB (by omega) (by omega) (by omega), _, _, rfl, rfl, _, rfl, _, _, rfl, rfl, divW (by omega) bD (by omega), ?_⟩
      dsimp only
      rw [ea']
      obtain ⟨g1, g2⟩ := sim_nb S (by have := I.q1; omega) b1 B1 B2 ea
      refine ⟨_, rfl, _, rfl, l, _, _, _, rfl, rfl, SqT.of el, atI_nat (j := 1) rfl, _, _, rfl, rfl, mulW ba I.bq (by omega) k0 (by omega), _, rfl, l, _, _, _, rfl, rfl, SqT.of el, atI_nat (j := 0) rfl, _, rfl, _, _, rfl, rfl, mulW I.bp bB k0 (by omega) (by omega), _, _, rfl, rfl, _, rfl, iteD g1 ?_⟩
      refine ⟨_, rfl, _, rfl, _, _, rfl, rfl, _, rfl, h, _, _, _, rfl, rfl, SqT.of eh, atI_nat (j := 1) rfl, _, _, rfl, rfl, mulW (Bd.sub (bN.mono (by omega)) ba) I.bb (by omega) k0 (by omega), _, rfl, h, _, _, _, rfl, rfl, SqT.of eh, atI_nat (j := 0) rfl, _, rfl, _, rfl, _, _, rfl, rfl, _, _, rfl, rfl, mulW I.bt (Bd.sub bD bB) k0 (by omega) (by omega), _, _, rfl, rfl, ?_⟩
      show Q (V.bl (decide (t * (D - B) ≤ (N - a) * b))) H1
      rw [decide_eq_true g2]
      exact kk _ s1
end
end Lf
namespace Lf
open PySem PySem.Spec PyProof.Rows L2
theorem red_b {k : Nat} {x y : Int} (h0 : 0 ≤ x) (h1 : 1 ≤ y) (bx : Bd k x) (by_ : Bd k y) : Rt k (x / (Int.gcd x y : Int)) (y / (Int.gcd x y : Int)) := red_rt h0 h1 bx by_
theorem red_lt2 {pa qa pb qb : Int} (qa1 : 1 ≤ qa) (qb1 : 1 ≤ qb) (h : pa * qb < pb * qa) : pa * (qb / (Int.gcd pb qb : Int)) < pb / (Int.gcd pb qb : Int) * qa := by
  have g1 := gcd_pos (p := pb) qb1
  have e1 : (Int.gcd pb qb : Int) * (pb / (Int.gcd pb qb : Int)) = pb := Int.mul_ediv_cancel' (Int.gcd_dvd_left ..)
  have e2 : (Int.gcd pb qb : Int) * (qb / (Int.gcd pb qb : Int)) = qb := Int.mul_ediv_cancel' (Int.gcd_dvd_right ..)
  generalize (Int.gcd pb qb) = g at *
  generalize pb / (g : Int) = n at *
  generalize qb / (g : Int) = d at *
  have h0 : 0 < (n * qa - pa * d) * (g : Int) := by
    have e : (n * qa - pa * d) * (g : Int) = g * n * qa - pa * (g * d) := by grind
    rw [e, e1, e2]
    omega
  have := pos_of_mul h0 (by omega)
  omega
theorem cop2 {a b c : Int} (h : a ∣ b * c) (g : Int.gcd b a = 1) : a ∣ c := by
  have n1 : a.natAbs ∣ b.natAbs * c.natAbs := by
    rw [← Int.natAbs_mul]
    exact Int.natAbs_dvd_natAbs.mpr h
  exact Int.natAbs_dvd_natAbs.mp (Nat.Coprime.dvd_of_dvd_mul_left (show Nat.Coprime a.natAbs b.natAbs from (Nat.gcd_comm _ _).trans g) n1)
theorem rt_same {p q t b : Int} (q1 : 1 ≤ q) (b1 : 1 ≤ b) (g : Int.gcd p q = 1) (g2 : Int.gcd t b = 1) (h : p * b = t * q) : p = t ∧ q = b := by
  have d1 : q ∣ b := cop2 (by rw [h]; exact Int.dvd_mul_left ..) g
  have d2 : b ∣ q := cop2 (by rw [← h]; exact Int.dvd_mul_left ..) g2
  have h1 := Int.le_of_dvd (by omega) d1
  have h2 := Int.le_of_dvd (by omega) d2
  have e : q = b := by omega
  subst e
  exact ⟨Int.eq_of_mul_eq_mul_right (by omega) h, rfl⟩
theorem eqv2 (p q p' q' : Int) : PyData.eqv (.tuple [.int p, .int q]) (.tuple [.int p', .int q']) = decide (p = p' ∧ q = q') := by
  by_cases h : p = p'
  · subst h
    by_cases h2 : q = q'
    · subst h2
      simp [PyData.eqv, PyData.eqvAll]
    · simp [PyData.eqv, PyData.eqvAll, h2]
  · simp [PyData.eqv, PyData.eqvAll, h]
theorem dpair {K : PySem.W.Frag} {H : Hp} {r : Addr} {p q : Int} (e : H r = some (tup2 p q)) : Dp K H (.ref r) (.tuple [.int p, .int q]) := Dp.tup (SqT.of e) (.cons (.int p) (.cons (.int q) .nil))
/-- the greater end, before it is brought to lowest terms -/
structure Up (p q t b : Int) : Prop where
  t0 : 0 ≤ t
  b1 : 1 ≤ b
  bt : Bd 320 t
  bb : Bd 320 b
  or : Int.gcd t b = 1 ∨ p * b < t * q
section
variable {P : Program} {w : World} {K : PySem.W.Frag} {mg : Str → Option Value} {base : Heap}
def spTwo : Sp := fun vs H Q _ => ∃ (a : PA) (n : Nat), vs = [.ref a] ∧ Pen H a n ∧ n < 2 ^ 37 ∧
  ∀ r l h H' p q t b, H' r = some (.tup [.ref l, .ref h]) → H' l = some (tup2 p q) → H' h = some (tup2 t b) → Rt 321 p q → Rt 321 t b → p * b < t * q → Pen H' a (n + 100) → Fr H H' → Q (.ref r) H'
abbrev s_l_two_rates : Stmt := topS 20
abbrev N_l_two_rates : List Str := ["_law_pen_here", "_law_figures", "_law_one", "_law_road", "_law_two", "_law_b"]
abbrev P_l_two_rates : List Str := ["_law_pen_here"]
theorem sc_l_two_rates : FnScope N_l_two_rates P_l_two_rates (defScope s_l_two_rates) := ⟨rfl, rfl, rfl, by decide +kernel, rfl, by decide +kernel, by decide +kernel⟩
theorem ok_l_two_rates (D : Df K mg "_law_two_rates" s_l_two_rates P_l_two_rates) (B : Bi mg) (c_l_draw : C8.Cal P w K mg base 1 "_law_draw" spDraw []) (c_l_pick : C8.Cal P w K mg base 2 "_law_pick" spPick []) (c_l_natural : C8.Cal P w K mg base 2 "_law_natural" spNatural []) (c_l_reduced : C8.Cal P w K mg base 2 "_law_reduced" spReduced []) (c_l_inverse : C8.Cal P w K mg base 1 "_law_inverse" spInv []) : C8.Cal P w K mg base 3 "_law_two_rates" spTwo [] := by
  refine cal_of D sc_l_two_rates (fun vs H Q E h => ?_) (fun f cdv A outer s H vs Q E hr h => ?_)
  · obtain ⟨a, n, rfl, _⟩ := h
    rfl
  · obtain ⟨a, n, rfl, hP, hn, kk⟩ := h
    refine ⟨_, (pss_cons (ps_set (i := 1) sc_l_two_rates.nd rfl (Or.inl rfl) (C8.pe_c c_l_pick hr (by decide) (by rfl) (pa_cons (pv 0) (pa_cons (pe_lst (pa_cons pe_int (pa_cons pe_int (pa_cons pe_int (pa_cons pe_int pa_nil))))) pa_nil))))
    (pss_cons (ps_set (i := 2) sc_l_two_rates.nd rfl (Or.inl rfl) (C8.pe_c c_l_reduced hr (by decide) (by rfl) (pa_cons (C8.pe_c c_l_natural hr (by decide) (by rfl) (pa_cons (pv 0) (pa_cons (pv 1) pa_nil))) (pa_cons (pe_op op_add pe_int (C8.pe_c c_l_natural hr (by decide) (by rfl) (pa_cons (pv 0) (pa_cons (pv 1) pa_nil)))) pa_nil))))
    (pss_cons (ps_set (i := 3) sc_l_two_rates.nd rfl (Or.inl rfl) (C8.pe_c c_l_draw hr (by decide) (by rfl) (pa_cons (pv 0) (pa_cons pe_int pa_nil))))
    (pss_cons (ps_set (i := 4) sc_l_two_rates.nd rfl (Or.inl rfl) (C8.pe_c c_l_reduced hr (by decide) (by rfl) (pa_cons (C8.pe_c c_l_natural hr (by decide) (by rfl) (pa_cons (pv 0) (pa_cons (pv 1) pa_nil))) (pa_cons (pe_op op_add pe_int (C8.pe_c c_l_natural hr (by decide) (by rfl) (pa_cons (pv 0) (pa_cons (pv 1) pa_nil)))) pa_nil))))
    (C8.pss_cut (ps_if (pt_cmpR op_eq (pv 3) pe_int (nomark _))
      (pss_one (ps_set (i := 4) sc_l_two_rates.nd rfl (Or.inl rfl) (C8.pe_c c_l_reduced hr (by decide) (by rfl) (pa_cons (pe_op op_add (pe_op op_add (pe_op op_mulW (pe_ix (r := rIxT K) ix_tup (pv 2) pe_int (fun _ _ => rfl)) (pe_op op_pow pe_int pe_int)) pe_int) (C8.pe_c c_l_draw hr (by decide) (by rfl) (pa_cons (pv 0) (pa_cons pe_int pa_nil)))) (pa_cons (pe_op op_mulW (pe_ix (r := rIxT K) ix_tup (pv 2) pe_int (fun _ _ => rfl)) (pe_op op_pow pe_int pe_int)) pa_nil)))))
      pss_nil)
    (C8.pss_cut (ps_if (pt_cmpR op_eq (pv 3) pe_int (nomark _))
      (pss_one (ps_set (i := 4) sc_l_two_rates.nd rfl (Or.inl rfl) (pe_tup (pa_cons (pe_op op_add (pe_ix (r := rIxT K) ix_tup (pv 2) pe_int (fun _ _ => rfl)) pe_int) (pa_cons (pe_ix (r := rIxT K) ix_tup (pv 2) pe_int (fun _ _ => rfl)) pa_nil)))))
      pss_nil)
    (C8.pss_cut (ps_if (PW.pt (pw_and (pt_cmpR op_eq (pv 3) pe_int (nomark _)) (pw_and1 (pt_cmpR op_gt (pe_ix (r := rIxT K) ix_tup (pv 2) pe_int (fun _ _ => rfl)) pe_int (nomark _)))))
      (pss_cons (ps_set (i := 5) sc_l_two_rates.nd rfl (Or.inl rfl) (C8.pe_c c_l_inverse hr (by decide) (by rfl) (pa_cons (pe_ix (r := rIxT K) ix_tup (pv 2) pe_int (fun _ _ => rfl)) (pa_cons (pe_ix (r := rIxT K) ix_tup (pv 2) pe_int (fun _ _ => rfl)) pa_nil))))
    (pss_one (ps_set (i := 4) sc_l_two_rates.nd rfl (Or.inl rfl) (pe_tup (pa_cons (pe_op op_sub (pe_ix (r := rIxT K) ix_tup (pv 2) pe_int (fun _ _ => rfl)) (pe_op op_fdivW (pe_op op_sub (pe_op op_mulW (pe_ix (r := rIxT K) ix_tup (pv 2) pe_int (fun _ _ => rfl)) (pv 5)) pe_int) (pe_ix (r := rIxT K) ix_tup (pv 2) pe_int (fun _ _ => rfl)))) (pa_cons (pe_op op_sub (pe_ix (r := rIxT K) ix_tup (pv 2) pe_int (fun _ _ => rfl)) (pv 5)) pa_nil))))))
      pss_nil)
    (C8.pss_cut (ps_if (pt_cmpR op_gt (pe_op op_mulW (pe_ix (r := rIxT K) ix_tup (pv 2) pe_int (fun _ _ => rfl)) (pe_ix (r := rIxT K) ix_tup (pv 4) pe_int (fun _ _ => rfl))) (pe_op op_mulW (pe_ix (r := rIxT K) ix_tup (pv 4) pe_int (fun _ _ => rfl)) (pe_ix (r := rIxT K) ix_tup (pv 2) pe_int (fun _ _ => rfl))) (nomark _))
      (pss_one (ps_par (i := 2) (j := 4) rfl sc_l_two_rates.nd rfl rfl (by decide) rfl rfl (pa_cons (pv 4) (pa_cons (pv 2) pa_nil)) rfl))
      pss_nil)
    (pss_one (ps_ret (pe_tup (pa_cons (pv 2) (pa_cons (C8.pe_c c_l_reduced hr (by decide) (by rfl) (pa_cons (pe_op op_add (pe_ix (r := rIxT K) ix_tup (pv 4) pe_int (fun _ _ => rfl)) (pe_callTy (call_int1) (by rfl) B.int_ bt_int (pa_cons (pe_cmpR (op_eqD hr.units) (pv 2) (pv 4) (nomark _)) pa_nil))) (pa_cons (pe_ix (r := rIxT K) ix_tup (pv 4) pe_int (fun _ _ => rfl)) pa_nil))) pa_nil))))))))))))), ?_⟩
    refine ⟨_, rfl, len10 (by simp), fun l nl => ?_⟩
    refine ⟨a, l, _, _, rfl, hP.new nl, by omega, upd_same, by simp, by simp, fun x H1 hx hP1 f1 => ?_⟩
    have f1 := (Fr.new nl).trans f1
    obtain ⟨m, rfl, m0, m1⟩ : ∃ m, x = V.int m ∧ 0 ≤ m ∧ m ≤ 60 := by
      simp only [List.mem_cons, List.not_mem_nil, or_false] at hx
      rcases hx with rfl | rfl | rfl | rfl <;> exact ⟨_, rfl, by omega, by omega⟩
    clear hx nl
    refine ⟨_, rfl, _, rfl, a, _, m, rfl, hP1, by omega, m0, m1, fun g1 H2 g10 g1b hP2 f2 => ?_⟩
    refine ⟨_, rfl, _, rfl, a, _, m, rfl, hP2, by omega, m0, m1, fun g2 H3 g20 g2b hP3 f3 => ?_⟩
    refine ⟨_, _, rfl, rfl, ?_⟩
    have b2 : Bd 211 (1 + g2) := Bd.add (Bd.small 1 (by decide) (by decide)) g2b
    refine ⟨g1, 1 + g2, rfl, g10, by omega, b2.mono (by decide), fun ra H4 s4 na ea => ?_⟩
    have R1 := red_b (k := 211) g10 (show 1 ≤ 1 + g2 by omega) (g1b.mono (by decide)) b2
    generalize g1 / (Int.gcd g1 (1 + g2) : Int) = p at ea R1
    generalize (1 + g2) / (Int.gcd g1 (1 + g2) : Int) = q at ea R1
    have hP4 := hP3.same s4
    have f4 := ((f1.trans f2).trans f3).trans (Fr.same s4)
    clear f1 f2 f3 hP1 hP2 hP3 s4
    refine ⟨_, rfl, a, _, _, rfl, hP4, by omega, by decide, Bd.small 20 (by decide) (by decide), fun road H5 d0 d1 hP5 f5 => ?_⟩
    refine ⟨_, rfl, _, rfl, a, _, m, rfl, hP5, by omega, m0, m1, fun g3 H6 g30 g3b hP6 f6 => ?_⟩
    refine ⟨_, rfl, _, rfl, a, _, m, rfl, hP6, by omega, m0, m1, fun g4 H7 g40 g4b hP7 f7 => ?_⟩
    refine ⟨_, _, rfl, rfl, ?_⟩
    have b4 : Bd 211 (1 + g4) := Bd.add (Bd.small 1 (by decide) (by decide)) g4b
    refine ⟨g3, 1 + g4, rfl, g30, by omega, b4.mono (by decide), fun rb H8 s8 nb eb => ?_⟩
    have R2 := red_b (k := 211) g30 (show 1 ≤ 1 + g4 by omega) (g3b.mono (by decide)) b4
    generalize g3 / (Int.gcd g3 (1 + g4) : Int) = t at eb R2
    generalize (1 + g4) / (Int.gcd g3 (1 + g4) : Int) = b at eb R2
    have hP8 := hP7.same s8
    have f8 := (((f4.trans f5).trans f6).trans f7).trans (Fr.same s8)
    have ea8 := s8 _ _ (f7.t _ _ (f6.t _ _ (f5.t _ _ ea)))
    have U : Up p q t b := ⟨R2.p0, R2.q1, R2.bp.mono (by decide), R2.bq.mono (by decide), .inl R2.g⟩
    clear f4 f5 f6 f7 hP4 hP5 hP6 hP7 s8 R2 ea b2 b4 g1b g2b g3b g4b
    have q1 := R1.q1
    have p0 := R1.p0
    -- road 0
    refine ⟨fun σ' H' => ∃ (rb : Addr) (t b : Int), σ' = [some (.ref a), some (.int m), some (.ref ra), some (.int road), some (.ref rb), none] ∧ H' ra = some (tup2 p q) ∧ H' rb = some (tup2 t b) ∧ Up p q t b ∧ Pen H' a (n + 90) ∧ Fr H H', ?_, ?_⟩
    · refine ⟨_, rfl, rfl, _, rfl, ite2 (fun c => ?_) (fun c => ?_)⟩
      · have bT : Bd 100 ((10 : Int) ^ (30 : Int).toNat) := by show (10 ^ 30 : Int).natAbs < _; decide
        have T1 : (1 : Int) ≤ (10 : Int) ^ (30 : Int).toNat := by show (1 : Int) ≤ 10 ^ 30; decide
        refine ⟨_, rfl, ra, _, _, _, rfl, rfl, SqT.of ea8, atI_nat (j := 0) rfl, _, _, rfl, rfl, ⟨by decide, by decide, by decide⟩, _, _, rfl, rfl, mulW R1.bp bT (by decide) (by decide) (by decide), _, _, rfl, rfl, ?_⟩
        refine ⟨_, rfl, a, _, _, rfl, hP8, by omega, by decide, Bd.small 20 (by decide) (by decide), fun e H9 e0 e1 hP9 f9 => ?_⟩
        have ea9 := f9.t _ _ ea8
        refine ⟨_, _, rfl, rfl, _, rfl, ra, _, _, _, rfl, rfl, SqT.of ea9, atI_nat (j := 1) rfl, _, _, rfl, rfl, ⟨by decide, by decide, by decide⟩, _, _, rfl, rfl, mulW R1.bq bT (by decide) (by decide) (by decide), ?_⟩
        dsimp only
        generalize (10 : Int) ^ (30 : Int).toNat = T at bT T1
        have pT : 0 ≤ p * T := Int.mul_nonneg p0 (by omega)
        have qT : 1 ≤ q * T := one_le_mul q1 T1
        have B1 : Bd 313 (p * T + 1 + e) := Bd.add (Bd.add (Bd.mul R1.bp bT) (Bd.small 1 (by decide) (by decide))) (Bd.small 4 (by omega) (by decide))
        have B2 : Bd 313 (q * T) := (Bd.mul R1.bq bT).mono (by decide)
        refine ⟨p * T + 1 + e, q * T, rfl, by omega, qT, B2.mono (by decide), fun r H10 s10 nr er => ?_⟩
        have R2 := red_b (k := 313) (show 0 ≤ p * T + 1 + e by omega) qT B1 B2
        exact ⟨r, _, _, rfl, s10 _ _ ea9, er, ⟨R2.p0, R2.q1, R2.bp.mono (by decide), R2.bq.mono (by decide), .inl R2.g⟩, (hP9.same s10).mono (by omega), (f8.trans f9).trans (Fr.same s10)⟩
      · exact ⟨rb, t, b, rfl, ea8, eb, U, hP8.mono (by omega), f8⟩
    clear f8 hP8 eb ea8 U nb rb
    rintro σ H1 ⟨rb, t, b, rfl, ea, eb, U, hP1, f1⟩
    -- road 1
    refine ⟨fun σ' H' => ∃ (rb : Addr) (t b : Int), σ' = [some (.ref a), some (.int m), some (.ref ra), some (.int road), some (.ref rb), none] ∧ H' ra = some (tup2 p q) ∧ H' rb = some (tup2 t b) ∧ Up p q t b ∧ Pen H' a (n + 90) ∧ Fr H H', ?_, ?_⟩
    · refine ⟨_, rfl, rfl, _, rfl, ite2 (fun c => ?_) (fun c => ?_)⟩
      · refine ⟨_, rfl, ra, _, _, _, rfl, rfl, SqT.of ea, atI_nat (j := 0) rfl, _, _, rfl, rfl, _, rfl, ra, _, _, _, rfl, rfl, SqT.of ea, atI_nat (j := 1) rfl, len10 (by simp), fun r nr => ?_⟩
        exact ⟨r, _, _, rfl, sm_upd nr _ _ ea, upd_same, ⟨by omega, q1, (Bd.add R1.bp (Bd.small 1 (by decide) (by decide))).mono (by decide), R1.bq.mono (by decide), .inr (by rw [Int.add_mul]; omega)⟩, hP1.new nr, f1.trans (Fr.new nr)⟩
      · exact ⟨rb, t, b, rfl, ea, eb, U, hP1, f1⟩
    clear f1 hP1 eb ea U rb
    rintro σ H1 ⟨rb, t, b, rfl, ea, eb, U, hP1, f1⟩
    -- road 2
    refine ⟨fun σ' H' => ∃ (rb : Addr) (t b : Int) (y : Option V), σ' = [some (.ref a), some (.int m), some (.ref ra), some (.int road), some (.ref rb), y] ∧ H' ra = some (tup2 p q) ∧ H' rb = some (tup2 t b) ∧ Up p q t b ∧ Pen H' a (n + 90) ∧ Fr H H', ?_, ?_⟩
    · refine ⟨_, rfl, rfl, _, rfl, ite2 (fun c => ?_) (fun c => ?_)⟩
      · refine ⟨_, rfl, ra, _, _, _, rfl, rfl, SqT.of ea, atI_nat (j := 1) rfl, _, _, rfl, rfl, _, rfl, ite2 (fun c2 => ?_) (fun c2 => ?_)⟩
        · have c2 : 1 < q := of_decide_eq_true c2
          refine ⟨_, rfl, ra, _, _, _, rfl, rfl, SqT.of ea, atI_nat (j := 0) rfl, _, rfl, ra, _, _, _, rfl, rfl, SqT.of ea, atI_nat (j := 1) rfl, p, q, 211, rfl, p0, by omega, R1.g, R1.bp, R1.bq, by decide, by decide, fun v H2 s2 v1 v2 dv => ?_⟩
          have ea2 := s2 _ _ ea
          have bv : Bd 211 v := R1.bq.between (by omega) (by omega)
          obtain ⟨x, ex⟩ := dv
          have ex' : (p * v - 1) / q = x := by rw [ex, Int.mul_ediv_cancel_left _ (by omega)]
          refine ⟨_, rfl, ra, _, _, _, rfl, rfl, SqT.of ea2, atI_nat (j := 0) rfl, _, rfl, ra, _, _, _, rfl, rfl, SqT.of ea2, atI_nat (j := 0) rfl, _, rfl, _, _, rfl, rfl, mulW R1.bp bv (by decide) (by decide) (by decide), _, _, rfl, rfl, _, rfl, ra, _, _, _, rfl, rfl, SqT.of ea2, atI_nat (j := 1) rfl, _, _, rfl, rfl, divW (by omega) R1.bq (by decide), _, _, rfl, rfl, ?_⟩
          dsimp only
          rw [ex']
          refine ⟨_, rfl, ra, _, _, _, rfl, rfl, SqT.of ea2, atI_nat (j := 1) rfl, _, rfl, _, _, rfl, rfl, len10 (by simp), fun r nr => ?_⟩
          have x0 : 0 ≤ x := by
            rw [← ex']
            have p1 : 1 ≤ p := by
              rcases Int.lt_or_le 0 p with z | z
              · exact z
              · have : p = 0 := by omega
                subst this
                have := R1.g
                rw [Int.gcd_zero_left] at this
                omega
            have := one_le_mul p1 v1
            exact Int.ediv_nonneg (by omega) (by omega)
          have x1 : x < p := by
            rcases Int.lt_or_le x p with z | z
            · exact z
            · have h1 := Int.mul_le_mul_of_nonneg_left z (show 0 ≤ q by omega)
              have h2 := Int.mul_le_mul_of_nonneg_left (show v ≤ q by omega) p0
              rw [Int.mul_comm p q] at h2
              omega
          refine ⟨r, _, _, _, rfl, sm_upd nr _ _ ea2, upd_same, ⟨by omega, by omega, (R1.bp.between (by omega) (by omega)).mono (by decide), (R1.bq.between (by omega) (by omega)).mono (by decide), .inr ?_⟩, (hP1.same s2).new nr, (f1.trans (Fr.same s2)).trans (Fr.new nr)⟩
          have e1 : (p - x) * q = p * q - q * x := by grind
          have e2 : p * (q - v) = p * q - p * v := by grind
          omega
        · exact ⟨rb, t, b, _, rfl, ea, eb, U, hP1, f1⟩
      · exact iteF ⟨rb, t, b, _, rfl, ea, eb, U, hP1, f1⟩
    clear f1 hP1 eb ea U rb
    rintro σ H1 ⟨rb, t, b, y, rfl, ea, eb, U, hP1, f1⟩
    -- the lesser one first
    refine ⟨fun σ' H' => ∃ (ra rb : Addr) (p q t b : Int), σ' = [some (.ref a), some (.int m), some (.ref ra), some (.int road), some (.ref rb), y] ∧ H' ra = some (tup2 p q) ∧ H' rb = some (tup2 t b) ∧ Rt 320 p q ∧ Up p q t b ∧ p * b ≤ t * q ∧ Pen H' a (n + 90) ∧ Fr H H', ?_, ?_⟩
    · refine ⟨_, rfl, ra, _, _, _, rfl, rfl, SqT.of ea, atI_nat (j := 0) rfl, _, rfl, rb, _, _, _, rfl, rfl, SqT.of eb, atI_nat (j := 1) rfl, _, _, rfl, rfl, mulW R1.bp U.bb (by decide) (by decide) (by decide), ?_⟩
      refine ⟨_, rfl, rb, _, _, _, rfl, rfl, SqT.of eb, atI_nat (j := 0) rfl, _, rfl, ra, _, _, _, rfl, rfl, SqT.of ea, atI_nat (j := 1) rfl, _, _, rfl, rfl, mulW U.bt R1.bq (by decide) (by decide) (by decide), ?_⟩
      refine ⟨_, _, rfl, rfl, _, rfl, ite2 (fun c => ?_) (fun c => ?_)⟩
      · have c := of_decide_eq_true c
        have g : Int.gcd t b = 1 := U.or.resolve_right (by omega)
        exact ⟨_, rfl, _, rfl, _, _, rfl, rb, ra, _, _, _, _, rfl, eb, ea, ⟨U.t0, U.b1, g, U.bt, U.bb⟩, ⟨p0, q1, R1.bp.mono (by decide), R1.bq.mono (by decide), .inl R1.g⟩, by omega, hP1, f1⟩
      · have c : ¬ _ := fun z => c (decide_eq_true z)
        exact ⟨ra, rb, _, _, _, _, rfl, ea, eb, R1.mono (by decide), U, by omega, hP1, f1⟩
    clear f1 hP1 eb ea U rb R1 p0 q1 p q ra na
    rintro σ H1 ⟨ra, rb, p, q, t, b, rfl, ea, eb, R, U, le, hP1, f1⟩
    have fin : ∀ z : Int, (z = if decide (p = t ∧ q = b) = true then 1 else 0) → 0 ≤ t + z ∧ Bd 321 (t + z) ∧ p * b < (t + z) * q := by
      rintro z rfl
      have q1 := R.q1
      have t0 := U.t0
      by_cases h : p = t ∧ q = b
      · rw [if_pos (decide_eq_true h)]
        refine ⟨by omega, Bd.add U.bt (Bd.small 1 (by decide) (by decide)), ?_⟩
        rw [Int.add_mul]
        omega
      · rw [if_neg (fun e => h (of_decide_eq_true e)), Int.add_zero]
        refine ⟨t0, U.bt.mono (by decide), ?_⟩
        rcases U.or with g | g
        · rcases Int.lt_or_le (p * b) (t * q) with z | z
          · exact z
          · exact absurd (rt_same R.q1 U.b1 R.g g (by omega)) h
        · exact g
    refine ⟨_, rfl, _, rfl, rb, _, _, _, rfl, rfl, SqT.of eb, atI_nat (j := 0) rfl, _, rfl, _, rfl, .tuple [.int p, .int q], .tuple [.int t, .int b], dpair ea, dpair eb, rfl, rfl, ?_⟩
    rw [eqv2]
    refine .inr ⟨_, rfl, _, _, rfl, rfl, ?_⟩
    obtain ⟨z0, zb, zl⟩ := fin _ rfl
    dsimp only
    generalize t + (if decide (p = t ∧ q = b) = true then 1 else 0) = z at z0 zb zl
    refine ⟨_, rfl, rb, _, _, _, rfl, rfl, SqT.of eb, atI_nat (j := 1) rfl, z, b, rfl, z0, U.b1, U.bb.mono (by decide), fun r H2 s2 nr er => ?_⟩
    have R2 := red_b (k := 321) z0 U.b1 zb (U.bb.mono (by decide))
    refine ⟨len10 (by simp), fun rt nrt => ?_⟩
    have s3 : Same H2 (upd H2 rt (.tup [.ref ra, .ref r])) := sm_upd nrt
    exact kk rt ra r _ p q _ _ upd_same (s3 _ _ (s2 _ _ ea)) (s3 _ _ er) (R.mono (by decide)) R2 (red_lt2 R.q1 U.b1 zl) (((hP1.same s2).same s3).mono (by omega)) ((f1.trans (Fr.same s2)).trans (Fr.same s3))
end
end Lf
namespace Lf
open PySem PySem.Spec PyProof.Rows L2
theorem mn6 (x : Int) (h : 0 ≤ x) : 0 ≤ (if x < 6 then x else 6) ∧ (if x < 6 then x else 6) ≤ 6 := by
  by_cases z : x < 6
  · rw [if_pos z]
    omega
  · rw [if_neg z]
    omega
theorem lt_mulc {x y g : Int} (h : x * g < y * g) (hg : 0 ≤ g) : x < y := by
  have e : (y - x) * g = y * g - x * g := Int.sub_mul ..
  have := pos_of_mul (a := y - x) (b := g) (by omega) hg
  omega
theorem le_mulc {x y g : Int} (h : x * g ≤ y * g) (hg : 0 < g) : x ≤ y := Int.le_of_mul_le_mul_right h hg
/-- a narrower interval around the simplest one -/
theorem Sim.narrow {p q t b N D p' q' t' b' : Int} (S : Sim p q t b N D) (q1 : 1 ≤ q) (q1' : 1 ≤ q') (b0 : 0 ≤ b) (b1' : 1 ≤ b') (h1 : p * q' ≤ p' * q) (h2 : p' * D < N * q') (h3 : N * b' < t' * D) (h4 : t' * b ≤ t * b') : Sim p' q' t' b' N D := by
  refine ⟨S.d1, S.n1, ⟨h2, h3⟩, fun x y y1 ⟨g1, g2⟩ => S.mi x y y1 ⟨?_, ?_⟩⟩
  · refine lt_mulc (g := q') ?_ (by omega)
    have e1 := Int.mul_le_mul_of_nonneg_right h1 (show 0 ≤ y by omega)
    have e2 := Int.mul_lt_mul_of_pos_right g1 (show 0 < q by omega)
    have e3 : p * y * q' = p * q' * y := by grind
    have e4 : p' * q * y = p' * y * q := by grind
    have e5 : x * q * q' = x * q' * q := by grind
    omega
  · refine lt_mulc (g := b') ?_ (by omega)
    have e1 := Int.mul_le_mul_of_nonneg_right h4 (show 0 ≤ y by omega)
    have e2 := Int.mul_le_mul_of_nonneg_right (show x * b' + 1 ≤ t' * y by omega) b0
    have e3 : x * b * b' = x * b' * b := by grind
    have e4 : t' * b * y = t' * y * b := by grind
    have e5 : t * y * b' = t * b' * y := by grind
    have e6 : (x * b' + 1) * b = x * b' * b + b := by grind
    rcases Int.lt_or_le 0 b with z | z
    · omega
    · have z : b = 0 := by omega
      subst z
      have t1 : 0 < t * D := by have := S.bt.2; rw [Int.mul_zero] at this; exact this
      have t1 := pos_of_mul t1 (by have := S.d1; omega)
      have := Int.mul_pos (Int.mul_pos t1 (show 0 < y by omega)) (show 0 < b' by omega)
      rw [Int.mul_zero, Int.zero_mul]
      exact this
theorem Sim.turn {p q t b N D : Int} (S : Sim p q t b N D) (p0 : 0 ≤ p) (b1 : 1 ≤ b) (t1 : 1 ≤ t) : Sim b t q p D N := by
  have h := S.bt
  refine ⟨S.n1, S.d1, ⟨by have := h.2; rw [Int.mul_comm b N, Int.mul_comm D t]; exact this, by have := h.1; rw [Int.mul_comm D p, Int.mul_comm q N]; exact this⟩, fun x y y1 ⟨g1, g2⟩ => ?_⟩
  have x1 : 0 < x := by
    refine pos_of_mul (b := t) ?_ (by omega)
    have := Int.mul_pos (show 0 < b by omega) (show 0 < y by omega)
    omega
  have m := S.mi y x x1 ⟨by rw [Int.mul_comm p x, Int.mul_comm y q]; exact g2, by rw [Int.mul_comm y b, Int.mul_comm t x]; exact g1⟩
  exact ⟨m.2, m.1⟩
theorem ne2p {K : PySem.W.Frag} {H : Hp} {r1 r2 : Addr} {p q : Int} {Q : V → Hp → Prop} (e1 : H r1 = some (tup2 p q)) (e2 : H r2 = some (tup2 p q)) (h : Q (.bl false) H) : rNeD K (.ref r1) (.ref r2) H Q := by
  refine ⟨.tuple [.int p, .int q], .tuple [.int p, .int q], dpair e1, dpair e2, rfl, rfl, ?_⟩
  rw [SeqAt.eqv_refl _ rfl]
  exact h
theorem sim_un {p q t b N D N' D' : Int} (s : Sim p q t b N D) (s' : Sim p q t b N' D') : N' = N ∧ D' = D := by
  have h1 := s.mi _ _ s'.d1 s'.bt
  have h2 := s'.mi _ _ s.d1 s.bt
  omega
/-- the mediant of an end and the simplest one, in lowest terms -/
theorem med_lo {p q N D : Int} (q1 : 1 ≤ q) (D1 : 1 ≤ D) (h : p * D < N * q) : p * ((q + D) / (Int.gcd (p + N) (q + D) : Int)) ≤ (p + N) / (Int.gcd (p + N) (q + D) : Int) * q ∧ (p + N) / (Int.gcd (p + N) (q + D) : Int) * D < N * ((q + D) / (Int.gcd (p + N) (q + D) : Int)) := by
  have g1 := gcd_pos (p := p + N) (q := q + D) (by omega)
  have e1 : (Int.gcd (p + N) (q + D) : Int) * ((p + N) / (Int.gcd (p + N) (q + D) : Int)) = p + N := Int.mul_ediv_cancel' (Int.gcd_dvd_left ..)
  have e2 : (Int.gcd (p + N) (q + D) : Int) * ((q + D) / (Int.gcd (p + N) (q + D) : Int)) = q + D := Int.mul_ediv_cancel' (Int.gcd_dvd_right ..)
  generalize (Int.gcd (p + N) (q + D) : Int) = g at *
  generalize (p + N) / g = n at *
  generalize (q + D) / g = d at *
  constructor
  · refine le_mulc (g := g) ?_ g1
    have e3 : p * d * g = p * (g * d) := by grind
    have e4 : n * q * g = g * n * q := by grind
    rw [e3, e4, e1, e2, Int.mul_add, Int.add_mul]
    omega
  · refine lt_mulc (g := g) ?_ (by omega)
    have e3 : n * D * g = g * n * D := by grind
    have e4 : N * d * g = N * (g * d) := by grind
    rw [e3, e4, e1, e2, Int.mul_add, Int.add_mul]
    omega
theorem med_hi {t b N D : Int} (b1 : 1 ≤ b) (D1 : 1 ≤ D) (h : N * b < t * D) : (t + N) / (Int.gcd (t + N) (b + D) : Int) * b ≤ t * ((b + D) / (Int.gcd (t + N) (b + D) : Int)) ∧ N * ((b + D) / (Int.gcd (t + N) (b + D) : Int)) < (t + N) / (Int.gcd (t + N) (b + D) : Int) * D := by
  have g1 := gcd_pos (p := t + N) (q := b + D) (by omega)
  have e1 : (Int.gcd (t + N) (b + D) : Int) * ((t + N) / (Int.gcd (t + N) (b + D) : Int)) = t + N := Int.mul_ediv_cancel' (Int.gcd_dvd_left ..)
  have e2 : (Int.gcd (t + N) (b + D) : Int) * ((b + D) / (Int.gcd (t + N) (b + D) : Int)) = b + D := Int.mul_ediv_cancel' (Int.gcd_dvd_right ..)
  generalize (Int.gcd (t + N) (b + D) : Int) = g at *
  generalize (t + N) / g = n at *
  generalize (b + D) / g = d at *
  constructor
  · refine le_mulc (g := g) ?_ g1
    have e3 : t * d * g = t * (g * d) := by grind
    have e4 : n * b * g = g * n * b := by grind
    rw [e3, e4, e1, e2, Int.mul_add, Int.add_mul]
    omega
  · refine lt_mulc (g := g) ?_ (by omega)
    have e3 : n * D * g = g * n * D := by grind
    have e4 : N * d * g = N * (g * d) := by grind
    rw [e3, e4, e1, e2, Int.mul_add, Int.add_mul]
    omega
/-- two ends that have the simplest one between them -/
structure Two2 (H : Hp) (x : V) (N D : Int) : Prop where
  ex : ∃ (c l h : Addr) (p q t b : Int), x = .ref c ∧ H c = some (.tup [.ref l, .ref h]) ∧ H l = some (tup2 p q) ∧ H h = some (tup2 t b) ∧ Rt 324 p q ∧ Rt 324 t b ∧ p * b < t * q ∧ Sim p q t b N D
theorem Two2.same {H H' : Hp} {x : V} {N D : Int} (h : Two2 H x N D) (s : Same H H') : Two2 H' x N D := by
  obtain ⟨c, l, h, p, q, t, b, e, e1, e2, e3, r⟩ := h.ex
  exact ⟨c, l, h, p, q, t, b, e, s _ _ e1, s _ _ e2, s _ _ e3, r⟩
section
variable {P : Program} {w : World} {K : PySem.W.Frag} {mg : Str → Option Value} {base : Heap}
abbrev s_law : Stmt := topS 21
abbrev N_law : List Str := ["_law_script", "_law_pen_here", "_law_turn", "_law_least", "_law_most", "_law_rate", "_law_inner", "_law_outer", "_law_one", "_law_two"]
abbrev P_law : List Str := ["_law_script"]
theorem sc_law : FnScope N_law P_law (defScope s_law) := ⟨rfl, rfl, rfl, by decide +kernel, rfl, by decide +kernel, by decide +kernel⟩
theorem ok_law {f : Addr} {fd : FuncData} (F : Fun K "law" "law" s_law f fd) (B : Bi mg) (c_l_pen : C8.Cal P w K mg base 1 "_law_pen" (spPen K) []) (c_l_reduced : C8.Cal P w K mg base 2 "_law_reduced" spReduced []) (c_l_is_simplest : C8.Cal P w K mg base 2 "_law_is_simplest" spIsS []) (c_l_two_rates : C8.Cal P w K mg base 3 "_law_two_rates" spTwo []) (c_simplest_between : C8.Cal P w K mg base 4 "simplest_between" spSB []) : FnOk P w K mg base CX0 5 f fd P_law (spLaw K) := by
  refine F.ok sc_law (fun vs H Q E h => ?_) (fun cdv A outer s H vs Q E hr h => ?_)
  · obtain ⟨a, ns, rfl, _⟩ := h
    rfl
  · obtain ⟨sc, ns, rfl, hS, hlen, kk⟩ := h
    refine ⟨_, (pss_cons (ps_set (i := 1) sc_law.nd rfl (Or.inl rfl) (C8.pe_c c_l_pen hr (by decide) (by rfl) (pa_cons (pv 0) pa_nil)))
    (pss_cons (ps_for PassesOwn.never rfl (pi_range1 rfl B.range_ (pa_cons (pe_op op_add pe_int (pe_callB (call_min2 rfl) (by rfl) B.min_ bt_min (pa_cons pe_int (pa_cons (pe_callB (call_len_seq) (by rfl) B.len_ bt_len (pa_cons (pv 0) pa_nil)) pa_nil)))) pa_nil)) (pg_name (i := 2) sc_law.nd rfl (Or.inl rfl))
      (pss_cons (ps_asg (C8.pe_c c_l_two_rates hr (by decide) (by rfl) (pa_cons (pv 1) pa_nil)) (pg_tup rfl (pgs_cons (pg_name (i := 3) sc_law.nd rfl (Or.inl rfl)) (pgs_cons (pg_name (i := 4) sc_law.nd rfl (Or.inl rfl)) pgs_nil))))
    (pss_cons (ps_set (i := 5) sc_law.nd rfl (Or.inl rfl) (C8.pe_c c_simplest_between hr (by decide) (by rfl) (pa_cons (pv 3) (pa_cons (pv 4) pa_nil))))
    (pss_cons (ps_if (PW.pt (pw_or (pt_not (pt_val (pe_callB (call_isi) (by rfl) B.isinstance_ bt_isinstance (pa_cons (pv 5) (pa_cons (pe_bltn (v := .ty "tuple") (by rfl) B.tuple_ bt_tuple rfl) pa_nil))))) (pw_or (pt_cmpR op_ne (pe_callB (call_len_seq) (by rfl) B.len_ bt_len (pa_cons (pv 5) pa_nil)) pe_int (nomark _)) (pw_or1 (pt_not (pt_val (C8.pe_c c_l_is_simplest hr (by decide) (by rfl) (pa_cons (pv 3) (pa_cons (pv 4) (pa_cons (pv 5) pa_nil))))))))))
      (pss_one (ps_ret pe_bl))
      pss_nil)
    (pss_cons (ps_set (i := 6) sc_law.nd rfl (Or.inl rfl) (C8.pe_c c_l_reduced hr (by decide) (by rfl) (pa_cons (pe_op op_add (pe_ix (r := rIxT K) ix_tup (pv 3) pe_int (fun _ _ => rfl)) (pe_ix (r := rIxT K) ix_tup (pv 5) pe_int (fun _ _ => rfl))) (pa_cons (pe_op op_add (pe_ix (r := rIxT K) ix_tup (pv 3) pe_int (fun _ _ => rfl)) (pe_ix (r := rIxT K) ix_tup (pv 5) pe_int (fun _ _ => rfl))) pa_nil))))
    (pss_cons (ps_set (i := 7) sc_law.nd rfl (Or.inl rfl) (C8.pe_c c_l_reduced hr (by decide) (by rfl) (pa_cons (pe_op op_add (pe_ix (r := rIxT K) ix_tup (pv 4) pe_int (fun _ _ => rfl)) (pe_ix (r := rIxT K) ix_tup (pv 5) pe_int (fun _ _ => rfl))) (pa_cons (pe_op op_add (pe_ix (r := rIxT K) ix_tup (pv 4) pe_int (fun _ _ => rfl)) (pe_ix (r := rIxT K) ix_tup (pv 5) pe_int (fun _ _ => rfl))) pa_nil))))
    (pss_cons (ps_for PassesOwn.never rfl (pi_list (pe_lst (pa_cons (pe_tup (pa_cons (pv 6) (pa_cons (pv 4) pa_nil))) (pa_cons (pe_tup (pa_cons (pv 3) (pa_cons (pv 7) pa_nil))) (pa_cons (pe_tup (pa_cons (pv 6) (pa_cons (pv 7) pa_nil))) pa_nil))))) (pg_tup rfl (pgs_cons (pg_name (i := 8) sc_law.nd rfl (Or.inl rfl)) (pgs_cons (pg_name (i := 9) sc_law.nd rfl (Or.inl rfl)) pgs_nil)))
      (pss_one (ps_if (pt_cmpR (op_neD hr.units) (C8.pe_c c_simplest_between hr (by decide) (by rfl) (pa_cons (pv 8) (pa_cons (pv 9) pa_nil))) (pv 5) (nomark _))
      (pss_one (ps_ret pe_bl))
      pss_nil)))
    (pss_one (ps_if (PW.pt (pw_and (pt_cmpR op_gt (pe_ix (r := rIxT K) ix_tup (pv 5) pe_int (fun _ _ => rfl)) pe_int (nomark _)) (pw_and (pt_cmpR op_gt (pe_ix (r := rIxT K) ix_tup (pv 3) pe_int (fun _ _ => rfl)) pe_int (nomark _)) (pw_and (pt_cmpR op_eq (pe_op op_fdivW (pe_ix (r := rIxT K) ix_tup (pv 3) pe_int (fun _ _ => rfl)) (pe_ix (r := rIxT K) ix_tup (pv 3) pe_int (fun _ _ => rfl))) pe_int (nomark _)) (pw_and1 (pt_cmpR op_le (pe_ix (r := rIxT K) ix_tup (pv 4) pe_int (fun _ _ => rfl)) (pe_ix (r := rIxT K) ix_tup (pv 4) pe_int (fun _ _ => rfl)) (nomark _)))))))
      (pss_one (ps_if (pt_cmpR (op_neD hr.units) (C8.pe_c c_simplest_between hr (by decide) (by rfl) (pa_cons (pe_rev2 (pv 4)) (pa_cons (pe_rev2 (pv 3)) pa_nil))) (pe_rev2 (pv 5)) (nomark _))
      (pss_one (ps_ret pe_bl))
      pss_nil))
      pss_nil)))))))))
    (pss_one (ps_ret pe_bl)))), ?_⟩
    refine ⟨_, rfl, sc, ns, rfl, hS, fun a H0 hP0 s0 => ?_⟩
    refine ⟨_, rfl, sc, _, rfl, .inl (s0.seq hS), _, _, rfl, _, _, rfl, rfl, _, rfl, ?_⟩
    obtain ⟨m0, m1⟩ := mn6 ((ns.map V.int).length : Int) (by omega)
    refine ⟨by omega, by omega, ?_⟩
    refine for_range (lo := 0) (n := (5 + (if ((ns.map V.int).length : Int) < 6 then ((ns.map V.int).length : Int) else 6)).toNat) (fun i σ H1 => ∃ (y2 y3 y4 y5 y6 y7 y8 y9 : Option V), σ = [some (.ref sc), some (.ref a), y2, y3, y4, y5, y6, y7, y8, y9] ∧ Pen H1 a (100 * i)) ⟨_, _, _, _, _, _, _, _, rfl, hP0⟩ ?_ ?_
    · rintro i σ H1 hi ⟨y2, y3, y4, y5, y6, y7, y8, y9, rfl, hP1⟩
      refine ⟨_, rfl, a, _, rfl, hP1, by omega, fun r l h H2 p q t b er el eh R R2 lt hP2 f2 => ?_⟩
      refine ⟨r, _, rfl, SqT.of er, rfl, _, _, rfl, _, _, rfl, rfl, ?_⟩
      refine ⟨_, rfl, _, rfl, .ref l, .ref h, some (p, q), some (t, b), 321, rfl, ⟨l, rfl, el, R⟩, ⟨h, rfl, eh, R2⟩, lt, by decide, by decide, fun rs H3 N D s3 ns' es S bN bD => ?_⟩
      have S : Sim p q t b N D := S
      have el := s3 _ _ el
      have eh := s3 _ _ eh
      have hP3 := hP2.same s3
      clear hP1 hP2 er f2 s3 ns'
      have q1 := R.q1
      have b1 := R2.q1
      have p0 := R.p0
      have t0 := R2.p0
      have D1 := S.d1
      have N1 := S.n1
      refine ⟨_, rfl, _, _, _, _, true, rfl, .ty "tuple", .base (.tup es), kit_ty ktt, true, rfl, iteF ?_⟩
      refine ⟨_, rfl, rs, _, rfl, .inr (SqT.of es), rfl, _, rfl, iteNS rfl ?_⟩
      have I : Iv 321 p q t b := ⟨p0, q1, by omega, lt, R.bp, R.bq, R2.bp, R2.bq⟩
      refine ⟨_, rfl, _, rfl, _, rfl, l, h, rs, p, q, t, b, N, D, 321, rfl, el, eh, es, I, b1, by decide, by decide, S, fun H4 s4 => ⟨true, rfl, iteF ?_⟩⟩
      have el := s4 _ _ el
      have eh := s4 _ _ eh
      have es := s4 _ _ es
      have hP4 := hP3.same s4
      clear hP3 s4
      have bN : Bd 322 N := bN
      have bD : Bd 322 D := bD
      refine ⟨_, rfl, l, _, _, _, rfl, rfl, SqT.of el, atI_nat (j := 0) rfl, _, rfl, rs, _, _, _, rfl, rfl, SqT.of es, atI_nat (j := 0) rfl, _, _, rfl, rfl, ?_⟩
      refine ⟨_, rfl, l, _, _, _, rfl, rfl, SqT.of el, atI_nat (j := 1) rfl, _, rfl, rs, _, _, _, rfl, rfl, SqT.of es, atI_nat (j := 1) rfl, _, _, rfl, rfl, ?_⟩
      have B1 : Bd 324 (p + N) := (Bd.add (R.bp.mono (by decide)) bN).mono (by decide)
      have B2 : Bd 324 (q + D) := (Bd.add (R.bq.mono (by decide)) bD).mono (by decide)
      have B3 : Bd 324 (t + N) := (Bd.add (R2.bp.mono (by decide)) bN).mono (by decide)
      have B4 : Bd 324 (b + D) := (Bd.add (R2.bq.mono (by decide)) bD).mono (by decide)
      refine ⟨p + N, q + D, rfl, by omega, by omega, B2.mono (by decide), fun ri H5 s5 ni ei => ?_⟩
      have el := s5 _ _ el
      have eh := s5 _ _ eh
      have es := s5 _ _ es
      have hP5 := hP4.same s5
      clear hP4 s5 ni
      refine ⟨_, rfl, h, _, _, _, rfl, rfl, SqT.of eh, atI_nat (j := 0) rfl, _, rfl, rs, _, _, _, rfl, rfl, SqT.of es, atI_nat (j := 0) rfl, _, _, rfl, rfl, ?_⟩
      refine ⟨_, rfl, h, _, _, _, rfl, rfl, SqT.of eh, atI_nat (j := 1) rfl, _, rfl, rs, _, _, _, rfl, rfl, SqT.of es, atI_nat (j := 1) rfl, _, _, rfl, rfl, ?_⟩
      refine ⟨t + N, b + D, rfl, by omega, by omega, B4.mono (by decide), fun ro H6 s6 no eo => ?_⟩
      have el := s6 _ _ el
      have eh := s6 _ _ eh
      have es := s6 _ _ es
      have ei := s6 _ _ ei
      have hP6 := hP5.same s6
      clear hP5 s6 no
      have Ri := red_b (k := 324) (show 0 ≤ p + N by omega) (show 1 ≤ q + D by omega) B1 B2
      have Ro := red_b (k := 324) (show 0 ≤ t + N by omega) (show 1 ≤ b + D by omega) B3 B4
      obtain ⟨i1, i2⟩ := med_lo q1 D1 S.bt.1
      obtain ⟨o1, o2⟩ := med_hi b1 D1 S.bt.2
      have bt1 := S.bt.1
      have bt2 := S.bt.2
      generalize (p + N) / (Int.gcd (p + N) (q + D) : Int) = pi at ei Ri i1 i2
      generalize (q + D) / (Int.gcd (p + N) (q + D) : Int) = qi at ei Ri i1 i2
      generalize (t + N) / (Int.gcd (t + N) (b + D) : Int) = to at eo Ro o1 o2
      generalize (b + D) / (Int.gcd (t + N) (b + D) : Int) = bo at eo Ro o1 o2
      have qi1 := Ri.q1
      have bo1 := Ro.q1
      have Si : Sim pi qi t b N D := S.narrow q1 qi1 (by omega) b1 i1 i2 bt2 (Int.le_refl _)
      have So : Sim p q to bo N D := S.narrow q1 q1 (by omega) bo1 (Int.le_refl _) bt1 o2 o1
      have Sio : Sim pi qi to bo N D := Si.narrow qi1 qi1 (by omega) bo1 (Int.le_refl _) i2 o2 o1
      have oki : ∀ {p q t b : Int}, 1 ≤ q → 1 ≤ b → Sim p q t b N D → p * b < t * q := fun {p q t b} q1 b1 S => by
        refine lt_mulc (g := D) ?_ (by omega)
        have h1 := Int.mul_lt_mul_of_pos_right S.bt.1 (show 0 < b by omega)
        have h2 := Int.mul_lt_mul_of_pos_right S.bt.2 (show 0 < q by omega)
        have e1 : p * b * D = p * D * b := by grind
        have e2 : t * q * D = t * D * q := by grind
        have e3 : N * q * b = N * b * q := by grind
        omega
      -- the list of three pairs
      refine ⟨_, rfl, _, rfl, len10 (by simp), fun t1 n1 => ?_⟩
      have z1 : Same H6 (upd H6 t1 (.tup [.ref ri, .ref h])) := sm_upd n1
      refine ⟨_, rfl, _, rfl, len10 (by simp), fun t2 n2 => ?_⟩
      have z2 := z1.trans (sm_upd n2 (o := .tup [.ref l, .ref ro]))
      refine ⟨_, rfl, _, rfl, len10 (by simp), fun t3 n3 => ?_⟩
      have k3 := sm_upd n3 (o := .tup [.ref ri, .ref ro])
      have z3 := z2.trans k3
      refine ⟨len10 (by simp), fun L nL => ?_⟩
      have k4 := sm_upd nL (o := .lst [.ref t1, .ref t2, .ref t3])
      have z4 := z3.trans k4
      have u1 := k4 _ _ (k3 _ _ (sm_upd n2 (o := .tup [.ref l, .ref ro]) _ _ (upd_same (H := H6) (a := t1) (o := .tup [.ref ri, .ref h]))))
      have u2 := k4 _ _ (k3 _ _ (upd_same (H := upd H6 t1 (.tup [.ref ri, .ref h])) (a := t2) (o := .tup [.ref l, .ref ro])))
      have u3 := k4 _ _ (upd_same (H := upd (upd H6 t1 (.tup [.ref ri, .ref h])) t2 (.tup [.ref l, .ref ro])) (a := t3) (o := .tup [.ref ri, .ref ro]))
      have uL := upd_same (H := upd (upd (upd H6 t1 (.tup [.ref ri, .ref h])) t2 (.tup [.ref l, .ref ro])) t3 (.tup [.ref ri, .ref ro])) (a := L) (o := .lst [.ref t1, .ref t2, .ref t3])
      have hP7 := hP6.same z4
      have el := z4 _ _ el
      have eh := z4 _ _ eh
      have es := z4 _ _ es
      have ei := z4 _ _ ei
      have eo := z4 _ _ eo
      clear z1 z2 z3 z4 k3 k4 n1 n2 n3 nL hP6
      generalize upd (upd (upd (upd H6 t1 (.tup [.ref ri, .ref h])) t2 (.tup [.ref l, .ref ro])) t3 (.tup [.ref ri, .ref ro])) L (.lst [.ref t1, .ref t2, .ref t3]) = H7 at *
      have pr : ∀ x ∈ [V.ref t1, .ref t2, .ref t3], Two2 H7 x N D := by
        intro x hx
        simp only [List.mem_cons, List.not_mem_nil, or_false] at hx
        rcases hx with rfl | rfl | rfl
        · exact ⟨t1, ri, h, _, _, _, _, rfl, u1, ei, eh, Ri, R2.mono (by decide), oki qi1 b1 Si, Si⟩
        · exact ⟨t2, l, ro, _, _, _, _, rfl, u2, el, eo, R.mono (by decide), Ro, oki q1 bo1 So, So⟩
        · exact ⟨t3, ri, ro, _, _, _, _, rfl, u3, ei, eo, Ri, Ro, oki qi1 bo1 Sio, Sio⟩
      refine ⟨L, rfl, ⟨_, SqL.of uL⟩, ?_⟩
      refine for_list (K := K) (a := L) (xs := [.ref t1, .ref t2, .ref t3]) (fun m σ H' => ∃ (w8 w9 : Option V), σ = [some (.ref sc), some (.ref a), some (.int (0 + (i : Int))), some (.ref l), some (.ref h), some (.ref rs), some (.ref ri), some (.ref ro), w8, w9] ∧ Same H7 H') ⟨_, _, rfl, Same.refl _⟩ ?_ ?_ ?_
      · rintro m σ H' _ ⟨_, _, _, s1⟩
        exact s1.seq (SqL.of uL)
      · rintro m x σ H' hx ⟨w8, w9, rfl, s1⟩
        obtain ⟨c, l', h', p', q', t', b', rfl, ec, el', eh', Rl, Rh, ok, S'⟩ := ((pr x (List.mem_of_getElem? hx)).same s1).ex
        refine ⟨c, _, rfl, SqT.of ec, rfl, _, _, rfl, _, _, rfl, rfl, ?_⟩
        refine ⟨_, rfl, _, rfl, .ref l', .ref h', some (p', q'), some (t', b'), 324, rfl, ⟨l', rfl, el', Rl⟩, ⟨h', rfl, eh', Rh⟩, ok, by decide, by decide, fun rr H8 N' D' s8 ns' es' S2 _ _ => ?_⟩
        obtain ⟨rfl, rfl⟩ := sim_un S' S2
        refine ⟨_, rfl, ne2p es' (s8 _ _ (s1 _ _ es)) ⟨_, rfl, iteF ?_⟩⟩
        exact ⟨_, _, rfl, s1.trans s8⟩
      · rintro σ H8 ⟨w8, w9, rfl, s1⟩
        have el := s1 _ _ el
        have eh := s1 _ _ eh
        have es := s1 _ _ es
        have hP8 := hP7.same s1
        have dn : ∃ (y2 y3 y4 y5 y6 y7 y8 y9 : Option V), [some (.ref sc), some (.ref a), some (.int (0 + (i : Int))), some (.ref l), some (.ref h), some (.ref rs), some (.ref ri), some (.ref ro), w8, w9] = [some (.ref sc), some (.ref a), y2, y3, y4, y5, y6, y7, y8, y9] ∧ Pen H8 a (100 * (i + 1)) := ⟨_, _, _, _, _, _, _, _, rfl, hP8.mono (by omega)⟩
        refine ⟨_, rfl, rs, _, _, _, rfl, rfl, SqT.of es, atI_nat (j := 1) rfl, _, _, rfl, rfl, _, rfl, ite2 (fun c1 => ?_) (fun c1 => ?_)⟩
        · refine ⟨_, rfl, l, _, _, _, rfl, rfl, SqT.of el, atI_nat (j := 0) rfl, _, _, rfl, rfl, _, rfl, ite2 (fun c2 => ?_) (fun c2 => ?_)⟩
          · have c2 : 0 < p := of_decide_eq_true c2
            refine ⟨_, rfl, l, _, _, _, rfl, rfl, SqT.of el, atI_nat (j := 0) rfl, _, rfl, l, _, _, _, rfl, rfl, SqT.of el, atI_nat (j := 1) rfl, _, _, rfl, rfl, divW (by omega) R.bq (by decide), rfl, _, rfl, ite2 (fun c3 => ?_) (fun c3 => ?_)⟩
            · refine ⟨_, rfl, h, _, _, _, rfl, rfl, SqT.of eh, atI_nat (j := 0) rfl, _, rfl, h, _, _, _, rfl, rfl, SqT.of eh, atI_nat (j := 1) rfl, _, _, rfl, rfl, _, rfl, ite2 (fun c4 => ?_) (fun c4 => ?_)⟩
              · have t1' : 1 ≤ t := I.t1
                refine ⟨_, rfl, h, _, _, rfl, SqT.of eh, fun rh nrh => ?_⟩
                have x1 := sm_upd (o := tup2 b t) nrh
                refine ⟨_, rfl, l, _, _, rfl, SqT.of (x1 _ _ el), fun rl nrl => ?_⟩
                have x2 := sm_upd (o := tup2 q p) nrl
                have g1 : Rt 324 b t := ⟨by omega, t1', by rw [Int.gcd_comm]; exact R2.g, R2.bq.mono (by decide), R2.bp.mono (by decide)⟩
                have g2 : Rt 324 q p := ⟨by omega, by omega, by rw [Int.gcd_comm]; exact R.g, R.bq.mono (by decide), R.bp.mono (by decide)⟩
                refine ⟨.ref rh, .ref rl, some (b, t), some (q, p), 324, rfl, ⟨rh, rfl, x2 _ _ upd_same, g1⟩, ⟨rl, rfl, upd_same, g2⟩, by show b * p < q * t; rw [Int.mul_comm b p, Int.mul_comm q t]; exact lt, by decide, by decide, fun rr H9 N' D' s9 ns' es' S2 _ _ => ?_⟩
                obtain ⟨rfl, rfl⟩ := sim_un (S.turn p0 b1 t1') S2
                have x3 := (x1.trans x2).trans s9
                refine ⟨_, rfl, rs, _, _, rfl, SqT.of (x3 _ _ es), fun rv nrv => ?_⟩
                have x4 := sm_upd (o := tup2 N' D') nrv
                refine ne2p (x4 _ _ es') upd_same ⟨_, rfl, iteF ?_⟩
                exact ⟨_, _, _, _, _, _, _, _, rfl, ((hP8.same x3).same x4).mono (by omega)⟩
              · exact dn
            · exact iteF dn
          · exact iteF dn
        · exact iteF dn
    · rintro σ H' ⟨y2, y3, y4, y5, y6, y7, y8, y9, rfl, hP⟩
      exact kk _
end
/-! ### what the top has written -/
theorem all_mk {l : PySem.W.OpenLaw} {w : World} {K : PySem.W.Frag} {h : Heap} {mg : Str → Option Value} {fa : Addr} (X : K.In h) (G : h.Ns mainGlobals mg) (hfa : mg "law" = some (.ref fa))
    {f0 f1 f2 f3 f4 f5 f6 f7 f8 f9 f10 f11 f12 f13 f14 f15 : Addr} {od0 an0 od1 an1 od2 an2 od3 an3 od4 an4 od5 an5 od6 an6 od7 an7 od8 an8 od9 an9 od10 an10 od11 an11 od12 an12 od13 an13 od14 an14 od15 an15 : Option Addr} {sl0 sl1 sl2 sl3 sl4 sl5 sl6 sl7 sl8 sl9 sl10 sl11 sl12 sl13 sl14 sl15 : Array (Option Value)} {oc0 kV0 dc0 pm0 cd0 ct0 oc1 kV1 dc1 pm1 cd1 ct1 oc2 kV2 dc2 pm2 cd2 ct2 oc3 kV3 dc3 pm3 cd3 ct3 oc4 kV4 dc4 pm4 cd4 ct4 oc5 kV5 dc5 pm5 cd5 ct5 oc6 kV6 dc6 pm6 cd6 ct6 oc7 kV7 dc7 pm7 cd7 ct7 oc8 kV8 dc8 pm8 cd8 ct8 oc9 kV9 dc9 pm9 cd9 ct9 oc10 kV10 dc10 pm10 cd10 ct10 oc11 kV11 dc11 pm11 cd11 ct11 oc12 kV12 dc12 pm12 cd12 ct12 oc13 kV13 dc13 pm13 cd13 ct13 oc14 kV14 dc14 pm14 cd14 ct14 oc15 kV15 dc15 pm15 cd15 ct15 : Value}
    (a0 : PySem.W.nsIn K mainGlobals "_law_pen" = some (some (.ref f0))) (l0 : K.lookup f0 = some ⟨oc0, od0, .func (PySem.W.fnOf "_law_pen" "_law_pen" (defArgs s_l_pen) (defBody s_l_pen) (defScope s_l_pen) .none kV0 dc0 pm0 an0 cd0 ct0), sl0⟩) (c0 : PySem.W.codeIn K cd0 "_law_pen" = true) (k0 : PySem.W.keepIn K (.ref f0) = true)
    (a1 : PySem.W.nsIn K mainGlobals "_law_draw" = some (some (.ref f1))) (l1 : K.lookup f1 = some ⟨oc1, od1, .func (PySem.W.fnOf "_law_draw" "_law_draw" (defArgs s_l_draw) (defBody s_l_draw) (defScope s_l_draw) .none kV1 dc1 pm1 an1 cd1 ct1), sl1⟩) (c1 : PySem.W.codeIn K cd1 "_law_draw" = true) (k1 : PySem.W.keepIn K (.ref f1) = true)
    (a2 : PySem.W.nsIn K mainGlobals "_law_pick" = some (some (.ref f2))) (l2 : K.lookup f2 = some ⟨oc2, od2, .func (PySem.W.fnOf "_law_pick" "_law_pick" (defArgs s_l_pick) (defBody s_l_pick) (defScope s_l_pick) .none kV2 dc2 pm2 an2 cd2 ct2), sl2⟩) (c2 : PySem.W.codeIn K cd2 "_law_pick" = true) (k2 : PySem.W.keepIn K (.ref f2) = true)
    (a3 : PySem.W.nsIn K mainGlobals "_law_gcd" = some (some (.ref f3))) (l3 : K.lookup f3 = some ⟨oc3, od3, .func (PySem.W.fnOf "_law_gcd" "_law_gcd" (defArgs s_l_gcd) (defBody s_l_gcd) (defScope s_l_gcd) .none kV3 dc3 pm3 an3 cd3 ct3), sl3⟩) (c3 : PySem.W.codeIn K cd3 "_law_gcd" = true) (k3 : PySem.W.keepIn K (.ref f3) = true)
    (a4 : PySem.W.nsIn K mainGlobals "_law_reduced" = some (some (.ref f4))) (l4 : K.lookup f4 = some ⟨oc4, od4, .func (PySem.W.fnOf "_law_reduced" "_law_reduced" (defArgs s_l_reduced) (defBody s_l_reduced) (defScope s_l_reduced) .none kV4 dc4 pm4 an4 cd4 ct4), sl4⟩) (c4 : PySem.W.codeIn K cd4 "_law_reduced" = true) (k4 : PySem.W.keepIn K (.ref f4) = true)
    (a5 : PySem.W.nsIn K mainGlobals "is_integer" = some (some (.ref f5))) (l5 : K.lookup f5 = some ⟨oc5, od5, .func (PySem.W.fnOf "is_integer" "is_integer" (defArgs s_is_integer) (defBody s_is_integer) (defScope s_is_integer) .none kV5 dc5 pm5 an5 cd5 ct5), sl5⟩) (c5 : PySem.W.codeIn K cd5 "is_integer" = true) (k5 : PySem.W.keepIn K (.ref f5) = true)
    (a6 : PySem.W.nsIn K mainGlobals "gcd" = some (some (.ref f6))) (l6 : K.lookup f6 = some ⟨oc6, od6, .func (PySem.W.fnOf "gcd" "gcd" (defArgs s_gcd) (defBody s_gcd) (defScope s_gcd) .none kV6 dc6 pm6 an6 cd6 ct6), sl6⟩) (c6 : PySem.W.codeIn K cd6 "gcd" = true) (k6 : PySem.W.keepIn K (.ref f6) = true)
    (a7 : PySem.W.nsIn K mainGlobals "is_rate" = some (some (.ref f7))) (l7 : K.lookup f7 = some ⟨oc7, od7, .func (PySem.W.fnOf "is_rate" "is_rate" (defArgs s_is_rate) (defBody s_is_rate) (defScope s_is_rate) .none kV7 dc7 pm7 an7 cd7 ct7), sl7⟩) (c7 : PySem.W.codeIn K cd7 "is_rate" = true) (k7 : PySem.W.keepIn K (.ref f7) = true)
    (a8 : PySem.W.nsIn K mainGlobals "check_rate" = some (some (.ref f8))) (l8 : K.lookup f8 = some ⟨oc8, od8, .func (PySem.W.fnOf "check_rate" "check_rate" (defArgs s_check_rate) (defBody s_check_rate) (defScope s_check_rate) .none kV8 dc8 pm8 an8 cd8 ct8), sl8⟩) (c8 : PySem.W.codeIn K cd8 "check_rate" = true) (k8 : PySem.W.keepIn K (.ref f8) = true)
    (a9 : PySem.W.nsIn K mainGlobals "simplest_inside" = some (some (.ref f9))) (l9 : K.lookup f9 = some ⟨oc9, od9, .func (PySem.W.fnOf "simplest_inside" "simplest_inside" (defArgs s_simplest_inside) (defBody s_simplest_inside) (defScope s_simplest_inside) .none kV9 dc9 pm9 an9 cd9 ct9), sl9⟩) (c9 : PySem.W.codeIn K cd9 "simplest_inside" = true) (k9 : PySem.W.keepIn K (.ref f9) = true)
    (a10 : PySem.W.nsIn K mainGlobals "simplest_between" = some (some (.ref f10))) (l10 : K.lookup f10 = some ⟨oc10, od10, .func (PySem.W.fnOf "simplest_between" "simplest_between" (defArgs s_simplest_between) (defBody s_simplest_between) (defScope s_simplest_between) .none kV10 dc10 pm10 an10 cd10 ct10), sl10⟩) (c10 : PySem.W.codeIn K cd10 "simplest_between" = true) (k10 : PySem.W.keepIn K (.ref f10) = true)
    (a11 : PySem.W.nsIn K mainGlobals "_law_natural" = some (some (.ref f11))) (l11 : K.lookup f11 = some ⟨oc11, od11, .func (PySem.W.fnOf "_law_natural" "_law_natural" (defArgs s_l_natural) (defBody s_l_natural) (defScope s_l_natural) .none kV11 dc11 pm11 an11 cd11 ct11), sl11⟩) (c11 : PySem.W.codeIn K cd11 "_law_natural" = true) (k11 : PySem.W.keepIn K (.ref f11) = true)
    (a12 : PySem.W.nsIn K mainGlobals "_law_inverse" = some (some (.ref f12))) (l12 : K.lookup f12 = some ⟨oc12, od12, .func (PySem.W.fnOf "_law_inverse" "_law_inverse" (defArgs s_l_inverse) (defBody s_l_inverse) (defScope s_l_inverse) .none kV12 dc12 pm12 an12 cd12 ct12), sl12⟩) (c12 : PySem.W.codeIn K cd12 "_law_inverse" = true) (k12 : PySem.W.keepIn K (.ref f12) = true)
    (a13 : PySem.W.nsIn K mainGlobals "_law_is_simplest" = some (some (.ref f13))) (l13 : K.lookup f13 = some ⟨oc13, od13, .func (PySem.W.fnOf "_law_is_simplest" "_law_is_simplest" (defArgs s_l_is_simplest) (defBody s_l_is_simplest) (defScope s_l_is_simplest) .none kV13 dc13 pm13 an13 cd13 ct13), sl13⟩) (c13 : PySem.W.codeIn K cd13 "_law_is_simplest" = true) (k13 : PySem.W.keepIn K (.ref f13) = true)
    (a14 : PySem.W.nsIn K mainGlobals "_law_two_rates" = some (some (.ref f14))) (l14 : K.lookup f14 = some ⟨oc14, od14, .func (PySem.W.fnOf "_law_two_rates" "_law_two_rates" (defArgs s_l_two_rates) (defBody s_l_two_rates) (defScope s_l_two_rates) .none kV14 dc14 pm14 an14 cd14 ct14), sl14⟩) (c14 : PySem.W.codeIn K cd14 "_law_two_rates" = true) (k14 : PySem.W.keepIn K (.ref f14) = true)
    (a15 : PySem.W.nsIn K mainGlobals "law" = some (some (.ref f15))) (l15 : K.lookup f15 = some ⟨oc15, od15, .func (PySem.W.fnOf "law" "law" (defArgs s_law) (defBody s_law) (defScope s_law) .none kV15 dc15 pm15 an15 cd15 ct15), sl15⟩) (c15 : PySem.W.codeIn K cd15 "law" = true) (k15 : PySem.W.keepIn K (.ref f15) = true)
    (z0 : PySem.W.nsIn K mainGlobals "len" = some none) (z1 : PySem.W.nsIn K mainGlobals "abs" = some none) (z2 : PySem.W.nsIn K mainGlobals "list" = some none) (z3 : PySem.W.nsIn K mainGlobals "range" = some none) (z4 : PySem.W.nsIn K mainGlobals "sum" = some none) (z5 : PySem.W.nsIn K mainGlobals "repr" = some none) (z6 : PySem.W.nsIn K mainGlobals "max" = some none) (z7 : PySem.W.nsIn K mainGlobals "min" = some none) (z8 : PySem.W.nsIn K mainGlobals "reversed" = some none) (z9 : PySem.W.nsIn K mainGlobals "divmod" = some none) (z10 : PySem.W.nsIn K mainGlobals "isinstance" = some none) (z11 : PySem.W.nsIn K mainGlobals "all" = some none) (z12 : PySem.W.nsIn K mainGlobals "int" = some none) (z13 : PySem.W.nsIn K mainGlobals "bool" = some none) (z14 : PySem.W.nsIn K mainGlobals "tuple" = some none) (z15 : PySem.W.nsIn K mainGlobals "sorted" = some none) (z16 : PySem.W.nsIn K mainGlobals "zip" = some none) :
    ∃ fd : FuncData, (∀ (s : Shared) (v : Value), BindsTo s fd ⟨[v], []⟩ [("_law_script", v)]) ∧ ∀ base : Heap, K.In base → base.Ns mainGlobals mg → FnOk l.prog w K mg base CX0 5 fa fd ["_law_script"] (spLaw K) := by
  have e := hfa.symm.trans (PySem.W.mg_of X G a15)
  cases e
  have B : Bi mg := ⟨PySem.W.mg_none_of X G z0, PySem.W.mg_none_of X G z1, PySem.W.mg_none_of X G z2, PySem.W.mg_none_of X G z3, PySem.W.mg_none_of X G z4, PySem.W.mg_none_of X G z5, PySem.W.mg_none_of X G z6, PySem.W.mg_none_of X G z7, PySem.W.mg_none_of X G z8, PySem.W.mg_none_of X G z9, PySem.W.mg_none_of X G z10, PySem.W.mg_none_of X G z11, PySem.W.mg_none_of X G z12, PySem.W.mg_none_of X G z13, PySem.W.mg_none_of X G z14, PySem.W.mg_none_of X G z15, PySem.W.mg_none_of X G z16⟩
  have F0 := fun_mk (st := s_l_pen) l0 c0 k0
  have D_l_pen : Df K mg "_law_pen" s_l_pen P_l_pen := ⟨f0, _, F0, PySem.W.mg_of X G a0, F0.binds fun _ _ _ _ _ _ us hl => match us, hl with | [_], _ => rfl⟩
  have F1 := fun_mk (st := s_l_draw) l1 c1 k1
  have D_l_draw : Df K mg "_law_draw" s_l_draw P_l_draw := ⟨f1, _, F1, PySem.W.mg_of X G a1, F1.binds fun _ _ _ _ _ _ us hl => match us, hl with | [_, _], _ => rfl⟩
  have F2 := fun_mk (st := s_l_pick) l2 c2 k2
  have D_l_pick : Df K mg "_law_pick" s_l_pick P_l_pick := ⟨f2, _, F2, PySem.W.mg_of X G a2, F2.binds fun _ _ _ _ _ _ us hl => match us, hl with | [_, _], _ => rfl⟩
  have F3 := fun_mk (st := s_l_gcd) l3 c3 k3
  have D_l_gcd : Df K mg "_law_gcd" s_l_gcd P_l_gcd := ⟨f3, _, F3, PySem.W.mg_of X G a3, F3.binds fun _ _ _ _ _ _ us hl => match us, hl with | [_, _], _ => rfl⟩
  have F4 := fun_mk (st := s_l_reduced) l4 c4 k4
  have D_l_reduced : Df K mg "_law_reduced" s_l_reduced P_l_reduced := ⟨f4, _, F4, PySem.W.mg_of X G a4, F4.binds fun _ _ _ _ _ _ us hl => match us, hl with | [_, _], _ => rfl⟩
  have F5 := fun_mk (st := s_is_integer) l5 c5 k5
  have D_is_integer : Df K mg "is_integer" s_is_integer P_is_integer := ⟨f5, _, F5, PySem.W.mg_of X G a5, F5.binds fun _ _ _ _ _ _ us hl => match us, hl with | [_], _ => rfl⟩
  have F6 := fun_mk (st := s_gcd) l6 c6 k6
  have D_gcd : Df K mg "gcd" s_gcd P_gcd := ⟨f6, _, F6, PySem.W.mg_of X G a6, F6.binds fun _ _ _ _ _ _ us hl => match us, hl with | [_, _], _ => rfl⟩
  have F7 := fun_mk (st := s_is_rate) l7 c7 k7
  have D_is_rate : Df K mg "is_rate" s_is_rate P_is_rate := ⟨f7, _, F7, PySem.W.mg_of X G a7, F7.binds fun _ _ _ _ _ _ us hl => match us, hl with | [_], _ => rfl⟩
  have F8 := fun_mk (st := s_check_rate) l8 c8 k8
  have D_check_rate : Df K mg "check_rate" s_check_rate P_check_rate := ⟨f8, _, F8, PySem.W.mg_of X G a8, F8.binds fun _ _ _ _ _ _ us hl => match us, hl with | [_], _ => rfl⟩
  have F9 := fun_mk (st := s_simplest_inside) l9 c9 k9
  have D_simplest_inside : Df K mg "simplest_inside" s_simplest_inside P_simplest_inside := ⟨f9, _, F9, PySem.W.mg_of X G a9, F9.binds fun _ _ _ _ _ _ us hl => match us, hl with | [_, _], _ => rfl⟩
  have F10 := fun_mk (st := s_simplest_between) l10 c10 k10
  have D_simplest_between : Df K mg "simplest_between" s_simplest_between P_simplest_between := ⟨f10, _, F10, PySem.W.mg_of X G a10, F10.binds fun _ _ _ _ _ _ us hl => match us, hl with | [_, _], _ => rfl⟩
  have F11 := fun_mk (st := s_l_natural) l11 c11 k11
  have D_l_natural : Df K mg "_law_natural" s_l_natural P_l_natural := ⟨f11, _, F11, PySem.W.mg_of X G a11, F11.binds fun _ _ _ _ _ _ us hl => match us, hl with | [_, _], _ => rfl⟩
  have F12 := fun_mk (st := s_l_inverse) l12 c12 k12
  have D_l_inverse : Df K mg "_law_inverse" s_l_inverse P_l_inverse := ⟨f12, _, F12, PySem.W.mg_of X G a12, F12.binds fun _ _ _ _ _ _ us hl => match us, hl with | [_, _], _ => rfl⟩
  have F13 := fun_mk (st := s_l_is_simplest) l13 c13 k13
  have D_l_is_simplest : Df K mg "_law_is_simplest" s_l_is_simplest P_l_is_simplest := ⟨f13, _, F13, PySem.W.mg_of X G a13, F13.binds fun _ _ _ _ _ _ us hl => match us, hl with | [_, _, _], _ => rfl⟩
  have F14 := fun_mk (st := s_l_two_rates) l14 c14 k14
  have D_l_two_rates : Df K mg "_law_two_rates" s_l_two_rates P_l_two_rates := ⟨f14, _, F14, PySem.W.mg_of X G a14, F14.binds fun _ _ _ _ _ _ us hl => match us, hl with | [_], _ => rfl⟩
  have F15 := fun_mk (st := s_law) l15 c15 k15
  refine ⟨PySem.W.fnOf "law" "law" (defArgs s_law) (defBody s_law) (defScope s_law) .none kV15 dc15 pm15 an15 cd15 ct15, fun s v => .of_eq rfl, fun base _ _ => ?_⟩
  have c_l_pen := ok_l_pen (P := l.prog) (w := w) (base := base) D_l_pen B
  have c_l_draw := ok_l_draw (P := l.prog) (w := w) (base := base) D_l_draw B
  have c_l_pick := ok_l_pick (P := l.prog) (w := w) (base := base) D_l_pick B c_l_draw
  have c_l_gcd := ok_l_gcd (P := l.prog) (w := w) (base := base) D_l_gcd B
  have c_l_reduced := ok_l_reduced (P := l.prog) (w := w) (base := base) D_l_reduced c_l_gcd
  have c_is_integer := ok_is_integer (P := l.prog) (w := w) (base := base) D_is_integer B
  have c_gcd := ok_gcd (P := l.prog) (w := w) (base := base) D_gcd
  have c_is_rate := ok_is_rate (P := l.prog) (w := w) (base := base) D_is_rate B c_is_integer c_gcd
  have c_check_rate := ok_check_rate (P := l.prog) (w := w) (base := base) D_check_rate c_is_rate
  have c_simplest_inside := ok_simplest_inside (P := l.prog) (w := w) (base := base) D_simplest_inside B
  have cA_simplest_between := okA_simplest_between (P := l.prog) (w := w) (base := base) D_simplest_between c_check_rate c_simplest_inside
  have c_simplest_between := ok_simplest_between (P := l.prog) (w := w) (base := base) cA_simplest_between
  have c_l_natural := ok_l_natural (P := l.prog) (w := w) (base := base) D_l_natural B c_l_draw
  have c_l_inverse := ok_l_inverse (P := l.prog) (w := w) (base := base) D_l_inverse
  have c_l_is_simplest := ok_l_is_simplest (P := l.prog) (w := w) (base := base) D_l_is_simplest c_l_inverse
  have c_l_two_rates := ok_l_two_rates (P := l.prog) (w := w) (base := base) D_l_two_rates B c_l_draw c_l_pick c_l_natural c_l_reduced c_l_inverse
  exact ok_law F15 B c_l_pen c_l_reduced c_l_is_simplest c_l_two_rates c_simplest_between
end Lf
open PySem PySem.W PyProof.Rows
set_option maxRecDepth 100000 in
set_option maxHeartbeats 0 in
theorem PySem.Challenge.cw_leapfit_k56_whole_simplest_fractions_far_holds : PySem.Challenge.rw_leapfit_k56_whole_simplest_fractions_far.Holds := by
  w_on; o_law; k_head; (case hw => w_witness2)
  k_fill
  refine L2.walk_of (l := PySem.Challenge.rw_leapfit_k56_whole_simplest_fractions_far) (n := 63) (k := 5) (x := "_law_script") (CX := fun _ => L2.CX0) (sp := fun w => Lf.spLaw _) rfl (by decide) rfl ⟨rfl, by decide, by decide⟩ (fun w h Y => PySem.W.kIn_of Y) ?F (fun _ _ a ns hl _ hS => ⟨a, ns, rfl, hS, hl, fun _ => rfl⟩) (fun _ _ _ _ _ h => h)
  case F =>
    intro w mg fa h KX G hmg
    refine' Lf.all_mk KX G hmg ?a0 ?l0 ?c0 ?k0 ?a1 ?l1 ?c1 ?k1 ?a2 ?l2 ?c2 ?k2 ?a3 ?l3 ?c3 ?k3 ?a4 ?l4 ?c4 ?k4 ?a5 ?l5 ?c5 ?k5 ?a6 ?l6 ?c6 ?k6 ?a7 ?l7 ?c7 ?k7 ?a8 ?l8 ?c8 ?k8 ?a9 ?l9 ?c9 ?k9 ?a10 ?l10 ?c10 ?k10 ?a11 ?l11 ?c11 ?k11 ?a12 ?l12 ?c12 ?k12 ?a13 ?l13 ?c13 ?k13 ?a14 ?l14 ?c14 ?k14 ?a15 ?l15 ?c15 ?k15 ?z0 ?z1 ?z2 ?z3 ?z4 ?z5 ?z6 ?z7 ?z8 ?z9 ?z10 ?z11 ?z12 ?z13 ?z14 ?z15 ?z16
    (case a0 => k_is); (case l0 => k_is); (case c0 => k_is); (case k0 => k_is)
    (case a1 => k_is); (case l1 => k_is); (case c1 => k_is); (case k1 => k_is)
    (case a2 => k_is); (case l2 => k_is); (case c2 => k_is); (case k2 => k_is)
    (case a3 => k_is); (case l3 => k_is); (case c3 => k_is); (case k3 => k_is)
    (case a4 => k_is); (case l4 => k_is); (case c4 => k_is); (case k4 => k_is)
    (case a5 => k_is); (case l5 => k_is); (case c5 => k_is); (case k5 => k_is)
    (case a6 => k_is); (case l6 => k_is); (case c6 => k_is); (case k6 => k_is)
    (case a7 => k_is); (case l7 => k_is); (case c7 => k_is); (case k7 => k_is)
    (case a8 => k_is); (case l8 => k_is); (case c8 => k_is); (case k8 => k_is)
    (case a9 => k_is); (case l9 => k_is); (case c9 => k_is); (case k9 => k_is)
    (case a10 => k_is); (case l10 => k_is); (case c10 => k_is); (case k10 => k_is)
    (case a11 => k_is); (case l11 => k_is); (case c11 => k_is); (case k11 => k_is)
    (case a12 => k_is); (case l12 => k_is); (case c12 => k_is); (case k12 => k_is)
    (case a13 => k_is); (case l13 => k_is); (case c13 => k_is); (case k13 => k_is)
    (case a14 => k_is); (case l14 => k_is); (case c14 => k_is); (case k14 => k_is)
    (case a15 => k_is); (case l15 => k_is); (case c15 => k_is); (case k15 => k_is)
    (case z0 => k_is); (case z1 => k_is); (case z2 => k_is); (case z3 => k_is); (case z4 => k_is); (case z5 => k_is); (case z6 => k_is); (case z7 => k_is); (case z8 => k_is); (case z9 => k_is); (case z10 => k_is); (case z11 => k_is); (case z12 => k_is); (case z13 => k_is); (case z14 => k_is); (case z15 => k_is); (case z16 => k_is)
