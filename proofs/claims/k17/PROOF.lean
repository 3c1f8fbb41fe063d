import PyProof.Rows.All
import Wide.All
import OpenK.AllK
import Wide.FinOn
import HandS.ForMost
import HandS.Codes
import HandS.Wide
import HandS.WideBits
import HandS.IsInst
import HandS.RaiseMore
import HandS.Style
import HandS.NoneIn
import HandS.Walk
import HandS.SetFor
import KE.LtSeq
import KE.DatumOrd
import KE.SortData
import HandS.SortInts
import HandS.Deep
import HandS.Evl
import HandS.SortKw
import HandS.Conv
import PySem.Challenge.RW_leapfit_k17_whole_patterns
set_option Elab.async false
set_option linter.all false
set_option maxRecDepth 100000
set_option maxHeartbeats 4000000
set_option linter.all false
namespace Lf
/-! ### sums of rounded quotients -/
def fs : Nat → Int → Int → Int → Int
  | 0, _, _, _ => 0
  | n + 1, a, b, m => fs n a b m + (a * n + b) / m
def tri (n : Int) : Int := n * (n - 1) / 2
theorem tri_succ (n : Int) : tri (n + 1) = tri n + n := by
  unfold tri
  rw [show (n + 1) * (n + 1 - 1) = n * (n - 1) + n * 2 by
    rw [Int.add_sub_cancel, Int.mul_sub, Int.add_mul]; omega]
  rw [Int.add_mul_ediv_right _ _ (by decide)]
theorem tri_zero : tri 0 = 0 := rfl
theorem div_shift (x k m : Int) (h : 0 < m) : (x + m * k) / m = x / m + k := by
  rw [Int.add_mul_ediv_left _ _ (by omega)]
theorem fs_red (n : Nat) (a b m : Int) (h : 0 < m) : fs n a b m = fs n (a % m) b m + a / m * tri n := by
  induction n with
  | zero => simp [fs, tri_zero]
  | succ n ih =>
    show fs n a b m + (a * n + b) / m = fs n (a % m) b m + (a % m * n + b) / m + a / m * tri ((n + 1 : Nat) : Int)
    have e : a * n + b = (a % m * n + b) + m * (a / m * n) := by
      have q := Int.emod_add_mul_ediv a m
      have q2 : a * n = (a % m + m * (a / m)) * n := by rw [q]
      rw [q2, Int.add_mul, Int.mul_assoc]; omega
    rw [e, div_shift _ _ _ h, ih, Int.natCast_add, Int.natCast_one, tri_succ, Int.mul_add]
    omega
theorem fs_redb (n : Nat) (a b m : Int) (h : 0 < m) : fs n a b m = fs n a (b % m) m + b / m * n := by
  induction n with
  | zero => simp [fs]
  | succ n ih =>
    show fs n a b m + (a * n + b) / m = fs n a (b % m) m + (a * n + b % m) / m + b / m * ((n + 1 : Nat) : Int)
    have e : a * n + b = (a * n + b % m) + m * (b / m) := by
      have q := Int.emod_add_mul_ediv b m
      omega
    rw [e, div_shift _ _ _ h, ih, Int.natCast_add, Int.natCast_one, Int.mul_add, Int.mul_one]
    omega
/-- each term of the second sum grows by one when its offset grows by its divisor -/
theorem fs_up (n : Nat) (a b m : Int) (h : 0 < m) : fs n a (b + m) m = fs n a b m + n := by
  induction n with
  | zero => simp [fs]
  | succ n ih =>
    show fs n a (b + m) m + (a * n + (b + m)) / m = fs n a b m + (a * n + b) / m + ((n + 1 : Nat) : Int)
    rw [show a * n + (b + m) = (a * n + b) + m * 1 by omega, div_shift _ _ _ h, ih]
    omega
/-- the first term apart -/
theorem fs_first (n : Nat) (a b m : Int) : fs (n + 1) a b m = b / m + fs n a (b + a) m := by
  induction n with
  | zero => show 0 + (a * ((0 : Nat) : Int) + b) / m = b / m + 0; simp
  | succ n ih =>
    show fs (n + 1) a b m + (a * ((n + 1 : Nat) : Int) + b) / m = b / m + (fs n a (b + a) m + (a * n + (b + a)) / m)
    rw [ih, show a * ((n + 1 : Nat) : Int) + b = a * n + (b + a) by
      rw [Int.natCast_add, Int.natCast_one, Int.mul_add]; omega]
    omega
theorem fs_swap (n : Nat) (a b m : Int) (ha : 0 < a) (ham : a < m) (hb : 0 ≤ b) (hbm : b < m) :
    fs n a b m = fs ((a * n + b) / m).toNat m ((a * n + b) % m) a := by
  induction n with
  | zero =>
    have e : (a * ((0 : Nat) : Int) + b) / m = 0 := by
      rw [show a * ((0 : Nat) : Int) + b = b by simp]
      exact Int.ediv_eq_zero_of_lt hb hbm
    rw [e]; rfl
  | succ n ih =>
    show fs n a b m + (a * n + b) / m = fs ((a * ((n + 1 : Nat) : Int) + b) / m).toNat m ((a * ((n + 1 : Nat) : Int) + b) % m) a
    rw [ih]
    have hm : 0 < m := by omega
    have hy : 0 ≤ a * n + b := by
      have := Int.mul_nonneg (Int.le_of_lt ha) (Int.natCast_nonneg n); omega
    generalize hyd : a * (n : Int) + b = y at hy
    have e : a * ((n + 1 : Nat) : Int) + b = y + a := by
      rw [Int.natCast_add, Int.natCast_one, Int.mul_add]; omega
    rw [e]
    have hq : 0 ≤ y / m := Int.ediv_nonneg hy (by omega)
    have hr0 : 0 ≤ y % m := Int.emod_nonneg _ (by omega)
    have hr1 : y % m < m := Int.emod_lt_of_pos _ hm
    have hd := Int.emod_add_mul_ediv y m
    generalize y / m = q at *
    generalize y % m = r at *
    by_cases hc : r + a < m
    · have e1 : (y + a) / m = q := by
        rw [show y + a = (r + a) + m * q by omega, div_shift _ _ _ hm, Int.ediv_eq_zero_of_lt (by omega) hc]
        omega
      have e2 : (y + a) % m = r + a := by
        have := Int.emod_add_mul_ediv (y + a) m
        rw [e1] at this
        omega
      rw [e1, e2, fs_up _ _ _ _ ha]
      omega
    · have e1 : (y + a) / m = q + 1 := by
        rw [show y + a = (r + a - m) + m * (q + 1) by rw [Int.mul_add]; omega, div_shift _ _ _ hm, Int.ediv_eq_zero_of_lt (by omega) (by omega)]
        omega
      have e2 : (y + a) % m = r + a - m := by
        have := Int.emod_add_mul_ediv (y + a) m
        rw [e1, Int.mul_add] at this
        omega
      rw [e1, e2, show (q + 1).toNat = q.toNat + 1 by omega, fs_first, Int.ediv_eq_zero_of_lt (by omega) (by omega), show r + a - m + m = r + a by omega, fs_up _ _ _ _ ha]
      omega
/-- a whole turn of the loop -/
theorem fs_turn (n a b m : Int) (hn : 0 ≤ n) (hm : 0 < m) :
    fs n.toNat a b m = a / m * tri n + b / m * n + fs ((a % m * n + b % m) / m).toNat m ((a % m * n + b % m) % m) (a % m) := by
  have h1 := fs_red n.toNat a b m hm
  have h2 := fs_redb n.toNat (a % m) b m hm
  have en : ((n.toNat : Nat) : Int) = n := by omega
  rw [en] at h1 h2
  have ha0 : 0 ≤ a % m := Int.emod_nonneg _ (by omega)
  have ha1 : a % m < m := Int.emod_lt_of_pos _ hm
  have hb0 : 0 ≤ b % m := Int.emod_nonneg _ (by omega)
  have hb1 : b % m < m := Int.emod_lt_of_pos _ hm
  by_cases hz : a % m = 0
  · have e0 : (a % m * n + b % m) / m = 0 := by
      rw [hz, Int.zero_mul, Int.zero_add]
      exact Int.ediv_eq_zero_of_lt hb0 hb1
    have z : fs n.toNat (a % m) (b % m) m = 0 := by
      rw [hz]
      have : ∀ k : Nat, fs k 0 (b % m) m = 0 := fun k => by
        induction k with
        | zero => rfl
        | succ k ih =>
          show fs k 0 (b % m) m + (0 * (k : Int) + b % m) / m = 0
          rw [ih, Int.zero_mul, Int.zero_add, Int.zero_add]
          exact Int.ediv_eq_zero_of_lt hb0 hb1
      exact this _
    rw [e0]
    show _ = _ + fs 0 m _ _
    have e3 : fs 0 m ((a % m * n + b % m) % m) (a % m) = 0 := rfl
    have e4 : (0 : Int).toNat = 0 := rfl
    rw [e3, h1, h2, z]
    omega
  · have h3 := fs_swap n.toNat (a % m) (b % m) m (by omega) ha1 hb0 hb1
    rw [en] at h3
    rw [h1, h2, h3]
    omega
theorem turn_le (n a b m : Int) (hn : 0 < n) (hm : 0 < m) : (a % m * n + b % m) / m ≤ n ∧ 0 ≤ (a % m * n + b % m) / m := by
  have ha0 : 0 ≤ a % m := Int.emod_nonneg _ (by omega)
  have ha1 : a % m < m := Int.emod_lt_of_pos _ hm
  have hb0 : 0 ≤ b % m := Int.emod_nonneg _ (by omega)
  have hb1 : b % m < m := Int.emod_lt_of_pos _ hm
  have h0 : 0 ≤ a % m * n := Int.mul_nonneg ha0 (by omega)
  refine ⟨?_, Int.ediv_nonneg (by omega) (by omega)⟩
  have h1 : a % m * n ≤ (m - 1) * n := Int.mul_le_mul_of_nonneg_right (by omega) (by omega)
  rw [Int.sub_mul, Int.one_mul] at h1
  have h2 : (a % m * n + b % m) / m < n + 1 := by
    apply Int.ediv_lt_of_lt_mul hm
    rw [Int.add_mul, Int.one_mul, Int.mul_comm n m]
    omega
  omega
theorem turn_zero (n a b m : Int) (hm : 0 < m) (hz : a % m = 0) : (a % m * n + b % m) / m = 0 := by
  rw [hz, Int.zero_mul, Int.zero_add]
  exact Int.ediv_eq_zero_of_lt (Int.emod_nonneg _ (by omega)) (Int.emod_lt_of_pos _ hm)
/-! ### sizes -/
def Bd (k : Nat) (i : Int) : Prop := i.natAbs < 2 ^ k
theorem Bd.mono {k j : Nat} {i : Int} (h : Bd k i) (e : k ≤ j) : Bd j i := Nat.lt_of_lt_of_le h (Nat.pow_le_pow_right (by decide) e)
theorem Bd.le {k : Nat} {i j : Int} (h : Bd k j) (e : i.natAbs ≤ j.natAbs) : Bd k i := Nat.lt_of_le_of_lt e h
theorem Bd.mul {k j : Nat} {x y : Int} (h : Bd k x) (h2 : Bd j y) : Bd (k + j) (x * y) := by
  unfold Bd
  rw [Int.natAbs_mul, Nat.pow_add]
  exact Nat.mul_lt_mul'' h h2
theorem Bd.add {k : Nat} {x y : Int} (h : Bd k x) (h2 : Bd k y) : Bd (k + 1) (x + y) := by
  unfold Bd at *
  rw [Nat.pow_succ]
  omega
theorem Bd.sub {k : Nat} {x y : Int} (h : Bd k x) (h2 : Bd k y) : Bd (k + 1) (x - y) := by
  unfold Bd at *
  rw [Nat.pow_succ]
  omega
theorem Bd.neg {k : Nat} {x : Int} (h : Bd k x) : Bd k (-x) := by
  unfold Bd at *
  omega
theorem Bd.ediv {k : Nat} {x m : Int} (h : Bd k x) (hm : 0 < m) : Bd k (x / m) := by
  refine h.le ?_
  rcases Int.lt_or_le x 0 with hx | hx
  · have h1 : x / m < 0 := Int.ediv_neg_of_neg_of_pos hx hm
    have h2 : x ≤ x / m := by
      apply Int.le_ediv_of_mul_le hm
      have : (-x) * 1 ≤ (-x) * m := Int.mul_le_mul_of_nonneg_left (by omega) (by omega)
      rw [Int.neg_mul, Int.neg_mul, Int.mul_one] at this
      omega
    omega
  · have h1 : 0 ≤ x / m := Int.ediv_nonneg hx (by omega)
    have h2 : x / m ≤ x := Int.ediv_le_self _ hx
    omega
theorem Bd.emod {k : Nat} {x m : Int} (h : Bd k m) (hm : 0 < m) : Bd k (x % m) := by
  refine h.le ?_
  have := Int.emod_nonneg x (show m ≠ 0 by omega)
  have := Int.emod_lt_of_pos x hm
  omega
theorem Bd.log {k : Nat} {i : Int} (h : Bd k i) (hk : 0 < k) : i.natAbs.log2 < k := by
  by_cases e : i.natAbs = 0
  · rw [e]; exact hk
  · exact (Nat.log2_lt e).mpr h
theorem Bd.small {k : Nat} {i : Int} (c : Nat) (h : i.natAbs < 2 ^ c) (e : c ≤ k) : Bd k i := Bd.mono (k := c) h e
theorem Bd.between {k : Nat} {x y : Int} (h : Bd k y) (h0 : 0 ≤ x) (h1 : x ≤ y) : Bd k x := h.le (by omega)
/-! ### the greatest common divisor -/
theorem gcd_turn (x y : Int) (hx : 0 ≤ x) (hy : 0 < y) : Int.gcd y (x % y) = Int.gcd x y := by
  unfold Int.gcd
  rw [show (x % y).natAbs = x.natAbs % y.natAbs by
    obtain ⟨a, rfl⟩ := Int.eq_ofNat_of_zero_le hx
    obtain ⟨b, rfl⟩ := Int.eq_ofNat_of_zero_le (Int.le_of_lt hy)
    rfl]
  rw [Nat.gcd_comm, ← Nat.gcd_rec, Nat.gcd_comm]
end Lf
namespace Lf
theorem nab_ediv {x m : Int} (hm : 0 < m) : (x / m).natAbs ≤ x.natAbs := by
  rcases Int.lt_or_le x 0 with hx | hx
  · have h1 : x / m < 0 := Int.ediv_neg_of_neg_of_pos hx hm
    have h2 : x ≤ x / m := by
      apply Int.le_ediv_of_mul_le hm
      have : (-x) * 1 ≤ (-x) * m := Int.mul_le_mul_of_nonneg_left (by omega) (by omega)
      rw [Int.neg_mul, Int.neg_mul, Int.mul_one] at this
      omega
    omega
  · have h1 : 0 ≤ x / m := Int.ediv_nonneg hx (by omega)
    have h2 : x / m ≤ x := Int.ediv_le_self _ hx
    omega
theorem fs_nab (n : Nat) (a b m : Int) (hm : 0 < m) : (fs n a b m).natAbs ≤ n * (a.natAbs * n + b.natAbs) := by
  induction n with
  | zero => show (0 : Int).natAbs ≤ _; simp
  | succ n ih =>
    show (fs n a b m + (a * n + b) / m).natAbs ≤ (n + 1) * (a.natAbs * (n + 1) + b.natAbs)
    have h1 := nab_ediv (x := a * n + b) hm
    have h2 := Int.natAbs_add_le (a * n) b
    have h3 := Int.natAbs_add_le (fs n a b m) ((a * n + b) / m)
    have h4 : (a * (n : Int)).natAbs = a.natAbs * n := by rw [Int.natAbs_mul]; rfl
    rw [h4] at h2
    have h5 : n * (a.natAbs * n + b.natAbs) ≤ n * (a.natAbs * (n + 1) + b.natAbs) := Nat.mul_le_mul_left _ (Nat.add_le_add_right (Nat.mul_le_mul_left _ (by omega)) _)
    have h6 : a.natAbs * n ≤ a.natAbs * (n + 1) := Nat.mul_le_mul_left _ (by omega)
    rw [Nat.add_mul, Nat.one_mul]
    omega
theorem fs_bd {n k j : Nat} {a b m : Int} (hm : 0 < m) (hn : n < 2 ^ j) (ha : Bd k a) (hb : Bd k b) : Bd (j + (k + j + 1)) (fs n a b m) := by
  unfold Bd at *
  have h := fs_nab n a b m hm
  refine Nat.lt_of_le_of_lt h ?_
  rw [Nat.pow_add 2 j]
  have h1 : a.natAbs * n + b.natAbs < 2 ^ (k + j + 1) := by
    have e : a.natAbs * n ≤ 2 ^ k * 2 ^ j := Nat.mul_le_mul (Nat.le_of_lt ha) (Nat.le_of_lt hn)
    have e2 : 2 ^ k ≤ 2 ^ k * 2 ^ j := Nat.le_mul_of_pos_right _ (Nat.pow_pos (by decide))
    rw [Nat.pow_succ, Nat.pow_add]
    omega
  exact Nat.mul_lt_mul'' hn h1
def trm (p q c s : Int) (i : Nat) : Int := (p * (s + i) + c) / q
theorem trm_sum (p q c s : Int) (n : Nat) : ((List.range n).map (trm p q c s)).sum = fs n p (p * s + c) q := by
  induction n with
  | zero => rfl
  | succ n ih =>
    rw [List.range_succ, List.map_append, List.sum_append, ih]
    show _ + (trm p q c s n + 0) = fs n p (p * s + c) q + (p * n + (p * s + c)) / q
    unfold trm
    rw [show p * (s + (n : Int)) + c = p * n + (p * s + c) by rw [Int.mul_add]; omega]
    omega
end Lf
namespace Lf
/-! ### triples in lowest terms -/
def gg (p q : Int) : Int := (Int.gcd p q : Int)
theorem gg_pos {p q : Int} (h : 1 ≤ q) : 0 < gg p q := by
  have : 0 < Int.gcd p q := Int.gcd_pos_of_ne_zero_right _ (by omega)
  unfold gg
  omega
theorem gg_p (p q : Int) : p = gg p q * (p / gg p q) := (Int.mul_ediv_cancel' (Int.gcd_dvd_left ..)).symm
theorem gg_q (p q : Int) : q = gg p q * (q / gg p q) := (Int.mul_ediv_cancel' (Int.gcd_dvd_right ..)).symm
theorem gg_mul (g x y : Int) (h : 0 ≤ g) : gg (g * x) (g * y) = g * gg x y := by
  unfold gg
  rw [Int.gcd_mul_left, Int.natCast_mul, Int.natAbs_of_nonneg h]
/-- reduced, multiplied, reduced again -/
theorem gg_twice (p q u v : Int) (h : 1 ≤ q) : gg (u * p) (v * q) = gg p q * gg (u * (p / gg p q)) (v * (q / gg p q)) := by
  have hg := gg_pos (p := p) h
  rw [← gg_mul _ _ _ (Int.le_of_lt hg)]
  congr 1
  · rw [Int.mul_left_comm, ← gg_p]
  · rw [Int.mul_left_comm, ← gg_q]
theorem red_p (p q u v : Int) (h : 1 ≤ q) (hv : 1 ≤ v) : u * (p / gg p q) / gg (u * (p / gg p q)) (v * (q / gg p q)) = u * p / gg (u * p) (v * q) := by
  have hg := gg_pos (p := p) h
  have e := gg_twice p q u v h
  rw [e]
  have e2 : u * p = gg p q * (u * (p / gg p q)) := by rw [Int.mul_left_comm, ← gg_p]
  rw [e2, Int.mul_ediv_mul_of_pos _ _ hg]
theorem red_q (p q u v : Int) (h : 1 ≤ q) (hv : 1 ≤ v) : v * (q / gg p q) / gg (u * (p / gg p q)) (v * (q / gg p q)) = v * q / gg (u * p) (v * q) := by
  have hg := gg_pos (p := p) h
  have e := gg_twice p q u v h
  rw [e]
  have e2 : v * q = gg p q * (v * (q / gg p q)) := by rw [Int.mul_left_comm, ← gg_q]
  rw [e2, Int.mul_ediv_mul_of_pos _ _ hg]
theorem red_c (p q u v c : Int) (h : 1 ≤ q) (hv : 1 ≤ v) : c / gg p q / gg (u * (p / gg p q)) (v * (q / gg p q)) = c / gg (u * p) (v * q) := by
  have hg := gg_pos (p := p) h
  rw [gg_twice p q u v h, Int.ediv_ediv_of_nonneg (Int.le_of_lt hg)]
theorem red_shift (p q a b c : Int) (h : 1 ≤ q) : (p * a + q * b + c) / gg p q = p / gg p q * a + q / gg p q * b + c / gg p q := by
  have hg := gg_pos (p := p) h
  have e : p * a + q * b + c = c + gg p q * (p / gg p q * a + q / gg p q * b) := by
    rw [Int.mul_add, ← Int.mul_assoc, ← Int.mul_assoc, ← gg_p, ← gg_q]
    omega
  rw [e, div_shift _ _ _ hg]
  omega
theorem div_neg1 (c g : Int) (hg : 0 < g) : (-1 - c) / g = -1 - c / g := by
  have e := Int.emod_add_mul_ediv c g
  have h0 := Int.emod_nonneg c (show g ≠ 0 by omega)
  have h1 := Int.emod_lt_of_pos c hg
  have e2 : -1 - c = (g - 1 - c % g) + g * (-1 - c / g) := by
    rw [Int.mul_sub]
    omega
  rw [e2, div_shift _ _ _ hg, Int.ediv_eq_zero_of_lt (by omega) (by omega)]
  omega
theorem red_mirror (p q c : Int) (h : 1 ≤ q) : (q - 1 - c) / gg p q = q / gg p q - 1 - c / gg p q := by
  have hg := gg_pos (p := p) h
  have e : q - 1 - c = (-1 - c) + gg p q * (q / gg p q) := by
    rw [← gg_q]
    omega
  rw [e, div_shift _ _ _ hg, div_neg1 _ _ hg]
  omega
end Lf
namespace Lf
theorem gg1 {p q : Int} (h : Int.gcd p q = 1) : gg p q = 1 := by
  unfold gg
  rw [h]
  rfl
theorem thin2 (p q c j k : Int) (h : 1 ≤ q * j) (hk : 1 ≤ k) :
    p / gg p (q * j) / gg (p / gg p (q * j)) (q * j / gg p (q * j) * k) = p / gg p (q * (j * k)) ∧
    q * j / gg p (q * j) * k / gg (p / gg p (q * j)) (q * j / gg p (q * j) * k) = q * (j * k) / gg p (q * (j * k)) ∧
    c / gg p (q * j) / gg (p / gg p (q * j)) (q * j / gg p (q * j) * k) = c / gg p (q * (j * k)) := by
  have e : q * (j * k) = k * (q * j) := by rw [← Int.mul_assoc, Int.mul_comm]
  have h1 := red_p p (q * j) 1 k h hk
  have h2 := red_q p (q * j) 1 k h hk
  have h3 := red_c p (q * j) 1 k c h hk
  simp only [Int.one_mul] at h1 h2 h3
  rw [Int.mul_comm (q * j / gg p (q * j)) k, e]
  exact ⟨h1, h2, h3⟩
theorem sample2 (p q c j k : Int) (h : 1 ≤ q) :
    p * j / gg (p * j) q * k / gg (p * j / gg (p * j) q * k) (q / gg (p * j) q) = p * (j * k) / gg (p * (j * k)) q ∧
    q / gg (p * j) q / gg (p * j / gg (p * j) q * k) (q / gg (p * j) q) = q / gg (p * (j * k)) q ∧
    c / gg (p * j) q / gg (p * j / gg (p * j) q * k) (q / gg (p * j) q) = c / gg (p * (j * k)) q := by
  have e : p * (j * k) = k * (p * j) := by rw [← Int.mul_assoc, Int.mul_comm]
  have h1 := red_p (p * j) q k 1 h (by decide)
  have h2 := red_q (p * j) q k 1 h (by decide)
  have h3 := red_c (p * j) q k 1 c h (by decide)
  simp only [Int.one_mul] at h1 h2 h3
  rw [Int.mul_comm (p * j / gg (p * j) q) k, e]
  exact ⟨h1, h2, h3⟩
theorem both2 (p q c k : Int) (h : 1 ≤ q) (hk : 1 ≤ k) :
    p * k / gg (p * k) q / gg (p * k / gg (p * k) q) (q / gg (p * k) q * k) = k * p / gg (k * p) (k * q) ∧
    q / gg (p * k) q * k / gg (p * k / gg (p * k) q) (q / gg (p * k) q * k) = k * q / gg (k * p) (k * q) ∧
    c / gg (p * k) q / gg (p * k / gg (p * k) q) (q / gg (p * k) q * k) = c / gg (k * p) (k * q) := by
  have h1 := red_p (p * k) q 1 k h hk
  have h2 := red_q (p * k) q 1 k h hk
  have h3 := red_c (p * k) q 1 k c h hk
  simp only [Int.one_mul] at h1 h2 h3
  rw [Int.mul_comm (q / gg (p * k) q) k, Int.mul_comm k p]
  exact ⟨h1, h2, h3⟩
theorem one_le_mul {x y : Int} (h : 1 ≤ x) (h2 : 1 ≤ y) : 1 ≤ x * y := by
  have := Int.mul_le_mul h h2 (by decide) (by omega)
  omega
end Lf
namespace Lf
/-! ### sums over ranges -/
theorem fs_add (n m : Nat) (a b q : Int) : fs (n + m) a b q = fs n a b q + fs m a (a * n + b) q := by
  induction m with
  | zero => show fs n a b q = fs n a b q + 0; omega
  | succ m ih =>
    show fs (n + m) a b q + (a * ((n + m : Nat) : Int) + b) / q = fs n a b q + (fs m a (a * n + b) q + (a * m + (a * n + b)) / q)
    rw [ih, show a * ((n + m : Nat) : Int) + b = a * m + (a * n + b) by rw [Int.natCast_add, Int.mul_add]; omega]
    omega
/-- two neighbouring ranges -/
theorem fs_split (p q c s m e : Int) (h1 : s ≤ m) (h2 : m ≤ e) : fs (m - s).toNat p (p * s + c) q + fs (e - m).toNat p (p * m + c) q = fs (e - s).toNat p (p * s + c) q := by
  have e1 : (e - s).toNat = (m - s).toNat + (e - m).toNat := by omega
  rw [e1, fs_add, show ((m - s).toNat : Int) = m - s by omega, show p * (m - s) + (p * s + c) = p * m + c by rw [Int.mul_sub]; omega]
theorem fs_one (p b q : Int) : fs 1 p b q = b / q := by
  show 0 + (p * ((0 : Nat) : Int) + b) / q = b / q
  simp
/-- one step of the offset: a term grows by one exactly where the divisor divides -/
theorem step_div (x q : Int) (h : 0 < q) : (x + 1) / q = x / q + (if (x + 1) % q = 0 then 1 else 0) := by
  have e := Int.emod_add_mul_ediv x q
  have h0 := Int.emod_nonneg x (show q ≠ 0 by omega)
  have h1 := Int.emod_lt_of_pos x h
  by_cases hc : x % q + 1 = q
  · have e2 : x + 1 = 0 + q * (x / q + 1) := by rw [Int.mul_add]; omega
    have e3 : (x + 1) % q = 0 := by rw [e2, Int.zero_add, Int.mul_emod_right]
    rw [if_pos e3, e2, div_shift _ _ _ h, Int.zero_ediv]
    omega
  · have e2 : x + 1 = (x % q + 1) + q * (x / q) := by omega
    have e3 : (x + 1) % q = x % q + 1 := by
      rw [e2, Int.add_mul_emod_self_left]
      exact Int.emod_eq_of_lt (by omega) (by omega)
    rw [if_neg (by omega)]
    rw [e2, div_shift _ _ _ h, Int.ediv_eq_zero_of_lt (by omega) (by omega)]
    omega
theorem hit_once (p q b : Int) (hg : Int.gcd p q = 1) (i j : Int) (hi : 0 ≤ i) (hij : i < j) (hj : j < q) (h1 : (p * i + b) % q = 0) (h2 : (p * j + b) % q = 0) : False := by
  have d1 := Int.dvd_of_emod_eq_zero h1
  have d2 := Int.dvd_of_emod_eq_zero h2
  have d3 : q ∣ p * (j - i) := by
    have := Int.dvd_sub d2 d1
    rw [show p * j + b - (p * i + b) = p * (j - i) by rw [Int.mul_sub]; omega] at this
    exact this
  have d4 : q ∣ j - i := by
    have n1 : q.natAbs ∣ p.natAbs * (j - i).natAbs := by
      rw [← Int.natAbs_mul]
      exact Int.natAbs_dvd_natAbs.mpr d3
    have n2 : Nat.Coprime q.natAbs p.natAbs := by
      unfold Nat.Coprime
      rw [Nat.gcd_comm]
      exact hg
    exact Int.natAbs_dvd_natAbs.mp (Nat.Coprime.dvd_of_dvd_mul_left n2 n1)
  have := Int.le_of_dvd (by omega) d4
  omega
theorem fs_step_le (p q b : Int) (hq : 0 < q) (hg : Int.gcd p q = 1) (n : Nat) (hn : (n : Int) ≤ q) :
    fs n p (b + 1) q - fs n p b q = 0 ∧ (∀ i : Nat, i < n → (p * i + (b + 1)) % q ≠ 0) ∨ fs n p (b + 1) q - fs n p b q = 1 ∧ (∃ i : Nat, i < n ∧ (p * i + (b + 1)) % q = 0) := by
  induction n with
  | zero => exact .inl ⟨rfl, fun i h => absurd h (by omega)⟩
  | succ n ih =>
    have e : fs (n + 1) p (b + 1) q - fs (n + 1) p b q = (fs n p (b + 1) q - fs n p b q) + ((p * n + (b + 1)) / q - (p * n + b) / q) := by
      show fs n p (b + 1) q + (p * n + (b + 1)) / q - (fs n p b q + (p * n + b) / q) = _
      omega
    have s := step_div (p * n + b) q hq
    rw [show p * (n : Int) + b + 1 = p * n + (b + 1) by omega] at s
    rw [e]
    rcases ih (by omega) with ⟨h1, h2⟩ | ⟨h1, i, hi, h2⟩
    · by_cases hc : (p * (n : Int) + (b + 1)) % q = 0
      · rw [if_pos hc] at s
        exact .inr ⟨by omega, n, by omega, hc⟩
      · rw [if_neg hc] at s
        refine .inl ⟨by omega, fun i hi => ?_⟩
        by_cases hin : i = n
        · subst hin; exact hc
        · exact h2 i (by omega)
    · have hc : ¬ (p * (n : Int) + (b + 1)) % q = 0 := fun z => hit_once p q (b + 1) hg i n (by omega) (by omega) (by omega) h2 z
      rw [if_neg hc] at s
      exact .inr ⟨by omega, i, by omega, h2⟩
theorem fs_step (p q b : Int) (hq : 0 < q) (hg : Int.gcd p q = 1) : fs q.toNat p (b + 1) q = fs q.toNat p b q + 1 := by
  have hle : ∀ b, fs q.toNat p (b + 1) q - fs q.toNat p b q ≤ 1 := fun b => by
    rcases fs_step_le p q b hq hg q.toNat (by omega) with ⟨h, _⟩ | ⟨h, _⟩ <;> omega
  have many : ∀ (k : Nat) (b : Int), fs q.toNat p (b + k) q - fs q.toNat p b q ≤ k := fun k => by
    induction k with
    | zero => intro b; simp
    | succ k ih =>
      intro b
      have h1 := ih b
      have h2 := hle (b + k)
      rw [show b + ((k + 1 : Nat) : Int) = b + k + 1 by omega]
      omega
  have up := fs_up q.toNat p b q hq
  have h1 := many (q.toNat - 1) (b + 1)
  rw [show b + 1 + ((q.toNat - 1 : Nat) : Int) = b + q by omega] at h1
  have h2 := hle b
  omega
theorem fs_from (p q : Int) (hq : 0 < q) (hg : Int.gcd p q = 1) (k : Nat) (b : Int) : fs q.toNat p (b + k) q = fs q.toNat p b q + k := by
  induction k with
  | zero => simp
  | succ k ih =>
    rw [show b + ((k + 1 : Nat) : Int) = b + k + 1 by omega, fs_step p q _ hq hg, ih]
    omega
theorem fs_any (p q b : Int) (hq : 0 < q) (hg : Int.gcd p q = 1) : fs q.toNat p b q = fs q.toNat p 0 q + b := by
  rcases Int.lt_or_le b 0 with h | h
  · have := fs_from p q hq hg (-b).toNat b
    rw [show b + ((-b).toNat : Int) = 0 by omega] at this
    omega
  · have := fs_from p q hq hg b.toNat 0
    rw [show 0 + (b.toNat : Int) = b by omega] at this
    omega
/-- terms in reverse order -/
theorem fs_rev (n : Nat) (a b q : Int) : fs n a b q = fs n (-a) (a * (n - 1) + b) q := by
  induction n with
  | zero => rfl
  | succ n ih =>
    rw [fs_first n (-a)]
    show fs n a b q + (a * n + b) / q = _
    rw [ih, show a * (((n + 1 : Nat) : Int) - 1) + b = a * n + b by rw [show ((n + 1 : Nat) : Int) - 1 = n by omega],
      show a * (n : Int) + b + -a = a * (n - 1) + b by rw [Int.mul_sub]; omega]
    omega
/-- negated terms -/
theorem fs_neg (n : Nat) (a b q : Int) (hq : 0 < q) : fs n (-a) (-b) q = - fs n a (b + q - 1) q := by
  induction n with
  | zero => rfl
  | succ n ih =>
    show fs n (-a) (-b) q + (-a * n + -b) / q = - (fs n a (b + q - 1) q + (a * n + (b + q - 1)) / q)
    rw [ih]
    have h1 := div_neg1 (a * n + (b - 1)) q hq
    have h2 := div_shift (a * n + (b - 1)) 1 q hq
    rw [show -1 - (a * (n : Int) + (b - 1)) = -a * n + -b by rw [Int.neg_mul]; omega] at h1
    rw [show a * (n : Int) + (b - 1) + q * 1 = a * n + (b + q - 1) by omega] at h2
    omega
theorem fs_cycle (p q b : Int) (hq : 0 < q) (hg : Int.gcd p q = 1) : fs q.toNat p b q = b + (p - 1) * (q - 1) / 2 := by
  have h0 := fs_any p q b hq hg
  have r := fs_rev q.toNat p 0 q
  have ng := fs_neg q.toNat p (-(p * (q - 1))) q hq
  rw [show ((q.toNat : Nat) : Int) = q by omega, Int.add_zero] at r
  rw [Int.neg_neg] at ng
  have h2 := fs_any p q (-(p * (q - 1)) + q - 1) hq hg
  have key : 2 * fs q.toNat p 0 q = (p - 1) * (q - 1) := by
    have e : (p - 1) * (q - 1) = p * (q - 1) - (q - 1) := by rw [Int.sub_mul, Int.one_mul]
    omega
  have : (p - 1) * (q - 1) / 2 = fs q.toNat p 0 q := by
    rw [← key, Int.mul_ediv_cancel_left _ (by decide)]
  omega
/-- Hermite's identity -/
theorem fs_hermite (k y : Int) (hk : 0 < k) : fs k.toNat 1 y k = y := by
  have := fs_cycle 1 k y hk (by simp [Int.gcd])
  rw [this]
  simp
/-- mirrored -/
theorem fs_mirror (n : Nat) (p q c s : Int) (hq : 0 < q) : fs n p (p * (1 - (s + n)) + (q - 1 - c)) q = - fs n p (p * s + c) q := by
  induction n with
  | zero => rfl
  | succ n ih =>
    rw [fs_first]
    show _ = -(fs n p (p * s + c) q + (p * n + (p * s + c)) / q)
    have e1 : p * (1 - (s + ((n + 1 : Nat) : Int))) + (q - 1 - c) + p = p * (1 - (s + n)) + (q - 1 - c) := by
      rw [show (1 - (s + ((n + 1 : Nat) : Int))) = (1 - (s + n)) - 1 by omega, Int.mul_sub p _ 1]
      omega
    rw [e1, ih]
    have h1 := div_neg1 (p * n + (p * s + c)) q hq
    have h2 := div_shift (-1 - (p * n + (p * s + c))) 1 q hq
    rw [show -1 - (p * (n : Int) + (p * s + c)) + q * 1 = p * (1 - (s + ((n + 1 : Nat) : Int))) + (q - 1 - c) by
      rw [show (1 - (s + ((n + 1 : Nat) : Int))) = -(n : Int) - s by omega, Int.mul_sub, Int.mul_neg]; omega] at h2
    omega
theorem fs_lowest (n : Nat) (p q c s : Int) (hq : 1 ≤ q) : fs n (p / gg p q) (p / gg p q * s + c / gg p q) (q / gg p q) = fs n p (p * s + c) q := by
  have hg := gg_pos (p := p) hq
  induction n with
  | zero => rfl
  | succ n ih =>
    show fs n (p / gg p q) (p / gg p q * s + c / gg p q) (q / gg p q) + (p / gg p q * n + (p / gg p q * s + c / gg p q)) / (q / gg p q) = fs n p (p * s + c) q + (p * n + (p * s + c)) / q
    rw [ih]
    have e1 : p / gg p q * n + (p / gg p q * s + c / gg p q) = (p * n + (p * s + c)) / gg p q := by
      have : p * n + (p * s + c) = c + gg p q * (p / gg p q * n + p / gg p q * s) := by
        rw [Int.mul_add, ← Int.mul_assoc, ← Int.mul_assoc, ← gg_p]
        omega
      rw [this, div_shift _ _ _ hg]
      omega
    have e2 : (p * n + (p * s + c)) / gg p q / (q / gg p q) = (p * n + (p * s + c)) / q := by
      rw [Int.ediv_ediv_of_nonneg (Int.le_of_lt hg), ← gg_q]
    rw [e1, e2]
theorem sum_map_add {α : Type} (l : List α) (f g : α → Int) : (l.map fun x => f x + g x).sum = (l.map f).sum + (l.map g).sum := by
  induction l with
  | nil => rfl
  | cons x r ih => simp only [List.map_cons, List.sum_cons, ih]; omega
theorem range_fs (k : Nat) (a b q : Int) : ((List.range k).map fun (j : Nat) => (a * j + b) / q).sum = fs k a b q := by
  induction k with
  | zero => rfl
  | succ k ih =>
    rw [List.range_succ, List.map_append, List.sum_append, ih]
    show _ + ((a * k + b) / q + 0) = fs k a b q + (a * k + b) / q
    omega
theorem fs_thin (n : Nat) (p q b k : Int) (hq : 0 < q) (hk : 0 < k) : ((List.range k.toNat).map fun (j : Nat) => fs n p (b + q * j) (q * k)).sum = fs n p b q := by
  induction n with
  | zero =>
    show ((List.range k.toNat).map fun _ => (0 : Int)).sum = 0
    induction k.toNat with
    | zero => rfl
    | succ m ih => rw [List.range_succ, List.map_append, List.sum_append, ih]; rfl
  | succ n ih =>
    have e : (List.range k.toNat).map (fun (j : Nat) => fs (n + 1) p (b + q * j) (q * k)) = (List.range k.toNat).map (fun (j : Nat) => fs n p (b + q * j) (q * k) + (1 * (j : Int) + (p * n + b) / q) / k) := by
      apply List.map_congr_left
      intro j _
      show fs n p (b + q * j) (q * k) + (p * n + (b + q * j)) / (q * k) = _
      rw [← Int.ediv_ediv_of_nonneg (Int.le_of_lt hq), show p * (n : Int) + (b + q * j) = (p * n + b) + q * j by omega, div_shift _ _ _ hq, Int.one_mul, Int.add_comm]
      rw [Int.add_comm (j : Int)]
      omega
    rw [e, sum_map_add, ih, range_fs, fs_hermite _ _ hk]
    rfl
theorem fs_sample (n : Nat) (p q b k : Int) (hk : 0 ≤ k) : ((List.range k.toNat).map fun (j : Nat) => fs n (p * k) (b + p * j) q).sum = fs (k.toNat * n) p b q := by
  induction n with
  | zero =>
    show ((List.range k.toNat).map fun _ => (0 : Int)).sum = 0
    induction k.toNat with
    | zero => rfl
    | succ m ih => rw [List.range_succ, List.map_append, List.sum_append, ih]; rfl
  | succ n ih =>
    have e : (List.range k.toNat).map (fun (j : Nat) => fs (n + 1) (p * k) (b + p * j) q) = (List.range k.toNat).map (fun (j : Nat) => fs n (p * k) (b + p * j) q + (p * (j : Int) + (p * ((k.toNat * n : Nat) : Int) + b)) / q) := by
      apply List.map_congr_left
      intro j _
      show fs n (p * k) (b + p * j) q + (p * k * n + (b + p * j)) / q = _
      rw [Int.natCast_mul, show ((k.toNat : Nat) : Int) = k by omega, ← Int.mul_assoc]
      rw [show p * k * (n : Int) + (b + p * j) = p * j + (p * k * n + b) by omega]
    rw [e, sum_map_add, ih, range_fs, Nat.mul_succ, fs_add]
end Lf
namespace Lf
theorem fs_lin (n : Nat) (a b m i j : Int) (hm : 0 < m) : fs n (a + i * m) (b + j * m) m = fs n a b m + i * tri n + j * n := by
  induction n with
  | zero => simp [fs, tri_zero]
  | succ n ih =>
    show fs n (a + i * m) (b + j * m) m + ((a + i * m) * n + (b + j * m)) / m = fs n a b m + (a * n + b) / m + i * tri ((n + 1 : Nat) : Int) + j * ((n + 1 : Nat) : Int)
    rw [ih, show (a + i * m) * (n : Int) + (b + j * m) = (a * n + b) + m * (i * n + j) by
      rw [Int.add_mul, Int.mul_add, Int.mul_comm i m, Int.mul_assoc, Int.mul_comm j m]; omega, div_shift _ _ _ hm, Int.natCast_add, Int.natCast_one, tri_succ, Int.mul_add, Int.mul_add]
    omega
theorem fs_scale (n : Nat) (a b m k : Int) (hk : 0 < k) : fs n (a * k) (b * k) (m * k) = fs n a b m := by
  induction n with
  | zero => rfl
  | succ n ih =>
    show fs n (a * k) (b * k) (m * k) + (a * k * n + b * k) / (m * k) = fs n a b m + (a * n + b) / m
    rw [ih, show a * k * (n : Int) + b * k = (a * n + b) * k by rw [Int.add_mul, Int.mul_right_comm], Int.mul_ediv_mul_of_pos_left _ _ hk]
theorem fs_last (n a b m : Int) (hn : 0 < n) : fs n.toNat a b m - fs (n - 1).toNat a b m = (a * (n - 1) + b) / m := by
  have e : n.toNat = (n - 1).toNat + 1 := by omega
  rw [e]
  show fs (n - 1).toNat a b m + (a * ((n - 1).toNat : Int) + b) / m - fs (n - 1).toNat a b m = _
  rw [show ((n - 1).toNat : Int) = n - 1 by omega]
  omega
theorem fs_part (n k a b m : Int) (h0 : 0 ≤ k) (h1 : k ≤ n) : fs k.toNat a b m + fs (n - k).toNat a (a * k + b) m = fs n.toNat a b m := by
  rw [show n.toNat = k.toNat + (n - k).toNat by omega, fs_add, show ((k.toNat : Nat) : Int) = k by omega]
theorem Bd.grow3 {k : Nat} {r d : Int} (h0 : 0 ≤ r) (h : Bd k r) (d0 : 0 ≤ d) (d1 : d < 1000) : Bd (k + 10) (1000 * r + d) := by
  unfold Bd at *
  have e : (2 : Nat) ^ (k + 10) = 2 ^ k * 1024 := by rw [Nat.pow_add]
  rw [e]
  generalize (2 : Nat) ^ k = m at h
  omega
theorem Bd.grow1 {k : Nat} {r d : Int} (h0 : 0 ≤ r) (h : Bd k r) (d0 : 0 ≤ d) (d1 : d < 10) : Bd (k + 4) (10 * r + d) := by
  unfold Bd at *
  have e : (2 : Nat) ^ (k + 4) = 2 ^ k * 16 := by rw [Nat.pow_add]
  rw [e]
  generalize (2 : Nat) ^ k = m at h
  omega
end Lf
namespace Lf
/-! ### events -/
theorem gal {p q : Int} (c m t : Int) (hp : 1 ≤ p) (hq : 1 ≤ q) : m ≤ (p * t + c) / q ↔ (q * m + (p - 1 - c)) / p ≤ t := by
  rw [Int.le_ediv_iff_mul_le (by omega), ← Int.lt_add_one_iff (a := (q * m + (p - 1 - c)) / p), Int.ediv_lt_iff_lt_mul (by omega), Int.mul_comm m q, Int.add_mul, Int.one_mul, Int.mul_comm t p]
  omega
theorem ct_mono {p q c s t : Int} (hp : 0 ≤ p) (hq : 1 ≤ q) (h : s ≤ t) : (p * s + c) / q ≤ (p * t + c) / q := by
  apply Int.ediv_le_ediv (by omega)
  have := Int.mul_le_mul_of_nonneg_left h hp
  omega
theorem ev_at {p q c m t : Int} (hp : 1 ≤ p) (hq : 1 ≤ q) (h1 : (p * (t - 1) + c) / q < m) (h2 : m ≤ (p * t + c) / q) : (q * m + (p - 1 - c)) / p = t := by
  have a := (gal c m t hp hq).mp h2
  have b : ¬ (q * m + (p - 1 - c)) / p ≤ t - 1 := fun h => by
    have := (gal c m (t - 1) hp hq).mpr h
    omega
  omega
theorem fs_const (k : Nat) (a b m v : Int) (h : ∀ i : Nat, i < k → (a * i + b) / m = v) : fs k a b m = k * v := by
  induction k with
  | zero => simp [fs]
  | succ k ih =>
    show fs k a b m + (a * k + b) / m = ((k + 1 : Nat) : Int) * v
    rw [ih (fun i hi => h i (by omega)), h k (by omega), Int.natCast_add, Int.natCast_one, Int.add_mul]
    omega
/-- the sum of the counts of a range by the times of its events -/
theorem fs_dual (p q c s : Int) (hp : 1 ≤ p) (hq : 1 ≤ q) (n : Nat) :
    fs n p (p * s + c) q = n * ((p * (s - 1) + c) / q) + ((p * (s + n - 1) + c) / q - (p * (s - 1) + c) / q) * (s + n) - fs ((p * (s + n - 1) + c) / q - (p * (s - 1) + c) / q).toNat q (q * ((p * (s - 1) + c) / q + 1) + (p - 1 - c)) p := by
  induction n with
  | zero =>
    rw [show s + ((0 : Nat) : Int) - 1 = s - 1 by omega, Int.sub_self]
    simp [fs]
  | succ n ih =>
    show fs n p (p * s + c) q + (p * n + (p * s + c)) / q = _
    rw [ih]
    have e0 : p * (n : Int) + (p * s + c) = p * (s + ((n + 1 : Nat) : Int) - 1) + c := by
      rw [show s + ((n + 1 : Nat) : Int) - 1 = s + n by omega, Int.mul_add]
      omega
    rw [e0]
    have m1 : (p * (s - 1) + c) / q ≤ (p * (s + n - 1) + c) / q := ct_mono (by omega) hq (by omega)
    have m2 : (p * (s + n - 1) + c) / q ≤ (p * (s + ((n + 1 : Nat) : Int) - 1) + c) / q := ct_mono (by omega) hq (by omega)
    have key : ∀ i : Nat, (i : Int) < (p * (s + ((n + 1 : Nat) : Int) - 1) + c) / q - (p * (s + n - 1) + c) / q → (q * ((p * (s + n - 1) + c) / q + 1 + i) + (p - 1 - c)) / p = s + n := fun i hi => by
      apply ev_at hp hq
      · show (p * (s + n - 1) + c) / q < _
        omega
      · rw [show s + (n : Int) = s + ((n + 1 : Nat) : Int) - 1 by omega] at *
        omega
    generalize hl : (p * (s - 1) + c) / q = low at *
    generalize hh : (p * (s + n - 1) + c) / q = hi at *
    generalize hh2 : (p * (s + ((n + 1 : Nat) : Int) - 1) + c) / q = hi2 at *
    rw [show (hi2 - low).toNat = (hi - low).toNat + (hi2 - hi).toNat by omega, fs_add, show ((hi - low).toNat : Int) = hi - low by omega]
    have fc := fs_const (hi2 - hi).toNat q (q * (hi - low) + (q * (low + 1) + (p - 1 - c))) p (s + n) (fun i h => by
      have := key i (by omega)
      rw [show q * (i : Int) + (q * (hi - low) + (q * (low + 1) + (p - 1 - c))) = q * (hi + 1 + i) + (p - 1 - c) by
        have : q * (hi + 1 + i) = q * i + q * (hi - low) + q * (low + 1) := by rw [← Int.mul_add, ← Int.mul_add]; congr 1; omega
        omega]
      exact this)
    rw [fc, show ((hi2 - hi).toNat : Int) = hi2 - hi by omega]
    rw [show s + ((n + 1 : Nat) : Int) = s + n + 1 by omega, show ((n + 1 : Nat) : Int) = n + 1 by omega]
    generalize s + (n : Int) = x
    have e3 : (hi2 - low) * (x + 1) = hi2 * x - low * x + hi2 - low := by rw [Int.mul_add, Int.sub_mul]; omega
    have e4 : (hi - low) * x = hi * x - low * x := by rw [Int.sub_mul]
    have e5 : (hi2 - hi) * x = hi2 * x - hi * x := by rw [Int.sub_mul]
    have e6 : ((n : Int) + 1) * low = n * low + low := by rw [Int.add_mul, Int.one_mul]
    rw [e3, e4, e5, e6]
    omega
theorem ct_fast {p q c s : Int} (hq : 1 ≤ q) (h : q ≤ p) (n : Nat) : (n : Int) ≤ (p * (s + n) + c) / q - (p * s + c) / q := by
  induction n with
  | zero => simp
  | succ n ih =>
    have : (p * (s + n) + c) / q + 1 ≤ (p * (s + ((n + 1 : Nat) : Int)) + c) / q := by
      have e := div_shift (p * (s + n) + c) 1 q (by omega)
      rw [← e]
      apply Int.ediv_le_ediv (by omega)
      rw [show s + ((n + 1 : Nat) : Int) = s + n + 1 by omega, Int.mul_add p (s + n) 1]
      omega
    omega
theorem ct_slow {p q c s : Int} (hq : 1 ≤ q) (h : p ≤ q) (n : Nat) : (p * (s + n) + c) / q - (p * s + c) / q ≤ n := by
  induction n with
  | zero => simp
  | succ n ih =>
    have : (p * (s + ((n + 1 : Nat) : Int)) + c) / q ≤ (p * (s + n) + c) / q + 1 := by
      have e := div_shift (p * (s + n) + c) 1 q (by omega)
      rw [← e]
      apply Int.ediv_le_ediv (by omega)
      rw [show s + ((n + 1 : Nat) : Int) = s + n + 1 by omega, Int.mul_add p (s + n) 1]
      omega
    omega
end Lf

namespace Lf
open PySem PySem.Spec PyProof.Rows L2
def topS (i : Nat) : Stmt := PySem.Challenge.pw_leapfit_k17_whole_patterns.main.body.getD i (.Pass ⟨0, 0, 0, 0⟩)
/-! ### heaps -/
theorem len10 {n : Nat} (h : n ≤ 1000) : n ≤ sizeLine := Nat.le_of_lt (small1000 h)
def penD (l : Addr) (t r : Int) : List (Key × V) := [(Sum.inr "cells", .ref l), (Sum.inr "turn", .int t), (Sum.inr "rest", .int r)]
/-- all but the source's own dict stays -/
structure Fr (H H' : Hp) : Prop where
  k : ∀ b o, H b = some o → (∀ x : Addr × Int × Int, o ≠ .dK (penD x.1 x.2.1 x.2.2)) → H' b = some o
theorem Fr.t {H H' : Hp} (f : Fr H H') (b : Addr) (xs : List V) (h : H b = some (.tup xs)) : H' b = some (.tup xs) := f.k b _ h fun _ z => by cases z
theorem Fr.l {H H' : Hp} (f : Fr H H') (b : Addr) (xs : List V) (h : H b = some (.lst xs)) : H' b = some (.lst xs) := f.k b _ h fun _ z => by cases z
theorem Fr.refl (H : Hp) : Fr H H := ⟨fun _ _ h _ => h⟩
theorem Fr.trans {H H1 H2 : Hp} (a : Fr H H1) (b : Fr H1 H2) : Fr H H2 := ⟨fun c o h n => b.k c o (a.k c o h n) n⟩
theorem Fr.same {H H1 : Hp} (a : Same H H1) : Fr H H1 := ⟨fun c o h _ => a c _ h⟩
theorem sm_upd {H : Hp} {p : Addr} {o : HO} (h : H p = none) : Same H (upd H p o) := fun b x e => by
  rw [upd_ne (ne_of_none e h)]
  exact e
theorem Fr.new {H : Hp} {p : Addr} {o : HO} (h : H p = none) : Fr H (upd H p o) := Fr.same (sm_upd h)
theorem Fr.dict {H : Hp} {p l : Addr} {t r : Int} {o : HO} (h : H p = some (.dK (penD l t r))) : Fr H (upd H p o) :=
  ⟨fun b o e n => by rw [upd_ne (ne_of e h (n (l, t, r)))]; exact e⟩
theorem Fr.d0 {H H' : Hp} (f : Fr H H') (b : Addr) (h : H b = some (.dK [])) : H' b = some (.dK []) := f.k b _ h fun _ z => by cases z
/-! ### the source of numbers -/
theorem sct : ¬ ("cells" : Str) = "turn" := by decide +kernel
theorem scr : ¬ ("cells" : Str) = "rest" := by decide +kernel
theorem str_ : ¬ ("turn" : Str) = "rest" := by decide +kernel
theorem srt : ¬ ("rest" : Str) = "turn" := by decide +kernel
theorem kct : ¬ (Sum.inr ("cells" : Str) : Key) = Sum.inr ("turn" : Str) := fun h => sct (Sum.inr.inj h)
theorem kcr : ¬ (Sum.inr ("cells" : Str) : Key) = Sum.inr ("rest" : Str) := fun h => scr (Sum.inr.inj h)
theorem ktr : ¬ (Sum.inr ("turn" : Str) : Key) = Sum.inr ("rest" : Str) := fun h => str_ (Sum.inr.inj h)
theorem krt : ¬ (Sum.inr ("rest" : Str) : Key) = Sum.inr ("turn" : Str) := fun h => srt (Sum.inr.inj h)
theorem dg_rest {H : Hp} {a l : Addr} {t r : Int} (h : H a = some (.dK (penD l t r))) : DGet H a (.str "rest") (some (.int r)) := by
  have e : valV (penD l t r) (Sum.inr "rest" : Key) = some (.int r) := by
    unfold penD
    rw [valV_neg kcr, valV_neg ktr, valV_pos rfl]
  rw [← e]
  exact DGet.k (k := Sum.inr "rest") h
theorem dg_turn {H : Hp} {a l : Addr} {t r : Int} (h : H a = some (.dK (penD l t r))) : DGet H a (.str "turn") (some (.int t)) := by
  have e : valV (penD l t r) (Sum.inr "turn" : Key) = some (.int t) := by
    unfold penD
    rw [valV_neg kct, valV_pos rfl]
  rw [← e]
  exact DGet.k (k := Sum.inr "turn") h
theorem dg_cells {H : Hp} {a l : Addr} {t r : Int} (h : H a = some (.dK (penD l t r))) : DGet H a (.str "cells") (some (.ref l)) := by
  have e : valV (penD l t r) (Sum.inr "cells" : Key) = some (.ref l) := by
    unfold penD
    rw [valV_pos rfl]
  rw [← e]
  exact DGet.k (k := Sum.inr "cells") h
theorem dp_rest {H : Hp} {a l : Addr} {t r y : Int} (h : H a = some (.dK (penD l t r))) : DPut H a (.str "rest") (.int y) (upd H a (.dK (penD l t y))) := by
  have e : putK (penD l t r) (Sum.inr "rest" : Key) (.int y) = penD l t y := by
    simp [putK, penD, scr, str_]
  rw [← e]
  exact DPut.k (k := Sum.inr "rest") h (by show 3 < sizeLine; exact small1000 (by decide))
theorem dp_turn {H : Hp} {a l : Addr} {t r y : Int} (h : H a = some (.dK (penD l t r))) : DPut H a (.str "turn") (.int y) (upd H a (.dK (penD l y r))) := by
  have e : putK (penD l t r) (Sum.inr "turn" : Key) (.int y) = penD l y r := by
    simp [putK, penD, sct, srt]
  rw [← e]
  exact DPut.k (k := Sum.inr "turn") h (by show 3 < sizeLine; exact small1000 (by decide))
/-- where the source stands: its dict, its list of cells -/
structure PA where
  d : Addr
  l : Addr
instance : Coe PA Addr := ⟨PA.d⟩
structure Pen (H : Hp) (a : PA) (n : Nat) : Prop where
  ex : ∃ (cs : List Int) (t r : Int), H a.d = some (.dK (penD a.l t r)) ∧ H a.l = some (.lst (cs.map V.int)) ∧ cs.length ≤ 63 ∧ 0 ≤ t ∧ t ≤ n ∧ 0 ≤ r
theorem Pen.same {H H' : Hp} {a : PA} {n : Nat} (p : Pen H a n) (s : Same H H') : Pen H' a n := by
  obtain ⟨cs, t, r, h1, h2, h3⟩ := p.ex
  exact ⟨cs, t, r, s _ _ h1, s _ _ h2, h3⟩
theorem Pen.new {H : Hp} {a : PA} {p : Addr} {n : Nat} {o : HO} (q : Pen H a n) (h : H p = none) : Pen (upd H p o) a n := q.same (sm_upd h)
theorem Pen.mono {H : Hp} {a : PA} {n m : Nat} (p : Pen H a n) (h : n ≤ m) : Pen H a m := by
  obtain ⟨cs, t, r, h1, h2, h3, h4, h5, h6⟩ := p.ex
  exact ⟨cs, t, r, h1, h2, h3, h4, by omega, h6⟩
theorem Pen.put {H : Hp} {a l : Addr} {cs : List Int} {t r : Int} {n : Nat} {kvs : List (Key × V)} (ha : H a = some (.dK kvs)) (hl : H l = some (.lst (cs.map V.int))) (h1 : cs.length ≤ 63) (h2 : 0 ≤ t) (h3 : t ≤ n) (h4 : 0 ≤ r) :
    Pen (upd H a (.dK (penD l t r))) ⟨a, l⟩ n :=
  ⟨cs, t, r, upd_same, by show upd H a _ l = _; rw [upd_ne (ne_of hl ha (by intro z; cases z))]; exact hl, h1, h2, h3, h4⟩
/-- an address that was free when the source stood already -/
theorem Pen.over {H H' : Hp} {a : PA} {L : Addr} {n m : Nat} {o : HO} (p0 : Pen H a m) (hL : H L = none) (p : Pen H' a n) : Pen (upd H' L o) a n := by
  obtain ⟨_, _, _, g1, g2, _⟩ := p0.ex
  obtain ⟨cs, t, r, h1, h2, h3⟩ := p.ex
  exact ⟨cs, t, r, by rw [upd_ne (ne_of_none g1 hL)]; exact h1, by rw [upd_ne (ne_of_none g2 hL)]; exact h2, h3⟩
theorem Fr.over {H H' : Hp} {L : Addr} {o : HO} (f : Fr H H') (hL : H L = none) : Fr H (upd H' L o) :=
  ⟨fun b o e n => by rw [upd_ne (ne_of_none e hL)]; exact f.k _ _ e n⟩
/-! ### defs by their names -/
def Df (K : PySem.W.Frag) (mg : Str → Option Value) (x : Str) (st : Stmt) (ps : List Str) : Prop := ∃ f fd, Fun K x x st f fd ∧ mg x = some (.ref f) ∧ Binds K fd ps []
structure Bi (mg : Str → Option Value) : Prop where
  len_ : mg "len" = none
  abs_ : mg "abs" = none
  list_ : mg "list" = none
  range_ : mg "range" = none
  sum_ : mg "sum" = none
  repr_ : mg "repr" = none
  max_ : mg "max" = none
  min_ : mg "min" = none
  reversed_ : mg "reversed" = none
  divmod_ : mg "divmod" = none
  isinstance_ : mg "isinstance" = none
  all_ : mg "all" = none
  int_ : mg "int" = none
  bool_ : mg "bool" = none
  tuple_ : mg "tuple" = none
  sorted_ : mg "sorted" = none
  zip_ : mg "zip" = none
  enumerate_ : mg "enumerate" = none
  set_ : mg "set" = none
  str_ : mg "str" = none
theorem bt_len : bootBuiltins ("len" : Str) = Option.some (Value.builtin "len") := by decide +kernel
theorem bt_abs : bootBuiltins ("abs" : Str) = Option.some (Value.builtin "abs") := by decide +kernel
theorem bt_sum : bootBuiltins ("sum" : Str) = Option.some (Value.builtin "sum") := by decide +kernel
theorem bt_repr : bootBuiltins ("repr" : Str) = Option.some (Value.builtin "repr") := by decide +kernel
theorem bt_max : bootBuiltins ("max" : Str) = Option.some (Value.builtin "max") := by decide +kernel
theorem bt_min : bootBuiltins ("min" : Str) = Option.some (Value.builtin "min") := by decide +kernel
theorem bt_divmod : bootBuiltins ("divmod" : Str) = Option.some (Value.builtin "divmod") := by decide +kernel
theorem bt_isinstance : bootBuiltins ("isinstance" : Str) = Option.some (Value.builtin "isinstance") := by decide +kernel
theorem bt_all : bootBuiltins ("all" : Str) = Option.some (Value.builtin "all") := by decide +kernel
theorem bt_set : bootBuiltins ("set" : Str) = Option.some (Value.type "set") := by decide +kernel
theorem bt_str : bootBuiltins ("str" : Str) = Option.some (Value.type "str") := by decide +kernel
theorem bt_sorted : bootBuiltins ("sorted" : Str) = Option.some (Value.builtin "sorted") := by decide +kernel
theorem bt_list : bootBuiltins ("list" : Str) = Option.some (Value.type "list") := by decide +kernel
theorem bt_int : bootBuiltins ("int" : Str) = Option.some (Value.type "int") := by decide +kernel
theorem bt_bool : bootBuiltins ("bool" : Str) = Option.some (Value.type "bool") := by decide +kernel
theorem bt_tuple : bootBuiltins ("tuple" : Str) = Option.some (Value.type "tuple") := by decide +kernel
section
variable {P : Program} {w : World} {K : PySem.W.Frag} {mg : Str → Option Value} {base : Heap}
theorem cal_of {x : Str} {st : Stmt} {N ps : List Str} {k : Nat} {sp : Sp} (D : Df K mg x st ps) (S : FnScope N ps (defScope st)) (len : ∀ vs H Q E, sp vs H Q E → vs.length = ps.length)
    (hb : ∀ (f : Addr) (cdv : Value) (A : Around) (outer : List Env) (s : Shared) (H : Hp) (vs : List V) (Q : VK) (E : XK), Room k (A.deeper (envOfC x (defScope st) s.heap.objs.size f cdv)) → sp vs H Q E →
      ∃ t, PSs (cxOf CX0 P w K mg base N x (defScope st) f cdv A outer s H E).nox (defBody st) t ∧ t { nx := fun _ H' => Q .non H', rt := Q } (start N vs) H) : C8.Cal P w K mg base (k + 1) x sp [] := by
  obtain ⟨f, fd, F, hm, b⟩ := D
  exact ⟨⟨f, fd, ps, [], F.ok S len (fun cdv A outer s H vs Q E hr h => hb f cdv A outer s H vs Q E hr h), hm, F.kp, b, .nil⟩⟩
/-- the same, its own row known (for calls with keywords) -/
def CalF (P : Program) (w : World) (K : PySem.W.Frag) (mg : Str → Option Value) (base : Heap) (k : Nat) (x : Str) (st : Stmt) (ps : List Str) (sp : Sp) : Prop :=
  ∃ f fd, Fun K x x st f fd ∧ mg x = some (.ref f) ∧ FnOk P w K mg base CX0 k f fd ps sp ∧ Binds K fd ps []
theorem calF_of {x : Str} {st : Stmt} {N ps : List Str} {k : Nat} {sp : Sp} (D : Df K mg x st ps) (S : FnScope N ps (defScope st)) (len : ∀ vs H Q E, sp vs H Q E → vs.length = ps.length)
    (hb : ∀ (f : Addr) (cdv : Value) (A : Around) (outer : List Env) (s : Shared) (H : Hp) (vs : List V) (Q : VK) (E : XK), Room k (A.deeper (envOfC x (defScope st) s.heap.objs.size f cdv)) → sp vs H Q E →
      ∃ t, PSs (cxOf CX0 P w K mg base N x (defScope st) f cdv A outer s H E).nox (defBody st) t ∧ t { nx := fun _ H' => Q .non H', rt := Q } (start N vs) H) : CalF P w K mg base (k + 1) x st ps sp := by
  obtain ⟨f, fd, F, hm, b⟩ := D
  exact ⟨f, fd, F, hm, F.ok S len (fun cdv A outer s H vs Q E hr h => hb f cdv A outer s H vs Q E hr h), b⟩
theorem CalF.cal {x : Str} {st : Stmt} {ps : List Str} {k : Nat} {sp : Sp} (c : CalF P w K mg base k x st ps sp) : C8.Cal P w K mg base k x sp [] := by
  obtain ⟨f, fd, F, hm, G, b⟩ := c
  exact ⟨⟨f, fd, ps, [], G, hm, F.kp, b, .nil⟩⟩
/-! ### _law_pen -/
theorem cut_ints (ns : List Int) : ∃ cs : List Int, cutV (ns.map V.int) none (some 63) = cs.map V.int ∧ cs.length ≤ 63 := by
  refine ⟨ns.take 63, ?_, by rw [List.length_take]; omega⟩
  unfold cutV
  rw [HT.sIx_none, show HT.sIx (ns.map V.int).length (ns.map V.int).length (some 63) = min 63 (ns.map V.int).length from HT.sIx_nat _ _ 63]
  rw [List.drop_zero, Nat.sub_zero, List.map_take, List.length_map]
  by_cases h : 63 ≤ ns.length
  · rw [Nat.min_eq_left h]
  · rw [Nat.min_eq_right (by omega), List.take_of_length_le (by rw [List.length_map]; omega), List.take_of_length_le (by rw [List.length_map]; omega)]
def spPen (K : PySem.W.Frag) : Sp := fun vs H Q _ => ∃ (s : Addr) (ns : List Int), vs = [.ref s] ∧ SqL K H s (ns.map V.int) ∧ ∀ (a : PA) H', Pen H' a 0 → Same H H' → Q (.ref a) H'
abbrev s_l_pen : Stmt := topS 33
abbrev N_l_pen : List Str := ["_law_script"]
abbrev P_l_pen : List Str := ["_law_script"]
theorem sc_l_pen : FnScope N_l_pen P_l_pen (defScope s_l_pen) := ⟨rfl, rfl, rfl, by decide +kernel, rfl, by decide +kernel, by decide +kernel⟩
theorem ok_l_pen (D : Df K mg "_law_pen" s_l_pen P_l_pen) (B : Bi mg) : C8.Cal P w K mg base 1 "_law_pen" (spPen K) [] := by
  refine cal_of D sc_l_pen (fun vs H Q E h => ?_) (fun f cdv A outer s H vs Q E hr h => ?_)
  · obtain ⟨a, ns, rfl, _⟩ := h
    rfl
  · obtain ⟨a, ns, rfl, hS, q⟩ := h
    refine ⟨_, (pss_one (ps_ret (pe_disp (pps_cons pe_str (pe_callTy (call_list_of) (by rfl) B.list_ bt_list (pa_cons (pe_slice sl_list (pv 0) po_none (po_some pe_int)) pa_nil)) (pps_cons pe_str pe_int (pps_cons pe_str pe_int pps_nil))) (by rfl) (by rfl) (fun z => by cases z) (by decide)))), ?_⟩
    refine fun p np => ?_
    have s1 : Same H (upd H p (.dK [])) := sm_upd np
    refine ⟨_, rfl, 63, rfl, a, _, rfl, s1.seq hS, fun c nc => ?_⟩
    obtain ⟨cs, ec, hc⟩ := cut_ints ns
    rw [ec]
    refine ⟨c, _, rfl, .inl (SqL.of upd_same), fun l nl => ?_⟩
    have ncp : p ≠ c := ne_of_none upd_same nc
    have nlc : c ≠ l := ne_of_none upd_same nl
    have nlp : p ≠ l := ne_of_none (by rw [upd_ne ncp]; exact upd_same) nl
    refine ⟨by rw [upd_ne nlp, upd_ne ncp, upd_same], penD l 0 0, rfl, by show 3 ≤ 15; decide, ?_⟩
    have e : mergeK [] (penD l 0 0) = penD l 0 0 := by
      simp [mergeK, penD, putK, sct, scr, str_]
    rw [e]
    refine q ⟨p, l⟩ _ ⟨cs, 0, 0, upd_same, ?_, hc, by omega, by omega, by omega⟩ ?_
    · show upd _ p _ l = _
      rw [upd_ne nlp.symm, upd_same]
    · intro b o eb
      have nb : b ≠ p := ne_of_none eb np
      have nb2 : b ≠ c := ne_of_none (s1 _ _ eb) nc
      have nb3 : b ≠ l := ne_of_none (sm_upd nc _ _ (s1 _ _ eb)) nl
      rw [upd_ne nb, upd_ne nb3, upd_ne nb2, upd_ne nb]
      exact eb
end
end Lf
namespace Lf
open PySem PySem.Spec PyProof.Rows L2
section
variable {P : Program} {w : World} {K : PySem.W.Frag} {mg : Str → Option Value} {base : Heap}
/-! ### _law_draw -/
theorem at_mod (cs : List Int) (t : Int) (h : cs ≠ []) : ∃ c, atI (cs.map V.int) (t % ((cs.map V.int).length : Int)) = some (.int c) := by
  have hl : 0 < cs.length := List.length_pos_iff.mpr h
  rw [List.length_map]
  have h0 := Int.emod_nonneg t (show (cs.length : Int) ≠ 0 by omega)
  have h1 := Int.emod_lt_of_pos t (show (0 : Int) < cs.length by omega)
  generalize t % (cs.length : Int) = i at h0 h1
  obtain ⟨j, rfl⟩ := Int.eq_ofNat_of_zero_le h0
  have hj : j < cs.length := by omega
  refine ⟨cs[j], atI_nat ?_⟩
  rw [List.getElem?_map, List.getElem?_eq_getElem hj]
  rfl
theorem dp_ints {K : PySem.W.Frag} {H : Hp} : ∀ cs : List Int, DpAll K H (cs.map V.int) (cs.map PyData.int)
  | [] => .nil
  | c :: r => .cons (.int c) (dp_ints r)
theorem sh_ints (cs : List Int) : SeqAt.shaped (.list (cs.map PyData.int)) = true := by
  have h : ∀ cs : List Int, PyData.canLayAll0 (cs.map PyData.int) = true ∧ PyData.depthAll (cs.map PyData.int) = 0 := by
    intro cs
    induction cs with
    | nil => exact ⟨rfl, rfl⟩
    | cons c r ih => exact ⟨by simpa [PyData.canLayAll0, PyData.canLay0] using ih.1, by simpa [PyData.depthAll, PyData.depth] using ih.2⟩
  simp [SeqAt.shaped, PyData.canLay0, PyData.depth, (h cs).1, (h cs).2]
def spDraw : Sp := fun vs H Q _ => ∃ (a : PA) (n : Nat) (many : Int), vs = [.ref a, .int many] ∧ Pen H a n ∧ n < 2 ^ 40 ∧ 0 < many ∧ Bd 9000 many ∧
  ∀ d H', 0 ≤ d → d < many → Pen H' a (n + 1) → Fr H H' → Q (.int d) H'
end
end Lf
namespace Lf
open PySem PySem.Spec PyProof.Rows L2
section
variable {P : Program} {w : World} {K : PySem.W.Frag} {mg : Str → Option Value} {base : Heap}
theorem at_primes (t : Int) : ∃ pr : Int, atI ([.int 2147483647, .int 2147483629, .int 2147483587, .int 2147483579, .int 2147483563] : List V) (t % 5) = some (V.int pr) ∧ 0 < pr ∧ pr < 2147483648 := by
  have h0 := Int.emod_nonneg t (show (5 : Int) ≠ 0 by decide)
  have h1 := Int.emod_lt_of_pos t (show (0 : Int) < 5 by decide)
  generalize t % 5 = i at h0 h1
  obtain ⟨j, rfl⟩ := Int.eq_ofNat_of_zero_le h0
  have hj : j < 5 := by omega
  match j, hj with
  | 0, _ => exact ⟨_, atI_nat (j := 0) rfl, by decide, by decide⟩
  | 1, _ => exact ⟨_, atI_nat (j := 1) rfl, by decide, by decide⟩
  | 2, _ => exact ⟨_, atI_nat (j := 2) rfl, by decide, by decide⟩
  | 3, _ => exact ⟨_, atI_nat (j := 3) rfl, by decide, by decide⟩
  | 4, _ => exact ⟨_, atI_nat (j := 4) rfl, by decide, by decide⟩
abbrev s_l_draw : Stmt := topS 34
abbrev N_l_draw : List Str := ["_law_pen_here", "_law_many", "_law_digit", "_law_turn", "_law_cell", "_law_primes", "_law_prime", "_law_drawn"]
abbrev P_l_draw : List Str := ["_law_pen_here", "_law_many"]
theorem sc_l_draw : FnScope N_l_draw P_l_draw (defScope s_l_draw) := ⟨rfl, rfl, rfl, by decide +kernel, rfl, by decide +kernel, by decide +kernel⟩
theorem ok_l_draw (D : Df K mg "_law_draw" s_l_draw P_l_draw) (B : Bi mg) : C8.Cal P w K mg base 1 "_law_draw" spDraw [] := by
  refine cal_of D sc_l_draw (fun vs H Q E h => ?_) (fun f cdv A outer s H vs Q E hr h => ?_)
  · obtain ⟨a, n, many, rfl, _⟩ := h
    rfl
  · obtain ⟨⟨a, l⟩, n, many, rfl, hP, hn, h0, hb, q⟩ := h
    have hu := hu_of hr
    have hd : CDivW 0 many := ⟨h0, hb.log (by decide)⟩
    obtain ⟨cs, t, r, ea, el, hl, ht0, htn, hr0⟩ := hP.ex
    have ea : H a = some (.dK (penD l t r)) := ea
    have el : H l = some (.lst (cs.map V.int)) := el
    refine ⟨_, (pss_cons (ps_if (pt_cmpR op_gt (pe_dget hu (pv 0) pe_str (fun _ _ => rfl)) pe_int (nomark _))
      (pss_cons (ps_set (i := 2) sc_l_draw.nd rfl (Or.inl rfl) (pe_op op_mod (pe_dget hu (pv 0) pe_str (fun _ _ => rfl)) (pv 1)))
    (pss_cons (ps_dput hu (pv 0) pe_str (pe_op op_fdivW (pe_dget hu (pv 0) pe_str (fun _ _ => rfl)) (pv 1)) rfl)
    (pss_one (ps_ret (pv 2)))))
      pss_nil)
    (pss_cons (ps_set (i := 3) sc_l_draw.nd rfl (Or.inl rfl) (pe_dget hu (pv 0) pe_str (fun _ _ => rfl)))
    (pss_cons (ps_dput hu (pv 0) pe_str (pe_op op_add (pv 3) pe_int) rfl)
    (pss_cons (ps_set (i := 4) sc_l_draw.nd rfl (Or.inl rfl) (pe_op op_add (pe_op op_mul pe_int (pv 3)) pe_int))
    (C8.pss_cut (ps_if (pt_cmpR (op_neD hr.units) (pe_dget hu (pv 0) pe_str (fun _ _ => rfl)) (pe_lst pa_nil) (nomark _))
      (pss_one (ps_set (i := 4) sc_l_draw.nd rfl (Or.inl rfl) (pe_ix (r := rIxL K) ix_list (pe_dget hu (pv 0) pe_str (fun _ _ => rfl)) (pe_op op_mod (pv 3) (pe_callB (call_len_seq) (by rfl) B.len_ bt_len (pa_cons (pe_dget hu (pv 0) pe_str (fun _ _ => rfl)) pa_nil))) (fun _ _ => rfl))))
      pss_nil)
    (C8.pss_cut (ps_if (PW.pt (pw_and (pt_cmpR op_lt (pv 3) (pe_callB (call_len_seq) (by rfl) B.len_ bt_len (pa_cons (pe_dget hu (pv 0) pe_str (fun _ _ => rfl)) pa_nil)) (nomark _)) (pw_and1 (pt_cmpR op_ge (pe_callB (call_abs) (by rfl) B.abs_ bt_abs (pa_cons (pv 4) pa_nil)) (pe_op op_pow pe_int pe_int) (nomark _)))))
      (pss_cons (ps_dput hu (pv 0) pe_str (pe_op op_fdivW (pe_op op_sub (pe_callB (call_abs) (by rfl) B.abs_ bt_abs (pa_cons (pv 4) pa_nil)) (pe_op op_pow pe_int pe_int)) (pv 1)) rfl)
    (pss_one (ps_ret (pe_op op_mod (pe_op op_sub (pe_callB (call_abs) (by rfl) B.abs_ bt_abs (pa_cons (pv 4) pa_nil)) (pe_op op_pow pe_int pe_int)) (pv 1)))))
      pss_nil)
    (pss_cons (ps_set (i := 5) sc_l_draw.nd rfl (Or.inl rfl) (pe_lst (pa_cons pe_int (pa_cons pe_int (pa_cons pe_int (pa_cons pe_int (pa_cons pe_int pa_nil)))))))
    (pss_cons (ps_set (i := 6) sc_l_draw.nd rfl (Or.inl rfl) (pe_ix (r := rIxL K) ix_list (pv 5) (pe_op op_mod (pv 3) pe_int) (fun _ _ => rfl)))
    (pss_cons (ps_set (i := 7) sc_l_draw.nd rfl (Or.inl rfl) (pe_op op_mod (pe_op op_add (pe_op op_add (pe_op op_mul (pe_op op_mod (pv 4) (pv 6)) pe_int) (pe_op op_mul (pe_op op_mul pe_int (pv 3)) (pv 3))) pe_int) (pv 6)))
    (pss_cons (ps_set (i := 7) sc_l_draw.nd rfl (Or.inl rfl) (pe_op op_mod (pe_op op_mul (pv 7) (pe_op op_add (pv 7) pe_int)) (pe_ix (r := rIxL K) ix_list (pv 5) (pe_op op_mod (pe_op op_add (pv 3) pe_int) pe_int) (fun _ _ => rfl))))
    (pss_one (ps_ret (pe_op op_mod (pe_op op_fdiv (pe_op op_mod (pe_op op_mul (pv 7) (pv 7)) pe_int) pe_int) (pv 1)))))))))))))), ?_⟩
    -- rest > 0
    refine ⟨_, rfl, a, _, rfl, dg_rest ea, _, _, rfl, rfl, _, rfl, ite2 (fun e => ?_) (fun e => ?_)⟩
    · refine ⟨_, rfl, a, _, rfl, dg_rest ea, _, rfl, _, _, rfl, rfl, h0, ?_⟩
      refine ⟨_, rfl, a, _, rfl, dg_rest ea, _, rfl, _, _, rfl, rfl, hd, _, rfl, a, _, rfl, dp_rest ea, ?_⟩
      refine ⟨_, rfl, ?_⟩
      exact q _ _ (Int.emod_nonneg _ (by omega)) (Int.emod_lt_of_pos _ h0) (Pen.put ea el hl ht0 (by omega) (Int.ediv_nonneg hr0 (by omega))) (Fr.dict ea)
    · -- turn = ..; turn + 1; 43 * turn + 19
      refine ⟨_, rfl, a, _, rfl, dg_turn ea, ?_⟩
      refine ⟨_, rfl, _, _, rfl, rfl, _, rfl, a, _, rfl, dp_turn ea, ?_⟩
      have ea1 : upd H a (.dK (penD l (t + 1) r)) a = some (.dK (penD l (t + 1) r)) := upd_same
      have nla : l ≠ a := ne_of el ea (by intro z; cases z)
      have el1 : upd H a (.dK (penD l (t + 1) r)) l = some (.lst (cs.map V.int)) := by rw [upd_ne nla]; exact el
      have f1 : Fr H (upd H a (.dK (penD l (t + 1) r))) := Fr.dict ea
      generalize upd H a (.dK (penD l (t + 1) r)) = H1 at ea1 el1 f1
      refine ⟨_, rfl, _, _, rfl, rfl, .inl ⟨by decide, by decide⟩, _, _, rfl, rfl, ?_⟩
      refine ⟨fun σ' H' => ∃ c : Int, σ' = [some (.ref a), some (.int many), none, some (.int t), some (.int c), none, none, none] ∧ Same H1 H', ?_, ?_⟩
      · refine ⟨_, rfl, a, _, rfl, dg_cells ea1, Nat.zero_le _, fun p np => ?_⟩
        have s1 : Same H1 (upd H1 p (.lst [])) := sm_upd np
        refine ⟨.list (cs.map PyData.int), .list [], Dp.lst (SqL.of (s1 _ _ el1)) (dp_ints cs), Dp.lst (SqL.of upd_same) .nil, sh_ints cs, rfl, _, rfl, ?_⟩
        by_cases hc : cs = []
        · subst hc
          refine iteF ?_
          exact ⟨_, rfl, s1⟩
        · obtain ⟨c, r', rfl⟩ : ∃ c r', cs = c :: r' := by
            cases cs with
            | nil => exact absurd rfl hc
            | cons c r' => exact ⟨c, r', rfl⟩
          refine iteT ?_
          obtain ⟨v, hv⟩ := at_mod (c :: r') t hc
          refine ⟨_, rfl, a, _, rfl, dg_cells (s1 _ _ ea1), _, rfl, _, rfl, a, _, rfl, dg_cells (s1 _ _ ea1), l, _, rfl, .inl (SqL.of (s1 _ _ el1)), _, _, rfl, rfl, ?_, l, _, _, _, rfl, rfl, SqL.of (s1 _ _ el1), hv, ?_⟩
          · show (0 : Int) < (((c :: r').map V.int).length : Int)
            rw [List.length_map, List.length_cons]
            omega
          · exact ⟨v, rfl, s1⟩
      · rintro σ' H2 ⟨c, rfl, s2⟩
        have ea2 := s2 _ _ ea1
        have el2 := s2 _ _ el1
        have f2 : Fr H H2 := f1.trans (Fr.same s2)
        refine ⟨fun σ' H' => σ' = [some (.ref a), some (.int many), none, some (.int t), some (.int c), none, none, none] ∧ H' = H2, ?_, ?_⟩
        · refine ⟨_, rfl, _, rfl, a, _, rfl, dg_cells ea2, l, _, rfl, .inl (SqL.of el2), _, _, rfl, rfl, _, rfl, ite2 (fun e1 => ?_) (fun e1 => ?_)⟩
          · refine ⟨_, rfl, _, rfl, _, _, rfl, rfl, ⟨by decide, by decide, by decide⟩, _, _, rfl, rfl, _, rfl, ite2 (fun e2 => ?_) (fun e2 => ?_)⟩
            · have e3 := of_decide_eq_true e2
              refine ⟨_, rfl, _, rfl, _, _, rfl, rfl, ⟨by decide, by decide, by decide⟩, _, _, rfl, rfl, _, rfl, _, _, rfl, rfl, hd, _, rfl, a, _, rfl, dp_rest ea2, ?_⟩
              refine ⟨_, rfl, _, rfl, _, _, rfl, rfl, ⟨by decide, by decide, by decide⟩, _, _, rfl, rfl, _, rfl, _, _, rfl, rfl, h0, ?_⟩
              exact q _ _ (Int.emod_nonneg _ (by omega)) (Int.emod_lt_of_pos _ h0) (Pen.put ea2 el2 hl (by omega) (by omega) (Int.ediv_nonneg (by omega) (by omega))) (f2.trans (Fr.dict ea2))
            · exact ⟨rfl, rfl⟩
          · exact iteF ⟨rfl, rfl⟩
        · rintro σ' H' ⟨rfl, rfl⟩
          refine ⟨by show 5 ≤ sizeLine; exact Nat.le_of_lt (small1000 (by decide)), fun p np => ?_⟩
          have s3 := sm_upd (o := .lst [.int 2147483647, .int 2147483629, .int 2147483587, .int 2147483579, .int 2147483563]) np
          obtain ⟨pr, hp, hp0, hp1⟩ := at_primes t
          obtain ⟨pr2, hp2, hp20, hp21⟩ := at_primes (t + 2)
          refine ⟨_, rfl, _, rfl, _, _, rfl, rfl, (by show (0 : Int) < 5; decide), p, _, _, _, rfl, rfl, SqL.of upd_same, hp, ?_⟩
          refine ⟨_, rfl, _, rfl, _, _, rfl, rfl, hp0, _, _, rfl, rfl, .inr ⟨by decide, by decide⟩, _, rfl, _, _, rfl, rfl, .inl ⟨by decide, by decide⟩, _, rfl, _, _, rfl, rfl, .inr ⟨by omega, by omega⟩, _, _, rfl, rfl, _, _, rfl, rfl, _, rfl, _, _, rfl, rfl, hp0, ?_⟩
          have d0 := Int.emod_nonneg (c % pr * 48271 + 40609 * t * t + 23) (show pr ≠ 0 by omega)
          have d1 := Int.emod_lt_of_pos (c % pr * 48271 + 40609 * t * t + 23) hp0
          refine ⟨_, rfl, _, rfl, _, _, rfl, rfl, _, _, rfl, rfl, .inl ⟨by omega, by omega⟩, _, rfl, _, rfl, _, _, rfl, rfl, _, _, rfl, rfl, (by show (0 : Int) < 5; decide), p, _, _, _, rfl, rfl, SqL.of upd_same, hp2, _, _, rfl, rfl, hp20, ?_⟩
          have d20 := Int.emod_nonneg ((c % pr * 48271 + 40609 * t * t + 23) % pr * ((c % pr * 48271 + 40609 * t * t + 23) % pr + 69621)) (show pr2 ≠ 0 by omega)
          have d21 := Int.emod_lt_of_pos ((c % pr * 48271 + 40609 * t * t + 23) % pr * ((c % pr * 48271 + 40609 * t * t + 23) % pr + 69621)) hp20
          refine ⟨_, rfl, _, rfl, _, _, rfl, rfl, .inl ⟨by omega, by omega⟩, _, _, rfl, rfl, (by show (0 : Int) < 2147483549; decide), _, _, rfl, rfl, ⟨by decide, by decide⟩, _, rfl, _, _, rfl, rfl, h0, ?_⟩
          have hP2 : Pen H' ⟨a, l⟩ (n + 1) := ⟨cs, t + 1, r, ea2, el2, hl, by omega, by omega, hr0⟩
          exact q _ _ (Int.emod_nonneg _ (by omega)) (Int.emod_lt_of_pos _ h0) (hP2.new np) (f2.trans (Fr.new np))
end
end Lf
namespace Lf
open PySem PySem.Spec PyProof.Rows L2
section
variable {P : Program} {w : World} {K : PySem.W.Frag} {mg : Str → Option Value} {base : Heap}
/-! ### _law_pick -/
def spPick : Sp := fun vs H Q _ => ∃ (a : PA) (l : Addr) (n : Nat) (xs : List V), vs = [.ref a, .ref l] ∧ Pen H a n ∧ n < 2 ^ 40 ∧ H l = some (.lst xs) ∧ xs ≠ [] ∧ xs.length ≤ 1000 ∧
  ∀ x H', x ∈ xs → Pen H' a (n + 1) → Fr H H' → Q x H'
abbrev s_l_pick : Stmt := topS 35
abbrev N_l_pick : List Str := ["_law_pen_here", "_law_options"]
abbrev P_l_pick : List Str := ["_law_pen_here", "_law_options"]
theorem sc_l_pick : FnScope N_l_pick P_l_pick (defScope s_l_pick) := ⟨rfl, rfl, rfl, by decide +kernel, rfl, by decide +kernel, by decide +kernel⟩
theorem ok_l_pick (D : Df K mg "_law_pick" s_l_pick P_l_pick) (B : Bi mg) (c_l_draw : C8.Cal P w K mg base 1 "_law_draw" spDraw []) : C8.Cal P w K mg base 2 "_law_pick" spPick [] := by
  refine cal_of D sc_l_pick (fun vs H Q E h => ?_) (fun f cdv A outer s H vs Q E hr h => ?_)
  · obtain ⟨a, l, n, xs, rfl, _⟩ := h
    rfl
  · obtain ⟨a, l, n, xs, rfl, hP, hn, el, hx, hxl, q⟩ := h
    have hu := hu_of hr
    refine ⟨_, (pss_one (ps_ret (pe_ix (r := rIxL K) ix_list (pv 1) (C8.pe_c c_l_draw hr (by decide) (by rfl) (pa_cons (pv 0) (pa_cons (pe_callB (call_len_seq) (by rfl) B.len_ bt_len (pa_cons (pv 1) pa_nil)) pa_nil))) (fun _ _ => rfl)))), ?_⟩
    have hl : 0 < xs.length := List.length_pos_iff.mpr hx
    refine ⟨_, rfl, _, rfl, _, rfl, l, _, rfl, .inl (SqL.of el), a, n, _, rfl, hP, hn, by omega, Bd.small 20 (by omega) (by decide), fun d H' d0 d1 hP' f' => ?_⟩
    obtain ⟨j, rfl⟩ := Int.eq_ofNat_of_zero_le d0
    have hj : j < xs.length := by omega
    refine ⟨l, _, _, _, rfl, rfl, SqL.of (f'.l _ _ el), atI_nat (List.getElem?_eq_getElem hj), ?_⟩
    exact q _ _ (List.getElem_mem hj) hP' f'
end
end Lf
namespace Lf
open PySem PySem.Spec PyProof.Rows L2
theorem Bd.grow {k : Nat} {r d : Int} (h0 : 0 ≤ r) (h : Bd k r) (d0 : 0 ≤ d) (d1 : d < 10 ^ 6) : Bd (k + 20) (r * 10 ^ 6 + d) := by
  unfold Bd at *
  have e : (2 : Nat) ^ (k + 20) = 2 ^ k * 1048576 := by rw [Nat.pow_add]
  rw [e]
  generalize (2 : Nat) ^ k = m at h
  omega
/-- a rule, its numbers within k bits -/
structure RuleB (k : Nat) (p q c : Int) : Prop where
  p0 : 0 ≤ p
  q1 : 1 ≤ q
  g : Int.gcd p q = 1
  bp : Bd k p
  bq : Bd k q
  bc : Bd k c
theorem RuleB.mono {k j : Nat} {p q c : Int} (h : RuleB k p q c) (e : k ≤ j) : RuleB j p q c := ⟨h.p0, h.q1, h.g, h.bp.mono e, h.bq.mono e, h.bc.mono e⟩
theorem gcd_pos {p q : Int} (h : 1 ≤ q) : 0 < (Int.gcd p q : Int) := by
  have : 0 < Int.gcd p q := Int.gcd_pos_of_ne_zero_right _ (by omega)
  omega
theorem gcd_le {p q : Int} (h : 1 ≤ q) : (Int.gcd p q : Int) ≤ q := Int.le_of_dvd (by omega) (Int.gcd_dvd_right ..)
theorem low_rule {k : Nat} {p q c : Int} (h0 : 0 ≤ p) (h1 : 1 ≤ q) (bp : Bd k p) (bq : Bd k q) (bc : Bd k c) : RuleB k (p / (Int.gcd p q : Int)) (q / (Int.gcd p q : Int)) (c / (Int.gcd p q : Int)) := by
  have hg := gcd_pos (p := p) h1
  refine ⟨Int.ediv_nonneg h0 (by omega), ?_, ?_, bp.ediv hg, bq.ediv hg, bc.ediv hg⟩
  · exact Int.le_ediv_of_mul_le hg (by rw [Int.one_mul]; exact gcd_le h1)
  · have : 0 < Int.gcd p q := by omega
    exact Int.gcd_ediv_gcd_ediv_gcd this
/-- a new rule stands at r -/
abbrev tup3 (p q c : Int) : HO := .tup [.int p, .int q, .int c]
theorem low_rule' {k : Nat} {p q c : Int} (h0 : 0 ≤ p) (h1 : 1 ≤ q) (bp : Bd k p) (bq : Bd k q) (bc : Bd k c) : RuleB k (p / gg p q) (q / gg p q) (c / gg p q) := low_rule h0 h1 bp bq bc
theorem low_le {p q : Int} (h1 : 1 ≤ q) : q / (Int.gcd p q : Int) ≤ q := Int.ediv_le_self _ (by omega)
section
variable {P : Program} {w : World} {K : PySem.W.Frag} {mg : Str → Option Value} {base : Heap}
/-! ### _law_great -/
def spGreat : Sp := fun vs H Q _ => ∃ (a : PA) (n : Nat) (d : Int), vs = [.ref a, .int d] ∧ Pen H a n ∧ n < 2 ^ 39 ∧ 6 ≤ d ∧ d ≤ 1200 ∧
  ∀ g H', 0 ≤ g → Bd (20 * (d / 6).toNat) g → Pen H' a (n + 1 + (d / 6).toNat) → Fr H H' → Q (.int g) H'
abbrev s_l_great : Stmt := topS 36
abbrev N_l_great : List Str := ["_law_pen_here", "_law_digits", "_law_result", "_law_k"]
abbrev P_l_great : List Str := ["_law_pen_here", "_law_digits"]
theorem sc_l_great : FnScope N_l_great P_l_great (defScope s_l_great) := ⟨rfl, rfl, rfl, by decide +kernel, rfl, by decide +kernel, by decide +kernel⟩
theorem ok_l_great (D : Df K mg "_law_great" s_l_great P_l_great) (B : Bi mg) (c_l_draw : C8.Cal P w K mg base 1 "_law_draw" spDraw []) : C8.Cal P w K mg base 2 "_law_great" spGreat [] := by
  refine cal_of D sc_l_great (fun vs H Q E h => ?_) (fun f cdv A outer s H vs Q E hr h => ?_)
  · obtain ⟨a, n, d, rfl, _⟩ := h
    rfl
  · obtain ⟨a, n, d, rfl, hP, hn, h6, h12, q⟩ := h
    refine ⟨_, (pss_cons (ps_set (i := 2) sc_l_great.nd rfl (Or.inl rfl) pe_int)
    (pss_cons (ps_for PassesOwn.never rfl (pi_range1 rfl B.range_ (pa_cons (pe_op op_add pe_int (C8.pe_c c_l_draw hr (by decide) (by rfl) (pa_cons (pv 0) (pa_cons (pe_op op_fdiv (pv 1) pe_int) pa_nil)))) pa_nil)) (pg_name (i := 3) sc_l_great.nd rfl (Or.inl rfl))
      (pss_one (ps_set (i := 2) sc_l_great.nd rfl (Or.inl rfl) (pe_op op_add (pe_op op_mul (pv 2) (pe_op op_pow pe_int pe_int)) (C8.pe_c c_l_draw hr (by decide) (by rfl) (pa_cons (pv 0) (pa_cons (pe_op op_pow pe_int pe_int) pa_nil)))))))
    (pss_one (ps_ret (pv 2))))), ?_⟩
    refine ⟨_, rfl, _, rfl, _, _, rfl, rfl, ⟨by decide, by decide⟩, a, n, _, rfl, hP, by omega, by omega, Bd.small 20 (by omega) (by decide), fun dd H1 d0 d1 hP1 f1 => ?_⟩
    refine ⟨_, _, rfl, rfl, _, rfl, by omega, by omega, ?_⟩
    refine for_range (lo := 0) (n := (1 + dd).toNat) (fun i σ H2 => ∃ (r : Int) (y : Option V), σ = [some (.ref a), some (.int d), some (.int r), y] ∧ 0 ≤ r ∧ Bd (20 * i) r ∧ Pen H2 a (n + 1 + i) ∧ Fr H H2) ?_ ?_ ?_
    · exact ⟨0, none, rfl, by omega, by show (0 : Int).natAbs < 2 ^ 0; decide, hP1, f1⟩
    · rintro i σ H2 hi ⟨r, y, rfl, r0, rb, hP2, f2⟩
      refine ⟨_, rfl, _, _, rfl, rfl, ⟨by decide, by decide, by decide⟩, _, _, rfl, rfl, .inr ⟨by decide, by decide⟩, _, rfl, _, _, rfl, rfl, ⟨by decide, by decide, by decide⟩, a, _, _, rfl, hP2, by omega, by decide, Bd.small 20 (by decide) (by decide), fun e H3 e0 e1 hP3 f3 => ?_⟩
      refine ⟨_, _, rfl, rfl, ?_⟩
      refine ⟨_, _, rfl, ?_, ?_, hP3, f2.trans f3⟩
      · have : (0 : Int) ≤ 10 ^ (6 : Int).toNat := by decide
        have := Int.mul_nonneg r0 this
        omega
      · exact Bd.grow r0 rb e0 e1
    · rintro σ H2 ⟨r, y, rfl, r0, rb, hP2, f2⟩
      have h3 : (1 + dd).toNat ≤ (d / 6).toNat := by omega
      refine ⟨_, rfl, ?_⟩
      exact q _ _ r0 (rb.mono (by omega)) (hP2.mono (by omega)) f2
/-! ### _law_signed -/
def spSigned : Sp := fun vs H Q _ => ∃ (a : PA) (n : Nat) (d : Int), vs = [.ref a, .int d] ∧ Pen H a n ∧ n < 2 ^ 38 ∧ 6 ≤ d ∧ d ≤ 1200 ∧
  ∀ g H', Bd (20 * (d / 6).toNat) g → Pen H' a (n + 5 + (d / 6).toNat) → Fr H H' → Q (.int g) H'
abbrev s_l_signed : Stmt := topS 37
abbrev N_l_signed : List Str := ["_law_pen_here", "_law_digits"]
abbrev P_l_signed : List Str := ["_law_pen_here", "_law_digits"]
theorem sc_l_signed : FnScope N_l_signed P_l_signed (defScope s_l_signed) := ⟨rfl, rfl, rfl, by decide +kernel, rfl, by decide +kernel, by decide +kernel⟩
theorem ok_l_signed (D : Df K mg "_law_signed" s_l_signed P_l_signed) (B : Bi mg) (c_l_draw : C8.Cal P w K mg base 1 "_law_draw" spDraw []) (c_l_pick : C8.Cal P w K mg base 2 "_law_pick" spPick []) (c_l_great : C8.Cal P w K mg base 2 "_law_great" spGreat []) : C8.Cal P w K mg base 3 "_law_signed" spSigned [] := by
  refine cal_of D sc_l_signed (fun vs H Q E h => ?_) (fun f cdv A outer s H vs Q E hr h => ?_)
  · obtain ⟨a, n, d, rfl, _⟩ := h
    rfl
  · obtain ⟨a, n, d, rfl, hP, hn, h6, h12, q⟩ := h
    refine ⟨_, (pss_one (ps_ret (pe_op op_mul (C8.pe_c c_l_pick hr (by decide) (by rfl) (pa_cons (pv 0) (pa_cons (pe_lst (pa_cons pe_int (pa_cons (pe_un un_neg pe_int) pa_nil))) pa_nil))) (C8.pe_c c_l_pick hr (by decide) (by rfl) (pa_cons (pv 0) (pa_cons (pe_lst (pa_cons (C8.pe_c c_l_draw hr (by decide) (by rfl) (pa_cons (pv 0) (pa_cons pe_int pa_nil))) (pa_cons (C8.pe_c c_l_draw hr (by decide) (by rfl) (pa_cons (pv 0) (pa_cons pe_int pa_nil))) (pa_cons (C8.pe_c c_l_great hr (by decide) (by rfl) (pa_cons (pv 0) (pa_cons (pv 1) pa_nil))) pa_nil)))) pa_nil)))))), ?_⟩
    refine ⟨_, rfl, 1, rfl, len10 (by simp), fun p np => ?_⟩
    refine ⟨a, p, n, _, rfl, hP.new np, by omega, upd_same, by simp, by simp, fun x H1 hx hP1 f1 => ?_⟩
    have f1' : Fr H H1 := (Fr.new np).trans f1
    refine ⟨_, rfl, _, rfl, a, _, _, rfl, hP1, by omega, by decide, Bd.small 20 (by decide) (by decide), fun d1 H2 d10 d11 hP2 f2 => ?_⟩
    refine ⟨_, rfl, a, _, _, rfl, hP2, by omega, by decide, Bd.small 20 (by decide) (by decide), fun d2 H3 d20 d21 hP3 f3 => ?_⟩
    refine ⟨_, rfl, _, rfl, a, _, _, rfl, hP3, by omega, h6, h12, fun g H4 g0 gb hP4 f4 => ?_⟩
    refine ⟨len10 (by simp), fun p2 np2 => ?_⟩
    refine ⟨a, p2, _, _, rfl, hP4.new np2, by omega, upd_same, by simp, by simp, fun y H5 hy hP5 f5 => ?_⟩
    have hk : 20 ≤ 20 * (d / 6).toNat := by omega
    obtain ⟨v, rfl, bv⟩ : ∃ v, y = V.int v ∧ Bd (20 * (d / 6).toNat) v := by
      simp only [List.mem_cons, List.not_mem_nil, or_false] at hy
      rcases hy with rfl | rfl | rfl
      · exact ⟨_, rfl, Bd.small 20 (by omega) hk⟩
      · exact ⟨_, rfl, Bd.small 20 (by omega) hk⟩
      · exact ⟨_, rfl, gb⟩
    have hPF : Pen H5 a (n + 5 + (d / 6).toNat) := hP5.mono (by omega)
    have fF : Fr H H5 := f1'.trans (f2.trans (f3.trans (f4.trans ((Fr.new np2).trans f5))))
    simp only [List.mem_cons, List.not_mem_nil, or_false] at hx
    rcases hx with rfl | rfl
    · refine ⟨_, _, rfl, rfl, .inl ⟨by decide, by decide⟩, ?_⟩
      show Q (V.int (1 * v)) H5
      rw [Int.one_mul]
      exact q _ _ bv hPF fF
    · refine ⟨_, _, rfl, rfl, .inl ⟨by decide, by decide⟩, ?_⟩
      show Q (V.int (-1 * v)) H5
      rw [Int.neg_mul, Int.one_mul]
      exact q _ _ bv.neg hPF fF
/-! ### _law_gcd, _law_lowest -/
def spGcd : Sp := fun vs H Q _ => ∃ (x y : Int), vs = [.int x, .int y] ∧ 0 ≤ x ∧ 0 ≤ y ∧ Q (.int (Int.gcd x y : Int)) H
def mu1 : L2.St → Hp → Nat := fun σ _ => match σ with
  | _ :: some (.int v) :: _ => v.toNat
  | _ => 0
abbrev s_l_gcd : Stmt := topS 38
abbrev N_l_gcd : List Str := ["_law_one", "_law_other"]
abbrev P_l_gcd : List Str := ["_law_one", "_law_other"]
theorem sc_l_gcd : FnScope N_l_gcd P_l_gcd (defScope s_l_gcd) := ⟨rfl, rfl, rfl, by decide +kernel, rfl, by decide +kernel, by decide +kernel⟩
theorem ok_l_gcd (D : Df K mg "_law_gcd" s_l_gcd P_l_gcd) : C8.Cal P w K mg base 1 "_law_gcd" spGcd [] := by
  refine cal_of D sc_l_gcd (fun vs H Q E h => ?_) (fun f cdv A outer s H vs Q E hr h => ?_)
  · obtain ⟨x, y, rfl, _⟩ := h
    rfl
  · obtain ⟨x, y, rfl, hx, hy, q⟩ := h
    refine ⟨_, (pss_cons (ps_while PassesOwn.never (pt_cmpR op_gt (pv 1) pe_int (nomark _))
      (pss_one (ps_par (i := 0) (j := 1) rfl sc_l_gcd.nd rfl rfl (by decide) rfl rfl (pa_cons (pv 1) (pa_cons (pe_op op_mod (pv 0) (pv 1)) pa_nil)) rfl)))
    (pss_one (ps_ret (pv 0)))), ?_⟩
    refine while_by (fun σ H' => ∃ u v : Int, σ = [some (.int u), some (.int v)] ∧ 0 ≤ u ∧ 0 ≤ v ∧ Int.gcd u v = Int.gcd x y ∧ H' = H) mu1 ⟨x, y, rfl, hx, hy, rfl, rfl⟩ ?_ ?_
    · rintro σ H' ⟨u, v, rfl, hu, hv, e, rfl⟩
      refine ⟨_, rfl, _, _, rfl, rfl, _, rfl, ite2 (fun c => ?_) (fun c => ?_)⟩
      · have hv0 : 0 < v := of_decide_eq_true c
        refine ⟨_, rfl, _, rfl, _, rfl, _, _, rfl, rfl, hv0, _, _, rfl, ⟨v, u % v, rfl, hv, Int.emod_nonneg _ (by omega), ?_, rfl⟩, ?_⟩
        · rw [gcd_turn u v hu hv0]; exact e
        · show (u % v).toNat < v.toNat
          have := Int.emod_lt_of_pos u hv0
          omega
      · have hv0 : v = 0 := by
          have : ¬ 0 < v := fun z => c (decide_eq_true z)
          omega
        subst hv0
        refine ⟨_, rfl, ?_⟩
        have e2 : (Int.gcd x y : Int) = u := by
          rw [← e, Int.gcd_zero_right]
          omega
        rw [← e2]
        exact q
    · rintro σ H' Q1 Q2 hQ ⟨v, h1, i, j, h2, h3, b, h4, h5⟩
      exact ⟨v, h1, i, j, h2, h3, b, h4, hQ _ _ h5⟩
def spLowest : Sp := fun vs H Q _ => ∃ (p q c : Int), vs = [.int p, .int q, .int c] ∧ 0 ≤ p ∧ 1 ≤ q ∧ Bd 9000 q ∧
  ∀ r H', Same H H' → H' r = some (.tup [.int (p / (Int.gcd p q : Int)), .int (q / (Int.gcd p q : Int)), .int (c / (Int.gcd p q : Int))]) → Q (.ref r) H'
abbrev s_l_lowest : Stmt := topS 39
abbrev N_l_lowest : List Str := ["_law_p", "_law_q", "_law_c", "_law_both"]
abbrev P_l_lowest : List Str := ["_law_p", "_law_q", "_law_c"]
theorem sc_l_lowest : FnScope N_l_lowest P_l_lowest (defScope s_l_lowest) := ⟨rfl, rfl, rfl, by decide +kernel, rfl, by decide +kernel, by decide +kernel⟩
theorem ok_l_lowest (D : Df K mg "_law_lowest" s_l_lowest P_l_lowest) (c_l_gcd : C8.Cal P w K mg base 1 "_law_gcd" spGcd []) : C8.Cal P w K mg base 2 "_law_lowest" spLowest [] := by
  refine cal_of D sc_l_lowest (fun vs H Q E h => ?_) (fun f cdv A outer s H vs Q E hr h => ?_)
  · obtain ⟨p, q, c, rfl, _⟩ := h
    rfl
  · obtain ⟨p, q, c, rfl, hp, hq, hb, k⟩ := h
    refine ⟨_, (pss_cons (ps_set (i := 3) sc_l_lowest.nd rfl (Or.inl rfl) (C8.pe_c c_l_gcd hr (by decide) (by rfl) (pa_cons (pv 0) (pa_cons (pv 1) pa_nil))))
    (pss_one (ps_ret (pe_tup (pa_cons (pe_op op_fdivW (pv 0) (pv 3)) (pa_cons (pe_op op_fdivW (pv 1) (pv 3)) (pa_cons (pe_op op_fdivW (pv 2) (pv 3)) pa_nil))))))), ?_⟩
    have hg := gcd_pos (p := p) hq
    have hd : CDivW 0 (Int.gcd p q : Int) := ⟨hg, (hb.between (by omega) (gcd_le hq)).log (by decide)⟩
    refine ⟨_, rfl, _, rfl, p, q, rfl, hp, by omega, ?_⟩
    refine ⟨_, rfl, _, rfl, _, _, rfl, rfl, hd, _, rfl, _, rfl, _, _, rfl, rfl, hd, _, rfl, _, rfl, _, _, rfl, rfl, hd, len10 (by simp), fun r nr => ?_⟩
    exact k r _ (sm_upd nr) upd_same
/-! ### _law_rule, _law_far_rule -/
def spRule : Sp := fun vs H Q _ => ∃ (a : PA) (n : Nat) (m : Int), vs = [.ref a, .int m] ∧ Pen H a n ∧ n < 2 ^ 38 ∧ 1 ≤ m ∧ m ≤ 1048576 ∧
  ∀ r p q c H', RuleB 24 p q c → q ≤ m → p ≤ 3 * m → H' r = some (.tup [.int p, .int q, .int c]) → Pen H' a (n + 8) → Fr H H' → Q (.ref r) H'
abbrev s_l_rule : Stmt := topS 40
abbrev N_l_rule : List Str := ["_law_pen_here", "_law_most", "_law_q", "_law_p"]
abbrev P_l_rule : List Str := ["_law_pen_here", "_law_most"]
theorem sc_l_rule : FnScope N_l_rule P_l_rule (defScope s_l_rule) := ⟨rfl, rfl, rfl, by decide +kernel, rfl, by decide +kernel, by decide +kernel⟩
theorem ok_l_rule (D : Df K mg "_law_rule" s_l_rule P_l_rule) (B : Bi mg) (c_l_draw : C8.Cal P w K mg base 1 "_law_draw" spDraw []) (c_l_pick : C8.Cal P w K mg base 2 "_law_pick" spPick []) (c_l_lowest : C8.Cal P w K mg base 2 "_law_lowest" spLowest []) : C8.Cal P w K mg base 3 "_law_rule" spRule [] := by
  refine cal_of D sc_l_rule (fun vs H Q E h => ?_) (fun f cdv A outer s H vs Q E hr h => ?_)
  · obtain ⟨a, n, d, rfl, _⟩ := h
    rfl
  · obtain ⟨a, n, m, rfl, hP, hn, hm1, hm2, k⟩ := h
    refine ⟨_, (pss_cons (ps_set (i := 2) sc_l_rule.nd rfl (Or.inl rfl) (pe_op op_add pe_int (C8.pe_c c_l_draw hr (by decide) (by rfl) (pa_cons (pv 0) (pa_cons (pv 1) pa_nil)))))
    (pss_cons (ps_set (i := 3) sc_l_rule.nd rfl (Or.inl rfl) (C8.pe_c c_l_pick hr (by decide) (by rfl) (pa_cons (pv 0) (pa_cons (pe_lst (pa_cons pe_int (pa_cons pe_int (pa_cons (C8.pe_c c_l_draw hr (by decide) (by rfl) (pa_cons (pv 0) (pa_cons (pe_op op_add (pv 2) pe_int) pa_nil))) (pa_cons (C8.pe_c c_l_draw hr (by decide) (by rfl) (pa_cons (pv 0) (pa_cons (pe_op op_add (pv 2) pe_int) pa_nil))) (pa_cons (C8.pe_c c_l_draw hr (by decide) (by rfl) (pa_cons (pv 0) (pa_cons (pe_op op_mul pe_int (pv 2)) pa_nil))) (pa_cons (pe_op op_add (pv 2) pe_int) pa_nil))))))) pa_nil))))
    (pss_one (ps_ret (C8.pe_c c_l_lowest hr (by decide) (by rfl) (pa_cons (pv 3) (pa_cons (pv 2) (pa_cons (C8.pe_c c_l_pick hr (by decide) (by rfl) (pa_cons (pv 0) (pa_cons (pe_lst (pa_cons pe_int (pa_cons (C8.pe_c c_l_draw hr (by decide) (by rfl) (pa_cons (pv 0) (pa_cons (pv 2) pa_nil))) (pa_cons (pe_op op_sub (C8.pe_c c_l_draw hr (by decide) (by rfl) (pa_cons (pv 0) (pa_cons (pe_op op_mul pe_int (pv 2)) pa_nil))) (pe_op op_mul pe_int (pv 2))) pa_nil)))) pa_nil))) pa_nil)))))))), ?_⟩
    refine ⟨_, rfl, _, rfl, a, n, _, rfl, hP, by omega, by omega, Bd.small 21 (by omega) (by decide), fun d H1 d0 d1 hP1 f1 => ?_⟩
    refine ⟨_, _, rfl, rfl, ?_⟩
    -- p
    refine ⟨_, rfl, _, rfl, _, rfl, _, _, rfl, rfl, a, _, _, rfl, hP1, by omega, by omega, Bd.small 22 (by omega) (by decide), fun p1 H2 p10 p11 hP2 f2 => ?_⟩
    refine ⟨_, rfl, _, rfl, _, _, rfl, rfl, a, _, _, rfl, hP2, by omega, by omega, Bd.small 22 (by omega) (by decide), fun p2 H3 p20 p21 hP3 f3 => ?_⟩
    refine ⟨_, rfl, _, rfl, _, _, rfl, rfl, .inl ⟨by decide, by decide⟩, a, _, _, rfl, hP3, by omega, by omega, Bd.small 24 (by omega) (by decide), fun p3 H4 p30 p31 hP4 f4 => ?_⟩
    refine ⟨_, rfl, _, _, rfl, rfl, len10 (by simp), fun l nl => ?_⟩
    refine ⟨a, l, _, _, rfl, hP4.new nl, by omega, upd_same, by simp, by simp, fun x H5 hx hP5 f5 => ?_⟩
    obtain ⟨p, rfl, hp0, hp3⟩ : ∃ p, x = V.int p ∧ 0 ≤ p ∧ p ≤ 3 * m := by
      simp only [List.mem_cons, List.not_mem_nil, or_false] at hx
      rcases hx with rfl | rfl | rfl | rfl | rfl | rfl <;> exact ⟨_, rfl, by omega, by omega⟩
    -- c
    refine ⟨_, rfl, _, rfl, _, rfl, _, rfl, _, rfl, a, _, _, rfl, hP5, by omega, by omega, Bd.small 22 (by omega) (by decide), fun c1 H6 c10 c11 hP6 f6 => ?_⟩
    refine ⟨_, rfl, _, rfl, _, _, rfl, rfl, .inl ⟨by decide, by decide⟩, a, _, _, rfl, hP6, by omega, by omega, Bd.small 24 (by omega) (by decide), fun c2 H7 c20 c21 hP7 f7 => ?_⟩
    refine ⟨_, rfl, _, _, rfl, rfl, .inl ⟨by decide, by decide⟩, _, _, rfl, rfl, len10 (by simp), fun l2 nl2 => ?_⟩
    refine ⟨a, l2, _, _, rfl, hP7.new nl2, by omega, upd_same, by simp, by simp, fun y H8 hy hP8 f8 => ?_⟩
    obtain ⟨c, rfl, bc⟩ : ∃ c, y = V.int c ∧ Bd 24 c := by
      simp only [List.mem_cons, List.not_mem_nil, or_false] at hy
      rcases hy with rfl | rfl | rfl
      · exact ⟨_, rfl, Bd.small 22 (by decide) (by decide)⟩
      · exact ⟨_, rfl, Bd.small 22 (by omega) (by decide)⟩
      · exact ⟨_, rfl, Bd.small 24 (by omega) (by decide)⟩
    refine ⟨p, 1 + d, c, rfl, hp0, by omega, Bd.small 22 (by omega) (by decide), fun r H9 s9 er => ?_⟩
    have hq1 : (1 : Int) ≤ 1 + d := by omega
    have R := low_rule (k := 24) (c := c) hp0 hq1 (Bd.small 24 (by omega) (by decide)) (Bd.small 24 (by omega) (by decide)) bc
    refine k r _ _ _ H9 R ?_ ?_ er ((hP8.same s9).mono (by omega)) ?_
    · have := low_le (p := p) hq1
      omega
    · have := Int.ediv_le_self (Int.gcd p (1 + d) : Int) hp0
      omega
    · exact f1.trans (f2.trans (f3.trans (f4.trans ((Fr.new nl).trans (f5.trans (f6.trans (f7.trans ((Fr.new nl2).trans (f8.trans (Fr.same s9))))))))))
end
end Lf
namespace Lf
open PySem PySem.Spec PyProof.Rows L2
section
variable {P : Program} {w : World} {K : PySem.W.Frag} {mg : Str → Option Value} {base : Heap}
def spFar : Sp := fun vs H Q _ => ∃ (a : PA) (n : Nat) (d : Int), vs = [.ref a, .int d] ∧ Pen H a n ∧ n < 2 ^ 37 ∧ 6 ≤ d ∧ d ≤ 1200 ∧
  ∀ r p q c H', RuleB (20 * (d / 6).toNat + 2) p q c → H' r = some (.tup [.int p, .int q, .int c]) → Pen H' a (n + 9 + 4 * (d / 6).toNat) → Fr H H' → Q (.ref r) H'
abbrev s_l_far_rule : Stmt := topS 41
abbrev N_l_far_rule : List Str := ["_law_pen_here", "_law_digits", "_law_q", "_law_p"]
abbrev P_l_far_rule : List Str := ["_law_pen_here", "_law_digits"]
theorem sc_l_far_rule : FnScope N_l_far_rule P_l_far_rule (defScope s_l_far_rule) := ⟨rfl, rfl, rfl, by decide +kernel, rfl, by decide +kernel, by decide +kernel⟩
theorem ok_l_far_rule (D : Df K mg "_law_far_rule" s_l_far_rule P_l_far_rule) (B : Bi mg) (c_l_pick : C8.Cal P w K mg base 2 "_law_pick" spPick []) (c_l_great : C8.Cal P w K mg base 2 "_law_great" spGreat []) (c_l_signed : C8.Cal P w K mg base 3 "_law_signed" spSigned []) (c_l_lowest : C8.Cal P w K mg base 2 "_law_lowest" spLowest []) : C8.Cal P w K mg base 4 "_law_far_rule" spFar [] := by
  refine cal_of D sc_l_far_rule (fun vs H Q E h => ?_) (fun f cdv A outer s H vs Q E hr h => ?_)
  · obtain ⟨a, n, d, rfl, _⟩ := h
    rfl
  · obtain ⟨a, n, d, rfl, hP, hn, h6, h12, k⟩ := h
    refine ⟨_, (pss_cons (ps_set (i := 2) sc_l_far_rule.nd rfl (Or.inl rfl) (pe_op op_add pe_int (C8.pe_c c_l_great hr (by decide) (by rfl) (pa_cons (pv 0) (pa_cons (pv 1) pa_nil)))))
    (pss_cons (ps_set (i := 3) sc_l_far_rule.nd rfl (Or.inl rfl) (C8.pe_c c_l_pick hr (by decide) (by rfl) (pa_cons (pv 0) (pa_cons (pe_lst (pa_cons (C8.pe_c c_l_great hr (by decide) (by rfl) (pa_cons (pv 0) (pa_cons (pv 1) pa_nil))) (pa_cons (pe_op op_mod (C8.pe_c c_l_great hr (by decide) (by rfl) (pa_cons (pv 0) (pa_cons (pv 1) pa_nil))) (pe_op op_add (pv 2) pe_int)) (pa_cons pe_int (pa_cons (pe_op op_add (pv 2) pe_int) (pa_cons pe_int pa_nil)))))) pa_nil))))
    (pss_one (ps_ret (C8.pe_c c_l_lowest hr (by decide) (by rfl) (pa_cons (pv 3) (pa_cons (pv 2) (pa_cons (C8.pe_c c_l_signed hr (by decide) (by rfl) (pa_cons (pv 0) (pa_cons (pv 1) pa_nil))) pa_nil)))))))), ?_⟩
    refine ⟨_, rfl, _, rfl, a, n, d, rfl, hP, by omega, h6, h12, fun g H1 g0 gb hP1 f1 => ?_⟩
    refine ⟨_, _, rfl, rfl, ?_⟩
    refine ⟨_, rfl, _, rfl, _, rfl, a, _, d, rfl, hP1, by omega, h6, h12, fun g1 H2 g10 gb1 hP2 f2 => ?_⟩
    refine ⟨_, rfl, _, rfl, a, _, d, rfl, hP2, by omega, h6, h12, fun g2 H3 g20 gb2 hP3 f3 => ?_⟩
    refine ⟨_, rfl, _, _, rfl, rfl, _, _, rfl, rfl, (by show (0 : Int) < 1 + g + 1; omega), ?_⟩
    refine ⟨_, rfl, _, _, rfl, rfl, len10 (by simp), fun l nl => ?_⟩
    refine ⟨a, l, _, _, rfl, hP3.new nl, by omega, upd_same, by simp, by simp, fun x H4 hx hP4 f4 => ?_⟩
    have one : ∀ j : Nat, Bd (j + 1) 1 := fun j => Bd.small 1 (by decide) (by omega)
    have bq : Bd (20 * (d / 6).toNat + 1) (1 + g) := Bd.add (Bd.small 1 (by decide) (by omega)) gb
    have bq1 : Bd (20 * (d / 6).toNat + 2) (1 + g + 1) := Bd.add bq (Bd.small 1 (by decide) (by omega))
    obtain ⟨p, rfl, hp0, bp⟩ : ∃ p, x = V.int p ∧ 0 ≤ p ∧ Bd (20 * (d / 6).toNat + 2) p := by
      simp only [List.mem_cons, List.not_mem_nil, or_false] at hx
      rcases hx with rfl | rfl | rfl | rfl | rfl
      · exact ⟨_, rfl, g10, gb1.mono (by omega)⟩
      · exact ⟨_, rfl, Int.emod_nonneg _ (by omega), bq1.emod (by omega)⟩
      · exact ⟨_, rfl, by omega, Bd.small 1 (by decide) (by omega)⟩
      · exact ⟨_, rfl, by omega, bq1⟩
      · exact ⟨_, rfl, by omega, Bd.small 1 (by decide) (by omega)⟩
    refine ⟨_, rfl, _, rfl, _, rfl, _, rfl, a, _, d, rfl, hP4, by omega, h6, h12, fun c H5 cb hP5 f5 => ?_⟩
    refine ⟨p, 1 + g, c, rfl, hp0, by omega, bq.mono (by omega), fun r H9 s9 er => ?_⟩
    have hq1 : (1 : Int) ≤ 1 + g := by omega
    have R := low_rule (k := 20 * (d / 6).toNat + 2) hp0 hq1 bp (bq.mono (by omega)) (cb.mono (by omega))
    exact k r _ _ _ H9 R er ((hP5.same s9).mono (by omega)) (f1.trans (f2.trans (f3.trans ((Fr.new nl).trans (f4.trans (f5.trans (Fr.same s9)))))))
end
end Lf
namespace Lf
/-! ### the least multiple in an arc -/
def dvu (x s : Int) : Int := -(-x / s)
theorem dvu_le {x s n : Int} (hs : 0 < s) : dvu x s ≤ n ↔ x ≤ s * n := by
  unfold dvu
  have := Int.le_ediv_iff_mul_le (a := -n) (b := -x) hs
  rw [Int.neg_mul, Int.mul_comm n s] at this
  omega
theorem dvu_ge {x s : Int} (hs : 0 < s) : x ≤ s * dvu x s := (dvu_le hs).mp (Int.le_refl _)
theorem dvu_lt {x s : Int} (hs : 0 < s) : s * dvu x s < x + s := by
  have h : ¬ dvu x s ≤ dvu x s - 1 := by omega
  rw [dvu_le hs, Int.mul_sub, Int.mul_one] at h
  omega
def HitM (s m lo hi n : Int) : Prop := lo ≤ s * n % m ∧ s * n % m ≤ hi
def Lst (P : Int → Prop) (n : Int) : Prop := 0 ≤ n ∧ P n ∧ ∀ k, 0 ≤ k → k < n → ¬ P k
def NoM (P : Int → Prop) : Prop := ∀ n, 0 ≤ n → ¬ P n
theorem mod_of {x m r k : Int} (h0 : 0 ≤ r) (h1 : r < m) (e : x = r + m * k) : x % m = r := by
  rw [e, Int.add_mul_emod_self_left]
  exact Int.emod_eq_of_lt h0 h1
theorem hit_flip {s m lo hi n : Int} (h0 : 0 < lo) (h1 : lo ≤ hi) (h2 : hi < m) : HitM (m - s) m (m - hi) (m - lo) n ↔ HitM s m lo hi n := by
  have hm : 0 < m := by omega
  have e := Int.emod_add_mul_ediv (s * n) m
  have r0 := Int.emod_nonneg (s * n) (show m ≠ 0 by omega)
  have r1 := Int.emod_lt_of_pos (s * n) hm
  unfold HitM
  by_cases hz : s * n % m = 0
  · have : (m - s) * n % m = 0 := mod_of (k := n - s * n / m) (by omega) hm (by rw [Int.sub_mul, Int.mul_sub]; omega)
    rw [this, hz]
    omega
  · have : (m - s) * n % m = m - s * n % m := mod_of (k := n - s * n / m - 1) (by omega) (by omega) (by rw [Int.sub_mul, Int.mul_sub, Int.mul_sub]; omega)
    rw [this]
    omega
theorem lst_iff {P Q : Int → Prop} (h : ∀ n, P n ↔ Q n) (n : Int) : Lst P n ↔ Lst Q n := by
  unfold Lst
  rw [h n]
  constructor
  · rintro ⟨a, b, c⟩
    exact ⟨a, b, fun k h0 h1 z => c k h0 h1 ((h k).mpr z)⟩
  · rintro ⟨a, b, c⟩
    exact ⟨a, b, fun k h0 h1 z => c k h0 h1 ((h k).mp z)⟩
theorem lst_lt {s m lo hi n : Int} (hm : 0 < m) (h : Lst (HitM s m lo hi) n) : n < m := by
  obtain ⟨h0, h1, h2⟩ := h
  rcases Int.lt_or_le n m with z | z
  · exact z
  · refine absurd ?_ (h2 (n - m) (by omega) (by omega))
    unfold HitM at *
    rw [show s * (n - m) = s * n + m * (-s) by rw [Int.mul_sub, Int.mul_neg, Int.mul_comm m s]; omega, Int.add_mul_emod_self_left]
    exact h1
theorem hit_base {s m lo hi : Int} (hs : 0 < s) (h0 : 0 < lo) (h2 : hi < m) (h : s * dvu lo s ≤ hi) : Lst (HitM s m lo hi) (dvu lo s) := by
  have g := dvu_ge (x := lo) hs
  have pos : 0 ≤ dvu lo s := by
    rcases Int.lt_or_le (dvu lo s) 0 with z | z
    · have := Int.mul_le_mul_of_nonneg_left (show dvu lo s ≤ 0 by omega) (Int.le_of_lt hs)
      rw [Int.mul_zero] at this
      omega
    · exact z
  refine ⟨pos, ?_, fun k k0 k1 => ?_⟩
  · unfold HitM
    rw [Int.emod_eq_of_lt (by omega) (by omega)]
    omega
  · have : ¬ lo ≤ s * k := fun z => by
      have := (dvu_le hs).mpr z
      omega
    have p := Int.mul_nonneg (Int.le_of_lt hs) k0
    unfold HitM
    rw [Int.emod_eq_of_lt (by omega) (by omega)]
    omega
/-- the facts of one step down -/
theorem down_facts {s lo hi : Int} (hs : 0 < s) (h1 : lo ≤ hi) (h : hi < s * dvu lo s) : 0 < lo % s ∧ hi / s = lo / s ∧ lo % s ≤ hi % s := by
  have l := dvu_lt (x := lo) hs
  have g := dvu_ge (x := lo) hs
  have el := Int.emod_add_mul_ediv lo s
  have eh := Int.emod_add_mul_ediv hi s
  have l0 := Int.emod_nonneg lo (show s ≠ 0 by omega)
  have l1 := Int.emod_lt_of_pos lo hs
  have hq0 := Int.emod_nonneg hi (show s ≠ 0 by omega)
  have hq1 := Int.emod_lt_of_pos hi hs
  generalize dvu lo s = d at *
  have hd : lo / s = d - 1 := by
    have a1 : s * (lo / s) < s * d := by omega
    have a2 := Int.lt_of_mul_lt_mul_left a1 (Int.le_of_lt hs)
    have a3 : s * (d - 1) < s * (lo / s + 1) := by rw [Int.mul_sub, Int.mul_add]; omega
    have a4 := Int.lt_of_mul_lt_mul_left a3 (Int.le_of_lt hs)
    omega
  have hh : hi / s = d - 1 := by
    have a1 : s * (hi / s) < s * d := by omega
    have a2 := Int.lt_of_mul_lt_mul_left a1 (Int.le_of_lt hs)
    have a3 : s * (d - 1) < s * (hi / s + 1) := by rw [Int.mul_sub, Int.mul_add]; omega
    have a4 := Int.lt_of_mul_lt_mul_left a3 (Int.le_of_lt hs)
    omega
  rw [hd, Int.mul_sub] at el
  rw [hh, Int.mul_sub] at eh
  omega
theorem down_iff {s m lo hi k : Int} (hs : 0 < s) (h1 : lo ≤ hi) (h : hi < s * dvu lo s) :
    HitM (-m % s) s (lo % s) (hi % s) k ↔ (lo ≤ s * dvu (lo + m * k) s - m * k ∧ s * dvu (lo + m * k) s - m * k ≤ hi) := by
  obtain ⟨d1, d2, d3⟩ := down_facts hs h1 h
  have el := Int.emod_add_mul_ediv lo s
  have eh := Int.emod_add_mul_ediv hi s
  have hq1 := Int.emod_lt_of_pos hi hs
  have g := dvu_ge (x := lo + m * k) hs
  have l := dvu_lt (x := lo + m * k) hs
  have em : -m % s * k % s = (s * dvu (lo + m * k) s - m * k) % s := by
    have e1 := Int.emod_add_mul_ediv (-m) s
    rw [show s * dvu (lo + m * k) s - m * k = -m % s * k + s * (dvu (lo + m * k) s + -m / s * k) by
      have : (-m % s + s * (-m / s)) * k = -m * k := by rw [e1]
      rw [Int.add_mul, Int.neg_mul] at this
      rw [Int.mul_add, ← Int.mul_assoc]
      omega, Int.add_mul_emod_self_left]
  unfold HitM
  rw [em]
  have hx0 : lo ≤ s * dvu (lo + m * k) s - m * k := by omega
  have hx1 : s * dvu (lo + m * k) s - m * k < lo + s := by omega
  clear em g l
  generalize s * dvu (lo + m * k) s - m * k = x at hx0 hx1 ⊢
  have ex := Int.emod_add_mul_ediv x s
  have r0 := Int.emod_nonneg x (show s ≠ 0 by omega)
  have r1 := Int.emod_lt_of_pos x hs
  have hx : x / s = lo / s ∨ x / s = lo / s + 1 := by
    have a1 : s * (lo / s) < s * (x / s + 1) := by rw [Int.mul_add]; omega
    have a2 := Int.lt_of_mul_lt_mul_left a1 (Int.le_of_lt hs)
    have a3 : s * (x / s) < s * (lo / s + 2) := by rw [Int.mul_add]; omega
    have a4 := Int.lt_of_mul_lt_mul_left a3 (Int.le_of_lt hs)
    omega
  rcases hx with z | z
  · rw [z] at ex
    rw [d2] at eh
    omega
  · rw [z, Int.mul_add] at ex
    rw [d2] at eh
    omega
theorem down_hit {s m lo hi n : Int} (hs : 0 < s) (hm : 0 < m) (h0 : 0 < lo) (h1 : lo ≤ hi) (h : hi < s * dvu lo s) (n0 : 0 ≤ n) (hn : HitM s m lo hi n) :
    0 ≤ s * n / m ∧ HitM (-m % s) s (lo % s) (hi % s) (s * n / m) ∧ dvu (lo + m * (s * n / m)) s ≤ n := by
  have e := Int.emod_add_mul_ediv (s * n) m
  have hk : 0 ≤ s * n / m := Int.ediv_nonneg (Int.mul_nonneg (Int.le_of_lt hs) n0) (by omega)
  obtain ⟨a, b⟩ := hn
  have hle : dvu (lo + m * (s * n / m)) s ≤ n := (dvu_le hs).mpr (by omega)
  refine ⟨hk, (down_iff hs h1 h).mpr ?_, hle⟩
  have g := dvu_ge (x := lo + m * (s * n / m)) hs
  have := Int.mul_le_mul_of_nonneg_left hle (Int.le_of_lt hs)
  omega
theorem down_lst {s m lo hi k : Int} (hs : 0 < s) (hm : 0 < m) (h0 : 0 < lo) (h1 : lo ≤ hi) (h2 : hi < m) (h : hi < s * dvu lo s) (hk : Lst (HitM (-m % s) s (lo % s) (hi % s)) k) : Lst (HitM s m lo hi) (dvu (lo + m * k) s) := by
  obtain ⟨k0, k1, k2⟩ := hk
  have c := (down_iff hs h1 h).mp k1
  have g := dvu_ge (x := lo + m * k) hs
  have pmk := Int.mul_nonneg (Int.le_of_lt hm) k0
  have pos : 0 ≤ dvu (lo + m * k) s := by
    rcases Int.lt_or_le (dvu (lo + m * k) s) 0 with z | z
    · have := Int.mul_le_mul_of_nonneg_left (show dvu (lo + m * k) s ≤ 0 by omega) (Int.le_of_lt hs)
      rw [Int.mul_zero] at this
      omega
    · exact z
  refine ⟨pos, ?_, fun n n0 n1 hn => ?_⟩
  · unfold HitM
    rw [mod_of (x := s * dvu (lo + m * k) s) (r := s * dvu (lo + m * k) s - m * k) (k := k) (by omega) (by omega) (by omega)]
    exact c
  · obtain ⟨b0, b1, b2⟩ := down_hit hs hm h0 h1 h n0 hn
    have hkk : k ≤ s * n / m := by
      rcases Int.lt_or_le (s * n / m) k with z | z
      · exact absurd b1 (k2 _ b0 z)
      · exact z
    have hmk := Int.mul_le_mul_of_nonneg_left hkk (Int.le_of_lt hm)
    have : dvu (lo + m * k) s ≤ dvu (lo + m * (s * n / m)) s := by
      rw [dvu_le hs]
      have := dvu_ge (x := lo + m * (s * n / m)) hs
      omega
    omega
theorem down_none {s m lo hi : Int} (hs : 0 < s) (hm : 0 < m) (h0 : 0 < lo) (h1 : lo ≤ hi) (h : hi < s * dvu lo s) (hk : NoM (HitM (-m % s) s (lo % s) (hi % s))) : NoM (HitM s m lo hi) := fun n n0 hn => by
  obtain ⟨b0, b1, _⟩ := down_hit hs hm h0 h1 h n0 hn
  exact hk _ b0 b1
/-! ### the levels -/
def unw : List (Int × Int × Int) → Int → Int
  | [], n => n
  | (s, m, l) :: r, n => dvu (l + m * unw r n) s
theorem unw_snoc : ∀ (L : List (Int × Int × Int)) (s m l n : Int), unw (L ++ [(s, m, l)]) n = unw L (dvu (l + m * n) s)
  | [], _, _, _, _ => rfl
  | (s', m', l') :: r, s, m, l, n => by
    show dvu (l' + m' * unw (r ++ [(s, m, l)]) n) s' = dvu (l' + m' * unw r (dvu (l + m * n) s)) s'
    rw [unw_snoc r]
structure FM (s0 m0 lo0 hi0 : Int) (L : List (Int × Int × Int)) (s m lo hi : Int) : Prop where
  s0' : 0 ≤ s
  sm : s < m
  l0 : 0 < lo
  lh : lo ≤ hi
  hm : hi < m
  mm : m ≤ m0
  a : ∀ n, Lst (HitM s m lo hi) n → Lst (HitM s0 m0 lo0 hi0) (unw L n)
  b : NoM (HitM s m lo hi) → NoM (HitM s0 m0 lo0 hi0)
  c : ∀ L1 L2, L = L1 ++ L2 → ∀ n, Lst (HitM s m lo hi) n → 0 ≤ unw L2 n ∧ unw L2 n ≤ m0
  d : ∀ e ∈ L, 0 < e.1 ∧ e.1 ≤ m0 ∧ 0 ≤ e.2.1 ∧ e.2.1 ≤ m0 ∧ 0 ≤ e.2.2 ∧ e.2.2 ≤ m0
theorem FM.init {s m lo hi : Int} (h0 : 0 ≤ s) (h1 : s < m) (h2 : 0 < lo) (h3 : lo ≤ hi) (h4 : hi < m) : FM s m lo hi [] s m lo hi :=
  ⟨h0, h1, h2, h3, h4, Int.le_refl _, fun _ h => h, fun h => h, fun L1 L2 e n hn => by
    have : L2 = [] := (List.append_eq_nil_iff.mp e.symm).2
    subst this
    have := lst_lt (by omega) hn
    exact ⟨hn.1, by show n ≤ m; omega⟩, by simp⟩
theorem FM.flip {s0 m0 lo0 hi0 s m lo hi : Int} {L : List (Int × Int × Int)} (F : FM s0 m0 lo0 hi0 L s m lo hi) (h : 0 < s) : FM s0 m0 lo0 hi0 L (m - s) m (m - hi) (m - lo) := by
  have l0 := F.l0
  have lh := F.lh
  have hm := F.hm
  have sm := F.sm
  have fl : ∀ n, HitM (m - s) m (m - hi) (m - lo) n ↔ HitM s m lo hi n := fun n => hit_flip l0 lh hm
  exact ⟨by omega, by omega, by omega, by omega, by omega, F.mm, fun n hn => F.a n ((lst_iff fl n).mp hn), fun hn => F.b fun n n0 z => hn n n0 ((fl n).mpr z),
    fun L1 L2 e n hn => F.c L1 L2 e n ((lst_iff fl n).mp hn), F.d⟩
theorem FM.down {s0 m0 lo0 hi0 s m lo hi : Int} {L : List (Int × Int × Int)} (F : FM s0 m0 lo0 hi0 L s m lo hi) (hs : 0 < s) (h : hi < s * dvu lo s) : FM s0 m0 lo0 hi0 (L ++ [(s, m, lo)]) (-m % s) s (lo % s) (hi % s) := by
  have l0 := F.l0
  have lh := F.lh
  have hm := F.hm
  have sm := F.sm
  have mm := F.mm
  obtain ⟨d1, d2, d3⟩ := down_facts hs lh h
  refine ⟨Int.emod_nonneg _ (by omega), Int.emod_lt_of_pos _ hs, d1, d3, Int.emod_lt_of_pos _ hs, by omega, fun n hn => ?_, fun hn => F.b (down_none hs (by omega) l0 lh h hn), fun L1 L2 e n hn => ?_, fun e he => ?_⟩
  · rw [unw_snoc]
    exact F.a _ (down_lst hs (by omega) l0 lh hm h hn)
  · have hd := down_lst hs (by omega) l0 lh hm h hn
    rcases List.eq_nil_or_concat L2 with z | ⟨L3, x, z⟩
    · subst z
      have := lst_lt hs hn
      exact ⟨hn.1, by show n ≤ m0; omega⟩
    · have z2 : L2 = L3 ++ [x] := by simpa using z
      subst z2
      have e' : L ++ [(s, m, lo)] = (L1 ++ L3) ++ [x] := by rw [List.append_assoc]; exact e
      obtain ⟨e1, e2⟩ := List.append_inj' e' rfl
      have e3 : (s, m, lo) = x := by simpa using e2
      rw [← e3, unw_snoc]
      exact F.c L1 L3 e1 _ hd
  · rcases List.mem_append.mp he with z | z
    · exact F.d e z
    · rw [List.mem_singleton.mp z]
      exact ⟨hs, by show s ≤ m0; omega, by show 0 ≤ m; omega, mm, by show 0 ≤ lo; omega, by show lo ≤ m0; omega⟩
end Lf
namespace Lf
def HitP (pl s m lo hi n : Int) : Prop := lo ≤ (pl + s * n) % m ∧ (pl + s * n) % m ≤ hi
theorem hitp_zero {pl s m lo hi : Int} (h : lo ≤ pl % m ∧ pl % m ≤ hi) : Lst (HitP pl s m lo hi) 0 := by
  refine ⟨Int.le_refl _, ?_, fun k h0 h1 => by omega⟩
  unfold HitP
  rw [Int.mul_zero, Int.add_zero]
  exact h
theorem near_facts {pl m lo hi : Int} (h0 : 0 ≤ lo) (h1 : lo ≤ hi) (h2 : hi < m) (h : ¬ (lo ≤ pl % m ∧ pl % m ≤ hi)) :
    ((lo - pl) % m = lo - pl % m ∧ pl % m < lo) ∨ ((lo - pl) % m = lo - pl % m + m ∧ hi < pl % m) := by
  have hm : 0 < m := by omega
  have e := Int.emod_add_mul_ediv pl m
  have r0 := Int.emod_nonneg pl (show m ≠ 0 by omega)
  have r1 := Int.emod_lt_of_pos pl hm
  rcases Int.lt_or_le (pl % m) lo with z | z
  · exact .inl ⟨mod_of (k := -(pl / m)) (by omega) (by omega) (by rw [Int.mul_neg]; omega), z⟩
  · exact .inr ⟨mod_of (k := -(pl / m) - 1) (by omega) (by omega) (by rw [Int.mul_sub, Int.mul_neg]; omega), by omega⟩
theorem hitp_iff {pl s m lo hi n : Int} (h0 : 0 ≤ lo) (h1 : lo ≤ hi) (h2 : hi < m) (h : ¬ (lo ≤ pl % m ∧ pl % m ≤ hi)) :
    HitP pl s m lo hi n ↔ HitM (s % m) m ((lo - pl) % m) ((lo - pl) % m + hi - lo) n := by
  have hm : 0 < m := by omega
  have e := Int.emod_add_mul_ediv pl m
  have r0 := Int.emod_nonneg pl (show m ≠ 0 by omega)
  have r1 := Int.emod_lt_of_pos pl hm
  have ey := Int.emod_add_mul_ediv (s * n) m
  have y0 := Int.emod_nonneg (s * n) (show m ≠ 0 by omega)
  have y1 := Int.emod_lt_of_pos (s * n) hm
  have em : s % m * n % m = s * n % m := by
    have es := Int.emod_add_mul_ediv s m
    have : s * n = s % m * n + m * (s / m * n) := by
      rw [← Int.mul_assoc, ← Int.add_mul, es]
    rw [this, Int.add_mul_emod_self_left]
  have nf := near_facts h0 h1 h2 h
  unfold HitP HitM
  rw [em]
  by_cases hc : pl % m + s * n % m < m
  · rw [mod_of (x := pl + s * n) (r := pl % m + s * n % m) (k := pl / m + s * n / m) (by omega) hc (by rw [Int.mul_add]; omega)]
    rcases nf with ⟨nf, z⟩ | ⟨nf, z⟩ <;> rw [nf] <;> omega
  · rw [mod_of (x := pl + s * n) (r := pl % m + s * n % m - m) (k := pl / m + s * n / m + 1) (by omega) (by omega) (by rw [Int.mul_add, Int.mul_add]; omega)]
    rcases nf with ⟨nf, z⟩ | ⟨nf, z⟩ <;> rw [nf] <;> omega
/-! ### how often -/
def ch (N : Nat) (s pl m lo hi : Int) : Int := fs N s (pl - lo) m - fs N s (pl - hi - 1) m
theorem hit_term {x m lo hi : Int} (h0 : 0 ≤ lo) (h1 : lo ≤ hi) (h2 : hi < m) (h : ¬ (lo ≤ x % m ∧ x % m ≤ hi)) : (x - lo) / m = (x - hi - 1) / m := by
  have hm : 0 < m := by omega
  have e := Int.emod_add_mul_ediv x m
  have r0 := Int.emod_nonneg x (show m ≠ 0 by omega)
  have r1 := Int.emod_lt_of_pos x hm
  rcases Int.lt_or_le (x % m) lo with z | z
  · have a := div_shift (x % m - lo + m) (x / m - 1) m hm
    have b := div_shift (x % m - hi - 1 + m) (x / m - 1) m hm
    have qa : (x % m - lo + m) / m = 0 := Int.ediv_eq_zero_of_lt (by omega) (by omega)
    have qb : (x % m - hi - 1 + m) / m = 0 := Int.ediv_eq_zero_of_lt (by omega) (by omega)
    rw [Int.mul_sub, qa] at a
    rw [Int.mul_sub, qb] at b
    rw [show x - lo = x % m - lo + m + (m * (x / m) - m * 1) by omega, show x - hi - 1 = x % m - hi - 1 + m + (m * (x / m) - m * 1) by omega, a, b]
  · have a := div_shift (x % m - lo) (x / m) m hm
    have b := div_shift (x % m - hi - 1) (x / m) m hm
    have qa : (x % m - lo) / m = 0 := Int.ediv_eq_zero_of_lt (by omega) (by omega)
    have qb : (x % m - hi - 1) / m = 0 := Int.ediv_eq_zero_of_lt (by omega) (by omega)
    rw [qa] at a
    rw [qb] at b
    rw [show x - lo = x % m - lo + m * (x / m) by omega, show x - hi - 1 = x % m - hi - 1 + m * (x / m) by omega, a, b]
theorem ch_zero {N : Nat} {s pl m lo hi : Int} (h0 : 0 ≤ lo) (h1 : lo ≤ hi) (h2 : hi < m) (h : ∀ n : Nat, n < N → ¬ HitP pl s m lo hi n) : ch N s pl m lo hi = 0 := by
  unfold ch
  induction N with
  | zero => rfl
  | succ N ih =>
    show fs N s (pl - lo) m + (s * N + (pl - lo)) / m - (fs N s (pl - hi - 1) m + (s * N + (pl - hi - 1)) / m) = 0
    have ih := ih fun n hn => h n (by omega)
    have t := hit_term (x := pl + s * N) h0 h1 h2 (h N (by omega))
    rw [show pl + s * (N : Int) - lo = s * N + (pl - lo) by omega, show pl + s * (N : Int) - hi - 1 = s * N + (pl - hi - 1) by omega] at t
    omega
theorem res_of_hit {x q k r : Int} (hq : 0 < q) (hk : 0 < k) (h0 : 0 ≤ r) (h1 : r < k) (h : q * r ≤ x % (k * q) ∧ x % (k * q) ≤ q * (r + 1) - 1) : x / q % k = r := by
  have e := Int.emod_add_mul_ediv x (k * q)
  have hy : x / q = r + k * (x / (k * q)) := by
    have : x = (x % (k * q) - q * r) + q * (r + k * (x / (k * q))) := by
      rw [Int.mul_add, ← Int.mul_assoc, Int.mul_comm q k]
      omega
    rw [this, div_shift _ _ _ hq, Int.ediv_eq_zero_of_lt (by omega) (by rw [Int.mul_add] at h; omega)]
    rw [← this]
    omega
  exact mod_of h0 h1 hy
end Lf
namespace Lf
theorem lstp_lt {pl s m lo hi n : Int} (hm : 0 < m) (h : Lst (HitP pl s m lo hi) n) : n < m := by
  obtain ⟨h0, h1, h2⟩ := h
  rcases Int.lt_or_le n m with z | z
  · exact z
  · refine absurd ?_ (h2 (n - m) (by omega) (by omega))
    unfold HitP at *
    rw [show pl + s * (n - m) = pl + s * n + m * (-s) by rw [Int.mul_sub, Int.mul_neg, Int.mul_comm m s]; omega, Int.add_mul_emod_self_left]
    exact h1
theorem lst_unique {P : Int → Prop} {n n' : Int} (h : Lst P n) (h' : Lst P n') : n = n' := by
  obtain ⟨a, b, c⟩ := h
  obtain ⟨a', b', c'⟩ := h'
  rcases Int.lt_trichotomy n n' with z | z | z
  · exact absurd b (c' n a z)
  · exact z
  · exact absurd b' (c n' a' z)
theorem hitp_period {p t c M lo hi n : Int} : HitP (p * (t + M) + c) p M lo hi n ↔ HitP (p * t + c) p M lo hi n := by
  unfold HitP
  rw [show p * (t + M) + c + p * n = p * t + c + p * n + M * p by rw [Int.mul_add, Int.mul_comm M p]; omega, Int.add_mul_emod_self_left]
theorem ch_arc (N : Nat) (p b M q r : Int) : ch N p b M (q * r) (q * (r + 1) - 1) = fs N p (b - q * r) M - fs N p (b - q * (r + 1)) M := by
  unfold ch
  rw [show b - (q * (r + 1) - 1) - 1 = b - q * (r + 1) by omega]
theorem sum_ch (N : Nat) (p b M q : Int) (j : Nat) : ((List.range j).map fun (r : Nat) => ch N p b M (q * r) (q * (r + 1) - 1)).sum = fs N p b M - fs N p (b - q * j) M := by
  induction j with
  | zero => simp
  | succ j ih =>
    rw [List.range_succ, List.map_append, List.sum_append, ih]
    show _ + (ch N p b M (q * j) (q * (j + 1) - 1) + 0) = _
    rw [ch_arc, show ((j + 1 : Nat) : Int) = j + 1 by omega]
    omega
theorem sum_ch_all (N : Nat) (p b q k : Int) (hk : 1 ≤ k) (hq : 1 ≤ q) : ((List.range k.toNat).map fun (r : Nat) => ch N p b (k * q) (q * r) (q * (r + 1) - 1)).sum = N := by
  have hm : 0 < k * q := by
    have := one_le_mul hk hq
    omega
  rw [sum_ch, show ((k.toNat : Nat) : Int) = k by omega, Int.mul_comm q k]
  have := fs_up N p (b - k * q) (k * q) hm
  rw [show b - k * q + k * q = b by omega] at this
  omega
theorem ch_split (p c M lo hi s m e : Int) (h1 : s ≤ m) (h2 : m ≤ e) : ch (m - s).toNat p (p * s + c) M lo hi + ch (e - m).toNat p (p * m + c) M lo hi = ch (e - s).toNat p (p * s + c) M lo hi := by
  unfold ch
  have a := fs_split p M (c - lo) s m e h1 h2
  have b := fs_split p M (c - hi - 1) s m e h1 h2
  rw [show p * s + (c - lo) = p * s + c - lo by omega, show p * m + (c - lo) = p * m + c - lo by omega] at a
  rw [show p * s + (c - hi - 1) = p * s + c - hi - 1 by omega, show p * m + (c - hi - 1) = p * m + c - hi - 1 by omega] at b
  omega
end Lf
namespace Lf
/-! ### windows -/
theorem dvu_cases {x q : Int} (hq : 0 < q) : (x % q = 0 ∧ dvu x q = x / q) ∨ (0 < x % q ∧ dvu x q = x / q + 1) := by
  have e := Int.emod_add_mul_ediv x q
  have r0 := Int.emod_nonneg x (show q ≠ 0 by omega)
  have r1 := Int.emod_lt_of_pos x hq
  have g := dvu_ge (x := x) hq
  have l := dvu_lt (x := x) hq
  rcases Int.lt_or_eq_of_le r0 with z | z
  · refine .inr ⟨z, ?_⟩
    have a1 : q * (x / q) < q * dvu x q := by omega
    have a2 := Int.lt_of_mul_lt_mul_left a1 (Int.le_of_lt hq)
    have a3 : q * dvu x q < q * (x / q + 2) := by rw [Int.mul_add]; omega
    have a4 := Int.lt_of_mul_lt_mul_left a3 (Int.le_of_lt hq)
    omega
  · refine .inl ⟨z.symm, ?_⟩
    have a1 : q * (x / q) < q * (dvu x q + 1) := by rw [Int.mul_add]; omega
    have a2 := Int.lt_of_mul_lt_mul_left a1 (Int.le_of_lt hq)
    have a3 : q * dvu x q < q * (x / q + 1) := by rw [Int.mul_add]; omega
    have a4 := Int.lt_of_mul_lt_mul_left a3 (Int.le_of_lt hq)
    omega
/-- the arc of the full windows -/
theorem farc {x q : Int} (hq : 0 < q) : 0 ≤ q * dvu x q - x ∧ q * dvu x q - x ≤ q - 1 := by
  have g := dvu_ge (x := x) hq
  have l := dvu_lt (x := x) hq
  omega
/-- the events of a window -/
theorem win_ev {p q c w t : Int} (hq : 0 < q) : (p * (t + w) + c) / q - (p * t + c) / q = if q * dvu (p * w) q - p * w ≤ (p * t + c) % q then dvu (p * w) q else p * w / q := by
  have e := Int.emod_add_mul_ediv (p * t + c) q
  have r0 := Int.emod_nonneg (p * t + c) (show q ≠ 0 by omega)
  have r1 := Int.emod_lt_of_pos (p * t + c) hq
  have ew := Int.emod_add_mul_ediv (p * w) q
  have w0 := Int.emod_nonneg (p * w) (show q ≠ 0 by omega)
  have w1 := Int.emod_lt_of_pos (p * w) hq
  have ex : p * (t + w) + c = ((p * t + c) % q + p * w % q) + q * ((p * t + c) / q + p * w / q) := by
    rw [Int.mul_add, Int.mul_add]
    omega
  rw [ex, div_shift _ _ _ hq]
  rcases dvu_cases (x := p * w) hq with ⟨h1, h2⟩ | ⟨h1, h2⟩
  · rw [h2, if_pos (by omega), Int.ediv_eq_zero_of_lt (by omega) (by omega)]
    omega
  · rw [h2]
    by_cases hc : q * (p * w / q + 1) - p * w ≤ (p * t + c) % q
    · rw [if_pos hc]
      rw [Int.mul_add, Int.mul_one] at hc
      have := div_shift ((p * t + c) % q + p * w % q - q) 1 q hq
      have qz : ((p * t + c) % q + p * w % q - q) / q = 0 := Int.ediv_eq_zero_of_lt (by omega) (by omega)
      rw [qz, show (p * t + c) % q + p * w % q - q + q * 1 = (p * t + c) % q + p * w % q by omega] at this
      omega
    · rw [if_neg hc]
      rw [Int.mul_add, Int.mul_one] at hc
      rw [Int.ediv_eq_zero_of_lt (by omega) (by omega)]
      omega
/-- every remainder occurs -/
theorem hit_some {p q x lo : Int} (hq : 0 < q) (hg : Int.gcd p q = 1) (h1 : lo ≤ q - 1) : ¬ NoM (HitP x p q lo (q - 1)) := fun hno => by
  have st := fs_step p q x hq hg
  rcases fs_step_le p q x hq hg q.toNat (by omega) with ⟨h, _⟩ | ⟨_, i, _, hi⟩
  · omega
  · refine hno i (by omega) ?_
    unfold HitP
    have e := Int.emod_add_mul_ediv (p * i + (x + 1)) q
    rw [mod_of (x := x + p * i) (r := q - 1) (k := (p * i + (x + 1)) / q - 1) (by omega) (by omega) (by rw [Int.mul_sub]; omega)]
    omega
theorem ch_cycle {p q x lo : Int} (hq : 0 < q) (hg : Int.gcd p q = 1) : ch q.toNat p x q lo (q - 1) = q - lo := by
  unfold ch
  rw [fs_any p q (x - lo) hq hg, fs_any p q (x - (q - 1) - 1) hq hg]
  omega
theorem fs_ups (N : Nat) (a b q j : Int) (hq : 0 < q) : fs N a (b + j * q) q = fs N a b q + j * N := by
  have := fs_lin N a b q 0 j hq
  rw [Int.zero_mul, Int.add_zero, Int.zero_mul] at this
  omega
/-- sums over windows -/
theorem win_sum {N : Nat} {p q c w s : Int} (hq : 0 < q) (h : 0 < p * w % q) : fs N p (p * (s + w) + c) q - fs N p (p * s + c) q = N * (p * w / q) + ch N p (p * s + c) q (q * dvu (p * w) q - p * w) (q - 1) := by
  have ew := Int.emod_add_mul_ediv (p * w) q
  rcases dvu_cases (x := p * w) hq with ⟨h1, h2⟩ | ⟨h1, h2⟩
  · omega
  · unfold ch
    have a := fs_ups N p (p * s + c + p * w % q) q (p * w / q) hq
    have b := fs_ups N p (p * s + c + p * w % q) q (-1) hq
    have d := fs_ups N p (p * s + c) q (-1) hq
    rw [show p * s + c + p * w % q + p * w / q * q = p * (s + w) + c by rw [Int.mul_add, Int.mul_comm (p * w / q) q]; omega, Int.mul_comm _ (N : Int)] at a
    rw [show p * s + c + p * w % q + -1 * q = p * s + c - (q * dvu (p * w) q - p * w) by rw [h2, Int.mul_add]; omega] at b
    rw [show p * s + c + -1 * q = p * s + c - (q - 1) - 1 by omega] at d
    omega
theorem win_sum0 {N : Nat} {p q c w s : Int} (hq : 0 < q) (h : p * w % q = 0) : fs N p (p * (s + w) + c) q - fs N p (p * s + c) q = N * (p * w / q) := by
  have ew := Int.emod_add_mul_ediv (p * w) q
  have a := fs_ups N p (p * s + c) q (p * w / q) hq
  rw [show p * s + c + p * w / q * q = p * (s + w) + c by rw [Int.mul_add, Int.mul_comm (p * w / q) q]; omega, Int.mul_comm _ (N : Int)] at a
  omega
/-- widths w and q - w together -/
theorem win_pair {N : Nat} {p q c w s : Int} (hq : 0 < q) (h : 0 < p * w % q) : ch N p (p * s + c) q (q * dvu (p * w) q - p * w) (q - 1) + ch N p (p * (s + w) + c) q (q * dvu (p * (q - w)) q - p * (q - w)) (q - 1) = N := by
  have ew := Int.emod_add_mul_ediv (p * w) q
  have w1 := Int.emod_lt_of_pos (p * w) hq
  have e2 : p * (q - w) % q = q - p * w % q := mod_of (k := p - p * w / q - 1) (by omega) (by omega) (by rw [Int.mul_sub, Int.mul_sub, Int.mul_sub, Int.mul_comm q p]; omega)
  have ew2 := Int.emod_add_mul_ediv (p * (q - w)) q
  have ws := win_sum (N := N) (c := c) (s := s) hq h
  have ws2 := win_sum (N := N) (p := p) (c := c) (s := s + w) (w := q - w) hq (by omega)
  rw [show s + w + (q - w) = s + q by omega] at ws2
  have u := fs_ups N p (p * s + c) q p hq
  rw [show p * s + c + p * q = p * (s + q) + c by rw [Int.mul_add]; omega, Int.mul_comm p (N : Int)] at u
  have hs : p * w / q + p * (q - w) / q = p - 1 := by
    have : q * (p * w / q + p * (q - w) / q) = q * (p - 1) := by
      rw [Int.mul_add, Int.mul_sub q p 1, Int.mul_comm q p]
      rw [Int.mul_sub p q w] at ew2 e2
      rw [Int.mul_sub p q w]
      omega
    exact Int.eq_of_mul_eq_mul_left (by omega) this
  have hn : (N : Int) * (p * w / q) + N * (p * (q - w) / q) = N * p - N := by
    rw [← Int.mul_add, hs, Int.mul_sub, Int.mul_one]
  omega
end Lf
namespace Lf
theorem hit_of_res {x q k r : Int} (hq : 0 < q) (h0 : 0 ≤ r) (h1 : r < k) (h : x / q % k = r) : q * r ≤ x % (k * q) ∧ x % (k * q) ≤ q * (r + 1) - 1 := by
  have e := Int.emod_add_mul_ediv x q
  have r0 := Int.emod_nonneg x (show q ≠ 0 by omega)
  have r1 := Int.emod_lt_of_pos x hq
  have e2 := Int.emod_add_mul_ediv (x / q) k
  rw [h] at e2
  have b := Int.mul_le_mul_of_nonneg_left (show r + 1 ≤ k by omega) (show 0 ≤ q by omega)
  rw [Int.mul_comm q k, Int.mul_add] at b
  have p := Int.mul_nonneg (show 0 ≤ q by omega) h0
  rw [mod_of (x := x) (r := q * r + x % q) (k := x / q / k) (by omega) (by omega) (by
    rw [show k * q * (x / q / k) = q * (k * (x / q / k)) by rw [Int.mul_comm k q, Int.mul_assoc], show k * (x / q / k) = x / q - r by omega, Int.mul_sub]
    omega), Int.mul_add]
  omega
theorem hit_term1 {x m lo hi : Int} (h2 : hi < m) (h0 : 0 ≤ lo) (h : lo ≤ x % m ∧ x % m ≤ hi) : (x - lo) / m = (x - hi - 1) / m + 1 := by
  have hm : 0 < m := by omega
  have e := Int.emod_add_mul_ediv x m
  have r1 := Int.emod_lt_of_pos x hm
  have a := div_shift (x % m - lo) (x / m) m hm
  have b := div_shift (x % m - hi - 1 + m) (x / m - 1) m hm
  have qa : (x % m - lo) / m = 0 := Int.ediv_eq_zero_of_lt (by omega) (by omega)
  have qb : (x % m - hi - 1 + m) / m = 0 := Int.ediv_eq_zero_of_lt (by omega) (by omega)
  rw [qa] at a
  rw [Int.mul_sub, qb] at b
  rw [show x - lo = x % m - lo + m * (x / m) by omega, show x - hi - 1 = x % m - hi - 1 + m + (m * (x / m) - m * 1) by omega, a, b]
  omega
theorem ch_count {p q c s k r : Int} (N : Nat) (hq : 1 ≤ q) (h0 : 0 ≤ r) (h1 : r < k) : ch N p (p * s + c) (k * q) (q * r) (q * (r + 1) - 1) = (((List.range N).map fun j => trm p q c s j % k).count r : Nat) := by
  have a1 : 0 ≤ q * r := Int.mul_nonneg (by omega) h0
  have b := Int.mul_le_mul_of_nonneg_left (show r + 1 ≤ k by omega) (show 0 ≤ q by omega)
  rw [Int.mul_comm q k] at b
  have a2 : q * r ≤ q * (r + 1) - 1 := by rw [Int.mul_add]; omega
  unfold ch
  induction N with
  | zero => rfl
  | succ N ih =>
    rw [List.range_succ, List.map_append, List.count_append, Int.natCast_add, ← ih]
    show fs N p (p * s + c - q * r) (k * q) + (p * N + (p * s + c - q * r)) / (k * q) - (fs N p (p * s + c - (q * (r + 1) - 1) - 1) (k * q) + (p * N + (p * s + c - (q * (r + 1) - 1) - 1)) / (k * q)) = _ + (([trm p q c s N % k].count r : Nat) : Int)
    have ex : trm p q c s N = (p * (s + N) + c) / q := rfl
    by_cases hc : trm p q c s N % k = r
    · have t := hit_term1 (x := p * (s + N) + c) (m := k * q) (lo := q * r) (hi := q * (r + 1) - 1) (by omega) a1 (hit_of_res (by omega) h0 h1 (by rw [← ex]; exact hc))
      rw [hc, List.count_singleton_self]
      rw [show p * (s + (N : Int)) + c - q * r = p * N + (p * s + c - q * r) by rw [Int.mul_add]; omega, show p * (s + (N : Int)) + c - (q * (r + 1) - 1) - 1 = p * N + (p * s + c - (q * (r + 1) - 1) - 1) by rw [Int.mul_add p s]; omega] at t
      omega
    · have t := hit_term (x := p * (s + N) + c) (m := k * q) (lo := q * r) (hi := q * (r + 1) - 1) a1 a2 (by omega) (fun z => hc (by rw [ex]; exact res_of_hit (by omega) (by omega) h0 h1 z))
      rw [List.count_eq_zero.mpr (by simpa using fun z => hc z.symm)]
      rw [show p * (s + (N : Int)) + c - q * r = p * N + (p * s + c - q * r) by rw [Int.mul_add]; omega, show p * (s + (N : Int)) + c - (q * (r + 1) - 1) - 1 = p * N + (p * s + c - (q * (r + 1) - 1) - 1) by rw [Int.mul_add p s]; omega] at t
      omega
theorem least_of {P : Nat → Prop} : ∀ (M : Nat), (∃ n, n < M ∧ P n) → ∃ n, n < M ∧ P n ∧ ∀ m, m < n → ¬ P m
  | 0, ⟨n, h, _⟩ => absurd h (by omega)
  | M + 1, ⟨n, h, hp⟩ => by
    by_cases hm : ∃ n, n < M ∧ P n
    · obtain ⟨a, b, c, d⟩ := least_of M hm
      exact ⟨a, by omega, c, d⟩
    · refine ⟨n, h, hp, fun m hmn hpm => hm ⟨m, by omega, hpm⟩⟩
theorem hitp_res {p q c s k r : Int} {n : Nat} (hq : 1 ≤ q) (h0 : 0 ≤ r) (h1 : r < k) : HitP (p * s + c) p (k * q) (q * r) (q * (r + 1) - 1) n ↔ trm p q c s n % k = r := by
  unfold HitP trm
  rw [show p * s + c + p * (n : Int) = p * (s + n) + c by rw [Int.mul_add]; omega]
  exact ⟨fun h => res_of_hit (by omega) (by omega) h0 h1 h, fun h => hit_of_res (by omega) h0 h1 h⟩
end Lf
namespace Lf
def wev (p q c w s : Int) (n : Nat) : Int := (p * (s + n + w) + c) / q - (p * (s + n) + c) / q
theorem wev_hit {p q c w s : Int} (hq : 0 < q) (n : Nat) : wev p q c w s n = dvu (p * w) q ↔ HitP (p * s + c) p q (q * dvu (p * w) q - p * w) (q - 1) n := by
  unfold wev HitP
  have r1 := Int.emod_lt_of_pos (p * (s + n) + c) hq
  have r0 := Int.emod_nonneg (p * (s + n) + c) (show q ≠ 0 by omega)
  rw [win_ev hq, show p * s + c + p * (n : Int) = p * (s + n) + c by rw [Int.mul_add]; omega]
  by_cases hc : q * dvu (p * w) q - p * w ≤ (p * (s + n) + c) % q
  · rw [if_pos hc]
    exact ⟨fun _ => ⟨hc, by omega⟩, fun _ => rfl⟩
  · rw [if_neg hc]
    refine ⟨fun h => ?_, fun h => absurd h.1 hc⟩
    have ew := Int.emod_add_mul_ediv (p * w) q
    rcases dvu_cases (x := p * w) hq with ⟨h1, h2⟩ | ⟨h1, h2⟩
    · rw [h2] at hc
      omega
    · omega
theorem wev_two {p q c w s : Int} (hq : 0 < q) (n : Nat) : p * w / q ≤ wev p q c w s n ∧ wev p q c w s n ≤ dvu (p * w) q := by
  unfold wev
  rw [win_ev hq]
  have hle : p * w / q ≤ dvu (p * w) q := by
    rcases dvu_cases (x := p * w) hq with ⟨_, h2⟩ | ⟨_, h2⟩ <;> omega
  by_cases hc : q * dvu (p * w) q - p * w ≤ (p * (s + n) + c) % q
  · rw [if_pos hc]; omega
  · rw [if_neg hc]; omega
theorem hit_turn {pl p q lo hi m : Int} (h : HitP pl p q lo hi m) : HitP pl p q lo hi (m % q) := by
  have em := Int.emod_add_mul_ediv m q
  unfold HitP at h ⊢
  rw [show pl + p * m = pl + p * (m % q) + q * (p * (m / q)) by
    have : p * (m % q + q * (m / q)) = p * m := by rw [em]
    rw [Int.mul_add] at this
    rw [Int.mul_left_comm q p]
    omega, Int.add_mul_emod_self_left] at h
  exact h
theorem wev_max {p q c w s : Int} (hq : 0 < q) (hg : Int.gcd p q = 1) : ∃ n : Nat, (n : Int) < q ∧ wev p q c w s n = dvu (p * w) q := by
  have hs := hit_some (p := p) (q := q) (x := p * s + c) (lo := q * dvu (p * w) q - p * w) hq hg (farc hq).2
  have : ∃ m, 0 ≤ m ∧ HitP (p * s + c) p q (q * dvu (p * w) q - p * w) (q - 1) m := by
    apply Classical.byContradiction
    intro hn
    exact hs fun m m0 hm => hn ⟨m, m0, hm⟩
  obtain ⟨m, m0, hm⟩ := this
  have h2 := hit_turn hm
  have r0 := Int.emod_nonneg m (show q ≠ 0 by omega)
  have r1 := Int.emod_lt_of_pos m hq
  obtain ⟨n, hn⟩ := Int.eq_ofNat_of_zero_le r0
  rw [hn] at h2 r1
  exact ⟨n, r1, (wev_hit hq n).mpr h2⟩
theorem wev_min {p q c w s : Int} (hq : 0 < q) (hg : Int.gcd p q = 1) : ∃ n : Nat, (n : Int) < q ∧ wev p q c w s n = p * w / q := by
  rcases dvu_cases (x := p * w) hq with ⟨h1, h2⟩ | ⟨h1, h2⟩
  · obtain ⟨n, hn, e⟩ := wev_max (c := c) (w := w) (s := s) hq hg
    exact ⟨n, hn, by rw [e, h2]⟩
  · have st := fs_step p q (p * s + c - 1) hq hg
    rcases fs_step_le p q (p * s + c - 1) hq hg q.toNat (by omega) with ⟨h, _⟩ | ⟨_, i, hi, hz⟩
    · omega
    · refine ⟨i, by omega, ?_⟩
      unfold wev
      have ew := Int.emod_add_mul_ediv (p * w) q
      have w1 := Int.emod_lt_of_pos (p * w) hq
      rw [win_ev hq, show p * (s + (i : Int)) + c = p * i + (p * s + c - 1 + 1) by rw [Int.mul_add]; omega, hz, if_neg (by rw [h2, Int.mul_add]; omega)]
theorem ch_wcount {p q c w s : Int} (hq : 0 < q) (N : Nat) : ch N p (p * s + c) q (q * dvu (p * w) q - p * w) (q - 1) = (((List.range N).map (wev p q c w s)).count (dvu (p * w) q) : Nat) := by
  obtain ⟨a1, a2⟩ := farc (x := p * w) hq
  unfold ch
  induction N with
  | zero => rfl
  | succ N ih =>
    rw [List.range_succ, List.map_append, List.count_append, Int.natCast_add, ← ih]
    show fs N p (p * s + c - (q * dvu (p * w) q - p * w)) q + (p * N + (p * s + c - (q * dvu (p * w) q - p * w))) / q - (fs N p (p * s + c - (q - 1) - 1) q + (p * N + (p * s + c - (q - 1) - 1)) / q) = _ + (([wev p q c w s N].count (dvu (p * w) q) : Nat) : Int)
    have hx : p * s + c + p * (N : Int) = p * (s + N) + c := by rw [Int.mul_add]; omega
    by_cases hc : wev p q c w s N = dvu (p * w) q
    · have hh := (wev_hit hq N).mp hc
      unfold HitP at hh
      have t := hit_term1 (x := p * s + c + p * N) (m := q) (lo := q * dvu (p * w) q - p * w) (hi := q - 1) (by omega) a1 hh
      rw [hc, List.count_singleton_self]
      rw [show p * s + c + p * (N : Int) - (q * dvu (p * w) q - p * w) = p * N + (p * s + c - (q * dvu (p * w) q - p * w)) by omega, show p * s + c + p * (N : Int) - (q - 1) - 1 = p * N + (p * s + c - (q - 1) - 1) by omega] at t
      omega
    · have t := hit_term (x := p * s + c + p * N) (m := q) (lo := q * dvu (p * w) q - p * w) (hi := q - 1) a1 a2 (by omega) (fun z => hc ((wev_hit hq N).mpr z))
      rw [List.count_eq_zero.mpr (by simpa using fun z => hc z.symm)]
      rw [show p * s + c + p * (N : Int) - (q * dvu (p * w) q - p * w) = p * N + (p * s + c - (q * dvu (p * w) q - p * w)) by omega, show p * s + c + p * (N : Int) - (q - 1) - 1 = p * N + (p * s + c - (q - 1) - 1) by omega] at t
      omega
end Lf

namespace Lf
/-! ### points round a circle, counted -/
/-- how many of the first n multiples of s leave a remainder by m below x -/
def cnt : Nat → Int → Int → Int → Int
  | 0, _, _, _ => 0
  | n + 1, s, m, x => cnt n s m x + (if s * n % m < x then 1 else 0)
theorem cnt_mono {n : Nat} {s m x y : Int} (h : x ≤ y) : cnt n s m x ≤ cnt n s m y := by
  induction n with
  | zero => exact Int.le_refl _
  | succ n ih =>
    simp only [cnt]
    split <;> split <;> omega
theorem cnt_le {n : Nat} {s m x : Int} : 0 ≤ cnt n s m x ∧ cnt n s m x ≤ n := by
  induction n with
  | zero => exact ⟨Int.le_refl _, Int.le_refl _⟩
  | succ n ih =>
    simp only [cnt]
    split <;> omega
theorem cnt_none {n : Nat} {s m : Int} (hm : 0 < m) : cnt n s m 0 = 0 := by
  induction n with
  | zero => rfl
  | succ n ih =>
    have := Int.emod_nonneg (s * n) (show m ≠ 0 by omega)
    simp only [cnt]
    split <;> omega
theorem cnt_all {n : Nat} {s m : Int} (hm : 0 < m) : cnt n s m m = n := by
  induction n with
  | zero => rfl
  | succ n ih =>
    have := Int.emod_lt_of_pos (s * n) hm
    simp only [cnt]
    split <;> omega
/-- the turns of the first n + 1 points, the place of the last one -/
theorem cnt_block {s m b y : Int} (hs : 0 < s) (hsm : s ≤ m) (hb : 0 ≤ b) (hy0 : 0 ≤ y) (hy : y ≤ s) (hx : s * b + y ≤ m) (n : Nat) :
    cnt (n + 1) s m (s * b + y) = s * n / m * b + cnt (s * n / m).toNat (-m % s) s y + min (s * n % m / s + 1) (b + (if (s * n % m) % s < y then 1 else 0)) := by
  have hm : 0 < m := by omega
  induction n with
  | zero =>
    simp only [cnt, Int.natCast_zero, Int.mul_zero, Int.zero_ediv, Int.zero_emod, Int.zero_mul]
    by_cases hb0 : b = 0
    · subst hb0
      rw [Int.mul_zero]
      split <;> split <;> simp [cnt] <;> omega
    · have : 0 < s * b := Int.mul_pos hs (by omega)
      rw [if_pos (by omega)]
      split <;> simp [cnt] <;> omega
  | succ n ih =>
    rw [cnt, ih]
    have hT := Int.mul_ediv_add_emod (s * n) m
    have hP0 := Int.emod_nonneg (s * n) (show m ≠ 0 by omega)
    have hP1 := Int.emod_lt_of_pos (s * n) hm
    have hT0 : 0 ≤ s * n / m := Int.ediv_nonneg (Int.mul_nonneg (by omega) (by omega)) (by omega)
    have en : s * ((n + 1 : Nat) : Int) = s * n + s := by
      rw [show ((n + 1 : Nat) : Int) = n + 1 by omega, Int.mul_add, Int.mul_one]
    generalize hTe : s * (n : Int) / m = T at *
    generalize hPe : s * (n : Int) % m = P at *
    have hg := Int.mul_ediv_add_emod P s
    have hf0 := Int.emod_nonneg P (show s ≠ 0 by omega)
    have hf1 := Int.emod_lt_of_pos P hs
    have hg0 : 0 ≤ P / s := Int.ediv_nonneg hP0 (by omega)
    generalize hge : P / s = g at *
    generalize hfe : P % s = f at *
    by_cases hc : P + s < m
    · have e1 : s * ((n + 1 : Nat) : Int) / m = T := by
        rw [en, ← hT, show m * T + P + s = (P + s) + m * T by omega, Int.add_mul_ediv_left _ _ (by omega), Int.ediv_eq_zero_of_lt (by omega) hc, Int.zero_add]
      have e2 : s * ((n + 1 : Nat) : Int) % m = P + s := by
        rw [en, ← hT, show m * T + P + s = (P + s) + m * T by omega, Int.add_mul_emod_self_left, Int.emod_eq_of_lt (by omega) hc]
      have e3 : (P + s) / s = g + 1 := by
        rw [← hg, show s * g + f + s = f + s * (g + 1) by rw [Int.mul_add, Int.mul_one]; omega, Int.add_mul_ediv_left _ _ (by omega), Int.ediv_eq_zero_of_lt hf0 hf1, Int.zero_add]
      have e4 : (P + s) % s = f := by
        rw [Int.add_emod_right, hfe]
      rw [e1, e2, e3, e4]
      have key : (P + s < s * b + y) ↔ (g + 1 < b + (if f < y then 1 else 0)) := by
        rw [← hg]
        constructor
        · intro h
          by_cases h1 : g + 1 < b
          · split <;> omega
          · have h2 : b ≤ g + 1 := by omega
            have h3 : s * b ≤ s * (g + 1) := Int.mul_le_mul_of_nonneg_left h2 (by omega)
            have h4 : s * (g + 1) = s * g + s := by rw [Int.mul_add, Int.mul_one]
            have h5 : f < y := by omega
            rw [if_pos h5]
            by_cases h6 : b = g + 1
            · omega
            · have h7 : s * b ≤ s * g := Int.mul_le_mul_of_nonneg_left (by omega) (by omega)
              omega
        · intro h
          have h4 : s * (g + 1) = s * g + s := by rw [Int.mul_add, Int.mul_one]
          by_cases h1 : g + 1 < b
          · have h2 : s * (g + 2) ≤ s * b := Int.mul_le_mul_of_nonneg_left (by omega) (by omega)
            have h5 : s * (g + 2) = s * g + 2 * s := by rw [Int.mul_add]; omega
            omega
          · by_cases h5 : f < y
            · rw [if_pos h5] at h
              have h6 : b = g + 1 := by omega
              rw [h6]
              omega
            · rw [if_neg h5] at h
              omega
      by_cases hk : P + s < s * b + y
      · rw [if_pos hk]
        have := key.mp hk
        omega
      · rw [if_neg hk]
        have : ¬ (g + 1 < b + (if f < y then 1 else 0)) := fun z => hk (key.mpr z)
        omega
    · have hPs : 0 ≤ P + s - m ∧ P + s - m < s := by omega
      have e1 : s * ((n + 1 : Nat) : Int) / m = T + 1 := by
        rw [en, ← hT, show m * T + P + s = (P + s - m) + m * (T + 1) by rw [Int.mul_add, Int.mul_one]; omega, Int.add_mul_ediv_left _ _ (by omega), Int.ediv_eq_zero_of_lt hPs.1 (by omega), Int.zero_add]
      have e2 : s * ((n + 1 : Nat) : Int) % m = P + s - m := by
        rw [en, ← hT, show m * T + P + s = (P + s - m) + m * (T + 1) by rw [Int.mul_add, Int.mul_one]; omega, Int.add_mul_emod_self_left, Int.emod_eq_of_lt hPs.1 (by omega)]
      rw [e1, e2, Int.ediv_eq_zero_of_lt hPs.1 hPs.2, Int.emod_eq_of_lt hPs.1 hPs.2]
      -- the first point of the turn T is f
      have ef : (-m % s) * T % s = f := by
        have h1 : (-m % s) * T % s = (-m * T) % s := by rw [Int.mul_emod, Int.emod_emod, ← Int.mul_emod]
        rw [h1, show -m * T = P + s * (- n) by rw [Int.neg_mul, Int.mul_neg]; omega, Int.add_mul_emod_self_left, hfe]
      have eT : (T + 1).toNat = T.toNat + 1 := by omega
      have ec : cnt (T + 1).toNat (-m % s) s y = cnt T.toNat (-m % s) s y + (if f < y then 1 else 0) := by
        rw [eT, cnt, show ((T.toNat : Nat) : Int) = T by omega, ef]
      rw [ec]
      have hbg : b + (if f < y then 1 else 0) ≤ g + 1 := by
        by_cases h1 : b ≤ g
        · split <;> omega
        · have h2 : s * (g + 1) ≤ s * b := Int.mul_le_mul_of_nonneg_left (by omega) (by omega)
          have h3 : s * (g + 1) = s * g + s := by rw [Int.mul_add, Int.mul_one]
          by_cases h4 : b = g + 1
          · rw [if_neg (by omega)]
            omega
          · have h5 : s * (g + 2) ≤ s * b := Int.mul_le_mul_of_nonneg_left (by omega) (by omega)
            have h6 : s * (g + 2) = s * g + 2 * s := by rw [Int.mul_add]; omega
            omega
      have hlast : (if P + s - m < s * b + y then (1 : Int) else 0) = min (0 + 1) (b + (if P + s - m < y then 1 else 0)) := by
        by_cases hb0 : b = 0
        · subst hb0
          rw [Int.mul_zero, Int.zero_add]
          split <;> omega
        · have : s * 1 ≤ s * b := Int.mul_le_mul_of_nonneg_left (by omega) (by omega)
          rw [if_pos (by omega)]
          split <;> omega
      rw [hlast]
      rw [show (T + 1) * b = T * b + b by rw [Int.add_mul, Int.one_mul]]
      omega
/-- only the first of the points is 0 -/
theorem pt_ne {s m i : Int} (hg : Int.gcd s m = 1) (h0 : 0 < i) (h1 : i < m) : s * i % m ≠ 0 := fun h =>
  hit_once s m 0 hg 0 i (Int.le_refl _) h0 h1 (by simp) (by rw [Int.add_zero]; exact h)
/-- y is the point with r points below it -/
structure Nth (s m : Int) (n : Nat) (r y : Int) : Prop where
  y0 : 0 ≤ y
  ym : y < m
  c0 : cnt n s m y = r
  c1 : cnt n s m (y + 1) = r + 1
theorem cnt_one {s m : Int} (hm : 0 < m) (hg : Int.gcd s m = 1) : ∀ n : Nat, (n + 1 : Nat) ≤ m → cnt (n + 1) s m 1 = 1
  | 0, _ => by simp [cnt]
  | n + 1, h => by
    have ih := cnt_one hm hg n (by omega)
    have h1 := pt_ne (i := ((n + 1 : Nat) : Int)) hg (by omega) (by omega)
    have h2 := Int.emod_nonneg (s * ((n + 1 : Nat) : Int)) (show m ≠ 0 by omega)
    rw [cnt, ih, if_neg (by omega)]
    rfl
theorem nth_zero {s m : Int} {n : Nat} (hg : Int.gcd s m = 1) (h1 : 1 ≤ n) (h2 : (n : Int) ≤ m) : Nth s m n 0 0 := by
  obtain ⟨k, rfl⟩ : ∃ k, n = k + 1 := ⟨n - 1, by omega⟩
  exact ⟨Int.le_refl _, by omega, cnt_none (by omega), by rw [Int.zero_add]; exact cnt_one (by omega) hg k h2⟩
theorem cnt_mirror {s m z : Int} (hg : Int.gcd s m = 1) (hz0 : 1 ≤ z) (hz1 : z ≤ m) : ∀ n : Nat, (n + 1 : Nat) ≤ m → cnt (n + 1) s m z + cnt (n + 1) (m - s) m (m - z + 1) = (n : Int) + 2
  | 0, _ => by
    simp only [cnt, Int.natCast_zero, Int.mul_zero, Int.zero_emod]
    rw [if_pos (by omega), if_pos (by omega)]
    omega
  | n + 1, h => by
    have ih := cnt_mirror hg hz0 hz1 n (by omega)
    have h1 := pt_ne (i := ((n + 1 : Nat) : Int)) hg (by omega) (by omega)
    have h2 := Int.emod_nonneg (s * ((n + 1 : Nat) : Int)) (show m ≠ 0 by omega)
    have h3 := Int.emod_lt_of_pos (s * ((n + 1 : Nat) : Int)) (show 0 < m by omega)
    have e : (m - s) * ((n + 1 : Nat) : Int) % m = m - s * ((n + 1 : Nat) : Int) % m := by
      have hd := Int.mul_ediv_add_emod (s * ((n + 1 : Nat) : Int)) m
      generalize hN : ((n + 1 : Nat) : Int) = N at *
      refine mod_of (k := N - s * N / m - 1) (by omega) (by omega) ?_
      rw [Int.sub_mul, Int.mul_sub, Int.mul_sub, Int.mul_one]
      omega
    have a1 : cnt (n + 1 + 1) s m z = cnt (n + 1) s m z + (if s * ((n + 1 : Nat) : Int) % m < z then 1 else 0) := rfl
    have a2 : cnt (n + 1 + 1) (m - s) m (m - z + 1) = cnt (n + 1) (m - s) m (m - z + 1) + (if (m - s) * ((n + 1 : Nat) : Int) % m < m - z + 1 then 1 else 0) := rfl
    rw [a1, a2, e]
    split <;> split <;> omega
theorem nth_mirror {s m r y : Int} {n : Nat} (hg : Int.gcd s m = 1) (h2 : (n : Int) ≤ m) (hr : 1 ≤ r) (hrn : r < n) (h : Nth (m - s) m n (n - r) y) : Nth s m n r (m - y) := by
  obtain ⟨k, rfl⟩ : ∃ k, n = k + 1 := ⟨n - 1, by omega⟩
  have hy : 0 < y := by
    rcases Int.lt_or_eq_of_le h.y0 with z | z
    · exact z
    · have := h.c0
      rw [← z, cnt_none (by omega)] at this
      omega
  have hym := h.ym
  have m1 := cnt_mirror (z := m - y) hg (by omega) (by omega) k h2
  have m2 := cnt_mirror (z := m - y + 1) hg (by omega) (by omega) k h2
  rw [show m - (m - y) + 1 = y + 1 by omega, h.c1] at m1
  rw [show m - (m - y + 1) + 1 = y by omega, h.c0] at m2
  exact ⟨by omega, by omega, by omega, by omega⟩
/-- what the first points of the turns say -/
theorem nth_in {s m r b y r' : Int} {n N' : Nat} (hs : 0 < s) (hsm : s ≤ m) (hb : 0 ≤ b) (hrn : r < n)
    (key : ∀ x : Int, 0 ≤ x → x ≤ s → ∀ b' : Int, b' = b → s * b' + x ≤ m → cnt n s m (s * b' + x) = r - r' + cnt N' (-m % s) s x)
    (over : ∀ b0 y0 : Int, 0 ≤ b0 → 0 ≤ y0 → y0 < s → m = s * b0 + y0 → (b0 < b ∨ (b0 = b ∧ y0 ≤ y)) → (n : Int) ≤ r)
    (h : Nth (-m % s) s N' r' y) : Nth s m n r (s * b + y) := by
  have y0 := h.y0
  have ys := h.ym
  have sb : 0 ≤ s * b := Int.mul_nonneg (by omega) hb
  have lt : s * b + y < m := by
    apply Int.lt_of_not_ge
    intro hge
    have hd := Int.mul_ediv_add_emod m s
    have h0 := Int.emod_nonneg m (show s ≠ 0 by omega)
    have h1 := Int.emod_lt_of_pos m hs
    have hq : 0 ≤ m / s := Int.ediv_nonneg (by omega) (by omega)
    have := over (m / s) (m % s) hq h0 h1 hd.symm (by
      by_cases hlt : m / s < b
      · exact .inl hlt
      · right
        have h2 : s * b ≤ s * (m / s) := Int.mul_le_mul_of_nonneg_left (by omega) (by omega)
        by_cases he : m / s = b
        · rw [he] at hd
          exact ⟨he, by omega⟩
        · have h3 : s * (b + 1) ≤ s * (m / s) := Int.mul_le_mul_of_nonneg_left (by omega) (by omega)
          rw [Int.mul_add, Int.mul_one] at h3
          omega)
    omega
  refine ⟨by omega, lt, ?_, ?_⟩
  · rw [key y y0 (by omega) b rfl (by omega), h.c0]
    omega
  · rw [Int.add_assoc, key (y + 1) (by omega) (by omega) b rfl (by omega), h.c1]
    omega
theorem cnt_lt_le {n : Nat} {s m x : Int} (b : Bool) : cnt n s m x + (if b = true then (1 : Int) else 0) ≤ n + 1 := by
  have := (cnt_le (n := n) (s := s) (m := m) (x := x)).2
  cases b <;> simp <;> omega
/-- the place of the last point's turn -/
theorem last_first {s m : Int} (k : Nat) (hs : 0 < s) (hm : 0 < m) : (-m % s) * (((s * k / m).toNat : Nat) : Int) % s = (s * k % m) % s := by
  have hT0 : 0 ≤ s * k / m := Int.ediv_nonneg (Int.mul_nonneg (by omega) (by omega)) (by omega)
  have hT := Int.mul_ediv_add_emod (s * k) m
  rw [show (((s * k / m).toNat : Nat) : Int) = s * k / m by omega]
  have h1 : (-m % s) * (s * k / m) % s = (-m * (s * k / m)) % s := by rw [Int.mul_emod, Int.emod_emod, ← Int.mul_emod]
  rw [h1, show -m * (s * k / m) = s * k % m + s * (- k) by rw [Int.neg_mul, Int.mul_neg]; omega, Int.add_mul_emod_self_left]
theorem nth_early {s m r y : Int} {k : Nat} (hs : 0 < s) (hsm : s ≤ m) (hr0 : 0 ≤ r) (hrn : r < (k + 1 : Nat)) (hr : r < (s * k % m / s + 1) * (s * k / m + 1))
    (h : Nth (-m % s) s ((s * k / m).toNat + 1) (r % (s * k / m + 1)) y) : Nth s m (k + 1) r (s * (r / (s * k / m + 1)) + y) := by
  have hT0 : 0 ≤ s * k / m := Int.ediv_nonneg (Int.mul_nonneg (by omega) (by omega)) (by omega)
  have lf := last_first (s := s) (m := m) k hs (by omega)
  have hd := Int.mul_ediv_add_emod r (s * k / m + 1)
  have hb0 : 0 ≤ r / (s * k / m + 1) := Int.ediv_nonneg hr0 (by omega)
  have hr1 := Int.emod_nonneg r (show s * k / m + 1 ≠ 0 by omega)
  have hr2 := Int.emod_lt_of_pos r (show 0 < s * k / m + 1 by omega)
  have hbR : r / (s * k / m + 1) < s * k % m / s + 1 := Int.ediv_lt_of_lt_mul (by omega) hr
  generalize hT : s * k / m = T at *
  generalize hR : s * k % m / s + 1 = R at *
  generalize hF : (s * k % m) % s = F at *
  have e1 : ∀ x, cnt (T.toNat + 1) (-m % s) s x = cnt T.toNat (-m % s) s x + (if F < x then 1 else 0) := fun x => by rw [cnt, lf]
  refine nth_in (r' := r % (T + 1)) hs hsm hb0 hrn (fun x x0 xs b' eb hx => ?_) (fun b0 y0 g0 g1 g2 g3 g4 => ?_) h
  · rw [cnt_block hs hsm (by omega) x0 xs hx k, hT, hR, hF, e1 x, eb]
    have : b' + (if F < x then 1 else 0) ≤ R := by split <;> omega
    rw [eb] at this
    rw [Int.min_eq_right this]
    have : (T + 1) * (r / (T + 1)) = T * (r / (T + 1)) + r / (T + 1) := by rw [Int.add_mul, Int.one_mul]
    omega
  · have ca := cnt_all (n := k + 1) (s := s) (m := m) (by omega)
    rw [show m = s * b0 + y0 from g3] at ca
    have cb := cnt_block (n := k) hs hsm g0 g1 (by omega) (Int.le_of_eq g3.symm)
    rw [← g3] at ca cb
    rw [hT, hR, hF] at cb
    have c1 := e1 y0
    have le1 := Int.min_le_right R (b0 + (if F < y0 then 1 else 0))
    have ex : (T + 1) * b0 = T * b0 + b0 := by rw [Int.add_mul, Int.one_mul]
    have cle := (cnt_le (n := T.toNat + 1) (s := -m % s) (m := s) (x := y0)).2
    rcases g4 with g4 | ⟨g4, g5⟩
    · have : (T + 1) * (b0 + 1) ≤ (T + 1) * (r / (T + 1)) := Int.mul_le_mul_of_nonneg_left (by omega) (by omega)
      rw [Int.mul_add, Int.mul_one] at this
      omega
    · have mo := cnt_mono (n := T.toNat + 1) (s := -m % s) (m := s) g5
      have := h.c0
      rw [g4] at ex le1 cb
      omega
theorem nth_late {s m r y : Int} {k : Nat} (hs : 0 < s) (hsm : s ≤ m) (hrn : r < (k + 1 : Nat)) (hr : (s * k % m / s + 1) * (s * k / m + 1) ≤ r) (hTp : 0 < s * k / m)
    (h : Nth (-m % s) s (s * k / m).toNat ((r - (s * k % m / s + 1) * (s * k / m + 1)) % (s * k / m)) y) :
    Nth s m (k + 1) r (s * (s * k % m / s + 1 + (r - (s * k % m / s + 1) * (s * k / m + 1)) / (s * k / m)) + y) := by
  have hP0 := Int.emod_nonneg (s * k) (show m ≠ 0 by omega)
  have hR0 : 0 ≤ s * k % m / s := Int.ediv_nonneg hP0 (by omega)
  have hd := Int.mul_ediv_add_emod (r - (s * k % m / s + 1) * (s * k / m + 1)) (s * k / m)
  have hr0 := Int.emod_nonneg (r - (s * k % m / s + 1) * (s * k / m + 1)) (show s * k / m ≠ 0 by omega)
  have hQ : 0 ≤ (r - (s * k % m / s + 1) * (s * k / m + 1)) / (s * k / m) := Int.ediv_nonneg (by omega) (by omega)
  generalize hT : s * k / m = T at *
  generalize hR : s * k % m / s + 1 = R at *
  generalize hF : (s * k % m) % s = F at *
  generalize hQe : (r - R * (T + 1)) / T = Q at *
  generalize hr' : (r - R * (T + 1)) % T = r' at *
  have ex : R * (T + 1) = T * R + R := by rw [Int.mul_add, Int.mul_one, Int.mul_comm]
  have ey : T * (R + Q) = T * R + T * Q := Int.mul_add ..
  refine nth_in (r' := r') hs hsm (by omega) hrn (fun x x0 xs b' eb hx => ?_) (fun b0 y0 g0 g1 g2 g3 g4 => ?_) h
  · rw [cnt_block hs hsm (by omega) x0 xs hx k, hT, hR, hF, eb]
    have : R ≤ R + Q + (if F < x then 1 else 0) := by split <;> omega
    rw [Int.min_eq_left this]
    omega
  · have ca := cnt_all (n := k + 1) (s := s) (m := m) (by omega)
    have cb := cnt_block (n := k) hs hsm g0 g1 (by omega) (Int.le_of_eq g3.symm)
    rw [← g3] at cb
    rw [hT, hR, hF] at cb
    have le1 := Int.min_le_left R (b0 + (if F < y0 then 1 else 0))
    have cle := (cnt_le (n := T.toNat) (s := -m % s) (m := s) (x := y0)).2
    rcases g4 with g4 | ⟨g4, g5⟩
    · have : T * (b0 + 1) ≤ T * (R + Q) := Int.mul_le_mul_of_nonneg_left (by omega) (by omega)
      rw [Int.mul_add, Int.mul_one] at this
      omega
    · have mo := cnt_mono (n := T.toNat) (s := -m % s) (m := s) g5
      have := h.c0
      rw [g4] at cb
      omega
end Lf
namespace Lf
/-! ### patterns and ranks -/
theorem pt_mod (p q i : Int) : (-p % q) * i % q = (-(p * i)) % q := by
  rw [Int.mul_emod, Int.emod_emod, ← Int.mul_emod, Int.neg_mul]
/-- the count i times on, from the remainder x -/
theorem cum_at {p q x i : Int} (hq : 0 < q) (h0 : 0 ≤ x) (h1 : x < q) : (p * i + x) / q = (p * i + (-(p * i)) % q) / q + (if (-(p * i)) % q ≤ x then 0 else -1) := by
  have z0 := Int.emod_nonneg (-(p * i)) (show q ≠ 0 by omega)
  have z1 := Int.emod_lt_of_pos (-(p * i)) hq
  have hd := Int.mul_ediv_add_emod (-(p * i)) q
  generalize (-(p * i)) % q = z at *
  generalize (-(p * i)) / q = m at *
  have e : p * i = -z + q * (-m) := by rw [Int.mul_neg]; omega
  rw [e, show -z + q * (-m) + x = (x - z) + q * (-m) by omega, show -z + q * (-m) + z = 0 + q * (-m) by omega, Int.add_mul_ediv_left _ _ (by omega), Int.add_mul_ediv_left _ _ (by omega), Int.zero_ediv]
  by_cases h : z ≤ x
  · rw [if_pos h, Int.ediv_eq_zero_of_lt (by omega) (by omega)]
    omega
  · rw [if_neg h]
    have : (x - z) / q = -1 := by
      rw [show x - z = (x - z + q) + q * (-1) by omega, Int.add_mul_ediv_left _ _ (by omega), Int.ediv_eq_zero_of_lt (by omega) (by omega)]
      omega
    omega
theorem cnt_eq {s m x y : Int} : ∀ n : Nat, (∀ i : Nat, i < n → (s * i % m < x ↔ s * i % m < y)) → cnt n s m x = cnt n s m y
  | 0, _ => rfl
  | n + 1, h => by
    have ih := cnt_eq n fun i hi => h i (by omega)
    have := h n (by omega)
    simp only [cnt]
    rw [ih]
    by_cases h1 : s * n % m < x
    · rw [if_pos h1, if_pos (this.mp h1)]
    · rw [if_neg h1, if_neg fun z => h1 (this.mpr z)]
theorem cnt_lt {s m x y : Int} (hxy : x ≤ y) : ∀ (n i : Nat), i < n → ¬ s * i % m < x → s * i % m < y → cnt n s m x < cnt n s m y
  | 0, _, h, _, _ => by omega
  | n + 1, i, h, h1, h2 => by
    simp only [cnt]
    by_cases hi : i = n
    · subst hi
      rw [if_neg h1, if_pos h2]
      have := cnt_mono (n := i) (s := s) (m := m) hxy
      omega
    · have := cnt_lt hxy n i (by omega) h1 h2
      split <;> split <;> omega
def ptn (p q c : Int) (w : Nat) (t : Int) : List Int := (List.range w).map fun (k : Nat) => (p * (t + k + 1) + c) / q - (p * (t + k) + c) / q
theorem ptn_len (p q c : Int) (w : Nat) (t : Int) : (ptn p q c w t).length = w := by simp [ptn]
/-- the count i times on, less the one now -/
def cum (p q x : Int) (i : Nat) : Int := (p * i + x) / q
theorem cum_of {p q c t : Int} (hq : 0 < q) (i : Nat) : (p * (t + i) + c) / q = (p * t + c) / q + cum p q ((p * t + c) % q) i := by
  unfold cum
  have hd := Int.mul_ediv_add_emod (p * t + c) q
  have e : p * (t + i) + c = (p * i + (p * t + c) % q) + q * ((p * t + c) / q) := by rw [Int.mul_add]; omega
  rw [e, Int.add_mul_ediv_left _ _ (by omega)]
  omega
theorem ptn_get {p q c t : Int} {w k : Nat} (hq : 0 < q) (h : k < w) : (ptn p q c w t)[k]? = some (cum p q ((p * t + c) % q) (k + 1) - cum p q ((p * t + c) % q) k) := by
  unfold ptn
  rw [List.getElem?_map, List.getElem?_range h]
  show some ((p * (t + (k : Int) + 1) + c) / q - (p * (t + (k : Int)) + c) / q) = _
  have e1 := cum_of (p := p) (q := q) (c := c) (t := t) hq (k + 1)
  have e2 := cum_of (p := p) (q := q) (c := c) (t := t) hq k
  rw [show t + (k : Int) + 1 = t + ((k + 1 : Nat) : Int) by omega, e1, e2]
  congr 1
  omega
theorem ptn_ext {p q c t u : Int} {w : Nat} (hq : 0 < q) (h : ∀ i : Nat, i ≤ w → cum p q ((p * t + c) % q) i = cum p q ((p * u + c) % q) i) : ptn p q c w t = ptn p q c w u := by
  refine List.ext_getElem? fun k => ?_
  by_cases hk : k < w
  · rw [ptn_get hq hk, ptn_get hq hk, h _ (by omega), h _ (by omega)]
  · rw [List.getElem?_eq_none (by rw [ptn_len]; omega), List.getElem?_eq_none (by rw [ptn_len]; omega)]
/-- what the comparison of two lists of one length tells -/
def LtB (ns ms : List Int) (k : Bool) : Prop := (ns = ms → k = false) ∧ ∀ (j : Nat) (x y : Int), (∀ i, i < j → ns[i]? = ms[i]?) → ns[j]? = some x → ms[j]? = some y → x ≠ y → k = decide (x < y)
/-- the rank, and one more -/
def rk (p q : Int) (N : Nat) (x : Int) : Int := cnt N (-p % q) q (x + 1)
theorem rk_mono {p q x y : Int} {N : Nat} (h : x ≤ y) : rk p q N x ≤ rk p q N y := cnt_mono (by omega)
theorem least_nat {P : Nat → Prop} (h : ∃ n, P n) : ∃ n, P n ∧ ∀ m, m < n → ¬ P m := by
  obtain ⟨n, hn⟩ := h
  obtain ⟨k, _, h2, h3⟩ := least_of (P := P) (n + 1) ⟨n, by omega, hn⟩
  exact ⟨k, h2, h3⟩
/-- from a lesser remainder to a greater one: all the same, or the first difference rises, and the rank too -/
theorem ptn_up {p q x y : Int} {v w N : Nat} (hq : 0 < q) (x0 : 0 ≤ x) (hxy : x < y) (y1 : y < q) (hv : v ≤ w) (hN : (N : Int) = min ((w : Int) + 1) q) :
    (∀ i : Nat, i ≤ v → cum p q x i = cum p q y i) ∨ (rk p q N x < rk p q N y ∧ ∃ j : Nat, j < v ∧ (∀ i : Nat, i ≤ j → cum p q x i = cum p q y i) ∧ cum p q x (j + 1) < cum p q y (j + 1)) := by
  by_cases hall : ∀ i : Nat, i ≤ v → cum p q x i = cum p q y i
  · exact .inl hall
  · right
    obtain ⟨i, hi⟩ : ∃ i : Nat, i ≤ v ∧ cum p q x i ≠ cum p q y i := by
      apply Classical.byContradiction
      intro hno
      exact hall fun i hi => Classical.byContradiction fun z => hno ⟨i, hi, z⟩
    obtain ⟨i, ⟨hiv, hne⟩, hmin⟩ := least_nat (P := fun i => i ≤ v ∧ cum p q x i ≠ cum p q y i) ⟨i, hi⟩
    have hx := cum_at (p := p) (i := (i : Int)) hq x0 (by omega)
    have hy := cum_at (p := p) (i := (i : Int)) hq (by omega) y1
    have z0 := Int.emod_nonneg (-(p * (i : Int))) (show q ≠ 0 by omega)
    have hne' : (p * (i : Int) + x) / q ≠ (p * (i : Int) + y) / q := hne
    have hz : ¬ (-(p * (i : Int))) % q ≤ x ∧ (-(p * (i : Int))) % q ≤ y := by
      rw [hx, hy] at hne'
      by_cases h1 : (-(p * (i : Int))) % q ≤ x
      · rw [if_pos h1, if_pos (by omega)] at hne'
        exact absurd rfl hne'
      · by_cases h2 : (-(p * (i : Int))) % q ≤ y
        · exact ⟨h1, h2⟩
        · rw [if_neg h1, if_neg h2] at hne'
          exact absurd rfl hne'
    have hi0 : i ≠ 0 := fun z => by
      subst z
      simp at hz
      omega
    refine ⟨?_, i - 1, by omega, fun k hk => ?_, ?_⟩
    · -- the rank
      have hiq : ((i : Int) % q) < q := Int.emod_lt_of_pos _ hq
      have hi0 : 0 ≤ ((i : Int) % q) := Int.emod_nonneg _ (by omega)
      have hle : ((i : Int) % q) ≤ i := by
        by_cases h : (i : Int) < q
        · rw [Int.emod_eq_of_lt (by omega) h]
          exact Int.le_refl _
        · omega
      have e : (-p % q) * ((((i : Int) % q).toNat : Nat) : Int) % q = (-(p * (i : Int))) % q := by
        rw [show ((((i : Int) % q).toNat : Nat) : Int) = (i : Int) % q by omega, pt_mod]
        have hd := Int.mul_ediv_add_emod (i : Int) q
        have : -(p * ((i : Int) % q)) = -(p * (i : Int)) + q * (p * ((i : Int) / q)) := by
          have h2 : p * (q * ((i : Int) / q) + (i : Int) % q) = p * i := by rw [hd]
          rw [Int.mul_add, Int.mul_left_comm] at h2
          omega
        rw [this, Int.add_mul_emod_self_left]
      exact cnt_lt (by omega) N ((i : Int) % q).toNat (by omega) (by rw [e]; omega) (by rw [e]; omega)
    · have := hmin k (by omega)
      exact Classical.byContradiction fun z => this ⟨by omega, z⟩
    · rw [show i - 1 + 1 = i by omega]
      show (p * (i : Int) + x) / q < (p * (i : Int) + y) / q
      rw [hx, hy, if_neg hz.1, if_pos hz.2]
      omega
theorem rk_same {p q x y : Int} {w N : Nat} (hq : 0 < q) (x0 : 0 ≤ x) (hxy : x < y) (y1 : y < q) (hN : (N : Int) = min ((w : Int) + 1) q) (h : ∀ i : Nat, i ≤ w → cum p q x i = cum p q y i) : rk p q N x = rk p q N y := by
  refine cnt_eq N fun i hi => ?_
  rw [pt_mod]
  have hx := cum_at (p := p) (i := (i : Int)) hq x0 (by omega)
  have hy := cum_at (p := p) (i := (i : Int)) hq (by omega) y1
  have he : (p * (i : Int) + x) / q = (p * (i : Int) + y) / q := h i (by omega)
  rw [hx, hy] at he
  by_cases h1 : (-(p * (i : Int))) % q ≤ x
  · constructor <;> intro <;> omega
  · by_cases h2 : (-(p * (i : Int))) % q ≤ y
    · rw [if_neg h1, if_pos h2] at he
      omega
    · constructor <;> intro <;> omega
theorem ltB_flip {ns ms : List Int} {j : Nat} {x y : Int} {k : Bool} (h : LtB ns ms k) (h1 : ∀ i, i < j → ns[i]? = ms[i]?) (h2 : ns[j]? = some x) (h3 : ms[j]? = some y) (h4 : x ≠ y) : k = decide (x < y) := h.2 j x y h1 h2 h3 h4
/-- patterns compare like their ranks; those of a first part too, if they differ -/
theorem ptn_cmp {p q c t u : Int} {v w N : Nat} {k : Bool} (hq : 0 < q) (hv : v ≤ w) (hN : (N : Int) = min ((w : Int) + 1) q) (hk : LtB (ptn p q c v t) (ptn p q c v u) k) :
    (ptn p q c v t = ptn p q c v u ∨ (k = decide (rk p q N ((p * t + c) % q) < rk p q N ((p * u + c) % q)) ∧ rk p q N ((p * t + c) % q) ≠ rk p q N ((p * u + c) % q))) ∧
      (v = w → ptn p q c v t = ptn p q c v u → rk p q N ((p * t + c) % q) = rk p q N ((p * u + c) % q)) := by
  have x0 := Int.emod_nonneg (p * t + c) (show q ≠ 0 by omega)
  have x1 := Int.emod_lt_of_pos (p * t + c) hq
  have y0 := Int.emod_nonneg (p * u + c) (show q ≠ 0 by omega)
  have y1 := Int.emod_lt_of_pos (p * u + c) hq
  rcases Int.lt_trichotomy ((p * t + c) % q) ((p * u + c) % q) with hxy | hxy | hxy
  · rcases ptn_up hq x0 hxy y1 hv hN with h | ⟨h1, j, hj, h2, h3⟩
    · refine ⟨.inl (ptn_ext hq h), fun e _ => ?_⟩
      subst e
      exact rk_same hq x0 hxy y1 hN h
    · have g1 := ptn_get (p := p) (c := c) (t := t) hq hj
      have g2 := ptn_get (p := p) (c := c) (t := u) hq hj
      have h2' := h2 j (Nat.le_refl _)
      have ek := hk.2 j _ _ (fun i hi => by rw [ptn_get hq (by omega), ptn_get hq (by omega), h2 i (by omega), h2 (i + 1) (by omega)]) g1 g2 (by omega)
      refine ⟨.inr ⟨?_, by omega⟩, fun _ e => ?_⟩
      · rw [ek, decide_eq_true (by omega), decide_eq_true h1]
      · rw [e, g2] at g1
        have := Option.some.inj g1
        omega
  · rw [hxy]
    refine ⟨.inl (ptn_ext hq fun i _ => by rw [hxy]), fun _ _ => rfl⟩
  · rcases ptn_up hq y0 hxy x1 hv hN with h | ⟨h1, j, hj, h2, h3⟩
    · refine ⟨.inl (ptn_ext hq fun i hi => (h i hi).symm), fun e _ => ?_⟩
      subst e
      exact (rk_same hq y0 hxy x1 hN h).symm
    · have g1 := ptn_get (p := p) (c := c) (t := t) hq hj
      have g2 := ptn_get (p := p) (c := c) (t := u) hq hj
      have h2' := h2 j (Nat.le_refl _)
      have ek := hk.2 j _ _ (fun i hi => by rw [ptn_get hq (by omega), ptn_get hq (by omega), h2 i (by omega), h2 (i + 1) (by omega)]) g1 g2 (by omega)
      refine ⟨.inr ⟨?_, by omega⟩, fun _ e => ?_⟩
      · rw [ek, decide_eq_false (by omega), decide_eq_false (by omega)]
      · rw [e, g2] at g1
        have := Option.some.inj g1
        omega
/-- the rank by the hits -/
theorem ch_rk {p q x : Int} (hq : 0 < q) (h0 : 0 ≤ x) (h1 : x < q) : ∀ N : Nat, ch N (-p) 0 q 0 x = rk p q N x
  | 0 => rfl
  | N + 1 => by
    have ih := ch_rk (p := p) hq h0 h1 N
    unfold ch rk at *
    simp only [fs, cnt]
    rw [pt_mod, show -p * (N : Int) + (0 - 0) = -(p * (N : Int)) - 0 by rw [Int.neg_mul]; omega, show -p * (N : Int) + (0 - x - 1) = -(p * (N : Int)) - x - 1 by rw [Int.neg_mul]; omega]
    by_cases h : 0 ≤ (-(p * (N : Int))) % q ∧ (-(p * (N : Int))) % q ≤ x
    · have := hit_term1 (x := -(p * (N : Int))) h1 (Int.le_refl _) h
      rw [if_pos (by omega)]
      omega
    · have := hit_term (x := -(p * (N : Int))) (Int.le_refl 0) h0 h1 h
      have := Int.emod_nonneg (-(p * (N : Int))) (show q ≠ 0 by omega)
      rw [if_neg (by omega)]
      omega
end Lf
namespace Lf
theorem nth_unique {s m r y z : Int} {n : Nat} (h : Nth s m n r y) (h' : Nth s m n r z) : y = z := by
  rcases Int.lt_trichotomy y z with g | g | g
  · have := cnt_mono (n := n) (s := s) (m := m) (show y + 1 ≤ z by omega)
    have := h.c1
    have := h'.c0
    omega
  · exact g
  · have := cnt_mono (n := n) (s := s) (m := m) (show z + 1 ≤ y by omega)
    have := h.c0
    have := h'.c1
    omega
/-- the arc of the remainders with the rank k, of N -/
structure Arc (p q : Int) (N : Nat) (k lo hi : Int) : Prop where
  at_ : Nth (-p % q) q N k lo
  nx : k + 1 < N → Nth (-p % q) q N (k + 1) (hi + 1)
  en : k + 1 = N → hi + 1 = q
theorem Arc.le {p q k lo hi : Int} {N : Nat} (A : Arc p q N k lo hi) (hk : k < N) : 0 ≤ lo ∧ lo ≤ hi ∧ hi < q := by
  have h1 := A.at_.y0
  have h2 := A.at_.ym
  by_cases h : k + 1 < N
  · have B := A.nx h
    have h3 := B.ym
    refine ⟨h1, ?_, by omega⟩
    apply Int.le_of_not_gt
    intro hlt
    have := cnt_mono (n := N) (s := -p % q) (m := q) (show hi + 1 ≤ lo by omega)
    have := A.at_.c0
    have := B.c0
    omega
  · have := A.en (by omega)
    omega
theorem Arc.rank {p q k lo hi x : Int} {N : Nat} (A : Arc p q N k lo hi) (hk : k < N) (hq : 0 < q) (h1 : x < q) : rk p q N x - 1 = k ↔ lo ≤ x ∧ x ≤ hi := by
  unfold rk
  constructor
  · intro h
    refine ⟨?_, ?_⟩
    · apply Int.le_of_not_gt
      intro hlt
      have := cnt_mono (n := N) (s := -p % q) (m := q) (show x + 1 ≤ lo by omega)
      have := A.at_.c0
      omega
    · by_cases hn : k + 1 < N
      · have B := A.nx hn
        apply Int.le_of_not_gt
        intro hlt
        have := cnt_mono (n := N) (s := -p % q) (m := q) (show hi + 1 + 1 ≤ x + 1 by omega)
        have := B.c1
        omega
      · have := A.en (by omega)
        omega
  · rintro ⟨g1, g2⟩
    have := cnt_mono (n := N) (s := -p % q) (m := q) (show lo + 1 ≤ x + 1 by omega)
    have := A.at_.c1
    by_cases hn : k + 1 < N
    · have B := A.nx hn
      have := cnt_mono (n := N) (s := -p % q) (m := q) (show x + 1 ≤ hi + 1 by omega)
      have := B.c0
      omega
    · have := (cnt_le (n := N) (s := -p % q) (m := q) (x := x + 1)).2
      omega
theorem rk_in {p q x : Int} {N : Nat} (hq : 0 < q) (hg : Int.gcd (-p % q) q = 1) (h1 : 1 ≤ N) (h2 : (N : Int) ≤ q) (x0 : 0 ≤ x) : 0 ≤ rk p q N x - 1 ∧ rk p q N x - 1 < N := by
  have h := (nth_zero (n := N) hg h1 h2).c1
  have := cnt_mono (n := N) (s := -p % q) (m := q) (show 0 + 1 ≤ x + 1 by omega)
  have := (cnt_le (n := N) (s := -p % q) (m := q) (x := x + 1)).2
  unfold rk
  omega
theorem gcd_np {p q : Int} (hq : 0 < q) (hg : Int.gcd p q = 1) : Int.gcd (-p % q) q = 1 := by
  have h1 : Int.gcd q (-p % q) = Int.gcd q (-p) := by
    rw [Int.gcd_comm q (-p % q), Int.emod_def]
    rw [Int.gcd_comm (-p - q * (-p / q)) q, Int.gcd_sub_mul_left_right]
  rw [Int.gcd_comm, h1, Int.gcd_comm, Int.neg_gcd, hg]
/-- the numbers of hits of neighbouring arcs -/
theorem ch_fs (M : Nat) (p b q lo hi : Int) : ch M p b q lo hi = fs M p (b - lo) q - fs M p (b - (hi + 1)) q := by
  unfold ch
  rw [show b - hi - 1 = b - (hi + 1) by omega]
theorem fs_down (M : Nat) (p b q : Int) (hq : 0 < q) : fs M p (b - q) q = fs M p b q - M := by
  have := fs_up M p (b - q) q hq
  rw [show b - q + q = b by omega] at this
  omega
/-- there is a hit -/
theorem hit_ex {p q x lo hi : Int} (hq : 0 < q) (hg : Int.gcd p q = 1) (h0 : 0 ≤ lo) (h1 : lo ≤ hi) (h2 : hi < q) : ¬ NoM (HitP x p q lo hi) := fun hno => by
  have z := ch_zero (N := q.toNat) (s := p) (pl := x) h0 h1 h2 (fun n _ => hno n (by omega))
  rw [ch_fs, fs_any p q (x - lo) hq hg, fs_any p q (x - (hi + 1)) hq hg] at z
  omega
theorem cnt_full {p q x : Int} (hq : 0 < q) (hg : Int.gcd p q = 1) (h0 : 0 ≤ x) (h1 : x ≤ q) : cnt q.toNat (-p % q) q x = x := by
  by_cases hx : x = 0
  · subst hx
    exact cnt_none hq
  · have := ch_rk (p := p) (q := q) (x := x - 1) hq (by omega) (by omega) q.toNat
    unfold rk at this
    rw [show x - 1 + 1 = x by omega] at this
    rw [← this, ch_fs, fs_any (-p) q (0 - 0) hq (by rw [Int.neg_gcd]; exact hg), fs_any (-p) q (0 - (x - 1 + 1)) hq (by rw [Int.neg_gcd]; exact hg)]
    omega
theorem rk_full {p q x : Int} (hq : 0 < q) (hg : Int.gcd p q = 1) (h0 : 0 ≤ x) (h1 : x < q) : rk p q q.toNat x - 1 = x := by
  unfold rk
  rw [cnt_full hq hg (by omega) (by omega)]
  omega
theorem arc_full {p q k lo hi : Int} (hq : 0 < q) (hg : Int.gcd p q = 1) (k0 : 0 ≤ k) (hk : k < q) (A : Arc p q q.toNat k lo hi) : lo = k ∧ hi = k := by
  have h := A.at_.c0
  rw [cnt_full hq hg A.at_.y0 (by have := A.at_.ym; omega)] at h
  refine ⟨h, ?_⟩
  by_cases hn : k + 1 < q
  · have B := A.nx (by omega)
    have h2 := B.c0
    rw [cnt_full hq hg B.y0 (by have := B.ym; omega)] at h2
    omega
  · have := A.en (by omega)
    omega
/-- the first multiple of the cycle -/
theorem lst_cycle {p q x lo : Int} (hq : 0 < q) (hg : Int.gcd p q = 1) (e : x % q = (lo + p) % q) (h0 : 0 ≤ lo) (h1 : lo < q) : Lst (HitP x p q lo lo) (q - 1) := by
  have key : ∀ n : Int, (x + p * n) % q = (lo + p * (n + 1)) % q := fun n => by
    rw [Int.add_emod, e, ← Int.add_emod, Int.mul_add, Int.mul_one]
    congr 1
    omega
  refine ⟨by omega, ?_, fun k k0 kq hh => ?_⟩
  · have : (x + p * (q - 1)) % q = lo := by
      rw [key, show q - 1 + 1 = q by omega, Int.mul_comm p q, Int.add_mul_emod_self_left, Int.emod_eq_of_lt h0 h1]
    exact ⟨by omega, by omega⟩
  · have h2 : (lo + p * (k + 1)) % q = lo := by
      have := hh.1
      have := hh.2
      rw [← key]
      omega
    have h3 : (p * (k + 1)) % q = 0 := by
      have h4 : (lo + p * (k + 1) - lo) % q = 0 := by
        rw [Int.sub_emod, h2, Int.emod_eq_of_lt h0 h1]
        simp
      rw [show lo + p * (k + 1) - lo = p * (k + 1) by omega] at h4
      exact h4
    exact pt_ne hg (by omega) (by omega) h3
end Lf
namespace Lf
open PySem PySem.Spec PyProof.Rows L2
theorem iteD {c A B : Prop} [Decidable c] (hc : c) (h : A) : if decide c = true then A else B := by
  rw [if_pos (decide_eq_true hc)]
  exact h
theorem iteDn {c A B : Prop} [Decidable c] (hc : ¬ c) (h : B) : if decide c = true then A else B := by
  rw [if_neg (fun z => hc (of_decide_eq_true z))]
  exact h
theorem mulW {a b : Nat} {x y : Int} (h : Bd a x) (h2 : Bd b y) (ha : 0 < a) (hb : 0 < b) (hab : a + b ≤ 1000000) : CMulW x y := wide_mul h h2 ha hb hab
theorem divW {b : Nat} {x y : Int} (h0 : 0 < y) (h : Bd b y) (hb : b ≤ 9000) : CDivW x y := ⟨h0, (h.mono hb).log (by decide)⟩
theorem divP {b : Nat} {x y : Int} (h0 : 0 < y) (h : Bd b y) (hb : b ≤ 9000) : CDivP x y := ⟨h0, PyProof.noPylong_of_log2 ((h.mono hb).log (by decide))⟩
theorem kii : kitB "int" "int" = some true := by decide +kernel
theorem kib : kitB "int" "bool" = some false := by decide +kernel
theorem ktt : kitB "tuple" "tuple" = some true := by decide +kernel
section
variable {P : Program} {w : World} {K : PySem.W.Frag} {mg : Str → Option Value} {base : Heap}
/-! ### integers -/
def spIsInt : Sp := fun vs H Q _ => ∃ i : Int, vs = [.int i] ∧ Q (.bl true) H
abbrev s_is_integer : Stmt := topS 5
abbrev N_is_integer : List Str := ["value"]
abbrev P_is_integer : List Str := ["value"]
theorem sc_is_integer : FnScope N_is_integer P_is_integer (defScope s_is_integer) := ⟨rfl, rfl, rfl, by decide +kernel, rfl, by decide +kernel, by decide +kernel⟩
theorem ok_is_integer (D : Df K mg "is_integer" s_is_integer P_is_integer) (B : Bi mg) : C8.Cal P w K mg base 1 "is_integer" spIsInt [] := by
  refine cal_of D sc_is_integer (fun vs H Q E h => ?_) (fun f cdv A outer s H vs Q E hr h => ?_)
  · obtain ⟨i, rfl, _⟩ := h
    rfl
  · obtain ⟨i, rfl, q⟩ := h
    refine ⟨_, (pss_one (ps_ret (pe_and (pe_callB (call_isi) (by rfl) B.isinstance_ bt_isinstance (pa_cons (pv 0) (pa_cons (pe_bltn (v := .ty "int") (by rfl) B.int_ bt_int rfl) pa_nil))) (pe_one (pe_not (pe_callB (call_isi) (by rfl) B.isinstance_ bt_isinstance (pa_cons (pv 0) (pa_cons (pe_bltn (v := .ty "bool") (by rfl) B.bool_ bt_bool rfl) pa_nil)))))))), ?_⟩
    refine ⟨_, rfl, _, _, _, _, true, rfl, .ty "int", .base (.int i), kit_ty kii, true, rfl, iteT ?_⟩
    exact ⟨_, rfl, _, _, _, _, false, rfl, .ty "bool", .base (.int i), kit_ty kib, false, rfl, q⟩
def spCheckInt : Sp := fun vs H Q _ => ∃ i : Int, vs = [.int i] ∧ Q .non H
abbrev s_check_integer : Stmt := topS 6
abbrev N_check_integer : List Str := ["value"]
abbrev P_check_integer : List Str := ["value"]
theorem sc_check_integer : FnScope N_check_integer P_check_integer (defScope s_check_integer) := ⟨rfl, rfl, rfl, by decide +kernel, rfl, by decide +kernel, by decide +kernel⟩
theorem ok_check_integer (D : Df K mg "check_integer" s_check_integer P_check_integer) (c_is_integer : C8.Cal P w K mg base 1 "is_integer" spIsInt []) : C8.Cal P w K mg base 2 "check_integer" spCheckInt [] := by
  refine cal_of D sc_check_integer (fun vs H Q E h => ?_) (fun f cdv A outer s H vs Q E hr h => ?_)
  · obtain ⟨i, rfl, _⟩ := h
    rfl
  · obtain ⟨i, rfl, q⟩ := h
    refine ⟨_, (pss_one (ps_if (pt_not (pt_val (C8.pe_c c_is_integer hr (by decide) (by rfl) (pa_cons (pv 0) pa_nil))))
      (pss_one ps_never)
      pss_nil)), ?_⟩
    exact ⟨_, rfl, i, rfl, true, rfl, iteF q⟩
end
end Lf
namespace Lf
open PySem PySem.Spec PyProof.Rows L2
section
variable {P : Program} {w : World} {K : PySem.W.Frag} {mg : Str → Option Value} {base : Heap}
def spCheckAL : Sp := fun vs H Q _ => ∃ v l : Int, vs = [.int v, .int l] ∧ l ≤ v ∧ Q .non H
abbrev s_check_at_least : Stmt := topS 7
abbrev N_check_at_least : List Str := ["value", "least"]
abbrev P_check_at_least : List Str := ["value", "least"]
theorem sc_check_at_least : FnScope N_check_at_least P_check_at_least (defScope s_check_at_least) := ⟨rfl, rfl, rfl, by decide +kernel, rfl, by decide +kernel, by decide +kernel⟩
theorem ok_check_at_least (D : Df K mg "check_at_least" s_check_at_least P_check_at_least) (c_is_integer : C8.Cal P w K mg base 1 "is_integer" spIsInt []) : C8.Cal P w K mg base 2 "check_at_least" spCheckAL [] := by
  refine cal_of D sc_check_at_least (fun vs H Q E h => ?_) (fun f cdv A outer s H vs Q E hr h => ?_)
  · obtain ⟨v, l, rfl, _⟩ := h
    rfl
  · obtain ⟨v, l, rfl, hl, q⟩ := h
    refine ⟨_, (pss_one (ps_if (PW.pt (pw_or (pt_not (pt_val (C8.pe_c c_is_integer hr (by decide) (by rfl) (pa_cons (pv 0) pa_nil)))) (pw_or1 (pt_cmpR op_lt (pv 0) (pv 1) (nomark _)))))
      (pss_one ps_never)
      pss_nil)), ?_⟩
    refine ⟨_, rfl, v, rfl, true, rfl, iteF ?_⟩
    exact ⟨_, rfl, _, rfl, _, _, rfl, rfl, _, rfl, iteDn (by omega) q⟩
end
end Lf
namespace Lf
open PySem PySem.Spec PyProof.Rows L2
section
variable {P : Program} {w : World} {K : PySem.W.Frag} {mg : Str → Option Value} {base : Heap}
def spCheckRange : Sp := fun vs H Q _ => ∃ x y : Int, vs = [.int x, .int y] ∧ Q .non H
abbrev s_check_range : Stmt := topS 9
abbrev N_check_range : List Str := ["start", "stop"]
abbrev P_check_range : List Str := ["start", "stop"]
theorem sc_check_range : FnScope N_check_range P_check_range (defScope s_check_range) := ⟨rfl, rfl, rfl, by decide +kernel, rfl, by decide +kernel, by decide +kernel⟩
theorem ok_check_range (D : Df K mg "check_range" s_check_range P_check_range) (c_check_integer : C8.Cal P w K mg base 2 "check_integer" spCheckInt []) : C8.Cal P w K mg base 3 "check_range" spCheckRange [] := by
  refine cal_of D sc_check_range (fun vs H Q E h => ?_) (fun f cdv A outer s H vs Q E hr h => ?_)
  · obtain ⟨v, l, rfl, _⟩ := h
    rfl
  · obtain ⟨v, l, rfl, q⟩ := h
    refine ⟨_, (pss_cons (ps_expr (C8.pe_c c_check_integer hr (by decide) (by rfl) (pa_cons (pv 0) pa_nil)))
    (pss_one (ps_expr (C8.pe_c c_check_integer hr (by decide) (by rfl) (pa_cons (pv 1) pa_nil))))), ?_⟩
    exact ⟨_, rfl, _, rfl, _, rfl, _, rfl, q⟩
end
end Lf
namespace Lf
open PySem PySem.Spec PyProof.Rows L2
section
variable {P : Program} {w : World} {K : PySem.W.Frag} {mg : Str → Option Value} {base : Heap}
abbrev s_gcd : Stmt := topS 10
abbrev N_gcd : List Str := ["first", "second"]
abbrev P_gcd : List Str := ["first", "second"]
theorem sc_gcd : FnScope N_gcd P_gcd (defScope s_gcd) := ⟨rfl, rfl, rfl, by decide +kernel, rfl, by decide +kernel, by decide +kernel⟩
theorem ok_gcd (D : Df K mg "gcd" s_gcd P_gcd) : C8.Cal P w K mg base 1 "gcd" spGcd [] := by
  refine cal_of D sc_gcd (fun vs H Q E h => ?_) (fun f cdv A outer s H vs Q E hr h => ?_)
  · obtain ⟨x, y, rfl, _⟩ := h
    rfl
  · obtain ⟨x, y, rfl, hx, hy, q⟩ := h
    refine ⟨_, (pss_cons (ps_while PassesOwn.never (pt_truth (pv 1) (fun _ => rfl))
      (pss_one (ps_par (i := 0) (j := 1) rfl sc_gcd.nd rfl rfl (by decide) rfl rfl (pa_cons (pv 1) (pa_cons (pe_op op_mod (pv 0) (pv 1)) pa_nil)) rfl)))
    (pss_one (ps_ret (pv 0)))), ?_⟩
    refine while_by (fun σ H' => ∃ u v : Int, σ = [some (.int u), some (.int v)] ∧ 0 ≤ u ∧ 0 ≤ v ∧ Int.gcd u v = Int.gcd x y ∧ H' = H) mu1 ⟨x, y, rfl, hx, hy, rfl, rfl⟩ ?_ ?_
    · rintro σ H' ⟨u, v, rfl, hu, hv, e, rfl⟩
      refine ⟨_, rfl, _, rfl, ite2 (fun c => ?_) (fun c => ?_)⟩
      · have hv0 : 0 < v := by
          have : v ≠ 0 := by simpa using c
          omega
        refine ⟨_, rfl, _, rfl, _, rfl, _, _, rfl, rfl, hv0, _, _, rfl, ⟨v, u % v, rfl, hv, Int.emod_nonneg _ (by omega), ?_, rfl⟩, ?_⟩
        · rw [gcd_turn u v hu hv0]; exact e
        · show (u % v).toNat < v.toNat
          have := Int.emod_lt_of_pos u hv0
          omega
      · have hv0 : v = 0 := by simpa using c
        subst hv0
        refine ⟨_, rfl, ?_⟩
        have e2 : (Int.gcd x y : Int) = u := by
          rw [← e, Int.gcd_zero_right]
          omega
        rw [← e2]
        exact q
    · rintro σ H' Q1 Q2 hQ ⟨v, h1, b, h4, h5⟩
      exact ⟨v, h1, b, h4, hQ _ _ h5⟩
/-! ### rules -/
def spIsRule : Sp := fun vs H Q _ => ∃ (r : Addr) (p q c : Int) (k : Nat), vs = [.ref r] ∧ H r = some (.tup [.int p, .int q, .int c]) ∧ RuleB k p q c ∧ ∀ H', Same H H' → Q (.bl true) H'
abbrev s_is_rule : Stmt := topS 21
abbrev N_is_rule : List Str := ["value", "item"]
abbrev P_is_rule : List Str := ["value"]
theorem sc_is_rule : FnScope N_is_rule P_is_rule (defScope s_is_rule) := ⟨rfl, rfl, rfl, by decide +kernel, rfl, by decide +kernel, by decide +kernel⟩
theorem ok_is_rule (D : Df K mg "is_rule" s_is_rule P_is_rule) (B : Bi mg) (c_is_integer : C8.Cal P w K mg base 1 "is_integer" spIsInt []) (c_gcd : C8.Cal P w K mg base 1 "gcd" spGcd []) : C8.Cal P w K mg base 2 "is_rule" spIsRule [] := by
  refine cal_of D sc_is_rule (fun vs H Q E h => ?_) (fun f cdv A outer s H vs Q E hr h => ?_)
  · obtain ⟨r, p, q, c, k, rfl, _⟩ := h
    rfl
  · obtain ⟨r, p, q, c, k, rfl, er, R, kk⟩ := h
    refine ⟨_, (pss_cons (ps_if (PW.pt (pw_or (pt_not (pt_val (pe_callB (call_isi) (by rfl) B.isinstance_ bt_isinstance (pa_cons (pv 0) (pa_cons (pe_bltn (v := .ty "tuple") (by rfl) B.tuple_ bt_tuple rfl) pa_nil))))) (pw_or1 (pt_cmpR op_ne (pe_callB (call_len_seq) (by rfl) B.len_ bt_len (pa_cons (pv 0) pa_nil)) pe_int (nomark _)))))
      (pss_one (ps_ret pe_bl))
      pss_nil)
    (pss_cons (ps_if (pt_not (pt_val (pe_callB (cr_all rfl) (by rfl) B.all_ bt_all (pa_cons (pe_lc (own := [("item", 1)]) (g := (gName 1)) (by rfl) sc_is_rule.nd (pi_tup (pv 0)) (blkOk_by (own := [("item", 1)]) (N := N_is_rule) (sc := defScope s_is_rule) (by decide +kernel)) (fun _ _ _ _ _ => (pg_name (i := 1) sc_is_rule.nd rfl (Or.inl rfl))) (fun _ _ _ _ _ => pts_nil) (fun _ _ _ _ _ => (C8.pe_c c_is_integer hr (by decide) (by rfl) (pa_cons (pv 1) pa_nil)))) pa_nil))))
      (pss_one (ps_ret pe_bl))
      pss_nil)
    (pss_one (ps_ret (pe_and (pe_cmpR op_ge (pe_ix (r := rIxT K) ix_tup (pv 0) pe_int (fun _ _ => rfl)) pe_int (nomark _)) (pe_and (pe_cmpR op_ge (pe_ix (r := rIxT K) ix_tup (pv 0) pe_int (fun _ _ => rfl)) pe_int (nomark _)) (pe_one (pe_cmpR op_eq (C8.pe_c c_gcd hr (by decide) (by rfl) (pa_cons (pe_ix (r := rIxT K) ix_tup (pv 0) pe_int (fun _ _ => rfl)) (pa_cons (pe_ix (r := rIxT K) ix_tup (pv 0) pe_int (fun _ _ => rfl)) pa_nil))) pe_int (nomark _))))))))), ?_⟩
    refine ⟨_, rfl, _, _, _, _, true, rfl, .ty "tuple", .base (.tup er), kit_ty ktt, true, rfl, iteF ?_⟩
    refine ⟨_, rfl, r, _, rfl, .inr (SqT.of er), rfl, _, rfl, iteNS rfl ?_⟩
    refine ⟨_, rfl, r, rfl, ⟨_, SqT.of er⟩, fun L nL => ?_⟩
    refine lc_tup (K := K) (a := r) (xs := [.int p, .int q, .int c]) (fun i H' => Same H H' ∧ H' L = some (.lst (List.replicate i (V.bl true)))) ?_ ?_ ?_ ?_
    · exact ⟨sm_upd nL, upd_same⟩
    · rintro i H' hi ⟨s1, _⟩
      exact SqT.of (s1 _ _ er)
    · rintro i x H' hx ⟨s1, eL⟩
      have hi : i < 3 := (List.getElem?_eq_some_iff.mp hx).1
      obtain ⟨z, rfl⟩ : ∃ z, x = V.int z := by
        match i, hi with
        | 0, _ => exact ⟨p, (Option.some.inj hx).symm⟩
        | 1, _ => exact ⟨q, (Option.some.inj hx).symm⟩
        | 2, _ => exact ⟨c, (Option.some.inj hx).symm⟩
      refine ⟨rfl, _, rfl, z, rfl, _, eL, ?_, ?_, ?_⟩
      · rw [List.length_replicate]
        exact small1000 (by omega)
      · intro b o eb
        rw [upd_ne (ne_of_none eb nL)]
        exact s1 _ _ eb
      · rw [upd_same, ← List.replicate_succ']
    · rintro H' ⟨s1, eL⟩
      have eL' : H' L = some (.lst ([true, true, true].map V.bl)) := eL
      refine ⟨L, [true, true, true], rfl, SqL.of eL', true, rfl, iteF ?_⟩
      have er' := s1 _ _ er
      refine ⟨_, rfl, r, _, _, _, rfl, rfl, SqT.of er', atI_nat (j := 0) rfl, _, _, rfl, rfl, _, rfl, iteD R.p0 ?_⟩
      refine ⟨_, rfl, r, _, _, _, rfl, rfl, SqT.of er', atI_nat (j := 1) rfl, _, _, rfl, rfl, _, rfl, iteD R.q1 ?_⟩
      refine ⟨_, rfl, r, _, _, _, rfl, rfl, SqT.of er', atI_nat (j := 0) rfl, _, rfl, r, _, _, _, rfl, rfl, SqT.of er', atI_nat (j := 1) rfl, p, q, rfl, R.p0, by have := R.q1; omega, rfl, ?_⟩
      rw [R.g]
      exact kk _ s1
def spCheckRule : Sp := fun vs H Q _ => ∃ (r : Addr) (p q c : Int) (k : Nat), vs = [.ref r] ∧ H r = some (.tup [.int p, .int q, .int c]) ∧ RuleB k p q c ∧ ∀ H', Same H H' → Q .non H'
abbrev s_check_rule : Stmt := topS 22
abbrev N_check_rule : List Str := ["value"]
abbrev P_check_rule : List Str := ["value"]
theorem sc_check_rule : FnScope N_check_rule P_check_rule (defScope s_check_rule) := ⟨rfl, rfl, rfl, by decide +kernel, rfl, by decide +kernel, by decide +kernel⟩
theorem ok_check_rule (D : Df K mg "check_rule" s_check_rule P_check_rule) (c_is_rule : C8.Cal P w K mg base 2 "is_rule" spIsRule []) : C8.Cal P w K mg base 3 "check_rule" spCheckRule [] := by
  refine cal_of D sc_check_rule (fun vs H Q E h => ?_) (fun f cdv A outer s H vs Q E hr h => ?_)
  · obtain ⟨r, p, q, c, k, rfl, _⟩ := h
    rfl
  · obtain ⟨r, p, q, c, k, rfl, er, R, kk⟩ := h
    refine ⟨_, (pss_one (ps_if (pt_not (pt_val (C8.pe_c c_is_rule hr (by decide) (by rfl) (pa_cons (pv 0) pa_nil))))
      (pss_one ps_never)
      pss_nil)), ?_⟩
    exact ⟨_, rfl, r, p, q, c, k, rfl, er, R, fun H' s1 => ⟨true, rfl, iteF (kk _ s1)⟩⟩
end
end Lf
namespace Lf
open PySem PySem.Spec PyProof.Rows L2
section
variable {P : Program} {w : World} {K : PySem.W.Frag} {mg : Str → Option Value} {base : Heap}
/-! ### floor_sum -/
def spFloor : Sp := fun vs H Q _ => ∃ (n a b m : Int) (k : Nat), vs = [.int n, .int a, .int b, .int m] ∧ 0 ≤ n ∧ 1 ≤ m ∧ Bd k n ∧ Bd k a ∧ Bd k b ∧ Bd k m ∧ 0 < k ∧ k ≤ 8000 ∧ ∀ H', Same H H' → Q (.int (fs n.toNat a b m)) H'
def mu3 : L2.St → Hp → Nat := fun σ _ => match σ with
  | _ :: _ :: _ :: some (.int v) :: _ => v.toNat
  | _ => 0
abbrev s_floor_sum : Stmt := topS 18
abbrev N_floor_sum : List Str := ["number", "slope", "offset", "divisor", "total", "whole"]
abbrev P_floor_sum : List Str := ["number", "slope", "offset", "divisor"]
theorem sc_floor_sum : FnScope N_floor_sum P_floor_sum (defScope s_floor_sum) := ⟨rfl, rfl, rfl, by decide +kernel, rfl, by decide +kernel, by decide +kernel⟩
theorem okF_floor_sum (D : Df K mg "floor_sum" s_floor_sum P_floor_sum) (B : Bi mg) (c_check_integer : C8.Cal P w K mg base 2 "check_integer" spCheckInt []) (c_check_at_least : C8.Cal P w K mg base 2 "check_at_least" spCheckAL []) : CalF P w K mg base 3 "floor_sum" s_floor_sum P_floor_sum spFloor := by
  refine calF_of D sc_floor_sum (fun vs H Q E h => ?_) (fun f cdv A outer s H vs Q E hr h => ?_)
  · obtain ⟨n, a, b, m, k, rfl, _⟩ := h
    rfl
  · obtain ⟨n, a, b, m, k, rfl, hn, hm, bn, ba, bb, bm, k0, k8, q⟩ := h
    refine ⟨_, (pss_cons (ps_expr (C8.pe_c c_check_at_least hr (by decide) (by rfl) (pa_cons (pv 0) (pa_cons pe_int pa_nil))))
    (pss_cons (ps_expr (C8.pe_c c_check_integer hr (by decide) (by rfl) (pa_cons (pv 1) pa_nil)))
    (pss_cons (ps_expr (C8.pe_c c_check_integer hr (by decide) (by rfl) (pa_cons (pv 2) pa_nil)))
    (pss_cons (ps_expr (C8.pe_c c_check_at_least hr (by decide) (by rfl) (pa_cons (pv 3) (pa_cons pe_int pa_nil))))
    (pss_cons (ps_set (i := 4) sc_floor_sum.nd rfl (Or.inl rfl) pe_int)
    (pss_cons (ps_while PassesOwn.never (pt_cmpR op_gt (pv 0) pe_int (nomark _))
      (pss_cons (ps_asg (pe_callB (call_divmodW) (by rfl) B.divmod_ bt_divmod (pa_cons (pv 1) (pa_cons (pv 3) pa_nil))) (pg_tup rfl (pgs_cons (pg_name (i := 5) sc_floor_sum.nd rfl (Or.inl rfl)) (pgs_cons (pg_name (i := 1) sc_floor_sum.nd rfl (Or.inl rfl)) pgs_nil))))
    (pss_cons (ps_aug (i := 4) sc_floor_sum.nd rfl (Or.inl rfl) (pe_op op_mulW (pv 5) (pe_op op_fdiv (pe_op op_mulW (pv 0) (pe_op op_sub (pv 0) pe_int)) pe_int)) ip_add)
    (pss_cons (ps_asg (pe_callB (call_divmodW) (by rfl) B.divmod_ bt_divmod (pa_cons (pv 2) (pa_cons (pv 3) pa_nil))) (pg_tup rfl (pgs_cons (pg_name (i := 5) sc_floor_sum.nd rfl (Or.inl rfl)) (pgs_cons (pg_name (i := 2) sc_floor_sum.nd rfl (Or.inl rfl)) pgs_nil))))
    (pss_cons (ps_aug (i := 4) sc_floor_sum.nd rfl (Or.inl rfl) (pe_op op_mulW (pv 5) (pv 0)) ip_add)
    (pss_cons (ps_asg (pe_callB (call_divmodW) (by rfl) B.divmod_ bt_divmod (pa_cons (pe_op op_add (pe_op op_mulW (pv 1) (pv 0)) (pv 2)) (pa_cons (pv 3) pa_nil))) (pg_tup rfl (pgs_cons (pg_name (i := 0) sc_floor_sum.nd rfl (Or.inl rfl)) (pgs_cons (pg_name (i := 2) sc_floor_sum.nd rfl (Or.inl rfl)) pgs_nil))))
    (pss_one (ps_par (i := 1) (j := 3) rfl sc_floor_sum.nd rfl rfl (by decide) rfl rfl (pa_cons (pv 3) (pa_cons (pv 1) pa_nil)) rfl))))))))
    (pss_one (ps_ret (pv 4))))))))), ?_⟩
    refine ⟨_, rfl, n, 0, rfl, hn, _, rfl, a, rfl, _, rfl, b, rfl, _, rfl, m, 1, rfl, hm, ?_⟩
    refine while_by (fun σ H' => ∃ (N a' b' m' T : Int) (y : Option V), σ = [some (.int N), some (.int a'), some (.int b'), some (.int m'), some (.int T), y] ∧ 0 ≤ N ∧ 0 ≤ m' ∧ (0 < N → 0 < m') ∧ Bd k N ∧ Bd k a' ∧ Bd k b' ∧ Bd k m' ∧
      T + fs N.toNat a' b' m' = fs n.toNat a b m ∧ Same H H') mu3 ⟨n, a, b, m, 0, none, rfl, hn, by omega, fun _ => by omega, bn, ba, bb, bm, by omega, Same.refl _⟩ ?_ ?_
    · rintro σ H' ⟨N, a', b', m', T, y, rfl, hN, hm0, hNm, bN, ba', bb', bm', e, s1⟩
      refine ⟨_, rfl, _, _, rfl, rfl, _, rfl, ite2 (fun c => ?_) (fun c => ?_)⟩
      · have hN0 : 0 < N := of_decide_eq_true c
        have hm1 := hNm hN0
        have w1 := Bd.ediv ba' hm1
        have w2 := Bd.ediv bb' hm1
        have ar : Bd k (a' % m') := bm'.emod hm1
        have br : Bd k (b' % m') := bm'.emod hm1
        have tl := turn_le N a' b' m' hN0 hm1
        have bt : Bd (k + (k + 1)) (N * (N - 1)) := bN.mul (bN.sub (Bd.small 1 (by decide) (by omega)))
        refine ⟨_, rfl, _, rfl, a', m', rfl, divP hm1 bm' (by omega), fun p1 np1 => ?_⟩
        refine ⟨p1, _, rfl, SqT.of upd_same, rfl, _, _, rfl, _, _, rfl, rfl, ?_⟩
        refine ⟨_, rfl, _, rfl, _, rfl, _, rfl, _, _, rfl, rfl, _, _, rfl, rfl, mulW bN (bN.sub (Bd.small 1 (by decide) (by omega))) k0 (by omega) (by omega), _, _, rfl, rfl, ⟨by decide, by decide⟩, _, _, rfl, rfl, mulW w1 (bt.ediv (by decide)) k0 (by omega) (by omega), _, _, rfl, rfl, ?_⟩
        refine ⟨_, rfl, _, rfl, b', m', rfl, divP hm1 bm' (by omega), fun p2 np2 => ?_⟩
        refine ⟨p2, _, rfl, SqT.of upd_same, rfl, _, _, rfl, _, _, rfl, rfl, ?_⟩
        refine ⟨_, rfl, _, rfl, _, rfl, _, _, rfl, rfl, mulW w2 bN k0 k0 (by omega), _, _, rfl, rfl, ?_⟩
        refine ⟨_, rfl, _, rfl, _, _, rfl, rfl, mulW ar bN k0 k0 (by omega), _, rfl, _, _, rfl, rfl, _, rfl, _, m', rfl, divP hm1 bm' (by omega), fun p3 np3 => ?_⟩
        refine ⟨p3, _, rfl, SqT.of upd_same, rfl, _, _, rfl, _, _, rfl, rfl, ?_⟩
        refine ⟨_, rfl, _, rfl, _, _, rfl, ⟨_, _, _, _, _, _, rfl, tl.2, Int.emod_nonneg _ (by omega), ?_, bN.between tl.2 tl.1, bm', ?_, ar, ?_, ?_⟩, ?_⟩
        · intro hz
          have h0 := Int.emod_nonneg a' (show m' ≠ 0 by omega)
          rcases Int.lt_or_eq_of_le h0 with h | h
          · exact h
          · rw [turn_zero N a' b' m' hm1 h.symm] at hz
            omega
        · exact bm'.emod hm1
        · have ft := fs_turn N a' b' m' hN hm1
          unfold tri at ft
          rw [ft] at e
          rw [← e]
          show T + a' / m' * (N * (N - 1) / 2) + b' / m' * N + _ = _
          omega
        · exact ((s1.trans (sm_upd np1)).trans (sm_upd np2)).trans (sm_upd np3)
        · show (a' % m').toNat < m'.toNat
          have := Int.emod_lt_of_pos a' hm1
          have := Int.emod_nonneg a' (show m' ≠ 0 by omega)
          omega
      · have hN0 : N = 0 := by
          have : ¬ 0 < N := fun z => c (decide_eq_true z)
          omega
        subst hN0
        refine ⟨_, rfl, ?_⟩
        have e0 : fs (0 : Int).toNat a' b' m' = 0 := rfl
        rw [e0, Int.add_zero] at e
        rw [e]
        exact q _ s1
    · rintro σ H' Q1 Q2 hQ ⟨v, h1, i, j, h2, h3, b, h4, h5⟩
      exact ⟨v, h1, i, j, h2, h3, b, h4, hQ _ _ h5⟩
theorem ok_floor_sum (D : Df K mg "floor_sum" s_floor_sum P_floor_sum) (B : Bi mg) (c_check_integer : C8.Cal P w K mg base 2 "check_integer" spCheckInt []) (c_check_at_least : C8.Cal P w K mg base 2 "check_at_least" spCheckAL []) : C8.Cal P w K mg base 3 "floor_sum" spFloor [] := by
  exact (okF_floor_sum D B c_check_integer c_check_at_least).cal
end
end Lf
namespace Lf
open PySem PySem.Spec PyProof.Rows L2
section
variable {P : Program} {w : World} {K : PySem.W.Frag} {mg : Str → Option Value} {base : Heap}
/-! ### divide_up -/
def spDivUp : Sp := fun vs H Q _ => ∃ (x s : Int), vs = [.int x, .int s] ∧ 0 < s ∧ Bd 9000 s ∧ Q (.int (dvu x s)) H
abbrev s_divide_up : Stmt := topS 11
abbrev N_divide_up : List Str := ["number", "divisor"]
abbrev P_divide_up : List Str := ["number", "divisor"]
theorem sc_divide_up : FnScope N_divide_up P_divide_up (defScope s_divide_up) := ⟨rfl, rfl, rfl, by decide +kernel, rfl, by decide +kernel, by decide +kernel⟩
theorem ok_divide_up (D : Df K mg "divide_up" s_divide_up P_divide_up) : C8.Cal P w K mg base 1 "divide_up" spDivUp [] := by
  refine cal_of D sc_divide_up (fun vs H Q E h => ?_) (fun f cdv A outer s H vs Q E hr h => ?_)
  · obtain ⟨x, s, rfl, _⟩ := h
    rfl
  · obtain ⟨x, s, rfl, hs, bs, q⟩ := h
    refine ⟨_, (pss_one (ps_ret (pe_un un_neg (pe_op op_fdivW (pe_un un_neg (pv 0)) (pv 1))))), ?_⟩
    exact ⟨_, rfl, _, rfl, _, rfl, _, _, rfl, rfl, divW hs bs (by decide), _, rfl, q⟩
end
end Lf
namespace Lf
/-! ### an integer between two lines -/
def Ib (a b m c d n x : Int) : Prop := ∃ y : Int, a * x + b ≤ m * y ∧ n * y ≤ c * x + d
/-- the whole part of the heights is taken away -/
theorem ib_down {a b m c d n x : Int} (k : Int) : Ib a (b - k * m) m c (d - k * n) n x ↔ Ib a b m c d n x := by
  constructor
  · rintro ⟨y, h1, h2⟩
    exact ⟨y + k, by rw [Int.mul_add, Int.mul_comm m k]; omega, by rw [Int.mul_add, Int.mul_comm n k]; omega⟩
  · rintro ⟨y, h1, h2⟩
    exact ⟨y - k, by rw [Int.mul_sub, Int.mul_comm m k]; omega, by rw [Int.mul_sub, Int.mul_comm n k]; omega⟩
/-- the whole part of the slopes is taken away -/
theorem ib_tilt {a b m c d n x : Int} (k : Int) : Ib (a - k * m) b m (c - k * n) d n x ↔ Ib a b m c d n x := by
  have e1 : ∀ y, m * (y + k * x) = m * y + k * m * x := fun y => by grind
  have e2 : ∀ y, n * (y + k * x) = n * y + k * n * x := fun y => by grind
  have e3 : ∀ y, m * (y - k * x) = m * y - k * m * x := fun y => by grind
  have e4 : ∀ y, n * (y - k * x) = n * y - k * n * x := fun y => by grind
  constructor
  · rintro ⟨y, h1, h2⟩
    rw [Int.sub_mul] at h1 h2
    exact ⟨y + k * x, by rw [e1]; omega, by rw [e2]; omega⟩
  · rintro ⟨y, h1, h2⟩
    refine ⟨y - k * x, ?_, ?_⟩
    · rw [e3, Int.sub_mul]; omega
    · rw [e4, Int.sub_mul]; omega
theorem ib_zero {a b m c d n : Int} (hm : 0 < m) (h : dvu b m * n ≤ d) : Lst (Ib a b m c d n) 0 := by
  refine ⟨Int.le_refl _, ⟨dvu b m, ?_, ?_⟩, fun k h0 h1 => by omega⟩
  · rw [Int.mul_zero, Int.zero_add]
    exact dvu_ge hm
  · rw [Int.mul_zero, Int.zero_add, Int.mul_comm]
    exact h
/-- what is known where no integer lies between the lines at 0 -/
theorem ib_rest {b m d n : Int} (hm : 0 < m) (h : ¬ dvu b m * n ≤ d) : 0 < b - (dvu b m - 1) * m ∧ b - (dvu b m - 1) * m ≤ m ∧ d - (dvu b m - 1) * n < n := by
  have g := dvu_ge (x := b) hm
  have l := dvu_lt (x := b) hm
  rw [Int.sub_mul, Int.sub_mul, Int.mul_comm (dvu b m) m]
  omega
theorem mul_nonneg' {x y : Int} (hx : 0 ≤ x) (hy : 0 ≤ y) : 0 ≤ x * y := Int.mul_nonneg hx hy
/-- the slopes part at an integer -/
theorem ib_exit {f b m r d n x : Int} (hm : 0 < m) (hn : 0 < n) (f0 : 0 ≤ f) (r0 : 0 ≤ r) (b0 : 0 < b) (bm : b ≤ m) (d0 : 0 ≤ d) (dn : d < n) (x0 : 0 ≤ x) : Ib (-f) b m r d n x ↔ (b ≤ f * x ∨ n - d ≤ r * x) := by
  have fx := Int.mul_nonneg f0 x0
  have rx := Int.mul_nonneg r0 x0
  constructor
  · rintro ⟨y, h1, h2⟩
    rw [Int.neg_mul] at h1
    rcases Int.lt_or_le 0 y with z | z
    · right
      have := Int.mul_le_mul_of_nonneg_left (show 1 ≤ y by omega) (show 0 ≤ n by omega)
      omega
    · left
      have := Int.mul_le_mul_of_nonneg_left z (show 0 ≤ m by omega)
      omega
  · rintro (h | h)
    · exact ⟨0, by rw [Int.neg_mul]; omega, by omega⟩
    · exact ⟨1, by rw [Int.neg_mul]; omega, by omega⟩
/-- flat lines of one slope -/
theorem ib_flat {b m d n x : Int} (hm : 0 < m) (hn : 0 < n) (b0 : 0 < b) (dn : d < n) : ¬ Ib 0 b m 0 d n x := by
  rintro ⟨y, h1, h2⟩
  rw [Int.zero_mul, Int.zero_add] at h1 h2
  rcases Int.lt_or_le 0 y with z | z
  · have := Int.mul_le_mul_of_nonneg_left (show 1 ≤ y by omega) (show 0 ≤ n by omega)
    omega
  · have := Int.mul_le_mul_of_nonneg_left z (show 0 ≤ m by omega)
    omega
/-- the lines come together -/
theorem ib_meet {a b m c d n x : Int} (hm : 0 < m) (hn : 0 < n) (a0 : 0 ≤ a) (c0 : c ≤ 0) (b0 : 0 < b) (dn : d < n) (x0 : 0 ≤ x) : ¬ Ib a b m c d n x := by
  rintro ⟨y, h1, h2⟩
  have ax := Int.mul_nonneg a0 x0
  have cx := Int.mul_nonneg (show 0 ≤ -c by omega) x0
  rw [Int.neg_mul] at cx
  rcases Int.lt_or_le 0 y with z | z
  · have := Int.mul_le_mul_of_nonneg_left (show 1 ≤ y by omega) (show 0 ≤ n by omega)
    omega
  · have := Int.mul_le_mul_of_nonneg_left z (show 0 ≤ m by omega)
    omega
/-- the other way round: x for each y -/
theorem ib_turn {a b m c d n x y : Int} (hm : 0 < m) (a0 : 0 < a) (b0 : 0 < b) (x0 : 0 ≤ x) (h1 : a * x + b ≤ m * y) : 0 ≤ y - 1 := by
  have ax := Int.mul_nonneg (Int.le_of_lt a0) x0
  rcases Int.lt_or_le 0 y with z | z
  · omega
  · have := Int.mul_le_mul_of_nonneg_left z (show 0 ≤ m by omega)
    omega
theorem ib_back {a b m c d n k : Int} (hm : 0 < m) (hn : 0 < n) (a0 : 0 < a) (c0 : 0 < c) (cn : c < n) (b0 : 0 < b) (dn : d < n) (h : Lst (Ib n (n - d) c m (m - b) a) k) : Lst (Ib a b m c d n) (dvu (n * k + (n - d)) c) ∧ k ≤ dvu (n * k + (n - d)) c := by
  obtain ⟨k0, ⟨x, g1, g2⟩, lst⟩ := h
  have nk := Int.mul_nonneg (Int.le_of_lt hn) k0
  have gx := (dvu_le c0).mpr g1
  have ge := dvu_ge (x := n * k + (n - d)) c0
  have mn : ∀ j, n * k + (n - d) ≤ c * j → dvu (n * k + (n - d)) c ≤ j := fun j h => (dvu_le c0).mpr h
  have pos : 0 ≤ dvu (n * k + (n - d)) c := by
    rcases Int.lt_or_le (dvu (n * k + (n - d)) c) 0 with z | z
    · have := Int.mul_le_mul_of_nonneg_left (show dvu (n * k + (n - d)) c ≤ 0 by omega) (Int.le_of_lt c0)
      rw [Int.mul_zero] at this
      omega
    · exact z
  generalize dvu (n * k + (n - d)) c = X at *
  refine ⟨⟨pos, ⟨k + 1, ?_, ?_⟩, fun j j0 jX => ?_⟩, ?_⟩
  · have := Int.mul_le_mul_of_nonneg_left gx (Int.le_of_lt a0)
    rw [Int.mul_add]
    omega
  · rw [Int.mul_add]
    omega
  · rintro ⟨y, h1, h2⟩
    have y0 := ib_turn (c := c) (d := d) (n := n) hm a0 b0 j0 h1
    have hk : ¬ y - 1 < k := fun z => lst (y - 1) y0 z ⟨j, by rw [Int.mul_sub]; omega, by rw [Int.mul_sub]; omega⟩
    have h3 := Int.mul_le_mul_of_nonneg_left (show k ≤ y - 1 by omega) (Int.le_of_lt hn)
    rw [Int.mul_sub] at h3
    have h5 := mn j (by omega)
    omega
  · rcases Int.lt_or_le X k with z | z
    · have h3 := Int.mul_le_mul_of_nonneg_left (show X ≤ k by omega) (Int.le_of_lt c0)
      have h4 := Int.mul_le_mul_of_nonneg_right (show c ≤ n by omega) k0
      omega
    · exact z
theorem ib_none {a b m c d n : Int} (hm : 0 < m) (a0 : 0 < a) (b0 : 0 < b) (h : NoM (Ib n (n - d) c m (m - b) a)) : NoM (Ib a b m c d n) := by
  rintro x x0 ⟨y, h1, h2⟩
  have y0 := ib_turn (c := c) (d := d) (n := n) hm a0 b0 x0 h1
  exact h (y - 1) y0 ⟨x, by rw [Int.mul_sub]; omega, by rw [Int.mul_sub]; omega⟩
end Lf
namespace Lf
theorem pos_of_mul0 {a b : Int} (h : 0 < a * b) (hb : 0 ≤ b) : 0 < a := by
  rcases Int.lt_or_le 0 a with z | z
  · exact z
  · have := Int.mul_le_mul_of_nonneg_right z hb
    rw [Int.zero_mul] at this
    omega
theorem lt_of_mulc {x y g : Int} (h : x * g < y * g) (hg : 0 ≤ g) : x < y := by
  have e : (y - x) * g = y * g - x * g := Int.sub_mul ..
  have := pos_of_mul0 (a := y - x) (b := g) (by omega) hg
  omega
theorem lst_iff0 {P Q : Int → Prop} (h : ∀ n, 0 ≤ n → (P n ↔ Q n)) (n : Int) : Lst P n ↔ Lst Q n := by
  unfold Lst
  constructor
  · rintro ⟨a, b, c⟩
    exact ⟨a, (h n a).mp b, fun k h0 h1 z => c k h0 h1 ((h k h0).mpr z)⟩
  · rintro ⟨a, b, c⟩
    exact ⟨a, (h n a).mpr b, fun k h0 h1 z => c k h0 h1 ((h k h0).mp z)⟩
theorem nom_iff0 {P Q : Int → Prop} (h : ∀ n, 0 ≤ n → (P n ↔ Q n)) : NoM P ↔ NoM Q := ⟨fun g n n0 z => g n n0 ((h n n0).mpr z), fun g n n0 z => g n n0 ((h n n0).mp z)⟩
def unv : List (Int × Int × Int) → Int → Int
  | [], n => n
  | (s, o, v) :: r, n => dvu (s * unv r n + o) v
theorem unv_snoc : ∀ (L : List (Int × Int × Int)) (s o v n : Int), unv (L ++ [(s, o, v)]) n = unv L (dvu (s * n + o) v)
  | [], _, _, _, _ => rfl
  | (s', o', v') :: r, s, o, v, n => by
    show dvu (s' * unv (r ++ [(s, o, v)]) n + o') v' = dvu (s' * unv r (dvu (s * n + o) v) + o') v'
    rw [unv_snoc r]
structure FI (j : Nat) (G W M : Int) (P0 : Int → Prop) (L : List (Int × Int × Int)) (a b m c d n : Int) : Prop where
  m1 : 1 ≤ m
  n1 : 1 ≤ n
  w : m * n ≤ W
  r : b * n ≤ d * m ∨ c * m ≤ a * n
  g : b * n - d * m ≤ G + L.length * W
  ba : Bd j a
  bb : Bd j b
  bc : Bd j c
  bd : Bd j d
  A : ∀ x, Lst (Ib a b m c d n) x → Lst P0 (unv L x)
  Bn : NoM (Ib a b m c d n) → NoM P0
  C : ∀ l1 l2, L = l1 ++ l2 → ∀ x, Lst (Ib a b m c d n) x → 0 ≤ unv l2 x ∧ unv l2 x ≤ M
  D : ∀ e ∈ L, 1 ≤ e.2.2 ∧ Bd j e.1 ∧ Bd j e.2.1 ∧ Bd j e.2.2
  l : L = [] ∨ (m < a ∧ (a * n).toNat * 2 ^ L.length ≤ (2 * W).toNat)
theorem FI.init {j : Nat} {M a b m c d n : Int} (m1 : 1 ≤ m) (n1 : 1 ≤ n) (r : b * n ≤ d * m) (ba : Bd j a) (bb : Bd j b) (bc : Bd j c) (bd : Bd j d) (hM : ∀ x, Lst (Ib a b m c d n) x → x ≤ M) : FI j 0 (m * n) M (Ib a b m c d n) [] a b m c d n :=
  ⟨m1, n1, Int.le_refl _, .inl r, by simp; omega, ba, bb, bc, bd, fun _ h => h, fun h => h, fun l1 l2 e x hx => by
    have : l2 = [] := (List.append_eq_nil_iff.mp e.symm).2
    subst this
    exact ⟨hx.1, hM x hx⟩, by simp, .inl rfl⟩
theorem mul_self_le {x y : Int} (hx : 0 ≤ x) (hy : 1 ≤ y) : x ≤ x * y := by
  have := Int.mul_le_mul_of_nonneg_left hy hx
  omega
theorem FI.len {j k : Nat} {G W M a b m c d n : Int} {P0 : Int → Prop} {L : List (Int × Int × Int)} (F : FI j G W M P0 L a b m c d n) (bW : Bd k W) : L.length < k + 2 := by
  rcases F.l with z | ⟨h1, h2⟩
  · rw [z]
    simp
  · have m1 := F.m1
    have p1 := one_le_mul (show 1 ≤ a by omega) F.n1
    have B1 : Bd (k + 1) (2 * W) := by
      rw [show 2 * W = W + W by omega]
      exact Bd.add bW bW
    unfold Bd at B1
    have h3 : 2 ^ L.length ≤ (a * n).toNat * 2 ^ L.length := Nat.le_mul_of_pos_left _ (by omega)
    have h4 : 2 ^ L.length < 2 ^ (k + 1) := by omega
    have := (Nat.pow_lt_pow_iff_right (by decide)).mp h4
    omega
/-- what is known after the whole parts are gone -/
structure Slim (a b m c d n : Int) : Prop where
  a0 : 0 < a
  am : a ≤ m
  b0 : 0 < b
  bm : b ≤ m
  c0 : 0 < c
  cn : c < n
  dn : d < n
theorem FI.next {j : Nat} {G W M Z a b m c d n a' b' c' d' s u : Int} {P0 : Int → Prop} {L : List (Int × Int × Int)} (F : FI j G W M P0 L a b m c d n) (S : Slim a' b' m c' d' n)
    (eb : b' = b - u * m) (ed : d' = d - u * n) (ea : a' = a - (s - 1) * m) (ec : c' = c - (s - 1) * n) (hW : W ≤ Z) (hZ : G + 4097 * W ≤ Z) (bZ : Bd j Z) (hl : L.length < 4096) :
    FI j G W M P0 (L ++ [(n, n - d', c')]) n (n - d') c' m (m - b') a' := by
  have m1 := F.m1
  have n1 := F.n1
  have w := F.w
  have g := F.g
  obtain ⟨a0, am, b0, bm, c0, cn, dn⟩ := S
  have W0 : 1 ≤ W := by
    have := one_le_mul m1 n1
    omega
  have eg : b' * n - d' * m = b * n - d * m := by
    rw [eb, ed]
    grind
  have h1 : n - d' ≤ (n - d') * m := mul_self_le (by omega) m1
  have h2 : (n - d') * a' ≤ (n - d') * m := Int.mul_le_mul_of_nonneg_left am (by omega)
  have h3 : 0 ≤ (m - b') * c' := Int.mul_nonneg (by omega) (by omega)
  have h4 : 0 ≤ b' * n := Int.mul_nonneg (by omega) (by omega)
  have e1 : (n - d') * m = m * n - d' * m := by grind
  have hlw : (L.length : Int) * W ≤ 4096 * W := Int.mul_le_mul_of_nonneg_right (by omega) (by omega)
  have hnm := mul_self_le (show 0 ≤ n by omega) m1
  have hmn := mul_self_le (show 0 ≤ m by omega) n1
  rw [Int.mul_comm n m] at hnm
  have iff : ∀ x, Ib a' b' m c' d' n x ↔ Ib a b m c d n x := fun x => by
    rw [eb, ed, ea, ec]
    exact (ib_tilt (s - 1)).trans (ib_down u)
  have bk : ∀ x, Lst (Ib n (n - d') c' m (m - b') a') x → Lst (Ib a b m c d n) (dvu (n * x + (n - d')) c') ∧ x ≤ dvu (n * x + (n - d')) c' := fun x hx => by
    have := ib_back (show 0 < m by omega) (show 0 < n by omega) a0 c0 cn b0 dn hx
    exact ⟨(lst_iff iff _).mp this.1, this.2⟩
  refine ⟨by omega, by omega, ?_, ?_, ?_, bZ.between (by omega) (by omega), bZ.between (by omega) (by omega), bZ.between (by omega) (by omega), bZ.between (by omega) (by omega), fun x hx => ?_, fun hx => F.Bn fun x x0 z => ib_none (show 0 < m by omega) a0 b0 hx x x0 ((iff x).mpr z), fun l1 l2 e x hx => ?_, fun e he => ?_, .inr ⟨cn, ?_⟩⟩
  · have := Int.mul_le_mul (show c' ≤ n by omega) am (by omega) (by omega)
    rw [Int.mul_comm n m] at this
    omega
  · rcases Int.lt_or_le (a * n) (c * m) with z | z
    · left
      have r := F.r.resolve_right (by omega)
      have g1 : (n - d') * m ≤ (m - b') * n := by
        have : (m - b') * n = m * n - b' * n := Int.sub_mul ..
        omega
      have g2 : a' * n ≤ c' * m := by
        rw [ea, ec]
        have x1 : (a - (s - 1) * m) * n = a * n - (s - 1) * m * n := Int.sub_mul ..
        have x2 : (c - (s - 1) * n) * m = c * m - (s - 1) * m * n := by grind
        omega
      have g3 := Int.mul_le_mul g1 g2 (Int.mul_nonneg (by omega) (by omega)) (Int.mul_nonneg (by omega) (by omega))
      have x1 : (n - d') * m * (a' * n) = (n - d') * a' * (m * n) := by grind
      have x2 : (m - b') * n * (c' * m) = (m - b') * c' * (m * n) := by grind
      rw [x1, x2] at g3
      exact Int.le_of_mul_le_mul_right g3 (by have := one_le_mul m1 n1; omega)
    · right
      rw [ea, ec]
      have x1 : n * (a - (s - 1) * m) = a * n - (s - 1) * m * n := by grind
      have x2 : m * (c - (s - 1) * n) = c * m - (s - 1) * m * n := by grind
      omega
  · rw [List.length_append, List.length_singleton]
    have : ((L.length + 1 : Nat) : Int) * W = L.length * W + W := by
      rw [Int.natCast_add, Int.add_mul]
      omega
    omega
  · rw [unv_snoc]
    exact F.A _ (bk x hx).1
  · rcases List.eq_nil_or_concat l2 with z | ⟨l3, y, z⟩
    · subst z
      have h5 := (F.C L [] (by simp) _ (bk x hx).1).2
      have h6 := (bk x hx).2
      exact ⟨hx.1, Int.le_trans h6 h5⟩
    · have z2 : l2 = l3 ++ [y] := by simpa using z
      subst z2
      have e' : L ++ [(n, n - d', c')] = (l1 ++ l3) ++ [y] := by rw [List.append_assoc]; exact e
      obtain ⟨q1, q2⟩ := List.append_inj' e' rfl
      have q3 : (n, n - d', c') = y := by simpa using q2
      rw [← q3, unv_snoc]
      exact F.C l1 l3 q1 _ (bk x hx).1
  · rcases List.mem_append.mp he with z | z
    · exact F.D e z
    · rw [List.mem_singleton.mp z]
      exact ⟨by show 1 ≤ c'; omega, bZ.between (by show 0 ≤ n; omega) (by show n ≤ Z; omega), bZ.between (by show 0 ≤ n - d'; omega) (by show n - d' ≤ Z; omega), bZ.between (by show 0 ≤ c'; omega) (by show c' ≤ Z; omega)⟩
  · rw [List.length_append, List.length_singleton, Nat.pow_succ]
    rcases F.l with z | ⟨z1, z2⟩
    · rw [z]
      simp only [List.length_nil, Nat.pow_zero, Nat.one_mul]
      have := Int.mul_le_mul_of_nonneg_left am (show 0 ≤ n by omega)
      rw [Int.mul_comm n m] at this
      generalize n * a' = x at *
      omega
    · refine Nat.le_trans ?_ z2
      rw [Nat.mul_comm (2 ^ L.length) 2, ← Nat.mul_assoc]
      refine Nat.mul_le_mul_right _ ?_
      have s2 : 1 ≤ s - 1 := by
        rcases Int.lt_or_le 0 (s - 1) with y | y
        · exact y
        · have := Int.mul_nonneg (show 0 ≤ -(s - 1) by omega) (show 0 ≤ m by omega)
          rw [Int.neg_mul] at this
          omega
      have h7 := Int.mul_le_mul_of_nonneg_right s2 (show 0 ≤ m by omega)
      have h8 := Int.mul_le_mul_of_nonneg_left (show 2 * a' ≤ a by omega) (show 0 ≤ n by omega)
      have e2 : n * (2 * a') = 2 * (n * a') := by grind
      rw [e2, Int.mul_comm n a] at h8
      have := Int.mul_nonneg (show 0 ≤ n by omega) (show 0 ≤ a' by omega)
      generalize n * a' = x at *
      generalize a * n = y at *
      omega
/-- the least time at which one of two ways is covered -/
def Ex (f b r e x : Int) : Prop := b ≤ f * x ∨ e ≤ r * x
theorem ib_ex {a b m c d n s x : Int} (m1 : 1 ≤ m) (n1 : 1 ≤ n) (sa : a ≤ s * m) (sc : s * n ≤ c) (b0 : 0 < b) (bm : b ≤ m) (dn : d < n) (r : b * n ≤ d * m ∨ c * m ≤ a * n) (x0 : 0 ≤ x) : Ib a b m c d n x ↔ Ex (s * m - a) b (c - s * n) (n - d) x := by
  have t := ib_tilt (a := a) (b := b) (m := m) (c := c) (d := d) (n := n) (x := x) s
  rw [← t]
  rcases r with r | r
  · have d0 : 0 ≤ d := by
      have := one_le_mul (show 1 ≤ b by omega) n1
      have := pos_of_mul0 (a := d) (b := m) (by omega) (by omega)
      omega
    rw [show a - s * m = -(s * m - a) by omega]
    exact ib_exit (by omega) (by omega) (by omega) (by omega) b0 bm d0 dn x0
  · have h1 : s * m ≤ a := by
      have := Int.mul_le_mul_of_nonneg_right sc (show 0 ≤ m by omega)
      have e : s * n * m = s * m * n := by grind
      exact Int.le_of_mul_le_mul_right (show s * m * n ≤ a * n by omega) (by omega)
    have h2 : c ≤ s * n := by
      have := Int.mul_le_mul_of_nonneg_right sa (show 0 ≤ n by omega)
      have e : s * m * n = s * n * m := by grind
      exact Int.le_of_mul_le_mul_right (show c * m ≤ s * n * m by omega) (by omega)
    rw [show a - s * m = 0 by omega, show c - s * n = 0 by omega, show s * m - a = 0 by omega]
    refine ⟨fun z => absurd z (ib_flat (by omega) (by omega) b0 dn), fun z => ?_⟩
    rcases z with z | z <;> rw [Int.zero_mul] at z <;> omega
/-- how far the least one may be -/
theorem ib_far {a b m c d n x : Int} (m1 : 1 ≤ m) (n1 : 1 ≤ n) (r : b * n ≤ d * m) (h : Lst (Ib a b m c d n) x) : x ≤ m * n + (d * m - b * n) := by
  obtain ⟨x0, ⟨y, h1, h2⟩, lst⟩ := h
  have mn := one_le_mul m1 n1
  rcases Int.lt_trichotomy (a * n) (c * m) with z | z | z
  · rcases Int.lt_or_le (m * n) x with k | k
    · refine absurd ?_ (lst (m * n) (by omega) k)
      refine ⟨dvu (a * (m * n) + b) m, dvu_ge (by omega), ?_⟩
      have l := dvu_lt (x := a * (m * n) + b) (s := m) (by omega)
      generalize dvu (a * (m * n) + b) m = v at *
      refine Int.le_of_lt_add_one (lt_of_mulc (g := m) ?_ (by omega))
      have l2 := Int.mul_le_mul_of_nonneg_right (show m * v + 1 ≤ a * (m * n) + b + m by omega) (show 0 ≤ n by omega)
      have z2 := Int.mul_le_mul_of_nonneg_right (show a * n + 1 ≤ c * m by omega) (show 0 ≤ m * n by omega)
      have e1 : (m * v + 1) * n = n * v * m + n := by grind
      have e2 : (a * (m * n) + b + m) * n = a * n * (m * n) + b * n + m * n := by grind
      have e3 : (c * (m * n) + d + 1) * m = c * m * (m * n) + d * m + m := by grind
      have e4 : (a * n + 1) * (m * n) = a * n * (m * n) + m * n := by grind
      omega
    · omega
  · rcases Int.lt_or_le x (m * n) with k | k
    · omega
    · refine absurd ?_ (lst (x - m * n) (by omega) (by omega))
      refine ⟨y - a * n, ?_, ?_⟩
      · have e1 : a * (x - m * n) = a * x - m * (a * n) := by grind
        rw [e1, Int.mul_sub]
        omega
      · have e1 : c * (x - m * n) = c * x - n * (c * m) := by grind
        rw [e1, Int.mul_sub, z]
        omega
  · have g1 := Int.mul_le_mul_of_nonneg_right h1 (show 0 ≤ n by omega)
    have g2 := Int.mul_le_mul_of_nonneg_right h2 (show 0 ≤ m by omega)
    have e1 : (a * x + b) * n = a * n * x + b * n := by grind
    have e2 : (c * x + d) * m = c * m * x + d * m := by grind
    have e3 : m * y * n = n * y * m := by grind
    have g3 := Int.mul_le_mul_of_nonneg_right (show c * m + 1 ≤ a * n by omega) x0
    rw [Int.add_mul] at g3
    omega
end Lf
namespace Lf
open PySem PySem.Spec PyProof.Rows L2
/-! ### min(xs, default=None), max(xs, default=None) of a list of ints -/
theorem hold_ints {h : Heap} {xs : List Int} {us : List Value} (r : Vals (xs.map V.int) us) : PySem.W.HoldAll h us xs := by
  suffices h' : ∃ as, ReadsAll h us (xs.map PyData.int) as from h'
  induction xs generalizing us with
  | nil =>
    cases r
    exact ⟨_, .nil⟩
  | cons x xs ih =>
    cases r with
    | cons r1 r =>
      obtain ⟨as, e⟩ := ih r
      obtain ⟨t, rfl⟩ := (show ∃ t, _ = Value.int x t from r1)
      exact ⟨_, .cons (.int x t) e⟩
def minV : List Int → V
  | [] => .non
  | x :: xs => .int (PySem.W.minOf x xs)
def maxV : List Int → V
  | [] => .non
  | x :: xs => .int (PySem.W.maxOf x xs)
def rMinD (K : PySem.W.Frag) : List V → List V → Hp → VK → Prop := fun vs zs H Q => ∃ (a : Addr) (xs : List Int), vs = [V.ref a] ∧ zs = [.non] ∧ SqL K H a (xs.map V.int) ∧ Q (minV xs) H
def rMaxD (K : PySem.W.Frag) : List V → List V → Hp → VK → Prop := fun vs zs H Q => ∃ (a : Addr) (xs : List Int), vs = [V.ref a] ∧ zs = [.non] ∧ SqL K H a (xs.map V.int) ∧ Q (maxV xs) H
theorem cr_minD {X : Cx} (hc : X.calm = true) (hu : X.A.units + 1 < cLine) : CallRK X (.builtin "min") ["default"] (rMinD X.K) := by
  intro pins s σ H vs zs us ws Q I r r2 h
  obtain ⟨a, xs, rfl, rfl, hs, q⟩ := h
  obtain ⟨its, rv, hl, _⟩ := I.list hs
  rw [Vals.ref1 r]
  cases r2 with
  | cons r3 r4 =>
    cases r4
    cases r3
    refine PySem.W.min_list_datum_default (α := Int) (xs := xs) (I.ok.hd hc) hl.isList (hold_ints rv) (by show _ + 1 + 0 < _; omega) (fun e h' tk hk => ?_) fun y ys i v h' tk e hv hh hk => ?_
    · subst e
      exact ⟨.non, H, I.kept hk, rfl, q⟩
    · subst e
      obtain ⟨as, hr⟩ := hh
      obtain ⟨t, rfl⟩ : ∃ t, v = Value.int (PySem.W.minOf y ys) t := by
        cases hr
        exact ⟨_, rfl⟩
      exact ⟨.int _, H, I.kept hk, ⟨_, rfl⟩, q⟩
theorem cr_maxD {X : Cx} (hc : X.calm = true) (hu : X.A.units + 1 < cLine) : CallRK X (.builtin "max") ["default"] (rMaxD X.K) := by
  intro pins s σ H vs zs us ws Q I r r2 h
  obtain ⟨a, xs, rfl, rfl, hs, q⟩ := h
  obtain ⟨its, rv, hl, _⟩ := I.list hs
  rw [Vals.ref1 r]
  cases r2 with
  | cons r3 r4 =>
    cases r4
    cases r3
    refine PySem.W.max_list_datum_default (α := Int) (xs := xs) (I.ok.hd hc) hl.isList (hold_ints rv) (by show _ + 1 + 0 < _; omega) (fun e h' tk hk => ?_) fun y ys i v h' tk e hv hh hk => ?_
    · subst e
      exact ⟨.non, H, I.kept hk, rfl, q⟩
    · subst e
      obtain ⟨as, hr⟩ := hh
      obtain ⟨t, rfl⟩ : ∃ t, v = Value.int (PySem.W.maxOf y ys) t := by
        cases hr
        exact ⟨_, rfl⟩
      exact ⟨.int _, H, I.kept hk, ⟨_, rfl⟩, q⟩
theorem minOf2 (x y : Int) : PySem.W.minOf x [y] = if y < x then y else x := by
  show (if decide (y < x) = true then y else x) = _
  by_cases h : y < x <;> simp [h]
theorem maxOf2 (x y : Int) : PySem.W.maxOf x [y] = if x < y then y else x := by
  show (if decide (x < y) = true then y else x) = _
  by_cases h : x < y <;> simp [h]
end Lf
namespace Lf
open PySem PySem.Spec PyProof.Rows L2
/-- the levels as they lie: the list's items are tuples of three ints -/
structure Lv3 (H : Hp) (ts : List Addr) (L : List (Int × Int × Int)) : Prop where
  len : ts.length = L.length
  at_ : ∀ (i : Nat) (t : Addr) (e : Int × Int × Int), ts[i]? = some t → L[i]? = some e → H t = some (.tup [.int e.1, .int e.2.1, .int e.2.2])
theorem Lv3.same {H H' : Hp} {ts : List Addr} {L : List (Int × Int × Int)} (v : Lv3 H ts L) (f : Fr H H') : Lv3 H' ts L := ⟨v.len, fun i t e h1 h2 => f.t _ _ (v.at_ i t e h1 h2)⟩
theorem Lv3.snoc {H : Hp} {ts : List Addr} {L : List (Int × Int × Int)} {t : Addr} {s m l : Int} (v : Lv3 H ts L) (h : H t = some (.tup [.int s, .int m, .int l])) : Lv3 H (ts ++ [t]) (L ++ [(s, m, l)]) := by
  refine ⟨by rw [List.length_append, List.length_append, v.len]; rfl, fun i t' e h1 h2 => ?_⟩
  by_cases hi : i < ts.length
  · rw [List.getElem?_append_left hi] at h1
    rw [List.getElem?_append_left (by rw [← v.len]; exact hi)] at h2
    exact v.at_ i t' e h1 h2
  · rw [List.getElem?_append_right (by omega)] at h1
    rw [List.getElem?_append_right (by rw [← v.len]; omega)] at h2
    rw [v.len] at h1
    cases hz : i - L.length with
    | zero =>
      rw [hz] at h1 h2
      have e1 : t = t' := Option.some.inj h1
      have e2 : (s, m, l) = e := Option.some.inj h2
      subst e1 e2
      exact h
    | succ z =>
      rw [hz] at h1
      simp at h1
theorem dvu_lst {f b : Int} (hf : 0 < f) (hb : 0 < b) : Lst (fun x => b ≤ f * x) (dvu b f) := by
  have g := dvu_ge (x := b) hf
  refine ⟨?_, g, fun k k0 k1 z => ?_⟩
  · rcases Int.lt_or_le (dvu b f) 0 with z | z
    · have := Int.mul_le_mul_of_nonneg_left (show dvu b f ≤ 0 by omega) (Int.le_of_lt hf)
      rw [Int.mul_zero] at this
      omega
    · exact z
  · have := (dvu_le hf).mpr z
    omega
/-- the least of two -/
theorem ex_two {f b r e : Int} (f0 : 0 < f) (r0 : 0 < r) (b0 : 0 < b) (e0 : 0 < e) : Lst (Ex f b r e) (if dvu e r < dvu b f then dvu e r else dvu b f) := by
  obtain ⟨p1, p2, p3⟩ := dvu_lst f0 b0
  obtain ⟨q1, q2, q3⟩ := dvu_lst r0 e0
  by_cases h : dvu e r < dvu b f
  · rw [if_pos h]
    exact ⟨q1, .inr q2, fun k k0 k1 z => z.elim (p3 k k0 (by omega)) (q3 k k0 k1)⟩
  · rw [if_neg h]
    exact ⟨p1, .inl p2, fun k k0 k1 z => z.elim (p3 k k0 k1) (q3 k k0 (by omega))⟩
theorem ex_one {f b r e : Int} (f0 : 0 < f) (r0 : r = 0) (b0 : 0 < b) (e0 : 0 < e) : Lst (Ex f b r e) (dvu b f) := by
  subst r0
  obtain ⟨p1, p2, p3⟩ := dvu_lst f0 b0
  exact ⟨p1, .inl p2, fun k k0 k1 z => z.elim (p3 k k0 k1) (fun z => by rw [Int.zero_mul] at z; omega)⟩
theorem ex_oth {f b r e : Int} (f0 : f = 0) (r0 : 0 < r) (b0 : 0 < b) (e0 : 0 < e) : Lst (Ex f b r e) (dvu e r) := by
  subst f0
  obtain ⟨p1, p2, p3⟩ := dvu_lst r0 e0
  exact ⟨p1, .inr p2, fun k k0 k1 z => z.elim (fun z => by rw [Int.zero_mul] at z; omega) (p3 k k0 k1)⟩
theorem ex_no {f b r e : Int} (f0 : f = 0) (r0 : r = 0) (b0 : 0 < b) (e0 : 0 < e) : NoM (Ex f b r e) := by
  subst f0 r0
  rintro x x0 (z | z) <;> rw [Int.zero_mul] at z <;> omega
section
variable {P : Program} {w : World} {K : PySem.W.Frag} {mg : Str → Option Value} {base : Heap}
/-! ### first_exit -/
def spExit : Sp := fun vs H Q _ => ∃ (u v : Addr) (f b r e : Int) (k : Nat), vs = [.ref u, .ref v] ∧ H u = some (.tup [.int f, .int b]) ∧ H v = some (.tup [.int r, .int e]) ∧ 0 ≤ f ∧ 0 ≤ r ∧ 0 < b ∧ 0 < e ∧ Bd k f ∧ Bd k r ∧ k ≤ 9000 ∧
  (∀ n H', Same H H' → Lst (Ex f b r e) n → Q (.int n) H') ∧ (NoM (Ex f b r e) → ∀ H', Same H H' → Q .non H')
abbrev s_first_exit : Stmt := topS 16
abbrev N_first_exit : List Str := ["fall", "rise", "times", "speed", "way"]
abbrev P_first_exit : List Str := ["fall", "rise"]
theorem sc_first_exit : FnScope N_first_exit P_first_exit (defScope s_first_exit) := ⟨rfl, rfl, rfl, by decide +kernel, rfl, by decide +kernel, by decide +kernel⟩
theorem ok_first_exit (D : Df K mg "first_exit" s_first_exit P_first_exit) (B : Bi mg) (c_divide_up : C8.Cal P w K mg base 1 "divide_up" spDivUp []) : C8.Cal P w K mg base 2 "first_exit" spExit [] := by
  refine cal_of D sc_first_exit (fun vs H Q E h => ?_) (fun f cdv A outer s H vs Q E hr h => ?_)
  · obtain ⟨u, v, f, b, r, e, k, rfl, _⟩ := h
    rfl
  · obtain ⟨u, v, fl, b, r, e, k, rfl, eu, ev, f0, r0, b0, e0, bf, br, k9, q1, q2⟩ := h
    have hu := hu_of hr
    have hu1 : (A.deeper (envOfC "first_exit" (defScope s_first_exit) s.heap.objs.size f cdv)).units + 1 < cLine := by
      have := hr.un
      omega
    refine ⟨_, (pss_cons (ps_setLc (i := 2) (own := [("speed", 3), ("way", 4)]) (g := (gTup K 2 (gCons (gName 3) (gCons (gName 4) gNil)))) (by rfl) sc_first_exit.nd rfl rfl (sw_true rfl rfl rfl (by decide +kernel)) (pi_tup (pe_tup (pa_cons (pv 0) (pa_cons (pv 1) pa_nil)))) (blkOk_by (own := [("speed", 3), ("way", 4)]) (N := N_first_exit) (sc := defScope s_first_exit) (by decide +kernel)) (fun _ _ _ _ _ => (pg_tup rfl (pgs_cons (pg_name (i := 3) sc_first_exit.nd rfl (Or.inl rfl)) (pgs_cons (pg_name (i := 4) sc_first_exit.nd rfl (Or.inl rfl)) pgs_nil)))) (fun _ _ _ _ _ => (pts_one (pt_cmpR op_gt (pv 3) pe_int (nomark _)))) (fun _ _ _ _ _ => (C8.pe_c c_divide_up hr (by decide) (by rfl) (pa_cons (pv 4) (pa_cons (pv 3) pa_nil)))))
    (pss_one (ps_ret (pe_callBK (cr_minD rfl hu1) (by rfl) B.min_ bt_min (pa_cons (pv 2) pa_nil) (pk_cons pe_non pk_nil))))), ?_⟩
    refine ⟨_, rfl, _, rfl, len10 (by simp), fun tq ntq => ?_⟩
    have s4 := sm_upd (o := .tup [.ref u, .ref v]) ntq
    have e4 : upd H tq (.tup [.ref u, .ref v]) tq = some (.tup [.ref u, .ref v]) := upd_same
    generalize upd H tq (.tup [.ref u, .ref v]) = H4 at s4 e4
    have eu := s4 _ _ eu
    have ev := s4 _ _ ev
    refine ⟨tq, rfl, ⟨_, SqT.of e4⟩, fun L nL => ?_⟩
    refine lc_tup (K := K) (a := tq) (xs := [.ref u, .ref v]) (fun j H' => Same H4 H' ∧ H' L = some (.lst (((if 0 < j ∧ 0 < fl then [dvu b fl] else []) ++ (if 1 < j ∧ 0 < r then [dvu e r] else [])).map V.int))) ⟨sm_upd nL, upd_same⟩ ?_ ?_ ?_
    · rintro j H' _ ⟨s1, _⟩
      exact SqT.of (s1 _ _ e4)
    · rintro j x H' hx ⟨s1, eL⟩
      match j, hx with
      | 0, hx =>
        cases hx
        refine ⟨u, _, rfl, SqT.of (s1 _ _ eu), rfl, _, _, rfl, _, _, rfl, rfl, rfl, ?_⟩
        refine ⟨_, rfl, _, _, rfl, rfl, _, rfl, ite2 (fun c => ?_) (fun c => ?_)⟩
        · have c : 0 < fl := of_decide_eq_true c
          refine ⟨_, rfl, _, rfl, b, fl, rfl, c, bf.mono k9, _, eL, small1000 (by simp), ?_, ?_⟩
          · intro y o ey
            rw [upd_ne (ne_of_none ey nL)]
            exact s1 _ _ ey
          · rw [upd_same]
            simp [c]
        · have c : ¬ 0 < fl := fun z => c (decide_eq_true z)
          refine ⟨s1, ?_⟩
          rw [eL]
          simp [c]
      | 1, hx =>
        cases hx
        refine ⟨v, _, rfl, SqT.of (s1 _ _ ev), rfl, _, _, rfl, _, _, rfl, rfl, rfl, ?_⟩
        refine ⟨_, rfl, _, _, rfl, rfl, _, rfl, ite2 (fun c => ?_) (fun c => ?_)⟩
        · have c : 0 < r := of_decide_eq_true c
          refine ⟨_, rfl, _, rfl, e, r, rfl, c, br.mono k9, _, eL, small1000 (by simp; split <;> simp), ?_, ?_⟩
          · intro y o ey
            rw [upd_ne (ne_of_none ey nL)]
            exact s1 _ _ ey
          · rw [upd_same]
            simp [c]
        · have c : ¬ 0 < r := fun z => c (decide_eq_true z)
          refine ⟨s1, ?_⟩
          rw [eL]
          simp [c]
    rintro H5 ⟨s5, eL⟩
    have s6 := s4.trans s5
    refine ⟨_, rfl, L, _, rfl, rfl, SqL.of eL, ?_⟩
    by_cases cf : 0 < fl
    · by_cases cr : 0 < r
      · have ee : minV ((if 0 < [V.ref u, V.ref v].length ∧ 0 < fl then [dvu b fl] else []) ++ (if 1 < [V.ref u, V.ref v].length ∧ 0 < r then [dvu e r] else [])) = .int (if dvu e r < dvu b fl then dvu e r else dvu b fl) := by
          rw [if_pos ⟨by simp, cf⟩, if_pos ⟨by simp, cr⟩]
          show V.int (PySem.W.minOf (dvu b fl) [dvu e r]) = _
          rw [minOf2]
        rw [ee]
        exact q1 _ _ s6 (ex_two cf cr b0 e0)
      · have ee : minV ((if 0 < [V.ref u, V.ref v].length ∧ 0 < fl then [dvu b fl] else []) ++ (if 1 < [V.ref u, V.ref v].length ∧ 0 < r then [dvu e r] else [])) = .int (dvu b fl) := by
          rw [if_pos ⟨by simp, cf⟩, if_neg (fun z => cr z.2)]
          rfl
        rw [ee]
        exact q1 _ _ s6 (ex_one cf (by omega) b0 e0)
    · by_cases cr : 0 < r
      · have ee : minV ((if 0 < [V.ref u, V.ref v].length ∧ 0 < fl then [dvu b fl] else []) ++ (if 1 < [V.ref u, V.ref v].length ∧ 0 < r then [dvu e r] else [])) = .int (dvu e r) := by
          rw [if_neg (fun z => cf z.2), if_pos ⟨by simp, cr⟩]
          rfl
        rw [ee]
        exact q1 _ _ s6 (ex_oth (by omega) cr b0 e0)
      · have ee : minV ((if 0 < [V.ref u, V.ref v].length ∧ 0 < fl then [dvu b fl] else []) ++ (if 1 < [V.ref u, V.ref v].length ∧ 0 < r then [dvu e r] else [])) = .non := by
          rw [if_neg (fun z => cf z.2), if_neg (fun z => cr z.2)]
          rfl
        rw [ee]
        exact q2 (ex_no (by omega) (by omega) b0 e0) _ s6
end
end Lf
namespace Lf
open PySem PySem.Spec PyProof.Rows L2
theorem nab_dvu {x s : Int} (hs : 0 < s) : (dvu x s).natAbs ≤ x.natAbs := by
  unfold dvu
  have := nab_ediv (x := -x) hs
  omega
theorem Bd.dvu {k : Nat} {x s : Int} (h : Bd k x) (hs : 0 < s) : Bd k (dvu x s) := h.le (nab_dvu hs)
abbrev tp3 (p q c : Int) : HO := .tup [.int p, .int q, .int c]
section
variable {P : Program} {w : World} {K : PySem.W.Frag} {mg : Str → Option Value} {base : Heap}
/-! ### first_inside -/
def spFI : Sp := fun vs H Q _ => ∃ (lw hg : Addr) (a b m c d n : Int) (k : Nat), vs = [.ref lw, .ref hg] ∧ H lw = some (tp3 a b m) ∧ H hg = some (tp3 c d n) ∧ 1 ≤ m ∧ 1 ≤ n ∧ b * n ≤ d * m ∧ Bd k a ∧ Bd k b ∧ Bd k m ∧ Bd k c ∧ Bd k d ∧ Bd k n ∧ 0 < k ∧ k ≤ 2000 ∧
  (∀ x H', Same H H' → Lst (Ib a b m c d n) x → Q (.int x) H') ∧ (NoM (Ib a b m c d n) → ∀ H', Same H H' → Q .non H')
def muB : L2.St → Hp → Nat := fun σ H => match σ with
  | some (.ref l) :: some (.ref h) :: _ => (match H l, H h with
    | some (.tup [_, _, .int m]), some (.tup [_, _, .int n]) => (m + n).toNat
    | _, _ => 0)
  | _ => 0
abbrev s_first_inside : Stmt := topS 15
abbrev N_first_inside : List Str := ["low", "high", "levels", "a", "b", "m", "c", "d", "n", "upper", "x", "slope", "offset", "divisor"]
abbrev P_first_inside : List Str := ["low", "high"]
theorem sc_first_inside : FnScope N_first_inside P_first_inside (defScope s_first_inside) := ⟨rfl, rfl, rfl, by decide +kernel, rfl, by decide +kernel, by decide +kernel⟩
theorem ok_first_inside (D : Df K mg "first_inside" s_first_inside P_first_inside) (B : Bi mg) (c_divide_up : C8.Cal P w K mg base 1 "divide_up" spDivUp []) (c_first_exit : C8.Cal P w K mg base 2 "first_exit" spExit []) : C8.Cal P w K mg base 3 "first_inside" spFI [] := by
  refine cal_of D sc_first_inside (fun vs H Q E h => ?_) (fun f cdv A outer s H vs Q E hr h => ?_)
  · obtain ⟨lw, hg, a, b, m, c, d, n, k, rfl, _⟩ := h
    rfl
  · obtain ⟨lw0, hg0, a0, b0, m0, c0, d0, n0, k, rfl, el0, eh0, m1, n1, r0, ba, bb, bm, bc, bd, bn, k0, k2, q1, q2⟩ := h
    refine ⟨_, (pss_cons (ps_set (i := 2) sc_first_inside.nd rfl (Or.inl rfl) (pe_lst pa_nil))
    (C8.pss_cut (ps_while PassesOwn.never (pt_val pe_bl)
      (pss_cons (ps_asg (pv 0) (pg_tup rfl (pgs_cons (pg_name (i := 3) sc_first_inside.nd rfl (Or.inl rfl)) (pgs_cons (pg_name (i := 4) sc_first_inside.nd rfl (Or.inl rfl)) (pgs_cons (pg_name (i := 5) sc_first_inside.nd rfl (Or.inl rfl)) pgs_nil)))))
    (pss_cons (ps_asg (pv 1) (pg_tup rfl (pgs_cons (pg_name (i := 6) sc_first_inside.nd rfl (Or.inl rfl)) (pgs_cons (pg_name (i := 7) sc_first_inside.nd rfl (Or.inl rfl)) (pgs_cons (pg_name (i := 8) sc_first_inside.nd rfl (Or.inl rfl)) pgs_nil)))))
    (pss_cons (ps_set (i := 9) sc_first_inside.nd rfl (Or.inl rfl) (C8.pe_c c_divide_up hr (by decide) (by rfl) (pa_cons (pv 4) (pa_cons (pv 5) pa_nil))))
    (pss_cons (ps_if (pt_cmpR op_le (pe_op op_mulW (pv 9) (pv 8)) (pv 7) (nomark _))
      (pss_cons (ps_set (i := 10) sc_first_inside.nd rfl (Or.inl rfl) pe_int)
    (pss_one ps_break))
      pss_nil)
    (pss_cons (ps_par (i := 4) (j := 7) rfl sc_first_inside.nd rfl rfl (by decide) rfl rfl (pa_cons (pe_op op_sub (pv 4) (pe_op op_mulW (pe_op op_sub (pv 9) pe_int) (pv 5))) (pa_cons (pe_op op_sub (pv 7) (pe_op op_mulW (pe_op op_sub (pv 9) pe_int) (pv 8))) pa_nil)) rfl)
    (pss_cons (ps_set (i := 11) sc_first_inside.nd rfl (Or.inl rfl) (C8.pe_c c_divide_up hr (by decide) (by rfl) (pa_cons (pv 3) (pa_cons (pv 5) pa_nil))))
    (pss_cons (ps_if (pt_cmpR op_le (pe_op op_mulW (pv 11) (pv 8)) (pv 6) (nomark _))
      (pss_cons (ps_set (i := 10) sc_first_inside.nd rfl (Or.inl rfl) (C8.pe_c c_first_exit hr (by decide) (by rfl) (pa_cons (pe_tup (pa_cons (pe_op op_sub (pe_op op_mulW (pv 11) (pv 5)) (pv 3)) (pa_cons (pv 4) pa_nil))) (pa_cons (pe_tup (pa_cons (pe_op op_sub (pv 6) (pe_op op_mulW (pv 11) (pv 8))) (pa_cons (pe_op op_sub (pv 8) (pv 7)) pa_nil))) pa_nil))))
    (pss_one ps_break))
      pss_nil)
    (pss_cons (ps_if (pt_cmpR op_le (pv 6) (pe_op op_mulW (pe_op op_sub (pv 11) pe_int) (pv 8)) (nomark _))
      (pss_one (ps_ret pe_non))
      pss_nil)
    (pss_cons (ps_set (i := 0) sc_first_inside.nd rfl (Or.inl rfl) (pe_tup (pa_cons (pv 8) (pa_cons (pe_op op_sub (pv 8) (pv 7)) (pa_cons (pe_op op_sub (pv 6) (pe_op op_mulW (pe_op op_sub (pv 11) pe_int) (pv 8))) pa_nil)))))
    (pss_cons (ps_set (i := 1) sc_first_inside.nd rfl (Or.inl rfl) (pe_tup (pa_cons (pv 5) (pa_cons (pe_op op_sub (pv 5) (pv 4)) (pa_cons (pe_op op_sub (pv 3) (pe_op op_mulW (pe_op op_sub (pv 11) pe_int) (pv 5))) pa_nil)))))
    (pss_one (ps_expr (pe_bm PySem.F.plainAttrs_list PySem.F.slot_list_append PySem.F.type_list_append mt_append (pv 2) (pa_cons (pv 0) pa_nil)))))))))))))))
    (pss_cons (ps_if (pt_cmpR op_isN (pv 10) pe_non (nomark _))
      (pss_one (ps_ret pe_non))
      pss_nil)
    (pss_cons (ps_for PassesOwn.never rfl (pi_reversed (by rfl) B.reversed_ (pa_cons (pv 2) pa_nil)) (pg_tup rfl (pgs_cons (pg_name (i := 11) sc_first_inside.nd rfl (Or.inl rfl)) (pgs_cons (pg_name (i := 12) sc_first_inside.nd rfl (Or.inl rfl)) (pgs_cons (pg_name (i := 13) sc_first_inside.nd rfl (Or.inl rfl)) pgs_nil))))
      (pss_one (ps_set (i := 10) sc_first_inside.nd rfl (Or.inl rfl) (C8.pe_c c_divide_up hr (by decide) (by rfl) (pa_cons (pe_op op_add (pe_op op_mulW (pv 11) (pv 10)) (pv 12)) (pa_cons (pv 13) pa_nil))))))
    (pss_one (ps_ret (pv 10))))))), ?_⟩
    have bW : Bd (k + k) (m0 * n0) := Bd.mul bm bn
    have W0 := one_le_mul m1 n1
    have bZ : Bd (2 * k + 16) (4097 * (m0 * n0)) := (Bd.mul (show Bd 13 4097 from Bd.small 13 (by decide) (by decide)) bW).mono (by omega)
    have bM : Bd (2 * k + 16) (m0 * n0 + (d0 * m0 - b0 * n0)) := (Bd.add (k := 2 * k + 1) (bW.mono (by omega)) ((Bd.sub (Bd.mul bd bm) (Bd.mul bb bn)).mono (by omega))).mono (by omega)
    have F0 := FI.init (j := 2 * k + 16) (M := m0 * n0 + (d0 * m0 - b0 * n0)) m1 n1 r0 (ba.mono (by omega)) (bb.mono (by omega)) (bc.mono (by omega)) (bd.mono (by omega)) (fun x hx => ib_far m1 n1 r0 hx)
    generalize m0 * n0 + (d0 * m0 - b0 * n0) = M at bM F0
    generalize m0 * n0 = W at bW W0 bZ F0
    have kj : 2 * k + 16 ≤ 4016 := by omega
    refine ⟨Nat.zero_le _, fun lv nlv => ?_⟩
    refine ⟨fun σ' H' => ∃ (v : V) (z0 z1 z3 z4 z5 z6 z7 z8 z9 z11 z12 z13 : Option V), σ' = [z0, z1, some (.ref lv), z3, z4, z5, z6, z7, z8, z9, some v, z11, z12, z13] ∧ Same H H' ∧ ((v = .non ∧ NoM (Ib a0 b0 m0 c0 d0 n0)) ∨
      ∃ (x a b m c d n : Int) (L : List (Int × Int × Int)) (ts : List Addr), v = .int x ∧ FI (2 * k + 16) 0 W M (Ib a0 b0 m0 c0 d0 n0) L a b m c d n ∧ Lst (Ib a b m c d n) x ∧ H' lv = some (.lst (ts.map V.ref)) ∧ Lv3 H' ts L), ?_, ?_⟩
    · refine while_by (fun σ H' => ∃ (lw hg : Addr) (a b m c d n : Int) (L : List (Int × Int × Int)) (ts : List Addr) (y3 y4 y5 y6 y7 y8 y9 y10 y11 y12 y13 : Option V), σ = [some (.ref lw), some (.ref hg), some (.ref lv), y3, y4, y5, y6, y7, y8, y9, y10, y11, y12, y13] ∧ FI (2 * k + 16) 0 W M (Ib a0 b0 m0 c0 d0 n0) L a b m c d n ∧
        H' lw = some (tp3 a b m) ∧ H' hg = some (tp3 c d n) ∧ Same H H' ∧ H' lv = some (.lst (ts.map V.ref)) ∧ Lv3 H' ts L) muB ⟨lw0, hg0, a0, b0, m0, c0, d0, n0, [], [], _, _, _, _, _, _, _, _, _, _, _, rfl, F0, sm_upd nlv _ _ el0, sm_upd nlv _ _ eh0, sm_upd nlv, upd_same, ⟨rfl, fun i t e h => by simp at h⟩⟩ ?_ ?_
      · rintro σ H1 ⟨lw, hg, a, b, m, c, d, n, L, ts, y3, y4, y5, y6, y7, y8, y9, y10, y11, y12, y13, rfl, F, el, eh, sH, elv, lvs⟩
        have m1 := F.m1
        have n1 := F.n1
        have Bm : Bd (2 * k + 16) m := by
          have h1 := mul_self_le (show 0 ≤ m by omega) n1
          have := F.w
          exact bZ.between (by omega) (by omega)
        have Bn : Bd (2 * k + 16) n := by
          have h1 := mul_self_le (show 0 ≤ n by omega) m1
          have := F.w
          rw [Int.mul_comm n m] at h1
          exact bZ.between (by omega) (by omega)
        have hlen := F.len bW
        generalize hj : 2 * k + 16 = j at *
        have j0 : 0 < j := by omega
        refine ⟨true, rfl, ?_⟩
        refine ⟨_, rfl, lw, _, rfl, SqT.of el, rfl, _, _, rfl, _, _, rfl, _, _, rfl, rfl, ?_⟩
        refine ⟨_, rfl, hg, _, rfl, SqT.of eh, rfl, _, _, rfl, _, _, rfl, _, _, rfl, rfl, ?_⟩
        refine ⟨_, rfl, _, rfl, b, m, rfl, by omega, Bm.mono (by omega), ?_⟩
        have Bu := F.bb.dvu (s := m) (by omega)
        refine ⟨_, rfl, _, rfl, _, _, rfl, rfl, mulW Bu Bn j0 j0 (by omega), _, rfl, _, _, rfl, rfl, _, rfl, ite2 (fun cA => ?_) (fun cA => ?_)⟩
        · have cA : dvu b m * n ≤ d := of_decide_eq_true cA
          have hx := ib_zero (a := a) (c := c) (show 0 < m by omega) cA
          exact ⟨.int 0, _, _, _, _, _, _, _, _, _, _, _, _, rfl, sH, .inr ⟨0, a, b, m, c, d, n, L, ts, rfl, F, hx, elv, lvs⟩⟩
        · have cA : ¬ dvu b m * n ≤ d := fun z => cA (decide_eq_true z)
          obtain ⟨t1, t2, t3⟩ := ib_rest (show 0 < m by omega) cA
          have Bu1 : Bd (j + 1) (dvu b m - 1) := Bd.sub Bu (Bd.small 1 (by decide) (by omega))
          refine ⟨_, rfl, _, rfl, _, _, rfl, rfl, _, rfl, _, _, rfl, rfl, mulW Bu1 Bm (by omega) j0 (by omega), _, _, rfl, rfl, ?_⟩
          refine ⟨_, rfl, _, rfl, _, _, rfl, rfl, _, rfl, _, _, rfl, rfl, mulW Bu1 Bn (by omega) j0 (by omega), _, _, rfl, rfl, _, _, rfl, ?_⟩
          refine ⟨_, rfl, _, rfl, a, m, rfl, by omega, Bm.mono (by omega), ?_⟩
          have Bs := F.ba.dvu (s := m) (by omega)
          have Bs1 : Bd (j + 1) (dvu a m - 1) := Bd.sub Bs (Bd.small 1 (by decide) (by omega))
          have gs := dvu_ge (x := a) (show 0 < m by omega)
          have ls := dvu_lt (x := a) (show 0 < m by omega)
          generalize hs : dvu a m = sl at *
          generalize hu : dvu b m - 1 = u at *
          rw [Int.mul_comm m sl] at gs ls
          have iff : ∀ x, Ib a (b - u * m) m c (d - u * n) n x ↔ Ib a b m c d n x := fun x => ib_down u
          have Bd' : Bd (j + j + 2) (d - u * n) := Bd.sub (F.bd.mono (by omega)) ((Bd.mul Bu1 Bn).mono (by omega))
          have eg : (b - u * m) * n - (d - u * n) * m = b * n - d * m := by grind
          have rr : (b - u * m) * n ≤ (d - u * n) * m ∨ c * m ≤ a * n := by
            rcases F.r with z | z
            · exact .inl (by omega)
            · exact .inr z
          refine ⟨_, rfl, _, rfl, _, _, rfl, rfl, mulW Bs Bn j0 j0 (by omega), _, rfl, _, _, rfl, rfl, _, rfl, ite2 (fun cB => ?_) (fun cB => ?_)⟩
          · have cB : sl * n ≤ c := of_decide_eq_true cB
            have ex : ∀ x, 0 ≤ x → (Ib a b m c d n x ↔ Ex (sl * m - a) (b - u * m) (c - sl * n) (n - (d - u * n)) x) := fun x x0 => (iff x).symm.trans (ib_ex m1 n1 gs cB t1 t2 t3 rr x0)
            have Bf : Bd (j + j + 1) (sl * m - a) := Bd.sub (Bd.mul Bs Bm) (F.ba.mono (by omega))
            have Br : Bd (j + j + 1) (c - sl * n) := Bd.sub (F.bc.mono (by omega)) (Bd.mul Bs Bn)
            refine ⟨_, rfl, _, rfl, _, _, rfl, rfl, mulW Bs Bm j0 j0 (by omega), _, rfl, _, _, rfl, rfl, _, rfl, len10 (by simp), fun p1 np1 => ?_⟩
            have s1 := sm_upd (o := .tup [.int (sl * m - a), .int (b - u * m)]) np1
            refine ⟨_, rfl, _, rfl, _, rfl, _, _, rfl, rfl, mulW Bs Bn j0 j0 (by omega), _, _, rfl, rfl, _, rfl, _, rfl, _, _, rfl, rfl, len10 (by simp), fun p2 np2 => ?_⟩
            have s2 := sm_upd (o := .tup [.int (c - sl * n), .int (n - (d - u * n))]) np2
            have s3 := s1.trans s2
            refine ⟨p1, p2, sl * m - a, (b - u * m), c - sl * n, n - (d - u * n), j + j + 1, rfl, s2 _ _ upd_same, upd_same, by omega, by omega, t1, by omega, Bf, Br, by omega, fun x H2 s4 hx => ?_, fun hx H2 s4 => ?_⟩
            · have s5 := s3.trans s4
              exact ⟨.int x, _, _, _, _, _, _, _, _, _, _, _, _, rfl, sH.trans s5, .inr ⟨x, a, b, m, c, d, n, L, ts, rfl, F, (lst_iff0 ex x).mpr hx, s5 _ _ elv, lvs.same (Fr.same s5)⟩⟩
            · exact ⟨.non, _, _, _, _, _, _, _, _, _, _, _, _, rfl, sH.trans (s3.trans s4), .inl ⟨rfl, F.Bn ((nom_iff0 ex).mpr hx)⟩⟩
          · have cB : ¬ sl * n ≤ c := fun z => cB (decide_eq_true z)
            refine ⟨_, rfl, _, rfl, _, _, rfl, rfl, _, rfl, _, _, rfl, rfl, mulW Bs1 Bn (by omega) j0 (by omega), _, _, rfl, rfl, _, rfl, ite2 (fun cC => ?_) (fun cC => ?_)⟩
            · have cC : c ≤ (sl - 1) * n := of_decide_eq_true cC
              refine q2 (F.Bn fun x x0 z => ?_) _ sH
              have z := (ib_tilt (sl - 1)).mpr ((iff x).mpr z)
              exact ib_meet (by omega) (by omega) (by rw [Int.sub_mul]; omega) (by omega) t1 t3 x0 z
            · have cC : ¬ c ≤ (sl - 1) * n := fun z => cC (decide_eq_true z)
              have S : Slim (a - (sl - 1) * m) (b - u * m) m (c - (sl - 1) * n) (d - u * n) n := by
                have e1 : (sl - 1) * m = sl * m - m := by rw [Int.sub_mul]; omega
                have e2 : (sl - 1) * n = sl * n - n := by rw [Int.sub_mul]; omega
                exact ⟨by omega, by omega, t1, t2, by omega, by omega, t3⟩
              have FN := F.next (Z := 4097 * W) S rfl rfl rfl rfl (by omega) (by omega) bZ (by omega)
              refine ⟨_, rfl, _, rfl, _, rfl, _, _, rfl, rfl, _, rfl, _, rfl, _, _, rfl, rfl, _, rfl, _, _, rfl, rfl, mulW Bs1 Bn (by omega) j0 (by omega), _, _, rfl, rfl, len10 (by simp), fun l1 nl1 => ?_⟩
              have s1 := sm_upd (o := tp3 n (n - (d - u * n)) (c - (sl - 1) * n)) nl1
              refine ⟨_, rfl, _, rfl, _, rfl, _, _, rfl, rfl, _, rfl, _, rfl, _, _, rfl, rfl, _, rfl, _, _, rfl, rfl, mulW Bs1 Bm (by omega) j0 (by omega), _, _, rfl, rfl, len10 (by simp), fun h1 nh1 => ?_⟩
              have s2 := sm_upd (o := tp3 m (m - (b - u * m)) (a - (sl - 1) * m)) nh1
              have elv1 := s1 _ _ elv
              have elv2 := s2 _ _ elv1
              have s3 := s1.trans s2
              have g1 := s2 _ _ (upd_same (H := H1) (a := l1) (o := tp3 n (n - (d - u * n)) (c - (sl - 1) * n)))
              have g2 := upd_same (H := upd H1 l1 (tp3 n (n - (d - u * n)) (c - (sl - 1) * n))) (a := h1) (o := tp3 m (m - (b - u * m)) (a - (sl - 1) * m))
              refine ⟨_, rfl, .inl ⟨rfl, _, SqL.of elv2⟩, _, rfl, lv, _, _, rfl, rfl, elv2, ?_, ?_⟩
              · rw [List.length_map, lvs.len]
                exact Nat.lt_of_lt_of_le (show L.length < 4100 by omega) (by decide)
              · have nl : ∀ (x : Addr) (xs : List V), upd (upd H1 l1 (tp3 n (n - (d - u * n)) (c - (sl - 1) * n))) h1 (tp3 m (m - (b - u * m)) (a - (sl - 1) * m)) x = some (.tup xs) → upd (upd (upd H1 l1 (tp3 n (n - (d - u * n)) (c - (sl - 1) * n))) h1 (tp3 m (m - (b - u * m)) (a - (sl - 1) * m))) lv (.lst (ts.map V.ref ++ [.ref l1])) x = some (.tup xs) := fun x xs e => by
                  rw [upd_ne (ne_of e elv2 (by intro z; cases z))]
                  exact e
                have w1 := nl _ _ g1
                have w2 := nl _ _ g2
                have lvs2 : Lv3 (upd (upd (upd H1 l1 (tp3 n (n - (d - u * n)) (c - (sl - 1) * n))) h1 (tp3 m (m - (b - u * m)) (a - (sl - 1) * m))) lv (.lst (ts.map V.ref ++ [.ref l1]))) ts L := ⟨lvs.len, fun i t' e h1 h2 => nl _ _ (s3 _ _ (lvs.at_ i t' e h1 h2))⟩
                refine ⟨⟨l1, h1, _, _, _, _, _, _, L ++ [(n, n - (d - u * n), c - (sl - 1) * n)], ts ++ [l1], _, _, _, _, _, _, _, _, _, _, _, rfl, FN, w1, w2, ?_, ?_, lvs2.snoc w1⟩, ?_⟩
                · intro x o ex
                  have nx : x ≠ lv := ne_of_none ex nlv
                  rw [upd_ne nx]
                  exact s3 _ _ (sH _ _ ex)
                · rw [upd_same, List.map_append]
                  rfl
                · show muB (some (.ref l1) :: some (.ref h1) :: _) _ < muB (some (.ref lw) :: some (.ref hg) :: _) _
                  unfold muB
                  simp only [w1, w2, el, eh]
                  have := S.am
                  have := S.cn
                  have := S.c0
                  omega
      · rintro σ H' Q1 Q2 hQ ⟨b, h4, h5⟩
        exact ⟨b, h4, hQ _ _ h5⟩
    · rintro σ H1 ⟨v, z0, z1, z3, z4, z5, z6, z7, z8, z9, z11, z12, z13, rfl, sH, ⟨rfl, hn⟩ | ⟨x, a, b, m, c, d, n, L, ts, rfl, F, hx, elv, lvs⟩⟩
      · refine ⟨_, rfl, rfl, _, rfl, iteT ?_⟩
        exact q2 hn _ sH
      · refine ⟨_, rfl, rfl, _, rfl, iteF ?_⟩
        have hlen' := lvs.len
        refine ⟨_, rfl, lv, _, rfl, SqL.of elv, ?_⟩
        refine for_it walk_rev (fun i σ H2 => ∃ (y11 y12 y13 : Option V), σ = [z0, z1, some (.ref lv), z3, z4, z5, z6, z7, z8, z9, some (.int (unv (L.drop (L.length - i)) x)), y11, y12, y13] ∧ H2 = H1) ?_ ?_ ?_ ?_
        · refine ⟨z11, z12, z13, ?_, rfl⟩
          rw [Nat.sub_zero, List.drop_length]
          rfl
        · rintro i σ H2 _ ⟨_, _, _, _, rfl⟩
          exact SqL.of elv
        · rintro i y σ H2 H3 hi ⟨y11, y12, y13, rfl, rfl⟩ ⟨rfl, hy⟩
          rw [List.length_map] at hi hy
          have hj : L.length - 1 - i < L.length := by omega
          have hjt : ts.length - 1 - i < ts.length := by omega
          rw [List.getElem?_map, List.getElem?_eq_getElem hjt] at hy
          have ey : y = V.ref ts[ts.length - 1 - i] := (Option.some.inj hy).symm
          subst ey
          have hl : L[ts.length - 1 - i]? = some L[L.length - 1 - i] := by
            rw [hlen']
            exact List.getElem?_eq_getElem hj
          have et := lvs.at_ _ _ _ (List.getElem?_eq_getElem hjt) hl
          obtain ⟨d1, d2, d3, d4⟩ := F.D _ (List.getElem_mem hj)
          have cc := F.C (L.take (L.length - i)) (L.drop (L.length - i)) (List.take_append_drop _ _).symm x hx
          have ed : L.drop (L.length - (i + 1)) = L[L.length - 1 - i] :: L.drop (L.length - i) := by
            rw [show L.length - (i + 1) = L.length - 1 - i by omega, List.drop_eq_getElem_cons hj, show L.length - 1 - i + 1 = L.length - i by omega]
          generalize L[L.length - 1 - i] = e at *
          obtain ⟨es, eo, ev⟩ := e
          refine ⟨_, _, rfl, SqT.of et, rfl, _, _, rfl, _, _, rfl, _, _, rfl, rfl, ?_⟩
          refine ⟨_, rfl, _, rfl, _, _, rfl, rfl, mulW d2 (bM.between cc.1 cc.2) (by omega) (by omega) (by omega), _, rfl, _, _, rfl, rfl, _, rfl, _, ev, rfl, (by have : 1 ≤ ev := d1; omega), d4.mono (by omega), ?_⟩
          refine ⟨some (.int es), some (.int eo), some (.int ev), ?_, rfl⟩
          rw [ed]
          rfl
        · rintro σ H2 ⟨y11, y12, y13, rfl, rfl⟩
          refine ⟨_, rfl, ?_⟩
          have e0 : L.drop (L.length - (ts.map V.ref).length) = L := by
            rw [List.length_map, hlen', Nat.sub_self]
            rfl
          rw [e0]
          exact q1 _ _ sH (F.A x hx)
end
end Lf
namespace Lf
open PySem PySem.Spec PyProof.Rows L2
theorem hitp_ib {pl s m lo hi n : Int} (h0 : 0 ≤ lo) (h2 : hi < m) : HitP pl s m lo hi n ↔ Ib s (pl - hi) m s (pl - lo) m n := by
  have e := Int.emod_add_mul_ediv (pl + s * n) m
  unfold HitP
  constructor
  · rintro ⟨g1, g2⟩
    exact ⟨(pl + s * n) / m, by omega, by omega⟩
  · rintro ⟨y, g1, g2⟩
    have : (pl + s * n) % m = pl + s * n - m * y := mod_of (k := y) (by omega) (by omega) (by omega)
    omega
/-- nothing before the lines cross -/
theorem ib_gap {a b m c d n x : Int} (m1 : 1 ≤ m) (n1 : 1 ≤ n) (h : Ib a b m c d n x) : b * n - d * m ≤ (c * m - a * n) * x := by
  obtain ⟨y, h1, h2⟩ := h
  have g1 := Int.mul_le_mul_of_nonneg_right h1 (show 0 ≤ n by omega)
  have g2 := Int.mul_le_mul_of_nonneg_right h2 (show 0 ≤ m by omega)
  have e1 : (a * x + b) * n = a * n * x + b * n := by grind
  have e2 : (c * x + d) * m = c * m * x + d * m := by grind
  have e3 : m * y * n = n * y * m := by grind
  rw [Int.sub_mul]
  omega
theorem ib_sure {a b m c d n : Int} (m1 : 1 ≤ m) (n1 : 1 ≤ n) (r : b * n ≤ d * m) (z : a * n < c * m) : Ib a b m c d n (m * n) := by
  have mn := one_le_mul m1 n1
  refine ⟨dvu (a * (m * n) + b) m, dvu_ge (by omega), ?_⟩
  have l := dvu_lt (x := a * (m * n) + b) (s := m) (by omega)
  generalize dvu (a * (m * n) + b) m = v at *
  refine Int.le_of_lt_add_one (lt_of_mulc (g := m) ?_ (by omega))
  have l2 := Int.mul_le_mul_of_nonneg_right (show m * v + 1 ≤ a * (m * n) + b + m by omega) (show 0 ≤ n by omega)
  have z2 := Int.mul_le_mul_of_nonneg_right (show a * n + 1 ≤ c * m by omega) (show 0 ≤ m * n by omega)
  have e1 : (m * v + 1) * n = n * v * m + n := by grind
  have e2 : (a * (m * n) + b + m) * n = a * n * (m * n) + b * n + m * n := by grind
  have e3 : (c * (m * n) + d + 1) * m = c * m * (m * n) + d * m + m := by grind
  have e4 : (a * n + 1) * (m * n) = a * n * (m * n) + m * n := by grind
  omega
theorem ib_from {a b m c d n s x : Int} : Ib a (a * s + b) m c (c * s + d) n x ↔ Ib a b m c d n (s + x) := by
  unfold Ib
  rw [Int.mul_add, Int.mul_add]
  constructor
  · rintro ⟨y, h1, h2⟩
    exact ⟨y, by omega, by omega⟩
  · rintro ⟨y, h1, h2⟩
    exact ⟨y, by omega, by omega⟩
section
variable {P : Program} {w : World} {K : PySem.W.Frag} {mg : Str → Option Value} {base : Heap}
/-! ### line_from, first_between -/
def spLF : Sp := fun vs H Q _ => ∃ (l : Addr) (a b m s : Int) (k : Nat), vs = [.ref l, .int s] ∧ H l = some (tp3 a b m) ∧ Bd k a ∧ Bd k s ∧ 0 < k ∧ k ≤ 9000 ∧ ∀ r, H r = none → Q (.ref r) (upd H r (tp3 a (a * s + b) m))
abbrev s_line_from : Stmt := topS 14
abbrev N_line_from : List Str := ["line", "start", "slope", "offset", "divisor"]
abbrev P_line_from : List Str := ["line", "start"]
theorem sc_line_from : FnScope N_line_from P_line_from (defScope s_line_from) := ⟨rfl, rfl, rfl, by decide +kernel, rfl, by decide +kernel, by decide +kernel⟩
theorem ok_line_from (D : Df K mg "line_from" s_line_from P_line_from) : C8.Cal P w K mg base 1 "line_from" spLF [] := by
  refine cal_of D sc_line_from (fun vs H Q E h => ?_) (fun f cdv A outer s H vs Q E hr h => ?_)
  · obtain ⟨l, a, b, m, s, k, rfl, _⟩ := h
    rfl
  · obtain ⟨l, a, b, m, st, k, rfl, el, ba, bs, k0, k9, q⟩ := h
    refine ⟨_, (pss_cons (ps_asg (pv 0) (pg_tup rfl (pgs_cons (pg_name (i := 2) sc_line_from.nd rfl (Or.inl rfl)) (pgs_cons (pg_name (i := 3) sc_line_from.nd rfl (Or.inl rfl)) (pgs_cons (pg_name (i := 4) sc_line_from.nd rfl (Or.inl rfl)) pgs_nil)))))
    (pss_one (ps_ret (pe_tup (pa_cons (pv 2) (pa_cons (pe_op op_add (pe_op op_mulW (pv 2) (pv 1)) (pv 3)) (pa_cons (pv 4) pa_nil))))))), ?_⟩
    refine ⟨_, rfl, l, _, rfl, SqT.of el, rfl, _, _, rfl, _, _, rfl, _, _, rfl, rfl, ?_⟩
    exact ⟨_, rfl, _, rfl, _, rfl, _, _, rfl, rfl, mulW ba bs k0 k0 (by omega), _, rfl, _, _, rfl, rfl, _, rfl, len10 (by simp), fun r nr => q r nr⟩
def spFB : Sp := fun vs H Q _ => ∃ (lw hg : Addr) (a b m c d n : Int) (k : Nat), vs = [.ref lw, .ref hg] ∧ H lw = some (tp3 a b m) ∧ H hg = some (tp3 c d n) ∧ 1 ≤ m ∧ 1 ≤ n ∧ Bd k a ∧ Bd k b ∧ Bd k m ∧ Bd k c ∧ Bd k d ∧ Bd k n ∧ 0 < k ∧ k ≤ 2000 ∧ (b * n ≤ d * m ∨ k ≤ 600) ∧
  (∀ x H', Same H H' → Lst (Ib a b m c d n) x → Q (.int x) H') ∧ (NoM (Ib a b m c d n) → ∀ H', Same H H' → Q .non H')
abbrev s_first_between : Stmt := topS 13
abbrev N_first_between : List Str := ["low", "high", "gap", "gain", "start"]
abbrev P_first_between : List Str := ["low", "high"]
theorem sc_first_between : FnScope N_first_between P_first_between (defScope s_first_between) := ⟨rfl, rfl, rfl, by decide +kernel, rfl, by decide +kernel, by decide +kernel⟩
theorem ok_first_between (D : Df K mg "first_between" s_first_between P_first_between) (c_divide_up : C8.Cal P w K mg base 1 "divide_up" spDivUp []) (c_line_from : C8.Cal P w K mg base 1 "line_from" spLF []) (c_first_inside : C8.Cal P w K mg base 3 "first_inside" spFI []) : C8.Cal P w K mg base 4 "first_between" spFB [] := by
  refine cal_of D sc_first_between (fun vs H Q E h => ?_) (fun f cdv A outer s H vs Q E hr h => ?_)
  · obtain ⟨lw, hg, a, b, m, c, d, n, k, rfl, _⟩ := h
    rfl
  · obtain ⟨lw, hg, a, b, m, c, d, n, k, rfl, el, eh, m1, n1, ba, bb, bm, bc, bd, bn, k0, k2, k6, q1, q2⟩ := h
    refine ⟨_, (pss_cons (ps_set (i := 2) sc_first_between.nd rfl (Or.inl rfl) (pe_op op_sub (pe_op op_mulW (pe_ix (r := rIxT K) ix_tup (pv 0) pe_int (fun _ _ => rfl)) (pe_ix (r := rIxT K) ix_tup (pv 1) pe_int (fun _ _ => rfl))) (pe_op op_mulW (pe_ix (r := rIxT K) ix_tup (pv 1) pe_int (fun _ _ => rfl)) (pe_ix (r := rIxT K) ix_tup (pv 0) pe_int (fun _ _ => rfl)))))
    (pss_cons (ps_set (i := 3) sc_first_between.nd rfl (Or.inl rfl) (pe_op op_sub (pe_op op_mulW (pe_ix (r := rIxT K) ix_tup (pv 1) pe_int (fun _ _ => rfl)) (pe_ix (r := rIxT K) ix_tup (pv 0) pe_int (fun _ _ => rfl))) (pe_op op_mulW (pe_ix (r := rIxT K) ix_tup (pv 0) pe_int (fun _ _ => rfl)) (pe_ix (r := rIxT K) ix_tup (pv 1) pe_int (fun _ _ => rfl)))))
    (pss_cons (ps_if (pt_cmpR op_le (pv 2) pe_int (nomark _))
      (pss_one (ps_ret (C8.pe_c c_first_inside hr (by decide) (by rfl) (pa_cons (pv 0) (pa_cons (pv 1) pa_nil)))))
      pss_nil)
    (pss_cons (ps_if (pt_cmpR op_le (pv 3) pe_int (nomark _))
      (pss_one (ps_ret pe_non))
      pss_nil)
    (pss_cons (ps_set (i := 4) sc_first_between.nd rfl (Or.inl rfl) (C8.pe_c c_divide_up hr (by decide) (by rfl) (pa_cons (pv 2) (pa_cons (pv 3) pa_nil))))
    (pss_one (ps_ret (pe_op op_add (pv 4) (C8.pe_c c_first_inside hr (by decide) (by rfl) (pa_cons (C8.pe_c c_line_from hr (by decide) (by rfl) (pa_cons (pv 0) (pa_cons (pv 4) pa_nil))) (pa_cons (C8.pe_c c_line_from hr (by decide) (by rfl) (pa_cons (pv 1) (pa_cons (pv 4) pa_nil))) pa_nil))))))))))), ?_⟩
    refine ⟨_, rfl, lw, _, _, _, rfl, rfl, SqT.of el, atI_nat (j := 1) rfl, _, rfl, hg, _, _, _, rfl, rfl, SqT.of eh, atI_nat (j := 2) rfl, _, _, rfl, rfl, mulW bb bn k0 k0 (by omega), ?_⟩
    refine ⟨_, rfl, hg, _, _, _, rfl, rfl, SqT.of eh, atI_nat (j := 1) rfl, _, rfl, lw, _, _, _, rfl, rfl, SqT.of el, atI_nat (j := 2) rfl, _, _, rfl, rfl, mulW bd bm k0 k0 (by omega), _, _, rfl, rfl, ?_⟩
    refine ⟨_, rfl, hg, _, _, _, rfl, rfl, SqT.of eh, atI_nat (j := 0) rfl, _, rfl, lw, _, _, _, rfl, rfl, SqT.of el, atI_nat (j := 2) rfl, _, _, rfl, rfl, mulW bc bm k0 k0 (by omega), ?_⟩
    refine ⟨_, rfl, lw, _, _, _, rfl, rfl, SqT.of el, atI_nat (j := 0) rfl, _, rfl, hg, _, _, _, rfl, rfl, SqT.of eh, atI_nat (j := 2) rfl, _, _, rfl, rfl, mulW ba bn k0 k0 (by omega), _, _, rfl, rfl, ?_⟩
    refine ⟨_, rfl, _, _, rfl, rfl, _, rfl, ite2 (fun cA => ?_) (fun cA => ?_)⟩
    · have cA : b * n - d * m ≤ 0 := of_decide_eq_true cA
      exact ⟨_, rfl, _, rfl, lw, hg, a, b, m, c, d, n, k, rfl, el, eh, m1, n1, by omega, ba, bb, bm, bc, bd, bn, k0, k2, q1, q2⟩
    · have cA : ¬ b * n - d * m ≤ 0 := fun z => cA (decide_eq_true z)
      have k6 : k ≤ 600 := k6.resolve_left (by omega)
      refine ⟨_, rfl, _, _, rfl, rfl, _, rfl, ite2 (fun cB => ?_) (fun cB => ?_)⟩
      · have cB : c * m - a * n ≤ 0 := of_decide_eq_true cB
        refine q2 (fun x x0 z => ?_) _ (Same.refl _)
        have h1 := ib_gap m1 n1 z
        have h2 := Int.mul_nonneg (show 0 ≤ -(c * m - a * n) by omega) x0
        rw [Int.neg_mul] at h2
        omega
      · have cB : ¬ c * m - a * n ≤ 0 := fun z => cB (decide_eq_true z)
        have Bg : Bd (2 * k + 1) (b * n - d * m) := (Bd.sub (Bd.mul bb bn) (Bd.mul bd bm)).mono (by omega)
        have Bh : Bd (2 * k + 1) (c * m - a * n) := (Bd.sub (Bd.mul bc bm) (Bd.mul ba bn)).mono (by omega)
        refine ⟨_, rfl, _, rfl, _, _, rfl, by omega, Bh.mono (by omega), ?_⟩
        have g1 := dvu_ge (x := b * n - d * m) (s := c * m - a * n) (by omega)
        have mn : ∀ x, b * n - d * m ≤ (c * m - a * n) * x → dvu (b * n - d * m) (c * m - a * n) ≤ x := fun x h => (dvu_le (by omega)).mpr h
        have Bs := Bg.dvu (s := c * m - a * n) (by omega)
        have s0 : 0 ≤ dvu (b * n - d * m) (c * m - a * n) := by
          rcases Int.lt_or_le (dvu (b * n - d * m) (c * m - a * n)) 0 with z | z
          · have := Int.mul_le_mul_of_nonneg_left (show dvu (b * n - d * m) (c * m - a * n) ≤ 0 by omega) (show 0 ≤ c * m - a * n by omega)
            rw [Int.mul_zero] at this
            omega
          · exact z
        generalize dvu (b * n - d * m) (c * m - a * n) = st at *
        refine ⟨_, rfl, _, rfl, _, rfl, lw, a, b, m, st, 2 * k + 1, rfl, el, ba.mono (by omega), Bs, by omega, by omega, fun l1 nl1 => ?_⟩
        have x1 := sm_upd (o := tp3 a (a * st + b) m) nl1
        refine ⟨_, rfl, _, rfl, hg, c, d, n, st, 2 * k + 1, rfl, x1 _ _ eh, bc.mono (by omega), Bs, by omega, by omega, fun h1 nh1 => ?_⟩
        have x2 := sm_upd (o := tp3 c (c * st + d) n) nh1
        have x3 := x1.trans x2
        have B1 : Bd (3 * k + 2) (a * st + b) := (Bd.add (Bd.mul ba Bs) (bb.mono (by omega))).mono (by omega)
        have B2 : Bd (3 * k + 2) (c * st + d) := (Bd.add (Bd.mul bc Bs) (bd.mono (by omega))).mono (by omega)
        have rr : (a * st + b) * n ≤ (c * st + d) * m := by
          have e1 : (a * st + b) * n = a * n * st + b * n := by grind
          have e2 : (c * st + d) * m = c * m * st + d * m := by grind
          rw [Int.sub_mul] at g1
          omega
        refine ⟨l1, h1, a, a * st + b, m, c, c * st + d, n, 3 * k + 2, rfl, x2 _ _ upd_same, upd_same, m1, n1, rr, ba.mono (by omega), B1, bm.mono (by omega), bc.mono (by omega), B2, bn.mono (by omega), by omega, by omega, fun x H2 s2 hx => ?_, fun hx => ?_⟩
        · refine ⟨_, _, rfl, rfl, ?_⟩
          obtain ⟨x0, xh, xl⟩ := hx
          refine q1 _ _ (x3.trans s2) ⟨by omega, ib_from.mp xh, fun y y0 yl z => ?_⟩
          have := mn y (ib_gap m1 n1 z)
          refine xl (y - st) (by omega) (by omega) (ib_from.mpr ?_)
          rw [show st + (y - st) = y by omega]
          exact z
        · refine absurd (ib_sure (b := a * st + b) (d := c * st + d) m1 n1 rr (by omega)) (hx _ ?_)
          have := one_le_mul m1 n1
          omega
/-! ### first_hit, count_hits -/
def spFirstHit : Sp := fun vs H Q _ => ∃ (s pl m lo hi : Int) (ar : Addr) (k : Nat), vs = [.int s, .int pl, .int m, .ref ar] ∧ H ar = some (.tup [.int lo, .int hi]) ∧ 0 ≤ lo ∧ lo ≤ hi ∧ hi < m ∧ Bd k s ∧ Bd k pl ∧ Bd k m ∧ k ≤ 1900 ∧
  (∀ n H', Same H H' → Lst (HitP pl s m lo hi) n → Q (.int n) H') ∧ (NoM (HitP pl s m lo hi) → ∀ H', Same H H' → Q .non H')
abbrev s_first_hit : Stmt := topS 12
abbrev N_first_hit : List Str := ["step", "place", "modulus", "arc", "low", "high"]
abbrev P_first_hit : List Str := ["step", "place", "modulus", "arc"]
theorem sc_first_hit : FnScope N_first_hit P_first_hit (defScope s_first_hit) := ⟨rfl, rfl, rfl, by decide +kernel, rfl, by decide +kernel, by decide +kernel⟩
theorem ok_first_hit (D : Df K mg "first_hit" s_first_hit P_first_hit) (c_first_between : C8.Cal P w K mg base 4 "first_between" spFB []) : C8.Cal P w K mg base 5 "first_hit" spFirstHit [] := by
  refine cal_of D sc_first_hit (fun vs H Q E h => ?_) (fun f cdv A outer s H vs Q E hr h => ?_)
  · obtain ⟨s, pl, m, lo, hi, ar, k, rfl, _⟩ := h
    rfl
  · obtain ⟨st, pl, m, lo, hi, ar, k, rfl, ea, h0, h1, h2, bs, bp, bm, k9, q1, q2⟩ := h
    refine ⟨_, (pss_cons (ps_asg (pv 3) (pg_tup rfl (pgs_cons (pg_name (i := 4) sc_first_hit.nd rfl (Or.inl rfl)) (pgs_cons (pg_name (i := 5) sc_first_hit.nd rfl (Or.inl rfl)) pgs_nil))))
    (pss_one (ps_ret (C8.pe_c c_first_between hr (by decide) (by rfl) (pa_cons (pe_tup (pa_cons (pv 0) (pa_cons (pe_op op_sub (pv 1) (pv 5)) (pa_cons (pv 2) pa_nil)))) (pa_cons (pe_tup (pa_cons (pv 0) (pa_cons (pe_op op_sub (pv 1) (pv 4)) (pa_cons (pv 2) pa_nil)))) pa_nil)))))), ?_⟩
    refine ⟨_, rfl, ar, _, rfl, SqT.of ea, rfl, _, _, rfl, _, _, rfl, rfl, ?_⟩
    refine ⟨_, rfl, _, rfl, _, rfl, _, _, rfl, rfl, _, rfl, len10 (by simp), fun l1 nl1 => ?_⟩
    have x1 := sm_upd (o := tp3 st (pl - hi) m) nl1
    refine ⟨_, rfl, _, rfl, _, rfl, _, _, rfl, rfl, _, rfl, len10 (by simp), fun l2 nl2 => ?_⟩
    have x2 := sm_upd (o := tp3 st (pl - lo) m) nl2
    have x3 := x1.trans x2
    have b1 : Bd (k + 1) (pl - hi) := Bd.sub bp (bm.between (by omega) (by omega))
    have b2 : Bd (k + 1) (pl - lo) := Bd.sub bp (bm.between h0 (by omega))
    have iff : ∀ n, HitP pl st m lo hi n ↔ Ib st (pl - hi) m st (pl - lo) m n := fun n => hitp_ib h0 h2
    exact ⟨l1, l2, st, pl - hi, m, st, pl - lo, m, k + 1, rfl, x2 _ _ upd_same, upd_same, by omega, by omega, bs.mono (by omega), b1, bm.mono (by omega), bs.mono (by omega), b2, bm.mono (by omega), by omega, by omega, .inl (Int.mul_le_mul_of_nonneg_right (by omega) (by omega)), fun x H2 s2 hx => q1 x _ (x3.trans s2) ((lst_iff iff x).mpr hx), fun hx H2 s2 => q2 (fun x x0 z => hx x x0 ((iff x).mp z)) _ (x3.trans s2)⟩
def spCountHits : Sp := fun vs H Q _ => ∃ (n s pl m lo hi : Int) (ar : Addr) (k : Nat), vs = [.int n, .int s, .int pl, .int m, .ref ar] ∧ H ar = some (.tup [.int lo, .int hi]) ∧ 0 ≤ n ∧ 1 ≤ m ∧ Bd k n ∧ Bd k s ∧ Bd k pl ∧ Bd k m ∧ Bd k lo ∧ Bd k hi ∧ 0 < k ∧ k ≤ 3000 ∧
  ∀ H', Same H H' → Q (.int (ch n.toNat s pl m lo hi)) H'
abbrev s_count_hits : Stmt := topS 19
abbrev N_count_hits : List Str := ["number", "step", "place", "modulus", "arc", "low", "high"]
abbrev P_count_hits : List Str := ["number", "step", "place", "modulus", "arc"]
theorem sc_count_hits : FnScope N_count_hits P_count_hits (defScope s_count_hits) := ⟨rfl, rfl, rfl, by decide +kernel, rfl, by decide +kernel, by decide +kernel⟩
theorem ok_count_hits (D : Df K mg "count_hits" s_count_hits P_count_hits) (c_floor_sum : C8.Cal P w K mg base 3 "floor_sum" spFloor []) : C8.Cal P w K mg base 4 "count_hits" spCountHits [] := by
  refine cal_of D sc_count_hits (fun vs H Q E h => ?_) (fun f cdv A outer s H vs Q E hr h => ?_)
  · obtain ⟨n, s, pl, m, lo, hi, ar, k, rfl, _⟩ := h
    rfl
  · obtain ⟨n, st, pl, m, lo, hi, ar, k, rfl, ea, h0, h1, bn, bs, bp, bm, bl, bh, k0, k3, kk⟩ := h
    refine ⟨_, (pss_cons (ps_asg (pv 4) (pg_tup rfl (pgs_cons (pg_name (i := 5) sc_count_hits.nd rfl (Or.inl rfl)) (pgs_cons (pg_name (i := 6) sc_count_hits.nd rfl (Or.inl rfl)) pgs_nil))))
    (pss_one (ps_ret (pe_op op_sub (C8.pe_c c_floor_sum hr (by decide) (by rfl) (pa_cons (pv 0) (pa_cons (pv 1) (pa_cons (pe_op op_sub (pv 2) (pv 5)) (pa_cons (pv 3) pa_nil))))) (C8.pe_c c_floor_sum hr (by decide) (by rfl) (pa_cons (pv 0) (pa_cons (pv 1) (pa_cons (pe_op op_sub (pe_op op_sub (pv 2) (pv 6)) pe_int) (pa_cons (pv 3) pa_nil))))))))), ?_⟩
    refine ⟨_, rfl, ar, _, rfl, SqT.of ea, rfl, _, _, rfl, _, _, rfl, rfl, ?_⟩
    refine ⟨_, rfl, _, rfl, _, rfl, _, rfl, _, _, rfl, rfl, _, rfl, n, st, pl - lo, m, k + 2, rfl, h0, h1, bn.mono (by omega), bs.mono (by omega), (Bd.sub bp bl).mono (by omega), bm.mono (by omega), by omega, by omega, fun H1 s1 => ?_⟩
    refine ⟨_, rfl, _, rfl, _, rfl, _, rfl, _, _, rfl, rfl, _, _, rfl, rfl, _, rfl, n, st, pl - hi - 1, m, k + 2, rfl, h0, h1, bn.mono (by omega), bs.mono (by omega), Bd.sub (Bd.sub bp bh) (Bd.small 1 (by decide) (by omega)), bm.mono (by omega), by omega, by omega, fun H2 s2 => ?_⟩
    exact ⟨_, _, rfl, rfl, kk _ (s1.trans s2)⟩
/-! ### check_between -/
def spBtw : Sp := fun vs H Q _ => ∃ (v l h : Int), vs = [.int v, .int l, .int h] ∧ l ≤ v ∧ v ≤ h ∧ Q .non H
abbrev s_check_between : Stmt := topS 8
abbrev N_check_between : List Str := ["value", "least", "most"]
abbrev P_check_between : List Str := ["value", "least", "most"]
theorem sc_check_between : FnScope N_check_between P_check_between (defScope s_check_between) := ⟨rfl, rfl, rfl, by decide +kernel, rfl, by decide +kernel, by decide +kernel⟩
theorem ok_check_between (D : Df K mg "check_between" s_check_between P_check_between) (c_is_integer : C8.Cal P w K mg base 1 "is_integer" spIsInt []) : C8.Cal P w K mg base 2 "check_between" spBtw [] := by
  refine cal_of D sc_check_between (fun vs H Q E h => ?_) (fun f cdv A outer s H vs Q E hr h => ?_)
  · obtain ⟨v, l, h, rfl, _⟩ := h
    rfl
  · obtain ⟨v, l, h, rfl, h0, h1, q⟩ := h
    refine ⟨_, (pss_one (ps_if (PW.pt (pw_or (pt_not (pt_val (C8.pe_c c_is_integer hr (by decide) (by rfl) (pa_cons (pv 0) pa_nil)))) (pw_or1 (pt_not (pt_chain op_le op_le (pv 1) (pv 0) (pv 2))))))
      (pss_one ps_never)
      pss_nil)), ?_⟩
    refine ⟨_, rfl, v, rfl, true, rfl, iteF ?_⟩
    refine ⟨_, rfl, _, rfl, _, _, rfl, rfl, _, rfl, iteD h0 ?_⟩
    exact ⟨_, rfl, _, _, rfl, rfl, _, rfl, iteNS h1 q⟩
end
end Lf
namespace Lf
open PySem PySem.Spec PyProof.Rows L2
section
variable {P : Program} {w : World} {K : PySem.W.Frag} {mg : Str → Option Value} {base : Heap}
def spTally : Sp := fun vs H Q _ => ∃ (r : Addr) (p q c t : Int) (k : Nat), vs = [.ref r, .int t] ∧ H r = some (.tup [.int p, .int q, .int c]) ∧ RuleB k p q c ∧ Bd k t ∧ 0 < k ∧ k ≤ 3000 ∧ Q (.int ((p * t + c) / q)) H
abbrev s_l_tally : Stmt := topS 42
abbrev N_l_tally : List Str := ["_law_rule_here", "_law_time"]
abbrev P_l_tally : List Str := ["_law_rule_here", "_law_time"]
theorem sc_l_tally : FnScope N_l_tally P_l_tally (defScope s_l_tally) := ⟨rfl, rfl, rfl, by decide +kernel, rfl, by decide +kernel, by decide +kernel⟩
theorem ok_l_tally (D : Df K mg "_law_tally" s_l_tally P_l_tally) : C8.Cal P w K mg base 1 "_law_tally" spTally [] := by
  refine cal_of D sc_l_tally (fun vs H Q E h => ?_) (fun f cdv A outer s H vs Q E hr h => ?_)
  · obtain ⟨r, p, q, c, t, k, rfl, _⟩ := h
    rfl
  · obtain ⟨r, p, q, c, t, k, rfl, er, R, bt, k0, k3, kk⟩ := h
    refine ⟨_, (pss_one (ps_ret (pe_op op_fdivW (pe_op op_add (pe_op op_mulW (pe_ix (r := rIxT K) ix_tup (pv 0) pe_int (fun _ _ => rfl)) (pv 1)) (pe_ix (r := rIxT K) ix_tup (pv 0) pe_int (fun _ _ => rfl))) (pe_ix (r := rIxT K) ix_tup (pv 0) pe_int (fun _ _ => rfl))))), ?_⟩
    refine ⟨_, rfl, r, _, _, _, rfl, rfl, SqT.of er, atI_nat (j := 0) rfl, _, rfl, _, _, rfl, rfl, mulW R.bp bt k0 k0 (by omega), ?_⟩
    refine ⟨_, rfl, r, _, _, _, rfl, rfl, SqT.of er, atI_nat (j := 2) rfl, _, _, rfl, rfl, ?_⟩
    refine ⟨_, rfl, r, _, _, _, rfl, rfl, SqT.of er, atI_nat (j := 1) rfl, _, _, rfl, rfl, divW (by have := R.q1; omega) R.bq (by omega), kk⟩
end
end Lf
namespace Lf
open PySem PySem.Spec PyProof.Rows L2
section
variable {P : Program} {w : World} {K : PySem.W.Frag} {mg : Str → Option Value} {base : Heap}
/-! ### _law_is_int, _law_is_rule -/
abbrev s_l_is_int : Stmt := topS 43
abbrev N_l_is_int : List Str := ["_law_thing"]
abbrev P_l_is_int : List Str := ["_law_thing"]
theorem sc_l_is_int : FnScope N_l_is_int P_l_is_int (defScope s_l_is_int) := ⟨rfl, rfl, rfl, by decide +kernel, rfl, by decide +kernel, by decide +kernel⟩
theorem ok_l_is_int (D : Df K mg "_law_is_int" s_l_is_int P_l_is_int) (B : Bi mg) : C8.Cal P w K mg base 1 "_law_is_int" spIsInt [] := by
  refine cal_of D sc_l_is_int (fun vs H Q E h => ?_) (fun f cdv A outer s H vs Q E hr h => ?_)
  · obtain ⟨i, rfl, _⟩ := h
    rfl
  · obtain ⟨i, rfl, q⟩ := h
    refine ⟨_, (pss_one (ps_ret (pe_and (pe_callB (call_isi) (by rfl) B.isinstance_ bt_isinstance (pa_cons (pv 0) (pa_cons (pe_bltn (v := .ty "int") (by rfl) B.int_ bt_int rfl) pa_nil))) (pe_one (pe_not (pe_callB (call_isi) (by rfl) B.isinstance_ bt_isinstance (pa_cons (pv 0) (pa_cons (pe_bltn (v := .ty "bool") (by rfl) B.bool_ bt_bool rfl) pa_nil)))))))), ?_⟩
    refine ⟨_, rfl, _, _, _, _, true, rfl, .ty "int", .base (.int i), kit_ty kii, true, rfl, iteT ?_⟩
    exact ⟨_, rfl, _, _, _, _, false, rfl, .ty "bool", .base (.int i), kit_ty kib, false, rfl, q⟩
end
end Lf
namespace Lf
open PySem PySem.Spec PyProof.Rows L2
section
variable {P : Program} {w : World} {K : PySem.W.Frag} {mg : Str → Option Value} {base : Heap}
/-! ### find_block -/
def spFBk : Sp := fun vs H Q _ => ∃ (R T r : Int) (k : Nat), vs = [.int R, .int T, .int r] ∧ Bd k R ∧ Bd k T ∧ 0 ≤ T ∧ 0 < k ∧ k ≤ 2000 ∧ (R * (T + 1) ≤ r → 0 < T) ∧
  (∀ t H', Same H H' → r < R * (T + 1) → H' t = some (tup3 (r / (T + 1)) (T + 1) (r % (T + 1))) → Q (.ref t) H') ∧
  (∀ t H', Same H H' → R * (T + 1) ≤ r → H' t = some (tup3 (R + (r - R * (T + 1)) / T) T ((r - R * (T + 1)) % T)) → Q (.ref t) H')
abbrev s_find_block : Stmt := topS 31
abbrev N_find_block : List Str := ["reached", "turns", "rank", "before"]
abbrev P_find_block : List Str := ["reached", "turns", "rank"]
theorem sc_find_block : FnScope N_find_block P_find_block (defScope s_find_block) := ⟨rfl, rfl, rfl, by decide +kernel, rfl, by decide +kernel, by decide +kernel⟩
theorem ok_find_block (D : Df K mg "find_block" s_find_block P_find_block) : C8.Cal P w K mg base 1 "find_block" spFBk [] := by
  refine cal_of D sc_find_block (fun vs H Q E h => ?_) (fun f cdv A outer s H vs Q E hr h => ?_)
  · obtain ⟨R, T, r, k, rfl, _⟩ := h
    rfl
  · obtain ⟨R, T, r, k, rfl, bR, bT, T0, k0, k2, hpos, q1, q2⟩ := h
    have bT1 : Bd (k + 1) (T + 1) := Bd.add bT (Bd.small 1 (by decide) (by omega))
    refine ⟨_, (pss_cons (ps_set (i := 3) sc_find_block.nd rfl (Or.inl rfl) (pe_op op_mulW (pv 0) (pe_op op_add (pv 1) pe_int)))
    (pss_cons (ps_if (pt_cmpR op_lt (pv 2) (pv 3) (nomark _))
      (pss_one (ps_ret (pe_tup (pa_cons (pe_op op_fdivW (pv 2) (pe_op op_add (pv 1) pe_int)) (pa_cons (pe_op op_add (pv 1) pe_int) (pa_cons (pe_op op_mod (pv 2) (pe_op op_add (pv 1) pe_int)) pa_nil))))))
      pss_nil)
    (pss_one (ps_ret (pe_tup (pa_cons (pe_op op_add (pv 0) (pe_op op_fdivW (pe_op op_sub (pv 2) (pv 3)) (pv 1))) (pa_cons (pv 1) (pa_cons (pe_op op_mod (pe_op op_sub (pv 2) (pv 3)) (pv 1)) pa_nil)))))))), ?_⟩
    refine ⟨_, rfl, _, rfl, _, _, rfl, rfl, _, _, rfl, rfl, mulW bR bT1 k0 (by omega) (by omega), ?_⟩
    refine ⟨_, rfl, _, rfl, _, _, rfl, rfl, _, rfl, ite2 (fun c => ?_) (fun c => ?_)⟩
    · have hlt : r < R * (T + 1) := of_decide_eq_true c
      refine ⟨_, rfl, _, rfl, _, _, rfl, rfl, _, _, rfl, rfl, divW (by omega) bT1 (by omega), _, rfl, _, _, rfl, rfl, _, rfl, _, rfl, _, _, rfl, rfl, _, _, rfl, rfl, (by show (0 : Int) < T + 1; omega), len10 (by simp), fun t nt => ?_⟩
      exact q1 t _ (sm_upd nt) hlt upd_same
    · have hle : R * (T + 1) ≤ r := by
        have : ¬ r < R * (T + 1) := fun z => c (decide_eq_true z)
        omega
      have hT := hpos hle
      refine ⟨_, rfl, _, rfl, _, rfl, _, _, rfl, rfl, _, rfl, _, _, rfl, rfl, divW hT bT (by omega), _, _, rfl, rfl, _, rfl, _, rfl, _, rfl, _, _, rfl, rfl, _, rfl, _, _, rfl, rfl, hT, len10 (by simp), fun t nt => ?_⟩
      exact q2 t _ (sm_upd nt) hle upd_same
/-! ### nth_point -/
def spNP : Sp := fun vs H Q _ => ∃ (s m n r : Int) (k : Nat), vs = [.int s, .int m, .int n, .int r] ∧ 0 ≤ s ∧ s < m ∧ Int.gcd s m = 1 ∧ 1 ≤ n ∧ n ≤ m ∧ 0 ≤ r ∧ r < n ∧ Bd k m ∧ 0 < k ∧ k ≤ 900 ∧
  ∀ y H', Same H H' → Nth s m n.toNat r y → Q (.int y) H'
def muNP : L2.St → Hp → Nat := fun σ _ => match σ with
  | _ :: some (.int v) :: _ => v.toNat
  | _ => 0
/-- where the loop stands -/
structure NPI (s0 m0 : Int) (N0 : Nat) (r0 s m n r b g : Int) : Prop where
  s0' : 0 ≤ s
  sm : s < m
  gc : Int.gcd s m = 1
  n1 : 1 ≤ n
  nm : n ≤ m
  r0' : 0 ≤ r
  rn : r < n
  mm : m ≤ m0
  sg : g = 1 ∨ g = -1
  to : ∀ y, Nth s m n.toNat r y → Nth s0 m0 N0 r0 (b + g * y)
theorem NPI.flip {s0 m0 : Int} {N0 : Nat} {r0 s m n r b g : Int} (I : NPI s0 m0 N0 r0 s m n r b g) (hr : 0 < r) (hs : 0 < s) : NPI s0 m0 N0 r0 (m - s) m n (n - r) (b + g * m) (-g) := by
  have h1 := I.sm
  have h2 := I.rn
  have hg : Int.gcd (m - s) m = 1 := by
    have := I.gc
    rw [Int.gcd_comm] at this ⊢
    rw [Int.gcd_self_sub_right]
    exact this
  refine ⟨by omega, by omega, hg, I.n1, I.nm, by omega, by omega, I.mm, by rcases I.sg with z | z <;> omega, fun y hy => ?_⟩
  have hn : ((n.toNat : Nat) : Int) = n := by have := I.n1; omega
  have key := nth_mirror (s := s) (m := m) (r := r) (n := n.toNat) (y := y) I.gc (by have := I.nm; omega) (by omega) (by omega) (by rw [hn]; exact hy)
  have := I.to _ key
  rw [show b + g * m + -g * y = b + g * (m - y) by rw [Int.mul_sub, Int.neg_mul]; omega]
  exact this
theorem NPI.down {s0 m0 : Int} {N0 : Nat} {r0 s m n r b g bl n' r' : Int} (I : NPI s0 m0 N0 r0 s m n r b g) (hr : 0 < r) (hs : 0 < s)
    (h : (r < (s * (n - 1) % m / s + 1) * (s * (n - 1) / m + 1) ∧ bl = r / (s * (n - 1) / m + 1) ∧ n' = s * (n - 1) / m + 1 ∧ r' = r % (s * (n - 1) / m + 1)) ∨
      ((s * (n - 1) % m / s + 1) * (s * (n - 1) / m + 1) ≤ r ∧ bl = s * (n - 1) % m / s + 1 + (r - (s * (n - 1) % m / s + 1) * (s * (n - 1) / m + 1)) / (s * (n - 1) / m) ∧ n' = s * (n - 1) / m ∧ r' = (r - (s * (n - 1) % m / s + 1) * (s * (n - 1) / m + 1)) % (s * (n - 1) / m) ∧ 0 < s * (n - 1) / m)) :
    NPI s0 m0 N0 r0 (-m % s) s n' r' (b + g * bl * s) g := by
  have h1 := I.sm
  have hm : 0 < m := by omega
  have hn := I.n1
  have hk : (((n - 1).toNat : Nat) : Int) = n - 1 := by omega
  have hT0 : 0 ≤ s * (n - 1) / m := Int.ediv_nonneg (Int.mul_nonneg (by omega) (by omega)) (by omega)
  have hTs : s * (n - 1) / m < s := by
    apply Int.ediv_lt_of_lt_mul hm
    have := I.nm
    have e1 : s * (n - 1) ≤ s * (m - 1) := Int.mul_le_mul_of_nonneg_left (by omega) (by omega)
    have e2 : s * (m - 1) = s * m - s := by rw [Int.mul_sub, Int.mul_one]
    omega
  have hg : Int.gcd (-m % s) s = 1 := gcd_np hs (by rw [Int.gcd_comm]; exact I.gc)
  have hnN : n.toNat = (n - 1).toNat + 1 := by omega
  refine ⟨Int.emod_nonneg _ (by omega), Int.emod_lt_of_pos _ hs, hg, ?_, ?_, ?_, ?_, by have := I.mm; omega, I.sg, fun y hy => ?_⟩
  · rcases h with ⟨_, _, e, _⟩ | ⟨_, _, e, _, hp⟩ <;> omega
  · rcases h with ⟨_, _, e, _⟩ | ⟨_, _, e, _, hp⟩ <;> omega
  · rcases h with ⟨_, _, _, e⟩ | ⟨_, _, _, e, hp⟩
    · rw [e]; exact Int.emod_nonneg _ (by omega)
    · rw [e]; exact Int.emod_nonneg _ (by omega)
  · rcases h with ⟨_, _, e1, e⟩ | ⟨_, _, e1, e, hp⟩
    · rw [e, e1]; exact Int.emod_lt_of_pos _ (by omega)
    · rw [e, e1]; exact Int.emod_lt_of_pos _ (by omega)
  · have fin : Nth s m n.toNat r (s * bl + y) := by
      rw [hnN]
      rcases h with ⟨hlt, e1, e2, e3⟩ | ⟨hle, e1, e2, e3, hp⟩
      · subst e1 e2 e3
        have := nth_early (s := s) (m := m) (r := r) (y := y) (k := (n - 1).toNat) hs (by omega) (by omega) (by have := I.rn; omega) (by rw [hk]; exact hlt) (by rw [hk, show (s * (n - 1) / m).toNat + 1 = (s * (n - 1) / m + 1).toNat by omega]; exact hy)
        rw [hk] at this
        exact this
      · subst e1 e2 e3
        have := nth_late (s := s) (m := m) (r := r) (y := y) (k := (n - 1).toNat) hs (by omega) (by have := I.rn; omega) (by rw [hk]; exact hle) (by rw [hk]; exact hp) (by rw [hk]; exact hy)
        rw [hk] at this
        exact this
    have := I.to _ fin
    rw [show b + g * bl * s + g * y = b + g * (s * bl + y) by rw [Int.mul_add, Int.mul_assoc, Int.mul_comm bl s]; omega]
    exact this
abbrev s_nth_point : Stmt := topS 30
abbrev N_nth_point : List Str := ["step", "cycle", "number", "rank", "base", "sign", "turns", "place", "reached", "block"]
abbrev P_nth_point : List Str := ["step", "cycle", "number", "rank"]
theorem sc_nth_point : FnScope N_nth_point P_nth_point (defScope s_nth_point) := ⟨rfl, rfl, rfl, by decide +kernel, rfl, by decide +kernel, by decide +kernel⟩
theorem ok_nth_point (D : Df K mg "nth_point" s_nth_point P_nth_point) (B : Bi mg) (c_find_block : C8.Cal P w K mg base 1 "find_block" spFBk []) : C8.Cal P w K mg base 2 "nth_point" spNP [] := by
  refine cal_of D sc_nth_point (fun vs H Q E h => ?_) (fun f cdv A outer s H vs Q E hr h => ?_)
  · obtain ⟨s, m, n, r, k, rfl, _⟩ := h
    rfl
  · obtain ⟨s0, m0, n0, r0, k, rfl, g0, g1, g2, g3, g4, g5, g6, bm0, k0, k9, q⟩ := h
    refine ⟨_, (pss_cons (ps_set (i := 4) sc_nth_point.nd rfl (Or.inl rfl) pe_int)
    (pss_cons (ps_set (i := 5) sc_nth_point.nd rfl (Or.inl rfl) pe_int)
    (pss_cons (ps_while PassesOwn.never (pt_cmpR op_gt (pv 3) pe_int (nomark _))
      (C8.pss_cut (ps_if (pt_cmpR op_gt (pe_op op_mul pe_int (pv 0)) (pv 1) (nomark _))
      (pss_cons (ps_aug (i := 4) sc_nth_point.nd rfl (Or.inl rfl) (pe_op op_mul (pv 5) (pv 1)) ip_add)
    (pss_cons (ps_set (i := 5) sc_nth_point.nd rfl (Or.inl rfl) (pe_un un_neg (pv 5)))
    (pss_one (ps_par (i := 0) (j := 3) rfl sc_nth_point.nd rfl rfl (by decide) rfl rfl (pa_cons (pe_op op_sub (pv 1) (pv 0)) (pa_cons (pe_op op_sub (pv 2) (pv 3)) pa_nil)) rfl))))
      pss_nil)
    (pss_cons (ps_asg (pe_callB (call_divmodW) (by rfl) B.divmod_ bt_divmod (pa_cons (pe_op op_mulW (pv 0) (pe_op op_sub (pv 2) pe_int)) (pa_cons (pv 1) pa_nil))) (pg_tup rfl (pgs_cons (pg_name (i := 6) sc_nth_point.nd rfl (Or.inl rfl)) (pgs_cons (pg_name (i := 7) sc_nth_point.nd rfl (Or.inl rfl)) pgs_nil))))
    (pss_cons (ps_set (i := 8) sc_nth_point.nd rfl (Or.inl rfl) (pe_op op_add (pe_op op_fdivW (pv 7) (pv 0)) pe_int))
    (pss_cons (ps_asg (C8.pe_c c_find_block hr (by decide) (by rfl) (pa_cons (pv 8) (pa_cons (pv 6) (pa_cons (pv 3) pa_nil)))) (pg_tup rfl (pgs_cons (pg_name (i := 9) sc_nth_point.nd rfl (Or.inl rfl)) (pgs_cons (pg_name (i := 2) sc_nth_point.nd rfl (Or.inl rfl)) (pgs_cons (pg_name (i := 3) sc_nth_point.nd rfl (Or.inl rfl)) pgs_nil)))))
    (pss_cons (ps_aug (i := 4) sc_nth_point.nd rfl (Or.inl rfl) (pe_op op_mulW (pe_op op_mul (pv 5) (pv 9)) (pv 0)) ip_add)
    (pss_one (ps_par (i := 0) (j := 1) rfl sc_nth_point.nd rfl rfl (by decide) rfl rfl (pa_cons (pe_op op_mod (pe_un un_neg (pv 1)) (pv 0)) (pa_cons (pv 0) pa_nil)) rfl))))))))
    (pss_one (ps_ret (pv 4)))))), ?_⟩
    refine while_by (fun σ H' => ∃ (s' m' n' r' b' g' : Int) (y6 y7 y8 y9 : Option V), σ = [some (.int s'), some (.int m'), some (.int n'), some (.int r'), some (.int b'), some (.int g'), y6, y7, y8, y9] ∧ NPI s0 m0 n0.toNat r0 s' m' n' r' b' g' ∧ Same H H') muNP
      ⟨s0, m0, n0, r0, 0, 1, none, none, none, none, rfl, ⟨g0, g1, g2, g3, g4, g5, g6, Int.le_refl _, .inl rfl, fun y hy => by rw [Int.zero_add, Int.one_mul]; exact hy⟩, Same.refl _⟩ ?_ ?_
    · rintro σ H1 ⟨s', m', n', r', b', g', y6, y7, y8, y9, rfl, I, sH⟩
      refine ⟨_, rfl, _, _, rfl, rfl, _, rfl, ite2 (fun c => ?_) (fun c => ?_)⟩
      · have hr0 : 0 < r' := of_decide_eq_true c
        have hs0 : 0 < s' := by
          rcases Int.lt_or_eq_of_le I.s0' with z | z
          · exact z
          · exfalso
            have := I.gc
            have h1 := I.rn
            have h2 := I.nm
            rw [← z, Int.gcd_zero_left] at this
            omega
        refine ⟨fun σ' H' => ∃ s2 r2 b2 g2 : Int, σ' = [some (.int s2), some (.int m'), some (.int n'), some (.int r2), some (.int b2), some (.int g2), y6, y7, y8, y9] ∧ NPI s0 m0 n0.toNat r0 s2 m' n' r2 b2 g2 ∧ 0 < r2 ∧ 0 < s2 ∧ H' = H1, ?_, ?_⟩
        · refine ⟨_, rfl, _, _, rfl, rfl, .inl ⟨by decide, by decide⟩, _, rfl, _, _, rfl, rfl, _, rfl, ite2 (fun c => ?_) (fun c => ?_)⟩
          · refine ⟨_, rfl, _, rfl, _, rfl, _, _, rfl, rfl, .inl (by rcases I.sg with z | z <;> subst z <;> exact ⟨by decide, by decide⟩), _, _, rfl, rfl, ?_⟩
            refine ⟨_, rfl, _, rfl, ?_⟩
            refine ⟨_, rfl, _, rfl, _, _, rfl, rfl, _, rfl, _, rfl, _, _, rfl, rfl, _, _, rfl, ?_⟩
            exact ⟨_, _, _, _, rfl, I.flip hr0 hs0, by have := I.rn; omega, by have := I.sm; omega, rfl⟩
          · exact ⟨_, _, _, _, rfl, I, hr0, hs0, rfl⟩
        · rintro σ' H' ⟨s2, r2, b2, g2, rfl, J, hr2, hs2, rfl⟩
          have hm : 0 < m' := by have := J.sm; omega
          have bm : Bd k m' := bm0.between (by omega) J.mm
          have bs : Bd k s2 := bm.between (by omega) (by have := J.sm; omega)
          have bn : Bd k n' := bm.between (by have := J.n1; omega) J.nm
          have bn1 : Bd k (n' - 1) := bm.between (by have := J.n1; omega) (by have := J.nm; omega)
          have bmm : Bd (k + k) (s2 * (n' - 1)) := bs.mul bn1
          have hT0 : 0 ≤ s2 * (n' - 1) / m' := Int.ediv_nonneg (Int.mul_nonneg (by omega) (by have := J.n1; omega)) (by omega)
          have hP0 := Int.emod_nonneg (s2 * (n' - 1)) (show m' ≠ 0 by omega)
          have hP1 := Int.emod_lt_of_pos (s2 * (n' - 1)) hm
          have hTs : s2 * (n' - 1) / m' ≤ s2 := by
            apply Int.ediv_le_of_le_mul hm
            exact Int.mul_le_mul_of_nonneg_left (by have := J.nm; omega) (by omega)
          have bT : Bd k (s2 * (n' - 1) / m') := bs.between hT0 hTs
          have bP : Bd k (s2 * (n' - 1) % m') := bm.emod hm
          have bPs : Bd k (s2 * (n' - 1) % m' / s2) := bP.ediv hs2
          refine ⟨_, rfl, _, rfl, _, _, rfl, rfl, _, _, rfl, rfl, mulW bs bn1 k0 k0 (by omega), _, rfl, _, m', rfl, divP hm bm (by omega), fun t1 nt1 => ?_⟩
          refine ⟨t1, _, rfl, SqT.of upd_same, rfl, _, _, rfl, _, _, rfl, rfl, ?_⟩
          refine ⟨_, rfl, _, rfl, _, _, rfl, rfl, divW hs2 bs (by omega), _, _, rfl, rfl, ?_⟩
          have hpos : (s2 * (n' - 1) % m' / s2 + 1) * (s2 * (n' - 1) / m' + 1) ≤ r2 → 0 < s2 * (n' - 1) / m' := fun hle => by
            rcases Int.lt_or_eq_of_le hT0 with z | z
            · exact z
            · exfalso
              have hd := Int.mul_ediv_add_emod (s2 * (n' - 1)) m'
              rw [← z, Int.mul_zero, Int.zero_add] at hd
              rw [← z, hd, Int.mul_comm s2, Int.mul_ediv_cancel _ (show s2 ≠ 0 by omega)] at hle
              have := J.rn
              omega
          have br : Bd k r2 := bn.between (by omega) (by have := J.rn; omega)
          have bg : ∀ x : Int, Bd (k + 2) x → Bd (k + 2) (g2 * x) := fun x bx => by
            rcases J.sg with z | z
            · rw [z, Int.one_mul]; exact bx
            · rw [z, Int.neg_mul, Int.one_mul]; exact bx.neg
          refine ⟨_, rfl, _, rfl, _, rfl, _, _, _, k + 1, rfl, Bd.add bPs (Bd.small 1 (by decide) (by omega)), bT.mono (by omega), hT0, by omega, by omega, hpos, fun t H2 sH2 hc er => ?_, fun t H2 sH2 hc er => ?_⟩
          · have J2 := J.down hr2 hs2 (.inl ⟨hc, rfl, rfl, rfl⟩)
            have bb : Bd (k + 2) (r2 / (s2 * (n' - 1) / m' + 1)) := (Bd.ediv br (by omega)).mono (by omega)
            refine ⟨t, _, rfl, SqT.of er, rfl, _, _, rfl, _, _, rfl, _, _, rfl, rfl, ?_⟩
            refine ⟨_, rfl, _, rfl, _, rfl, _, _, rfl, rfl, .inl (by rcases J.sg with z | z <;> subst z <;> exact ⟨by decide, by decide⟩), _, rfl, _, _, rfl, rfl, mulW (bg _ bb) bs (by omega) k0 (by omega), _, _, rfl, rfl, ?_⟩
            refine ⟨_, rfl, _, rfl, _, rfl, _, _, rfl, rfl, hs2, _, rfl, _, _, rfl, ?_, ?_⟩
            · exact ⟨_, _, _, _, _, _, _, _, _, _, rfl, J2, (sH.trans (sm_upd nt1)).trans sH2⟩
            · show s2.toNat < m'.toNat
              have := J.sm
              omega
          · have J2 := J.down hr2 hs2 (.inr ⟨hc, rfl, rfl, rfl, hpos hc⟩)
            have bq : Bd k (r2 - (s2 * (n' - 1) % m' / s2 + 1) * (s2 * (n' - 1) / m' + 1)) := br.between (by omega) (by
              have : 0 ≤ (s2 * (n' - 1) % m' / s2 + 1) * (s2 * (n' - 1) / m' + 1) := Int.mul_nonneg (by have := Int.ediv_nonneg hP0 (show 0 ≤ s2 by omega); omega) (by omega)
              omega)
            have bb : Bd (k + 2) (s2 * (n' - 1) % m' / s2 + 1 + (r2 - (s2 * (n' - 1) % m' / s2 + 1) * (s2 * (n' - 1) / m' + 1)) / (s2 * (n' - 1) / m')) := Bd.add (Bd.add bPs (Bd.small 1 (by decide) (by omega))) ((Bd.ediv bq (hpos hc)).mono (by omega))
            refine ⟨t, _, rfl, SqT.of er, rfl, _, _, rfl, _, _, rfl, _, _, rfl, rfl, ?_⟩
            refine ⟨_, rfl, _, rfl, _, rfl, _, _, rfl, rfl, .inl (by rcases J.sg with z | z <;> subst z <;> exact ⟨by decide, by decide⟩), _, rfl, _, _, rfl, rfl, mulW (bg _ bb) bs (by omega) k0 (by omega), _, _, rfl, rfl, ?_⟩
            refine ⟨_, rfl, _, rfl, _, rfl, _, _, rfl, rfl, hs2, _, rfl, _, _, rfl, ?_, ?_⟩
            · exact ⟨_, _, _, _, _, _, _, _, _, _, rfl, J2, (sH.trans (sm_upd nt1)).trans sH2⟩
            · show s2.toNat < m'.toNat
              have := J.sm
              omega
      · have hr0 : r' = 0 := by
          have : ¬ 0 < r' := fun z => c (decide_eq_true z)
          have := I.r0'
          omega
        subst hr0
        have := I.to 0 (nth_zero I.gc (by have := I.n1; omega) (by have := I.nm; have := I.n1; omega))
        rw [Int.mul_zero, Int.add_zero] at this
        exact ⟨_, rfl, q _ _ sH this⟩
    · rintro σ H' Q1 Q2 hQ ⟨v, h1, i, j, h2, h3, b, h4, h5⟩
      exact ⟨v, h1, i, j, h2, h3, b, h4, hQ _ _ h5⟩
end
end Lf
namespace Lf
open PySem PySem.Spec PyProof.Rows L2
/-- the number of patterns -/
def tot (wd q : Int) : Int := if q < wd + 1 then q else wd + 1
theorem tot_in {wd q : Int} (h0 : 0 ≤ wd) (hq : 1 ≤ q) : 1 ≤ tot wd q ∧ tot wd q ≤ q ∧ tot wd q = min (wd + 1) q := by
  unfold tot
  by_cases h : q < wd + 1
  · rw [if_pos h]; omega
  · rw [if_neg h]; omega
section
variable {P : Program} {w : World} {K : PySem.W.Frag} {mg : Str → Option Value} {base : Heap}
def spPT : Sp := fun vs H Q _ => ∃ (r : Addr) (p q c wd : Int) (b : Nat), vs = [.ref r, .int wd] ∧ H r = some (tup3 p q c) ∧ RuleB b p q c ∧ 0 ≤ wd ∧ b ≤ 4000 ∧ ∀ H', Same H H' → Q (.int (tot wd q)) H'
abbrev s_pattern_total : Stmt := topS 24
abbrev N_pattern_total : List Str := ["rule", "width"]
abbrev P_pattern_total : List Str := ["rule", "width"]
theorem sc_pattern_total : FnScope N_pattern_total P_pattern_total (defScope s_pattern_total) := ⟨rfl, rfl, rfl, by decide +kernel, rfl, by decide +kernel, by decide +kernel⟩
theorem ok_pattern_total (D : Df K mg "pattern_total" s_pattern_total P_pattern_total) (B : Bi mg) (c_check_rule : C8.Cal P w K mg base 3 "check_rule" spCheckRule []) (c_check_at_least : C8.Cal P w K mg base 2 "check_at_least" spCheckAL []) : C8.Cal P w K mg base 4 "pattern_total" spPT [] := by
  refine cal_of D sc_pattern_total (fun vs H Q E h => ?_) (fun f cdv A outer s H vs Q E hr h => ?_)
  · obtain ⟨r, p, q, c, wd, b, rfl, _⟩ := h
    rfl
  · obtain ⟨r, p, q, c, wd, b, rfl, er, R, h0, b4, k⟩ := h
    refine ⟨_, (pss_cons (ps_expr (C8.pe_c c_check_rule hr (by decide) (by rfl) (pa_cons (pv 0) pa_nil)))
    (pss_cons (ps_expr (C8.pe_c c_check_at_least hr (by decide) (by rfl) (pa_cons (pv 1) (pa_cons pe_int pa_nil))))
    (pss_one (ps_ret (pe_callB (call_min2 rfl) (by rfl) B.min_ bt_min (pa_cons (pe_op op_add (pv 1) pe_int) (pa_cons (pe_ix (r := rIxT K) ix_tup (pv 0) pe_int (fun _ _ => rfl)) pa_nil))))))), ?_⟩
    refine ⟨_, rfl, r, p, q, c, b, rfl, er, R, fun H1 s1 => ?_⟩
    refine ⟨_, rfl, wd, 0, rfl, h0, ?_⟩
    refine ⟨_, rfl, _, _, rfl, rfl, _, rfl, r, _, _, _, rfl, rfl, SqT.of (s1 _ _ er), atI_nat (j := 1) rfl, _, _, rfl, ?_⟩
    exact k _ s1
def spPR : Sp := fun vs H Q _ => ∃ (r : Addr) (p q c wd t : Int) (b : Nat), vs = [.ref r, .int wd, .int t] ∧ H r = some (tup3 p q c) ∧ RuleB b p q c ∧ 0 ≤ wd ∧ Bd b t ∧ 0 < b ∧ b ≤ 2000 ∧
  ∀ H', Same H H' → Q (.int (rk p q (tot wd q).toNat ((p * t + c) % q) - 1)) H'
abbrev s_pattern_rank : Stmt := topS 25
abbrev N_pattern_rank : List Str := ["rule", "width", "start", "total", "p", "q", "c"]
abbrev P_pattern_rank : List Str := ["rule", "width", "start"]
theorem sc_pattern_rank : FnScope N_pattern_rank P_pattern_rank (defScope s_pattern_rank) := ⟨rfl, rfl, rfl, by decide +kernel, rfl, by decide +kernel, by decide +kernel⟩
theorem ok_pattern_rank (D : Df K mg "pattern_rank" s_pattern_rank P_pattern_rank) (c_pattern_total : C8.Cal P w K mg base 4 "pattern_total" spPT []) (c_check_integer : C8.Cal P w K mg base 2 "check_integer" spCheckInt []) (c_count_hits : C8.Cal P w K mg base 4 "count_hits" spCountHits []) : C8.Cal P w K mg base 5 "pattern_rank" spPR [] := by
  refine cal_of D sc_pattern_rank (fun vs H Q E h => ?_) (fun f cdv A outer s H vs Q E hr h => ?_)
  · obtain ⟨r, p, q, c, wd, t, b, rfl, _⟩ := h
    rfl
  · obtain ⟨r, p, q, c, wd, t, b, rfl, er, R, h0, bt, b0, b2, k⟩ := h
    have hq := R.q1
    obtain ⟨t1, t2, t3⟩ := tot_in h0 hq
    have x0 := Int.emod_nonneg (p * t + c) (show q ≠ 0 by omega)
    have x1 := Int.emod_lt_of_pos (p * t + c) (show 0 < q by omega)
    refine ⟨_, (pss_cons (ps_set (i := 3) sc_pattern_rank.nd rfl (Or.inl rfl) (C8.pe_c c_pattern_total hr (by decide) (by rfl) (pa_cons (pv 0) (pa_cons (pv 1) pa_nil))))
    (pss_cons (ps_expr (C8.pe_c c_check_integer hr (by decide) (by rfl) (pa_cons (pv 2) pa_nil)))
    (pss_cons (ps_asg (pv 0) (pg_tup rfl (pgs_cons (pg_name (i := 4) sc_pattern_rank.nd rfl (Or.inl rfl)) (pgs_cons (pg_name (i := 5) sc_pattern_rank.nd rfl (Or.inl rfl)) (pgs_cons (pg_name (i := 6) sc_pattern_rank.nd rfl (Or.inl rfl)) pgs_nil)))))
    (pss_one (ps_ret (pe_op op_sub (C8.pe_c c_count_hits hr (by decide) (by rfl) (pa_cons (pv 3) (pa_cons (pe_un un_neg (pv 4)) (pa_cons pe_int (pa_cons (pv 5) (pa_cons (pe_tup (pa_cons pe_int (pa_cons (pe_op op_mod (pe_op op_add (pe_op op_mulW (pv 4) (pv 2)) (pv 6)) (pv 5)) pa_nil))) pa_nil)))))) pe_int)))))), ?_⟩
    refine ⟨_, rfl, _, rfl, r, p, q, c, wd, b, rfl, er, R, h0, by omega, fun H1 s1 => ?_⟩
    refine ⟨_, rfl, t, rfl, ?_⟩
    refine ⟨_, rfl, r, _, rfl, SqT.of (s1 _ _ er), rfl, _, _, rfl, _, _, rfl, _, _, rfl, rfl, ?_⟩
    refine ⟨_, rfl, _, rfl, _, rfl, _, rfl, _, rfl, _, rfl, _, _, rfl, rfl, mulW R.bp bt b0 b0 (by omega), _, rfl, _, _, rfl, rfl, _, rfl, _, _, rfl, rfl, (by show (0 : Int) < q; omega), len10 (by simp), fun ar nar => ?_⟩
    refine ⟨_, -p, 0, q, 0, (p * t + c) % q, ar, b + 1, rfl, upd_same, by omega, hq, (R.bq.between (by omega) t2).mono (by omega), R.bp.neg.mono (by omega), Bd.small 1 (by decide) (by omega), R.bq.mono (by omega), Bd.small 1 (by decide) (by omega), (R.bq.between x0 (by omega)).mono (by omega), by omega, by omega, fun H2 s2 => ?_⟩
    refine ⟨_, _, rfl, rfl, ?_⟩
    rw [ch_rk (by omega) x0 x1]
    exact k _ (s1.trans ((sm_upd nar).trans s2))
def spPA : Sp := fun vs H Q _ => ∃ (r : Addr) (p q c wd k : Int) (b : Nat), vs = [.ref r, .int wd, .int k] ∧ H r = some (tup3 p q c) ∧ RuleB b p q c ∧ 0 ≤ wd ∧ 0 ≤ k ∧ k < tot wd q ∧ 0 < b ∧ b ≤ 900 ∧
  ∀ ar lo hi H', Same H H' → H' ar = some (.tup [.int lo, .int hi]) → Arc p q (tot wd q).toNat k lo hi → Q (.ref ar) H'
abbrev s_pattern_arc : Stmt := topS 29
abbrev N_pattern_arc : List Str := ["rule", "width", "rank", "total", "p", "q", "c", "low"]
abbrev P_pattern_arc : List Str := ["rule", "width", "rank"]
theorem sc_pattern_arc : FnScope N_pattern_arc P_pattern_arc (defScope s_pattern_arc) := ⟨rfl, rfl, rfl, by decide +kernel, rfl, by decide +kernel, by decide +kernel⟩
theorem ok_pattern_arc (D : Df K mg "pattern_arc" s_pattern_arc P_pattern_arc) (c_pattern_total : C8.Cal P w K mg base 4 "pattern_total" spPT []) (c_check_between : C8.Cal P w K mg base 2 "check_between" spBtw []) (c_nth_point : C8.Cal P w K mg base 2 "nth_point" spNP []) : C8.Cal P w K mg base 5 "pattern_arc" spPA [] := by
  refine cal_of D sc_pattern_arc (fun vs H Q E h => ?_) (fun f cdv A outer s H vs Q E hr h => ?_)
  · obtain ⟨r, p, q, c, wd, k, b, rfl, _⟩ := h
    rfl
  · obtain ⟨r, p, q, c, wd, k, b, rfl, er, R, h0, k0, kt, b0, b9, kk⟩ := h
    have hq := R.q1
    obtain ⟨t1, t2, t3⟩ := tot_in h0 hq
    have gc := gcd_np (show 0 < q by omega) R.g
    have z0 := Int.emod_nonneg (-p) (show q ≠ 0 by omega)
    have z1 := Int.emod_lt_of_pos (-p) (show 0 < q by omega)
    refine ⟨_, (pss_cons (ps_set (i := 3) sc_pattern_arc.nd rfl (Or.inl rfl) (C8.pe_c c_pattern_total hr (by decide) (by rfl) (pa_cons (pv 0) (pa_cons (pv 1) pa_nil))))
    (pss_cons (ps_expr (C8.pe_c c_check_between hr (by decide) (by rfl) (pa_cons (pv 2) (pa_cons pe_int (pa_cons (pe_op op_sub (pv 3) pe_int) pa_nil)))))
    (pss_cons (ps_asg (pv 0) (pg_tup rfl (pgs_cons (pg_name (i := 4) sc_pattern_arc.nd rfl (Or.inl rfl)) (pgs_cons (pg_name (i := 5) sc_pattern_arc.nd rfl (Or.inl rfl)) (pgs_cons (pg_name (i := 6) sc_pattern_arc.nd rfl (Or.inl rfl)) pgs_nil)))))
    (pss_cons (ps_set (i := 7) sc_pattern_arc.nd rfl (Or.inl rfl) (C8.pe_c c_nth_point hr (by decide) (by rfl) (pa_cons (pe_op op_mod (pe_un un_neg (pv 4)) (pv 5)) (pa_cons (pv 5) (pa_cons (pv 3) (pa_cons (pv 2) pa_nil))))))
    (pss_cons (ps_if (pt_cmpR op_eq (pv 2) (pe_op op_sub (pv 3) pe_int) (nomark _))
      (pss_one (ps_ret (pe_tup (pa_cons (pv 7) (pa_cons (pe_op op_sub (pv 5) pe_int) pa_nil)))))
      pss_nil)
    (pss_one (ps_ret (pe_tup (pa_cons (pv 7) (pa_cons (pe_op op_sub (C8.pe_c c_nth_point hr (by decide) (by rfl) (pa_cons (pe_op op_mod (pe_un un_neg (pv 4)) (pv 5)) (pa_cons (pv 5) (pa_cons (pv 3) (pa_cons (pe_op op_add (pv 2) pe_int) pa_nil))))) pe_int) pa_nil)))))))))), ?_⟩
    refine ⟨_, rfl, _, rfl, r, p, q, c, wd, b, rfl, er, R, h0, by omega, fun H1 s1 => ?_⟩
    refine ⟨_, rfl, _, rfl, _, _, rfl, rfl, _, _, _, rfl, k0, by omega, ?_⟩
    refine ⟨_, rfl, r, _, rfl, SqT.of (s1 _ _ er), rfl, _, _, rfl, _, _, rfl, _, _, rfl, rfl, ?_⟩
    refine ⟨_, rfl, _, rfl, _, rfl, _, _, rfl, rfl, (by show (0 : Int) < q; omega), _, rfl, _, rfl, _, rfl, _, _, _, _, b, rfl, z0, z1, gc, t1, t2, k0, kt, R.bq, b0, b9, fun lo H2 s2 hlo => ?_⟩
    refine ⟨_, rfl, _, rfl, _, _, rfl, rfl, rfl, _, rfl, ite2 (fun e => ?_) (fun e => ?_)⟩
    · have e' : k = tot wd q - 1 := V.int.inj (of_decide_eq_true e)
      refine ⟨_, rfl, _, rfl, _, _, rfl, rfl, len10 (by simp), fun ar nar => ?_⟩
      exact kk ar lo (q - 1) _ (s1.trans (s2.trans (sm_upd nar))) upd_same ⟨hlo, fun z => by omega, fun _ => by omega⟩
    · have e' : ¬ k = tot wd q - 1 := fun z => e (decide_eq_true (congrArg V.int z))
      refine ⟨_, rfl, _, rfl, _, rfl, _, rfl, _, _, rfl, rfl, (by show (0 : Int) < q; omega), _, rfl, _, rfl, _, rfl, _, _, rfl, rfl, _, _, _, _, b, rfl, z0, z1, gc, t1, t2, by omega, by omega, R.bq, b0, b9, fun nx H3 s3 hnx => ?_⟩
      refine ⟨_, _, rfl, rfl, len10 (by simp), fun ar nar => ?_⟩
      exact kk ar lo (nx - 1) _ (s1.trans (s2.trans (s3.trans (sm_upd nar)))) upd_same ⟨hlo, fun _ => by rw [show nx - 1 + 1 = nx by omega]; exact hnx, fun z => by omega⟩
def spPC : Sp := fun vs H Q _ => ∃ (r : Addr) (p q c wd k x y : Int) (b : Nat), vs = [.ref r, .int wd, .int k, .int x, .int y] ∧ H r = some (tup3 p q c) ∧ RuleB b p q c ∧ 0 ≤ wd ∧ 0 ≤ k ∧ k < tot wd q ∧ Bd b x ∧ Bd b y ∧ 0 < b ∧ b ≤ 900 ∧
  ∀ lo hi H', Same H H' → Arc p q (tot wd q).toNat k lo hi → Q (.int (ch (y - x).toNat p (p * x + c) q lo hi)) H'
abbrev s_pattern_count : Stmt := topS 26
abbrev N_pattern_count : List Str := ["rule", "width", "rank", "start", "stop", "arc", "p", "q", "c"]
abbrev P_pattern_count : List Str := ["rule", "width", "rank", "start", "stop"]
theorem sc_pattern_count : FnScope N_pattern_count P_pattern_count (defScope s_pattern_count) := ⟨rfl, rfl, rfl, by decide +kernel, rfl, by decide +kernel, by decide +kernel⟩
theorem ok_pattern_count (D : Df K mg "pattern_count" s_pattern_count P_pattern_count) (B : Bi mg) (c_pattern_arc : C8.Cal P w K mg base 5 "pattern_arc" spPA []) (c_check_range : C8.Cal P w K mg base 3 "check_range" spCheckRange []) (c_count_hits : C8.Cal P w K mg base 4 "count_hits" spCountHits []) : C8.Cal P w K mg base 6 "pattern_count" spPC [] := by
  refine cal_of D sc_pattern_count (fun vs H Q E h => ?_) (fun f cdv A outer s H vs Q E hr h => ?_)
  · obtain ⟨r, p, q, c, wd, k, x, y, b, rfl, _⟩ := h
    rfl
  · obtain ⟨r, p, q, c, wd, k, x, y, b, rfl, er, R, h0, k0, kt, bx, by_, b0, b9, kk⟩ := h
    have hq := R.q1
    obtain ⟨t1, t2, t3⟩ := tot_in h0 hq
    refine ⟨_, (pss_cons (ps_set (i := 5) sc_pattern_count.nd rfl (Or.inl rfl) (C8.pe_c c_pattern_arc hr (by decide) (by rfl) (pa_cons (pv 0) (pa_cons (pv 1) (pa_cons (pv 2) pa_nil)))))
    (pss_cons (ps_expr (C8.pe_c c_check_range hr (by decide) (by rfl) (pa_cons (pv 3) (pa_cons (pv 4) pa_nil))))
    (pss_cons (ps_asg (pv 0) (pg_tup rfl (pgs_cons (pg_name (i := 6) sc_pattern_count.nd rfl (Or.inl rfl)) (pgs_cons (pg_name (i := 7) sc_pattern_count.nd rfl (Or.inl rfl)) (pgs_cons (pg_name (i := 8) sc_pattern_count.nd rfl (Or.inl rfl)) pgs_nil)))))
    (pss_one (ps_ret (C8.pe_c c_count_hits hr (by decide) (by rfl) (pa_cons (pe_callB (call_max2 rfl) (by rfl) B.max_ bt_max (pa_cons pe_int (pa_cons (pe_op op_sub (pv 4) (pv 3)) pa_nil))) (pa_cons (pv 6) (pa_cons (pe_op op_add (pe_op op_mulW (pv 6) (pv 3)) (pv 8)) (pa_cons (pv 7) (pa_cons (pv 5) pa_nil))))))))))), ?_⟩
    refine ⟨_, rfl, _, rfl, _, rfl, r, p, q, c, wd, k, b, rfl, er, R, h0, k0, kt, b0, b9, fun ar lo hi H1 s1 e1 A => ?_⟩
    obtain ⟨a1, a2, a3⟩ := A.le (by omega)
    refine ⟨_, rfl, _, rfl, x, y, rfl, ?_⟩
    refine ⟨_, rfl, r, _, rfl, SqT.of (s1 _ _ er), rfl, _, _, rfl, _, _, rfl, _, _, rfl, rfl, ?_⟩
    have hmx : ∀ z : Int, 0 ≤ (if z > 0 then z else 0) ∧ (if z > 0 then z else 0).toNat = z.toNat ∧ (Bd (b + 1) z → Bd (b + 1) (if z > 0 then z else 0)) := fun z => by
      by_cases hz : z > 0
      · rw [if_pos hz]
        exact ⟨by omega, rfl, id⟩
      · rw [if_neg hz]
        exact ⟨by omega, by omega, fun _ => Bd.small 1 (by decide) (by omega)⟩
    obtain ⟨m0, m1, m2⟩ := hmx (y - x)
    refine ⟨_, rfl, _, rfl, _, _, rfl, rfl, _, _, rfl, _, rfl, _, rfl, _, rfl, _, _, rfl, rfl, mulW R.bp bx b0 b0 (by omega), _, rfl, _, _, rfl, rfl, _, rfl, _, rfl, _, p, _, q, _, _, ar, b + b + 1, rfl, e1, m0, hq, (m2 (Bd.sub by_ bx)).mono (by omega), R.bp.mono (by omega), Bd.add (R.bp.mul bx) (R.bc.mono (by omega)), R.bq.mono (by omega), (R.bq.between a1 (by omega)).mono (by omega), (R.bq.between (by omega) (by omega)).mono (by omega), by omega, by omega, fun H3 s3 => ?_⟩
    rw [m1]
    exact kk lo hi _ (s1.trans s3) A
def spNx : Sp := fun vs H Q _ => ∃ (r : Addr) (p q c wd k t : Int) (b : Nat), vs = [.ref r, .int wd, .int k, .int t] ∧ H r = some (tup3 p q c) ∧ RuleB b p q c ∧ 0 ≤ wd ∧ 0 ≤ k ∧ k < tot wd q ∧ Bd b t ∧ 0 < b ∧ b ≤ 900 ∧
  ∀ lo hi n H', Same H H' → Arc p q (tot wd q).toNat k lo hi → Lst (HitP (p * t + c) p q lo hi) n → Q (.int (t + n)) H'
abbrev s_next_pattern : Stmt := topS 27
abbrev N_next_pattern : List Str := ["rule", "width", "rank", "start", "arc", "p", "q", "c"]
abbrev P_next_pattern : List Str := ["rule", "width", "rank", "start"]
theorem sc_next_pattern : FnScope N_next_pattern P_next_pattern (defScope s_next_pattern) := ⟨rfl, rfl, rfl, by decide +kernel, rfl, by decide +kernel, by decide +kernel⟩
theorem ok_next_pattern (D : Df K mg "next_pattern" s_next_pattern P_next_pattern) (c_pattern_arc : C8.Cal P w K mg base 5 "pattern_arc" spPA []) (c_check_integer : C8.Cal P w K mg base 2 "check_integer" spCheckInt []) (c_first_hit : C8.Cal P w K mg base 5 "first_hit" spFirstHit []) : C8.Cal P w K mg base 6 "next_pattern" spNx [] := by
  refine cal_of D sc_next_pattern (fun vs H Q E h => ?_) (fun f cdv A outer s H vs Q E hr h => ?_)
  · obtain ⟨r, p, q, c, wd, k, t, b, rfl, _⟩ := h
    rfl
  · obtain ⟨r, p, q, c, wd, k, t, b, rfl, er, R, h0, k0, kt, bt, b0, b9, kk⟩ := h
    have hq := R.q1
    obtain ⟨t1, t2, t3⟩ := tot_in h0 hq
    refine ⟨_, (pss_cons (ps_set (i := 4) sc_next_pattern.nd rfl (Or.inl rfl) (C8.pe_c c_pattern_arc hr (by decide) (by rfl) (pa_cons (pv 0) (pa_cons (pv 1) (pa_cons (pv 2) pa_nil)))))
    (pss_cons (ps_expr (C8.pe_c c_check_integer hr (by decide) (by rfl) (pa_cons (pv 3) pa_nil)))
    (pss_cons (ps_asg (pv 0) (pg_tup rfl (pgs_cons (pg_name (i := 5) sc_next_pattern.nd rfl (Or.inl rfl)) (pgs_cons (pg_name (i := 6) sc_next_pattern.nd rfl (Or.inl rfl)) (pgs_cons (pg_name (i := 7) sc_next_pattern.nd rfl (Or.inl rfl)) pgs_nil)))))
    (pss_one (ps_ret (pe_op op_add (pv 3) (C8.pe_c c_first_hit hr (by decide) (by rfl) (pa_cons (pv 5) (pa_cons (pe_op op_add (pe_op op_mulW (pv 5) (pv 3)) (pv 7)) (pa_cons (pv 6) (pa_cons (pv 4) pa_nil))))))))))), ?_⟩
    refine ⟨_, rfl, _, rfl, _, rfl, r, p, q, c, wd, k, b, rfl, er, R, h0, k0, kt, b0, b9, fun ar lo hi H1 s1 e1 A => ?_⟩
    obtain ⟨a1, a2, a3⟩ := A.le (by omega)
    refine ⟨_, rfl, t, rfl, ?_⟩
    refine ⟨_, rfl, r, _, rfl, SqT.of (s1 _ _ er), rfl, _, _, rfl, _, _, rfl, _, _, rfl, rfl, ?_⟩
    refine ⟨_, rfl, _, rfl, _, rfl, _, rfl, _, _, rfl, rfl, mulW R.bp bt b0 b0 (by omega), _, rfl, _, _, rfl, rfl, _, rfl, _, rfl, p, _, q, _, _, ar, b + b + 1, rfl, e1, a1, a2, a3, R.bp.mono (by omega), Bd.add (R.bp.mul bt) (R.bc.mono (by omega)), R.bq.mono (by omega), by omega, fun n H3 s3 hn => ?_, fun hn => ?_⟩
    · exact ⟨_, _, rfl, rfl, kk lo hi n _ (s1.trans s3) A hn⟩
    · exact absurd hn (hit_ex (by omega) R.g a1 a2 a3)
end
end Lf
namespace Lf
open PySem PySem.Spec PyProof.Rows L2
/-- a list of pairs -/
structure PairsAt (H : Hp) (L : Addr) (ps : List (Int × Int)) : Prop where
  ex : ∃ ts : List Addr, H L = some (.lst (ts.map V.ref)) ∧ ts.length = ps.length ∧ ∀ (i : Nat) (t : Addr) (e : Int × Int), ts[i]? = some t → ps[i]? = some e → H t = some (.tup [.int e.1, .int e.2])
theorem pairs_dp {K : PySem.W.Frag} {H : Hp} : ∀ (ts : List Addr) (ps : List (Int × Int)), ts.length = ps.length → (∀ (i : Nat) (t : Addr) (e : Int × Int), ts[i]? = some t → ps[i]? = some e → H t = some (.tup [.int e.1, .int e.2])) →
    DpAll K H (ts.map V.ref) (ps.map fun e => PyData.tuple [.int e.1, .int e.2])
  | [], [], _, _ => .nil
  | [], _ :: _, h, _ => by simp at h
  | _ :: _, [], h, _ => by simp at h
  | t :: ts, e :: ps, h, a => .cons (Dp.tup (SqT.of (a 0 t e rfl rfl)) (.cons (.int _) (.cons (.int _) .nil))) (pairs_dp ts ps (by simpa using h) fun i t' e' h1 h2 => a (i + 1) t' e' h1 h2)
theorem PairsAt.dp {K : PySem.W.Frag} {H : Hp} {L : Addr} {ps : List (Int × Int)} (h : PairsAt H L ps) : Dp K H (.ref L) (.list (ps.map fun e => PyData.tuple [.int e.1, .int e.2])) := by
  obtain ⟨ts, e1, e2, e3⟩ := h.ex
  exact Dp.lst (SqL.of e1) (pairs_dp ts ps e2 e3)
/-- the distances and their numbers -/
def dl (a b size rise : Int) : List (Int × Int) := if a = b then [(a, size)] else if a < b then [(a, size - rise), (b, rise)] else [(b, rise), (a, size - rise)]
/-- what the dict holds -/
def dkv (a b size rise : Int) : List (Key × V) := if a = b then [(Sum.inl a, .int size)] else [(Sum.inl a, .int (size - rise)), (Sum.inl b, .int rise)]
theorem dkv_keys (a b size rise : Int) : (dkv a b size rise).map (·.1) = (if a = b then [a] else [a, b]).map Sum.inl := by
  unfold dkv
  split <;> rfl
theorem dl_keys {a b size rise : Int} {ys : List Int} (h : ys.Perm (if a = b then [a] else [a, b])) (hs : ys.Pairwise (· ≤ ·)) : ys = (dl a b size rise).map (·.1) := by
  unfold dl
  by_cases e : a = b
  · rw [if_pos e] at h ⊢
    exact List.perm_singleton.mp h
  · rw [if_neg e] at h ⊢
    obtain ⟨x, y, rfl⟩ : ∃ x y, ys = [x, y] := by
      have hl := h.length_eq
      match ys, hl with
      | [x, y], _ => exact ⟨x, y, rfl⟩
    have hxy : x ≤ y := by simpa using hs
    have hx : x = a ∨ x = b := by simpa using h.mem_iff.mp (by simp : x ∈ [x, y])
    have ha : a = x ∨ a = y := by simpa using h.mem_iff.mpr (by simp : a ∈ [a, b])
    have hb : b = x ∨ b = y := by simpa using h.mem_iff.mpr (by simp : b ∈ [a, b])
    by_cases hlt : a < b
    · rw [if_pos hlt]
      have : x = a ∧ y = b := by omega
      rw [this.1, this.2]
      rfl
    · rw [if_neg hlt]
      have : x = b ∧ y = a := by omega
      rw [this.1, this.2]
      rfl
theorem dkv_val {a b size rise : Int} {i : Nat} {e : Int × Int} (h : (dl a b size rise)[i]? = some e) : valV (dkv a b size rise) (Sum.inl e.1) = some (.int e.2) := by
  unfold dl at h
  unfold dkv
  by_cases he : a = b
  · rw [if_pos he] at h ⊢
    match i, h with
    | 0, h =>
      cases h
      rw [valV_pos rfl]
  · have hab : ¬ (Sum.inl a : Key) = Sum.inl b := fun z => he (Sum.inl.inj z)
    rw [if_neg he] at h ⊢
    by_cases hlt : a < b
    · rw [if_pos hlt] at h
      match i, h with
      | 0, h =>
        cases h
        rw [valV_pos rfl]
      | 1, h =>
        cases h
        rw [valV_neg hab, valV_pos rfl]
    · rw [if_neg hlt] at h
      match i, h with
      | 0, h =>
        cases h
        rw [valV_neg hab, valV_pos rfl]
      | 1, h =>
        cases h
        rw [valV_pos rfl]
section
variable {P : Program} {w : World} {K : PySem.W.Frag} {mg : Str → Option Value} {base : Heap}
def spPD : Sp := fun vs H Q _ => ∃ (r : Addr) (p q c wd k : Int) (b : Nat), vs = [.ref r, .int wd, .int k] ∧ H r = some (tup3 p q c) ∧ RuleB b p q c ∧ 0 ≤ wd ∧ 0 ≤ k ∧ k < tot wd q ∧ 0 < b ∧ b ≤ 900 ∧
  ∀ lo hi n m L H', H L = none → Same H H' → Arc p q (tot wd q).toNat k lo hi → Lst (HitP p p q 0 (hi - lo)) n → Lst (HitP (-p) (-p) q 0 (hi - lo)) m → PairsAt H' L (dl (n + 1) (m + 1) (hi - lo + 1) (p * (n + 1) % q)) → Q (.ref L) H'
abbrev s_pattern_distances : Stmt := topS 28
abbrev N_pattern_distances : List Str := ["rule", "width", "rank", "low", "high", "p", "q", "c", "size", "ahead", "back", "rise", "numbers", "distance"]
abbrev P_pattern_distances : List Str := ["rule", "width", "rank"]
theorem sc_pattern_distances : FnScope N_pattern_distances P_pattern_distances (defScope s_pattern_distances) := ⟨rfl, rfl, rfl, by decide +kernel, rfl, by decide +kernel, by decide +kernel⟩
theorem ok_pattern_distances (D : Df K mg "pattern_distances" s_pattern_distances P_pattern_distances) (B : Bi mg) (c_pattern_arc : C8.Cal P w K mg base 5 "pattern_arc" spPA []) (c_first_hit : C8.Cal P w K mg base 5 "first_hit" spFirstHit []) : C8.Cal P w K mg base 6 "pattern_distances" spPD [] := by
  refine cal_of D sc_pattern_distances (fun vs H Q E h => ?_) (fun f cdv A outer s H vs Q E hr h => ?_)
  · obtain ⟨r, p, q, c, wd, k, b, rfl, _⟩ := h
    rfl
  · obtain ⟨r, p, q, c, wd, k, b, rfl, er, R, h0, k0, kt, b0, b9, kk⟩ := h
    have hu := hu_of hr
    have hq := R.q1
    obtain ⟨t1, t2, t3⟩ := tot_in h0 hq
    refine ⟨_, (pss_cons (ps_asg (C8.pe_c c_pattern_arc hr (by decide) (by rfl) (pa_cons (pv 0) (pa_cons (pv 1) (pa_cons (pv 2) pa_nil)))) (pg_tup rfl (pgs_cons (pg_name (i := 3) sc_pattern_distances.nd rfl (Or.inl rfl)) (pgs_cons (pg_name (i := 4) sc_pattern_distances.nd rfl (Or.inl rfl)) pgs_nil))))
    (pss_cons (ps_asg (pv 0) (pg_tup rfl (pgs_cons (pg_name (i := 5) sc_pattern_distances.nd rfl (Or.inl rfl)) (pgs_cons (pg_name (i := 6) sc_pattern_distances.nd rfl (Or.inl rfl)) (pgs_cons (pg_name (i := 7) sc_pattern_distances.nd rfl (Or.inl rfl)) pgs_nil)))))
    (pss_cons (ps_set (i := 8) sc_pattern_distances.nd rfl (Or.inl rfl) (pe_op op_add (pe_op op_sub (pv 4) (pv 3)) pe_int))
    (pss_cons (ps_set (i := 9) sc_pattern_distances.nd rfl (Or.inl rfl) (pe_op op_add (C8.pe_c c_first_hit hr (by decide) (by rfl) (pa_cons (pv 5) (pa_cons (pv 5) (pa_cons (pv 6) (pa_cons (pe_tup (pa_cons pe_int (pa_cons (pe_op op_sub (pv 8) pe_int) pa_nil))) pa_nil))))) pe_int))
    (pss_cons (ps_set (i := 10) sc_pattern_distances.nd rfl (Or.inl rfl) (pe_op op_add (C8.pe_c c_first_hit hr (by decide) (by rfl) (pa_cons (pe_un un_neg (pv 5)) (pa_cons (pe_un un_neg (pv 5)) (pa_cons (pv 6) (pa_cons (pe_tup (pa_cons pe_int (pa_cons (pe_op op_sub (pv 8) pe_int) pa_nil))) pa_nil))))) pe_int))
    (pss_cons (ps_set (i := 11) sc_pattern_distances.nd rfl (Or.inl rfl) (pe_op op_mod (pe_op op_mulW (pv 5) (pv 9)) (pv 6)))
    (pss_cons (ps_set (i := 12) sc_pattern_distances.nd rfl (Or.inr rfl) (pe_disp (pps_cons (pv 9) (pe_op op_sub (pv 8) (pv 11)) pps_nil) (by rfl) (by rfl) (fun z => by cases z) (by decide)))
    (C8.pss_cut (ps_dput hu (pv 12) (pv 10) (pe_op op_add (pe_dget2 hu (pv 12) (pv 10) pe_int ⟨rfl, rfl, rfl, rfl⟩) (pv 11)) rfl)
    (pss_one (ps_ret (pe_lc (own := [("distance", 13)]) (g := (gName 13)) (by rfl) sc_pattern_distances.nd (pi_list (pe_callB (call_sortedDI rfl) (by rfl) B.sorted_ bt_sorted (pa_cons (pv 12) pa_nil))) (blkOk_by (own := [("distance", 13)]) (N := N_pattern_distances) (sc := defScope s_pattern_distances) (by decide +kernel)) (fun _ _ _ _ _ => (pg_name (i := 13) sc_pattern_distances.nd rfl (Or.inl rfl))) (fun _ _ _ _ _ => pts_nil) (fun _ _ _ _ _ => (pe_tup (pa_cons (pv 13) (pa_cons (pe_dget hu (pv 12) (pv 13) (fun _ _ => rfl)) pa_nil))))))))))))))), ?_⟩
    refine ⟨_, rfl, _, rfl, _, rfl, r, p, q, c, wd, k, b, rfl, er, R, h0, k0, kt, b0, b9, fun ar lo hi H1 s1 e1 A => ?_⟩
    obtain ⟨a1, a2, a3⟩ := A.le (by omega)
    refine ⟨ar, _, rfl, SqT.of e1, rfl, _, _, rfl, _, _, rfl, rfl, ?_⟩
    refine ⟨_, rfl, r, _, rfl, SqT.of (s1 _ _ er), rfl, _, _, rfl, _, _, rfl, _, _, rfl, rfl, ?_⟩
    refine ⟨_, rfl, _, rfl, _, _, rfl, rfl, _, _, rfl, rfl, ?_⟩
    refine ⟨_, rfl, _, rfl, _, rfl, _, rfl, _, _, rfl, rfl, len10 (by simp), fun u1 nu1 => ?_⟩
    have es : hi - lo + 1 - 1 = hi - lo := by omega
    refine ⟨p, p, q, 0, _, u1, b, rfl, upd_same, Int.le_refl _, by omega, by omega, R.bp, R.bp, R.bq, by omega, fun n H2 s2 hn => ?_, fun hn => absurd hn (hit_ex (by omega) R.g (Int.le_refl _) (by omega) (by omega))⟩
    rw [es] at hn
    refine ⟨_, _, rfl, rfl, ?_⟩
    refine ⟨_, rfl, _, rfl, _, rfl, _, rfl, _, rfl, _, rfl, _, _, rfl, rfl, len10 (by simp), fun u2 nu2 => ?_⟩
    refine ⟨-p, -p, q, 0, _, u2, b, rfl, upd_same, Int.le_refl _, by omega, by omega, R.bp.neg, R.bp.neg, R.bq, by omega, fun m H3 s3 hm => ?_, fun hn => absurd hn (hit_ex (by omega) (by rw [Int.neg_gcd]; exact R.g) (Int.le_refl _) (by omega) (by omega))⟩
    rw [es] at hm
    refine ⟨_, _, rfl, rfl, ?_⟩
    have sH : Same H H3 := s1.trans ((sm_upd nu1).trans (s2.trans ((sm_upd nu2).trans s3)))
    have hnq := lstp_lt (show 0 < q by omega) hn
    have n0 : 0 ≤ n := hn.1
    have ba : Bd b (n + 1) := R.bq.between (by omega) (by omega)
    refine ⟨_, rfl, _, rfl, _, _, rfl, rfl, mulW R.bp ba b0 b0 (by omega), _, rfl, _, _, rfl, rfl, (by show (0 : Int) < q; omega), ?_⟩
    dsimp only
    generalize hri : p * (n + 1) % q = rise
    refine fun d nd => ⟨_, rfl, _, rfl, _, rfl, _, _, rfl, rfl, upd_same, [(Sum.inl (n + 1), .int (hi - lo + 1 - rise))], rfl, by show 1 ≤ 15; decide, ?_⟩
    have em : mergeK [] [((Sum.inl (n + 1) : Key), V.int (hi - lo + 1 - rise))] = [(Sum.inl (n + 1), .int (hi - lo + 1 - rise))] := by simp [mergeK, putK]
    rw [em]
    have ed : upd (upd H3 d (.dK [])) d (.dK [((Sum.inl (n + 1) : Key), V.int (hi - lo + 1 - rise))]) d = some (.dK [(Sum.inl (n + 1), .int (hi - lo + 1 - rise))]) := upd_same
    have sd : Same H3 (upd (upd H3 d (.dK [])) d (.dK [((Sum.inl (n + 1) : Key), V.int (hi - lo + 1 - rise))])) := fun b' o e => by
      rw [upd_ne (ne_of_none e nd), upd_ne (ne_of_none e nd)]
      exact e
    generalize upd (upd H3 d (.dK [])) d (.dK [((Sum.inl (n + 1) : Key), V.int (hi - lo + 1 - rise))]) = H4 at ed sd
    refine ⟨fun σ' H' => σ' = [some (.ref r), some (.int wd), some (.int k), some (.int lo), some (.int hi), some (.int p), some (.int q), some (.int c), some (.int (hi - lo + 1)), some (.int (n + 1)), some (.int (m + 1)), some (.int rise), some (.ref d), none] ∧ Same H3 H' ∧ H' d = some (.dK (dkv (n + 1) (m + 1) (hi - lo + 1) rise)), ?_, ?_⟩
    · refine ⟨_, rfl, d, rfl, .inl ⟨_, Rd.of ed⟩, _, rfl, _, DGet.k (k := Sum.inl (m + 1)) ed, _, rfl, ?_⟩
      have sput : ∀ v, Same H3 (upd H4 d v) := fun v b' o e => by
        rw [upd_ne (ne_of_none e nd)]
        exact sd _ _ e
      by_cases he : n + 1 = m + 1
      · rw [valV_pos (by rw [he])]
        refine ⟨_, _, rfl, rfl, _, rfl, _, rfl, d, _, rfl, DPut.k (k := Sum.inl (m + 1)) ed (small1000 (by show 1 ≤ 1000; decide)), rfl, sput _, ?_⟩
        rw [upd_same]
        unfold dkv
        rw [if_pos he]
        simp only [putK, List.any_cons, List.any_nil, List.map_cons, List.map_nil]
        rw [if_pos (by simp [he]), if_pos (by rw [he]), show hi - lo + 1 - rise + rise = hi - lo + 1 by omega]
      · have hne : ¬ (Sum.inl (n + 1) : Key) = Sum.inl (m + 1) := fun z => he (Sum.inl.inj z)
        rw [valV_neg hne, valV_nil]
        refine ⟨_, _, rfl, rfl, _, rfl, _, rfl, d, _, rfl, DPut.k (k := Sum.inl (m + 1)) ed (small1000 (by show 1 ≤ 1000; decide)), rfl, sput _, ?_⟩
        rw [upd_same]
        unfold dkv
        rw [if_neg he]
        simp only [putK, List.any_cons, List.any_nil, Bool.or_false]
        rw [if_neg (by simpa using hne), show (0 : Int) + rise = rise by omega]
        rfl
    · rintro σ' H' ⟨rfl, sH', ed'⟩
      refine ⟨_, rfl, d, _, _, rfl, Rd.of ed', dkv_keys _ _ _ _, ?_, fun ys sp hp hs nsp => ?_⟩
      · split <;> simp
      rw [dl_keys (size := hi - lo + 1) (rise := rise) hp hs]
      have e5 : upd H' sp (.lst (((dl (n + 1) (m + 1) (hi - lo + 1) rise).map (·.1)).map V.int)) sp = some (.lst (((dl (n + 1) (m + 1) (hi - lo + 1) rise).map (·.1)).map V.int)) := upd_same
      have ed5 := (sm_upd (o := .lst (((dl (n + 1) (m + 1) (hi - lo + 1) rise).map (·.1)).map V.int)) nsp) _ _ ed'
      have s5 := sH'.trans (sm_upd (o := .lst (((dl (n + 1) (m + 1) (hi - lo + 1) rise).map (·.1)).map V.int)) nsp)
      generalize upd H' sp (.lst (((dl (n + 1) (m + 1) (hi - lo + 1) rise).map (·.1)).map V.int)) = H5 at e5 ed5 s5
      refine ⟨sp, rfl, ⟨_, SqL.of e5⟩, fun L nL => ?_⟩
      refine lc_list (K := K) (a := sp) (xs := ((dl (n + 1) (m + 1) (hi - lo + 1) rise).map (·.1)).map V.int) (fun j H' => Same H5 H' ∧ ∃ ts : List Addr, H' L = some (.lst (ts.map V.ref)) ∧ ts.length = j ∧ ∀ (i : Nat) (t : Addr) (e : Int × Int), ts[i]? = some t → (dl (n + 1) (m + 1) (hi - lo + 1) rise)[i]? = some e → H' t = some (.tup [.int e.1, .int e.2])) ⟨sm_upd nL, [], upd_same, rfl, fun i t e h => by simp at h⟩ ?_ ?_ ?_
      · rintro j H6 _ ⟨s6, _⟩
        exact SqL.of (s6 _ _ e5)
      · rintro j x H6 hx ⟨s6, ts, eL, hl, hts⟩
        obtain ⟨e, he, rfl⟩ : ∃ e, (dl (n + 1) (m + 1) (hi - lo + 1) rise)[j]? = some e ∧ x = V.int e.1 := by
          rw [List.getElem?_map, List.getElem?_map] at hx
          cases hz : (dl (n + 1) (m + 1) (hi - lo + 1) rise)[j]? with
          | none => rw [hz] at hx; cases hx
          | some e => rw [hz] at hx; exact ⟨e, rfl, (Option.some.inj hx).symm⟩
        have hj : j < 3 := by
          have h1 := (List.getElem?_eq_some_iff.mp he).1
          have h2 : (dl (n + 1) (m + 1) (hi - lo + 1) rise).length ≤ 2 := by
            unfold dl
            split
            · simp
            · split <;> simp
          omega
        have dg : DGet H6 d (.int e.1) (some (.int e.2)) := by
          have := DGet.k (k := (Sum.inl e.1 : Key)) (s6 _ _ ed5)
          rw [dkv_val he] at this
          exact this
        refine ⟨rfl, _, rfl, _, rfl, _, rfl, d, _, rfl, dg, len10 (by simp), fun t nt => ?_⟩
        have nLt : L ≠ t := ne_of_none eL nt
        refine ⟨_, (sm_upd nt) _ _ eL, small1000 (by rw [List.length_map]; omega), ?_, ts ++ [t], ?_, by rw [List.length_append, hl]; rfl, fun i t' e' h1 h2 => ?_⟩
        · intro b' o eb
          rw [upd_ne (ne_of_none eb nL)]
          exact (sm_upd nt) _ _ (s6 _ _ eb)
        · rw [upd_same, List.map_append]
          rfl
        · by_cases hi' : i < ts.length
          · rw [List.getElem?_append_left hi'] at h1
            have h3 := hts i t' e' h1 h2
            rw [upd_ne (by intro z; rw [z, eL] at h3; cases h3)]
            exact (sm_upd nt) _ _ h3
          · rw [List.getElem?_append_right (by omega)] at h1
            cases hz : i - ts.length with
            | zero =>
              rw [hz] at h1
              cases h1
              have : i = j := by omega
              subst this
              rw [he] at h2
              cases h2
              rw [upd_ne nLt.symm, upd_same]
            | succ z =>
              rw [hz] at h1
              simp at h1
      · rintro H6 ⟨s6, ts, eL, hl, hts⟩
        rw [← hri] at hts hl
        rw [List.length_map, List.length_map] at hl
        exact kk lo hi n m L H6 (by cases z : H L with | none => rfl | some o => rw [(sH.trans s5) _ _ z] at nL; cases nL) (sH.trans (s5.trans s6)) A hn hm ⟨ts, eL, hl, hts⟩
end
end Lf
namespace Lf
open PySem PySem.Spec PyProof.Rows L2
/-! ### a < b, lists of ints of one length -/
theorem first_none {e r : Nat → Bool} {fin : Bool} : ∀ {l : List Nat}, (∀ j ∈ l, e j = true) → PySem.SeqAt.firstLt e r fin l = fin
  | [], _ => rfl
  | j :: t, h => by
    rw [PySem.SeqAt.firstLt_yes (h j (List.mem_cons_self ..))]
    exact first_none fun i hi => h i (List.mem_cons_of_mem _ hi)
theorem first_at {e r : Nat → Bool} {fin : Bool} {j : Nat} (hj : e j = false) : ∀ {n k : Nat}, (∀ i, i < j → e i = true) → k ≤ j → j < k + n → PySem.SeqAt.firstLt e r fin (List.range' k n) = r j
  | 0, k, _, h1, h2 => by omega
  | n + 1, k, h, h1, h2 => by
    rw [List.range'_succ]
    by_cases hk : k = j
    · subst hk
      rw [PySem.SeqAt.firstLt_no hj]
    · rw [PySem.SeqAt.firstLt_yes (h k (by omega))]
      exact first_at hj h (by omega) (by omega)
def rLtL (K : PySem.W.Frag) : R2 := fun x y H Q => ∃ (a b : Addr) (ns ms : List Int), x = .ref a ∧ y = .ref b ∧ SqL K H a (ns.map V.int) ∧ SqL K H b (ms.map V.int) ∧ ns.length = ms.length ∧ ∀ k, LtB ns ms k → Q (.bl k) H
theorem ints_at {ns : List Int} {us : List Value} (h : IntsAre us ns) : ∀ {j : Nat} {u : Value}, us[j]? = some u → ∃ n t, ns[j]? = some n ∧ u = .int n t := by
  induction h with
  | nil => intro j u h; simp at h
  | cons a t hv ih =>
    intro j u h
    cases j with
    | zero =>
      have : Value.int a t = u := Option.some.inj h
      exact ⟨a, t, rfl, this.symm⟩
    | succ j => exact ih (j := j) h
theorem op_ltL {X : Cx} (hu : X.A.units < cLine) : OpR X (compareOp .Lt) (rLtL X.K) := by
  intro pins s σ H x y v u Q I rx ry h
  obtain ⟨a, b, ns, ms, rfl, rfl, ha, hb, hl, q⟩ := h
  cases rx
  cases ry
  obtain ⟨its, r1, p1, _⟩ := I.list ha
  obtain ⟨its2, r2, p2, _⟩ := I.list hb
  have i1 : IntsAre its ns := intsAre_of r1
  have i2 : IntsAre its2 ms := intsAre_of r2
  have l1 := i1.length
  have l2 := i2.length
  have key := PySem.SeqAt.RcLt.lists (A := X.A) (s := s) (l := a) (b := b) (items := its.toArray) (items2 := its2.toArray) (e := fun j => decide (ns[j]? = ms[j]?)) (r := fun j => decide (ns.getD j 0 < ms.getD j 0)) p1.isList p2.isList hu
    (fun j h1 h2 => by
      obtain ⟨n1, t1, e1, e2⟩ := ints_at i1 (j := j) (u := its.toArray[j]) (by simp at h1 ⊢)
      obtain ⟨n2, t2, e3, e4⟩ := ints_at i2 (j := j) (u := its2.toArray[j]) (by simp at h2 ⊢)
      rw [e2, e4]
      have := PySem.SeqAt.EqAt.int_int (A := X.A.in1) (s := s) n1 t1 n2 t2
      rw [show (decide (ns[j]? = ms[j]?)) = (n1 == n2) by rw [e1, e3]; by_cases h : n1 = n2 <;> simp [h]]
      exact this)
    (fun j h1 h2 _ => by
      obtain ⟨n1, t1, e1, e2⟩ := ints_at i1 (j := j) (u := its.toArray[j]) (by simp at h1 ⊢)
      obtain ⟨n2, t2, e3, e4⟩ := ints_at i2 (j := j) (u := its2.toArray[j]) (by simp at h2 ⊢)
      rw [e2, e4, List.getD_eq_getElem?_getD, List.getD_eq_getElem?_getD, e1, e3]
      exact fun prog w E Q hq => HT.rcLt_int X.A.in1 s n1 t1 n2 t2 prog w E Q hq)
  refine key X.prog X.w X.xe _ ⟨.bl _, H, I, rfl, q _ ⟨fun e => ?_, fun j x y h1 h2 h3 h4 => ?_⟩⟩
  · subst e
    rw [first_none (fun j _ => by simp)]
    simp [l1, l2]
  · have hj1 : j < ns.length := (List.getElem?_eq_some_iff.mp h2).1
    rw [List.range_eq_range', first_at (j := j) (by rw [h2, h3]; simp [h4]) (fun i hi => by simp [h1 i hi]) (Nat.zero_le _) (by simp; omega)]
    rw [List.getD_eq_getElem?_getD, List.getD_eq_getElem?_getD, h2, h3]
    rfl
end Lf
namespace Lf
open PySem PySem.Spec PyProof.Rows L2
/-- two rules that are the same are not different -/
theorem ne3 {K : PySem.W.Frag} {H : Hp} {r1 r2 : Addr} {p q c p' q' c' : Int} {Q : V → Hp → Prop} (e1 : H r1 = some (.tup [.int p, .int q, .int c])) (e2 : H r2 = some (.tup [.int p', .int q', .int c'])) (hp : p = p') (hq : q = q') (hc : c = c') (h : Q (.bl false) H) : rNeD K (.ref r1) (.ref r2) H Q := by
  subst hp hq hc
  refine ⟨.tuple [.int p, .int q, .int c], .tuple [.int p, .int q, .int c], Dp.tup (SqT.of e1) (.cons (.int p) (.cons (.int q) (.cons (.int c) .nil))), Dp.tup (SqT.of e2) (.cons (.int p) (.cons (.int q) (.cons (.int c) .nil))), rfl, rfl, ?_⟩
  rw [SeqAt.eqv_refl _ rfl]
  exact h
theorem logR {k : Nat} {i : Int} (h : Bd k i) (hk : k ≤ 1920) : i.natAbs.log2 < 1920 := (h.mono hk).log (by decide)
def spLaw (K : PySem.W.Frag) : Sp := fun vs H Q _ => ∃ (a : Addr) (ns : List Int), vs = [.ref a] ∧ SqL K H a (ns.map V.int) ∧ ns.length ≤ 63 ∧ ∀ H', Q (.bl true) H'
end Lf
namespace Lf
open PySem PySem.Spec PyProof.Rows L2
section
variable {P : Program} {w : World} {K : PySem.W.Frag} {mg : Str → Option Value} {base : Heap}
/-! ### _law_pattern -/
def spLPat : Sp := fun vs H Q _ => ∃ (r : Addr) (p q c wd t : Int) (b : Nat), vs = [.ref r, .int wd, .int t] ∧ H r = some (tup3 p q c) ∧ RuleB b p q c ∧ 0 ≤ wd ∧ wd ≤ 500 ∧ Bd b t ∧ 20 ≤ b ∧ b ≤ 1000 ∧
  ∀ L H', H L = none → Same H H' → H' L = some (.lst ((ptn p q c wd.toNat t).map V.int)) → Q (.ref L) H'
abbrev s_l_pattern : Stmt := topS 44
abbrev N_l_pattern : List Str := ["_law_rule_here", "_law_width", "_law_start", "_law_k"]
abbrev P_l_pattern : List Str := ["_law_rule_here", "_law_width", "_law_start"]
theorem sc_l_pattern : FnScope N_l_pattern P_l_pattern (defScope s_l_pattern) := ⟨rfl, rfl, rfl, by decide +kernel, rfl, by decide +kernel, by decide +kernel⟩
theorem ok_l_pattern (D : Df K mg "_law_pattern" s_l_pattern P_l_pattern) (B : Bi mg) (c_l_tally : C8.Cal P w K mg base 1 "_law_tally" spTally []) : C8.Cal P w K mg base 2 "_law_pattern" spLPat [] := by
  refine cal_of D sc_l_pattern (fun vs H Q E h => ?_) (fun f cdv A outer s H vs Q E hr h => ?_)
  · obtain ⟨r, p, q, c, wd, t, b, rfl, _⟩ := h
    rfl
  · obtain ⟨r, p, q, c, wd, t, b, rfl, er, R, h0, h5, bt, b2, b1, kk⟩ := h
    refine ⟨_, (pss_one (ps_ret (pe_lc (own := [("_law_k", 3)]) (g := (gName 3)) (by rfl) sc_l_pattern.nd (pi_range1 rfl B.range_ (pa_cons (pv 1) pa_nil)) (blkOk_by (own := [("_law_k", 3)]) (N := N_l_pattern) (sc := defScope s_l_pattern) (by decide +kernel)) (fun _ _ _ _ _ => (pg_name (i := 3) sc_l_pattern.nd rfl (Or.inl rfl))) (fun _ _ _ _ _ => pts_nil) (fun _ _ _ _ _ => (pe_op op_sub (C8.pe_c c_l_tally hr (by decide) (by rfl) (pa_cons (pv 0) (pa_cons (pe_op op_add (pe_op op_add (pv 2) (pv 3)) pe_int) pa_nil))) (C8.pe_c c_l_tally hr (by decide) (by rfl) (pa_cons (pv 0) (pa_cons (pe_op op_add (pv 2) (pv 3)) pa_nil)))))))), ?_⟩
    refine ⟨_, rfl, _, rfl, by omega, by omega, fun L nL => ?_⟩
    refine lc_range (lo := 0) (n := wd.toNat) (fun j H' => Same H H' ∧ H' L = some (.lst ((ptn p q c j t).map V.int))) ⟨sm_upd nL, upd_same⟩ ?_ ?_
    · rintro j H' hj ⟨s1, eL⟩
      have er' := s1 _ _ er
      have bj : Bd (b + 1) (t + (0 + (j : Int))) := Bd.add bt (Bd.small 20 (by omega) b2)
      refine ⟨rfl, _, rfl, _, rfl, _, rfl, _, _, rfl, rfl, _, _, rfl, rfl, r, p, q, c, _, b + 2, rfl, er', R.mono (by omega), Bd.add bj (Bd.small 1 (by decide) (by omega)), by omega, by omega, ?_⟩
      refine ⟨_, rfl, _, rfl, _, rfl, _, _, rfl, rfl, r, p, q, c, _, b + 1, rfl, er', R.mono (by omega), bj, by omega, by omega, ?_⟩
      refine ⟨_, _, rfl, rfl, _, eL, ?_, ?_, ?_⟩
      · rw [List.length_map, ptn_len]
        exact small1000 (by omega)
      · intro b' o eb
        rw [upd_ne (ne_of_none eb nL)]
        exact s1 _ _ eb
      · rw [upd_same]
        unfold ptn
        rw [List.range_succ, List.map_append, List.map_append, Int.zero_add]
        rfl
    · rintro H' ⟨s1, eL⟩
      exact kk L H' nL s1 eL
end
end Lf
namespace Lf
open PySem PySem.Spec PyProof.Rows L2
theorem totN {wd q : Int} (h0 : 0 ≤ wd) (hq : 1 ≤ q) : (((tot wd q).toNat : Nat) : Int) = min ((wd.toNat : Nat) + 1 : Int) q := by
  obtain ⟨t1, t2, t3⟩ := tot_in h0 hq
  omega
section
variable {P : Program} {w : World} {K : PySem.W.Frag} {mg : Str → Option Value} {base : Heap}
/-! ### _law_next_right -/
def spNxR : Sp := fun vs H Q _ => ∃ (r : Addr) (p q c wd t k : Int) (b : Nat), vs = [.ref r, .int wd, .int t, .int k] ∧ H r = some (tup3 p q c) ∧ RuleB b p q c ∧ 0 ≤ wd ∧ 0 ≤ k ∧ k < tot wd q ∧ Bd b t ∧ 0 < b ∧ b ≤ 400 ∧ ∀ H', Same H H' → Q (.bl true) H'
abbrev s_l_next_right : Stmt := topS 45
abbrev N_l_next_right : List Str := ["_law_rule_here", "_law_width", "_law_start", "_law_rank", "_law_found"]
abbrev P_l_next_right : List Str := ["_law_rule_here", "_law_width", "_law_start", "_law_rank"]
theorem sc_l_next_right : FnScope N_l_next_right P_l_next_right (defScope s_l_next_right) := ⟨rfl, rfl, rfl, by decide +kernel, rfl, by decide +kernel, by decide +kernel⟩
theorem ok_l_next_right (D : Df K mg "_law_next_right" s_l_next_right P_l_next_right) (B : Bi mg) (c_next_pattern : C8.Cal P w K mg base 6 "next_pattern" spNx []) (c_pattern_rank : C8.Cal P w K mg base 5 "pattern_rank" spPR []) (c_pattern_count : C8.Cal P w K mg base 6 "pattern_count" spPC []) : C8.Cal P w K mg base 7 "_law_next_right" spNxR [] := by
  refine cal_of D sc_l_next_right (fun vs H Q E h => ?_) (fun f cdv A outer s H vs Q E hr h => ?_)
  · obtain ⟨r, p, q, c, wd, t, k, b, rfl, _⟩ := h
    rfl
  · obtain ⟨r, p, q, c, wd, t, k, b, rfl, er, R, h0, k0, kt, bt, b0, b4, kk⟩ := h
    have hq := R.q1
    obtain ⟨t1, t2, t3⟩ := tot_in h0 hq
    refine ⟨_, (pss_cons (ps_set (i := 4) sc_l_next_right.nd rfl (Or.inl rfl) (C8.pe_c c_next_pattern hr (by decide) (by rfl) (pa_cons (pv 0) (pa_cons (pv 1) (pa_cons (pv 3) (pa_cons (pv 2) pa_nil))))))
    (pss_cons (ps_if (PW.pt (pw_or (pt_cmpR op_lt (pv 4) (pv 2) (nomark _)) (pw_or1 (pt_cmpR op_ne (C8.pe_c c_pattern_rank hr (by decide) (by rfl) (pa_cons (pv 0) (pa_cons (pv 1) (pa_cons (pv 4) pa_nil)))) (pv 3) (nomark _)))))
      (pss_one (ps_ret pe_bl))
      pss_nil)
    (pss_one (ps_ret (pe_and (pe_cmpR op_eq (C8.pe_c c_pattern_count hr (by decide) (by rfl) (pa_cons (pv 0) (pa_cons (pv 1) (pa_cons (pv 3) (pa_cons (pv 2) (pa_cons (pv 4) pa_nil)))))) pe_int (nomark _)) (pe_one (pe_cmpR op_lt (pv 4) (pe_op op_add (pv 2) (pe_ix (r := rIxT K) ix_tup (pv 0) pe_int (fun _ _ => rfl))) (nomark _)))))))), ?_⟩
    refine ⟨_, rfl, _, rfl, _, rfl, _, rfl, r, p, q, c, wd, k, t, b, rfl, er, R, h0, k0, kt, bt, b0, by omega, fun lo hi n H1 s1 A hn => ?_⟩
    obtain ⟨a1, a2, a3⟩ := A.le (by omega)
    have hnq := lstp_lt (show 0 < q by omega) hn
    have n0 : 0 ≤ n := hn.1
    have bn : Bd b n := R.bq.between n0 (by omega)
    have btn : Bd (b + 1) (t + n) := Bd.add bt bn
    refine ⟨_, rfl, _, rfl, _, _, rfl, rfl, _, rfl, iteDn (by omega) ?_⟩
    have er1 := s1 _ _ er
    refine ⟨_, rfl, _, rfl, _, rfl, r, p, q, c, wd, t + n, b + 1, rfl, er1, R.mono (by omega), h0, btn, by omega, by omega, fun H2 s2 => ?_⟩
    have hrank : rk p q (tot wd q).toNat ((p * (t + n) + c) % q) - 1 = k := by
      refine (A.rank (by omega) (by omega) (Int.emod_lt_of_pos _ (by omega))).mpr ?_
      have := hn.2.1
      unfold HitP at this
      rw [show p * (t + n) + c = p * t + c + p * n by rw [Int.mul_add]; omega]
      exact this
    rw [hrank]
    refine ⟨_, rfl, rfl, _, rfl, iteNS rfl ?_⟩
    have er2 := s2 _ _ er1
    refine ⟨_, rfl, _, rfl, _, rfl, _, rfl, _, rfl, r, p, q, c, wd, k, t, t + n, b + 1, rfl, er2, R.mono (by omega), h0, k0, kt, bt.mono (by omega), btn, by omega, by omega, fun lo' hi' H3 s3 A' => ?_⟩
    have hz : ch (t + n - t).toNat p (p * t + c) q lo' hi' = 0 := by
      have e1 : lo' = lo := nth_unique A'.at_ A.at_
      have e2 : hi' = hi := by
        by_cases h : k + 1 < ((tot wd q).toNat : Nat)
        · have := nth_unique (A'.nx h) (A.nx h)
          omega
        · have g1 := A'.en (by omega)
          have g2 := A.en (by omega)
          omega
      rw [e1, e2]
      exact ch_zero a1 a2 a3 fun i hi' => hn.2.2 i (by omega) (by omega)
    rw [hz]
    refine ⟨rfl, _, rfl, iteD rfl ?_⟩
    refine ⟨_, rfl, _, rfl, _, rfl, r, _, _, _, rfl, rfl, SqT.of (s3 _ _ er2), atI_nat (j := 1) rfl, _, _, rfl, rfl, _, _, rfl, rfl, ?_⟩
    show Q (V.bl (decide (t + n < t + q))) H3
    rw [decide_eq_true (by omega)]
    exact kk _ (s1.trans (s2.trans s3))
/-! ### _law_all_different -/
def spAD : Sp := fun vs H Q _ => ∃ (a : PA) (n : Nat) (r : Addr) (p q c t : Int), vs = [.ref a, .ref r, .int t] ∧ Pen H a n ∧ n < 2 ^ 36 ∧ H r = some (tup3 p q c) ∧ RuleB 300 p q c ∧ Bd 300 t ∧ ∀ H', Pen H' a (n + 20) → Fr H H' → Q (.bl true) H'
theorem tot_wide {wd q : Int} (h : q - 1 ≤ wd) : tot wd q = q := by
  unfold tot
  split <;> omega
theorem tot_thin {wd q : Int} (h : wd < q) : tot wd q = wd + 1 := by
  unfold tot
  rw [if_neg (by omega)]
abbrev s_l_all_different : Stmt := topS 46
abbrev N_l_all_different : List Str := ["_law_pen_here", "_law_rule_here", "_law_start", "_law_p", "_law_q", "_law_c", "_law_wide", "_law_narrow", "_law_rank"]
abbrev P_l_all_different : List Str := ["_law_pen_here", "_law_rule_here", "_law_start"]
theorem sc_l_all_different : FnScope N_l_all_different P_l_all_different (defScope s_l_all_different) := ⟨rfl, rfl, rfl, by decide +kernel, rfl, by decide +kernel, by decide +kernel⟩
theorem ok_l_all_different (D : Df K mg "_law_all_different" s_l_all_different P_l_all_different) (B : Bi mg) (c_l_draw : C8.Cal P w K mg base 1 "_law_draw" spDraw []) (c_l_pick : C8.Cal P w K mg base 2 "_law_pick" spPick []) (c_l_great : C8.Cal P w K mg base 2 "_law_great" spGreat []) (c_pattern_total : C8.Cal P w K mg base 4 "pattern_total" spPT []) (c_pattern_rank : C8.Cal P w K mg base 5 "pattern_rank" spPR []) (c_pattern_distances : C8.Cal P w K mg base 6 "pattern_distances" spPD []) (c_next_pattern : C8.Cal P w K mg base 6 "next_pattern" spNx []) : C8.Cal P w K mg base 7 "_law_all_different" spAD [] := by
  refine cal_of D sc_l_all_different (fun vs H Q E h => ?_) (fun f cdv A outer s H vs Q E hr h => ?_)
  · obtain ⟨a, n, r, p, q, c, t, rfl, _⟩ := h
    rfl
  · obtain ⟨a, n, r, p, q, c, t, rfl, hP, hn, er, R, bt, kk⟩ := h
    have hq := R.q1
    have h12 : ((12 : Int) / 6).toNat = 2 := by decide
    refine ⟨_, (pss_cons (ps_asg (pv 1) (pg_tup rfl (pgs_cons (pg_name (i := 3) sc_l_all_different.nd rfl (Or.inl rfl)) (pgs_cons (pg_name (i := 4) sc_l_all_different.nd rfl (Or.inl rfl)) (pgs_cons (pg_name (i := 5) sc_l_all_different.nd rfl (Or.inl rfl)) pgs_nil)))))
    (pss_cons (ps_par (i := 6) (j := 7) rfl sc_l_all_different.nd rfl rfl (by decide) rfl rfl (pa_cons (pe_op op_add (pe_op op_sub (pv 4) pe_int) (C8.pe_c c_l_pick hr (by decide) (by rfl) (pa_cons (pv 0) (pa_cons (pe_lst (pa_cons pe_int (pa_cons (C8.pe_c c_l_draw hr (by decide) (by rfl) (pa_cons (pv 0) (pa_cons pe_int pa_nil))) (pa_cons (C8.pe_c c_l_great hr (by decide) (by rfl) (pa_cons (pv 0) (pa_cons pe_int pa_nil))) pa_nil)))) pa_nil)))) (pa_cons (pe_op op_mod (C8.pe_c c_l_great hr (by decide) (by rfl) (pa_cons (pv 0) (pa_cons pe_int pa_nil))) (pv 4)) pa_nil)) rfl)
    (pss_cons (ps_if (PW.pt (pw_or (pt_cmpR op_ne (C8.pe_c c_pattern_total hr (by decide) (by rfl) (pa_cons (pv 1) (pa_cons (pv 6) pa_nil))) (pv 4) (nomark _)) (pw_or1 (pt_cmpR op_ne (C8.pe_c c_pattern_total hr (by decide) (by rfl) (pa_cons (pv 1) (pa_cons (pv 7) pa_nil))) (pe_op op_add (pv 7) pe_int) (nomark _)))))
      (pss_one (ps_ret pe_bl))
      pss_nil)
    (pss_cons (ps_set (i := 8) sc_l_all_different.nd rfl (Or.inl rfl) (C8.pe_c c_pattern_rank hr (by decide) (by rfl) (pa_cons (pv 1) (pa_cons (pv 6) (pa_cons (pv 2) pa_nil)))))
    (pss_cons (ps_if (PW.pt (pw_or (pt_cmpR op_ne (pv 8) (pe_op op_mod (pe_op op_add (pe_op op_mulW (pv 3) (pv 2)) (pv 5)) (pv 4)) (nomark _)) (pw_or1 (pt_cmpR (op_neD hr.units) (C8.pe_c c_pattern_distances hr (by decide) (by rfl) (pa_cons (pv 1) (pa_cons (pv 6) (pa_cons (pv 8) pa_nil)))) (pe_lst (pa_cons (pe_tup (pa_cons (pv 4) (pa_cons pe_int pa_nil))) pa_nil)) (nomark _)))))
      (pss_one (ps_ret pe_bl))
      pss_nil)
    (pss_one (ps_ret (pe_cmpR op_eq (C8.pe_c c_next_pattern hr (by decide) (by rfl) (pa_cons (pv 1) (pa_cons (pv 6) (pa_cons (pv 8) (pa_cons (pe_op op_add (pv 2) pe_int) pa_nil))))) (pe_op op_add (pv 2) (pv 4)) (nomark _))))))))), ?_⟩
    refine ⟨_, rfl, r, _, rfl, SqT.of er, rfl, _, _, rfl, _, _, rfl, _, _, rfl, rfl, ?_⟩
    refine ⟨_, rfl, _, _, rfl, rfl, _, rfl, _, rfl, a, n, _, rfl, hP, by omega, by decide, Bd.small 20 (by decide) (by decide), fun d H1 d0 d1 hP1 f1 => ?_⟩
    refine ⟨_, rfl, a, _, 12, rfl, hP1, by omega, by decide, by decide, fun g H2 g0 gb hP2 f2 => ?_⟩
    refine ⟨len10 (by simp), fun l nl => ⟨a, l, _, _, rfl, hP2.new nl, by omega, upd_same, by simp, by simp, fun x H3 hx hP3 f3 => ?_⟩⟩
    obtain ⟨xv, rfl, x0, bx⟩ : ∃ xv, x = V.int xv ∧ 0 ≤ xv ∧ Bd 40 xv := by
      simp only [List.mem_cons, List.not_mem_nil, or_false] at hx
      rcases hx with rfl | rfl | rfl
      · exact ⟨_, rfl, by omega, Bd.small 1 (by decide) (by decide)⟩
      · exact ⟨_, rfl, d0, Bd.small 20 (by omega) (by decide)⟩
      · exact ⟨_, rfl, g0, gb⟩
    refine ⟨_, _, rfl, rfl, _, rfl, a, _, 12, rfl, hP3, by omega, by decide, by decide, fun g2 H4 g20 g2b hP4 f4 => ?_⟩
    refine ⟨_, rfl, _, _, rfl, rfl, (by show (0 : Int) < q; omega), _, _, rfl, ?_⟩
    have fH : Fr H H4 := f1.trans (f2.trans ((Fr.new nl).trans (f3.trans f4)))
    have er4 := fH.t _ _ er
    dsimp only
    generalize hwd : q - 1 + xv = wd
    have w0 : 0 ≤ wd := by omega
    have nr0 := Int.emod_nonneg g2 (show q ≠ 0 by omega)
    have nr1 := Int.emod_lt_of_pos g2 (show 0 < q by omega)
    generalize g2 % q = nw at nr0 nr1
    refine ⟨_, rfl, _, rfl, r, p, q, c, wd, 300, rfl, er4, R, w0, by decide, fun H5 s5 => ?_⟩
    rw [tot_wide (show q - 1 ≤ wd by omega)]
    refine ⟨_, rfl, rfl, _, rfl, iteNS rfl ?_⟩
    refine ⟨_, rfl, _, rfl, r, p, q, c, nw, 300, rfl, s5 _ _ er4, R, nr0, by decide, fun H6 s6 => ?_⟩
    rw [tot_thin nr1]
    refine ⟨_, rfl, _, _, rfl, rfl, rfl, _, rfl, iteNS rfl ?_⟩
    have er6 := s6 _ _ (s5 _ _ er4)
    refine ⟨_, rfl, _, rfl, _, rfl, r, p, q, c, wd, t, 300, rfl, er6, R, w0, bt, by decide, by decide, fun H7 s7 => ?_⟩
    have y0 := Int.emod_nonneg (p * t + c) (show q ≠ 0 by omega)
    have y1 := Int.emod_lt_of_pos (p * t + c) (show 0 < q by omega)
    rw [tot_wide (show q - 1 ≤ wd by omega), rk_full (by omega) R.g y0 y1]
    have er7 := s7 _ _ er6
    refine ⟨_, rfl, _, rfl, _, rfl, _, _, rfl, rfl, mulW R.bp bt (by decide) (by decide) (by decide), _, rfl, _, _, rfl, rfl, _, rfl, _, _, rfl, rfl, (by show (0 : Int) < q; omega), rfl, _, rfl, iteNS rfl ?_⟩
    have kt : (p * t + c) % q < tot wd q := by rw [tot_wide (show q - 1 ≤ wd by omega)]; exact y1
    refine ⟨_, rfl, _, rfl, _, rfl, r, p, q, c, wd, (p * t + c) % q, 300, rfl, er7, R, w0, y0, kt, by decide, by decide, fun lo hi n1 m1 L H8 _ s8 A8 hn1 hm1 hP8 => ?_⟩
    rw [tot_wide (show q - 1 ≤ wd by omega)] at A8
    obtain ⟨e1, e2⟩ := arc_full (by omega) R.g y0 y1 A8
    rw [e1, e2, Int.sub_self] at hn1 hm1 hP8
    have en : n1 = q - 1 := lst_unique hn1 (lst_cycle (by omega) R.g (by rw [Int.zero_add]) (Int.le_refl _) (by omega))
    have em : m1 = q - 1 := lst_unique hm1 (lst_cycle (by omega) (by rw [Int.neg_gcd]; exact R.g) (by rw [Int.zero_add]) (Int.le_refl _) (by omega))
    rw [en, em, show q - 1 + 1 = q by omega] at hP8
    refine ⟨_, rfl, len10 (by simp), fun t9 nt9 => ⟨len10 (by simp), fun L9 nL9 => ?_⟩⟩
    have dp8 : Dp K (upd (upd H8 t9 (.tup [.int q, .int 1])) L9 (.lst [.ref t9])) (.ref L) (.list [.tuple [.int q, .int 1]]) := by
      have h := PairsAt.dp (K := K) (ps := dl q q (0 + 1) (p * q % q)) (H := upd (upd H8 t9 (.tup [.int q, .int 1])) L9 (.lst [.ref t9])) (L := L) (by
        obtain ⟨ts, g1, g2, g3⟩ := hP8.ex
        have sm := (sm_upd (o := .tup [.int q, .int 1]) nt9).trans (sm_upd (o := .lst [.ref t9]) nL9)
        exact ⟨ts, sm _ _ g1, g2, fun i t e h1 h2 => sm _ _ (g3 i t e h1 h2)⟩)
      unfold dl at h
      rw [if_pos rfl] at h
      exact h
    have s9 : Same H8 (upd (upd H8 t9 (.tup [.int q, .int 1])) L9 (.lst [.ref t9])) := (sm_upd nt9).trans (sm_upd nL9)
    refine ⟨_, _, dp8, Dp.lst (SqL.of upd_same) (.cons (Dp.tup (SqT.of ((sm_upd nL9) _ _ upd_same)) (.cons (.int q) (.cons (.int 1) .nil))) .nil), rfl, rfl, ?_⟩
    rw [SeqAt.eqv_refl _ rfl]
    refine ⟨_, rfl, iteF ?_⟩
    have er9 := s9 _ _ (s8 _ _ er7)
    generalize upd (upd H8 t9 (.tup [.int q, .int 1])) L9 (.lst [.ref t9]) = H9 at s9 er9
    refine ⟨_, rfl, _, rfl, _, rfl, _, rfl, _, _, rfl, rfl, r, p, q, c, wd, (p * t + c) % q, t + 1, 301, rfl, er9, R.mono (by decide), w0, y0, kt, Bd.add bt (Bd.small 1 (by decide) (by decide)), by decide, by decide, fun lo2 hi2 n2 H10 s10 A10 hn2 => ?_⟩
    rw [tot_wide (show q - 1 ≤ wd by omega)] at A10
    obtain ⟨e3, e4⟩ := arc_full (by omega) R.g y0 y1 A10
    rw [e3, e4] at hn2
    have en2 : n2 = q - 1 := lst_unique hn2 (lst_cycle (by omega) R.g (by
      rw [show p * (t + 1) + c = p * t + c + p by rw [Int.mul_add, Int.mul_one]; omega, Int.add_emod (p * t + c) p q, Int.add_emod ((p * t + c) % q) p q, Int.emod_emod]) y0 y1)
    rw [en2]
    refine ⟨_, rfl, _, rfl, _, _, rfl, rfl, rfl, ?_⟩
    show Q (V.bl (decide (V.int (t + 1 + (q - 1)) = V.int (t + q)))) H10
    rw [decide_eq_true (by rw [show t + 1 + (q - 1) = t + q by omega])]
    have sA : Same H4 H10 := s5.trans (s6.trans (s7.trans (s8.trans (s9.trans s10))))
    exact kk _ ((hP4.same sA).mono (by omega)) (fH.trans (Fr.same sA))
end
end Lf
namespace Lf
open PySem PySem.Spec PyProof.Rows L2
theorem mn150 (x : Int) (h : 0 ≤ x) : 0 ≤ (if 150 < x then 150 else x) ∧ (if 150 < x then 150 else x) ≤ 150 ∧ (if 150 < x then 150 else x) ≤ x := by
  by_cases h4 : 150 < x
  · rw [if_pos h4]; omega
  · rw [if_neg h4]; omega
/-- lists of ints, equal or not -/
theorem eqv_ints : ∀ (ns ms : List Int), PyData.eqvAll (ns.map PyData.int) (ms.map PyData.int) = decide (ns = ms)
  | [], [] => rfl
  | [], _ :: _ => rfl
  | _ :: _, [] => rfl
  | n :: ns, m :: ms => by
    show PyData.eqvAll (PyData.int n :: ns.map PyData.int) (PyData.int m :: ms.map PyData.int) = _
    rw [PyData.eqvAll, eqv_ints ns ms]
    have e : PyData.eqv (.int n) (.int m) = decide (n = m) := by
      by_cases h : n = m <;> simp [PyData.eqv, h]
    rw [e]
    by_cases h1 : n = m <;> by_cases h2 : ns = ms <;> simp [h1, h2]
theorem eqv_lists (ns ms : List Int) : PyData.eqv (.list (ns.map PyData.int)) (.list (ms.map PyData.int)) = decide (ns = ms) := by
  rw [← eqv_ints]
  simp [PyData.eqv]
section
variable {P : Program} {w : World} {K : PySem.W.Frag} {mg : Str → Option Value} {base : Heap}
/-! ### _law_wide_right -/
abbrev s_l_wide_right : Stmt := topS 47
abbrev N_l_wide_right : List Str := ["_law_pen_here", "_law_rule_here", "_law_start", "_law_wide", "_law_other", "_law_ranks", "_law_one", "_law_two", "_law_at"]
abbrev P_l_wide_right : List Str := ["_law_pen_here", "_law_rule_here", "_law_start"]
theorem sc_l_wide_right : FnScope N_l_wide_right P_l_wide_right (defScope s_l_wide_right) := ⟨rfl, rfl, rfl, by decide +kernel, rfl, by decide +kernel, by decide +kernel⟩
theorem ok_l_wide_right (D : Df K mg "_law_wide_right" s_l_wide_right P_l_wide_right) (B : Bi mg) (c_l_great : C8.Cal P w K mg base 2 "_law_great" spGreat []) (c_l_signed : C8.Cal P w K mg base 3 "_law_signed" spSigned []) (c_pattern_rank : C8.Cal P w K mg base 5 "pattern_rank" spPR []) (c_l_pattern : C8.Cal P w K mg base 2 "_law_pattern" spLPat []) : C8.Cal P w K mg base 6 "_law_wide_right" spAD [] := by
  refine cal_of D sc_l_wide_right (fun vs H Q E h => ?_) (fun f cdv A outer s H vs Q E hr h => ?_)
  · obtain ⟨a, n, r, p, q, c, t, rfl, _⟩ := h
    rfl
  · obtain ⟨a, n, r, p, q, c, t, rfl, hP, hn, er, R, bt, kk⟩ := h
    have hq := R.q1
    have h12 : ((12 : Int) / 6).toNat = 2 := by decide
    have h30 : ((30 : Int) / 6).toNat = 5 := by decide
    have hu0 : (A.deeper (envOfC "_law_wide_right" (defScope s_l_wide_right) s.heap.objs.size f cdv)).units < cLine := hr.units0
    refine ⟨_, (pss_cons (ps_asg (pe_tup (pa_cons (C8.pe_c c_l_great hr (by decide) (by rfl) (pa_cons (pv 0) (pa_cons pe_int pa_nil))) (pa_cons (C8.pe_c c_l_signed hr (by decide) (by rfl) (pa_cons (pv 0) (pa_cons pe_int pa_nil))) pa_nil))) (pg_tup rfl (pgs_cons (pg_name (i := 3) sc_l_wide_right.nd rfl (Or.inr rfl)) (pgs_cons (pg_name (i := 4) sc_l_wide_right.nd rfl (Or.inl rfl)) pgs_nil))))
    (pss_cons (ps_setLc (i := 5) (own := [("_law_at", 8)]) (g := (gName 8)) (by rfl) sc_l_wide_right.nd rfl rfl (sw_true rfl rfl rfl (by decide +kernel)) (pi_tup (pe_tup (pa_cons (pv 2) (pa_cons (pv 4) (pa_cons (pe_op op_add (pv 2) (pe_ix (r := rIxT K) ix_tup (pv 1) pe_int (fun _ _ => rfl))) pa_nil))))) (blkOk_by (own := [("_law_at", 8)]) (N := N_l_wide_right) (sc := defScope s_l_wide_right) (by decide +kernel)) (fun _ _ _ _ _ => (pg_name (i := 8) sc_l_wide_right.nd rfl (Or.inl rfl))) (fun _ _ _ _ _ => pts_nil) (fun _ _ _ _ _ => (C8.pe_c c_pattern_rank hr (by decide) (by rfl) (pa_cons (pv 1) (pa_cons (pv 3) (pa_cons (pv 8) pa_nil))))))
    (pss_cons (ps_asg (pe_lc (own := [("_law_at", 8)]) (g := (gName 8)) (by rfl) sc_l_wide_right.nd (pi_tup (pe_tup (pa_cons (pv 2) (pa_cons (pv 4) pa_nil)))) (blkOk_by (own := [("_law_at", 8)]) (N := N_l_wide_right) (sc := defScope s_l_wide_right) (by decide +kernel)) (fun _ _ _ _ _ => (pg_name (i := 8) sc_l_wide_right.nd rfl (Or.inl rfl))) (fun _ _ _ _ _ => pts_nil) (fun _ _ _ _ _ => (C8.pe_c c_l_pattern hr (by decide) (by rfl) (pa_cons (pv 1) (pa_cons (pe_callB (call_min2 rfl) (by rfl) B.min_ bt_min (pa_cons (pv 3) (pa_cons pe_int pa_nil))) (pa_cons (pv 8) pa_nil)))))) (pg_unl rfl (pgs_cons (pg_name (i := 6) sc_l_wide_right.nd rfl (Or.inl rfl)) (pgs_cons (pg_name (i := 7) sc_l_wide_right.nd rfl (Or.inl rfl)) pgs_nil))))
    (pss_one (ps_ret (pe_and (pe_cmpR op_eq (pe_ix (r := rIxL K) ix_list (pv 5) pe_int (fun _ _ => rfl)) (pe_ix (r := rIxL K) ix_list (pv 5) pe_int (fun _ _ => rfl)) (nomark _)) (pe_one (pe_or (pe_cmpR (op_eqD hr.units) (pv 6) (pv 7) (nomark _)) (pe_one (pe_cmpR op_eq (pe_cmpR (op_ltL hu0) (pv 6) (pv 7) (nomark _)) (pe_cmpR op_lt (pe_ix (r := rIxL K) ix_list (pv 5) pe_int (fun _ _ => rfl)) (pe_ix (r := rIxL K) ix_list (pv 5) pe_int (fun _ _ => rfl)) (nomark _)) (nomark _))))))))))), ?_⟩
    refine ⟨_, rfl, a, n, 12, rfl, hP, by omega, by decide, by decide, fun wd H1 w0 wb hP1 f1 => ?_⟩
    refine ⟨_, rfl, a, _, 30, rfl, hP1, by omega, by decide, by decide, fun o H2 ob hP2 f2 => ?_⟩
    refine ⟨len10 (by simp), fun tp ntp => ⟨tp, _, rfl, SqT.of upd_same, rfl, _, _, rfl, _, _, rfl, rfl, ?_⟩⟩
    have hP3 := hP2.new (o := .tup [.int wd, .int o]) ntp
    have fH : Fr H (upd H2 tp (.tup [.int wd, .int o])) := f1.trans (f2.trans (Fr.new ntp))
    have er3 := fH.t _ _ er
    generalize upd H2 tp (.tup [.int wd, .int o]) = H3 at hP3 fH er3
    have bo : Bd 100 o := ob
    have btq : Bd 301 (t + q) := Bd.add bt R.bq
    -- the ranks
    refine ⟨_, rfl, _, rfl, _, rfl, _, rfl, r, _, _, _, rfl, rfl, SqT.of er3, atI_nat (j := 1) rfl, _, _, rfl, rfl, len10 (by simp), fun tq ntq => ?_⟩
    have e4 : upd H3 tq (.tup [.int t, .int o, .int (t + q)]) tq = some (.tup [.int t, .int o, .int (t + q)]) := upd_same
    have s4 := sm_upd (o := .tup [.int t, .int o, .int (t + q)]) ntq
    have er4 := s4 _ _ er3
    dsimp only
    generalize upd H3 tq (.tup [.int t, .int o, .int (t + q)]) = H4 at e4 s4 er4
    refine ⟨tq, rfl, ⟨_, SqT.of e4⟩, fun L nL => ?_⟩
    generalize hN : (tot wd q).toNat = N
    have hNN : (N : Int) = min ((wd.toNat : Nat) + 1 : Int) q := by rw [← hN]; exact totN w0 hq
    refine lc_tup (K := K) (a := tq) (xs := [.int t, .int o, .int (t + q)]) (fun j H' => Same H4 H' ∧ H' L = some (.lst ((([t, o, t + q].take j).map fun z => rk p q N ((p * z + c) % q) - 1).map V.int))) ⟨sm_upd nL, upd_same⟩ ?_ ?_ ?_
    · rintro j H' _ ⟨s1, _⟩
      exact SqT.of (s1 _ _ e4)
    · rintro j x H' hx ⟨s1, eL⟩
      obtain ⟨z, hz, rfl, bz⟩ : ∃ z, [t, o, t + q][j]? = some z ∧ x = V.int z ∧ Bd 301 z := by
        match j, hx with
        | 0, hx => cases hx; exact ⟨_, rfl, rfl, bt.mono (by decide)⟩
        | 1, hx => cases hx; exact ⟨_, rfl, rfl, bo.mono (by decide)⟩
        | 2, hx => cases hx; exact ⟨_, rfl, rfl, btq⟩
      refine ⟨rfl, _, rfl, _, rfl, _, rfl, r, p, q, c, wd, z, 301, rfl, s1 _ _ er4, R.mono (by decide), w0, bz, by decide, by decide, fun H5 s5 => ?_⟩
      have hj : j < 3 := (List.getElem?_eq_some_iff.mp hz).1
      refine ⟨_, s5 _ _ eL, ?_, ?_, ?_⟩
      · rw [List.length_map, List.length_map, List.length_take]
        exact small1000 (by omega)
      · intro b' ob' eb
        rw [upd_ne (ne_of_none eb nL)]
        exact s5 _ _ (s1 _ _ eb)
      · rw [upd_same, hN, List.take_add_one, hz, List.map_append, List.map_append]
        rfl
    rintro H5 ⟨s5, eL⟩
    have er5 := s5 _ _ er4
    have hP5 := (hP3.same s4).same s5
    -- the first parts
    refine ⟨_, rfl, _, rfl, len10 (by simp), fun tu ntu => ?_⟩
    have e6 : upd H5 tu (.tup [.int t, .int o]) tu = some (.tup [.int t, .int o]) := upd_same
    have s6 := sm_upd (o := .tup [.int t, .int o]) ntu
    have er6 := s6 _ _ er5
    have eL6 := s6 _ _ eL
    generalize upd H5 tu (.tup [.int t, .int o]) = H6 at e6 s6 er6 eL6
    refine ⟨tu, rfl, ⟨_, SqT.of e6⟩, fun L2 nL2 => ?_⟩
    obtain ⟨v0, v1, v2⟩ := mn150 wd w0
    refine lc_tup (K := K) (a := tu) (xs := [.int t, .int o]) (fun j H' => Same H6 H' ∧ ∃ ts : List Addr, H' L2 = some (.lst (ts.map V.ref)) ∧ ts.length = j ∧ ∀ (i : Nat) (u : Addr) (z : Int), ts[i]? = some u → [t, o][i]? = some z → H' u = some (.lst ((ptn p q c (if 150 < wd then 150 else wd).toNat z).map V.int))) ⟨sm_upd nL2, [], upd_same, rfl, fun i u z h => by simp at h⟩ ?_ ?_ ?_
    · rintro j H' _ ⟨s1, _⟩
      exact SqT.of (s1 _ _ e6)
    · rintro j x H' hx ⟨s1, ts, eL', hl, hts⟩
      obtain ⟨z, hz, rfl, bz⟩ : ∃ z, [t, o][j]? = some z ∧ x = V.int z ∧ Bd 300 z := by
        match j, hx with
        | 0, hx => cases hx; exact ⟨_, rfl, rfl, bt⟩
        | 1, hx => cases hx; exact ⟨_, rfl, rfl, bo.mono (by decide)⟩
      have hj : j < 2 := (List.getElem?_eq_some_iff.mp hz).1
      refine ⟨rfl, _, rfl, _, rfl, _, _, rfl, _, rfl, r, p, q, c, _, z, 300, rfl, s1 _ _ er6, R, v0, by omega, bz, by decide, by decide, fun u H7 nu s7 eu => ?_⟩
      have nLu : L2 ≠ u := ne_of_none eL' nu
      refine ⟨_, s7 _ _ eL', small1000 (by rw [List.length_map]; omega), ?_, ts ++ [u], ?_, by rw [List.length_append, hl]; rfl, fun i u' z' h1 h2 => ?_⟩
      · intro b' ob' eb
        rw [upd_ne (ne_of_none eb nL2)]
        exact s7 _ _ (s1 _ _ eb)
      · rw [upd_same, List.map_append]
        rfl
      · by_cases hi' : i < ts.length
        · rw [List.getElem?_append_left hi'] at h1
          have h3 := hts i u' z' h1 h2
          have hne : u' ≠ L2 := by
            intro e
            rw [e, eL'] at h3
            have h4 := HO.lst.inj (Option.some.inj h3)
            have hm : V.ref u' ∈ ts.map V.ref := List.mem_map_of_mem (List.mem_of_getElem? h1)
            rw [h4] at hm
            obtain ⟨y, _, hy⟩ := List.mem_map.mp hm
            cases hy
          rw [upd_ne hne]
          exact s7 _ _ h3
        · rw [List.getElem?_append_right (by omega)] at h1
          cases hzz : i - ts.length with
          | zero =>
            rw [hzz] at h1
            cases h1
            have : i = j := by omega
            subst this
            rw [hz] at h2
            cases h2
            rw [upd_ne nLu.symm]
            exact eu
          | succ y =>
            rw [hzz] at h1
            simp at h1
    rintro H7 ⟨s7, ts, eL7, hl, hts⟩
    obtain ⟨u1, u2, rfl⟩ : ∃ u1 u2, ts = [u1, u2] := by
      match ts, hl with
      | [u1, u2], _ => exact ⟨u1, u2, rfl⟩
    have eu1 := hts 0 u1 t rfl rfl
    have eu2 := hts 1 u2 o rfl rfl
    refine ⟨L2, _, rfl, SqL.of eL7, rfl, _, _, rfl, _, _, rfl, rfl, ?_⟩
    have eR := s7 _ _ eL6
    have hper : (p * (t + q) + c) % q = (p * t + c) % q := by
      rw [show p * (t + q) + c = p * t + c + q * p by rw [Int.mul_add, Int.mul_comm p q]; omega, Int.add_mul_emod_self_left]
    refine ⟨_, rfl, L, _, _, _, rfl, rfl, SqL.of eR, atI_nat (j := 0) rfl, _, rfl, L, _, _, _, rfl, rfl, SqL.of eR, atI_nat (j := 2) rfl, rfl, _, rfl, iteD (by show V.int (rk p q N ((p * t + c) % q) - 1) = V.int (rk p q N ((p * (t + q) + c) % q) - 1); rw [hper]) ?_⟩
    have hfin : Pen H7 a (n + 20) ∧ Fr H H7 := ⟨((hP5.same s6).same s7).mono (by omega), fH.trans (Fr.same (s4.trans (s5.trans (s6.trans s7))))⟩
    refine ⟨_, rfl, _, rfl, _, _, Dp.lst (SqL.of eu1) (dp_ints _), Dp.lst (SqL.of eu2) (dp_ints _), sh_ints _, sh_ints _, _, rfl, ?_⟩
    rw [eqv_lists]
    have cmp : ∀ k, LtB (ptn p q c (if 150 < wd then 150 else wd).toNat t) (ptn p q c (if 150 < wd then 150 else wd).toNat o) k → _ := fun k hk => (ptn_cmp (N := N) (w := wd.toNat) (show 0 < q by omega) (by omega) hNN hk).1
    by_cases he : ptn p q c (if 150 < wd then 150 else wd).toNat t = ptn p q c (if 150 < wd then 150 else wd).toNat o
    · rw [decide_eq_true he]
      exact iteT (kk _ hfin.1 hfin.2)
    · rw [decide_eq_false he]
      refine iteF ⟨_, rfl, _, rfl, u1, u2, _, _, rfl, rfl, SqL.of eu1, SqL.of eu2, by rw [ptn_len, ptn_len], fun k hk => ?_⟩
      refine ⟨_, rfl, L, _, _, _, rfl, rfl, SqL.of eR, atI_nat (j := 0) rfl, _, rfl, L, _, _, _, rfl, rfl, SqL.of eR, atI_nat (j := 1) rfl, _, _, rfl, rfl, rfl, ?_⟩
      rcases cmp k hk with z | ⟨z, _⟩
      · exact absurd z he
      · show Q (V.bl (decide (V.bl k = V.bl (decide (rk p q N ((p * t + c) % q) - 1 < rk p q N ((p * o + c) % q) - 1))))) H7
        have e2 : decide (rk p q N ((p * t + c) % q) - 1 < rk p q N ((p * o + c) % q) - 1) = k := by
          rw [z]
          by_cases h : rk p q N ((p * t + c) % q) < rk p q N ((p * o + c) % q)
          · rw [decide_eq_true h, decide_eq_true (by omega)]
          · rw [decide_eq_false h, decide_eq_false (by omega)]
        rw [e2, decide_eq_true rfl]
        exact kk _ hfin.1 hfin.2
end
end Lf
namespace Lf
open PySem PySem.Spec PyProof.Rows L2
section
variable {P : Program} {w : World} {K : PySem.W.Frag} {mg : Str → Option Value} {base : Heap}
/-- the rows of patterns and ranks -/
structure Rows17 (H : Hp) (L : Addr) (ats : List Int) (p q c : Int) (wd : Nat) (N : Nat) : Prop where
  ex : ∃ ts : List (Addr × Addr), H L = some (.lst (ts.map fun e => V.ref e.1)) ∧ ts.length = ats.length ∧ ∀ (i : Nat) (e : Addr × Addr) (z : Int), ts[i]? = some e → ats[i]? = some z →
    H e.1 = some (.tup [.ref e.2, .int (rk p q N ((p * z + c) % q) - 1)]) ∧ H e.2 = some (.lst ((ptn p q c wd z).map V.int))
abbrev s_law : Stmt := topS 48
abbrev N_law : List Str := ["_law_script", "_law_pen_here", "_law_turn", "_law_rule_here", "_law_width", "_law_start", "_law_total", "_law_starts", "_law_rows", "_law_at", "_law_rank", "_law_one", "_law_other", "_law_other_rank", "_law_small", "_law_stop", "_law_ranks"]
abbrev P_law : List Str := ["_law_script"]
theorem sc_law : FnScope N_law P_law (defScope s_law) := ⟨rfl, rfl, rfl, by decide +kernel, rfl, by decide +kernel, by decide +kernel⟩
theorem ok_law {f : Addr} {fd : FuncData} (F : Fun K "law" "law" s_law f fd) (B : Bi mg) (c_l_pen : C8.Cal P w K mg base 1 "_law_pen" (spPen K) []) (c_l_draw : C8.Cal P w K mg base 1 "_law_draw" spDraw []) (c_l_pick : C8.Cal P w K mg base 2 "_law_pick" spPick []) (c_l_great : C8.Cal P w K mg base 2 "_law_great" spGreat [])
    (c_l_signed : C8.Cal P w K mg base 3 "_law_signed" spSigned []) (c_l_rule : C8.Cal P w K mg base 3 "_law_rule" spRule []) (c_l_far_rule : C8.Cal P w K mg base 4 "_law_far_rule" spFar []) (c_l_is_int : C8.Cal P w K mg base 1 "_law_is_int" spIsInt []) (c_l_pattern : C8.Cal P w K mg base 2 "_law_pattern" spLPat []) (c_pattern_total : C8.Cal P w K mg base 4 "pattern_total" spPT []) (c_pattern_rank : C8.Cal P w K mg base 5 "pattern_rank" spPR []) (c_pattern_count : C8.Cal P w K mg base 6 "pattern_count" spPC [])
    (c_l_next_right : C8.Cal P w K mg base 7 "_law_next_right" spNxR []) (c_l_all_different : C8.Cal P w K mg base 7 "_law_all_different" spAD []) (c_l_wide_right : C8.Cal P w K mg base 6 "_law_wide_right" spAD []) : FnOk P w K mg base CX0 8 f fd P_law (spLaw K) := by
  refine F.ok sc_law (fun vs H Q E h => ?_) (fun cdv A outer s H vs Q E hr h => ?_)
  · obtain ⟨a, ns, rfl, _⟩ := h
    rfl
  · obtain ⟨sc, ns, rfl, hS, hlen, k⟩ := h
    have hu0 : (A.deeper (envOfC "law" (defScope s_law) s.heap.objs.size f cdv)).units < cLine := hr.units0
    have h30 : ((30 : Int) / 6).toNat = 5 := by decide
    have h12 : ((12 : Int) / 6).toNat = 2 := by decide
    refine ⟨_, (pss_cons (ps_set (i := 1) sc_law.nd rfl (Or.inl rfl) (C8.pe_c c_l_pen hr (by decide) (by rfl) (pa_cons (pv 0) pa_nil)))
    (pss_cons (ps_for PassesOwn.never rfl (pi_range1 rfl B.range_ (pa_cons pe_int pa_nil)) (pg_name (i := 2) sc_law.nd rfl (Or.inl rfl))
      (pss_cons (ps_set (i := 3) sc_law.nd rfl (Or.inr rfl) (C8.pe_c c_l_pick hr (by decide) (by rfl) (pa_cons (pv 1) (pa_cons (pe_lst (pa_cons (C8.pe_c c_l_rule hr (by decide) (by rfl) (pa_cons (pv 1) (pa_cons pe_int pa_nil))) (pa_cons (C8.pe_c c_l_far_rule hr (by decide) (by rfl) (pa_cons (pv 1) (pa_cons (C8.pe_c c_l_pick hr (by decide) (by rfl) (pa_cons (pv 1) (pa_cons (pe_lst (pa_cons pe_int (pa_cons pe_int pa_nil))) pa_nil))) pa_nil))) pa_nil))) pa_nil))))
    (pss_cons (ps_asg (pe_tup (pa_cons (C8.pe_c c_l_pick hr (by decide) (by rfl) (pa_cons (pv 1) (pa_cons (pe_lst (pa_cons (C8.pe_c c_l_draw hr (by decide) (by rfl) (pa_cons (pv 1) (pa_cons pe_int pa_nil))) (pa_cons (C8.pe_c c_l_draw hr (by decide) (by rfl) (pa_cons (pv 1) (pa_cons pe_int pa_nil))) pa_nil))) pa_nil))) (pa_cons (C8.pe_c c_l_signed hr (by decide) (by rfl) (pa_cons (pv 1) (pa_cons pe_int pa_nil))) pa_nil))) (pg_tup rfl (pgs_cons (pg_name (i := 4) sc_law.nd rfl (Or.inl rfl)) (pgs_cons (pg_name (i := 5) sc_law.nd rfl (Or.inr rfl)) pgs_nil))))
    (pss_cons (ps_set (i := 6) sc_law.nd rfl (Or.inl rfl) (pe_callB (call_min2 rfl) (by rfl) B.min_ bt_min (pa_cons (pe_op op_add (pv 4) pe_int) (pa_cons (pe_ix (r := rIxT K) ix_tup (pv 3) pe_int (fun _ _ => rfl)) pa_nil))))
    (pss_cons (ps_if (pt_cmpR op_ne (C8.pe_c c_pattern_total hr (by decide) (by rfl) (pa_cons (pv 3) (pa_cons (pv 4) pa_nil))) (pv 6) (nomark _))
      (pss_one (ps_ret pe_bl))
      pss_nil)
    (pss_cons (ps_set (i := 7) sc_law.nd rfl (Or.inl rfl) (pe_lst (pa_cons (pv 5) (pa_cons (pe_op op_add (pv 5) pe_int) (pa_cons (pe_op op_add (pv 5) (C8.pe_c c_l_draw hr (by decide) (by rfl) (pa_cons (pv 1) (pa_cons pe_int pa_nil)))) (pa_cons (C8.pe_c c_l_signed hr (by decide) (by rfl) (pa_cons (pv 1) (pa_cons pe_int pa_nil))) (pa_cons (pe_op op_add (pv 5) (pe_ix (r := rIxT K) ix_tup (pv 3) pe_int (fun _ _ => rfl))) pa_nil)))))))
    (pss_cons (ps_set (i := 8) sc_law.nd rfl (Or.inl rfl) (pe_lst pa_nil))
    (pss_cons (ps_for PassesOwn.never rfl (pi_list (pv 7)) (pg_name (i := 9) sc_law.nd rfl (Or.inl rfl))
      (pss_cons (ps_set (i := 10) sc_law.nd rfl (Or.inl rfl) (C8.pe_c c_pattern_rank hr (by decide) (by rfl) (pa_cons (pv 3) (pa_cons (pv 4) (pa_cons (pv 9) pa_nil)))))
    (pss_cons (ps_if (PW.pt (pw_or (pt_not (pt_val (C8.pe_c c_l_is_int hr (by decide) (by rfl) (pa_cons (pv 10) pa_nil)))) (pw_or1 (pt_not (pt_chain op_le op_lt pe_int (pv 10) (pv 6))))))
      (pss_one (ps_ret pe_bl))
      pss_nil)
    (pss_one (ps_expr (pe_bm PySem.F.plainAttrs_list PySem.F.slot_list_append PySem.F.type_list_append mt_append (pv 8) (pa_cons (pe_tup (pa_cons (C8.pe_c c_l_pattern hr (by decide) (by rfl) (pa_cons (pv 3) (pa_cons (pv 4) (pa_cons (pv 9) pa_nil)))) (pa_cons (pv 10) pa_nil))) pa_nil)))))))
    (pss_cons (ps_for PassesOwn.never rfl (pi_list (pv 8)) (pg_tup rfl (pgs_cons (pg_name (i := 11) sc_law.nd rfl (Or.inl rfl)) (pgs_cons (pg_name (i := 10) sc_law.nd rfl (Or.inl rfl)) pgs_nil)))
      (pss_one (ps_for PassesOwn.never rfl (pi_list (pv 8)) (pg_tup rfl (pgs_cons (pg_name (i := 12) sc_law.nd rfl (Or.inl rfl)) (pgs_cons (pg_name (i := 13) sc_law.nd rfl (Or.inl rfl)) pgs_nil)))
      (pss_one (ps_if (PW.pt (pw_or (pt_cmpR op_ne (pe_cmpR (op_ltL hu0) (pv 11) (pv 12) (nomark _)) (pe_cmpR op_lt (pv 10) (pv 13) (nomark _)) (nomark _)) (pw_or1 (pt_cmpR op_ne (pe_cmpR (op_eqD hr.units) (pv 11) (pv 12) (nomark _)) (pe_cmpR op_eq (pv 10) (pv 13) (nomark _)) (nomark _)))))
      (pss_one (ps_ret pe_bl))
      pss_nil)))))
    (pss_cons (ps_if (pt_not (pt_val (C8.pe_c c_l_next_right hr (by decide) (by rfl) (pa_cons (pv 3) (pa_cons (pv 4) (pa_cons (pv 5) (pa_cons (C8.pe_c c_l_draw hr (by decide) (by rfl) (pa_cons (pv 1) (pa_cons (pv 6) pa_nil))) pa_nil)))))))
      (pss_one (ps_ret pe_bl))
      pss_nil)
    (pss_cons (ps_asg (pe_tup (pa_cons (C8.pe_c c_l_draw hr (by decide) (by rfl) (pa_cons (pv 1) (pa_cons pe_int pa_nil))) (pa_cons (pe_op op_add (pv 5) (C8.pe_c c_l_great hr (by decide) (by rfl) (pa_cons (pv 1) (pa_cons pe_int pa_nil)))) pa_nil))) (pg_tup rfl (pgs_cons (pg_name (i := 14) sc_law.nd rfl (Or.inr rfl)) (pgs_cons (pg_name (i := 15) sc_law.nd rfl (Or.inr rfl)) pgs_nil))))
    (pss_cons (ps_set (i := 16) sc_law.nd rfl (Or.inl rfl) (pe_listRg rfl rfl B.list_ (prg_1 rfl B.range_ (pe_callB (call_min2 rfl) (by rfl) B.min_ bt_min (pa_cons (pe_op op_add (pv 14) pe_int) (pa_cons (pe_ix (r := rIxT K) ix_tup (pv 3) pe_int (fun _ _ => rfl)) pa_nil))))))
    (pss_cons (ps_if (pt_cmpR op_ne (pe_callB (cr_sum rfl) (by rfl) B.sum_ bt_sum (pa_cons (pe_lc (own := [("_law_rank", 10)]) (g := (gName 10)) (by rfl) sc_law.nd (pi_list (pv 16)) (blkOk_by (own := [("_law_rank", 10)]) (N := N_law) (sc := defScope s_law) (by decide +kernel)) (fun _ _ _ _ _ => (pg_name (i := 10) sc_law.nd rfl (Or.inl rfl))) (fun _ _ _ _ _ => pts_nil) (fun _ _ _ _ _ => (C8.pe_c c_pattern_count hr (by decide) (by rfl) (pa_cons (pv 3) (pa_cons (pv 14) (pa_cons (pv 10) (pa_cons (pv 5) (pa_cons (pv 15) pa_nil)))))))) pa_nil)) (pe_op op_sub (pv 15) (pv 5)) (nomark _))
      (pss_one (ps_ret pe_bl))
      pss_nil)
    (pss_one (ps_if (PW.pt (pw_or (pt_not (pt_val (C8.pe_c c_l_all_different hr (by decide) (by rfl) (pa_cons (pv 1) (pa_cons (pv 3) (pa_cons (pv 5) pa_nil)))))) (pw_or1 (pt_not (pt_val (C8.pe_c c_l_wide_right hr (by decide) (by rfl) (pa_cons (pv 1) (pa_cons (pv 3) (pa_cons (pv 5) pa_nil)))))))))
      (pss_one (ps_ret pe_bl))
      pss_nil)))))))))))))))
    (pss_one (ps_ret pe_bl)))), ?_⟩
    refine ⟨_, rfl, sc, ns, rfl, hS, fun a H0 hP0 s0 => ?_⟩
    refine ⟨2, rfl, by decide, by decide, ?_⟩
    refine for_range (lo := 0) (n := 2) (fun i σ H1 => ∃ (y2 y3 y4 y5 y6 y7 y8 y9 y10 y11 y12 y13 y14 y15 y16 : Option V), σ = [some (.ref sc), some (.ref a), y2, y3, y4, y5, y6, y7, y8, y9, y10, y11, y12, y13, y14, y15, y16] ∧ Pen H1 a (300 * i)) ⟨_, _, _, _, _, _, _, _, _, _, _, _, _, _, _, rfl, hP0⟩ ?_ ?_
    · rintro i σ H1 hi ⟨y2, y3, y4, y5, y6, y7, y8, y9, y10, y11, y12, y13, y14, y15, y16, rfl, hP1⟩
      -- the rule
      refine ⟨_, rfl, _, rfl, a, _, 60, rfl, hP1, by omega, by decide, by decide, fun r1 p1 q1 c1 H2 R1 _ _ e1 hP2 f2 => ?_⟩
      refine ⟨_, rfl, _, rfl, len10 (by simp), fun l0 nl0 => ?_⟩
      refine ⟨a, l0, _, _, rfl, hP2.new nl0, by omega, upd_same, by simp, by simp, fun x0 H3 hx0 hP3 f3 => ?_⟩
      obtain ⟨dg, rfl, dg0, dg1⟩ : ∃ d, x0 = V.int d ∧ 6 ≤ d ∧ d ≤ 12 := by
        simp only [List.mem_cons, List.not_mem_nil, or_false] at hx0
        rcases hx0 with rfl | rfl <;> exact ⟨_, rfl, by omega, by omega⟩
      refine ⟨a, _, dg, rfl, hP3, by omega, by omega, by omega, fun r2 p2 q2 c2 H4 R2 e2 hP4 f4 => ?_⟩
      refine ⟨len10 (by simp), fun l nl => ?_⟩
      refine ⟨a, l, _, _, rfl, hP4.new nl, by omega, upd_same, by simp, by simp, fun x H5 hx hP5 f5 => ?_⟩
      obtain ⟨r, p, q, c, rfl, R, er⟩ : ∃ r p q c, x = V.ref r ∧ RuleB 100 p q c ∧ H5 r = some (tup3 p q c) := by
        have f6 : Fr H4 H5 := (Fr.new nl).trans f5
        simp only [List.mem_cons, List.not_mem_nil, or_false] at hx
        rcases hx with rfl | rfl
        · exact ⟨_, _, _, _, rfl, R1.mono (by decide), f6.t _ _ (f4.t _ _ (f3.t _ _ ((Fr.new nl0).t _ _ e1)))⟩
        · exact ⟨_, _, _, _, rfl, R2.mono (by omega), f6.t _ _ e2⟩
      have hP5 : Pen H5 a (300 * i + 40) := hP5.mono (by omega)
      have hq := R.q1
      clear hx hx0 e1 e2 R1 R2 f2 f3 f4 f5 hP1 hP2 hP3 hP4
      -- the width, the start
      refine ⟨_, rfl, _, rfl, a, _, _, rfl, hP5, by omega, by decide, Bd.small 20 (by decide) (by decide), fun d1 H6 d10 d11 hP6 f6 => ?_⟩
      refine ⟨_, rfl, a, _, _, rfl, hP6, by omega, by decide, Bd.small 20 (by decide) (by decide), fun d2 H7 d20 d21 hP7 f7 => ?_⟩
      refine ⟨len10 (by simp), fun l3 nl3 => ⟨a, l3, _, _, rfl, hP7.new nl3, by omega, upd_same, by simp, by simp, fun xw H8 hxw hP8 f8 => ?_⟩⟩
      obtain ⟨wd, rfl, w0, w70⟩ : ∃ wd, xw = V.int wd ∧ 0 ≤ wd ∧ wd ≤ 70 := by
        simp only [List.mem_cons, List.not_mem_nil, or_false] at hxw
        rcases hxw with rfl | rfl <;> exact ⟨_, rfl, by omega, by omega⟩
      refine ⟨_, rfl, a, _, 30, rfl, hP8, by omega, by decide, by decide, fun t H9 bt hP9 f9 => ?_⟩
      refine ⟨len10 (by simp), fun tp ntp => ⟨tp, _, rfl, SqT.of upd_same, rfl, _, _, rfl, _, _, rfl, rfl, ?_⟩⟩
      have er10 := (Fr.new (o := .tup [.int wd, .int t]) ntp).t _ _ (f9.t _ _ (f8.t _ _ ((Fr.new nl3).t _ _ (f7.t _ _ (f6.t _ _ er)))))
      have hP10 := hP9.new (o := .tup [.int wd, .int t]) ntp
      generalize upd H9 tp (.tup [.int wd, .int t]) = H10 at er10 hP10
      have bt : Bd 100 t := bt
      obtain ⟨t1, t2, t3⟩ := tot_in w0 hq
      -- the total
      refine ⟨_, rfl, _, _, rfl, rfl, _, rfl, r, _, _, _, rfl, rfl, SqT.of er10, atI_nat (j := 1) rfl, _, _, rfl, ?_⟩
      refine ⟨_, rfl, _, rfl, r, p, q, c, wd, 100, rfl, er10, R, w0, by decide, fun H11 s11 => ⟨_, rfl, rfl, _, rfl, iteNS rfl ?_⟩⟩
      have er11 := s11 _ _ er10
      have hP11 := hP10.same s11
      -- the starts
      refine ⟨_, rfl, _, rfl, _, _, rfl, rfl, _, rfl, _, rfl, a, _, _, rfl, hP11, by omega, by decide, Bd.small 20 (by decide) (by decide), fun d3 H12 d30 d31 hP12 f12 => ?_⟩
      refine ⟨_, _, rfl, rfl, _, rfl, a, _, 30, rfl, hP12, by omega, by decide, by decide, fun o H13 bo hP13 f13 => ?_⟩
      have er13 := f13.t _ _ (f12.t _ _ er11)
      refine ⟨_, rfl, _, rfl, r, _, _, _, rfl, rfl, SqT.of er13, atI_nat (j := 1) rfl, _, _, rfl, rfl, len10 (by simp), fun ls nls => ?_⟩
      dsimp only
      generalize hats : [t, t + 1, t + d3, o, t + q] = ats
      have hlen5 : ats.length = 5 := by rw [← hats]; rfl
      have bo : Bd 100 o := bo
      have hbat : ∀ z ∈ ats, Bd 101 z := by
        intro z hz
        rw [← hats] at hz
        simp only [List.mem_cons, List.not_mem_nil, or_false] at hz
        rcases hz with rfl | rfl | rfl | rfl | rfl
        · exact bt.mono (by decide)
        · exact Bd.add bt (Bd.small 1 (by decide) (by decide))
        · exact Bd.add bt (Bd.small 20 (by omega) (by decide))
        · exact bo.mono (by decide)
        · exact Bd.add bt R.bq
      have els : upd H13 ls (.lst (ats.map V.int)) ls = some (.lst (ats.map V.int)) := upd_same
      have s14 := sm_upd (o := .lst (ats.map V.int)) nls
      have er14 := s14 _ _ er13
      have hP14 := hP13.same s14
      have e5 : [V.int t, V.int (t + 1), V.int (t + d3), V.int o, V.int (t + q)] = ats.map V.int := by rw [← hats]; rfl
      rw [e5]
      generalize upd H13 ls (.lst (ats.map V.int)) = H14 at els s14 er14 hP14
      refine ⟨Nat.zero_le _, fun L nL => ?_⟩
      generalize hN : (tot wd q).toNat = N
      have hNN : (N : Int) = min ((wd.toNat : Nat) + 1 : Int) q := by rw [← hN]; exact totN w0 hq
      have hN1 : (N : Int) = tot wd q := by omega
      have gc := gcd_np (show 0 < q by omega) R.g
      refine ⟨_, rfl, ls, rfl, ⟨_, SqL.of ((sm_upd nL) _ _ els)⟩, ?_⟩
      refine for_list (K := K) (a := ls) (xs := ats.map V.int) (fun j σ H' => ∃ (z9 z10 : Option V), σ = [some (.ref sc), some (.ref a), some (.int (0 + (i : Int))), some (.ref r), some (.int wd), some (.int t), some (.int (tot wd q)), some (.ref ls), some (.ref L), z9, z10, y11, y12, y13, y14, y15, y16] ∧ Same H14 H' ∧ Rows17 H' L (ats.take j) p q c wd.toNat N) ⟨_, _, rfl, sm_upd nL, [], upd_same, rfl, fun i e z h => by simp at h⟩ ?_ ?_ ?_
      · rintro j σ H' _ ⟨_, _, _, s1, _⟩
        exact SqL.of (s1 _ _ els)
      · rintro j x σ H' hx ⟨z9, z10, rfl, s1, hR⟩
        obtain ⟨z, hz, rfl⟩ : ∃ z, ats[j]? = some z ∧ x = V.int z := by
          rw [List.getElem?_map] at hx
          cases hz : ats[j]? with
          | none => rw [hz] at hx; cases hx
          | some z => rw [hz] at hx; exact ⟨z, rfl, (Option.some.inj hx).symm⟩
        have hj : j < 5 := by rw [← hlen5]; exact (List.getElem?_eq_some_iff.mp hz).1
        have bz := hbat z (List.mem_of_getElem? hz)
        refine ⟨_, rfl, _, rfl, _, rfl, r, p, q, c, wd, z, 101, rfl, s1 _ _ er14, R.mono (by decide), w0, bz, by decide, by decide, fun H15 s15 => ?_⟩
        rw [hN]
        have rin := rk_in (p := p) (N := N) (x := (p * z + c) % q) (show 0 < q by omega) gc (by omega) (by omega) (Int.emod_nonneg _ (by omega))
        refine ⟨_, rfl, _, rfl, true, rfl, iteF ?_⟩
        refine ⟨_, rfl, _, _, rfl, rfl, _, rfl, iteD rin.1 ?_⟩
        refine ⟨_, rfl, _, _, rfl, rfl, _, rfl, iteNS (by show _ < tot wd q; omega) ?_⟩
        obtain ⟨ts, eL, hl, hts⟩ := hR.ex
        have hl' : ts.length = j := by rw [hl, List.length_take]; omega
        have eL15 := s15 _ _ eL
        refine ⟨_, rfl, .inl ⟨rfl, _, SqL.of eL15⟩, ?_⟩
        refine ⟨_, rfl, _, rfl, _, rfl, r, p, q, c, wd, z, 101, rfl, s15 _ _ (s1 _ _ er14), R.mono (by decide), w0, by omega, bz, by decide, by decide, fun u H16 nu s16 eu => ?_⟩
        refine ⟨_, rfl, len10 (by simp), fun tpl ntpl => ?_⟩
        have eL17 := (sm_upd (o := .tup [.ref u, .int (rk p q N ((p * z + c) % q) - 1)]) ntpl) _ _ (s16 _ _ eL15)
        refine ⟨L, _, _, rfl, rfl, eL17, small1000 (by rw [List.length_map]; omega), ?_⟩
        have sAll : Same H' (upd H16 tpl (.tup [.ref u, .int (rk p q N ((p * z + c) % q) - 1)])) := s15.trans (s16.trans (sm_upd ntpl))
        have nLt : L ≠ tpl := ne_of_none (s16 _ _ eL15) ntpl
        have nLu : L ≠ u := ne_of_none eL15 nu
        refine ⟨_, _, rfl, ?_, ts ++ [(tpl, u)], ?_, ?_, fun i' e' z' g1 g2 => ?_⟩
        · intro b' ob' eb
          rw [upd_ne (ne_of_none eb nL)]
          exact sAll _ _ (s1 _ _ eb)
        · rw [upd_same, List.map_append]
          rfl
        · rw [List.length_append, hl', List.length_take]
          show j + 1 = min (j + 1) ats.length
          omega
        · by_cases hi' : i' < ts.length
          · rw [List.getElem?_append_left hi'] at g1
            have g2' : (ats.take j)[i']? = some z' := by
              rw [List.getElem?_take_of_lt (by omega)] at g2 ⊢
              exact g2
            obtain ⟨h3, h4⟩ := hts i' e' z' g1 g2'
            have n1 : e'.1 ≠ L := by
              intro e
              rw [e, eL] at h3
              cases h3
            have n2 : e'.2 ≠ L := by
              intro e
              rw [e, eL] at h4
              have h5 := HO.lst.inj (Option.some.inj h4)
              have hm : V.ref e'.1 ∈ ts.map fun e => V.ref e.1 := List.mem_map_of_mem (f := fun e => V.ref e.1) (List.mem_of_getElem? g1)
              rw [h5] at hm
              obtain ⟨y, _, hy⟩ := List.mem_map.mp hm
              cases hy
            rw [upd_ne n1, upd_ne n2]
            exact ⟨sAll _ _ h3, sAll _ _ h4⟩
          · rw [List.getElem?_append_right (by omega)] at g1
            cases hzz : i' - ts.length with
            | zero =>
              rw [hzz] at g1
              cases g1
              have : i' = j := by omega
              subst this
              rw [List.getElem?_take_of_lt (by omega), hz] at g2
              cases g2
              rw [upd_ne nLt.symm, upd_ne nLu.symm, upd_same]
              exact ⟨rfl, (sm_upd ntpl) _ _ eu⟩
            | succ y =>
              rw [hzz] at g1
              simp at g1
      · rintro σ HR ⟨z9, z10, rfl, s1, hR⟩
        rw [List.length_map, hlen5, List.take_of_length_le (by omega)] at hR
        obtain ⟨ts, eL, hl, hts⟩ := hR.ex
        have erR := s1 _ _ er14
        have hPR := hP14.same s1
        -- all pairs of rows
        refine ⟨_, rfl, L, rfl, ⟨_, SqL.of eL⟩, ?_⟩
        refine for_list (K := K) (a := L) (xs := ts.map fun e => V.ref e.1) (fun j σ H' => ∃ (z10 z11 z12 z13 : Option V), σ = [some (.ref sc), some (.ref a), some (.int (0 + (i : Int))), some (.ref r), some (.int wd), some (.int t), some (.int (tot wd q)), some (.ref ls), some (.ref L), z9, z10, z11, z12, z13, y14, y15, y16] ∧ H' = HR) ⟨_, _, _, _, rfl, rfl⟩ ?_ ?_ ?_
        · rintro j σ H' _ ⟨_, _, _, _, _, rfl⟩
          exact SqL.of eL
        · rintro j x σ H' hx ⟨w10, w11, w12, w13, rfl, rfl⟩
          have getrow : ∀ (j : Nat) (x : V), (ts.map fun e => V.ref e.1)[j]? = some x → ∃ (e : Addr × Addr) (z : Int), x = V.ref e.1 ∧ H' e.1 = some (.tup [.ref e.2, .int (rk p q N ((p * z + c) % q) - 1)]) ∧ H' e.2 = some (.lst ((ptn p q c wd.toNat z).map V.int)) := by
            intro j x hx
            rw [List.getElem?_map] at hx
            cases he : ts[j]? with
            | none => rw [he] at hx; cases hx
            | some e =>
              rw [he] at hx
              have hj := (List.getElem?_eq_some_iff.mp he).1
              have hz : ats[j]? = some (ats[j]'(by omega)) := List.getElem?_eq_getElem (by omega)
              obtain ⟨h1, h2⟩ := hts j e _ he hz
              exact ⟨e, _, (Option.some.inj hx).symm, h1, h2⟩
          obtain ⟨e, z, rfl, h1, h2⟩ := getrow j x hx
          refine ⟨e.1, _, rfl, SqT.of h1, rfl, _, _, rfl, _, _, rfl, rfl, ?_⟩
          refine ⟨_, rfl, L, rfl, ⟨_, SqL.of eL⟩, ?_⟩
          refine for_list (K := K) (a := L) (xs := ts.map fun e => V.ref e.1) (fun j σ H'' => ∃ (z12 z13 : Option V), σ = [some (.ref sc), some (.ref a), some (.int (0 + (i : Int))), some (.ref r), some (.int wd), some (.int t), some (.int (tot wd q)), some (.ref ls), some (.ref L), z9, some (.int (rk p q N ((p * z + c) % q) - 1)), some (.ref e.2), z12, z13, y14, y15, y16] ∧ H'' = H') ⟨_, _, rfl, rfl⟩ ?_ ?_ ?_
          · rintro j σ H'' _ ⟨_, _, _, rfl⟩
            exact SqL.of eL
          · rintro j' x' σ H'' hx' ⟨v12, v13, rfl, rfl⟩
            obtain ⟨e', z', rfl, g1, g2⟩ := getrow j' x' hx'
            refine ⟨e'.1, _, rfl, SqT.of g1, rfl, _, _, rfl, _, _, rfl, rfl, ?_⟩
            refine ⟨_, rfl, _, rfl, e.2, e'.2, _, _, rfl, rfl, SqL.of h2, SqL.of g2, by rw [ptn_len, ptn_len], fun kb hk => ?_⟩
            obtain ⟨cm1, cm2⟩ := ptn_cmp (N := N) (w := wd.toNat) (show 0 < q by omega) (Nat.le_refl _) hNN hk
            have ek : kb = decide (rk p q N ((p * z + c) % q) < rk p q N ((p * z' + c) % q)) := by
              rcases cm1 with h | ⟨h, _⟩
              · rw [hk.1 h, cm2 rfl h, decide_eq_false (by omega)]
              · exact h
            have eq : ptn p q c wd.toNat z = ptn p q c wd.toNat z' ↔ rk p q N ((p * z + c) % q) = rk p q N ((p * z' + c) % q) := by
              constructor
              · exact cm2 rfl
              · intro h
                rcases cm1 with h' | ⟨_, h'⟩
                · exact h'
                · exact absurd h h'
            refine ⟨_, rfl, _, rfl, _, _, rfl, rfl, rfl, _, rfl, iteNS ?_ ?_⟩
            · show V.bl kb = V.bl (decide (rk p q N ((p * z + c) % q) - 1 < rk p q N ((p * z' + c) % q) - 1))
              rw [ek]
              by_cases h : rk p q N ((p * z + c) % q) < rk p q N ((p * z' + c) % q)
              · rw [decide_eq_true h, decide_eq_true (by omega)]
              · rw [decide_eq_false h, decide_eq_false (by omega)]
            refine ⟨_, rfl, _, rfl, _, _, Dp.lst (SqL.of h2) (dp_ints _), Dp.lst (SqL.of g2) (dp_ints _), sh_ints _, sh_ints _, _, rfl, _, rfl, rfl, rfl, _, rfl, iteNS ?_ ?_⟩
            · rw [eqv_lists]
              show V.bl _ = V.bl (decide (V.int (rk p q N ((p * z + c) % q) - 1) = V.int (rk p q N ((p * z' + c) % q) - 1)))
              by_cases h : ptn p q c wd.toNat z = ptn p q c wd.toNat z'
              · rw [decide_eq_true h, decide_eq_true (by rw [eq.mp h])]
              · rw [decide_eq_false h, decide_eq_false (fun hh => h (eq.mpr (by have := V.int.inj hh; omega)))]
            exact ⟨_, _, rfl, rfl⟩
          · rintro σ H'' ⟨v12, v13, rfl, rfl⟩
            exact ⟨_, _, _, _, rfl, rfl⟩
        · rintro σ H' ⟨w10, w11, w12, w13, rfl, rfl⟩
          -- the next one
          refine ⟨_, rfl, _, rfl, _, rfl, _, rfl, _, rfl, a, _, _, rfl, hPR, by omega, by show 0 < tot wd q; omega, Bd.small 20 (by show (tot wd q).natAbs < _; omega) (by decide), fun dk G1 dk0 dk1 hQ1 g1 => ?_⟩
          have er1 := g1.t _ _ erR
          refine ⟨r, p, q, c, wd, t, dk, 100, rfl, er1, R, w0, dk0, dk1, bt, by decide, by decide, fun G2 u2 => ⟨true, rfl, iteF ?_⟩⟩
          have er2 := u2 _ _ er1
          have hQ2 := hQ1.same u2
          -- short windows
          refine ⟨_, rfl, a, _, _, rfl, hQ2, by omega, by decide, Bd.small 20 (by decide) (by decide), fun sm G3 sm0 sm1 hQ3 g3 => ?_⟩
          refine ⟨_, rfl, _, rfl, a, _, 12, rfl, hQ3, by omega, by decide, by decide, fun g G4 g0 gb hQ4 g4 => ?_⟩
          refine ⟨_, _, rfl, rfl, len10 (by simp), fun tq ntq => ⟨tq, _, rfl, SqT.of upd_same, rfl, _, _, rfl, _, _, rfl, rfl, ?_⟩⟩
          have er5 := (Fr.new (o := .tup [.int sm, .int (t + g)]) ntq).t _ _ (g4.t _ _ (g3.t _ _ er2))
          have hQ5 := hQ4.new (o := .tup [.int sm, .int (t + g)]) ntq
          dsimp only
          generalize upd G4 tq (.tup [.int sm, .int (t + g)]) = G5 at er5 hQ5
          have gb : Bd 40 g := gb
          have bs : Bd 101 (t + g) := Bd.add bt (gb.mono (by decide))
          obtain ⟨q1, q2, q3⟩ := tot_in sm0 hq
          refine ⟨_, rfl, _, _, rfl, rfl, _, rfl, r, _, _, _, rfl, rfl, SqT.of er5, atI_nat (j := 1) rfl, _, _, rfl, _, rfl, RgOk.of_le (by decide) (by show tot sm q ≤ _; omega) (by decide) (by show 0 ≤ tot sm q; omega), fun lr nlr => ?_⟩
          show gName 16 (.ref lr) _ (upd G5 lr (.lst (rgV 0 (tot sm q)))) _
          have elr : upd G5 lr (.lst (rgV 0 (tot sm q))) lr = some (.lst (rgV 0 (tot sm q))) := upd_same
          have er6 := (sm_upd (o := .lst (rgV 0 (tot sm q))) nlr) _ _ er5
          have hQ6 := hQ5.new (o := .lst (rgV 0 (tot sm q))) nlr
          generalize upd G5 lr (.lst (rgV 0 (tot sm q))) = G6 at elr er6 hQ6
          refine ⟨_, rfl, lr, rfl, ⟨_, SqL.of elr⟩, fun L3 nL3 => ?_⟩
          generalize hM : (tot sm q).toNat = M
          have hM1 : (M : Int) = tot sm q := by omega
          refine lc_list (K := K) (a := lr) (xs := rgV 0 (tot sm q)) (fun j H' => Same G6 H' ∧ ∃ (vals : List Int) (e : Int), vals.length = j ∧ H' L3 = some (.lst (vals.map V.int)) ∧ (j < M → Nth (-p % q) q M j e) ∧ (j = M → e = q) ∧ vals.sum = fs g.toNat p (p * t + c) q - fs g.toNat p (p * t + c - e) q) ⟨sm_upd nL3, [], 0, rfl, upd_same, fun _ => nth_zero gc (by omega) (by omega), fun z => by omega, by simp⟩ ?_ ?_ ?_
          · rintro j H'' _ ⟨s6, _⟩
            exact SqL.of (s6 _ _ elr)
          · rintro j x H'' hx ⟨s6, vals, e, hv, eL3, hn1, hn2, hsum⟩
            have hj : j < M := by
              have := (List.getElem?_eq_some_iff.mp hx).1
              rw [rgV_length] at this
              omega
            obtain rfl : x = V.int j := by
              unfold rgV at hx
              rw [List.getElem?_map, List.getElem?_range (by omega)] at hx
              have := (Option.some.inj hx).symm
              rw [this]
              simp
            refine ⟨rfl, _, rfl, _, rfl, _, rfl, _, rfl, _, rfl, r, p, q, c, sm, (j : Int), t, t + g, 101, rfl, s6 _ _ er6, R.mono (by decide), sm0, by omega, by omega, bt.mono (by decide), bs, by decide, by decide, fun lo hi G7 u7 A7 => ?_⟩
            rw [hM] at A7
            have elo : e = lo := nth_unique (hn1 hj) A7.at_
            refine ⟨_, u7 _ _ eL3, small1000 (by rw [List.length_map]; omega), ?_, vals ++ [ch (t + g - t).toNat p (p * t + c) q lo hi], hi + 1, by rw [List.length_append, hv]; rfl, ?_, ?_, ?_, ?_⟩
            · intro b' ob' eb
              rw [upd_ne (ne_of_none eb nL3)]
              exact u7 _ _ (s6 _ _ eb)
            · rw [upd_same, List.map_append]
              rfl
            · intro hlt
              exact A7.nx (by omega)
            · intro he
              exact A7.en (by omega)
            · rw [List.sum_append, hsum, List.sum_cons, List.sum_nil, show t + g - t = g by omega, ch_fs, elo]
              omega
          rintro G8 ⟨s8, vals, e, hv, eL3, _, hn2, hsum⟩
          rw [rgV_length] at hv hn2
          have ee : e = q := hn2 (by omega)
          rw [ee, fs_down _ _ _ _ (by omega)] at hsum
          refine ⟨L3, _, rfl, SqL.of eL3, ?_⟩
          refine ⟨_, rfl, _, rfl, _, _, rfl, rfl, rfl, _, rfl, iteNS (congrArg V.int ?_) ?_⟩
          · rw [hsum]
            omega
          have er8 := s8 _ _ er6
          have hQ8 := hQ6.same s8
          refine ⟨_, rfl, _, rfl, _, rfl, a, _, r, p, q, c, t, rfl, hQ8, by omega, er8, R.mono (by decide), bt.mono (by decide), fun G9 hQ9 g9 => ⟨true, rfl, iteF ?_⟩⟩
          refine ⟨_, rfl, _, rfl, _, rfl, a, _, r, p, q, c, t, rfl, hQ9, by omega, g9.t _ _ er8, R.mono (by decide), bt.mono (by decide), fun G10 hQ10 g10 => ⟨true, rfl, iteF ?_⟩⟩
          exact ⟨_, _, _, _, _, _, _, _, _, _, _, _, _, _, _, rfl, hQ10.mono (by omega)⟩
    · rintro σ H1 _
      exact k _
end
/-! ### what the top has written -/
theorem all_mk {l : PySem.W.OpenLaw} {w : World} {K : PySem.W.Frag} {h : Heap} {mg : Str → Option Value} {fa : Addr} (X : K.In h) (G : h.Ns mainGlobals mg) (hfa : mg "law" = some (.ref fa))
    {f0 f1 f2 f3 f4 f5 f6 f7 f8 f9 f10 f11 f12 f13 f14 f15 f16 f17 f18 f19 f20 f21 f22 f23 f24 f25 f26 f27 f28 f29 f30 f31 f32 f33 f34 f35 f36 f37 f38 f39 : Addr} {od0 an0 od1 an1 od2 an2 od3 an3 od4 an4 od5 an5 od6 an6 od7 an7 od8 an8 od9 an9 od10 an10 od11 an11 od12 an12 od13 an13 od14 an14 od15 an15 od16 an16 od17 an17 od18 an18 od19 an19 od20 an20 od21 an21 od22 an22 od23 an23 od24 an24 od25 an25 od26 an26 od27 an27 od28 an28 od29 an29 od30 an30 od31 an31 od32 an32 od33 an33 od34 an34 od35 an35 od36 an36 od37 an37 od38 an38 od39 an39 : Option Addr} {sl0 sl1 sl2 sl3 sl4 sl5 sl6 sl7 sl8 sl9 sl10 sl11 sl12 sl13 sl14 sl15 sl16 sl17 sl18 sl19 sl20 sl21 sl22 sl23 sl24 sl25 sl26 sl27 sl28 sl29 sl30 sl31 sl32 sl33 sl34 sl35 sl36 sl37 sl38 sl39 : Array (Option Value)} {oc0 kV0 dc0 pm0 cd0 ct0 oc1 kV1 dc1 pm1 cd1 ct1 oc2 kV2 dc2 pm2 cd2 ct2 oc3 kV3 dc3 pm3 cd3 ct3 oc4 kV4 dc4 pm4 cd4 ct4 oc5 kV5 dc5 pm5 cd5 ct5 oc6 kV6 dc6 pm6 cd6 ct6 oc7 kV7 dc7 pm7 cd7 ct7 oc8 kV8 dc8 pm8 cd8 ct8 oc9 kV9 dc9 pm9 cd9 ct9 oc10 kV10 dc10 pm10 cd10 ct10 oc11 kV11 dc11 pm11 cd11 ct11 oc12 kV12 dc12 pm12 cd12 ct12 oc13 kV13 dc13 pm13 cd13 ct13 oc14 kV14 dc14 pm14 cd14 ct14 oc15 kV15 dc15 pm15 cd15 ct15 oc16 kV16 dc16 pm16 cd16 ct16 oc17 kV17 dc17 pm17 cd17 ct17 oc18 kV18 dc18 pm18 cd18 ct18 oc19 kV19 dc19 pm19 cd19 ct19 oc20 kV20 dc20 pm20 cd20 ct20 oc21 kV21 dc21 pm21 cd21 ct21 oc22 kV22 dc22 pm22 cd22 ct22 oc23 kV23 dc23 pm23 cd23 ct23 oc24 kV24 dc24 pm24 cd24 ct24 oc25 kV25 dc25 pm25 cd25 ct25 oc26 kV26 dc26 pm26 cd26 ct26 oc27 kV27 dc27 pm27 cd27 ct27 oc28 kV28 dc28 pm28 cd28 ct28 oc29 kV29 dc29 pm29 cd29 ct29 oc30 kV30 dc30 pm30 cd30 ct30 oc31 kV31 dc31 pm31 cd31 ct31 oc32 kV32 dc32 pm32 cd32 ct32 oc33 kV33 dc33 pm33 cd33 ct33 oc34 kV34 dc34 pm34 cd34 ct34 oc35 kV35 dc35 pm35 cd35 ct35 oc36 kV36 dc36 pm36 cd36 ct36 oc37 kV37 dc37 pm37 cd37 ct37 oc38 kV38 dc38 pm38 cd38 ct38 oc39 kV39 dc39 pm39 cd39 ct39 : Value}
    (a0 : PySem.W.nsIn K mainGlobals "_law_pen" = some (some (.ref f0))) (l0 : K.lookup f0 = some ⟨oc0, od0, .func (PySem.W.fnOf "_law_pen" "_law_pen" (defArgs s_l_pen) (defBody s_l_pen) (defScope s_l_pen) .none kV0 dc0 pm0 an0 cd0 ct0), sl0⟩) (c0 : PySem.W.codeIn K cd0 "_law_pen" = true) (k0 : PySem.W.keepIn K (.ref f0) = true)
    (a1 : PySem.W.nsIn K mainGlobals "_law_draw" = some (some (.ref f1))) (l1 : K.lookup f1 = some ⟨oc1, od1, .func (PySem.W.fnOf "_law_draw" "_law_draw" (defArgs s_l_draw) (defBody s_l_draw) (defScope s_l_draw) .none kV1 dc1 pm1 an1 cd1 ct1), sl1⟩) (c1 : PySem.W.codeIn K cd1 "_law_draw" = true) (k1 : PySem.W.keepIn K (.ref f1) = true)
    (a2 : PySem.W.nsIn K mainGlobals "_law_pick" = some (some (.ref f2))) (l2 : K.lookup f2 = some ⟨oc2, od2, .func (PySem.W.fnOf "_law_pick" "_law_pick" (defArgs s_l_pick) (defBody s_l_pick) (defScope s_l_pick) .none kV2 dc2 pm2 an2 cd2 ct2), sl2⟩) (c2 : PySem.W.codeIn K cd2 "_law_pick" = true) (k2 : PySem.W.keepIn K (.ref f2) = true)
    (a3 : PySem.W.nsIn K mainGlobals "_law_great" = some (some (.ref f3))) (l3 : K.lookup f3 = some ⟨oc3, od3, .func (PySem.W.fnOf "_law_great" "_law_great" (defArgs s_l_great) (defBody s_l_great) (defScope s_l_great) .none kV3 dc3 pm3 an3 cd3 ct3), sl3⟩) (c3 : PySem.W.codeIn K cd3 "_law_great" = true) (k3 : PySem.W.keepIn K (.ref f3) = true)
    (a4 : PySem.W.nsIn K mainGlobals "_law_signed" = some (some (.ref f4))) (l4 : K.lookup f4 = some ⟨oc4, od4, .func (PySem.W.fnOf "_law_signed" "_law_signed" (defArgs s_l_signed) (defBody s_l_signed) (defScope s_l_signed) .none kV4 dc4 pm4 an4 cd4 ct4), sl4⟩) (c4 : PySem.W.codeIn K cd4 "_law_signed" = true) (k4 : PySem.W.keepIn K (.ref f4) = true)
    (a5 : PySem.W.nsIn K mainGlobals "_law_gcd" = some (some (.ref f5))) (l5 : K.lookup f5 = some ⟨oc5, od5, .func (PySem.W.fnOf "_law_gcd" "_law_gcd" (defArgs s_l_gcd) (defBody s_l_gcd) (defScope s_l_gcd) .none kV5 dc5 pm5 an5 cd5 ct5), sl5⟩) (c5 : PySem.W.codeIn K cd5 "_law_gcd" = true) (k5 : PySem.W.keepIn K (.ref f5) = true)
    (a6 : PySem.W.nsIn K mainGlobals "_law_lowest" = some (some (.ref f6))) (l6 : K.lookup f6 = some ⟨oc6, od6, .func (PySem.W.fnOf "_law_lowest" "_law_lowest" (defArgs s_l_lowest) (defBody s_l_lowest) (defScope s_l_lowest) .none kV6 dc6 pm6 an6 cd6 ct6), sl6⟩) (c6 : PySem.W.codeIn K cd6 "_law_lowest" = true) (k6 : PySem.W.keepIn K (.ref f6) = true)
    (a7 : PySem.W.nsIn K mainGlobals "_law_rule" = some (some (.ref f7))) (l7 : K.lookup f7 = some ⟨oc7, od7, .func (PySem.W.fnOf "_law_rule" "_law_rule" (defArgs s_l_rule) (defBody s_l_rule) (defScope s_l_rule) .none kV7 dc7 pm7 an7 cd7 ct7), sl7⟩) (c7 : PySem.W.codeIn K cd7 "_law_rule" = true) (k7 : PySem.W.keepIn K (.ref f7) = true)
    (a8 : PySem.W.nsIn K mainGlobals "_law_far_rule" = some (some (.ref f8))) (l8 : K.lookup f8 = some ⟨oc8, od8, .func (PySem.W.fnOf "_law_far_rule" "_law_far_rule" (defArgs s_l_far_rule) (defBody s_l_far_rule) (defScope s_l_far_rule) .none kV8 dc8 pm8 an8 cd8 ct8), sl8⟩) (c8 : PySem.W.codeIn K cd8 "_law_far_rule" = true) (k8 : PySem.W.keepIn K (.ref f8) = true)
    (a9 : PySem.W.nsIn K mainGlobals "is_integer" = some (some (.ref f9))) (l9 : K.lookup f9 = some ⟨oc9, od9, .func (PySem.W.fnOf "is_integer" "is_integer" (defArgs s_is_integer) (defBody s_is_integer) (defScope s_is_integer) .none kV9 dc9 pm9 an9 cd9 ct9), sl9⟩) (c9 : PySem.W.codeIn K cd9 "is_integer" = true) (k9 : PySem.W.keepIn K (.ref f9) = true)
    (a10 : PySem.W.nsIn K mainGlobals "check_integer" = some (some (.ref f10))) (l10 : K.lookup f10 = some ⟨oc10, od10, .func (PySem.W.fnOf "check_integer" "check_integer" (defArgs s_check_integer) (defBody s_check_integer) (defScope s_check_integer) .none kV10 dc10 pm10 an10 cd10 ct10), sl10⟩) (c10 : PySem.W.codeIn K cd10 "check_integer" = true) (k10 : PySem.W.keepIn K (.ref f10) = true)
    (a11 : PySem.W.nsIn K mainGlobals "check_at_least" = some (some (.ref f11))) (l11 : K.lookup f11 = some ⟨oc11, od11, .func (PySem.W.fnOf "check_at_least" "check_at_least" (defArgs s_check_at_least) (defBody s_check_at_least) (defScope s_check_at_least) .none kV11 dc11 pm11 an11 cd11 ct11), sl11⟩) (c11 : PySem.W.codeIn K cd11 "check_at_least" = true) (k11 : PySem.W.keepIn K (.ref f11) = true)
    (a12 : PySem.W.nsIn K mainGlobals "check_range" = some (some (.ref f12))) (l12 : K.lookup f12 = some ⟨oc12, od12, .func (PySem.W.fnOf "check_range" "check_range" (defArgs s_check_range) (defBody s_check_range) (defScope s_check_range) .none kV12 dc12 pm12 an12 cd12 ct12), sl12⟩) (c12 : PySem.W.codeIn K cd12 "check_range" = true) (k12 : PySem.W.keepIn K (.ref f12) = true)
    (a13 : PySem.W.nsIn K mainGlobals "gcd" = some (some (.ref f13))) (l13 : K.lookup f13 = some ⟨oc13, od13, .func (PySem.W.fnOf "gcd" "gcd" (defArgs s_gcd) (defBody s_gcd) (defScope s_gcd) .none kV13 dc13 pm13 an13 cd13 ct13), sl13⟩) (c13 : PySem.W.codeIn K cd13 "gcd" = true) (k13 : PySem.W.keepIn K (.ref f13) = true)
    (a14 : PySem.W.nsIn K mainGlobals "is_rule" = some (some (.ref f14))) (l14 : K.lookup f14 = some ⟨oc14, od14, .func (PySem.W.fnOf "is_rule" "is_rule" (defArgs s_is_rule) (defBody s_is_rule) (defScope s_is_rule) .none kV14 dc14 pm14 an14 cd14 ct14), sl14⟩) (c14 : PySem.W.codeIn K cd14 "is_rule" = true) (k14 : PySem.W.keepIn K (.ref f14) = true)
    (a15 : PySem.W.nsIn K mainGlobals "check_rule" = some (some (.ref f15))) (l15 : K.lookup f15 = some ⟨oc15, od15, .func (PySem.W.fnOf "check_rule" "check_rule" (defArgs s_check_rule) (defBody s_check_rule) (defScope s_check_rule) .none kV15 dc15 pm15 an15 cd15 ct15), sl15⟩) (c15 : PySem.W.codeIn K cd15 "check_rule" = true) (k15 : PySem.W.keepIn K (.ref f15) = true)
    (a16 : PySem.W.nsIn K mainGlobals "floor_sum" = some (some (.ref f16))) (l16 : K.lookup f16 = some ⟨oc16, od16, .func (PySem.W.fnOf "floor_sum" "floor_sum" (defArgs s_floor_sum) (defBody s_floor_sum) (defScope s_floor_sum) .none kV16 dc16 pm16 an16 cd16 ct16), sl16⟩) (c16 : PySem.W.codeIn K cd16 "floor_sum" = true) (k16 : PySem.W.keepIn K (.ref f16) = true)
    (a17 : PySem.W.nsIn K mainGlobals "divide_up" = some (some (.ref f17))) (l17 : K.lookup f17 = some ⟨oc17, od17, .func (PySem.W.fnOf "divide_up" "divide_up" (defArgs s_divide_up) (defBody s_divide_up) (defScope s_divide_up) .none kV17 dc17 pm17 an17 cd17 ct17), sl17⟩) (c17 : PySem.W.codeIn K cd17 "divide_up" = true) (k17 : PySem.W.keepIn K (.ref f17) = true)
    (a18 : PySem.W.nsIn K mainGlobals "first_exit" = some (some (.ref f18))) (l18 : K.lookup f18 = some ⟨oc18, od18, .func (PySem.W.fnOf "first_exit" "first_exit" (defArgs s_first_exit) (defBody s_first_exit) (defScope s_first_exit) .none kV18 dc18 pm18 an18 cd18 ct18), sl18⟩) (c18 : PySem.W.codeIn K cd18 "first_exit" = true) (k18 : PySem.W.keepIn K (.ref f18) = true)
    (a19 : PySem.W.nsIn K mainGlobals "first_inside" = some (some (.ref f19))) (l19 : K.lookup f19 = some ⟨oc19, od19, .func (PySem.W.fnOf "first_inside" "first_inside" (defArgs s_first_inside) (defBody s_first_inside) (defScope s_first_inside) .none kV19 dc19 pm19 an19 cd19 ct19), sl19⟩) (c19 : PySem.W.codeIn K cd19 "first_inside" = true) (k19 : PySem.W.keepIn K (.ref f19) = true)
    (a20 : PySem.W.nsIn K mainGlobals "line_from" = some (some (.ref f20))) (l20 : K.lookup f20 = some ⟨oc20, od20, .func (PySem.W.fnOf "line_from" "line_from" (defArgs s_line_from) (defBody s_line_from) (defScope s_line_from) .none kV20 dc20 pm20 an20 cd20 ct20), sl20⟩) (c20 : PySem.W.codeIn K cd20 "line_from" = true) (k20 : PySem.W.keepIn K (.ref f20) = true)
    (a21 : PySem.W.nsIn K mainGlobals "first_between" = some (some (.ref f21))) (l21 : K.lookup f21 = some ⟨oc21, od21, .func (PySem.W.fnOf "first_between" "first_between" (defArgs s_first_between) (defBody s_first_between) (defScope s_first_between) .none kV21 dc21 pm21 an21 cd21 ct21), sl21⟩) (c21 : PySem.W.codeIn K cd21 "first_between" = true) (k21 : PySem.W.keepIn K (.ref f21) = true)
    (a22 : PySem.W.nsIn K mainGlobals "first_hit" = some (some (.ref f22))) (l22 : K.lookup f22 = some ⟨oc22, od22, .func (PySem.W.fnOf "first_hit" "first_hit" (defArgs s_first_hit) (defBody s_first_hit) (defScope s_first_hit) .none kV22 dc22 pm22 an22 cd22 ct22), sl22⟩) (c22 : PySem.W.codeIn K cd22 "first_hit" = true) (k22 : PySem.W.keepIn K (.ref f22) = true)
    (a23 : PySem.W.nsIn K mainGlobals "count_hits" = some (some (.ref f23))) (l23 : K.lookup f23 = some ⟨oc23, od23, .func (PySem.W.fnOf "count_hits" "count_hits" (defArgs s_count_hits) (defBody s_count_hits) (defScope s_count_hits) .none kV23 dc23 pm23 an23 cd23 ct23), sl23⟩) (c23 : PySem.W.codeIn K cd23 "count_hits" = true) (k23 : PySem.W.keepIn K (.ref f23) = true)
    (a24 : PySem.W.nsIn K mainGlobals "check_between" = some (some (.ref f24))) (l24 : K.lookup f24 = some ⟨oc24, od24, .func (PySem.W.fnOf "check_between" "check_between" (defArgs s_check_between) (defBody s_check_between) (defScope s_check_between) .none kV24 dc24 pm24 an24 cd24 ct24), sl24⟩) (c24 : PySem.W.codeIn K cd24 "check_between" = true) (k24 : PySem.W.keepIn K (.ref f24) = true)
    (a25 : PySem.W.nsIn K mainGlobals "_law_tally" = some (some (.ref f25))) (l25 : K.lookup f25 = some ⟨oc25, od25, .func (PySem.W.fnOf "_law_tally" "_law_tally" (defArgs s_l_tally) (defBody s_l_tally) (defScope s_l_tally) .none kV25 dc25 pm25 an25 cd25 ct25), sl25⟩) (c25 : PySem.W.codeIn K cd25 "_law_tally" = true) (k25 : PySem.W.keepIn K (.ref f25) = true)
    (a26 : PySem.W.nsIn K mainGlobals "_law_is_int" = some (some (.ref f26))) (l26 : K.lookup f26 = some ⟨oc26, od26, .func (PySem.W.fnOf "_law_is_int" "_law_is_int" (defArgs s_l_is_int) (defBody s_l_is_int) (defScope s_l_is_int) .none kV26 dc26 pm26 an26 cd26 ct26), sl26⟩) (c26 : PySem.W.codeIn K cd26 "_law_is_int" = true) (k26 : PySem.W.keepIn K (.ref f26) = true)
    (a27 : PySem.W.nsIn K mainGlobals "find_block" = some (some (.ref f27))) (l27 : K.lookup f27 = some ⟨oc27, od27, .func (PySem.W.fnOf "find_block" "find_block" (defArgs s_find_block) (defBody s_find_block) (defScope s_find_block) .none kV27 dc27 pm27 an27 cd27 ct27), sl27⟩) (c27 : PySem.W.codeIn K cd27 "find_block" = true) (k27 : PySem.W.keepIn K (.ref f27) = true)
    (a28 : PySem.W.nsIn K mainGlobals "nth_point" = some (some (.ref f28))) (l28 : K.lookup f28 = some ⟨oc28, od28, .func (PySem.W.fnOf "nth_point" "nth_point" (defArgs s_nth_point) (defBody s_nth_point) (defScope s_nth_point) .none kV28 dc28 pm28 an28 cd28 ct28), sl28⟩) (c28 : PySem.W.codeIn K cd28 "nth_point" = true) (k28 : PySem.W.keepIn K (.ref f28) = true)
    (a29 : PySem.W.nsIn K mainGlobals "pattern_total" = some (some (.ref f29))) (l29 : K.lookup f29 = some ⟨oc29, od29, .func (PySem.W.fnOf "pattern_total" "pattern_total" (defArgs s_pattern_total) (defBody s_pattern_total) (defScope s_pattern_total) .none kV29 dc29 pm29 an29 cd29 ct29), sl29⟩) (c29 : PySem.W.codeIn K cd29 "pattern_total" = true) (k29 : PySem.W.keepIn K (.ref f29) = true)
    (a30 : PySem.W.nsIn K mainGlobals "pattern_rank" = some (some (.ref f30))) (l30 : K.lookup f30 = some ⟨oc30, od30, .func (PySem.W.fnOf "pattern_rank" "pattern_rank" (defArgs s_pattern_rank) (defBody s_pattern_rank) (defScope s_pattern_rank) .none kV30 dc30 pm30 an30 cd30 ct30), sl30⟩) (c30 : PySem.W.codeIn K cd30 "pattern_rank" = true) (k30 : PySem.W.keepIn K (.ref f30) = true)
    (a31 : PySem.W.nsIn K mainGlobals "pattern_arc" = some (some (.ref f31))) (l31 : K.lookup f31 = some ⟨oc31, od31, .func (PySem.W.fnOf "pattern_arc" "pattern_arc" (defArgs s_pattern_arc) (defBody s_pattern_arc) (defScope s_pattern_arc) .none kV31 dc31 pm31 an31 cd31 ct31), sl31⟩) (c31 : PySem.W.codeIn K cd31 "pattern_arc" = true) (k31 : PySem.W.keepIn K (.ref f31) = true)
    (a32 : PySem.W.nsIn K mainGlobals "pattern_count" = some (some (.ref f32))) (l32 : K.lookup f32 = some ⟨oc32, od32, .func (PySem.W.fnOf "pattern_count" "pattern_count" (defArgs s_pattern_count) (defBody s_pattern_count) (defScope s_pattern_count) .none kV32 dc32 pm32 an32 cd32 ct32), sl32⟩) (c32 : PySem.W.codeIn K cd32 "pattern_count" = true) (k32 : PySem.W.keepIn K (.ref f32) = true)
    (a33 : PySem.W.nsIn K mainGlobals "next_pattern" = some (some (.ref f33))) (l33 : K.lookup f33 = some ⟨oc33, od33, .func (PySem.W.fnOf "next_pattern" "next_pattern" (defArgs s_next_pattern) (defBody s_next_pattern) (defScope s_next_pattern) .none kV33 dc33 pm33 an33 cd33 ct33), sl33⟩) (c33 : PySem.W.codeIn K cd33 "next_pattern" = true) (k33 : PySem.W.keepIn K (.ref f33) = true)
    (a34 : PySem.W.nsIn K mainGlobals "pattern_distances" = some (some (.ref f34))) (l34 : K.lookup f34 = some ⟨oc34, od34, .func (PySem.W.fnOf "pattern_distances" "pattern_distances" (defArgs s_pattern_distances) (defBody s_pattern_distances) (defScope s_pattern_distances) .none kV34 dc34 pm34 an34 cd34 ct34), sl34⟩) (c34 : PySem.W.codeIn K cd34 "pattern_distances" = true) (k34 : PySem.W.keepIn K (.ref f34) = true)
    (a35 : PySem.W.nsIn K mainGlobals "_law_pattern" = some (some (.ref f35))) (l35 : K.lookup f35 = some ⟨oc35, od35, .func (PySem.W.fnOf "_law_pattern" "_law_pattern" (defArgs s_l_pattern) (defBody s_l_pattern) (defScope s_l_pattern) .none kV35 dc35 pm35 an35 cd35 ct35), sl35⟩) (c35 : PySem.W.codeIn K cd35 "_law_pattern" = true) (k35 : PySem.W.keepIn K (.ref f35) = true)
    (a36 : PySem.W.nsIn K mainGlobals "_law_next_right" = some (some (.ref f36))) (l36 : K.lookup f36 = some ⟨oc36, od36, .func (PySem.W.fnOf "_law_next_right" "_law_next_right" (defArgs s_l_next_right) (defBody s_l_next_right) (defScope s_l_next_right) .none kV36 dc36 pm36 an36 cd36 ct36), sl36⟩) (c36 : PySem.W.codeIn K cd36 "_law_next_right" = true) (k36 : PySem.W.keepIn K (.ref f36) = true)
    (a37 : PySem.W.nsIn K mainGlobals "_law_all_different" = some (some (.ref f37))) (l37 : K.lookup f37 = some ⟨oc37, od37, .func (PySem.W.fnOf "_law_all_different" "_law_all_different" (defArgs s_l_all_different) (defBody s_l_all_different) (defScope s_l_all_different) .none kV37 dc37 pm37 an37 cd37 ct37), sl37⟩) (c37 : PySem.W.codeIn K cd37 "_law_all_different" = true) (k37 : PySem.W.keepIn K (.ref f37) = true)
    (a38 : PySem.W.nsIn K mainGlobals "_law_wide_right" = some (some (.ref f38))) (l38 : K.lookup f38 = some ⟨oc38, od38, .func (PySem.W.fnOf "_law_wide_right" "_law_wide_right" (defArgs s_l_wide_right) (defBody s_l_wide_right) (defScope s_l_wide_right) .none kV38 dc38 pm38 an38 cd38 ct38), sl38⟩) (c38 : PySem.W.codeIn K cd38 "_law_wide_right" = true) (k38 : PySem.W.keepIn K (.ref f38) = true)
    (a39 : PySem.W.nsIn K mainGlobals "law" = some (some (.ref f39))) (l39 : K.lookup f39 = some ⟨oc39, od39, .func (PySem.W.fnOf "law" "law" (defArgs s_law) (defBody s_law) (defScope s_law) .none kV39 dc39 pm39 an39 cd39 ct39), sl39⟩) (c39 : PySem.W.codeIn K cd39 "law" = true) (k39 : PySem.W.keepIn K (.ref f39) = true)
    (z0 : PySem.W.nsIn K mainGlobals "len" = some none) (z1 : PySem.W.nsIn K mainGlobals "abs" = some none) (z2 : PySem.W.nsIn K mainGlobals "list" = some none) (z3 : PySem.W.nsIn K mainGlobals "range" = some none) (z4 : PySem.W.nsIn K mainGlobals "sum" = some none) (z5 : PySem.W.nsIn K mainGlobals "repr" = some none) (z6 : PySem.W.nsIn K mainGlobals "max" = some none) (z7 : PySem.W.nsIn K mainGlobals "min" = some none) (z8 : PySem.W.nsIn K mainGlobals "reversed" = some none) (z9 : PySem.W.nsIn K mainGlobals "divmod" = some none) (z10 : PySem.W.nsIn K mainGlobals "isinstance" = some none) (z11 : PySem.W.nsIn K mainGlobals "all" = some none) (z12 : PySem.W.nsIn K mainGlobals "int" = some none) (z13 : PySem.W.nsIn K mainGlobals "bool" = some none) (z14 : PySem.W.nsIn K mainGlobals "tuple" = some none) (z15 : PySem.W.nsIn K mainGlobals "sorted" = some none) (z16 : PySem.W.nsIn K mainGlobals "zip" = some none) (z17 : PySem.W.nsIn K mainGlobals "enumerate" = some none) (z18 : PySem.W.nsIn K mainGlobals "set" = some none) (z19 : PySem.W.nsIn K mainGlobals "str" = some none) :
    ∃ fd : FuncData, (∀ (s : Shared) (v : Value), BindsTo s fd ⟨[v], []⟩ [("_law_script", v)]) ∧ ∀ base : Heap, K.In base → base.Ns mainGlobals mg → FnOk l.prog w K mg base CX0 8 fa fd ["_law_script"] (spLaw K) := by
  have e := hfa.symm.trans (PySem.W.mg_of X G a39)
  cases e
  have B : Bi mg := ⟨PySem.W.mg_none_of X G z0, PySem.W.mg_none_of X G z1, PySem.W.mg_none_of X G z2, PySem.W.mg_none_of X G z3, PySem.W.mg_none_of X G z4, PySem.W.mg_none_of X G z5, PySem.W.mg_none_of X G z6, PySem.W.mg_none_of X G z7, PySem.W.mg_none_of X G z8, PySem.W.mg_none_of X G z9, PySem.W.mg_none_of X G z10, PySem.W.mg_none_of X G z11, PySem.W.mg_none_of X G z12, PySem.W.mg_none_of X G z13, PySem.W.mg_none_of X G z14, PySem.W.mg_none_of X G z15, PySem.W.mg_none_of X G z16, PySem.W.mg_none_of X G z17, PySem.W.mg_none_of X G z18, PySem.W.mg_none_of X G z19⟩
  have F0 := fun_mk (st := s_l_pen) l0 c0 k0
  have D_l_pen : Df K mg "_law_pen" s_l_pen P_l_pen := ⟨f0, _, F0, PySem.W.mg_of X G a0, F0.binds fun _ _ _ _ _ _ us hl => match us, hl with | [_], _ => rfl⟩
  have F1 := fun_mk (st := s_l_draw) l1 c1 k1
  have D_l_draw : Df K mg "_law_draw" s_l_draw P_l_draw := ⟨f1, _, F1, PySem.W.mg_of X G a1, F1.binds fun _ _ _ _ _ _ us hl => match us, hl with | [_, _], _ => rfl⟩
  have F2 := fun_mk (st := s_l_pick) l2 c2 k2
  have D_l_pick : Df K mg "_law_pick" s_l_pick P_l_pick := ⟨f2, _, F2, PySem.W.mg_of X G a2, F2.binds fun _ _ _ _ _ _ us hl => match us, hl with | [_, _], _ => rfl⟩
  have F3 := fun_mk (st := s_l_great) l3 c3 k3
  have D_l_great : Df K mg "_law_great" s_l_great P_l_great := ⟨f3, _, F3, PySem.W.mg_of X G a3, F3.binds fun _ _ _ _ _ _ us hl => match us, hl with | [_, _], _ => rfl⟩
  have F4 := fun_mk (st := s_l_signed) l4 c4 k4
  have D_l_signed : Df K mg "_law_signed" s_l_signed P_l_signed := ⟨f4, _, F4, PySem.W.mg_of X G a4, F4.binds fun _ _ _ _ _ _ us hl => match us, hl with | [_, _], _ => rfl⟩
  have F5 := fun_mk (st := s_l_gcd) l5 c5 k5
  have D_l_gcd : Df K mg "_law_gcd" s_l_gcd P_l_gcd := ⟨f5, _, F5, PySem.W.mg_of X G a5, F5.binds fun _ _ _ _ _ _ us hl => match us, hl with | [_, _], _ => rfl⟩
  have F6 := fun_mk (st := s_l_lowest) l6 c6 k6
  have D_l_lowest : Df K mg "_law_lowest" s_l_lowest P_l_lowest := ⟨f6, _, F6, PySem.W.mg_of X G a6, F6.binds fun _ _ _ _ _ _ us hl => match us, hl with | [_, _, _], _ => rfl⟩
  have F7 := fun_mk (st := s_l_rule) l7 c7 k7
  have D_l_rule : Df K mg "_law_rule" s_l_rule P_l_rule := ⟨f7, _, F7, PySem.W.mg_of X G a7, F7.binds fun _ _ _ _ _ _ us hl => match us, hl with | [_, _], _ => rfl⟩
  have F8 := fun_mk (st := s_l_far_rule) l8 c8 k8
  have D_l_far_rule : Df K mg "_law_far_rule" s_l_far_rule P_l_far_rule := ⟨f8, _, F8, PySem.W.mg_of X G a8, F8.binds fun _ _ _ _ _ _ us hl => match us, hl with | [_, _], _ => rfl⟩
  have F9 := fun_mk (st := s_is_integer) l9 c9 k9
  have D_is_integer : Df K mg "is_integer" s_is_integer P_is_integer := ⟨f9, _, F9, PySem.W.mg_of X G a9, F9.binds fun _ _ _ _ _ _ us hl => match us, hl with | [_], _ => rfl⟩
  have F10 := fun_mk (st := s_check_integer) l10 c10 k10
  have D_check_integer : Df K mg "check_integer" s_check_integer P_check_integer := ⟨f10, _, F10, PySem.W.mg_of X G a10, F10.binds fun _ _ _ _ _ _ us hl => match us, hl with | [_], _ => rfl⟩
  have F11 := fun_mk (st := s_check_at_least) l11 c11 k11
  have D_check_at_least : Df K mg "check_at_least" s_check_at_least P_check_at_least := ⟨f11, _, F11, PySem.W.mg_of X G a11, F11.binds fun _ _ _ _ _ _ us hl => match us, hl with | [_, _], _ => rfl⟩
  have F12 := fun_mk (st := s_check_range) l12 c12 k12
  have D_check_range : Df K mg "check_range" s_check_range P_check_range := ⟨f12, _, F12, PySem.W.mg_of X G a12, F12.binds fun _ _ _ _ _ _ us hl => match us, hl with | [_, _], _ => rfl⟩
  have F13 := fun_mk (st := s_gcd) l13 c13 k13
  have D_gcd : Df K mg "gcd" s_gcd P_gcd := ⟨f13, _, F13, PySem.W.mg_of X G a13, F13.binds fun _ _ _ _ _ _ us hl => match us, hl with | [_, _], _ => rfl⟩
  have F14 := fun_mk (st := s_is_rule) l14 c14 k14
  have D_is_rule : Df K mg "is_rule" s_is_rule P_is_rule := ⟨f14, _, F14, PySem.W.mg_of X G a14, F14.binds fun _ _ _ _ _ _ us hl => match us, hl with | [_], _ => rfl⟩
  have F15 := fun_mk (st := s_check_rule) l15 c15 k15
  have D_check_rule : Df K mg "check_rule" s_check_rule P_check_rule := ⟨f15, _, F15, PySem.W.mg_of X G a15, F15.binds fun _ _ _ _ _ _ us hl => match us, hl with | [_], _ => rfl⟩
  have F16 := fun_mk (st := s_floor_sum) l16 c16 k16
  have D_floor_sum : Df K mg "floor_sum" s_floor_sum P_floor_sum := ⟨f16, _, F16, PySem.W.mg_of X G a16, F16.binds fun _ _ _ _ _ _ us hl => match us, hl with | [_, _, _, _], _ => rfl⟩
  have F17 := fun_mk (st := s_divide_up) l17 c17 k17
  have D_divide_up : Df K mg "divide_up" s_divide_up P_divide_up := ⟨f17, _, F17, PySem.W.mg_of X G a17, F17.binds fun _ _ _ _ _ _ us hl => match us, hl with | [_, _], _ => rfl⟩
  have F18 := fun_mk (st := s_first_exit) l18 c18 k18
  have D_first_exit : Df K mg "first_exit" s_first_exit P_first_exit := ⟨f18, _, F18, PySem.W.mg_of X G a18, F18.binds fun _ _ _ _ _ _ us hl => match us, hl with | [_, _], _ => rfl⟩
  have F19 := fun_mk (st := s_first_inside) l19 c19 k19
  have D_first_inside : Df K mg "first_inside" s_first_inside P_first_inside := ⟨f19, _, F19, PySem.W.mg_of X G a19, F19.binds fun _ _ _ _ _ _ us hl => match us, hl with | [_, _], _ => rfl⟩
  have F20 := fun_mk (st := s_line_from) l20 c20 k20
  have D_line_from : Df K mg "line_from" s_line_from P_line_from := ⟨f20, _, F20, PySem.W.mg_of X G a20, F20.binds fun _ _ _ _ _ _ us hl => match us, hl with | [_, _], _ => rfl⟩
  have F21 := fun_mk (st := s_first_between) l21 c21 k21
  have D_first_between : Df K mg "first_between" s_first_between P_first_between := ⟨f21, _, F21, PySem.W.mg_of X G a21, F21.binds fun _ _ _ _ _ _ us hl => match us, hl with | [_, _], _ => rfl⟩
  have F22 := fun_mk (st := s_first_hit) l22 c22 k22
  have D_first_hit : Df K mg "first_hit" s_first_hit P_first_hit := ⟨f22, _, F22, PySem.W.mg_of X G a22, F22.binds fun _ _ _ _ _ _ us hl => match us, hl with | [_, _, _, _], _ => rfl⟩
  have F23 := fun_mk (st := s_count_hits) l23 c23 k23
  have D_count_hits : Df K mg "count_hits" s_count_hits P_count_hits := ⟨f23, _, F23, PySem.W.mg_of X G a23, F23.binds fun _ _ _ _ _ _ us hl => match us, hl with | [_, _, _, _, _], _ => rfl⟩
  have F24 := fun_mk (st := s_check_between) l24 c24 k24
  have D_check_between : Df K mg "check_between" s_check_between P_check_between := ⟨f24, _, F24, PySem.W.mg_of X G a24, F24.binds fun _ _ _ _ _ _ us hl => match us, hl with | [_, _, _], _ => rfl⟩
  have F25 := fun_mk (st := s_l_tally) l25 c25 k25
  have D_l_tally : Df K mg "_law_tally" s_l_tally P_l_tally := ⟨f25, _, F25, PySem.W.mg_of X G a25, F25.binds fun _ _ _ _ _ _ us hl => match us, hl with | [_, _], _ => rfl⟩
  have F26 := fun_mk (st := s_l_is_int) l26 c26 k26
  have D_l_is_int : Df K mg "_law_is_int" s_l_is_int P_l_is_int := ⟨f26, _, F26, PySem.W.mg_of X G a26, F26.binds fun _ _ _ _ _ _ us hl => match us, hl with | [_], _ => rfl⟩
  have F27 := fun_mk (st := s_find_block) l27 c27 k27
  have D_find_block : Df K mg "find_block" s_find_block P_find_block := ⟨f27, _, F27, PySem.W.mg_of X G a27, F27.binds fun _ _ _ _ _ _ us hl => match us, hl with | [_, _, _], _ => rfl⟩
  have F28 := fun_mk (st := s_nth_point) l28 c28 k28
  have D_nth_point : Df K mg "nth_point" s_nth_point P_nth_point := ⟨f28, _, F28, PySem.W.mg_of X G a28, F28.binds fun _ _ _ _ _ _ us hl => match us, hl with | [_, _, _, _], _ => rfl⟩
  have F29 := fun_mk (st := s_pattern_total) l29 c29 k29
  have D_pattern_total : Df K mg "pattern_total" s_pattern_total P_pattern_total := ⟨f29, _, F29, PySem.W.mg_of X G a29, F29.binds fun _ _ _ _ _ _ us hl => match us, hl with | [_, _], _ => rfl⟩
  have F30 := fun_mk (st := s_pattern_rank) l30 c30 k30
  have D_pattern_rank : Df K mg "pattern_rank" s_pattern_rank P_pattern_rank := ⟨f30, _, F30, PySem.W.mg_of X G a30, F30.binds fun _ _ _ _ _ _ us hl => match us, hl with | [_, _, _], _ => rfl⟩
  have F31 := fun_mk (st := s_pattern_arc) l31 c31 k31
  have D_pattern_arc : Df K mg "pattern_arc" s_pattern_arc P_pattern_arc := ⟨f31, _, F31, PySem.W.mg_of X G a31, F31.binds fun _ _ _ _ _ _ us hl => match us, hl with | [_, _, _], _ => rfl⟩
  have F32 := fun_mk (st := s_pattern_count) l32 c32 k32
  have D_pattern_count : Df K mg "pattern_count" s_pattern_count P_pattern_count := ⟨f32, _, F32, PySem.W.mg_of X G a32, F32.binds fun _ _ _ _ _ _ us hl => match us, hl with | [_, _, _, _, _], _ => rfl⟩
  have F33 := fun_mk (st := s_next_pattern) l33 c33 k33
  have D_next_pattern : Df K mg "next_pattern" s_next_pattern P_next_pattern := ⟨f33, _, F33, PySem.W.mg_of X G a33, F33.binds fun _ _ _ _ _ _ us hl => match us, hl with | [_, _, _, _], _ => rfl⟩
  have F34 := fun_mk (st := s_pattern_distances) l34 c34 k34
  have D_pattern_distances : Df K mg "pattern_distances" s_pattern_distances P_pattern_distances := ⟨f34, _, F34, PySem.W.mg_of X G a34, F34.binds fun _ _ _ _ _ _ us hl => match us, hl with | [_, _, _], _ => rfl⟩
  have F35 := fun_mk (st := s_l_pattern) l35 c35 k35
  have D_l_pattern : Df K mg "_law_pattern" s_l_pattern P_l_pattern := ⟨f35, _, F35, PySem.W.mg_of X G a35, F35.binds fun _ _ _ _ _ _ us hl => match us, hl with | [_, _, _], _ => rfl⟩
  have F36 := fun_mk (st := s_l_next_right) l36 c36 k36
  have D_l_next_right : Df K mg "_law_next_right" s_l_next_right P_l_next_right := ⟨f36, _, F36, PySem.W.mg_of X G a36, F36.binds fun _ _ _ _ _ _ us hl => match us, hl with | [_, _, _, _], _ => rfl⟩
  have F37 := fun_mk (st := s_l_all_different) l37 c37 k37
  have D_l_all_different : Df K mg "_law_all_different" s_l_all_different P_l_all_different := ⟨f37, _, F37, PySem.W.mg_of X G a37, F37.binds fun _ _ _ _ _ _ us hl => match us, hl with | [_, _, _], _ => rfl⟩
  have F38 := fun_mk (st := s_l_wide_right) l38 c38 k38
  have D_l_wide_right : Df K mg "_law_wide_right" s_l_wide_right P_l_wide_right := ⟨f38, _, F38, PySem.W.mg_of X G a38, F38.binds fun _ _ _ _ _ _ us hl => match us, hl with | [_, _, _], _ => rfl⟩
  have F39 := fun_mk (st := s_law) l39 c39 k39
  refine ⟨PySem.W.fnOf "law" "law" (defArgs s_law) (defBody s_law) (defScope s_law) .none kV39 dc39 pm39 an39 cd39 ct39, fun s v => .of_eq rfl, fun base _ _ => ?_⟩
  have c_l_pen := ok_l_pen (P := l.prog) (w := w) (base := base) D_l_pen B
  have c_l_draw := ok_l_draw (P := l.prog) (w := w) (base := base) D_l_draw B
  have c_l_pick := ok_l_pick (P := l.prog) (w := w) (base := base) D_l_pick B c_l_draw
  have c_l_great := ok_l_great (P := l.prog) (w := w) (base := base) D_l_great B c_l_draw
  have c_l_signed := ok_l_signed (P := l.prog) (w := w) (base := base) D_l_signed B c_l_draw c_l_pick c_l_great
  have c_l_gcd := ok_l_gcd (P := l.prog) (w := w) (base := base) D_l_gcd
  have c_l_lowest := ok_l_lowest (P := l.prog) (w := w) (base := base) D_l_lowest c_l_gcd
  have c_l_rule := ok_l_rule (P := l.prog) (w := w) (base := base) D_l_rule B c_l_draw c_l_pick c_l_lowest
  have c_l_far_rule := ok_l_far_rule (P := l.prog) (w := w) (base := base) D_l_far_rule B c_l_pick c_l_great c_l_signed c_l_lowest
  have c_is_integer := ok_is_integer (P := l.prog) (w := w) (base := base) D_is_integer B
  have c_check_integer := ok_check_integer (P := l.prog) (w := w) (base := base) D_check_integer c_is_integer
  have c_check_at_least := ok_check_at_least (P := l.prog) (w := w) (base := base) D_check_at_least c_is_integer
  have c_check_range := ok_check_range (P := l.prog) (w := w) (base := base) D_check_range c_check_integer
  have c_gcd := ok_gcd (P := l.prog) (w := w) (base := base) D_gcd
  have c_is_rule := ok_is_rule (P := l.prog) (w := w) (base := base) D_is_rule B c_is_integer c_gcd
  have c_check_rule := ok_check_rule (P := l.prog) (w := w) (base := base) D_check_rule c_is_rule
  have c_floor_sum := ok_floor_sum (P := l.prog) (w := w) (base := base) D_floor_sum B c_check_integer c_check_at_least
  have c_divide_up := ok_divide_up (P := l.prog) (w := w) (base := base) D_divide_up
  have c_first_exit := ok_first_exit (P := l.prog) (w := w) (base := base) D_first_exit B c_divide_up
  have c_first_inside := ok_first_inside (P := l.prog) (w := w) (base := base) D_first_inside B c_divide_up c_first_exit
  have c_line_from := ok_line_from (P := l.prog) (w := w) (base := base) D_line_from
  have c_first_between := ok_first_between (P := l.prog) (w := w) (base := base) D_first_between c_divide_up c_line_from c_first_inside
  have c_first_hit := ok_first_hit (P := l.prog) (w := w) (base := base) D_first_hit c_first_between
  have c_count_hits := ok_count_hits (P := l.prog) (w := w) (base := base) D_count_hits c_floor_sum
  have c_check_between := ok_check_between (P := l.prog) (w := w) (base := base) D_check_between c_is_integer
  have c_l_tally := ok_l_tally (P := l.prog) (w := w) (base := base) D_l_tally
  have c_l_is_int := ok_l_is_int (P := l.prog) (w := w) (base := base) D_l_is_int B
  have c_find_block := ok_find_block (P := l.prog) (w := w) (base := base) D_find_block
  have c_nth_point := ok_nth_point (P := l.prog) (w := w) (base := base) D_nth_point B c_find_block
  have c_pattern_total := ok_pattern_total (P := l.prog) (w := w) (base := base) D_pattern_total B c_check_rule c_check_at_least
  have c_pattern_rank := ok_pattern_rank (P := l.prog) (w := w) (base := base) D_pattern_rank c_pattern_total c_check_integer c_count_hits
  have c_pattern_arc := ok_pattern_arc (P := l.prog) (w := w) (base := base) D_pattern_arc c_pattern_total c_check_between c_nth_point
  have c_pattern_count := ok_pattern_count (P := l.prog) (w := w) (base := base) D_pattern_count B c_pattern_arc c_check_range c_count_hits
  have c_next_pattern := ok_next_pattern (P := l.prog) (w := w) (base := base) D_next_pattern c_pattern_arc c_check_integer c_first_hit
  have c_pattern_distances := ok_pattern_distances (P := l.prog) (w := w) (base := base) D_pattern_distances B c_pattern_arc c_first_hit
  have c_l_pattern := ok_l_pattern (P := l.prog) (w := w) (base := base) D_l_pattern B c_l_tally
  have c_l_next_right := ok_l_next_right (P := l.prog) (w := w) (base := base) D_l_next_right B c_next_pattern c_pattern_rank c_pattern_count
  have c_l_all_different := ok_l_all_different (P := l.prog) (w := w) (base := base) D_l_all_different B c_l_draw c_l_pick c_l_great c_pattern_total c_pattern_rank c_pattern_distances c_next_pattern
  have c_l_wide_right := ok_l_wide_right (P := l.prog) (w := w) (base := base) D_l_wide_right B c_l_great c_l_signed c_pattern_rank c_l_pattern
  exact ok_law F39 B c_l_pen c_l_draw c_l_pick c_l_great c_l_signed c_l_rule c_l_far_rule c_l_is_int c_l_pattern c_pattern_total c_pattern_rank c_pattern_count c_l_next_right c_l_all_different c_l_wide_right
end Lf
open PySem PySem.W PyProof.Rows
set_option maxRecDepth 100000 in
set_option maxHeartbeats 0 in
theorem PySem.Challenge.cw_leapfit_k17_whole_patterns_holds : PySem.Challenge.rw_leapfit_k17_whole_patterns.Holds := by
  w_on; o_law; k_head; (case hw => w_witness2)
  k_fill
  refine L2.walk_of (l := PySem.Challenge.rw_leapfit_k17_whole_patterns) (n := 63) (k := 8) (x := "_law_script") (CX := fun _ => L2.CX0) (sp := fun w => Lf.spLaw _) rfl (by decide) rfl ⟨rfl, by decide, by decide⟩ (fun w h Y => PySem.W.kIn_of Y) ?F (fun _ _ a ns hl _ hS => ⟨a, ns, rfl, hS, hl, fun _ => rfl⟩) (fun _ _ _ _ _ h => h)
  case F =>
    intro w mg fa h KX G hmg
    refine' Lf.all_mk KX G hmg ?a0 ?l0 ?c0 ?k0 ?a1 ?l1 ?c1 ?k1 ?a2 ?l2 ?c2 ?k2 ?a3 ?l3 ?c3 ?k3 ?a4 ?l4 ?c4 ?k4 ?a5 ?l5 ?c5 ?k5 ?a6 ?l6 ?c6 ?k6 ?a7 ?l7 ?c7 ?k7 ?a8 ?l8 ?c8 ?k8 ?a9 ?l9 ?c9 ?k9 ?a10 ?l10 ?c10 ?k10 ?a11 ?l11 ?c11 ?k11 ?a12 ?l12 ?c12 ?k12 ?a13 ?l13 ?c13 ?k13 ?a14 ?l14 ?c14 ?k14 ?a15 ?l15 ?c15 ?k15 ?a16 ?l16 ?c16 ?k16 ?a17 ?l17 ?c17 ?k17 ?a18 ?l18 ?c18 ?k18 ?a19 ?l19 ?c19 ?k19 ?a20 ?l20 ?c20 ?k20 ?a21 ?l21 ?c21 ?k21 ?a22 ?l22 ?c22 ?k22 ?a23 ?l23 ?c23 ?k23 ?a24 ?l24 ?c24 ?k24 ?a25 ?l25 ?c25 ?k25 ?a26 ?l26 ?c26 ?k26 ?a27 ?l27 ?c27 ?k27 ?a28 ?l28 ?c28 ?k28 ?a29 ?l29 ?c29 ?k29 ?a30 ?l30 ?c30 ?k30 ?a31 ?l31 ?c31 ?k31 ?a32 ?l32 ?c32 ?k32 ?a33 ?l33 ?c33 ?k33 ?a34 ?l34 ?c34 ?k34 ?a35 ?l35 ?c35 ?k35 ?a36 ?l36 ?c36 ?k36 ?a37 ?l37 ?c37 ?k37 ?a38 ?l38 ?c38 ?k38 ?a39 ?l39 ?c39 ?k39 ?z0 ?z1 ?z2 ?z3 ?z4 ?z5 ?z6 ?z7 ?z8 ?z9 ?z10 ?z11 ?z12 ?z13 ?z14 ?z15 ?z16 ?z17 ?z18 ?z19
    (case a0 => k_is); (case l0 => k_is); (case c0 => k_is); (case k0 => k_is)
    (case a1 => k_is); (case l1 => k_is); (case c1 => k_is); (case k1 => k_is)
    (case a2 => k_is); (case l2 => k_is); (case c2 => k_is); (case k2 => k_is)
    (case a3 => k_is); (case l3 => k_is); (case c3 => k_is); (case k3 => k_is)
    (case a4 => k_is); (case l4 => k_is); (case c4 => k_is); (case k4 => k_is)
    (case a5 => k_is); (case l5 => k_is); (case c5 => k_is); (case k5 => k_is)
    (case a6 => k_is); (case l6 => k_is); (case c6 => k_is); (case k6 => k_is)
    (case a7 => k_is); (case l7 => k_is); (case c7 => k_is); (case k7 => k_is)
    (case a8 => k_is); (case l8 => k_is); (case c8 => k_is); (case k8 => k_is)
    (case a9 => k_is); (case l9 => k_is); (case c9 => k_is); (case k9 => k_is)
    (case a10 => k_is); (case l10 => k_is); (case c10 => k_is); (case k10 => k_is)
    (case a11 => k_is); (case l11 => k_is); (case c11 => k_is); (case k11 => k_is)
    (case a12 => k_is); (case l12 => k_is); (case c12 => k_is); (case k12 => k_is)
    (case a13 => k_is); (case l13 => k_is); (case c13 => k_is); (case k13 => k_is)
    (case a14 => k_is); (case l14 => k_is); (case c14 => k_is); (case k14 => k_is)
    (case a15 => k_is); (case l15 => k_is); (case c15 => k_is); (case k15 => k_is)
    (case a16 => k_is); (case l16 => k_is); (case c16 => k_is); (case k16 => k_is)
    (case a17 => k_is); (case l17 => k_is); (case c17 => k_is); (case k17 => k_is)
    (case a18 => k_is); (case l18 => k_is); (case c18 => k_is); (case k18 => k_is)
    (case a19 => k_is); (case l19 => k_is); (case c19 => k_is); (case k19 => k_is)
    (case a20 => k_is); (case l20 => k_is); (case c20 => k_is); (case k20 => k_is)
    (case a21 => k_is); (case l21 => k_is); (case c21 => k_is); (case k21 => k_is)
    (case a22 => k_is); (case l22 => k_is); (case c22 => k_is); (case k22 => k_is)
    (case a23 => k_is); (case l23 => k_is); (case c23 => k_is); (case k23 => k_is)
    (case a24 => k_is); (case l24 => k_is); (case c24 => k_is); (case k24 => k_is)
    (case a25 => k_is); (case l25 => k_is); (case c25 => k_is); (case k25 => k_is)
    (case a26 => k_is); (case l26 => k_is); (case c26 => k_is); (case k26 => k_is)
    (case a27 => k_is); (case l27 => k_is); (case c27 => k_is); (case k27 => k_is)
    (case a28 => k_is); (case l28 => k_is); (case c28 => k_is); (case k28 => k_is)
    (case a29 => k_is); (case l29 => k_is); (case c29 => k_is); (case k29 => k_is)
    (case a30 => k_is); (case l30 => k_is); (case c30 => k_is); (case k30 => k_is)
    (case a31 => k_is); (case l31 => k_is); (case c31 => k_is); (case k31 => k_is)
    (case a32 => k_is); (case l32 => k_is); (case c32 => k_is); (case k32 => k_is)
    (case a33 => k_is); (case l33 => k_is); (case c33 => k_is); (case k33 => k_is)
    (case a34 => k_is); (case l34 => k_is); (case c34 => k_is); (case k34 => k_is)
    (case a35 => k_is); (case l35 => k_is); (case c35 => k_is); (case k35 => k_is)
    (case a36 => k_is); (case l36 => k_is); (case c36 => k_is); (case k36 => k_is)
    (case a37 => k_is); (case l37 => k_is); (case c37 => k_is); (case k37 => k_is)
    (case a38 => k_is); (case l38 => k_is); (case c38 => k_is); (case k38 => k_is)
    (case a39 => k_is); (case l39 => k_is); (case c39 => k_is); (case k39 => k_is)
    (case z0 => k_is); (case z1 => k_is); (case z2 => k_is); (case z3 => k_is); (case z4 => k_is); (case z5 => k_is); (case z6 => k_is); (case z7 => k_is); (case z8 => k_is); (case z9 => k_is); (case z10 => k_is); (case z11 => k_is); (case z12 => k_is); (case z13 => k_is); (case z14 => k_is); (case z15 => k_is); (case z16 => k_is); (case z17 => k_is); (case z18 => k_is); (case z19 => k_is)
