import PyProof.Rows.All
import Wide.All
import OpenK.AllK
import Wide.FinOn
import HandS.ForMost
import HandS.Codes
import HandS.Wide
import HandS.WideBits
import HandS.IsInst
import HandS.RaiseMore
import HandS.Style
import HandS.NoneIn
import HandS.Walk
import HandS.SetFor
import KE.LtSeq
import KE.DatumOrd
import KE.SortData
import HandS.SortInts
import HandS.Deep
import HandS.Evl
import HandS.SortKw
import HandS.Conv
import PySem.Challenge.RW_leapfit_k22_whole_even_lists_have_rules
set_option Elab.async false
set_option linter.all false
set_option maxRecDepth 100000
set_option maxHeartbeats 4000000
set_option linter.all false
namespace Lf
/-! ### sums of rounded quotients -/
def fs : Nat → Int → Int → Int → Int
  | 0, _, _, _ => 0
  | n + 1, a, b, m => fs n a b m + (a * n + b) / m
def tri (n : Int) : Int := n * (n - 1) / 2
theorem tri_succ (n : Int) : tri (n + 1) = tri n + n := by
  unfold tri
  rw [show (n + 1) * (n + 1 - 1) = n * (n - 1) + n * 2 by
    rw [Int.add_sub_cancel, Int.mul_sub, Int.add_mul]; omega]
  rw [Int.add_mul_ediv_right _ _ (by decide)]
theorem tri_zero : tri 0 = 0 := rfl
theorem div_shift (x k m : Int) (h : 0 < m) : (x + m * k) / m = x / m + k := by
  rw [Int.add_mul_ediv_left _ _ (by omega)]
theorem fs_red (n : Nat) (a b m : Int) (h : 0 < m) : fs n a b m = fs n (a % m) b m + a / m * tri n := by
  induction n with
  | zero => simp [fs, tri_zero]
  | succ n ih =>
    show fs n a b m + (a * n + b) / m = fs n (a % m) b m + (a % m * n + b) / m + a / m * tri ((n + 1 : Nat) : Int)
    have e : a * n + b = (a % m * n + b) + m * (a / m * n) := by
      have q := Int.emod_add_mul_ediv a m
      have q2 : a * n = (a % m + m * (a / m)) * n := by rw [q]
      rw [q2, Int.add_mul, Int.mul_assoc]; omega
    rw [e, div_shift _ _ _ h, ih, Int.natCast_add, Int.natCast_one, tri_succ, Int.mul_add]
    omega
theorem fs_redb (n : Nat) (a b m : Int) (h : 0 < m) : fs n a b m = fs n a (b % m) m + b / m * n := by
  induction n with
  | zero => simp [fs]
  | succ n ih =>
    show fs n a b m + (a * n + b) / m = fs n a (b % m) m + (a * n + b % m) / m + b / m * ((n + 1 : Nat) : Int)
    have e : a * n + b = (a * n + b % m) + m * (b / m) := by
      have q := Int.emod_add_mul_ediv b m
      omega
    rw [e, div_shift _ _ _ h, ih, Int.natCast_add, Int.natCast_one, Int.mul_add, Int.mul_one]
    omega
/-- each term of the second sum grows by one when its offset grows by its divisor -/
theorem fs_up (n : Nat) (a b m : Int) (h : 0 < m) : fs n a (b + m) m = fs n a b m + n := by
  induction n with
  | zero => simp [fs]
  | succ n ih =>
    show fs n a (b + m) m + (a * n + (b + m)) / m = fs n a b m + (a * n + b) / m + ((n + 1 : Nat) : Int)
    rw [show a * n + (b + m) = (a * n + b) + m * 1 by omega, div_shift _ _ _ h, ih]
    omega
/-- the first term apart -/
theorem fs_first (n : Nat) (a b m : Int) : fs (n + 1) a b m = b / m + fs n a (b + a) m := by
  induction n with
  | zero => show 0 + (a * ((0 : Nat) : Int) + b) / m = b / m + 0; simp
  | succ n ih =>
    show fs (n + 1) a b m + (a * ((n + 1 : Nat) : Int) + b) / m = b / m + (fs n a (b + a) m + (a * n + (b + a)) / m)
    rw [ih, show a * ((n + 1 : Nat) : Int) + b = a * n + (b + a) by
      rw [Int.natCast_add, Int.natCast_one, Int.mul_add]; omega]
    omega
theorem fs_swap (n : Nat) (a b m : Int) (ha : 0 < a) (ham : a < m) (hb : 0 ≤ b) (hbm : b < m) :
    fs n a b m = fs ((a * n + b) / m).toNat m ((a * n + b) % m) a := by
  induction n with
  | zero =>
    have e : (a * ((0 : Nat) : Int) + b) / m = 0 := by
      rw [show a * ((0 : Nat) : Int) + b = b by simp]
      exact Int.ediv_eq_zero_of_lt hb hbm
    rw [e]; rfl
  | succ n ih =>
    show fs n a b m + (a * n + b) / m = fs ((a * ((n + 1 : Nat) : Int) + b) / m).toNat m ((a * ((n + 1 : Nat) : Int) + b) % m) a
    rw [ih]
    have hm : 0 < m := by omega
    have hy : 0 ≤ a * n + b := by
      have := Int.mul_nonneg (Int.le_of_lt ha) (Int.natCast_nonneg n); omega
    generalize hyd : a * (n : Int) + b = y at hy
    have e : a * ((n + 1 : Nat) : Int) + b = y + a := by
      rw [Int.natCast_add, Int.natCast_one, Int.mul_add]; omega
    rw [e]
    have hq : 0 ≤ y / m := Int.ediv_nonneg hy (by omega)
    have hr0 : 0 ≤ y % m := Int.emod_nonneg _ (by omega)
    have hr1 : y % m < m := Int.emod_lt_of_pos _ hm
    have hd := Int.emod_add_mul_ediv y m
    generalize y / m = q at *
    generalize y % m = r at *
    by_cases hc : r + a < m
    · have e1 : (y + a) / m = q := by
        rw [show y + a = (r + a) + m * q by omega, div_shift _ _ _ hm, Int.ediv_eq_zero_of_lt (by omega) hc]
        omega
      have e2 : (y + a) % m = r + a := by
        have := Int.emod_add_mul_ediv (y + a) m
        rw [e1] at this
        omega
      rw [e1, e2, fs_up _ _ _ _ ha]
      omega
    · have e1 : (y + a) / m = q + 1 := by
        rw [show y + a = (r + a - m) + m * (q + 1) by rw [Int.mul_add]; omega, div_shift _ _ _ hm, Int.ediv_eq_zero_of_lt (by omega) (by omega)]
        omega
      have e2 : (y + a) % m = r + a - m := by
        have := Int.emod_add_mul_ediv (y + a) m
        rw [e1, Int.mul_add] at this
        omega
      rw [e1, e2, show (q + 1).toNat = q.toNat + 1 by omega, fs_first, Int.ediv_eq_zero_of_lt (by omega) (by omega), show r + a - m + m = r + a by omega, fs_up _ _ _ _ ha]
      omega
/-- a whole turn of the loop -/
theorem fs_turn (n a b m : Int) (hn : 0 ≤ n) (hm : 0 < m) :
    fs n.toNat a b m = a / m * tri n + b / m * n + fs ((a % m * n + b % m) / m).toNat m ((a % m * n + b % m) % m) (a % m) := by
  have h1 := fs_red n.toNat a b m hm
  have h2 := fs_redb n.toNat (a % m) b m hm
  have en : ((n.toNat : Nat) : Int) = n := by omega
  rw [en] at h1 h2
  have ha0 : 0 ≤ a % m := Int.emod_nonneg _ (by omega)
  have ha1 : a % m < m := Int.emod_lt_of_pos _ hm
  have hb0 : 0 ≤ b % m := Int.emod_nonneg _ (by omega)
  have hb1 : b % m < m := Int.emod_lt_of_pos _ hm
  by_cases hz : a % m = 0
  · have e0 : (a % m * n + b % m) / m = 0 := by
      rw [hz, Int.zero_mul, Int.zero_add]
      exact Int.ediv_eq_zero_of_lt hb0 hb1
    have z : fs n.toNat (a % m) (b % m) m = 0 := by
      rw [hz]
      have : ∀ k : Nat, fs k 0 (b % m) m = 0 := fun k => by
        induction k with
        | zero => rfl
        | succ k ih =>
          show fs k 0 (b % m) m + (0 * (k : Int) + b % m) / m = 0
          rw [ih, Int.zero_mul, Int.zero_add, Int.zero_add]
          exact Int.ediv_eq_zero_of_lt hb0 hb1
      exact this _
    rw [e0]
    show _ = _ + fs 0 m _ _
    have e3 : fs 0 m ((a % m * n + b % m) % m) (a % m) = 0 := rfl
    have e4 : (0 : Int).toNat = 0 := rfl
    rw [e3, h1, h2, z]
    omega
  · have h3 := fs_swap n.toNat (a % m) (b % m) m (by omega) ha1 hb0 hb1
    rw [en] at h3
    rw [h1, h2, h3]
    omega
theorem turn_le (n a b m : Int) (hn : 0 < n) (hm : 0 < m) : (a % m * n + b % m) / m ≤ n ∧ 0 ≤ (a % m * n + b % m) / m := by
  have ha0 : 0 ≤ a % m := Int.emod_nonneg _ (by omega)
  have ha1 : a % m < m := Int.emod_lt_of_pos _ hm
  have hb0 : 0 ≤ b % m := Int.emod_nonneg _ (by omega)
  have hb1 : b % m < m := Int.emod_lt_of_pos _ hm
  have h0 : 0 ≤ a % m * n := Int.mul_nonneg ha0 (by omega)
  refine ⟨?_, Int.ediv_nonneg (by omega) (by omega)⟩
  have h1 : a % m * n ≤ (m - 1) * n := Int.mul_le_mul_of_nonneg_right (by omega) (by omega)
  rw [Int.sub_mul, Int.one_mul] at h1
  have h2 : (a % m * n + b % m) / m < n + 1 := by
    apply Int.ediv_lt_of_lt_mul hm
    rw [Int.add_mul, Int.one_mul, Int.mul_comm n m]
    omega
  omega
theorem turn_zero (n a b m : Int) (hm : 0 < m) (hz : a % m = 0) : (a % m * n + b % m) / m = 0 := by
  rw [hz, Int.zero_mul, Int.zero_add]
  exact Int.ediv_eq_zero_of_lt (Int.emod_nonneg _ (by omega)) (Int.emod_lt_of_pos _ hm)
/-! ### sizes -/
def Bd (k : Nat) (i : Int) : Prop := i.natAbs < 2 ^ k
theorem Bd.mono {k j : Nat} {i : Int} (h : Bd k i) (e : k ≤ j) : Bd j i := Nat.lt_of_lt_of_le h (Nat.pow_le_pow_right (by decide) e)
theorem Bd.le {k : Nat} {i j : Int} (h : Bd k j) (e : i.natAbs ≤ j.natAbs) : Bd k i := Nat.lt_of_le_of_lt e h
theorem Bd.mul {k j : Nat} {x y : Int} (h : Bd k x) (h2 : Bd j y) : Bd (k + j) (x * y) := by
  unfold Bd
  rw [Int.natAbs_mul, Nat.pow_add]
  exact Nat.mul_lt_mul'' h h2
theorem Bd.add {k : Nat} {x y : Int} (h : Bd k x) (h2 : Bd k y) : Bd (k + 1) (x + y) := by
  unfold Bd at *
  rw [Nat.pow_succ]
  omega
theorem Bd.sub {k : Nat} {x y : Int} (h : Bd k x) (h2 : Bd k y) : Bd (k + 1) (x - y) := by
  unfold Bd at *
  rw [Nat.pow_succ]
  omega
theorem Bd.neg {k : Nat} {x : Int} (h : Bd k x) : Bd k (-x) := by
  unfold Bd at *
  omega
theorem Bd.ediv {k : Nat} {x m : Int} (h : Bd k x) (hm : 0 < m) : Bd k (x / m) := by
  refine h.le ?_
  rcases Int.lt_or_le x 0 with hx | hx
  · have h1 : x / m < 0 := Int.ediv_neg_of_neg_of_pos hx hm
    have h2 : x ≤ x / m := by
      apply Int.le_ediv_of_mul_le hm
      have : (-x) * 1 ≤ (-x) * m := Int.mul_le_mul_of_nonneg_left (by omega) (by omega)
      rw [Int.neg_mul, Int.neg_mul, Int.mul_one] at this
      omega
    omega
  · have h1 : 0 ≤ x / m := Int.ediv_nonneg hx (by omega)
    have h2 : x / m ≤ x := Int.ediv_le_self _ hx
    omega
theorem Bd.emod {k : Nat} {x m : Int} (h : Bd k m) (hm : 0 < m) : Bd k (x % m) := by
  refine h.le ?_
  have := Int.emod_nonneg x (show m ≠ 0 by omega)
  have := Int.emod_lt_of_pos x hm
  omega
theorem Bd.log {k : Nat} {i : Int} (h : Bd k i) (hk : 0 < k) : i.natAbs.log2 < k := by
  by_cases e : i.natAbs = 0
  · rw [e]; exact hk
  · exact (Nat.log2_lt e).mpr h
theorem Bd.small {k : Nat} {i : Int} (c : Nat) (h : i.natAbs < 2 ^ c) (e : c ≤ k) : Bd k i := Bd.mono (k := c) h e
theorem Bd.between {k : Nat} {x y : Int} (h : Bd k y) (h0 : 0 ≤ x) (h1 : x ≤ y) : Bd k x := h.le (by omega)
/-! ### the greatest common divisor -/
theorem gcd_turn (x y : Int) (hx : 0 ≤ x) (hy : 0 < y) : Int.gcd y (x % y) = Int.gcd x y := by
  unfold Int.gcd
  rw [show (x % y).natAbs = x.natAbs % y.natAbs by
    obtain ⟨a, rfl⟩ := Int.eq_ofNat_of_zero_le hx
    obtain ⟨b, rfl⟩ := Int.eq_ofNat_of_zero_le (Int.le_of_lt hy)
    rfl]
  rw [Nat.gcd_comm, ← Nat.gcd_rec, Nat.gcd_comm]
end Lf
namespace Lf
theorem nab_ediv {x m : Int} (hm : 0 < m) : (x / m).natAbs ≤ x.natAbs := by
  rcases Int.lt_or_le x 0 with hx | hx
  · have h1 : x / m < 0 := Int.ediv_neg_of_neg_of_pos hx hm
    have h2 : x ≤ x / m := by
      apply Int.le_ediv_of_mul_le hm
      have : (-x) * 1 ≤ (-x) * m := Int.mul_le_mul_of_nonneg_left (by omega) (by omega)
      rw [Int.neg_mul, Int.neg_mul, Int.mul_one] at this
      omega
    omega
  · have h1 : 0 ≤ x / m := Int.ediv_nonneg hx (by omega)
    have h2 : x / m ≤ x := Int.ediv_le_self _ hx
    omega
theorem fs_nab (n : Nat) (a b m : Int) (hm : 0 < m) : (fs n a b m).natAbs ≤ n * (a.natAbs * n + b.natAbs) := by
  induction n with
  | zero => show (0 : Int).natAbs ≤ _; simp
  | succ n ih =>
    show (fs n a b m + (a * n + b) / m).natAbs ≤ (n + 1) * (a.natAbs * (n + 1) + b.natAbs)
    have h1 := nab_ediv (x := a * n + b) hm
    have h2 := Int.natAbs_add_le (a * n) b
    have h3 := Int.natAbs_add_le (fs n a b m) ((a * n + b) / m)
    have h4 : (a * (n : Int)).natAbs = a.natAbs * n := by rw [Int.natAbs_mul]; rfl
    rw [h4] at h2
    have h5 : n * (a.natAbs * n + b.natAbs) ≤ n * (a.natAbs * (n + 1) + b.natAbs) := Nat.mul_le_mul_left _ (Nat.add_le_add_right (Nat.mul_le_mul_left _ (by omega)) _)
    have h6 : a.natAbs * n ≤ a.natAbs * (n + 1) := Nat.mul_le_mul_left _ (by omega)
    rw [Nat.add_mul, Nat.one_mul]
    omega
theorem fs_bd {n k j : Nat} {a b m : Int} (hm : 0 < m) (hn : n < 2 ^ j) (ha : Bd k a) (hb : Bd k b) : Bd (j + (k + j + 1)) (fs n a b m) := by
  unfold Bd at *
  have h := fs_nab n a b m hm
  refine Nat.lt_of_le_of_lt h ?_
  rw [Nat.pow_add 2 j]
  have h1 : a.natAbs * n + b.natAbs < 2 ^ (k + j + 1) := by
    have e : a.natAbs * n ≤ 2 ^ k * 2 ^ j := Nat.mul_le_mul (Nat.le_of_lt ha) (Nat.le_of_lt hn)
    have e2 : 2 ^ k ≤ 2 ^ k * 2 ^ j := Nat.le_mul_of_pos_right _ (Nat.pow_pos (by decide))
    rw [Nat.pow_succ, Nat.pow_add]
    omega
  exact Nat.mul_lt_mul'' hn h1
def trm (p q c s : Int) (i : Nat) : Int := (p * (s + i) + c) / q
theorem trm_sum (p q c s : Int) (n : Nat) : ((List.range n).map (trm p q c s)).sum = fs n p (p * s + c) q := by
  induction n with
  | zero => rfl
  | succ n ih =>
    rw [List.range_succ, List.map_append, List.sum_append, ih]
    show _ + (trm p q c s n + 0) = fs n p (p * s + c) q + (p * n + (p * s + c)) / q
    unfold trm
    rw [show p * (s + (n : Int)) + c = p * n + (p * s + c) by rw [Int.mul_add]; omega]
    omega
end Lf
namespace Lf
/-! ### triples in lowest terms -/
def gg (p q : Int) : Int := (Int.gcd p q : Int)
theorem gg_pos {p q : Int} (h : 1 ≤ q) : 0 < gg p q := by
  have : 0 < Int.gcd p q := Int.gcd_pos_of_ne_zero_right _ (by omega)
  unfold gg
  omega
theorem gg_p (p q : Int) : p = gg p q * (p / gg p q) := (Int.mul_ediv_cancel' (Int.gcd_dvd_left ..)).symm
theorem gg_q (p q : Int) : q = gg p q * (q / gg p q) := (Int.mul_ediv_cancel' (Int.gcd_dvd_right ..)).symm
theorem gg_mul (g x y : Int) (h : 0 ≤ g) : gg (g * x) (g * y) = g * gg x y := by
  unfold gg
  rw [Int.gcd_mul_left, Int.natCast_mul, Int.natAbs_of_nonneg h]
/-- reduced, multiplied, reduced again -/
theorem gg_twice (p q u v : Int) (h : 1 ≤ q) : gg (u * p) (v * q) = gg p q * gg (u * (p / gg p q)) (v * (q / gg p q)) := by
  have hg := gg_pos (p := p) h
  rw [← gg_mul _ _ _ (Int.le_of_lt hg)]
  congr 1
  · rw [Int.mul_left_comm, ← gg_p]
  · rw [Int.mul_left_comm, ← gg_q]
theorem red_p (p q u v : Int) (h : 1 ≤ q) (hv : 1 ≤ v) : u * (p / gg p q) / gg (u * (p / gg p q)) (v * (q / gg p q)) = u * p / gg (u * p) (v * q) := by
  have hg := gg_pos (p := p) h
  have e := gg_twice p q u v h
  rw [e]
  have e2 : u * p = gg p q * (u * (p / gg p q)) := by rw [Int.mul_left_comm, ← gg_p]
  rw [e2, Int.mul_ediv_mul_of_pos _ _ hg]
theorem red_q (p q u v : Int) (h : 1 ≤ q) (hv : 1 ≤ v) : v * (q / gg p q) / gg (u * (p / gg p q)) (v * (q / gg p q)) = v * q / gg (u * p) (v * q) := by
  have hg := gg_pos (p := p) h
  have e := gg_twice p q u v h
  rw [e]
  have e2 : v * q = gg p q * (v * (q / gg p q)) := by rw [Int.mul_left_comm, ← gg_q]
  rw [e2, Int.mul_ediv_mul_of_pos _ _ hg]
theorem red_c (p q u v c : Int) (h : 1 ≤ q) (hv : 1 ≤ v) : c / gg p q / gg (u * (p / gg p q)) (v * (q / gg p q)) = c / gg (u * p) (v * q) := by
  have hg := gg_pos (p := p) h
  rw [gg_twice p q u v h, Int.ediv_ediv_of_nonneg (Int.le_of_lt hg)]
theorem red_shift (p q a b c : Int) (h : 1 ≤ q) : (p * a + q * b + c) / gg p q = p / gg p q * a + q / gg p q * b + c / gg p q := by
  have hg := gg_pos (p := p) h
  have e : p * a + q * b + c = c + gg p q * (p / gg p q * a + q / gg p q * b) := by
    rw [Int.mul_add, ← Int.mul_assoc, ← Int.mul_assoc, ← gg_p, ← gg_q]
    omega
  rw [e, div_shift _ _ _ hg]
  omega
theorem div_neg1 (c g : Int) (hg : 0 < g) : (-1 - c) / g = -1 - c / g := by
  have e := Int.emod_add_mul_ediv c g
  have h0 := Int.emod_nonneg c (show g ≠ 0 by omega)
  have h1 := Int.emod_lt_of_pos c hg
  have e2 : -1 - c = (g - 1 - c % g) + g * (-1 - c / g) := by
    rw [Int.mul_sub]
    omega
  rw [e2, div_shift _ _ _ hg, Int.ediv_eq_zero_of_lt (by omega) (by omega)]
  omega
theorem red_mirror (p q c : Int) (h : 1 ≤ q) : (q - 1 - c) / gg p q = q / gg p q - 1 - c / gg p q := by
  have hg := gg_pos (p := p) h
  have e : q - 1 - c = (-1 - c) + gg p q * (q / gg p q) := by
    rw [← gg_q]
    omega
  rw [e, div_shift _ _ _ hg, div_neg1 _ _ hg]
  omega
end Lf
namespace Lf
theorem gg1 {p q : Int} (h : Int.gcd p q = 1) : gg p q = 1 := by
  unfold gg
  rw [h]
  rfl
theorem thin2 (p q c j k : Int) (h : 1 ≤ q * j) (hk : 1 ≤ k) :
    p / gg p (q * j) / gg (p / gg p (q * j)) (q * j / gg p (q * j) * k) = p / gg p (q * (j * k)) ∧
    q * j / gg p (q * j) * k / gg (p / gg p (q * j)) (q * j / gg p (q * j) * k) = q * (j * k) / gg p (q * (j * k)) ∧
    c / gg p (q * j) / gg (p / gg p (q * j)) (q * j / gg p (q * j) * k) = c / gg p (q * (j * k)) := by
  have e : q * (j * k) = k * (q * j) := by rw [← Int.mul_assoc, Int.mul_comm]
  have h1 := red_p p (q * j) 1 k h hk
  have h2 := red_q p (q * j) 1 k h hk
  have h3 := red_c p (q * j) 1 k c h hk
  simp only [Int.one_mul] at h1 h2 h3
  rw [Int.mul_comm (q * j / gg p (q * j)) k, e]
  exact ⟨h1, h2, h3⟩
theorem sample2 (p q c j k : Int) (h : 1 ≤ q) :
    p * j / gg (p * j) q * k / gg (p * j / gg (p * j) q * k) (q / gg (p * j) q) = p * (j * k) / gg (p * (j * k)) q ∧
    q / gg (p * j) q / gg (p * j / gg (p * j) q * k) (q / gg (p * j) q) = q / gg (p * (j * k)) q ∧
    c / gg (p * j) q / gg (p * j / gg (p * j) q * k) (q / gg (p * j) q) = c / gg (p * (j * k)) q := by
  have e : p * (j * k) = k * (p * j) := by rw [← Int.mul_assoc, Int.mul_comm]
  have h1 := red_p (p * j) q k 1 h (by decide)
  have h2 := red_q (p * j) q k 1 h (by decide)
  have h3 := red_c (p * j) q k 1 c h (by decide)
  simp only [Int.one_mul] at h1 h2 h3
  rw [Int.mul_comm (p * j / gg (p * j) q) k, e]
  exact ⟨h1, h2, h3⟩
theorem both2 (p q c k : Int) (h : 1 ≤ q) (hk : 1 ≤ k) :
    p * k / gg (p * k) q / gg (p * k / gg (p * k) q) (q / gg (p * k) q * k) = k * p / gg (k * p) (k * q) ∧
    q / gg (p * k) q * k / gg (p * k / gg (p * k) q) (q / gg (p * k) q * k) = k * q / gg (k * p) (k * q) ∧
    c / gg (p * k) q / gg (p * k / gg (p * k) q) (q / gg (p * k) q * k) = c / gg (k * p) (k * q) := by
  have h1 := red_p (p * k) q 1 k h hk
  have h2 := red_q (p * k) q 1 k h hk
  have h3 := red_c (p * k) q 1 k c h hk
  simp only [Int.one_mul] at h1 h2 h3
  rw [Int.mul_comm (q / gg (p * k) q) k, Int.mul_comm k p]
  exact ⟨h1, h2, h3⟩
theorem one_le_mul {x y : Int} (h : 1 ≤ x) (h2 : 1 ≤ y) : 1 ≤ x * y := by
  have := Int.mul_le_mul h h2 (by decide) (by omega)
  omega
end Lf
namespace Lf
/-! ### sums over ranges -/
theorem fs_add (n m : Nat) (a b q : Int) : fs (n + m) a b q = fs n a b q + fs m a (a * n + b) q := by
  induction m with
  | zero => show fs n a b q = fs n a b q + 0; omega
  | succ m ih =>
    show fs (n + m) a b q + (a * ((n + m : Nat) : Int) + b) / q = fs n a b q + (fs m a (a * n + b) q + (a * m + (a * n + b)) / q)
    rw [ih, show a * ((n + m : Nat) : Int) + b = a * m + (a * n + b) by rw [Int.natCast_add, Int.mul_add]; omega]
    omega
/-- two neighbouring ranges -/
theorem fs_split (p q c s m e : Int) (h1 : s ≤ m) (h2 : m ≤ e) : fs (m - s).toNat p (p * s + c) q + fs (e - m).toNat p (p * m + c) q = fs (e - s).toNat p (p * s + c) q := by
  have e1 : (e - s).toNat = (m - s).toNat + (e - m).toNat := by omega
  rw [e1, fs_add, show ((m - s).toNat : Int) = m - s by omega, show p * (m - s) + (p * s + c) = p * m + c by rw [Int.mul_sub]; omega]
theorem fs_one (p b q : Int) : fs 1 p b q = b / q := by
  show 0 + (p * ((0 : Nat) : Int) + b) / q = b / q
  simp
/-- one step of the offset: a term grows by one exactly where the divisor divides -/
theorem step_div (x q : Int) (h : 0 < q) : (x + 1) / q = x / q + (if (x + 1) % q = 0 then 1 else 0) := by
  have e := Int.emod_add_mul_ediv x q
  have h0 := Int.emod_nonneg x (show q ≠ 0 by omega)
  have h1 := Int.emod_lt_of_pos x h
  by_cases hc : x % q + 1 = q
  · have e2 : x + 1 = 0 + q * (x / q + 1) := by rw [Int.mul_add]; omega
    have e3 : (x + 1) % q = 0 := by rw [e2, Int.zero_add, Int.mul_emod_right]
    rw [if_pos e3, e2, div_shift _ _ _ h, Int.zero_ediv]
    omega
  · have e2 : x + 1 = (x % q + 1) + q * (x / q) := by omega
    have e3 : (x + 1) % q = x % q + 1 := by
      rw [e2, Int.add_mul_emod_self_left]
      exact Int.emod_eq_of_lt (by omega) (by omega)
    rw [if_neg (by omega)]
    rw [e2, div_shift _ _ _ h, Int.ediv_eq_zero_of_lt (by omega) (by omega)]
    omega
theorem hit_once (p q b : Int) (hg : Int.gcd p q = 1) (i j : Int) (hi : 0 ≤ i) (hij : i < j) (hj : j < q) (h1 : (p * i + b) % q = 0) (h2 : (p * j + b) % q = 0) : False := by
  have d1 := Int.dvd_of_emod_eq_zero h1
  have d2 := Int.dvd_of_emod_eq_zero h2
  have d3 : q ∣ p * (j - i) := by
    have := Int.dvd_sub d2 d1
    rw [show p * j + b - (p * i + b) = p * (j - i) by rw [Int.mul_sub]; omega] at this
    exact this
  have d4 : q ∣ j - i := by
    have n1 : q.natAbs ∣ p.natAbs * (j - i).natAbs := by
      rw [← Int.natAbs_mul]
      exact Int.natAbs_dvd_natAbs.mpr d3
    have n2 : Nat.Coprime q.natAbs p.natAbs := by
      unfold Nat.Coprime
      rw [Nat.gcd_comm]
      exact hg
    exact Int.natAbs_dvd_natAbs.mp (Nat.Coprime.dvd_of_dvd_mul_left n2 n1)
  have := Int.le_of_dvd (by omega) d4
  omega
theorem fs_step_le (p q b : Int) (hq : 0 < q) (hg : Int.gcd p q = 1) (n : Nat) (hn : (n : Int) ≤ q) :
    fs n p (b + 1) q - fs n p b q = 0 ∧ (∀ i : Nat, i < n → (p * i + (b + 1)) % q ≠ 0) ∨ fs n p (b + 1) q - fs n p b q = 1 ∧ (∃ i : Nat, i < n ∧ (p * i + (b + 1)) % q = 0) := by
  induction n with
  | zero => exact .inl ⟨rfl, fun i h => absurd h (by omega)⟩
  | succ n ih =>
    have e : fs (n + 1) p (b + 1) q - fs (n + 1) p b q = (fs n p (b + 1) q - fs n p b q) + ((p * n + (b + 1)) / q - (p * n + b) / q) := by
      show fs n p (b + 1) q + (p * n + (b + 1)) / q - (fs n p b q + (p * n + b) / q) = _
      omega
    have s := step_div (p * n + b) q hq
    rw [show p * (n : Int) + b + 1 = p * n + (b + 1) by omega] at s
    rw [e]
    rcases ih (by omega) with ⟨h1, h2⟩ | ⟨h1, i, hi, h2⟩
    · by_cases hc : (p * (n : Int) + (b + 1)) % q = 0
      · rw [if_pos hc] at s
        exact .inr ⟨by omega, n, by omega, hc⟩
      · rw [if_neg hc] at s
        refine .inl ⟨by omega, fun i hi => ?_⟩
        by_cases hin : i = n
        · subst hin; exact hc
        · exact h2 i (by omega)
    · have hc : ¬ (p * (n : Int) + (b + 1)) % q = 0 := fun z => hit_once p q (b + 1) hg i n (by omega) (by omega) (by omega) h2 z
      rw [if_neg hc] at s
      exact .inr ⟨by omega, i, by omega, h2⟩
theorem fs_step (p q b : Int) (hq : 0 < q) (hg : Int.gcd p q = 1) : fs q.toNat p (b + 1) q = fs q.toNat p b q + 1 := by
  have hle : ∀ b, fs q.toNat p (b + 1) q - fs q.toNat p b q ≤ 1 := fun b => by
    rcases fs_step_le p q b hq hg q.toNat (by omega) with ⟨h, _⟩ | ⟨h, _⟩ <;> omega
  have many : ∀ (k : Nat) (b : Int), fs q.toNat p (b + k) q - fs q.toNat p b q ≤ k := fun k => by
    induction k with
    | zero => intro b; simp
    | succ k ih =>
      intro b
      have h1 := ih b
      have h2 := hle (b + k)
      rw [show b + ((k + 1 : Nat) : Int) = b + k + 1 by omega]
      omega
  have up := fs_up q.toNat p b q hq
  have h1 := many (q.toNat - 1) (b + 1)
  rw [show b + 1 + ((q.toNat - 1 : Nat) : Int) = b + q by omega] at h1
  have h2 := hle b
  omega
theorem fs_from (p q : Int) (hq : 0 < q) (hg : Int.gcd p q = 1) (k : Nat) (b : Int) : fs q.toNat p (b + k) q = fs q.toNat p b q + k := by
  induction k with
  | zero => simp
  | succ k ih =>
    rw [show b + ((k + 1 : Nat) : Int) = b + k + 1 by omega, fs_step p q _ hq hg, ih]
    omega
theorem fs_any (p q b : Int) (hq : 0 < q) (hg : Int.gcd p q = 1) : fs q.toNat p b q = fs q.toNat p 0 q + b := by
  rcases Int.lt_or_le b 0 with h | h
  · have := fs_from p q hq hg (-b).toNat b
    rw [show b + ((-b).toNat : Int) = 0 by omega] at this
    omega
  · have := fs_from p q hq hg b.toNat 0
    rw [show 0 + (b.toNat : Int) = b by omega] at this
    omega
/-- terms in reverse order -/
theorem fs_rev (n : Nat) (a b q : Int) : fs n a b q = fs n (-a) (a * (n - 1) + b) q := by
  induction n with
  | zero => rfl
  | succ n ih =>
    rw [fs_first n (-a)]
    show fs n a b q + (a * n + b) / q = _
    rw [ih, show a * (((n + 1 : Nat) : Int) - 1) + b = a * n + b by rw [show ((n + 1 : Nat) : Int) - 1 = n by omega],
      show a * (n : Int) + b + -a = a * (n - 1) + b by rw [Int.mul_sub]; omega]
    omega
/-- negated terms -/
theorem fs_neg (n : Nat) (a b q : Int) (hq : 0 < q) : fs n (-a) (-b) q = - fs n a (b + q - 1) q := by
  induction n with
  | zero => rfl
  | succ n ih =>
    show fs n (-a) (-b) q + (-a * n + -b) / q = - (fs n a (b + q - 1) q + (a * n + (b + q - 1)) / q)
    rw [ih]
    have h1 := div_neg1 (a * n + (b - 1)) q hq
    have h2 := div_shift (a * n + (b - 1)) 1 q hq
    rw [show -1 - (a * (n : Int) + (b - 1)) = -a * n + -b by rw [Int.neg_mul]; omega] at h1
    rw [show a * (n : Int) + (b - 1) + q * 1 = a * n + (b + q - 1) by omega] at h2
    omega
theorem fs_cycle (p q b : Int) (hq : 0 < q) (hg : Int.gcd p q = 1) : fs q.toNat p b q = b + (p - 1) * (q - 1) / 2 := by
  have h0 := fs_any p q b hq hg
  have r := fs_rev q.toNat p 0 q
  have ng := fs_neg q.toNat p (-(p * (q - 1))) q hq
  rw [show ((q.toNat : Nat) : Int) = q by omega, Int.add_zero] at r
  rw [Int.neg_neg] at ng
  have h2 := fs_any p q (-(p * (q - 1)) + q - 1) hq hg
  have key : 2 * fs q.toNat p 0 q = (p - 1) * (q - 1) := by
    have e : (p - 1) * (q - 1) = p * (q - 1) - (q - 1) := by rw [Int.sub_mul, Int.one_mul]
    omega
  have : (p - 1) * (q - 1) / 2 = fs q.toNat p 0 q := by
    rw [← key, Int.mul_ediv_cancel_left _ (by decide)]
  omega
/-- Hermite's identity -/
theorem fs_hermite (k y : Int) (hk : 0 < k) : fs k.toNat 1 y k = y := by
  have := fs_cycle 1 k y hk (by simp [Int.gcd])
  rw [this]
  simp
/-- mirrored -/
theorem fs_mirror (n : Nat) (p q c s : Int) (hq : 0 < q) : fs n p (p * (1 - (s + n)) + (q - 1 - c)) q = - fs n p (p * s + c) q := by
  induction n with
  | zero => rfl
  | succ n ih =>
    rw [fs_first]
    show _ = -(fs n p (p * s + c) q + (p * n + (p * s + c)) / q)
    have e1 : p * (1 - (s + ((n + 1 : Nat) : Int))) + (q - 1 - c) + p = p * (1 - (s + n)) + (q - 1 - c) := by
      rw [show (1 - (s + ((n + 1 : Nat) : Int))) = (1 - (s + n)) - 1 by omega, Int.mul_sub p _ 1]
      omega
    rw [e1, ih]
    have h1 := div_neg1 (p * n + (p * s + c)) q hq
    have h2 := div_shift (-1 - (p * n + (p * s + c))) 1 q hq
    rw [show -1 - (p * (n : Int) + (p * s + c)) + q * 1 = p * (1 - (s + ((n + 1 : Nat) : Int))) + (q - 1 - c) by
      rw [show (1 - (s + ((n + 1 : Nat) : Int))) = -(n : Int) - s by omega, Int.mul_sub, Int.mul_neg]; omega] at h2
    omega
theorem fs_lowest (n : Nat) (p q c s : Int) (hq : 1 ≤ q) : fs n (p / gg p q) (p / gg p q * s + c / gg p q) (q / gg p q) = fs n p (p * s + c) q := by
  have hg := gg_pos (p := p) hq
  induction n with
  | zero => rfl
  | succ n ih =>
    show fs n (p / gg p q) (p / gg p q * s + c / gg p q) (q / gg p q) + (p / gg p q * n + (p / gg p q * s + c / gg p q)) / (q / gg p q) = fs n p (p * s + c) q + (p * n + (p * s + c)) / q
    rw [ih]
    have e1 : p / gg p q * n + (p / gg p q * s + c / gg p q) = (p * n + (p * s + c)) / gg p q := by
      have : p * n + (p * s + c) = c + gg p q * (p / gg p q * n + p / gg p q * s) := by
        rw [Int.mul_add, ← Int.mul_assoc, ← Int.mul_assoc, ← gg_p]
        omega
      rw [this, div_shift _ _ _ hg]
      omega
    have e2 : (p * n + (p * s + c)) / gg p q / (q / gg p q) = (p * n + (p * s + c)) / q := by
      rw [Int.ediv_ediv_of_nonneg (Int.le_of_lt hg), ← gg_q]
    rw [e1, e2]
theorem sum_map_add {α : Type} (l : List α) (f g : α → Int) : (l.map fun x => f x + g x).sum = (l.map f).sum + (l.map g).sum := by
  induction l with
  | nil => rfl
  | cons x r ih => simp only [List.map_cons, List.sum_cons, ih]; omega
theorem range_fs (k : Nat) (a b q : Int) : ((List.range k).map fun (j : Nat) => (a * j + b) / q).sum = fs k a b q := by
  induction k with
  | zero => rfl
  | succ k ih =>
    rw [List.range_succ, List.map_append, List.sum_append, ih]
    show _ + ((a * k + b) / q + 0) = fs k a b q + (a * k + b) / q
    omega
theorem fs_thin (n : Nat) (p q b k : Int) (hq : 0 < q) (hk : 0 < k) : ((List.range k.toNat).map fun (j : Nat) => fs n p (b + q * j) (q * k)).sum = fs n p b q := by
  induction n with
  | zero =>
    show ((List.range k.toNat).map fun _ => (0 : Int)).sum = 0
    induction k.toNat with
    | zero => rfl
    | succ m ih => rw [List.range_succ, List.map_append, List.sum_append, ih]; rfl
  | succ n ih =>
    have e : (List.range k.toNat).map (fun (j : Nat) => fs (n + 1) p (b + q * j) (q * k)) = (List.range k.toNat).map (fun (j : Nat) => fs n p (b + q * j) (q * k) + (1 * (j : Int) + (p * n + b) / q) / k) := by
      apply List.map_congr_left
      intro j _
      show fs n p (b + q * j) (q * k) + (p * n + (b + q * j)) / (q * k) = _
      rw [← Int.ediv_ediv_of_nonneg (Int.le_of_lt hq), show p * (n : Int) + (b + q * j) = (p * n + b) + q * j by omega, div_shift _ _ _ hq, Int.one_mul, Int.add_comm]
      rw [Int.add_comm (j : Int)]
      omega
    rw [e, sum_map_add, ih, range_fs, fs_hermite _ _ hk]
    rfl
theorem fs_sample (n : Nat) (p q b k : Int) (hk : 0 ≤ k) : ((List.range k.toNat).map fun (j : Nat) => fs n (p * k) (b + p * j) q).sum = fs (k.toNat * n) p b q := by
  induction n with
  | zero =>
    show ((List.range k.toNat).map fun _ => (0 : Int)).sum = 0
    induction k.toNat with
    | zero => rfl
    | succ m ih => rw [List.range_succ, List.map_append, List.sum_append, ih]; rfl
  | succ n ih =>
    have e : (List.range k.toNat).map (fun (j : Nat) => fs (n + 1) (p * k) (b + p * j) q) = (List.range k.toNat).map (fun (j : Nat) => fs n (p * k) (b + p * j) q + (p * (j : Int) + (p * ((k.toNat * n : Nat) : Int) + b)) / q) := by
      apply List.map_congr_left
      intro j _
      show fs n (p * k) (b + p * j) q + (p * k * n + (b + p * j)) / q = _
      rw [Int.natCast_mul, show ((k.toNat : Nat) : Int) = k by omega, ← Int.mul_assoc]
      rw [show p * k * (n : Int) + (b + p * j) = p * j + (p * k * n + b) by omega]
    rw [e, sum_map_add, ih, range_fs, Nat.mul_succ, fs_add]
end Lf
namespace Lf
theorem fs_lin (n : Nat) (a b m i j : Int) (hm : 0 < m) : fs n (a + i * m) (b + j * m) m = fs n a b m + i * tri n + j * n := by
  induction n with
  | zero => simp [fs, tri_zero]
  | succ n ih =>
    show fs n (a + i * m) (b + j * m) m + ((a + i * m) * n + (b + j * m)) / m = fs n a b m + (a * n + b) / m + i * tri ((n + 1 : Nat) : Int) + j * ((n + 1 : Nat) : Int)
    rw [ih, show (a + i * m) * (n : Int) + (b + j * m) = (a * n + b) + m * (i * n + j) by
      rw [Int.add_mul, Int.mul_add, Int.mul_comm i m, Int.mul_assoc, Int.mul_comm j m]; omega, div_shift _ _ _ hm, Int.natCast_add, Int.natCast_one, tri_succ, Int.mul_add, Int.mul_add]
    omega
theorem fs_scale (n : Nat) (a b m k : Int) (hk : 0 < k) : fs n (a * k) (b * k) (m * k) = fs n a b m := by
  induction n with
  | zero => rfl
  | succ n ih =>
    show fs n (a * k) (b * k) (m * k) + (a * k * n + b * k) / (m * k) = fs n a b m + (a * n + b) / m
    rw [ih, show a * k * (n : Int) + b * k = (a * n + b) * k by rw [Int.add_mul, Int.mul_right_comm], Int.mul_ediv_mul_of_pos_left _ _ hk]
theorem fs_last (n a b m : Int) (hn : 0 < n) : fs n.toNat a b m - fs (n - 1).toNat a b m = (a * (n - 1) + b) / m := by
  have e : n.toNat = (n - 1).toNat + 1 := by omega
  rw [e]
  show fs (n - 1).toNat a b m + (a * ((n - 1).toNat : Int) + b) / m - fs (n - 1).toNat a b m = _
  rw [show ((n - 1).toNat : Int) = n - 1 by omega]
  omega
theorem fs_part (n k a b m : Int) (h0 : 0 ≤ k) (h1 : k ≤ n) : fs k.toNat a b m + fs (n - k).toNat a (a * k + b) m = fs n.toNat a b m := by
  rw [show n.toNat = k.toNat + (n - k).toNat by omega, fs_add, show ((k.toNat : Nat) : Int) = k by omega]
theorem Bd.grow3 {k : Nat} {r d : Int} (h0 : 0 ≤ r) (h : Bd k r) (d0 : 0 ≤ d) (d1 : d < 1000) : Bd (k + 10) (1000 * r + d) := by
  unfold Bd at *
  have e : (2 : Nat) ^ (k + 10) = 2 ^ k * 1024 := by rw [Nat.pow_add]
  rw [e]
  generalize (2 : Nat) ^ k = m at h
  omega
theorem Bd.grow1 {k : Nat} {r d : Int} (h0 : 0 ≤ r) (h : Bd k r) (d0 : 0 ≤ d) (d1 : d < 10) : Bd (k + 4) (10 * r + d) := by
  unfold Bd at *
  have e : (2 : Nat) ^ (k + 4) = 2 ^ k * 16 := by rw [Nat.pow_add]
  rw [e]
  generalize (2 : Nat) ^ k = m at h
  omega
end Lf
namespace Lf
/-! ### events -/
theorem gal {p q : Int} (c m t : Int) (hp : 1 ≤ p) (hq : 1 ≤ q) : m ≤ (p * t + c) / q ↔ (q * m + (p - 1 - c)) / p ≤ t := by
  rw [Int.le_ediv_iff_mul_le (by omega), ← Int.lt_add_one_iff (a := (q * m + (p - 1 - c)) / p), Int.ediv_lt_iff_lt_mul (by omega), Int.mul_comm m q, Int.add_mul, Int.one_mul, Int.mul_comm t p]
  omega
theorem ct_mono {p q c s t : Int} (hp : 0 ≤ p) (hq : 1 ≤ q) (h : s ≤ t) : (p * s + c) / q ≤ (p * t + c) / q := by
  apply Int.ediv_le_ediv (by omega)
  have := Int.mul_le_mul_of_nonneg_left h hp
  omega
theorem ev_at {p q c m t : Int} (hp : 1 ≤ p) (hq : 1 ≤ q) (h1 : (p * (t - 1) + c) / q < m) (h2 : m ≤ (p * t + c) / q) : (q * m + (p - 1 - c)) / p = t := by
  have a := (gal c m t hp hq).mp h2
  have b : ¬ (q * m + (p - 1 - c)) / p ≤ t - 1 := fun h => by
    have := (gal c m (t - 1) hp hq).mpr h
    omega
  omega
theorem fs_const (k : Nat) (a b m v : Int) (h : ∀ i : Nat, i < k → (a * i + b) / m = v) : fs k a b m = k * v := by
  induction k with
  | zero => simp [fs]
  | succ k ih =>
    show fs k a b m + (a * k + b) / m = ((k + 1 : Nat) : Int) * v
    rw [ih (fun i hi => h i (by omega)), h k (by omega), Int.natCast_add, Int.natCast_one, Int.add_mul]
    omega
/-- the sum of the counts of a range by the times of its events -/
theorem fs_dual (p q c s : Int) (hp : 1 ≤ p) (hq : 1 ≤ q) (n : Nat) :
    fs n p (p * s + c) q = n * ((p * (s - 1) + c) / q) + ((p * (s + n - 1) + c) / q - (p * (s - 1) + c) / q) * (s + n) - fs ((p * (s + n - 1) + c) / q - (p * (s - 1) + c) / q).toNat q (q * ((p * (s - 1) + c) / q + 1) + (p - 1 - c)) p := by
  induction n with
  | zero =>
    rw [show s + ((0 : Nat) : Int) - 1 = s - 1 by omega, Int.sub_self]
    simp [fs]
  | succ n ih =>
    show fs n p (p * s + c) q + (p * n + (p * s + c)) / q = _
    rw [ih]
    have e0 : p * (n : Int) + (p * s + c) = p * (s + ((n + 1 : Nat) : Int) - 1) + c := by
      rw [show s + ((n + 1 : Nat) : Int) - 1 = s + n by omega, Int.mul_add]
      omega
    rw [e0]
    have m1 : (p * (s - 1) + c) / q ≤ (p * (s + n - 1) + c) / q := ct_mono (by omega) hq (by omega)
    have m2 : (p * (s + n - 1) + c) / q ≤ (p * (s + ((n + 1 : Nat) : Int) - 1) + c) / q := ct_mono (by omega) hq (by omega)
    have key : ∀ i : Nat, (i : Int) < (p * (s + ((n + 1 : Nat) : Int) - 1) + c) / q - (p * (s + n - 1) + c) / q → (q * ((p * (s + n - 1) + c) / q + 1 + i) + (p - 1 - c)) / p = s + n := fun i hi => by
      apply ev_at hp hq
      · show (p * (s + n - 1) + c) / q < _
        omega
      · rw [show s + (n : Int) = s + ((n + 1 : Nat) : Int) - 1 by omega] at *
        omega
    generalize hl : (p * (s - 1) + c) / q = low at *
    generalize hh : (p * (s + n - 1) + c) / q = hi at *
    generalize hh2 : (p * (s + ((n + 1 : Nat) : Int) - 1) + c) / q = hi2 at *
    rw [show (hi2 - low).toNat = (hi - low).toNat + (hi2 - hi).toNat by omega, fs_add, show ((hi - low).toNat : Int) = hi - low by omega]
    have fc := fs_const (hi2 - hi).toNat q (q * (hi - low) + (q * (low + 1) + (p - 1 - c))) p (s + n) (fun i h => by
      have := key i (by omega)
      rw [show q * (i : Int) + (q * (hi - low) + (q * (low + 1) + (p - 1 - c))) = q * (hi + 1 + i) + (p - 1 - c) by
        have : q * (hi + 1 + i) = q * i + q * (hi - low) + q * (low + 1) := by rw [← Int.mul_add, ← Int.mul_add]; congr 1; omega
        omega]
      exact this)
    rw [fc, show ((hi2 - hi).toNat : Int) = hi2 - hi by omega]
    rw [show s + ((n + 1 : Nat) : Int) = s + n + 1 by omega, show ((n + 1 : Nat) : Int) = n + 1 by omega]
    generalize s + (n : Int) = x
    have e3 : (hi2 - low) * (x + 1) = hi2 * x - low * x + hi2 - low := by rw [Int.mul_add, Int.sub_mul]; omega
    have e4 : (hi - low) * x = hi * x - low * x := by rw [Int.sub_mul]
    have e5 : (hi2 - hi) * x = hi2 * x - hi * x := by rw [Int.sub_mul]
    have e6 : ((n : Int) + 1) * low = n * low + low := by rw [Int.add_mul, Int.one_mul]
    rw [e3, e4, e5, e6]
    omega
theorem ct_fast {p q c s : Int} (hq : 1 ≤ q) (h : q ≤ p) (n : Nat) : (n : Int) ≤ (p * (s + n) + c) / q - (p * s + c) / q := by
  induction n with
  | zero => simp
  | succ n ih =>
    have : (p * (s + n) + c) / q + 1 ≤ (p * (s + ((n + 1 : Nat) : Int)) + c) / q := by
      have e := div_shift (p * (s + n) + c) 1 q (by omega)
      rw [← e]
      apply Int.ediv_le_ediv (by omega)
      rw [show s + ((n + 1 : Nat) : Int) = s + n + 1 by omega, Int.mul_add p (s + n) 1]
      omega
    omega
theorem ct_slow {p q c s : Int} (hq : 1 ≤ q) (h : p ≤ q) (n : Nat) : (p * (s + n) + c) / q - (p * s + c) / q ≤ n := by
  induction n with
  | zero => simp
  | succ n ih =>
    have : (p * (s + ((n + 1 : Nat) : Int)) + c) / q ≤ (p * (s + n) + c) / q + 1 := by
      have e := div_shift (p * (s + n) + c) 1 q (by omega)
      rw [← e]
      apply Int.ediv_le_ediv (by omega)
      rw [show s + ((n + 1 : Nat) : Int) = s + n + 1 by omega, Int.mul_add p (s + n) 1]
      omega
    omega
end Lf

namespace Lf
open PySem PySem.Spec PyProof.Rows L2
def topS (i : Nat) : Stmt := PySem.Challenge.pw_leapfit_k22_whole_even_lists_have_rules.main.body.getD i (.Pass ⟨0, 0, 0, 0⟩)
/-! ### heaps -/
theorem len10 {n : Nat} (h : n ≤ 1000) : n ≤ sizeLine := Nat.le_of_lt (small1000 h)
def penD (l : Addr) (t r : Int) : List (Key × V) := [(Sum.inr "cells", .ref l), (Sum.inr "turn", .int t), (Sum.inr "rest", .int r)]
/-- all but the source's own dict stays -/
structure Fr (H H' : Hp) : Prop where
  k : ∀ b o, H b = some o → (∀ x : Addr × Int × Int, o ≠ .dK (penD x.1 x.2.1 x.2.2)) → H' b = some o
theorem Fr.t {H H' : Hp} (f : Fr H H') (b : Addr) (xs : List V) (h : H b = some (.tup xs)) : H' b = some (.tup xs) := f.k b _ h fun _ z => by cases z
theorem Fr.l {H H' : Hp} (f : Fr H H') (b : Addr) (xs : List V) (h : H b = some (.lst xs)) : H' b = some (.lst xs) := f.k b _ h fun _ z => by cases z
theorem Fr.refl (H : Hp) : Fr H H := ⟨fun _ _ h _ => h⟩
theorem Fr.trans {H H1 H2 : Hp} (a : Fr H H1) (b : Fr H1 H2) : Fr H H2 := ⟨fun c o h n => b.k c o (a.k c o h n) n⟩
theorem Fr.same {H H1 : Hp} (a : Same H H1) : Fr H H1 := ⟨fun c o h _ => a c _ h⟩
theorem sm_upd {H : Hp} {p : Addr} {o : HO} (h : H p = none) : Same H (upd H p o) := fun b x e => by
  rw [upd_ne (ne_of_none e h)]
  exact e
theorem Fr.new {H : Hp} {p : Addr} {o : HO} (h : H p = none) : Fr H (upd H p o) := Fr.same (sm_upd h)
theorem Fr.dict {H : Hp} {p l : Addr} {t r : Int} {o : HO} (h : H p = some (.dK (penD l t r))) : Fr H (upd H p o) :=
  ⟨fun b o e n => by rw [upd_ne (ne_of e h (n (l, t, r)))]; exact e⟩
theorem Fr.d0 {H H' : Hp} (f : Fr H H') (b : Addr) (h : H b = some (.dK [])) : H' b = some (.dK []) := f.k b _ h fun _ z => by cases z
/-! ### the source of numbers -/
theorem sct : ¬ ("cells" : Str) = "turn" := by decide +kernel
theorem scr : ¬ ("cells" : Str) = "rest" := by decide +kernel
theorem str_ : ¬ ("turn" : Str) = "rest" := by decide +kernel
theorem srt : ¬ ("rest" : Str) = "turn" := by decide +kernel
theorem kct : ¬ (Sum.inr ("cells" : Str) : Key) = Sum.inr ("turn" : Str) := fun h => sct (Sum.inr.inj h)
theorem kcr : ¬ (Sum.inr ("cells" : Str) : Key) = Sum.inr ("rest" : Str) := fun h => scr (Sum.inr.inj h)
theorem ktr : ¬ (Sum.inr ("turn" : Str) : Key) = Sum.inr ("rest" : Str) := fun h => str_ (Sum.inr.inj h)
theorem krt : ¬ (Sum.inr ("rest" : Str) : Key) = Sum.inr ("turn" : Str) := fun h => srt (Sum.inr.inj h)
theorem dg_rest {H : Hp} {a l : Addr} {t r : Int} (h : H a = some (.dK (penD l t r))) : DGet H a (.str "rest") (some (.int r)) := by
  have e : valV (penD l t r) (Sum.inr "rest" : Key) = some (.int r) := by
    unfold penD
    rw [valV_neg kcr, valV_neg ktr, valV_pos rfl]
  rw [← e]
  exact DGet.k (k := Sum.inr "rest") h
theorem dg_turn {H : Hp} {a l : Addr} {t r : Int} (h : H a = some (.dK (penD l t r))) : DGet H a (.str "turn") (some (.int t)) := by
  have e : valV (penD l t r) (Sum.inr "turn" : Key) = some (.int t) := by
    unfold penD
    rw [valV_neg kct, valV_pos rfl]
  rw [← e]
  exact DGet.k (k := Sum.inr "turn") h
theorem dg_cells {H : Hp} {a l : Addr} {t r : Int} (h : H a = some (.dK (penD l t r))) : DGet H a (.str "cells") (some (.ref l)) := by
  have e : valV (penD l t r) (Sum.inr "cells" : Key) = some (.ref l) := by
    unfold penD
    rw [valV_pos rfl]
  rw [← e]
  exact DGet.k (k := Sum.inr "cells") h
theorem dp_rest {H : Hp} {a l : Addr} {t r y : Int} (h : H a = some (.dK (penD l t r))) : DPut H a (.str "rest") (.int y) (upd H a (.dK (penD l t y))) := by
  have e : putK (penD l t r) (Sum.inr "rest" : Key) (.int y) = penD l t y := by
    simp [putK, penD, scr, str_]
  rw [← e]
  exact DPut.k (k := Sum.inr "rest") h (by show 3 < sizeLine; exact small1000 (by decide))
theorem dp_turn {H : Hp} {a l : Addr} {t r y : Int} (h : H a = some (.dK (penD l t r))) : DPut H a (.str "turn") (.int y) (upd H a (.dK (penD l y r))) := by
  have e : putK (penD l t r) (Sum.inr "turn" : Key) (.int y) = penD l y r := by
    simp [putK, penD, sct, srt]
  rw [← e]
  exact DPut.k (k := Sum.inr "turn") h (by show 3 < sizeLine; exact small1000 (by decide))
/-- where the source stands: its dict, its list of cells -/
structure PA where
  d : Addr
  l : Addr
instance : Coe PA Addr := ⟨PA.d⟩
structure Pen (H : Hp) (a : PA) (n : Nat) : Prop where
  ex : ∃ (cs : List Int) (t r : Int), H a.d = some (.dK (penD a.l t r)) ∧ H a.l = some (.lst (cs.map V.int)) ∧ cs.length ≤ 63 ∧ 0 ≤ t ∧ t ≤ n ∧ 0 ≤ r
theorem Pen.same {H H' : Hp} {a : PA} {n : Nat} (p : Pen H a n) (s : Same H H') : Pen H' a n := by
  obtain ⟨cs, t, r, h1, h2, h3⟩ := p.ex
  exact ⟨cs, t, r, s _ _ h1, s _ _ h2, h3⟩
theorem Pen.new {H : Hp} {a : PA} {p : Addr} {n : Nat} {o : HO} (q : Pen H a n) (h : H p = none) : Pen (upd H p o) a n := q.same (sm_upd h)
theorem Pen.mono {H : Hp} {a : PA} {n m : Nat} (p : Pen H a n) (h : n ≤ m) : Pen H a m := by
  obtain ⟨cs, t, r, h1, h2, h3, h4, h5, h6⟩ := p.ex
  exact ⟨cs, t, r, h1, h2, h3, h4, by omega, h6⟩
theorem Pen.put {H : Hp} {a l : Addr} {cs : List Int} {t r : Int} {n : Nat} {kvs : List (Key × V)} (ha : H a = some (.dK kvs)) (hl : H l = some (.lst (cs.map V.int))) (h1 : cs.length ≤ 63) (h2 : 0 ≤ t) (h3 : t ≤ n) (h4 : 0 ≤ r) :
    Pen (upd H a (.dK (penD l t r))) ⟨a, l⟩ n :=
  ⟨cs, t, r, upd_same, by show upd H a _ l = _; rw [upd_ne (ne_of hl ha (by intro z; cases z))]; exact hl, h1, h2, h3, h4⟩
/-- an address that was free when the source stood already -/
theorem Pen.over {H H' : Hp} {a : PA} {L : Addr} {n m : Nat} {o : HO} (p0 : Pen H a m) (hL : H L = none) (p : Pen H' a n) : Pen (upd H' L o) a n := by
  obtain ⟨_, _, _, g1, g2, _⟩ := p0.ex
  obtain ⟨cs, t, r, h1, h2, h3⟩ := p.ex
  exact ⟨cs, t, r, by rw [upd_ne (ne_of_none g1 hL)]; exact h1, by rw [upd_ne (ne_of_none g2 hL)]; exact h2, h3⟩
theorem Fr.over {H H' : Hp} {L : Addr} {o : HO} (f : Fr H H') (hL : H L = none) : Fr H (upd H' L o) :=
  ⟨fun b o e n => by rw [upd_ne (ne_of_none e hL)]; exact f.k _ _ e n⟩
/-! ### defs by their names -/
def Df (K : PySem.W.Frag) (mg : Str → Option Value) (x : Str) (st : Stmt) (ps : List Str) : Prop := ∃ f fd, Fun K x x st f fd ∧ mg x = some (.ref f) ∧ Binds K fd ps []
structure Bi (mg : Str → Option Value) : Prop where
  len_ : mg "len" = none
  abs_ : mg "abs" = none
  list_ : mg "list" = none
  range_ : mg "range" = none
  sum_ : mg "sum" = none
  repr_ : mg "repr" = none
  max_ : mg "max" = none
  min_ : mg "min" = none
  reversed_ : mg "reversed" = none
  divmod_ : mg "divmod" = none
  isinstance_ : mg "isinstance" = none
  all_ : mg "all" = none
  int_ : mg "int" = none
  bool_ : mg "bool" = none
  tuple_ : mg "tuple" = none
  sorted_ : mg "sorted" = none
  zip_ : mg "zip" = none
  enumerate_ : mg "enumerate" = none
  set_ : mg "set" = none
  str_ : mg "str" = none
theorem bt_len : bootBuiltins ("len" : Str) = Option.some (Value.builtin "len") := by decide +kernel
theorem bt_abs : bootBuiltins ("abs" : Str) = Option.some (Value.builtin "abs") := by decide +kernel
theorem bt_sum : bootBuiltins ("sum" : Str) = Option.some (Value.builtin "sum") := by decide +kernel
theorem bt_repr : bootBuiltins ("repr" : Str) = Option.some (Value.builtin "repr") := by decide +kernel
theorem bt_max : bootBuiltins ("max" : Str) = Option.some (Value.builtin "max") := by decide +kernel
theorem bt_min : bootBuiltins ("min" : Str) = Option.some (Value.builtin "min") := by decide +kernel
theorem bt_divmod : bootBuiltins ("divmod" : Str) = Option.some (Value.builtin "divmod") := by decide +kernel
theorem bt_isinstance : bootBuiltins ("isinstance" : Str) = Option.some (Value.builtin "isinstance") := by decide +kernel
theorem bt_all : bootBuiltins ("all" : Str) = Option.some (Value.builtin "all") := by decide +kernel
theorem bt_set : bootBuiltins ("set" : Str) = Option.some (Value.type "set") := by decide +kernel
theorem bt_str : bootBuiltins ("str" : Str) = Option.some (Value.type "str") := by decide +kernel
theorem bt_sorted : bootBuiltins ("sorted" : Str) = Option.some (Value.builtin "sorted") := by decide +kernel
theorem bt_list : bootBuiltins ("list" : Str) = Option.some (Value.type "list") := by decide +kernel
theorem bt_int : bootBuiltins ("int" : Str) = Option.some (Value.type "int") := by decide +kernel
theorem bt_bool : bootBuiltins ("bool" : Str) = Option.some (Value.type "bool") := by decide +kernel
theorem bt_tuple : bootBuiltins ("tuple" : Str) = Option.some (Value.type "tuple") := by decide +kernel
section
variable {P : Program} {w : World} {K : PySem.W.Frag} {mg : Str → Option Value} {base : Heap}
theorem cal_of {x : Str} {st : Stmt} {N ps : List Str} {k : Nat} {sp : Sp} (D : Df K mg x st ps) (S : FnScope N ps (defScope st)) (len : ∀ vs H Q E, sp vs H Q E → vs.length = ps.length)
    (hb : ∀ (f : Addr) (cdv : Value) (A : Around) (outer : List Env) (s : Shared) (H : Hp) (vs : List V) (Q : VK) (E : XK), Room k (A.deeper (envOfC x (defScope st) s.heap.objs.size f cdv)) → sp vs H Q E →
      ∃ t, PSs (cxOf CX0 P w K mg base N x (defScope st) f cdv A outer s H E).nox (defBody st) t ∧ t { nx := fun _ H' => Q .non H', rt := Q } (start N vs) H) : C8.Cal P w K mg base (k + 1) x sp [] := by
  obtain ⟨f, fd, F, hm, b⟩ := D
  exact ⟨⟨f, fd, ps, [], F.ok S len (fun cdv A outer s H vs Q E hr h => hb f cdv A outer s H vs Q E hr h), hm, F.kp, b, .nil⟩⟩
/-- the same, its own row known (for calls with keywords) -/
def CalF (P : Program) (w : World) (K : PySem.W.Frag) (mg : Str → Option Value) (base : Heap) (k : Nat) (x : Str) (st : Stmt) (ps : List Str) (sp : Sp) : Prop :=
  ∃ f fd, Fun K x x st f fd ∧ mg x = some (.ref f) ∧ FnOk P w K mg base CX0 k f fd ps sp ∧ Binds K fd ps []
theorem calF_of {x : Str} {st : Stmt} {N ps : List Str} {k : Nat} {sp : Sp} (D : Df K mg x st ps) (S : FnScope N ps (defScope st)) (len : ∀ vs H Q E, sp vs H Q E → vs.length = ps.length)
    (hb : ∀ (f : Addr) (cdv : Value) (A : Around) (outer : List Env) (s : Shared) (H : Hp) (vs : List V) (Q : VK) (E : XK), Room k (A.deeper (envOfC x (defScope st) s.heap.objs.size f cdv)) → sp vs H Q E →
      ∃ t, PSs (cxOf CX0 P w K mg base N x (defScope st) f cdv A outer s H E).nox (defBody st) t ∧ t { nx := fun _ H' => Q .non H', rt := Q } (start N vs) H) : CalF P w K mg base (k + 1) x st ps sp := by
  obtain ⟨f, fd, F, hm, b⟩ := D
  exact ⟨f, fd, F, hm, F.ok S len (fun cdv A outer s H vs Q E hr h => hb f cdv A outer s H vs Q E hr h), b⟩
theorem CalF.cal {x : Str} {st : Stmt} {ps : List Str} {k : Nat} {sp : Sp} (c : CalF P w K mg base k x st ps sp) : C8.Cal P w K mg base k x sp [] := by
  obtain ⟨f, fd, F, hm, G, b⟩ := c
  exact ⟨⟨f, fd, ps, [], G, hm, F.kp, b, .nil⟩⟩
/-! ### _law_pen -/
theorem cut_ints (ns : List Int) : ∃ cs : List Int, cutV (ns.map V.int) none (some 63) = cs.map V.int ∧ cs.length ≤ 63 := by
  refine ⟨ns.take 63, ?_, by rw [List.length_take]; omega⟩
  unfold cutV
  rw [HT.sIx_none, show HT.sIx (ns.map V.int).length (ns.map V.int).length (some 63) = min 63 (ns.map V.int).length from HT.sIx_nat _ _ 63]
  rw [List.drop_zero, Nat.sub_zero, List.map_take, List.length_map]
  by_cases h : 63 ≤ ns.length
  · rw [Nat.min_eq_left h]
  · rw [Nat.min_eq_right (by omega), List.take_of_length_le (by rw [List.length_map]; omega), List.take_of_length_le (by rw [List.length_map]; omega)]
def spPen (K : PySem.W.Frag) : Sp := fun vs H Q _ => ∃ (s : Addr) (ns : List Int), vs = [.ref s] ∧ SqL K H s (ns.map V.int) ∧ ∀ (a : PA) H', Pen H' a 0 → Same H H' → Q (.ref a) H'
abbrev s_l_pen : Stmt := topS 33
abbrev N_l_pen : List Str := ["_law_script"]
abbrev P_l_pen : List Str := ["_law_script"]
theorem sc_l_pen : FnScope N_l_pen P_l_pen (defScope s_l_pen) := ⟨rfl, rfl, rfl, by decide +kernel, rfl, by decide +kernel, by decide +kernel⟩
theorem ok_l_pen (D : Df K mg "_law_pen" s_l_pen P_l_pen) (B : Bi mg) : C8.Cal P w K mg base 1 "_law_pen" (spPen K) [] := by
  refine cal_of D sc_l_pen (fun vs H Q E h => ?_) (fun f cdv A outer s H vs Q E hr h => ?_)
  · obtain ⟨a, ns, rfl, _⟩ := h
    rfl
  · obtain ⟨a, ns, rfl, hS, q⟩ := h
    refine ⟨_, (pss_one (ps_ret (pe_disp (pps_cons pe_str (pe_callTy (call_list_of) (by rfl) B.list_ bt_list (pa_cons (pe_slice sl_list (pv 0) po_none (po_some pe_int)) pa_nil)) (pps_cons pe_str pe_int (pps_cons pe_str pe_int pps_nil))) (by rfl) (by rfl) (fun z => by cases z) (by decide)))), ?_⟩
    refine fun p np => ?_
    have s1 : Same H (upd H p (.dK [])) := sm_upd np
    refine ⟨_, rfl, 63, rfl, a, _, rfl, s1.seq hS, fun c nc => ?_⟩
    obtain ⟨cs, ec, hc⟩ := cut_ints ns
    rw [ec]
    refine ⟨c, _, rfl, .inl (SqL.of upd_same), fun l nl => ?_⟩
    have ncp : p ≠ c := ne_of_none upd_same nc
    have nlc : c ≠ l := ne_of_none upd_same nl
    have nlp : p ≠ l := ne_of_none (by rw [upd_ne ncp]; exact upd_same) nl
    refine ⟨by rw [upd_ne nlp, upd_ne ncp, upd_same], penD l 0 0, rfl, by show 3 ≤ 15; decide, ?_⟩
    have e : mergeK [] (penD l 0 0) = penD l 0 0 := by
      simp [mergeK, penD, putK, sct, scr, str_]
    rw [e]
    refine q ⟨p, l⟩ _ ⟨cs, 0, 0, upd_same, ?_, hc, by omega, by omega, by omega⟩ ?_
    · show upd _ p _ l = _
      rw [upd_ne nlp.symm, upd_same]
    · intro b o eb
      have nb : b ≠ p := ne_of_none eb np
      have nb2 : b ≠ c := ne_of_none (s1 _ _ eb) nc
      have nb3 : b ≠ l := ne_of_none (sm_upd nc _ _ (s1 _ _ eb)) nl
      rw [upd_ne nb, upd_ne nb3, upd_ne nb2, upd_ne nb]
      exact eb
end
end Lf
namespace Lf
open PySem PySem.Spec PyProof.Rows L2
section
variable {P : Program} {w : World} {K : PySem.W.Frag} {mg : Str → Option Value} {base : Heap}
/-! ### _law_draw -/
theorem at_mod (cs : List Int) (t : Int) (h : cs ≠ []) : ∃ c, atI (cs.map V.int) (t % ((cs.map V.int).length : Int)) = some (.int c) := by
  have hl : 0 < cs.length := List.length_pos_iff.mpr h
  rw [List.length_map]
  have h0 := Int.emod_nonneg t (show (cs.length : Int) ≠ 0 by omega)
  have h1 := Int.emod_lt_of_pos t (show (0 : Int) < cs.length by omega)
  generalize t % (cs.length : Int) = i at h0 h1
  obtain ⟨j, rfl⟩ := Int.eq_ofNat_of_zero_le h0
  have hj : j < cs.length := by omega
  refine ⟨cs[j], atI_nat ?_⟩
  rw [List.getElem?_map, List.getElem?_eq_getElem hj]
  rfl
theorem dp_ints {K : PySem.W.Frag} {H : Hp} : ∀ cs : List Int, DpAll K H (cs.map V.int) (cs.map PyData.int)
  | [] => .nil
  | c :: r => .cons (.int c) (dp_ints r)
theorem sh_ints (cs : List Int) : SeqAt.shaped (.list (cs.map PyData.int)) = true := by
  have h : ∀ cs : List Int, PyData.canLayAll0 (cs.map PyData.int) = true ∧ PyData.depthAll (cs.map PyData.int) = 0 := by
    intro cs
    induction cs with
    | nil => exact ⟨rfl, rfl⟩
    | cons c r ih => exact ⟨by simpa [PyData.canLayAll0, PyData.canLay0] using ih.1, by simpa [PyData.depthAll, PyData.depth] using ih.2⟩
  simp [SeqAt.shaped, PyData.canLay0, PyData.depth, (h cs).1, (h cs).2]
def spDraw : Sp := fun vs H Q _ => ∃ (a : PA) (n : Nat) (many : Int), vs = [.ref a, .int many] ∧ Pen H a n ∧ n < 2 ^ 40 ∧ 0 < many ∧ Bd 9000 many ∧
  ∀ d H', 0 ≤ d → d < many → Pen H' a (n + 1) → Fr H H' → Q (.int d) H'
end
end Lf
namespace Lf
open PySem PySem.Spec PyProof.Rows L2
section
variable {P : Program} {w : World} {K : PySem.W.Frag} {mg : Str → Option Value} {base : Heap}
theorem at_primes (t : Int) : ∃ pr : Int, atI ([.int 2147483647, .int 2147483629, .int 2147483587, .int 2147483579, .int 2147483563] : List V) (t % 5) = some (V.int pr) ∧ 0 < pr ∧ pr < 2147483648 := by
  have h0 := Int.emod_nonneg t (show (5 : Int) ≠ 0 by decide)
  have h1 := Int.emod_lt_of_pos t (show (0 : Int) < 5 by decide)
  generalize t % 5 = i at h0 h1
  obtain ⟨j, rfl⟩ := Int.eq_ofNat_of_zero_le h0
  have hj : j < 5 := by omega
  match j, hj with
  | 0, _ => exact ⟨_, atI_nat (j := 0) rfl, by decide, by decide⟩
  | 1, _ => exact ⟨_, atI_nat (j := 1) rfl, by decide, by decide⟩
  | 2, _ => exact ⟨_, atI_nat (j := 2) rfl, by decide, by decide⟩
  | 3, _ => exact ⟨_, atI_nat (j := 3) rfl, by decide, by decide⟩
  | 4, _ => exact ⟨_, atI_nat (j := 4) rfl, by decide, by decide⟩
abbrev s_l_draw : Stmt := topS 34
abbrev N_l_draw : List Str := ["_law_pen_here", "_law_many", "_law_digit", "_law_turn", "_law_cell", "_law_primes", "_law_prime", "_law_drawn"]
abbrev P_l_draw : List Str := ["_law_pen_here", "_law_many"]
theorem sc_l_draw : FnScope N_l_draw P_l_draw (defScope s_l_draw) := ⟨rfl, rfl, rfl, by decide +kernel, rfl, by decide +kernel, by decide +kernel⟩
theorem ok_l_draw (D : Df K mg "_law_draw" s_l_draw P_l_draw) (B : Bi mg) : C8.Cal P w K mg base 1 "_law_draw" spDraw [] := by
  refine cal_of D sc_l_draw (fun vs H Q E h => ?_) (fun f cdv A outer s H vs Q E hr h => ?_)
  · obtain ⟨a, n, many, rfl, _⟩ := h
    rfl
  · obtain ⟨⟨a, l⟩, n, many, rfl, hP, hn, h0, hb, q⟩ := h
    have hu := hu_of hr
    have hd : CDivW 0 many := ⟨h0, hb.log (by decide)⟩
    obtain ⟨cs, t, r, ea, el, hl, ht0, htn, hr0⟩ := hP.ex
    have ea : H a = some (.dK (penD l t r)) := ea
    have el : H l = some (.lst (cs.map V.int)) := el
    refine ⟨_, (pss_cons (ps_if (pt_cmpR op_gt (pe_dget hu (pv 0) pe_str (fun _ _ => rfl)) pe_int (nomark _))
      (pss_cons (ps_set (i := 2) sc_l_draw.nd rfl (Or.inl rfl) (pe_op op_mod (pe_dget hu (pv 0) pe_str (fun _ _ => rfl)) (pv 1)))
    (pss_cons (ps_dput hu (pv 0) pe_str (pe_op op_fdivW (pe_dget hu (pv 0) pe_str (fun _ _ => rfl)) (pv 1)) rfl)
    (pss_one (ps_ret (pv 2)))))
      pss_nil)
    (pss_cons (ps_set (i := 3) sc_l_draw.nd rfl (Or.inl rfl) (pe_dget hu (pv 0) pe_str (fun _ _ => rfl)))
    (pss_cons (ps_dput hu (pv 0) pe_str (pe_op op_add (pv 3) pe_int) rfl)
    (pss_cons (ps_set (i := 4) sc_l_draw.nd rfl (Or.inl rfl) (pe_op op_add (pe_op op_mul pe_int (pv 3)) pe_int))
    (C8.pss_cut (ps_if (pt_cmpR (op_neD hr.units) (pe_dget hu (pv 0) pe_str (fun _ _ => rfl)) (pe_lst pa_nil) (nomark _))
      (pss_one (ps_set (i := 4) sc_l_draw.nd rfl (Or.inl rfl) (pe_ix (r := rIxL K) ix_list (pe_dget hu (pv 0) pe_str (fun _ _ => rfl)) (pe_op op_mod (pv 3) (pe_callB (call_len_seq) (by rfl) B.len_ bt_len (pa_cons (pe_dget hu (pv 0) pe_str (fun _ _ => rfl)) pa_nil))) (fun _ _ => rfl))))
      pss_nil)
    (C8.pss_cut (ps_if (PW.pt (pw_and (pt_cmpR op_lt (pv 3) (pe_callB (call_len_seq) (by rfl) B.len_ bt_len (pa_cons (pe_dget hu (pv 0) pe_str (fun _ _ => rfl)) pa_nil)) (nomark _)) (pw_and1 (pt_cmpR op_ge (pe_callB (call_abs) (by rfl) B.abs_ bt_abs (pa_cons (pv 4) pa_nil)) (pe_op op_pow pe_int pe_int) (nomark _)))))
      (pss_cons (ps_dput hu (pv 0) pe_str (pe_op op_fdivW (pe_op op_sub (pe_callB (call_abs) (by rfl) B.abs_ bt_abs (pa_cons (pv 4) pa_nil)) (pe_op op_pow pe_int pe_int)) (pv 1)) rfl)
    (pss_one (ps_ret (pe_op op_mod (pe_op op_sub (pe_callB (call_abs) (by rfl) B.abs_ bt_abs (pa_cons (pv 4) pa_nil)) (pe_op op_pow pe_int pe_int)) (pv 1)))))
      pss_nil)
    (pss_cons (ps_set (i := 5) sc_l_draw.nd rfl (Or.inl rfl) (pe_lst (pa_cons pe_int (pa_cons pe_int (pa_cons pe_int (pa_cons pe_int (pa_cons pe_int pa_nil)))))))
    (pss_cons (ps_set (i := 6) sc_l_draw.nd rfl (Or.inl rfl) (pe_ix (r := rIxL K) ix_list (pv 5) (pe_op op_mod (pv 3) pe_int) (fun _ _ => rfl)))
    (pss_cons (ps_set (i := 7) sc_l_draw.nd rfl (Or.inl rfl) (pe_op op_mod (pe_op op_add (pe_op op_add (pe_op op_mul (pe_op op_mod (pv 4) (pv 6)) pe_int) (pe_op op_mul (pe_op op_mul pe_int (pv 3)) (pv 3))) pe_int) (pv 6)))
    (pss_cons (ps_set (i := 7) sc_l_draw.nd rfl (Or.inl rfl) (pe_op op_mod (pe_op op_mul (pv 7) (pe_op op_add (pv 7) pe_int)) (pe_ix (r := rIxL K) ix_list (pv 5) (pe_op op_mod (pe_op op_add (pv 3) pe_int) pe_int) (fun _ _ => rfl))))
    (pss_one (ps_ret (pe_op op_mod (pe_op op_fdiv (pe_op op_mod (pe_op op_mul (pv 7) (pv 7)) pe_int) pe_int) (pv 1)))))))))))))), ?_⟩
    -- rest > 0
    refine ⟨_, rfl, a, _, rfl, dg_rest ea, _, _, rfl, rfl, _, rfl, ite2 (fun e => ?_) (fun e => ?_)⟩
    · refine ⟨_, rfl, a, _, rfl, dg_rest ea, _, rfl, _, _, rfl, rfl, h0, ?_⟩
      refine ⟨_, rfl, a, _, rfl, dg_rest ea, _, rfl, _, _, rfl, rfl, hd, _, rfl, a, _, rfl, dp_rest ea, ?_⟩
      refine ⟨_, rfl, ?_⟩
      exact q _ _ (Int.emod_nonneg _ (by omega)) (Int.emod_lt_of_pos _ h0) (Pen.put ea el hl ht0 (by omega) (Int.ediv_nonneg hr0 (by omega))) (Fr.dict ea)
    · -- turn = ..; turn + 1; 43 * turn + 19
      refine ⟨_, rfl, a, _, rfl, dg_turn ea, ?_⟩
      refine ⟨_, rfl, _, _, rfl, rfl, _, rfl, a, _, rfl, dp_turn ea, ?_⟩
      have ea1 : upd H a (.dK (penD l (t + 1) r)) a = some (.dK (penD l (t + 1) r)) := upd_same
      have nla : l ≠ a := ne_of el ea (by intro z; cases z)
      have el1 : upd H a (.dK (penD l (t + 1) r)) l = some (.lst (cs.map V.int)) := by rw [upd_ne nla]; exact el
      have f1 : Fr H (upd H a (.dK (penD l (t + 1) r))) := Fr.dict ea
      generalize upd H a (.dK (penD l (t + 1) r)) = H1 at ea1 el1 f1
      refine ⟨_, rfl, _, _, rfl, rfl, .inl ⟨by decide, by decide⟩, _, _, rfl, rfl, ?_⟩
      refine ⟨fun σ' H' => ∃ c : Int, σ' = [some (.ref a), some (.int many), none, some (.int t), some (.int c), none, none, none] ∧ Same H1 H', ?_, ?_⟩
      · refine ⟨_, rfl, a, _, rfl, dg_cells ea1, Nat.zero_le _, fun p np => ?_⟩
        have s1 : Same H1 (upd H1 p (.lst [])) := sm_upd np
        refine ⟨.list (cs.map PyData.int), .list [], Dp.lst (SqL.of (s1 _ _ el1)) (dp_ints cs), Dp.lst (SqL.of upd_same) .nil, sh_ints cs, rfl, _, rfl, ?_⟩
        by_cases hc : cs = []
        · subst hc
          refine iteF ?_
          exact ⟨_, rfl, s1⟩
        · obtain ⟨c, r', rfl⟩ : ∃ c r', cs = c :: r' := by
            cases cs with
            | nil => exact absurd rfl hc
            | cons c r' => exact ⟨c, r', rfl⟩
          refine iteT ?_
          obtain ⟨v, hv⟩ := at_mod (c :: r') t hc
          refine ⟨_, rfl, a, _, rfl, dg_cells (s1 _ _ ea1), _, rfl, _, rfl, a, _, rfl, dg_cells (s1 _ _ ea1), l, _, rfl, .inl (SqL.of (s1 _ _ el1)), _, _, rfl, rfl, ?_, l, _, _, _, rfl, rfl, SqL.of (s1 _ _ el1), hv, ?_⟩
          · show (0 : Int) < (((c :: r').map V.int).length : Int)
            rw [List.length_map, List.length_cons]
            omega
          · exact ⟨v, rfl, s1⟩
      · rintro σ' H2 ⟨c, rfl, s2⟩
        have ea2 := s2 _ _ ea1
        have el2 := s2 _ _ el1
        have f2 : Fr H H2 := f1.trans (Fr.same s2)
        refine ⟨fun σ' H' => σ' = [some (.ref a), some (.int many), none, some (.int t), some (.int c), none, none, none] ∧ H' = H2, ?_, ?_⟩
        · refine ⟨_, rfl, _, rfl, a, _, rfl, dg_cells ea2, l, _, rfl, .inl (SqL.of el2), _, _, rfl, rfl, _, rfl, ite2 (fun e1 => ?_) (fun e1 => ?_)⟩
          · refine ⟨_, rfl, _, rfl, _, _, rfl, rfl, ⟨by decide, by decide, by decide⟩, _, _, rfl, rfl, _, rfl, ite2 (fun e2 => ?_) (fun e2 => ?_)⟩
            · have e3 := of_decide_eq_true e2
              refine ⟨_, rfl, _, rfl, _, _, rfl, rfl, ⟨by decide, by decide, by decide⟩, _, _, rfl, rfl, _, rfl, _, _, rfl, rfl, hd, _, rfl, a, _, rfl, dp_rest ea2, ?_⟩
              refine ⟨_, rfl, _, rfl, _, _, rfl, rfl, ⟨by decide, by decide, by decide⟩, _, _, rfl, rfl, _, rfl, _, _, rfl, rfl, h0, ?_⟩
              exact q _ _ (Int.emod_nonneg _ (by omega)) (Int.emod_lt_of_pos _ h0) (Pen.put ea2 el2 hl (by omega) (by omega) (Int.ediv_nonneg (by omega) (by omega))) (f2.trans (Fr.dict ea2))
            · exact ⟨rfl, rfl⟩
          · exact iteF ⟨rfl, rfl⟩
        · rintro σ' H' ⟨rfl, rfl⟩
          refine ⟨by show 5 ≤ sizeLine; exact Nat.le_of_lt (small1000 (by decide)), fun p np => ?_⟩
          have s3 := sm_upd (o := .lst [.int 2147483647, .int 2147483629, .int 2147483587, .int 2147483579, .int 2147483563]) np
          obtain ⟨pr, hp, hp0, hp1⟩ := at_primes t
          obtain ⟨pr2, hp2, hp20, hp21⟩ := at_primes (t + 2)
          refine ⟨_, rfl, _, rfl, _, _, rfl, rfl, (by show (0 : Int) < 5; decide), p, _, _, _, rfl, rfl, SqL.of upd_same, hp, ?_⟩
          refine ⟨_, rfl, _, rfl, _, _, rfl, rfl, hp0, _, _, rfl, rfl, .inr ⟨by decide, by decide⟩, _, rfl, _, _, rfl, rfl, .inl ⟨by decide, by decide⟩, _, rfl, _, _, rfl, rfl, .inr ⟨by omega, by omega⟩, _, _, rfl, rfl, _, _, rfl, rfl, _, rfl, _, _, rfl, rfl, hp0, ?_⟩
          have d0 := Int.emod_nonneg (c % pr * 48271 + 40609 * t * t + 23) (show pr ≠ 0 by omega)
          have d1 := Int.emod_lt_of_pos (c % pr * 48271 + 40609 * t * t + 23) hp0
          refine ⟨_, rfl, _, rfl, _, _, rfl, rfl, _, _, rfl, rfl, .inl ⟨by omega, by omega⟩, _, rfl, _, rfl, _, _, rfl, rfl, _, _, rfl, rfl, (by show (0 : Int) < 5; decide), p, _, _, _, rfl, rfl, SqL.of upd_same, hp2, _, _, rfl, rfl, hp20, ?_⟩
          have d20 := Int.emod_nonneg ((c % pr * 48271 + 40609 * t * t + 23) % pr * ((c % pr * 48271 + 40609 * t * t + 23) % pr + 69621)) (show pr2 ≠ 0 by omega)
          have d21 := Int.emod_lt_of_pos ((c % pr * 48271 + 40609 * t * t + 23) % pr * ((c % pr * 48271 + 40609 * t * t + 23) % pr + 69621)) hp20
          refine ⟨_, rfl, _, rfl, _, _, rfl, rfl, .inl ⟨by omega, by omega⟩, _, _, rfl, rfl, (by show (0 : Int) < 2147483549; decide), _, _, rfl, rfl, ⟨by decide, by decide⟩, _, rfl, _, _, rfl, rfl, h0, ?_⟩
          have hP2 : Pen H' ⟨a, l⟩ (n + 1) := ⟨cs, t + 1, r, ea2, el2, hl, by omega, by omega, hr0⟩
          exact q _ _ (Int.emod_nonneg _ (by omega)) (Int.emod_lt_of_pos _ h0) (hP2.new np) (f2.trans (Fr.new np))
end
end Lf
namespace Lf
open PySem PySem.Spec PyProof.Rows L2
section
variable {P : Program} {w : World} {K : PySem.W.Frag} {mg : Str → Option Value} {base : Heap}
/-! ### _law_pick -/
def spPick : Sp := fun vs H Q _ => ∃ (a : PA) (l : Addr) (n : Nat) (xs : List V), vs = [.ref a, .ref l] ∧ Pen H a n ∧ n < 2 ^ 40 ∧ H l = some (.lst xs) ∧ xs ≠ [] ∧ xs.length ≤ 1000 ∧
  ∀ x H', x ∈ xs → Pen H' a (n + 1) → Fr H H' → Q x H'
abbrev s_l_pick : Stmt := topS 35
abbrev N_l_pick : List Str := ["_law_pen_here", "_law_options"]
abbrev P_l_pick : List Str := ["_law_pen_here", "_law_options"]
theorem sc_l_pick : FnScope N_l_pick P_l_pick (defScope s_l_pick) := ⟨rfl, rfl, rfl, by decide +kernel, rfl, by decide +kernel, by decide +kernel⟩
theorem ok_l_pick (D : Df K mg "_law_pick" s_l_pick P_l_pick) (B : Bi mg) (c_l_draw : C8.Cal P w K mg base 1 "_law_draw" spDraw []) : C8.Cal P w K mg base 2 "_law_pick" spPick [] := by
  refine cal_of D sc_l_pick (fun vs H Q E h => ?_) (fun f cdv A outer s H vs Q E hr h => ?_)
  · obtain ⟨a, l, n, xs, rfl, _⟩ := h
    rfl
  · obtain ⟨a, l, n, xs, rfl, hP, hn, el, hx, hxl, q⟩ := h
    have hu := hu_of hr
    refine ⟨_, (pss_one (ps_ret (pe_ix (r := rIxL K) ix_list (pv 1) (C8.pe_c c_l_draw hr (by decide) (by rfl) (pa_cons (pv 0) (pa_cons (pe_callB (call_len_seq) (by rfl) B.len_ bt_len (pa_cons (pv 1) pa_nil)) pa_nil))) (fun _ _ => rfl)))), ?_⟩
    have hl : 0 < xs.length := List.length_pos_iff.mpr hx
    refine ⟨_, rfl, _, rfl, _, rfl, l, _, rfl, .inl (SqL.of el), a, n, _, rfl, hP, hn, by omega, Bd.small 20 (by omega) (by decide), fun d H' d0 d1 hP' f' => ?_⟩
    obtain ⟨j, rfl⟩ := Int.eq_ofNat_of_zero_le d0
    have hj : j < xs.length := by omega
    refine ⟨l, _, _, _, rfl, rfl, SqL.of (f'.l _ _ el), atI_nat (List.getElem?_eq_getElem hj), ?_⟩
    exact q _ _ (List.getElem_mem hj) hP' f'
end
end Lf
namespace Lf
open PySem PySem.Spec PyProof.Rows L2
theorem Bd.grow {k : Nat} {r d : Int} (h0 : 0 ≤ r) (h : Bd k r) (d0 : 0 ≤ d) (d1 : d < 10 ^ 6) : Bd (k + 20) (r * 10 ^ 6 + d) := by
  unfold Bd at *
  have e : (2 : Nat) ^ (k + 20) = 2 ^ k * 1048576 := by rw [Nat.pow_add]
  rw [e]
  generalize (2 : Nat) ^ k = m at h
  omega
/-- a rule, its numbers within k bits -/
structure RuleB (k : Nat) (p q c : Int) : Prop where
  p0 : 0 ≤ p
  q1 : 1 ≤ q
  g : Int.gcd p q = 1
  bp : Bd k p
  bq : Bd k q
  bc : Bd k c
theorem RuleB.mono {k j : Nat} {p q c : Int} (h : RuleB k p q c) (e : k ≤ j) : RuleB j p q c := ⟨h.p0, h.q1, h.g, h.bp.mono e, h.bq.mono e, h.bc.mono e⟩
theorem gcd_pos {p q : Int} (h : 1 ≤ q) : 0 < (Int.gcd p q : Int) := by
  have : 0 < Int.gcd p q := Int.gcd_pos_of_ne_zero_right _ (by omega)
  omega
theorem gcd_le {p q : Int} (h : 1 ≤ q) : (Int.gcd p q : Int) ≤ q := Int.le_of_dvd (by omega) (Int.gcd_dvd_right ..)
theorem low_rule {k : Nat} {p q c : Int} (h0 : 0 ≤ p) (h1 : 1 ≤ q) (bp : Bd k p) (bq : Bd k q) (bc : Bd k c) : RuleB k (p / (Int.gcd p q : Int)) (q / (Int.gcd p q : Int)) (c / (Int.gcd p q : Int)) := by
  have hg := gcd_pos (p := p) h1
  refine ⟨Int.ediv_nonneg h0 (by omega), ?_, ?_, bp.ediv hg, bq.ediv hg, bc.ediv hg⟩
  · exact Int.le_ediv_of_mul_le hg (by rw [Int.one_mul]; exact gcd_le h1)
  · have : 0 < Int.gcd p q := by omega
    exact Int.gcd_ediv_gcd_ediv_gcd this
/-- a new rule stands at r -/
abbrev tup3 (p q c : Int) : HO := .tup [.int p, .int q, .int c]
theorem low_rule' {k : Nat} {p q c : Int} (h0 : 0 ≤ p) (h1 : 1 ≤ q) (bp : Bd k p) (bq : Bd k q) (bc : Bd k c) : RuleB k (p / gg p q) (q / gg p q) (c / gg p q) := low_rule h0 h1 bp bq bc
theorem low_le {p q : Int} (h1 : 1 ≤ q) : q / (Int.gcd p q : Int) ≤ q := Int.ediv_le_self _ (by omega)
section
variable {P : Program} {w : World} {K : PySem.W.Frag} {mg : Str → Option Value} {base : Heap}
/-! ### _law_great -/
def spGreat : Sp := fun vs H Q _ => ∃ (a : PA) (n : Nat) (d : Int), vs = [.ref a, .int d] ∧ Pen H a n ∧ n < 2 ^ 39 ∧ 6 ≤ d ∧ d ≤ 1200 ∧
  ∀ g H', 0 ≤ g → Bd (20 * (d / 6).toNat) g → Pen H' a (n + 1 + (d / 6).toNat) → Fr H H' → Q (.int g) H'
abbrev s_l_great : Stmt := topS 36
abbrev N_l_great : List Str := ["_law_pen_here", "_law_digits", "_law_result", "_law_k"]
abbrev P_l_great : List Str := ["_law_pen_here", "_law_digits"]
theorem sc_l_great : FnScope N_l_great P_l_great (defScope s_l_great) := ⟨rfl, rfl, rfl, by decide +kernel, rfl, by decide +kernel, by decide +kernel⟩
theorem ok_l_great (D : Df K mg "_law_great" s_l_great P_l_great) (B : Bi mg) (c_l_draw : C8.Cal P w K mg base 1 "_law_draw" spDraw []) : C8.Cal P w K mg base 2 "_law_great" spGreat [] := by
  refine cal_of D sc_l_great (fun vs H Q E h => ?_) (fun f cdv A outer s H vs Q E hr h => ?_)
  · obtain ⟨a, n, d, rfl, _⟩ := h
    rfl
  · obtain ⟨a, n, d, rfl, hP, hn, h6, h12, q⟩ := h
    refine ⟨_, (pss_cons (ps_set (i := 2) sc_l_great.nd rfl (Or.inl rfl) pe_int)
    (pss_cons (ps_for PassesOwn.never rfl (pi_range1 rfl B.range_ (pa_cons (pe_op op_add pe_int (C8.pe_c c_l_draw hr (by decide) (by rfl) (pa_cons (pv 0) (pa_cons (pe_op op_fdiv (pv 1) pe_int) pa_nil)))) pa_nil)) (pg_name (i := 3) sc_l_great.nd rfl (Or.inl rfl))
      (pss_one (ps_set (i := 2) sc_l_great.nd rfl (Or.inl rfl) (pe_op op_add (pe_op op_mul (pv 2) (pe_op op_pow pe_int pe_int)) (C8.pe_c c_l_draw hr (by decide) (by rfl) (pa_cons (pv 0) (pa_cons (pe_op op_pow pe_int pe_int) pa_nil)))))))
    (pss_one (ps_ret (pv 2))))), ?_⟩
    refine ⟨_, rfl, _, rfl, _, _, rfl, rfl, ⟨by decide, by decide⟩, a, n, _, rfl, hP, by omega, by omega, Bd.small 20 (by omega) (by decide), fun dd H1 d0 d1 hP1 f1 => ?_⟩
    refine ⟨_, _, rfl, rfl, _, rfl, by omega, by omega, ?_⟩
    refine for_range (lo := 0) (n := (1 + dd).toNat) (fun i σ H2 => ∃ (r : Int) (y : Option V), σ = [some (.ref a), some (.int d), some (.int r), y] ∧ 0 ≤ r ∧ Bd (20 * i) r ∧ Pen H2 a (n + 1 + i) ∧ Fr H H2) ?_ ?_ ?_
    · exact ⟨0, none, rfl, by omega, by show (0 : Int).natAbs < 2 ^ 0; decide, hP1, f1⟩
    · rintro i σ H2 hi ⟨r, y, rfl, r0, rb, hP2, f2⟩
      refine ⟨_, rfl, _, _, rfl, rfl, ⟨by decide, by decide, by decide⟩, _, _, rfl, rfl, .inr ⟨by decide, by decide⟩, _, rfl, _, _, rfl, rfl, ⟨by decide, by decide, by decide⟩, a, _, _, rfl, hP2, by omega, by decide, Bd.small 20 (by decide) (by decide), fun e H3 e0 e1 hP3 f3 => ?_⟩
      refine ⟨_, _, rfl, rfl, ?_⟩
      refine ⟨_, _, rfl, ?_, ?_, hP3, f2.trans f3⟩
      · have : (0 : Int) ≤ 10 ^ (6 : Int).toNat := by decide
        have := Int.mul_nonneg r0 this
        omega
      · exact Bd.grow r0 rb e0 e1
    · rintro σ H2 ⟨r, y, rfl, r0, rb, hP2, f2⟩
      have h3 : (1 + dd).toNat ≤ (d / 6).toNat := by omega
      refine ⟨_, rfl, ?_⟩
      exact q _ _ r0 (rb.mono (by omega)) (hP2.mono (by omega)) f2
/-! ### _law_signed -/
def spSigned : Sp := fun vs H Q _ => ∃ (a : PA) (n : Nat) (d : Int), vs = [.ref a, .int d] ∧ Pen H a n ∧ n < 2 ^ 38 ∧ 6 ≤ d ∧ d ≤ 1200 ∧
  ∀ g H', Bd (20 * (d / 6).toNat) g → Pen H' a (n + 5 + (d / 6).toNat) → Fr H H' → Q (.int g) H'
abbrev s_l_signed : Stmt := topS 37
abbrev N_l_signed : List Str := ["_law_pen_here", "_law_digits"]
abbrev P_l_signed : List Str := ["_law_pen_here", "_law_digits"]
theorem sc_l_signed : FnScope N_l_signed P_l_signed (defScope s_l_signed) := ⟨rfl, rfl, rfl, by decide +kernel, rfl, by decide +kernel, by decide +kernel⟩
theorem ok_l_signed (D : Df K mg "_law_signed" s_l_signed P_l_signed) (B : Bi mg) (c_l_draw : C8.Cal P w K mg base 1 "_law_draw" spDraw []) (c_l_pick : C8.Cal P w K mg base 2 "_law_pick" spPick []) (c_l_great : C8.Cal P w K mg base 2 "_law_great" spGreat []) : C8.Cal P w K mg base 3 "_law_signed" spSigned [] := by
  refine cal_of D sc_l_signed (fun vs H Q E h => ?_) (fun f cdv A outer s H vs Q E hr h => ?_)
  · obtain ⟨a, n, d, rfl, _⟩ := h
    rfl
  · obtain ⟨a, n, d, rfl, hP, hn, h6, h12, q⟩ := h
    refine ⟨_, (pss_one (ps_ret (pe_op op_mul (C8.pe_c c_l_pick hr (by decide) (by rfl) (pa_cons (pv 0) (pa_cons (pe_lst (pa_cons pe_int (pa_cons (pe_un un_neg pe_int) pa_nil))) pa_nil))) (C8.pe_c c_l_pick hr (by decide) (by rfl) (pa_cons (pv 0) (pa_cons (pe_lst (pa_cons (C8.pe_c c_l_draw hr (by decide) (by rfl) (pa_cons (pv 0) (pa_cons pe_int pa_nil))) (pa_cons (C8.pe_c c_l_draw hr (by decide) (by rfl) (pa_cons (pv 0) (pa_cons pe_int pa_nil))) (pa_cons (C8.pe_c c_l_great hr (by decide) (by rfl) (pa_cons (pv 0) (pa_cons (pv 1) pa_nil))) pa_nil)))) pa_nil)))))), ?_⟩
    refine ⟨_, rfl, 1, rfl, len10 (by simp), fun p np => ?_⟩
    refine ⟨a, p, n, _, rfl, hP.new np, by omega, upd_same, by simp, by simp, fun x H1 hx hP1 f1 => ?_⟩
    have f1' : Fr H H1 := (Fr.new np).trans f1
    refine ⟨_, rfl, _, rfl, a, _, _, rfl, hP1, by omega, by decide, Bd.small 20 (by decide) (by decide), fun d1 H2 d10 d11 hP2 f2 => ?_⟩
    refine ⟨_, rfl, a, _, _, rfl, hP2, by omega, by decide, Bd.small 20 (by decide) (by decide), fun d2 H3 d20 d21 hP3 f3 => ?_⟩
    refine ⟨_, rfl, _, rfl, a, _, _, rfl, hP3, by omega, h6, h12, fun g H4 g0 gb hP4 f4 => ?_⟩
    refine ⟨len10 (by simp), fun p2 np2 => ?_⟩
    refine ⟨a, p2, _, _, rfl, hP4.new np2, by omega, upd_same, by simp, by simp, fun y H5 hy hP5 f5 => ?_⟩
    have hk : 20 ≤ 20 * (d / 6).toNat := by omega
    obtain ⟨v, rfl, bv⟩ : ∃ v, y = V.int v ∧ Bd (20 * (d / 6).toNat) v := by
      simp only [List.mem_cons, List.not_mem_nil, or_false] at hy
      rcases hy with rfl | rfl | rfl
      · exact ⟨_, rfl, Bd.small 20 (by omega) hk⟩
      · exact ⟨_, rfl, Bd.small 20 (by omega) hk⟩
      · exact ⟨_, rfl, gb⟩
    have hPF : Pen H5 a (n + 5 + (d / 6).toNat) := hP5.mono (by omega)
    have fF : Fr H H5 := f1'.trans (f2.trans (f3.trans (f4.trans ((Fr.new np2).trans f5))))
    simp only [List.mem_cons, List.not_mem_nil, or_false] at hx
    rcases hx with rfl | rfl
    · refine ⟨_, _, rfl, rfl, .inl ⟨by decide, by decide⟩, ?_⟩
      show Q (V.int (1 * v)) H5
      rw [Int.one_mul]
      exact q _ _ bv hPF fF
    · refine ⟨_, _, rfl, rfl, .inl ⟨by decide, by decide⟩, ?_⟩
      show Q (V.int (-1 * v)) H5
      rw [Int.neg_mul, Int.one_mul]
      exact q _ _ bv.neg hPF fF
/-! ### _law_gcd, _law_lowest -/
def spGcd : Sp := fun vs H Q _ => ∃ (x y : Int), vs = [.int x, .int y] ∧ 0 ≤ x ∧ 0 ≤ y ∧ Q (.int (Int.gcd x y : Int)) H
def mu1 : L2.St → Hp → Nat := fun σ _ => match σ with
  | _ :: some (.int v) :: _ => v.toNat
  | _ => 0
abbrev s_l_gcd : Stmt := topS 38
abbrev N_l_gcd : List Str := ["_law_one", "_law_other"]
abbrev P_l_gcd : List Str := ["_law_one", "_law_other"]
theorem sc_l_gcd : FnScope N_l_gcd P_l_gcd (defScope s_l_gcd) := ⟨rfl, rfl, rfl, by decide +kernel, rfl, by decide +kernel, by decide +kernel⟩
theorem ok_l_gcd (D : Df K mg "_law_gcd" s_l_gcd P_l_gcd) : C8.Cal P w K mg base 1 "_law_gcd" spGcd [] := by
  refine cal_of D sc_l_gcd (fun vs H Q E h => ?_) (fun f cdv A outer s H vs Q E hr h => ?_)
  · obtain ⟨x, y, rfl, _⟩ := h
    rfl
  · obtain ⟨x, y, rfl, hx, hy, q⟩ := h
    refine ⟨_, (pss_cons (ps_while PassesOwn.never (pt_cmpR op_gt (pv 1) pe_int (nomark _))
      (pss_one (ps_par (i := 0) (j := 1) rfl sc_l_gcd.nd rfl rfl (by decide) rfl rfl (pa_cons (pv 1) (pa_cons (pe_op op_mod (pv 0) (pv 1)) pa_nil)) rfl)))
    (pss_one (ps_ret (pv 0)))), ?_⟩
    refine while_by (fun σ H' => ∃ u v : Int, σ = [some (.int u), some (.int v)] ∧ 0 ≤ u ∧ 0 ≤ v ∧ Int.gcd u v = Int.gcd x y ∧ H' = H) mu1 ⟨x, y, rfl, hx, hy, rfl, rfl⟩ ?_ ?_
    · rintro σ H' ⟨u, v, rfl, hu, hv, e, rfl⟩
      refine ⟨_, rfl, _, _, rfl, rfl, _, rfl, ite2 (fun c => ?_) (fun c => ?_)⟩
      · have hv0 : 0 < v := of_decide_eq_true c
        refine ⟨_, rfl, _, rfl, _, rfl, _, _, rfl, rfl, hv0, _, _, rfl, ⟨v, u % v, rfl, hv, Int.emod_nonneg _ (by omega), ?_, rfl⟩, ?_⟩
        · rw [gcd_turn u v hu hv0]; exact e
        · show (u % v).toNat < v.toNat
          have := Int.emod_lt_of_pos u hv0
          omega
      · have hv0 : v = 0 := by
          have : ¬ 0 < v := fun z => c (decide_eq_true z)
          omega
        subst hv0
        refine ⟨_, rfl, ?_⟩
        have e2 : (Int.gcd x y : Int) = u := by
          rw [← e, Int.gcd_zero_right]
          omega
        rw [← e2]
        exact q
    · rintro σ H' Q1 Q2 hQ ⟨v, h1, i, j, h2, h3, b, h4, h5⟩
      exact ⟨v, h1, i, j, h2, h3, b, h4, hQ _ _ h5⟩
def spLowest : Sp := fun vs H Q _ => ∃ (p q c : Int), vs = [.int p, .int q, .int c] ∧ 0 ≤ p ∧ 1 ≤ q ∧ Bd 9000 q ∧
  ∀ r H', Same H H' → H' r = some (.tup [.int (p / (Int.gcd p q : Int)), .int (q / (Int.gcd p q : Int)), .int (c / (Int.gcd p q : Int))]) → Q (.ref r) H'
abbrev s_l_lowest : Stmt := topS 39
abbrev N_l_lowest : List Str := ["_law_p", "_law_q", "_law_c", "_law_both"]
abbrev P_l_lowest : List Str := ["_law_p", "_law_q", "_law_c"]
theorem sc_l_lowest : FnScope N_l_lowest P_l_lowest (defScope s_l_lowest) := ⟨rfl, rfl, rfl, by decide +kernel, rfl, by decide +kernel, by decide +kernel⟩
theorem ok_l_lowest (D : Df K mg "_law_lowest" s_l_lowest P_l_lowest) (c_l_gcd : C8.Cal P w K mg base 1 "_law_gcd" spGcd []) : C8.Cal P w K mg base 2 "_law_lowest" spLowest [] := by
  refine cal_of D sc_l_lowest (fun vs H Q E h => ?_) (fun f cdv A outer s H vs Q E hr h => ?_)
  · obtain ⟨p, q, c, rfl, _⟩ := h
    rfl
  · obtain ⟨p, q, c, rfl, hp, hq, hb, k⟩ := h
    refine ⟨_, (pss_cons (ps_set (i := 3) sc_l_lowest.nd rfl (Or.inl rfl) (C8.pe_c c_l_gcd hr (by decide) (by rfl) (pa_cons (pv 0) (pa_cons (pv 1) pa_nil))))
    (pss_one (ps_ret (pe_tup (pa_cons (pe_op op_fdivW (pv 0) (pv 3)) (pa_cons (pe_op op_fdivW (pv 1) (pv 3)) (pa_cons (pe_op op_fdivW (pv 2) (pv 3)) pa_nil))))))), ?_⟩
    have hg := gcd_pos (p := p) hq
    have hd : CDivW 0 (Int.gcd p q : Int) := ⟨hg, (hb.between (by omega) (gcd_le hq)).log (by decide)⟩
    refine ⟨_, rfl, _, rfl, p, q, rfl, hp, by omega, ?_⟩
    refine ⟨_, rfl, _, rfl, _, _, rfl, rfl, hd, _, rfl, _, rfl, _, _, rfl, rfl, hd, _, rfl, _, rfl, _, _, rfl, rfl, hd, len10 (by simp), fun r nr => ?_⟩
    exact k r _ (sm_upd nr) upd_same
/-! ### _law_rule, _law_far_rule -/
def spRule : Sp := fun vs H Q _ => ∃ (a : PA) (n : Nat) (m : Int), vs = [.ref a, .int m] ∧ Pen H a n ∧ n < 2 ^ 38 ∧ 1 ≤ m ∧ m ≤ 1048576 ∧
  ∀ r p q c H', RuleB 24 p q c → q ≤ m → p ≤ 3 * m → H' r = some (.tup [.int p, .int q, .int c]) → Pen H' a (n + 8) → Fr H H' → Q (.ref r) H'
abbrev s_l_rule : Stmt := topS 40
abbrev N_l_rule : List Str := ["_law_pen_here", "_law_most", "_law_q", "_law_p"]
abbrev P_l_rule : List Str := ["_law_pen_here", "_law_most"]
theorem sc_l_rule : FnScope N_l_rule P_l_rule (defScope s_l_rule) := ⟨rfl, rfl, rfl, by decide +kernel, rfl, by decide +kernel, by decide +kernel⟩
theorem ok_l_rule (D : Df K mg "_law_rule" s_l_rule P_l_rule) (B : Bi mg) (c_l_draw : C8.Cal P w K mg base 1 "_law_draw" spDraw []) (c_l_pick : C8.Cal P w K mg base 2 "_law_pick" spPick []) (c_l_lowest : C8.Cal P w K mg base 2 "_law_lowest" spLowest []) : C8.Cal P w K mg base 3 "_law_rule" spRule [] := by
  refine cal_of D sc_l_rule (fun vs H Q E h => ?_) (fun f cdv A outer s H vs Q E hr h => ?_)
  · obtain ⟨a, n, d, rfl, _⟩ := h
    rfl
  · obtain ⟨a, n, m, rfl, hP, hn, hm1, hm2, k⟩ := h
    refine ⟨_, (pss_cons (ps_set (i := 2) sc_l_rule.nd rfl (Or.inl rfl) (pe_op op_add pe_int (C8.pe_c c_l_draw hr (by decide) (by rfl) (pa_cons (pv 0) (pa_cons (pv 1) pa_nil)))))
    (pss_cons (ps_set (i := 3) sc_l_rule.nd rfl (Or.inl rfl) (C8.pe_c c_l_pick hr (by decide) (by rfl) (pa_cons (pv 0) (pa_cons (pe_lst (pa_cons pe_int (pa_cons pe_int (pa_cons (C8.pe_c c_l_draw hr (by decide) (by rfl) (pa_cons (pv 0) (pa_cons (pe_op op_add (pv 2) pe_int) pa_nil))) (pa_cons (C8.pe_c c_l_draw hr (by decide) (by rfl) (pa_cons (pv 0) (pa_cons (pe_op op_add (pv 2) pe_int) pa_nil))) (pa_cons (C8.pe_c c_l_draw hr (by decide) (by rfl) (pa_cons (pv 0) (pa_cons (pe_op op_mul pe_int (pv 2)) pa_nil))) (pa_cons (pe_op op_add (pv 2) pe_int) pa_nil))))))) pa_nil))))
    (pss_one (ps_ret (C8.pe_c c_l_lowest hr (by decide) (by rfl) (pa_cons (pv 3) (pa_cons (pv 2) (pa_cons (C8.pe_c c_l_pick hr (by decide) (by rfl) (pa_cons (pv 0) (pa_cons (pe_lst (pa_cons pe_int (pa_cons (C8.pe_c c_l_draw hr (by decide) (by rfl) (pa_cons (pv 0) (pa_cons (pv 2) pa_nil))) (pa_cons (pe_op op_sub (C8.pe_c c_l_draw hr (by decide) (by rfl) (pa_cons (pv 0) (pa_cons (pe_op op_mul pe_int (pv 2)) pa_nil))) (pe_op op_mul pe_int (pv 2))) pa_nil)))) pa_nil))) pa_nil)))))))), ?_⟩
    refine ⟨_, rfl, _, rfl, a, n, _, rfl, hP, by omega, by omega, Bd.small 21 (by omega) (by decide), fun d H1 d0 d1 hP1 f1 => ?_⟩
    refine ⟨_, _, rfl, rfl, ?_⟩
    -- p
    refine ⟨_, rfl, _, rfl, _, rfl, _, _, rfl, rfl, a, _, _, rfl, hP1, by omega, by omega, Bd.small 22 (by omega) (by decide), fun p1 H2 p10 p11 hP2 f2 => ?_⟩
    refine ⟨_, rfl, _, rfl, _, _, rfl, rfl, a, _, _, rfl, hP2, by omega, by omega, Bd.small 22 (by omega) (by decide), fun p2 H3 p20 p21 hP3 f3 => ?_⟩
    refine ⟨_, rfl, _, rfl, _, _, rfl, rfl, .inl ⟨by decide, by decide⟩, a, _, _, rfl, hP3, by omega, by omega, Bd.small 24 (by omega) (by decide), fun p3 H4 p30 p31 hP4 f4 => ?_⟩
    refine ⟨_, rfl, _, _, rfl, rfl, len10 (by simp), fun l nl => ?_⟩
    refine ⟨a, l, _, _, rfl, hP4.new nl, by omega, upd_same, by simp, by simp, fun x H5 hx hP5 f5 => ?_⟩
    obtain ⟨p, rfl, hp0, hp3⟩ : ∃ p, x = V.int p ∧ 0 ≤ p ∧ p ≤ 3 * m := by
      simp only [List.mem_cons, List.not_mem_nil, or_false] at hx
      rcases hx with rfl | rfl | rfl | rfl | rfl | rfl <;> exact ⟨_, rfl, by omega, by omega⟩
    -- c
    refine ⟨_, rfl, _, rfl, _, rfl, _, rfl, _, rfl, a, _, _, rfl, hP5, by omega, by omega, Bd.small 22 (by omega) (by decide), fun c1 H6 c10 c11 hP6 f6 => ?_⟩
    refine ⟨_, rfl, _, rfl, _, _, rfl, rfl, .inl ⟨by decide, by decide⟩, a, _, _, rfl, hP6, by omega, by omega, Bd.small 24 (by omega) (by decide), fun c2 H7 c20 c21 hP7 f7 => ?_⟩
    refine ⟨_, rfl, _, _, rfl, rfl, .inl ⟨by decide, by decide⟩, _, _, rfl, rfl, len10 (by simp), fun l2 nl2 => ?_⟩
    refine ⟨a, l2, _, _, rfl, hP7.new nl2, by omega, upd_same, by simp, by simp, fun y H8 hy hP8 f8 => ?_⟩
    obtain ⟨c, rfl, bc⟩ : ∃ c, y = V.int c ∧ Bd 24 c := by
      simp only [List.mem_cons, List.not_mem_nil, or_false] at hy
      rcases hy with rfl | rfl | rfl
      · exact ⟨_, rfl, Bd.small 22 (by decide) (by decide)⟩
      · exact ⟨_, rfl, Bd.small 22 (by omega) (by decide)⟩
      · exact ⟨_, rfl, Bd.small 24 (by omega) (by decide)⟩
    refine ⟨p, 1 + d, c, rfl, hp0, by omega, Bd.small 22 (by omega) (by decide), fun r H9 s9 er => ?_⟩
    have hq1 : (1 : Int) ≤ 1 + d := by omega
    have R := low_rule (k := 24) (c := c) hp0 hq1 (Bd.small 24 (by omega) (by decide)) (Bd.small 24 (by omega) (by decide)) bc
    refine k r _ _ _ H9 R ?_ ?_ er ((hP8.same s9).mono (by omega)) ?_
    · have := low_le (p := p) hq1
      omega
    · have := Int.ediv_le_self (Int.gcd p (1 + d) : Int) hp0
      omega
    · exact f1.trans (f2.trans (f3.trans (f4.trans ((Fr.new nl).trans (f5.trans (f6.trans (f7.trans ((Fr.new nl2).trans (f8.trans (Fr.same s9))))))))))
end
end Lf
namespace Lf
open PySem PySem.Spec PyProof.Rows L2
section
variable {P : Program} {w : World} {K : PySem.W.Frag} {mg : Str → Option Value} {base : Heap}
def spFar : Sp := fun vs H Q _ => ∃ (a : PA) (n : Nat) (d : Int), vs = [.ref a, .int d] ∧ Pen H a n ∧ n < 2 ^ 37 ∧ 6 ≤ d ∧ d ≤ 1200 ∧
  ∀ r p q c H', RuleB (20 * (d / 6).toNat + 2) p q c → H' r = some (.tup [.int p, .int q, .int c]) → Pen H' a (n + 9 + 4 * (d / 6).toNat) → Fr H H' → Q (.ref r) H'
abbrev s_l_far_rule : Stmt := topS 41
abbrev N_l_far_rule : List Str := ["_law_pen_here", "_law_digits", "_law_q", "_law_p"]
abbrev P_l_far_rule : List Str := ["_law_pen_here", "_law_digits"]
theorem sc_l_far_rule : FnScope N_l_far_rule P_l_far_rule (defScope s_l_far_rule) := ⟨rfl, rfl, rfl, by decide +kernel, rfl, by decide +kernel, by decide +kernel⟩
theorem ok_l_far_rule (D : Df K mg "_law_far_rule" s_l_far_rule P_l_far_rule) (B : Bi mg) (c_l_pick : C8.Cal P w K mg base 2 "_law_pick" spPick []) (c_l_great : C8.Cal P w K mg base 2 "_law_great" spGreat []) (c_l_signed : C8.Cal P w K mg base 3 "_law_signed" spSigned []) (c_l_lowest : C8.Cal P w K mg base 2 "_law_lowest" spLowest []) : C8.Cal P w K mg base 4 "_law_far_rule" spFar [] := by
  refine cal_of D sc_l_far_rule (fun vs H Q E h => ?_) (fun f cdv A outer s H vs Q E hr h => ?_)
  · obtain ⟨a, n, d, rfl, _⟩ := h
    rfl
  · obtain ⟨a, n, d, rfl, hP, hn, h6, h12, k⟩ := h
    refine ⟨_, (pss_cons (ps_set (i := 2) sc_l_far_rule.nd rfl (Or.inl rfl) (pe_op op_add pe_int (C8.pe_c c_l_great hr (by decide) (by rfl) (pa_cons (pv 0) (pa_cons (pv 1) pa_nil)))))
    (pss_cons (ps_set (i := 3) sc_l_far_rule.nd rfl (Or.inl rfl) (C8.pe_c c_l_pick hr (by decide) (by rfl) (pa_cons (pv 0) (pa_cons (pe_lst (pa_cons (C8.pe_c c_l_great hr (by decide) (by rfl) (pa_cons (pv 0) (pa_cons (pv 1) pa_nil))) (pa_cons (pe_op op_mod (C8.pe_c c_l_great hr (by decide) (by rfl) (pa_cons (pv 0) (pa_cons (pv 1) pa_nil))) (pe_op op_add (pv 2) pe_int)) (pa_cons pe_int (pa_cons (pe_op op_add (pv 2) pe_int) (pa_cons pe_int pa_nil)))))) pa_nil))))
    (pss_one (ps_ret (C8.pe_c c_l_lowest hr (by decide) (by rfl) (pa_cons (pv 3) (pa_cons (pv 2) (pa_cons (C8.pe_c c_l_signed hr (by decide) (by rfl) (pa_cons (pv 0) (pa_cons (pv 1) pa_nil))) pa_nil)))))))), ?_⟩
    refine ⟨_, rfl, _, rfl, a, n, d, rfl, hP, by omega, h6, h12, fun g H1 g0 gb hP1 f1 => ?_⟩
    refine ⟨_, _, rfl, rfl, ?_⟩
    refine ⟨_, rfl, _, rfl, _, rfl, a, _, d, rfl, hP1, by omega, h6, h12, fun g1 H2 g10 gb1 hP2 f2 => ?_⟩
    refine ⟨_, rfl, _, rfl, a, _, d, rfl, hP2, by omega, h6, h12, fun g2 H3 g20 gb2 hP3 f3 => ?_⟩
    refine ⟨_, rfl, _, _, rfl, rfl, _, _, rfl, rfl, (by show (0 : Int) < 1 + g + 1; omega), ?_⟩
    refine ⟨_, rfl, _, _, rfl, rfl, len10 (by simp), fun l nl => ?_⟩
    refine ⟨a, l, _, _, rfl, hP3.new nl, by omega, upd_same, by simp, by simp, fun x H4 hx hP4 f4 => ?_⟩
    have one : ∀ j : Nat, Bd (j + 1) 1 := fun j => Bd.small 1 (by decide) (by omega)
    have bq : Bd (20 * (d / 6).toNat + 1) (1 + g) := Bd.add (Bd.small 1 (by decide) (by omega)) gb
    have bq1 : Bd (20 * (d / 6).toNat + 2) (1 + g + 1) := Bd.add bq (Bd.small 1 (by decide) (by omega))
    obtain ⟨p, rfl, hp0, bp⟩ : ∃ p, x = V.int p ∧ 0 ≤ p ∧ Bd (20 * (d / 6).toNat + 2) p := by
      simp only [List.mem_cons, List.not_mem_nil, or_false] at hx
      rcases hx with rfl | rfl | rfl | rfl | rfl
      · exact ⟨_, rfl, g10, gb1.mono (by omega)⟩
      · exact ⟨_, rfl, Int.emod_nonneg _ (by omega), bq1.emod (by omega)⟩
      · exact ⟨_, rfl, by omega, Bd.small 1 (by decide) (by omega)⟩
      · exact ⟨_, rfl, by omega, bq1⟩
      · exact ⟨_, rfl, by omega, Bd.small 1 (by decide) (by omega)⟩
    refine ⟨_, rfl, _, rfl, _, rfl, _, rfl, a, _, d, rfl, hP4, by omega, h6, h12, fun c H5 cb hP5 f5 => ?_⟩
    refine ⟨p, 1 + g, c, rfl, hp0, by omega, bq.mono (by omega), fun r H9 s9 er => ?_⟩
    have hq1 : (1 : Int) ≤ 1 + g := by omega
    have R := low_rule (k := 20 * (d / 6).toNat + 2) hp0 hq1 bp (bq.mono (by omega)) (cb.mono (by omega))
    exact k r _ _ _ H9 R er ((hP5.same s9).mono (by omega)) (f1.trans (f2.trans (f3.trans ((Fr.new nl).trans (f4.trans (f5.trans (Fr.same s9)))))))
end
end Lf
namespace Lf
open PySem PySem.Spec PyProof.Rows L2
theorem iteD {c A B : Prop} [Decidable c] (hc : c) (h : A) : if decide c = true then A else B := by
  rw [if_pos (decide_eq_true hc)]
  exact h
theorem iteDn {c A B : Prop} [Decidable c] (hc : ¬ c) (h : B) : if decide c = true then A else B := by
  rw [if_neg (fun z => hc (of_decide_eq_true z))]
  exact h
theorem iteTs {b : Bool} {A B : Prop} (h : b = true) (hA : A) : if b = true then A else B := by
  rw [h, if_pos rfl]
  exact hA
theorem iteFz {b : Bool} {A B : Prop} (h : b = false) (hB : B) : if b = true then A else B := by
  rw [h, if_neg Bool.false_ne_true]
  exact hB
theorem bool_f {b : Bool} (h : ¬ b = true) : b = false := by
  cases b
  · rfl
  · exact absurd rfl h
theorem lenS {n : Nat} (h : n ≤ 100000) : n ≤ sizeLine := by
  rw [sizeLine_eq]
  omega
theorem ltS {n : Nat} (h : n ≤ 100000) : n < sizeLine := by
  rw [sizeLine_eq]
  omega
theorem flat_is (ns : List Int) : (ns.map V.int).all flatV = true := by
  induction ns with
  | nil => rfl
  | cons n r ih => simpa [flatV] using ih
theorem mulW {a b : Nat} {x y : Int} (h : Bd a x) (h2 : Bd b y) (ha : 0 < a) (hb : 0 < b) (hab : a + b ≤ 1000000) : CMulW x y := wide_mul h h2 ha hb hab
theorem divW {b : Nat} {x y : Int} (h0 : 0 < y) (h : Bd b y) (hb : b ≤ 9000) : CDivW x y := ⟨h0, (h.mono hb).log (by decide)⟩
theorem divP {b : Nat} {x y : Int} (h0 : 0 < y) (h : Bd b y) (hb : b ≤ 9000) : CDivP x y := ⟨h0, PyProof.noPylong_of_log2 ((h.mono hb).log (by decide))⟩
theorem kii : kitB "int" "int" = some true := by decide +kernel
theorem kib : kitB "int" "bool" = some false := by decide +kernel
theorem ktt : kitB "tuple" "tuple" = some true := by decide +kernel
section
variable {P : Program} {w : World} {K : PySem.W.Frag} {mg : Str → Option Value} {base : Heap}
/-! ### integers -/
def spIsInt : Sp := fun vs H Q _ => ∃ i : Int, vs = [.int i] ∧ Q (.bl true) H
abbrev s_is_integer : Stmt := topS 7
abbrev N_is_integer : List Str := ["value"]
abbrev P_is_integer : List Str := ["value"]
theorem sc_is_integer : FnScope N_is_integer P_is_integer (defScope s_is_integer) := ⟨rfl, rfl, rfl, by decide +kernel, rfl, by decide +kernel, by decide +kernel⟩
theorem ok_is_integer (D : Df K mg "is_integer" s_is_integer P_is_integer) (B : Bi mg) : C8.Cal P w K mg base 1 "is_integer" spIsInt [] := by
  refine cal_of D sc_is_integer (fun vs H Q E h => ?_) (fun f cdv A outer s H vs Q E hr h => ?_)
  · obtain ⟨i, rfl, _⟩ := h
    rfl
  · obtain ⟨i, rfl, q⟩ := h
    refine ⟨_, (pss_one (ps_ret (pe_and (pe_callB (call_isi) (by rfl) B.isinstance_ bt_isinstance (pa_cons (pv 0) (pa_cons (pe_bltn (v := .ty "int") (by rfl) B.int_ bt_int rfl) pa_nil))) (pe_one (pe_not (pe_callB (call_isi) (by rfl) B.isinstance_ bt_isinstance (pa_cons (pv 0) (pa_cons (pe_bltn (v := .ty "bool") (by rfl) B.bool_ bt_bool rfl) pa_nil)))))))), ?_⟩
    refine ⟨_, rfl, _, _, _, _, true, rfl, .ty "int", .base (.int i), kit_ty kii, true, rfl, iteT ?_⟩
    exact ⟨_, rfl, _, _, _, _, false, rfl, .ty "bool", .base (.int i), kit_ty kib, false, rfl, q⟩
def spCheckInt : Sp := fun vs H Q _ => ∃ i : Int, vs = [.int i] ∧ Q .non H
abbrev s_check_integer : Stmt := topS 8
abbrev N_check_integer : List Str := ["value"]
abbrev P_check_integer : List Str := ["value"]
theorem sc_check_integer : FnScope N_check_integer P_check_integer (defScope s_check_integer) := ⟨rfl, rfl, rfl, by decide +kernel, rfl, by decide +kernel, by decide +kernel⟩
theorem ok_check_integer (D : Df K mg "check_integer" s_check_integer P_check_integer) (c_is_integer : C8.Cal P w K mg base 1 "is_integer" spIsInt []) : C8.Cal P w K mg base 2 "check_integer" spCheckInt [] := by
  refine cal_of D sc_check_integer (fun vs H Q E h => ?_) (fun f cdv A outer s H vs Q E hr h => ?_)
  · obtain ⟨i, rfl, _⟩ := h
    rfl
  · obtain ⟨i, rfl, q⟩ := h
    refine ⟨_, (pss_one (ps_if (pt_not (pt_val (C8.pe_c c_is_integer hr (by decide) (by rfl) (pa_cons (pv 0) pa_nil))))
      (pss_one ps_never)
      pss_nil)), ?_⟩
    exact ⟨_, rfl, i, rfl, true, rfl, iteF q⟩
end
end Lf
namespace Lf
open PySem PySem.Spec PyProof.Rows L2
section
variable {P : Program} {w : World} {K : PySem.W.Frag} {mg : Str → Option Value} {base : Heap}
def spCheckAL : Sp := fun vs H Q _ => ∃ v l : Int, vs = [.int v, .int l] ∧ l ≤ v ∧ Q .non H
end
end Lf
namespace Lf
open PySem PySem.Spec PyProof.Rows L2
section
variable {P : Program} {w : World} {K : PySem.W.Frag} {mg : Str → Option Value} {base : Heap}
abbrev s_gcd : Stmt := topS 9
abbrev N_gcd : List Str := ["first", "second"]
abbrev P_gcd : List Str := ["first", "second"]
theorem sc_gcd : FnScope N_gcd P_gcd (defScope s_gcd) := ⟨rfl, rfl, rfl, by decide +kernel, rfl, by decide +kernel, by decide +kernel⟩
theorem ok_gcd (D : Df K mg "gcd" s_gcd P_gcd) : C8.Cal P w K mg base 1 "gcd" spGcd [] := by
  refine cal_of D sc_gcd (fun vs H Q E h => ?_) (fun f cdv A outer s H vs Q E hr h => ?_)
  · obtain ⟨x, y, rfl, _⟩ := h
    rfl
  · obtain ⟨x, y, rfl, hx, hy, q⟩ := h
    refine ⟨_, (pss_cons (ps_while PassesOwn.never (pt_truth (pv 1) (fun _ => rfl))
      (pss_one (ps_par (i := 0) (j := 1) rfl sc_gcd.nd rfl rfl (by decide) rfl rfl (pa_cons (pv 1) (pa_cons (pe_op op_mod (pv 0) (pv 1)) pa_nil)) rfl)))
    (pss_one (ps_ret (pv 0)))), ?_⟩
    refine while_by (fun σ H' => ∃ u v : Int, σ = [some (.int u), some (.int v)] ∧ 0 ≤ u ∧ 0 ≤ v ∧ Int.gcd u v = Int.gcd x y ∧ H' = H) mu1 ⟨x, y, rfl, hx, hy, rfl, rfl⟩ ?_ ?_
    · rintro σ H' ⟨u, v, rfl, hu, hv, e, rfl⟩
      refine ⟨_, rfl, _, rfl, ite2 (fun c => ?_) (fun c => ?_)⟩
      · have hv0 : 0 < v := by
          have : v ≠ 0 := by simpa using c
          omega
        refine ⟨_, rfl, _, rfl, _, rfl, _, _, rfl, rfl, hv0, _, _, rfl, ⟨v, u % v, rfl, hv, Int.emod_nonneg _ (by omega), ?_, rfl⟩, ?_⟩
        · rw [gcd_turn u v hu hv0]; exact e
        · show (u % v).toNat < v.toNat
          have := Int.emod_lt_of_pos u hv0
          omega
      · have hv0 : v = 0 := by simpa using c
        subst hv0
        refine ⟨_, rfl, ?_⟩
        have e2 : (Int.gcd x y : Int) = u := by
          rw [← e, Int.gcd_zero_right]
          omega
        rw [← e2]
        exact q
    · rintro σ H' Q1 Q2 hQ ⟨v, h1, b, h4, h5⟩
      exact ⟨v, h1, b, h4, hQ _ _ h5⟩
/-! ### rules -/
def spIsRule : Sp := fun vs H Q _ => ∃ (r : Addr) (p q c : Int) (k : Nat), vs = [.ref r] ∧ H r = some (.tup [.int p, .int q, .int c]) ∧ RuleB k p q c ∧ ∀ H', Same H H' → Q (.bl true) H'
abbrev s_is_rule : Stmt := topS 11
abbrev N_is_rule : List Str := ["value", "item"]
abbrev P_is_rule : List Str := ["value"]
theorem sc_is_rule : FnScope N_is_rule P_is_rule (defScope s_is_rule) := ⟨rfl, rfl, rfl, by decide +kernel, rfl, by decide +kernel, by decide +kernel⟩
theorem ok_is_rule (D : Df K mg "is_rule" s_is_rule P_is_rule) (B : Bi mg) (c_is_integer : C8.Cal P w K mg base 1 "is_integer" spIsInt []) (c_gcd : C8.Cal P w K mg base 1 "gcd" spGcd []) : C8.Cal P w K mg base 2 "is_rule" spIsRule [] := by
  refine cal_of D sc_is_rule (fun vs H Q E h => ?_) (fun f cdv A outer s H vs Q E hr h => ?_)
  · obtain ⟨r, p, q, c, k, rfl, _⟩ := h
    rfl
  · obtain ⟨r, p, q, c, k, rfl, er, R, kk⟩ := h
    refine ⟨_, (pss_cons (ps_if (PW.pt (pw_or (pt_not (pt_val (pe_callB (call_isi) (by rfl) B.isinstance_ bt_isinstance (pa_cons (pv 0) (pa_cons (pe_bltn (v := .ty "tuple") (by rfl) B.tuple_ bt_tuple rfl) pa_nil))))) (pw_or1 (pt_cmpR op_ne (pe_callB (call_len_seq) (by rfl) B.len_ bt_len (pa_cons (pv 0) pa_nil)) pe_int (nomark _)))))
      (pss_one (ps_ret pe_bl))
      pss_nil)
    (pss_cons (ps_if (pt_not (pt_val (pe_callB (cr_all rfl) (by rfl) B.all_ bt_all (pa_cons (pe_lc (own := [("item", 1)]) (g := (gName 1)) (by rfl) sc_is_rule.nd (pi_tup (pv 0)) (blkOk_by (own := [("item", 1)]) (N := N_is_rule) (sc := defScope s_is_rule) (by decide +kernel)) (fun _ _ _ _ _ => (pg_name (i := 1) sc_is_rule.nd rfl (Or.inl rfl))) (fun _ _ _ _ _ => pts_nil) (fun _ _ _ _ _ => (C8.pe_c c_is_integer hr (by decide) (by rfl) (pa_cons (pv 1) pa_nil)))) pa_nil))))
      (pss_one (ps_ret pe_bl))
      pss_nil)
    (pss_one (ps_ret (pe_and (pe_cmpR op_ge (pe_ix (r := rIxT K) ix_tup (pv 0) pe_int (fun _ _ => rfl)) pe_int (nomark _)) (pe_and (pe_cmpR op_ge (pe_ix (r := rIxT K) ix_tup (pv 0) pe_int (fun _ _ => rfl)) pe_int (nomark _)) (pe_one (pe_cmpR op_eq (C8.pe_c c_gcd hr (by decide) (by rfl) (pa_cons (pe_ix (r := rIxT K) ix_tup (pv 0) pe_int (fun _ _ => rfl)) (pa_cons (pe_ix (r := rIxT K) ix_tup (pv 0) pe_int (fun _ _ => rfl)) pa_nil))) pe_int (nomark _))))))))), ?_⟩
    refine ⟨_, rfl, _, _, _, _, true, rfl, .ty "tuple", .base (.tup er), kit_ty ktt, true, rfl, iteF ?_⟩
    refine ⟨_, rfl, r, _, rfl, .inr (SqT.of er), rfl, _, rfl, iteNS rfl ?_⟩
    refine ⟨_, rfl, r, rfl, ⟨_, SqT.of er⟩, fun L nL => ?_⟩
    refine lc_tup (K := K) (a := r) (xs := [.int p, .int q, .int c]) (fun i H' => Same H H' ∧ H' L = some (.lst (List.replicate i (V.bl true)))) ?_ ?_ ?_ ?_
    · exact ⟨sm_upd nL, upd_same⟩
    · rintro i H' hi ⟨s1, _⟩
      exact SqT.of (s1 _ _ er)
    · rintro i x H' hx ⟨s1, eL⟩
      have hi : i < 3 := (List.getElem?_eq_some_iff.mp hx).1
      obtain ⟨z, rfl⟩ : ∃ z, x = V.int z := by
        match i, hi with
        | 0, _ => exact ⟨p, (Option.some.inj hx).symm⟩
        | 1, _ => exact ⟨q, (Option.some.inj hx).symm⟩
        | 2, _ => exact ⟨c, (Option.some.inj hx).symm⟩
      refine ⟨rfl, _, rfl, z, rfl, _, eL, ?_, ?_, ?_⟩
      · rw [List.length_replicate]
        exact small1000 (by omega)
      · intro b o eb
        rw [upd_ne (ne_of_none eb nL)]
        exact s1 _ _ eb
      · rw [upd_same, ← List.replicate_succ']
    · rintro H' ⟨s1, eL⟩
      have eL' : H' L = some (.lst ([true, true, true].map V.bl)) := eL
      refine ⟨L, [true, true, true], rfl, SqL.of eL', true, rfl, iteF ?_⟩
      have er' := s1 _ _ er
      refine ⟨_, rfl, r, _, _, _, rfl, rfl, SqT.of er', atI_nat (j := 0) rfl, _, _, rfl, rfl, _, rfl, iteD R.p0 ?_⟩
      refine ⟨_, rfl, r, _, _, _, rfl, rfl, SqT.of er', atI_nat (j := 1) rfl, _, _, rfl, rfl, _, rfl, iteD R.q1 ?_⟩
      refine ⟨_, rfl, r, _, _, _, rfl, rfl, SqT.of er', atI_nat (j := 0) rfl, _, rfl, r, _, _, _, rfl, rfl, SqT.of er', atI_nat (j := 1) rfl, p, q, rfl, R.p0, by have := R.q1; omega, rfl, ?_⟩
      rw [R.g]
      exact kk _ s1
def spCheckRule : Sp := fun vs H Q _ => ∃ (r : Addr) (p q c : Int) (k : Nat), vs = [.ref r] ∧ H r = some (.tup [.int p, .int q, .int c]) ∧ RuleB k p q c ∧ ∀ H', Same H H' → Q .non H'
abbrev s_check_rule : Stmt := topS 12
abbrev N_check_rule : List Str := ["value"]
abbrev P_check_rule : List Str := ["value"]
theorem sc_check_rule : FnScope N_check_rule P_check_rule (defScope s_check_rule) := ⟨rfl, rfl, rfl, by decide +kernel, rfl, by decide +kernel, by decide +kernel⟩
theorem ok_check_rule (D : Df K mg "check_rule" s_check_rule P_check_rule) (c_is_rule : C8.Cal P w K mg base 2 "is_rule" spIsRule []) : C8.Cal P w K mg base 3 "check_rule" spCheckRule [] := by
  refine cal_of D sc_check_rule (fun vs H Q E h => ?_) (fun f cdv A outer s H vs Q E hr h => ?_)
  · obtain ⟨r, p, q, c, k, rfl, _⟩ := h
    rfl
  · obtain ⟨r, p, q, c, k, rfl, er, R, kk⟩ := h
    refine ⟨_, (pss_one (ps_if (pt_not (pt_val (C8.pe_c c_is_rule hr (by decide) (by rfl) (pa_cons (pv 0) pa_nil))))
      (pss_one ps_never)
      pss_nil)), ?_⟩
    exact ⟨_, rfl, r, p, q, c, k, rfl, er, R, fun H' s1 => ⟨true, rfl, iteF (kk _ s1)⟩⟩
end
end Lf
namespace Lf
open PySem PySem.Spec PyProof.Rows L2
section
variable {P : Program} {w : World} {K : PySem.W.Frag} {mg : Str → Option Value} {base : Heap}
/-! ### count -/
def spCount : Sp := fun vs H Q _ => ∃ (r : Addr) (p q c t : Int) (k : Nat), vs = [.ref r, .int t] ∧ H r = some (.tup [.int p, .int q, .int c]) ∧ RuleB k p q c ∧ Bd k t ∧ 0 < k ∧ k ≤ 4000 ∧
  ∀ H', Same H H' → Q (.int ((p * t + c) / q)) H'
abbrev s_count : Stmt := topS 13
abbrev N_count : List Str := ["rule", "time", "p", "q", "c"]
abbrev P_count : List Str := ["rule", "time"]
theorem sc_count : FnScope N_count P_count (defScope s_count) := ⟨rfl, rfl, rfl, by decide +kernel, rfl, by decide +kernel, by decide +kernel⟩
theorem ok_count (D : Df K mg "count" s_count P_count) (c_check_rule : C8.Cal P w K mg base 3 "check_rule" spCheckRule []) (c_check_integer : C8.Cal P w K mg base 2 "check_integer" spCheckInt []) : C8.Cal P w K mg base 4 "count" spCount [] := by
  refine cal_of D sc_count (fun vs H Q E h => ?_) (fun f cdv A outer s H vs Q E hr h => ?_)
  · obtain ⟨r, p, q, c, t, k, rfl, _⟩ := h
    rfl
  · obtain ⟨r, p, q, c, t, k, rfl, er, R, bt, k0, k3, kk⟩ := h
    refine ⟨_, (pss_cons (ps_expr (C8.pe_c c_check_rule hr (by decide) (by rfl) (pa_cons (pv 0) pa_nil)))
    (pss_cons (ps_expr (C8.pe_c c_check_integer hr (by decide) (by rfl) (pa_cons (pv 1) pa_nil)))
    (pss_cons (ps_asg (pv 0) (pg_tup rfl (pgs_cons (pg_name (i := 2) sc_count.nd rfl (Or.inl rfl)) (pgs_cons (pg_name (i := 3) sc_count.nd rfl (Or.inl rfl)) (pgs_cons (pg_name (i := 4) sc_count.nd rfl (Or.inl rfl)) pgs_nil)))))
    (pss_one (ps_ret (pe_op op_fdivW (pe_op op_add (pe_op op_mulW (pv 2) (pv 1)) (pv 4)) (pv 3))))))), ?_⟩
    refine ⟨_, rfl, r, p, q, c, k, rfl, er, R, fun H1 s1 => ?_⟩
    refine ⟨_, rfl, t, rfl, ?_⟩
    refine ⟨_, rfl, r, _, rfl, SqT.of (s1 _ _ er), rfl, _, _, rfl, _, _, rfl, _, _, rfl, rfl, ?_⟩
    refine ⟨_, rfl, _, rfl, _, _, rfl, rfl, mulW R.bp bt k0 k0 (by omega), _, rfl, _, _, rfl, rfl, _, rfl, _, _, rfl, rfl, divW (by have := R.q1; omega) R.bq (by omega), ?_⟩
    exact kk _ s1
end
end Lf
namespace Lf
open PySem PySem.Spec PyProof.Rows L2
section
variable {P : Program} {w : World} {K : PySem.W.Frag} {mg : Str → Option Value} {base : Heap}
def spTally : Sp := fun vs H Q _ => ∃ (r : Addr) (p q c t : Int) (k : Nat), vs = [.ref r, .int t] ∧ H r = some (.tup [.int p, .int q, .int c]) ∧ RuleB k p q c ∧ Bd k t ∧ 0 < k ∧ k ≤ 3000 ∧ Q (.int ((p * t + c) / q)) H
abbrev s_l_tally : Stmt := topS 42
abbrev N_l_tally : List Str := ["_law_rule_here", "_law_time"]
abbrev P_l_tally : List Str := ["_law_rule_here", "_law_time"]
theorem sc_l_tally : FnScope N_l_tally P_l_tally (defScope s_l_tally) := ⟨rfl, rfl, rfl, by decide +kernel, rfl, by decide +kernel, by decide +kernel⟩
theorem ok_l_tally (D : Df K mg "_law_tally" s_l_tally P_l_tally) : C8.Cal P w K mg base 1 "_law_tally" spTally [] := by
  refine cal_of D sc_l_tally (fun vs H Q E h => ?_) (fun f cdv A outer s H vs Q E hr h => ?_)
  · obtain ⟨r, p, q, c, t, k, rfl, _⟩ := h
    rfl
  · obtain ⟨r, p, q, c, t, k, rfl, er, R, bt, k0, k3, kk⟩ := h
    refine ⟨_, (pss_one (ps_ret (pe_op op_fdivW (pe_op op_add (pe_op op_mulW (pe_ix (r := rIxT K) ix_tup (pv 0) pe_int (fun _ _ => rfl)) (pv 1)) (pe_ix (r := rIxT K) ix_tup (pv 0) pe_int (fun _ _ => rfl))) (pe_ix (r := rIxT K) ix_tup (pv 0) pe_int (fun _ _ => rfl))))), ?_⟩
    refine ⟨_, rfl, r, _, _, _, rfl, rfl, SqT.of er, atI_nat (j := 0) rfl, _, rfl, _, _, rfl, rfl, mulW R.bp bt k0 k0 (by omega), ?_⟩
    refine ⟨_, rfl, r, _, _, _, rfl, rfl, SqT.of er, atI_nat (j := 2) rfl, _, _, rfl, rfl, ?_⟩
    refine ⟨_, rfl, r, _, _, _, rfl, rfl, SqT.of er, atI_nat (j := 1) rfl, _, _, rfl, rfl, divW (by have := R.q1; omega) R.bq (by omega), kk⟩
end
end Lf
namespace Lf
open PySem PySem.Spec PyProof.Rows L2
/-! ### objects in a row -/
inductive Obs {α : Type} (O : α → HO) (H : Hp) : List V → List α → Prop
  | nil : Obs O H [] []
  | cons {r : Addr} {vs : List V} {d : α} {ds : List α} : H r = some (O d) → Obs O H vs ds → Obs O H (.ref r :: vs) (d :: ds)
section
variable {α : Type} {O : α → HO} {H H' : Hp}
theorem Obs.len {vs : List V} {ds : List α} (h : Obs O H vs ds) : vs.length = ds.length := by
  induction h with
  | nil => rfl
  | cons _ _ ih => rw [List.length_cons, List.length_cons, ih]
theorem Obs.at {vs : List V} {ds : List α} (h : Obs O H vs ds) : ∀ {i : Nat} {x : V}, vs[i]? = some x → ∃ r d, x = .ref r ∧ H r = some (O d) ∧ ds[i]? = some d := by
  induction h with
  | nil =>
    intro i x e
    cases e
  | cons e0 _ ih =>
    intro i x e
    cases i with
    | zero =>
      cases e
      exact ⟨_, _, rfl, e0, rfl⟩
    | succ i => exact ih e
theorem Obs.on {vs : List V} {ds : List α} (h : Obs O H vs ds) : ∀ {i : Nat} {d : α}, ds[i]? = some d → ∃ r, vs[i]? = some (.ref r) ∧ H r = some (O d) := by
  induction h with
  | nil =>
    intro i x e
    cases e
  | cons e0 _ ih =>
    intro i x e
    cases i with
    | zero =>
      cases e
      exact ⟨_, rfl, e0⟩
    | succ i => exact ih e
theorem Obs.keep {vs : List V} {ds : List α} (h : Obs O H vs ds) (f : ∀ b d, H b = some (O d) → H' b = some (O d)) : Obs O H' vs ds := by
  induction h with
  | nil => exact .nil
  | cons e0 _ ih => exact .cons (f _ _ e0) ih
theorem Obs.same {vs : List V} {ds : List α} (h : Obs O H vs ds) (s : Same H H') : Obs O H' vs ds := h.keep fun b d e => s _ _ e
theorem Obs.snoc {vs : List V} {ds : List α} {r : Addr} {d : α} (h : Obs O H vs ds) (e : H r = some (O d)) : Obs O H (vs ++ [.ref r]) (ds ++ [d]) := by
  induction h with
  | nil => exact .cons e .nil
  | cons e0 _ ih => exact .cons e0 ih
theorem Obs.app {vs us : List V} {ds es : List α} (h : Obs O H vs ds) (h2 : Obs O H us es) : Obs O H (vs ++ us) (ds ++ es) := by
  induction h with
  | nil => exact h2
  | cons e0 _ ih => exact .cons e0 ih
theorem Obs.drop {vs : List V} {ds : List α} (h : Obs O H vs ds) : ∀ n, Obs O H (vs.drop n) (ds.drop n) := by
  induction h with
  | nil =>
    intro n
    rw [List.drop_nil, List.drop_nil]
    exact .nil
  | cons e0 h ih =>
    intro n
    cases n with
    | zero => exact .cons e0 h
    | succ n => exact ih n
theorem Obs.take {vs : List V} {ds : List α} (h : Obs O H vs ds) : ∀ n, Obs O H (vs.take n) (ds.take n) := by
  induction h with
  | nil =>
    intro n
    rw [List.take_nil, List.take_nil]
    exact .nil
  | cons e0 h ih =>
    intro n
    cases n with
    | zero => exact .nil
    | succ n => exact .cons e0 (ih n)
end
/-! ### records -/
structure Rec where
  lo : Bool
  t : Int
  n : Int
def wd : Bool → Str
  | true => "at least"
  | false => "at most"
abbrev rcO (d : Rec) : HO := .tup [.str (wd d.lo), .int d.t, .int d.n]
theorem w_lo (b : Bool) : decide (V.str (wd b) = V.str ("at least" : Str)) = b := by
  cases b
  · exact decide_eq_false (by intro z; exact absurd (V.str.inj z) (by decide +kernel))
  · exact decide_eq_true rfl
theorem w_hi (b : Bool) : decide (V.str (wd b) = V.str ("at most" : Str)) = !b := by
  cases b
  · exact decide_eq_true rfl
  · exact decide_eq_false (by intro z; exact absurd (V.str.inj z) (by decide +kernel))
def RcB (k : Nat) (ds : List Rec) : Prop := ∀ d ∈ ds, Bd k d.t ∧ Bd k d.n
theorem RcB.mono {k j : Nat} {ds : List Rec} (h : RcB k ds) (e : k ≤ j) : RcB j ds := fun d hd => ⟨(h d hd).1.mono e, (h d hd).2.mono e⟩
theorem Obs.fr {H H' : Hp} {vs : List V} {ds : List Rec} (h : Obs rcO H vs ds) (f : Fr H H') : Obs rcO H' vs ds := h.keep fun b d e => f.t _ _ e
/-- what split_records gives: index, time, count -/
abbrev T3 := Int × Int × Int
abbrev trO (x : T3) : HO := .tup [.int x.1, .int x.2.1, .int x.2.2]
def sel (b : Bool) : Nat → List Rec → List T3
  | _, [] => []
  | k, d :: ds => if d.lo = b then ((k : Int), d.t, d.n) :: sel b (k + 1) ds else sel b (k + 1) ds
theorem sel_snoc (b : Bool) (k : Nat) (ds : List Rec) (d : Rec) : sel b k (ds ++ [d]) = sel b k ds ++ (if d.lo = b then [(((k + ds.length : Nat) : Int), d.t, d.n)] else []) := by
  induction ds generalizing k with
  | nil =>
    show (if d.lo = b then _ else _) = _
    by_cases h : d.lo = b
    · rw [if_pos h, if_pos h]
      rfl
    · rw [if_neg h, if_neg h]
      rfl
  | cons e r ih =>
    show (if e.lo = b then ((k : Int), e.t, e.n) :: sel b (k + 1) (r ++ [d]) else sel b (k + 1) (r ++ [d])) = (if e.lo = b then _ else _) ++ _
    rw [ih (k + 1), List.length_cons, show k + 1 + r.length = k + (r.length + 1) by omega]
    by_cases h : e.lo = b
    · rw [if_pos h, if_pos h]
      rfl
    · rw [if_neg h, if_neg h]
theorem sel_len (b : Bool) (k : Nat) (ds : List Rec) : (sel b k ds).length ≤ ds.length := by
  induction ds generalizing k with
  | nil => exact Nat.le_refl _
  | cons e r ih =>
    show (if e.lo = b then _ else _ : List T3).length ≤ _
    have := ih (k + 1)
    by_cases h : e.lo = b
    · rw [if_pos h, List.length_cons, List.length_cons]
      omega
    · rw [if_neg h, List.length_cons]
      omega
theorem sel_take {b : Bool} {ds : List Rec} {i : Nat} {d : Rec} (e : ds[i]? = some d) : sel b 0 (ds.take (i + 1)) = sel b 0 (ds.take i) ++ (if d.lo = b then [((i : Int), d.t, d.n)] else []) := by
  have hi : i < ds.length := (List.getElem?_eq_some_iff.mp e).1
  rw [List.take_add_one, e]
  show sel b 0 (ds.take i ++ [d]) = _
  rw [sel_snoc, List.length_take, Nat.min_eq_left (by omega), Nat.zero_add]
/-- each of them speaks of a record at its index -/
theorem sel_mem {b : Bool} {k : Nat} {ds : List Rec} {x : T3} (h : x ∈ sel b k ds) : ∃ (i : Nat) (d : Rec), ds[i]? = some d ∧ d.lo = b ∧ x = (((k + i : Nat) : Int), d.t, d.n) := by
  induction ds generalizing k with
  | nil => cases h
  | cons e r ih =>
    have h : x ∈ (if e.lo = b then ((k : Int), e.t, e.n) :: sel b (k + 1) r else sel b (k + 1) r) := h
    have up : x ∈ sel b (k + 1) r → ∃ (i : Nat) (d : Rec), (e :: r)[i]? = some d ∧ d.lo = b ∧ x = (((k + i : Nat) : Int), d.t, d.n) := fun z => by
      obtain ⟨i, d, h1, h2, h3⟩ := ih z
      exact ⟨i + 1, d, h1, h2, by rw [h3, show k + 1 + i = k + (i + 1) by omega]⟩
    by_cases hb : e.lo = b
    · rw [if_pos hb] at h
      rcases List.mem_cons.mp h with rfl | h
      · exact ⟨0, e, rfl, hb, rfl⟩
      · exact up h
    · rw [if_neg hb] at h
      exact up h
theorem mem_sel {b : Bool} {ds : List Rec} {i : Nat} {d : Rec} (e : ds[i]? = some d) (hb : d.lo = b) : ∀ k, (((k + i : Nat) : Int), d.t, d.n) ∈ sel b k ds := by
  induction ds generalizing i with
  | nil => cases e
  | cons f r ih =>
    intro k
    show _ ∈ (if f.lo = b then _ else _)
    cases i with
    | zero =>
      cases e
      rw [if_pos hb]
      exact List.mem_cons_self
    | succ i =>
      have := ih e (k + 1)
      rw [show k + 1 + i = k + (i + 1) by omega] at this
      by_cases h : f.lo = b
      · rw [if_pos h]
        exact List.mem_cons_of_mem _ this
      · rw [if_neg h]
        exact this
theorem sel_bd {k : Nat} {b : Bool} {ds : List Rec} (h : RcB k ds) {x : T3} (hx : x ∈ sel b 0 ds) : Bd k x.2.1 ∧ Bd k x.2.2 := by
  obtain ⟨i, d, e, _, rfl⟩ := sel_mem hx
  exact h d (List.mem_of_getElem? e)
/-- what a list has as its greatest -/
def IsMx (l : List Int) : Option Int → Prop
  | none => l = []
  | some m => m ∈ l ∧ ∀ y ∈ l, y ≤ m
def IsMn (l : List Int) : Option Int → Prop
  | none => l = []
  | some m => m ∈ l ∧ ∀ y ∈ l, m ≤ y
def oV : Option Int → V
  | none => .non
  | some i => .int i
theorem maxOf_mx (x : Int) (xs : List Int) : PySem.W.maxOf x xs ∈ x :: xs ∧ ∀ y ∈ x :: xs, y ≤ PySem.W.maxOf x xs := by
  induction xs generalizing x with
  | nil => exact ⟨List.mem_cons_self, fun y hy => by rw [List.mem_singleton.mp hy]; exact Int.le_refl _⟩
  | cons z r ih =>
    have e : PySem.W.maxOf x (z :: r) = PySem.W.maxOf (if decide (x < z) = true then z else x) r := rfl
    rw [e]
    obtain ⟨h1, h2⟩ := ih (if decide (x < z) = true then z else x)
    refine ⟨?_, fun y hy => ?_⟩
    · rcases List.mem_cons.mp h1 with h | h
      · rw [h]
        by_cases c : x < z
        · rw [if_pos (decide_eq_true c)]
          exact List.mem_cons_of_mem _ List.mem_cons_self
        · rw [if_neg (fun h => c (of_decide_eq_true h))]
          exact List.mem_cons_self
      · exact List.mem_cons_of_mem _ (List.mem_cons_of_mem _ h)
    · have g := h2 _ List.mem_cons_self
      have gx : x ≤ PySem.W.maxOf (if decide (x < z) = true then z else x) r ∧ z ≤ PySem.W.maxOf (if decide (x < z) = true then z else x) r := by
        by_cases c : x < z
        · rw [if_pos (decide_eq_true c)] at g ⊢
          exact ⟨by omega, g⟩
        · rw [if_neg (fun h => c (of_decide_eq_true h))] at g ⊢
          exact ⟨g, by omega⟩
      rcases List.mem_cons.mp hy with rfl | hy
      · exact gx.1
      · rcases List.mem_cons.mp hy with rfl | hy
        · exact gx.2
        · exact h2 _ (List.mem_cons_of_mem _ hy)
theorem minOf_mn (x : Int) (xs : List Int) : PySem.W.minOf x xs ∈ x :: xs ∧ ∀ y ∈ x :: xs, PySem.W.minOf x xs ≤ y := by
  induction xs generalizing x with
  | nil => exact ⟨List.mem_cons_self, fun y hy => by rw [List.mem_singleton.mp hy]; exact Int.le_refl _⟩
  | cons z r ih =>
    have e : PySem.W.minOf x (z :: r) = PySem.W.minOf (if decide (z < x) = true then z else x) r := rfl
    rw [e]
    obtain ⟨h1, h2⟩ := ih (if decide (z < x) = true then z else x)
    refine ⟨?_, fun y hy => ?_⟩
    · rcases List.mem_cons.mp h1 with h | h
      · rw [h]
        by_cases c : z < x
        · rw [if_pos (decide_eq_true c)]
          exact List.mem_cons_of_mem _ List.mem_cons_self
        · rw [if_neg (fun h => c (of_decide_eq_true h))]
          exact List.mem_cons_self
      · exact List.mem_cons_of_mem _ (List.mem_cons_of_mem _ h)
    · have g := h2 _ List.mem_cons_self
      have gx : PySem.W.minOf (if decide (z < x) = true then z else x) r ≤ x ∧ PySem.W.minOf (if decide (z < x) = true then z else x) r ≤ z := by
        by_cases c : z < x
        · rw [if_pos (decide_eq_true c)] at g ⊢
          exact ⟨by omega, g⟩
        · rw [if_neg (fun h => c (of_decide_eq_true h))] at g ⊢
          exact ⟨g, by omega⟩
      rcases List.mem_cons.mp hy with rfl | hy
      · exact gx.1
      · rcases List.mem_cons.mp hy with rfl | hy
        · exact gx.2
        · exact h2 _ (List.mem_cons_of_mem _ hy)
/-- max(list, default=d), min(list, default=d) -/
def rMxD (K : PySem.W.Frag) : List V → List V → Hp → VK → Prop := fun vs zs H Q => ∃ (a : Addr) (ns : List Int), vs = [V.ref a] ∧ zs = [.non] ∧ SqL K H a (ns.map V.int) ∧ ∀ m, IsMx ns m → Q (oV m) H
def rMnD (K : PySem.W.Frag) : List V → List V → Hp → VK → Prop := fun vs zs H Q => ∃ (a : Addr) (ns : List Int), vs = [V.ref a] ∧ zs = [.non] ∧ SqL K H a (ns.map V.int) ∧ ∀ m, IsMn ns m → Q (oV m) H
theorem cr_maxD {X : Cx} (hc : X.calm = true) (hu : X.A.units + 64 < cLine) : CallRK X (.builtin "max") [Str.ofString "default"] (rMxD X.K) := by
  intro pins s σ H xs zs us ws Q I r rz h
  obtain ⟨a, ns, rfl, rfl, hs, q⟩ := h
  obtain ⟨its, rv, hl, _⟩ := I.list hs
  rw [Vals.ref1 r]
  obtain ⟨d, rfl, rd⟩ := vals1 rz
  have ed : d = Value.none := rd
  subst ed
  refine PySem.W.max_list_datum_default (α := Int) (xs := ns) (I.ok.hd hc) hl.isList (by simpa using PySem.W.HoldAll.of_ints rv.ints) (by show _ + 1 + 0 < _; omega) (fun e h' tk hk => ⟨.non, H, I.kept hk, rfl, q none e⟩) fun y ys i v h' tk e hv hh hk => ?_
  obtain ⟨as, hr⟩ := hh
  obtain ⟨t, rfl⟩ : ∃ t, v = Value.int (PySem.W.maxOf y ys) t := by
    cases hr
    exact ⟨_, rfl⟩
  exact ⟨.int _, H, I.kept hk, ⟨_, rfl⟩, q (some _) (by rw [e]; exact maxOf_mx y ys)⟩
theorem cr_minD {X : Cx} (hc : X.calm = true) (hu : X.A.units + 64 < cLine) : CallRK X (.builtin "min") [Str.ofString "default"] (rMnD X.K) := by
  intro pins s σ H xs zs us ws Q I r rz h
  obtain ⟨a, ns, rfl, rfl, hs, q⟩ := h
  obtain ⟨its, rv, hl, _⟩ := I.list hs
  rw [Vals.ref1 r]
  obtain ⟨d, rfl, rd⟩ := vals1 rz
  have ed : d = Value.none := rd
  subst ed
  refine PySem.W.min_list_datum_default (α := Int) (xs := ns) (I.ok.hd hc) hl.isList (by simpa using PySem.W.HoldAll.of_ints rv.ints) (by show _ + 1 + 0 < _; omega) (fun e h' tk hk => ⟨.non, H, I.kept hk, rfl, q none e⟩) fun y ys i v h' tk e hv hh hk => ?_
  obtain ⟨as, hr⟩ := hh
  obtain ⟨t, rfl⟩ : ∃ t, v = Value.int (PySem.W.minOf y ys) t := by
    cases hr
    exact ⟨_, rfl⟩
  exact ⟨.int _, H, I.kept hk, ⟨_, rfl⟩, q (some _) (by rw [e]; exact minOf_mn y ys)⟩
end Lf
namespace Lf
open PySem PySem.Spec PyProof.Rows L2
def Btw (p q t b x y : Int) : Prop := p * y < x * q ∧ x * b < t * y
structure Sim (p q t b N D : Int) : Prop where
  d1 : 1 ≤ D
  n1 : 1 ≤ N
  bt : Btw p q t b N D
  mi : ∀ x y, 1 ≤ y → Btw p q t b x y → D ≤ y ∧ N ≤ x
theorem pos_of_mul {a b : Int} (h : 0 < a * b) (hb : 0 ≤ b) : 0 < a := by
  rcases Int.lt_or_le 0 a with z | z
  · exact z
  · have := Int.mul_le_mul_of_nonneg_right z hb
    rw [Int.zero_mul] at this
    omega
theorem sim_base {p q t b : Int} (hp : 0 ≤ p) (hq : 1 ≤ q) (h : (p / q + 1) * b < t) : Sim p q t b (p / q + 1) 1 := by
  have w0 : 0 ≤ p / q := Int.ediv_nonneg hp (by omega)
  have w1 : p < (p / q + 1) * q := Int.lt_ediv_add_one_mul_self p (by omega)
  have w2 : p / q * q ≤ p := Int.ediv_mul_le p (by omega)
  generalize p / q = w at *
  refine ⟨by omega, by omega, ⟨by omega, by omega⟩, fun x y hy hb => ⟨hy, ?_⟩⟩
  have h1 := Int.mul_le_mul_of_nonneg_right w2 (show 0 ≤ y by omega)
  have h2 : 0 < (x - w * y) * q := by
    have e : w * q * y = w * y * q := by grind
    have := hb.1
    rw [Int.sub_mul]
    omega
  have h3 := pos_of_mul h2 (by omega)
  have h4 := Int.mul_le_mul_of_nonneg_left hy w0
  omega
theorem sim_step {p q t b N D : Int} (hp : 0 ≤ p) (hq : 1 ≤ q) (s : Sim b (t - p / q * b) q (p - p / q * q) N D) : Sim p q t b (p / q * N + D) N := by
  have w0 : 0 ≤ p / q := Int.ediv_nonneg hp (by omega)
  have w2 : p / q * q ≤ p := Int.ediv_mul_le p (by omega)
  generalize p / q = w at *
  obtain ⟨d1, n1, ⟨b1, b2⟩, mi⟩ := s
  have n0 := Int.mul_nonneg w0 (show 0 ≤ N by omega)
  refine ⟨n1, by omega, ⟨by grind, by grind⟩, fun x y hy ⟨g1, g2⟩ => ?_⟩
  have h1 := Int.mul_le_mul_of_nonneg_right w2 (show 0 ≤ y by omega)
  have h2 : 0 < (x - w * y) * q := by grind
  have h3 := pos_of_mul h2 (by omega)
  obtain ⟨m1, m2⟩ := mi y (x - w * y) (by omega) ⟨by grind, by grind⟩
  have h4 := Int.mul_le_mul_of_nonneg_left m2 w0
  exact ⟨m2, by omega⟩
/-- what the loop of wholes says, read backwards -/
def fold2 : List Int → Int × Int → Int × Int
  | [], x => x
  | w :: r, x => (w * (fold2 r x).1 + (fold2 r x).2, (fold2 r x).1)
theorem fold2_snoc (l : List Int) (w N D : Int) : fold2 (l ++ [w]) (N, D) = fold2 l (w * N + D, N) := by
  induction l with
  | nil => rfl
  | cons v r ih =>
    show (v * (fold2 (r ++ [w]) (N, D)).1 + (fold2 (r ++ [w]) (N, D)).2, (fold2 (r ++ [w]) (N, D)).1) = _
    rw [ih]
    rfl
structure Iv (k : Nat) (p q t b : Int) : Prop where
  p0 : 0 ≤ p
  q1 : 1 ≤ q
  b0 : 0 ≤ b
  lt : p * b < t * q
  bp : Bd k p
  bq : Bd k q
  bt : Bd k t
  bb : Bd k b
theorem Iv.mono {k j : Nat} {p q t b : Int} (I : Iv k p q t b) (h : k ≤ j) : Iv j p q t b := ⟨I.p0, I.q1, I.b0, I.lt, I.bp.mono h, I.bq.mono h, I.bt.mono h, I.bb.mono h⟩
theorem Iv.t1 {k : Nat} {p q t b : Int} (I : Iv k p q t b) : 1 ≤ t := by
  have h1 := Int.mul_nonneg I.p0 I.b0
  have h2 := I.lt
  have := pos_of_mul (a := t) (b := q) (by omega) (by have := I.q1; omega)
  omega
theorem Iv.next {k : Nat} {p q t b : Int} (I : Iv k p q t b) (h : t ≤ (p / q + 1) * b) : Iv k b (t - p / q * b) q (p - p / q * q) ∧ 1 ≤ b ∧ t - p / q * b ≤ b ∧ p - p / q * q < q := by
  have t1 := I.t1
  obtain ⟨p0, q1, b0, lt, bp, bq, bt, bb⟩ := I
  have w0 : 0 ≤ p / q := Int.ediv_nonneg p0 (by omega)
  have w1 : p < (p / q + 1) * q := Int.lt_ediv_add_one_mul_self p (by omega)
  have w2 : p / q * q ≤ p := Int.ediv_mul_le p (by omega)
  generalize p / q = w at *
  have b1 : 1 ≤ b := by
    rcases Int.lt_or_le 0 b with z | z
    · exact z
    · have : b = 0 := by omega
      subst this
      rw [Int.mul_zero] at h
      omega
  have h1 : 0 < (t - w * b) * q := by
    have := Int.mul_le_mul_of_nonneg_right w2 b0
    grind
  have h2 := pos_of_mul h1 (by omega)
  have h3 : t - w * b ≤ b := by
    rw [Int.add_mul] at h
    omega
  have h4 : p - w * q < q := by
    rw [Int.add_mul] at w1
    omega
  exact ⟨⟨b0, by omega, by omega, by grind, bb, bb.between (by omega) h3, bq, bq.between (by omega) (by omega)⟩, b1, h3, h4⟩
theorem Iv.med {k : Nat} {p q t b N D : Int} (I : Iv k p q t b) (s : Sim p q t b N D) : D ≤ q + b ∧ N ≤ p + t := by
  have h := I.lt
  have := I.q1
  have := I.b0
  exact s.mi (p + t) (q + b) (by omega) ⟨by grind, by grind⟩
theorem Iv.bds {k : Nat} {p q t b N D : Int} (I : Iv k p q t b) (s : Sim p q t b N D) : Bd (k + 1) N ∧ Bd (k + 1) D := by
  obtain ⟨m1, m2⟩ := I.med s
  have := s.n1
  have := s.d1
  exact ⟨(Bd.add I.bp I.bt).between (by omega) m2, (Bd.add I.bq I.bb).between (by omega) m1⟩
structure Lw (k : Nat) (p0 q0 t0 b0 : Int) (ws : List Int) (p q t b : Int) : Prop where
  iv : Iv k p q t b
  c : ∀ l1 l2, ws = l1 ++ l2 → ∀ N D, Sim p q t b N D → Bd (k + 1) (fold2 l2 (N, D)).1 ∧ Bd (k + 1) (fold2 l2 (N, D)).2
  a : ∀ N D, Sim p q t b N D → Sim p0 q0 t0 b0 (fold2 ws (N, D)).1 (fold2 ws (N, D)).2
  d : ∀ w ∈ ws, Bd k w
  n : (ws = [] ∧ q = q0 ∧ b = b0) ∨ (q ≤ p ∧ (p * b).toNat * 2 ^ ws.length ≤ (2 * (q0 * b0)).toNat)
theorem Lw.init {k : Nat} {p q t b : Int} (I : Iv k p q t b) : Lw k p q t b [] p q t b :=
  ⟨I, fun l1 l2 e N D s => by
    have : l2 = [] := (List.append_eq_nil_iff.mp e.symm).2
    subst this
    exact I.bds s, fun N D s => s, fun w hw => by simp at hw, .inl ⟨rfl, rfl, rfl⟩⟩
theorem Lw.next {k : Nat} {p0 q0 t0 b0 p q t b : Int} {ws : List Int} (L : Lw k p0 q0 t0 b0 ws p q t b) (h : t ≤ (p / q + 1) * b) : Lw k p0 q0 t0 b0 (ws ++ [p / q]) b (t - p / q * b) q (p - p / q * q) := by
  have I := L.iv
  obtain ⟨I2, b1, h3, h4⟩ := I.next h
  have st : ∀ N D, Sim b (t - p / q * b) q (p - p / q * q) N D → Sim p q t b (p / q * N + D) N := fun N D s => sim_step I.p0 I.q1 s
  refine ⟨I2, fun l1 l2 e N D s => ?_, fun N D s => ?_, fun w hw => ?_, .inr ⟨h3, ?_⟩⟩
  · rcases List.eq_nil_or_concat l2 with rfl | ⟨l', w', rfl⟩
    · exact I2.bds s
    · rw [List.concat_eq_append, ← List.append_assoc] at e
      obtain ⟨e1, e2⟩ := List.append_inj' e rfl
      have e3 : p / q = w' := by simpa using e2
      rw [List.concat_eq_append, ← e3, fold2_snoc]
      exact L.c l1 l' e1 _ _ (st N D s)
  · rw [fold2_snoc]
    exact L.a _ _ (st N D s)
  · rcases List.mem_append.mp hw with z | z
    · exact L.d w z
    · rw [List.mem_singleton.mp z]
      exact I.bp.ediv (by have := I.q1; omega)
  · have r0 := I2.b0
    rw [List.length_append, List.length_singleton, Nat.pow_succ]
    rcases L.n with ⟨rfl, rfl, rfl⟩ | ⟨hq, hn⟩
    · have := Int.mul_le_mul_of_nonneg_left (show p - p / q * q ≤ q by omega) (show 0 ≤ b by omega)
      rw [Int.mul_comm q b]
      simp only [List.length_nil, Nat.pow_zero, Nat.one_mul]
      generalize b * (p - p / q * q) = x at *
      generalize b * q = y at *
      omega
    · refine Nat.le_trans ?_ hn
      rw [Nat.mul_comm (2 ^ ws.length) 2, ← Nat.mul_assoc]
      refine Nat.mul_le_mul_right _ ?_
      have w1 : 1 ≤ p / q := Int.le_ediv_of_mul_le (by have := I.q1; omega) (by omega)
      have h5 := Int.mul_le_mul_of_nonneg_right w1 (show 0 ≤ q by have := I.q1; omega)
      have h6 := Int.mul_le_mul_of_nonneg_left (show 2 * (p - p / q * q) ≤ p by omega) (show 0 ≤ b by omega)
      generalize p - p / q * q = r at *
      have e1 : b * (2 * r) = 2 * (b * r) := by grind
      rw [e1, Int.mul_comm b p] at h6
      have := Int.mul_nonneg (show 0 ≤ b by omega) r0
      generalize b * r = x at *
      generalize p * b = y at *
      omega
theorem Lw.len {k : Nat} {p0 q0 t0 b0 p q t b : Int} {ws : List Int} (L : Lw k p0 q0 t0 b0 ws p q t b) (b1 : 1 ≤ b) (bq : Bd k q0) (bb : Bd k b0) : ws.length < 2 * k + 2 := by
  rcases L.n with ⟨rfl, _⟩ | ⟨hq, hn⟩
  · simp
  · have B1 : Bd (k + k + 1) (2 * (q0 * b0)) := by
      have := Bd.add (Bd.mul bq bb) (Bd.mul bq bb)
      rw [show 2 * (q0 * b0) = q0 * b0 + q0 * b0 by omega]
      exact this
    have p1 : 1 ≤ p * b := by
      have := Int.mul_le_mul (show 1 ≤ p by have := L.iv.q1; omega) b1 (by omega) (by have := L.iv.p0; omega)
      omega
    unfold Bd at B1
    have h2 : 2 ^ ws.length ≤ (p * b).toNat * 2 ^ ws.length := Nat.le_mul_of_pos_left _ (by omega)
    have h3 : 2 ^ ws.length < 2 ^ (k + k + 1) := by omega
    have := (Nat.pow_lt_pow_iff_right (by decide)).mp h3
    omega
section
variable {P : Program} {w : World} {K : PySem.W.Frag} {mg : Str → Option Value} {base : Heap}
/-! ### rates -/
structure Rt (k : Nat) (p q : Int) : Prop where
  p0 : 0 ≤ p
  q1 : 1 ≤ q
  g : Int.gcd p q = 1
  bp : Bd k p
  bq : Bd k q
theorem Rt.mono {k j : Nat} {p q : Int} (h : Rt k p q) (e : k ≤ j) : Rt j p q := ⟨h.p0, h.q1, h.g, h.bp.mono e, h.bq.mono e⟩
abbrev tup2 (p q : Int) : HO := .tup [.int p, .int q]
def spIsRate : Sp := fun vs H Q _ => ∃ (r : Addr) (p q : Int) (k : Nat), vs = [.ref r] ∧ H r = some (tup2 p q) ∧ Rt k p q ∧ Q (.bl true) H
def spCheckRate : Sp := fun vs H Q _ => ∃ (r : Addr) (p q : Int) (k : Nat), vs = [.ref r] ∧ H r = some (tup2 p q) ∧ Rt k p q ∧ Q .non H
/-! ### simplest_inside -/
def spInside : Sp := fun vs H Q _ => ∃ (l h : Addr) (p q t b : Int) (k : Nat), vs = [.ref l, .ref h] ∧ H l = some (tup2 p q) ∧ H h = some (tup2 t b) ∧ Iv k p q t b ∧ 0 < k ∧ k ≤ 400 ∧
  ∀ r H' N D, Same H H' → H r = none → H' r = some (tup2 N D) → Sim p q t b N D → Bd (k + 1) N → Bd (k + 1) D → Q (.ref r) H'
def muF : L2.St → Hp → Nat := fun σ _ => match σ with
  | _ :: _ :: _ :: some (.int q) :: _ :: some (.int b) :: _ => (q + b).toNat
  | _ => 0
end
end Lf
namespace Lf
open PySem PySem.Spec PyProof.Rows L2
theorem obs_cut {α : Type} {O : α → HO} {H : Hp} {vs : List V} {ds : List α} (h : Obs O H vs ds) (lo hi : Option Int) : ∃ es, Obs O H (cutV vs lo hi) es ∧ (∀ d ∈ es, d ∈ ds) ∧ es.length ≤ ds.length := by
  unfold cutV
  generalize HT.sIx vs.length 0 lo = i
  generalize HT.sIx vs.length vs.length hi - i = j
  refine ⟨(ds.drop i).take j, (h.drop i).take j, fun d hd => List.mem_of_mem_drop (List.mem_of_mem_take hd), ?_⟩
  rw [List.length_take, List.length_drop]
  omega
theorem at_map {cs : List Int} {i : Nat} {x : V} (h : (cs.map V.int)[i]? = some x) : ∃ c, c ∈ cs ∧ x = .int c := by
  rw [List.getElem?_map] at h
  cases e : cs[i]? with
  | none =>
    rw [e] at h
    cases h
  | some c =>
    rw [e] at h
    cases h
    exact ⟨c, List.mem_of_getElem? e, rfl⟩
theorem in_words (b : Bool) : inV (.str (wd b)) [.str "at least", .str "at most"] = true := by
  cases b <;> decide +kernel
theorem kit_lt {K : PySem.W.Frag} : PySem.W.kitAny K (.type "list") [.type "list", .type "tuple"] = some true :=
  kitAny_cons (b := true) (kit_ty (by decide +kernel)) (fun z => by cases z) (fun _ => rfl)
def lph (p q : Int) (ds : List Rec) : List Int := (sel true 0 ds).map fun x => x.2.2 * q - p * x.2.1
def hph (p q : Int) (ds : List Rec) : List Int := (sel false 0 ds).map fun x => (x.2.2 + 1) * q - p * x.2.1 - 1
def okPh : Option Int → Option Int → Bool
  | some x, some y => decide (x ≤ y)
  | _, _ => true
theorem mx_uniq {l : List Int} {a b : Option Int} (h : IsMx l a) (h2 : IsMx l b) : a = b := by
  cases a with
  | none =>
    cases b with
    | none => rfl
    | some y =>
      have e : l = [] := h
      subst e
      cases h2.1
  | some x =>
    cases b with
    | none =>
      have e : l = [] := h2
      subst e
      cases h.1
    | some y =>
      have h1 := h.2 y h2.1
      have h3 := h2.2 x h.1
      rw [show x = y by omega]
theorem mn_uniq {l : List Int} {a b : Option Int} (h : IsMn l a) (h2 : IsMn l b) : a = b := by
  cases a with
  | none =>
    cases b with
    | none => rfl
    | some y =>
      have e : l = [] := h
      subst e
      cases h2.1
  | some x =>
    cases b with
    | none =>
      have e : l = [] := h2
      subst e
      cases h.1
    | some y =>
      have h1 := h.2 y h2.1
      have h3 := h2.2 x h.1
      rw [show x = y by omega]
def fitB (p q c : Int) (d : Rec) : Bool := if d.lo = true then decide (d.n ≤ (p * d.t + c) / q) else decide ((p * d.t + c) / q ≤ d.n)
structure Bc (mg : Str → Option Value) : Prop where
  most_ : ∃ t, mg "MOST_RECORDS" = some (.int 200 t)
section
variable {P : Program} {w : World} {K : PySem.W.Frag} {mg : Str → Option Value} {base : Heap}
/-! ### is_record, check_records -/
def spIsRec : Sp := fun vs H Q _ => ∃ (r : Addr) (d : Rec), vs = [.ref r] ∧ H r = some (rcO d) ∧ ∀ H', Same H H' → Q (.bl true) H'
abbrev s_is_record : Stmt := topS 22
abbrev N_is_record : List Str := ["value"]
abbrev P_is_record : List Str := ["value"]
theorem sc_is_record : FnScope N_is_record P_is_record (defScope s_is_record) := ⟨rfl, rfl, rfl, by decide +kernel, rfl, by decide +kernel, by decide +kernel⟩
theorem ok_is_record (D : Df K mg "is_record" s_is_record P_is_record) (B : Bi mg) (c_is_integer : C8.Cal P w K mg base 1 "is_integer" spIsInt []) : C8.Cal P w K mg base 2 "is_record" spIsRec [] := by
  refine cal_of D sc_is_record (fun vs H Q E h => ?_) (fun f cdv A outer s H vs Q E hr h => ?_)
  · obtain ⟨r, d, rfl, _⟩ := h
    rfl
  · obtain ⟨r, d, rfl, er, kk⟩ := h
    refine ⟨_, (pss_cons (ps_if (PW.pt (pw_or (pt_not (pt_val (pe_callB (call_isi) (by rfl) B.isinstance_ bt_isinstance (pa_cons (pv 0) (pa_cons (pe_bltn (v := .ty "tuple") (by rfl) B.tuple_ bt_tuple rfl) pa_nil))))) (pw_or1 (pt_cmpR op_ne (pe_callB (call_len_seq) (by rfl) B.len_ bt_len (pa_cons (pv 0) pa_nil)) pe_int (nomark _)))))
      (pss_one (ps_ret pe_bl))
      pss_nil)
    (pss_one (ps_ret (pe_and (pe_cmpR op_in_seq (pe_ix (r := rIxT K) ix_tup (pv 0) pe_int (fun _ _ => rfl)) (pe_tup (pa_cons pe_str (pa_cons pe_str pa_nil))) rfl) (pe_and (C8.pe_c c_is_integer hr (by decide) (by rfl) (pa_cons (pe_ix (r := rIxT K) ix_tup (pv 0) pe_int (fun _ _ => rfl)) pa_nil)) (pe_one (C8.pe_c c_is_integer hr (by decide) (by rfl) (pa_cons (pe_ix (r := rIxT K) ix_tup (pv 0) pe_int (fun _ _ => rfl)) pa_nil)))))))), ?_⟩
    refine ⟨_, rfl, _, _, _, _, true, rfl, .ty "tuple", .base (.tup er), kit_ty ktt, true, rfl, iteF ?_⟩
    refine ⟨_, rfl, r, _, rfl, .inr (SqT.of er), rfl, _, rfl, iteNS rfl ?_⟩
    refine ⟨_, rfl, r, _, _, _, rfl, rfl, SqT.of er, atI_nat (j := 0) rfl, len10 (by simp), fun p np => ?_⟩
    have er1 := sm_upd (o := .tup [.str "at least", .str "at most"]) np _ _ er
    refine ⟨p, _, rfl, .inr (SqT.of upd_same), rfl, rfl, _, rfl, iteTs (in_words d.lo) ?_⟩
    refine ⟨_, rfl, r, _, _, _, rfl, rfl, SqT.of er1, atI_nat (j := 1) rfl, d.t, rfl, true, rfl, iteT ?_⟩
    refine ⟨_, rfl, r, _, _, _, rfl, rfl, SqT.of er1, atI_nat (j := 2) rfl, d.n, rfl, ?_⟩
    exact kk _ (sm_upd np)
def spCkRec : Sp := fun vs H Q _ => ∃ (L : Addr) (xs : List V) (ds : List Rec), vs = [.ref L] ∧ H L = some (.lst xs) ∧ Obs rcO H xs ds ∧ ds.length ≤ 200 ∧ ∀ H', Same H H' → Q .non H'
abbrev s_check_records : Stmt := topS 24
abbrev N_check_records : List Str := ["value", "index", "item"]
abbrev P_check_records : List Str := ["value"]
theorem sc_check_records : FnScope N_check_records P_check_records (defScope s_check_records) := ⟨rfl, rfl, rfl, by decide +kernel, rfl, by decide +kernel, by decide +kernel⟩
theorem ok_check_records (D : Df K mg "check_records" s_check_records P_check_records) (B : Bi mg) (U : Bc mg) (c_is_record : C8.Cal P w K mg base 2 "is_record" spIsRec []) : C8.Cal P w K mg base 3 "check_records" spCkRec [] := by
  refine cal_of D sc_check_records (fun vs H Q E h => ?_) (fun f cdv A outer s H vs Q E hr h => ?_)
  · obtain ⟨L, xs, ds, rfl, _⟩ := h
    rfl
  · obtain ⟨L, xs, ds, rfl, eL, hO, hl, kk⟩ := h
    obtain ⟨tM, hc_MOST_RECORDS⟩ := U.most_
    refine ⟨_, (pss_cons (ps_if (PW.pt (pw_or (pt_not (pt_val (pe_callB (call_isiT) (by rfl) B.isinstance_ bt_isinstance (pa_cons (pv 0) (pa_cons (pe_tup (pa_cons (pe_bltn (v := .ty "list") (by rfl) B.list_ bt_list rfl) (pa_cons (pe_bltn (v := .ty "tuple") (by rfl) B.tuple_ bt_tuple rfl) pa_nil))) pa_nil))))) (pw_or1 (pt_cmpR op_gt (pe_callB (call_len_seq) (by rfl) B.len_ bt_len (pa_cons (pv 0) pa_nil)) (pe_glob (v := .int 200) (by rfl) hc_MOST_RECORDS ⟨_, rfl⟩) (nomark _)))))
      (pss_one ps_never)
      pss_nil)
    (pss_one (ps_for PassesOwn.never rfl (pi_enum (by rfl) B.enumerate_ (pa_cons (pv 0) pa_nil)) (pg_tup rfl (pgs_cons (pg_name (i := 1) sc_check_records.nd rfl (Or.inl rfl)) (pgs_cons (pg_name (i := 2) sc_check_records.nd rfl (Or.inl rfl)) pgs_nil)))
      (pss_one (ps_if (pt_not (pt_val (C8.pe_c c_is_record hr (by decide) (by rfl) (pa_cons (pv 2) pa_nil))))
      (pss_one ps_never)
      pss_nil))))), ?_⟩
    refine ⟨_, rfl, len10 (by simp), fun tp ntp => ?_⟩
    have s1 := sm_upd (o := .tup [.ty "list", .ty "tuple"]) ntp
    refine ⟨_, tp, _, _, _, true, rfl, upd_same, .cons (.ty "list") (.cons (.ty "tuple") .nil), .base (.lst (s1 _ _ eL)), kit_lt, true, rfl, iteF ?_⟩
    refine ⟨_, rfl, L, _, rfl, .inl (SqL.of (s1 _ _ eL)), _, _, rfl, rfl, _, rfl, iteDn (by rw [hO.len]; omega) ?_⟩
    generalize upd H tp (.tup [.ty "list", .ty "tuple"]) = H1 at s1
    refine ⟨_, rfl, L, _, rfl, SqL.of (s1 _ _ eL), ?_⟩
    refine for_it (walk_enum (K := K) (a := L) (xs := xs)) (fun i σ H' => ∃ (y1 y2 : Option V), σ = [some (.ref L), y1, y2] ∧ Same H H') ⟨_, _, rfl, s1⟩ ?_ ?_ ?_
    · rintro i σ H2 _ ⟨_, _, _, s2⟩
      exact SqL.of (s2 _ _ eL)
    · rintro i v σ H2 H3 hi ⟨y1, y2, rfl, s2⟩ ⟨T, x, y, rfl, nT, rfl, hx, hy⟩
      cases hx
      obtain ⟨r, d, rfl, er, _⟩ := hO.at hy
      have s3 := s2.trans (sm_upd (o := .tup [.int (i : Nat), .ref r]) nT)
      refine ⟨T, _, rfl, SqT.of upd_same, rfl, _, _, rfl, _, _, rfl, rfl, ?_⟩
      refine ⟨_, rfl, r, d, rfl, s3 _ _ er, fun H4 s4 => ⟨true, rfl, iteF ?_⟩⟩
      exact ⟨_, _, rfl, s3.trans s4⟩
    · rintro σ H2 ⟨_, _, rfl, s2⟩
      exact kk _ s2
/-! ### split_records -/
def spSplit : Sp := fun vs H Q _ => ∃ (L : Addr) (xs : List V) (ds : List Rec), vs = [.ref L] ∧ H L = some (.lst xs) ∧ Obs rcO H xs ds ∧ ds.length ≤ 1000 ∧
  ∀ T H' A B as bs, Same H H' → H' T = some (.tup [.ref A, .ref B]) → H' A = some (.lst as) → Obs trO H' as (sel true 0 ds) → H' B = some (.lst bs) → Obs trO H' bs (sel false 0 ds) → Q (.ref T) H'
abbrev s_split_records : Stmt := topS 27
abbrev N_split_records : List Str := ["records", "lows", "highs", "i", "word", "t", "n", "j", "u", "m"]
abbrev P_split_records : List Str := ["records"]
theorem sc_split_records : FnScope N_split_records P_split_records (defScope s_split_records) := ⟨rfl, rfl, rfl, by decide +kernel, rfl, by decide +kernel, by decide +kernel⟩
theorem ok_split_records (D : Df K mg "split_records" s_split_records P_split_records) (B : Bi mg) : C8.Cal P w K mg base 1 "split_records" spSplit [] := by
  refine cal_of D sc_split_records (fun vs H Q E h => ?_) (fun f cdv A outer s H vs Q E hr h => ?_)
  · obtain ⟨L, xs, ds, rfl, _⟩ := h
    rfl
  · obtain ⟨L, xs, ds, rfl, eL, hO, hl, kk⟩ := h
    refine ⟨_, (pss_cons (ps_setLc (i := 1) (own := [("i", 3), ("word", 4), ("t", 5), ("n", 6)]) (g := (gTup K 2 (gCons (gName 3) (gCons (gTup K 3 (gCons (gName 4) (gCons (gName 5) (gCons (gName 6) gNil)))) gNil)))) (by rfl) sc_split_records.nd rfl rfl (sw_true rfl rfl rfl (by decide +kernel)) (pi_enum (by rfl) B.enumerate_ (pa_cons (pv 0) pa_nil)) (blkOk_by (own := [("i", 3), ("word", 4), ("t", 5), ("n", 6)]) (N := N_split_records) (sc := defScope s_split_records) (by decide +kernel)) (fun _ _ _ _ _ => (pg_tup rfl (pgs_cons (pg_name (i := 3) sc_split_records.nd rfl (Or.inl rfl)) (pgs_cons (pg_tup rfl (pgs_cons (pg_name (i := 4) sc_split_records.nd rfl (Or.inl rfl)) (pgs_cons (pg_name (i := 5) sc_split_records.nd rfl (Or.inl rfl)) (pgs_cons (pg_name (i := 6) sc_split_records.nd rfl (Or.inl rfl)) pgs_nil)))) pgs_nil)))) (fun _ _ _ _ _ => (pts_one (pt_cmpR op_eq (pv 4) pe_str (nomark _)))) (fun _ _ _ _ _ => (pe_tup (pa_cons (pv 3) (pa_cons (pv 5) (pa_cons (pv 6) pa_nil))))))
    (pss_cons (ps_setLc (i := 2) (own := [("j", 7), ("word", 4), ("u", 8), ("m", 9)]) (g := (gTup K 2 (gCons (gName 7) (gCons (gTup K 3 (gCons (gName 4) (gCons (gName 8) (gCons (gName 9) gNil)))) gNil)))) (by rfl) sc_split_records.nd rfl rfl (sw_true rfl rfl rfl (by decide +kernel)) (pi_enum (by rfl) B.enumerate_ (pa_cons (pv 0) pa_nil)) (blkOk_by (own := [("j", 7), ("word", 4), ("u", 8), ("m", 9)]) (N := N_split_records) (sc := defScope s_split_records) (by decide +kernel)) (fun _ _ _ _ _ => (pg_tup rfl (pgs_cons (pg_name (i := 7) sc_split_records.nd rfl (Or.inl rfl)) (pgs_cons (pg_tup rfl (pgs_cons (pg_name (i := 4) sc_split_records.nd rfl (Or.inl rfl)) (pgs_cons (pg_name (i := 8) sc_split_records.nd rfl (Or.inl rfl)) (pgs_cons (pg_name (i := 9) sc_split_records.nd rfl (Or.inl rfl)) pgs_nil)))) pgs_nil)))) (fun _ _ _ _ _ => (pts_one (pt_cmpR op_eq (pv 4) pe_str (nomark _)))) (fun _ _ _ _ _ => (pe_tup (pa_cons (pv 7) (pa_cons (pv 8) (pa_cons (pv 9) pa_nil))))))
    (pss_one (ps_ret (pe_tup (pa_cons (pv 1) (pa_cons (pv 2) pa_nil))))))), ?_⟩
    refine ⟨_, rfl, L, _, rfl, SqL.of eL, fun A nA => ?_⟩
    refine lc_it (walk_enum (K := K) (a := L) (xs := xs)) (fun i H' => ∃ as, H' A = some (.lst as) ∧ Obs trO H' as (sel true 0 (ds.take i)) ∧ Same H H') ⟨_, upd_same, .nil, sm_upd nA⟩ ?_ ?_ ?_
    · rintro i H1 _ ⟨_, _, _, s1⟩
      exact SqL.of (s1 _ _ eL)
    · rintro i v H1 H2 hi ⟨as, eA, oA, s1⟩ ⟨T, x, y, rfl, nT, rfl, hx, hy⟩
      cases hx
      obtain ⟨r, d, rfl, er, hd⟩ := hO.at hy
      have z := sm_upd (o := .tup [.int (i : Nat), .ref r]) nT
      have s2 := s1.trans z
      have al : as.length < sizeLine := by
        have h1 := oA.len
        have h2 := sel_len true 0 (ds.take i)
        rw [List.length_take] at h2
        exact small1000 (by omega)
      refine ⟨T, _, rfl, SqT.of upd_same, rfl, _, _, rfl, _, _, rfl, r, _, rfl, SqT.of (s2 _ _ er), rfl, _, _, rfl, _, _, rfl, _, _, rfl, rfl, rfl, ?_⟩
      refine ⟨rfl, _, rfl, rfl, _, rfl, ?_⟩
      rw [w_lo]
      cases hb : d.lo with
      | true =>
        refine iteT ⟨_, rfl, _, rfl, _, rfl, len10 (by simp), fun t nt => ?_⟩
        have z2 := sm_upd (o := .tup [.int (i : Nat), .int d.t, .int d.n]) nt
        have nA2 : t ≠ A := (ne_of_none (z _ _ eA) nt).symm
        refine ⟨as, z2 _ _ (z _ _ eA), al, _, upd_same, ?_, ?_⟩
        · rw [sel_take hd, if_pos hb]
          refine Obs.snoc (Obs.keep ((oA.same z).same z2) fun b d' e => ?_) ?_
          · rw [upd_ne (ne_of e (z2 _ _ (z _ _ eA)) (by intro q; cases q))]
            exact e
          · rw [upd_ne nA2]
            exact upd_same
        · intro b o e
          rw [upd_ne (ne_of_none e nA)]
          exact z2 _ _ (s2 _ _ e)
      | false =>
        refine iteF ⟨as, z _ _ eA, ?_, s2⟩
        rw [sel_take hd, if_neg (by rw [hb]; exact Bool.false_ne_true), List.append_nil]
        exact oA.same z
    rintro H1 ⟨as, eA, oA, s1⟩
    rw [List.take_of_length_le (by rw [hO.len]; exact Nat.le_refl _)] at oA
    refine ⟨_, rfl, L, _, rfl, SqL.of (s1 _ _ eL), fun B2 nB => ?_⟩
    refine lc_it (walk_enum (K := K) (a := L) (xs := xs)) (fun i H' => ∃ bs, H' B2 = some (.lst bs) ∧ Obs trO H' bs (sel false 0 (ds.take i)) ∧ Same H1 H') ⟨_, upd_same, .nil, sm_upd nB⟩ ?_ ?_ ?_
    · rintro i H2 _ ⟨_, _, _, s2⟩
      exact SqL.of (s2 _ _ (s1 _ _ eL))
    · rintro i v H2 H3 hi ⟨bs, eB, oB, s2⟩ ⟨T, x, y, rfl, nT, rfl, hx, hy⟩
      cases hx
      obtain ⟨r, d, rfl, er, hd⟩ := hO.at hy
      have z := sm_upd (o := .tup [.int (i : Nat), .ref r]) nT
      have s3 := s2.trans z
      have al : bs.length < sizeLine := by
        have h1 := oB.len
        have h2 := sel_len false 0 (ds.take i)
        rw [List.length_take] at h2
        exact small1000 (by omega)
      refine ⟨T, _, rfl, SqT.of upd_same, rfl, _, _, rfl, _, _, rfl, r, _, rfl, SqT.of (s3 _ _ (s1 _ _ er)), rfl, _, _, rfl, _, _, rfl, _, _, rfl, rfl, rfl, ?_⟩
      refine ⟨rfl, _, rfl, rfl, _, rfl, ?_⟩
      rw [w_hi]
      cases hb : d.lo with
      | false =>
        refine iteT ⟨_, rfl, _, rfl, _, rfl, len10 (by simp), fun t nt => ?_⟩
        have z2 := sm_upd (o := .tup [.int (i : Nat), .int d.t, .int d.n]) nt
        have nB2 : t ≠ B2 := (ne_of_none (z _ _ eB) nt).symm
        refine ⟨bs, z2 _ _ (z _ _ eB), al, _, upd_same, ?_, ?_⟩
        · rw [sel_take hd, if_pos hb]
          refine Obs.snoc (Obs.keep ((oB.same z).same z2) fun b d' e => ?_) ?_
          · rw [upd_ne (ne_of e (z2 _ _ (z _ _ eB)) (by intro q; cases q))]
            exact e
          · rw [upd_ne nB2]
            exact upd_same
        · intro b o e
          rw [upd_ne (ne_of_none e nB)]
          exact z2 _ _ (s3 _ _ e)
      | true =>
        refine iteF ⟨bs, z _ _ eB, ?_, s3⟩
        rw [sel_take hd, if_neg (by rw [hb]; exact fun q => Bool.false_ne_true q.symm), List.append_nil]
        exact oB.same z
    rintro H2 ⟨bs, eB, oB, s2⟩
    rw [List.take_of_length_le (by rw [hO.len]; exact Nat.le_refl _)] at oB
    refine ⟨_, rfl, _, rfl, len10 (by simp), fun T nT => ?_⟩
    have z := sm_upd (o := .tup [.ref A, .ref B2]) nT
    exact kk T _ A B2 as bs ((s1.trans s2).trans z) upd_same (z _ _ (s2 _ _ eA)) ((oA.same s2).same z) (z _ _ eB) (oB.same z)
end
end Lf
namespace Lf
open PySem PySem.Spec PyProof.Rows L2
/-! ### the bounds of the rates -/
abbrev T4 := Int × Int × Int × Int
abbrev t4O (z : T4) : HO := .tup [.int z.1, .int z.2.1, .int z.2.2.1, .int z.2.2.2]
def PrV (H : Hp) (v : V) : Option T4 → Prop
  | none => v = .non
  | some z => ∃ r, v = .ref r ∧ H r = some (t4O z)
theorem PrV.same {H H' : Hp} {v : V} {o : Option T4} (h : PrV H v o) (s : Same H H') : PrV H' v o := by
  cases o with
  | none => exact h
  | some z =>
    obtain ⟨r, e, h⟩ := h
    exact ⟨r, e, s _ _ h⟩
def uc (x y : T3) : Prop := ¬ y.2.1 < x.2.1 ∧ (x.2.1 < y.2.1 ∨ x.2.2 > y.2.2)
def bot (x y : T3) : Int := if y.2.1 - x.2.1 > 1 then y.2.1 - x.2.1 else 1
theorem bot_pos (x y : T3) : 1 ≤ bot x y := by
  unfold bot
  by_cases h : y.2.1 - x.2.1 > 1
  · rw [if_pos h]
    omega
  · rw [if_neg h]
    omega
theorem bot_eq {x y : T3} (h : x.2.1 < y.2.1) : bot x y = y.2.1 - x.2.1 := by
  unfold bot
  by_cases h : y.2.1 - x.2.1 > 1
  · rw [if_pos h]
  · rw [if_neg h]
    omega
def LoOk (S : T3 → T3 → Prop) : Option T4 → Prop
  | none => ∀ x y, S x y → ¬ y.2.1 < x.2.1
  | some z => (∃ x y, S x y ∧ y.2.1 < x.2.1 ∧ z = (x.2.2 - y.2.2 - 1, x.2.1 - y.2.1, x.1, y.1)) ∧ ∀ x y, S x y → y.2.1 < x.2.1 → (x.2.2 - y.2.2 - 1) * z.2.1 ≤ z.1 * (x.2.1 - y.2.1)
def UpOk (S : T3 → T3 → Prop) : Option T4 → Prop
  | none => ∀ x y, S x y → ¬ uc x y
  | some z => (∃ x y, S x y ∧ uc x y ∧ z = (y.2.2 + 1 - x.2.2, bot x y, x.1, y.1)) ∧ ∀ x y, S x y → uc x y → z.1 * bot x y ≤ (y.2.2 + 1 - x.2.2) * z.2.1
theorem frac_trans {a b c d e f : Int} (hd : 0 < d) (hb : 0 < b) (hf : 0 < f) (h1 : a * d ≤ c * b) (h2 : c * f ≤ e * d) : a * f ≤ e * b := by
  refine Int.le_of_mul_le_mul_right ?_ hd
  have g1 := Int.mul_le_mul_of_nonneg_right h1 (Int.le_of_lt hf)
  have g2 := Int.mul_le_mul_of_nonneg_right h2 (Int.le_of_lt hb)
  have e1 : a * f * d = a * d * f := by grind
  have e2 : e * b * d = e * d * b := by grind
  have e3 : c * b * f = c * f * b := by grind
  omega
theorem frac_lt {a b c d e f : Int} (hd : 0 < d) (hb : 0 < b) (hf : 0 < f) (h1 : a * d ≤ c * b) (h2 : c * f < e * d) : a * f < e * b := by
  refine Int.lt_of_mul_lt_mul_right ?_ (Int.le_of_lt hd)
  have g1 := Int.mul_le_mul_of_nonneg_right h1 (Int.le_of_lt hf)
  have g2 := Int.mul_lt_mul_of_pos_right h2 hb
  have e1 : a * f * d = a * d * f := by grind
  have e2 : e * b * d = e * d * b := by grind
  have e3 : c * b * f = c * f * b := by grind
  omega
theorem frac_lt' {a b c d e f : Int} (hd : 0 < d) (hb : 0 < b) (hf : 0 < f) (h1 : a * d < c * b) (h2 : c * f ≤ e * d) : a * f < e * b := by
  refine Int.lt_of_mul_lt_mul_right ?_ (Int.le_of_lt hd)
  have g1 := Int.mul_lt_mul_of_pos_right h1 hf
  have g2 := Int.mul_le_mul_of_nonneg_right h2 (Int.le_of_lt hb)
  have e1 : a * f * d = a * d * f := by grind
  have e2 : e * b * d = e * d * b := by grind
  have e3 : c * b * f = c * f * b := by grind
  omega
def ad (S : T3 → T3 → Prop) (x y : T3) : T3 → T3 → Prop := fun x' y' => S x' y' ∨ (x' = x ∧ y' = y)
section
variable {S S' : T3 → T3 → Prop} {x y : T3} {o : Option T4}
theorem LoOk.congr (h : LoOk S o) (e : ∀ x y, S x y ↔ S' x y) : LoOk S' o := by
  have : S = S' := by
    funext x y
    exact propext (e x y)
  rw [← this]
  exact h
theorem UpOk.congr (h : UpOk S o) (e : ∀ x y, S x y ↔ S' x y) : UpOk S' o := by
  have : S = S' := by
    funext x y
    exact propext (e x y)
  rw [← this]
  exact h
theorem LoOk.den (h : LoOk S o) : ∀ z, o = some z → 1 ≤ z.2.1 := fun z e => by
  subst e
  obtain ⟨⟨x, y, _, h1, rfl⟩, _⟩ := h
  show 1 ≤ x.2.1 - y.2.1
  omega
theorem UpOk.den (h : UpOk S o) : ∀ z, o = some z → 1 ≤ z.2.1 := fun z e => by
  subst e
  obtain ⟨⟨x, y, _, h1, rfl⟩, _⟩ := h
  exact bot_pos x y
theorem LoOk.skip (h : LoOk S o) (n : ¬ y.2.1 < x.2.1) : LoOk (ad S x y) o := by
  cases o with
  | none =>
    rintro x' y' (z | ⟨rfl, rfl⟩)
    · exact h _ _ z
    · exact n
  | some z =>
    obtain ⟨⟨x0, y0, s0, h1, h2⟩, h3⟩ := h
    refine ⟨⟨x0, y0, .inl s0, h1, h2⟩, ?_⟩
    rintro x' y' (z | ⟨rfl, rfl⟩) c
    · exact h3 _ _ z c
    · exact absurd c n
theorem UpOk.skip (h : UpOk S o) (n : ¬ uc x y) : UpOk (ad S x y) o := by
  cases o with
  | none =>
    rintro x' y' (z | ⟨rfl, rfl⟩)
    · exact h _ _ z
    · exact n
  | some z =>
    obtain ⟨⟨x0, y0, s0, h1, h2⟩, h3⟩ := h
    refine ⟨⟨x0, y0, .inl s0, h1, h2⟩, ?_⟩
    rintro x' y' (z | ⟨rfl, rfl⟩) c
    · exact h3 _ _ z c
    · exact absurd c n
theorem LoOk.first (h : LoOk S none) (c : y.2.1 < x.2.1) : LoOk (ad S x y) (some (x.2.2 - y.2.2 - 1, x.2.1 - y.2.1, x.1, y.1)) := by
  refine ⟨⟨x, y, .inr ⟨rfl, rfl⟩, c, rfl⟩, ?_⟩
  rintro x' y' (z | ⟨rfl, rfl⟩) c'
  · exact absurd c' (h _ _ z)
  · exact Int.le_refl _
theorem LoOk.keep {z : T4} (h : LoOk S (some z)) (g : (x.2.2 - y.2.2 - 1) * z.2.1 ≤ z.1 * (x.2.1 - y.2.1)) : LoOk (ad S x y) (some z) := by
  obtain ⟨⟨x0, y0, s0, h1, h2⟩, h3⟩ := h
  refine ⟨⟨x0, y0, .inl s0, h1, h2⟩, ?_⟩
  rintro x' y' (z | ⟨rfl, rfl⟩) c
  · exact h3 _ _ z c
  · exact g
theorem LoOk.upd {z : T4} (h : LoOk S (some z)) (c : y.2.1 < x.2.1) (g : z.1 * (x.2.1 - y.2.1) < (x.2.2 - y.2.2 - 1) * z.2.1) : LoOk (ad S x y) (some (x.2.2 - y.2.2 - 1, x.2.1 - y.2.1, x.1, y.1)) := by
  refine ⟨⟨x, y, .inr ⟨rfl, rfl⟩, c, rfl⟩, ?_⟩
  have dz := h.den z rfl
  rintro x' y' (s | ⟨rfl, rfl⟩) c'
  · show (x'.2.2 - y'.2.2 - 1) * (x.2.1 - y.2.1) ≤ (x.2.2 - y.2.2 - 1) * (x'.2.1 - y'.2.1)
    exact frac_trans (by omega : 0 < z.2.1) (by omega) (by omega) (h.2 _ _ s c') (Int.le_of_lt g)
  · exact Int.le_refl _
theorem UpOk.first (h : UpOk S none) (c : uc x y) : UpOk (ad S x y) (some (y.2.2 + 1 - x.2.2, bot x y, x.1, y.1)) := by
  refine ⟨⟨x, y, .inr ⟨rfl, rfl⟩, c, rfl⟩, ?_⟩
  rintro x' y' (z | ⟨rfl, rfl⟩) c'
  · exact absurd c' (h _ _ z)
  · exact Int.le_refl _
theorem UpOk.keep {z : T4} (h : UpOk S (some z)) (g : z.1 * bot x y ≤ (y.2.2 + 1 - x.2.2) * z.2.1) : UpOk (ad S x y) (some z) := by
  obtain ⟨⟨x0, y0, s0, h1, h2⟩, h3⟩ := h
  refine ⟨⟨x0, y0, .inl s0, h1, h2⟩, ?_⟩
  rintro x' y' (z | ⟨rfl, rfl⟩) c
  · exact h3 _ _ z c
  · exact g
theorem UpOk.upd {z : T4} (h : UpOk S (some z)) (c : uc x y) (g : (y.2.2 + 1 - x.2.2) * z.2.1 < z.1 * bot x y) : UpOk (ad S x y) (some (y.2.2 + 1 - x.2.2, bot x y, x.1, y.1)) := by
  refine ⟨⟨x, y, .inr ⟨rfl, rfl⟩, c, rfl⟩, ?_⟩
  have dz := h.den z rfl
  have b1 := bot_pos x y
  rintro x' y' (s | ⟨rfl, rfl⟩) c'
  · have b2 := bot_pos x' y'
    show (y.2.2 + 1 - x.2.2) * bot x' y' ≤ (y'.2.2 + 1 - x'.2.2) * bot x y
    exact frac_trans (by omega : 0 < z.2.1) (by omega) (by omega) (Int.le_of_lt g) (h.2 _ _ s c')
  · exact Int.le_refl _
end
/-- a rate within the bounds -/
def RateIn (lo up : Option T4) (p q : Int) : Prop := (∀ z, lo = some z → z.1 * q < p * z.2.1) ∧ ∀ z, up = some z → p * z.2.1 < z.1 * q
theorem rate_iff {S : T3 → T3 → Prop} {lo up : Option T4} {p q : Int} (hp : 0 ≤ p) (hq : 1 ≤ q) (hl : LoOk S lo) (hu : UpOk S up) : (∀ x y, S x y → p * (y.2.1 - x.2.1) < (y.2.2 + 1 - x.2.2) * q) ↔ RateIn lo up p q := by
  constructor
  · intro h
    constructor
    · rintro z rfl
      obtain ⟨⟨x, y, s, c, rfl⟩, _⟩ := hl
      have := h x y s
      show (x.2.2 - y.2.2 - 1) * q < p * (x.2.1 - y.2.1)
      have e1 : (x.2.2 - y.2.2 - 1) * q = -((y.2.2 + 1 - x.2.2) * q) := by grind
      have e2 : p * (x.2.1 - y.2.1) = -(p * (y.2.1 - x.2.1)) := by grind
      omega
    · rintro z rfl
      obtain ⟨⟨x, y, s, c, rfl⟩, _⟩ := hu
      have g := h x y s
      show p * bot x y < (y.2.2 + 1 - x.2.2) * q
      by_cases c2 : x.2.1 < y.2.1
      · rw [bot_eq c2]
        exact g
      · have e : y.2.1 - x.2.1 = 0 := by
          have := c.1
          omega
        rw [e, Int.mul_zero] at g
        have : 0 < y.2.2 + 1 - x.2.2 := pos_of_mul g (by omega)
        have := c.2
        omega
  · rintro ⟨h1, h2⟩ x y s
    by_cases c : y.2.1 < x.2.1
    · cases lo with
      | none => exact absurd c (hl x y s)
      | some z =>
        have dz := hl.den z rfl
        have g := frac_lt (by omega : 0 < z.2.1) (by omega) (by omega : 0 < q) (hl.2 x y s c) (h1 z rfl)
        have e1 : (x.2.2 - y.2.2 - 1) * q = -((y.2.2 + 1 - x.2.2) * q) := by grind
        have e2 : p * (x.2.1 - y.2.1) = -(p * (y.2.1 - x.2.1)) := by grind
        omega
    · by_cases c2 : x.2.1 < y.2.1 ∨ x.2.2 > y.2.2
      · cases up with
        | none => exact absurd ⟨c, c2⟩ (hu x y s)
        | some z =>
          have dz := hu.den z rfl
          have b1 := bot_pos x y
          have g := frac_lt' (by omega : 0 < z.2.1) (by omega : 0 < q) (by omega : 0 < bot x y) (h2 z rfl) (hu.2 x y s ⟨c, c2⟩)
          have le : y.2.1 - x.2.1 ≤ bot x y := by
            by_cases c3 : x.2.1 < y.2.1
            · rw [bot_eq c3]
              exact Int.le_refl _
            · omega
          have := Int.mul_le_mul_of_nonneg_left le hp
          omega
      · have e : y.2.1 - x.2.1 = 0 := by omega
        rw [e, Int.mul_zero]
        exact Int.mul_pos (by omega) (by omega)
/-- no rate is left -/
def nr : Option T4 → Option T4 → Bool
  | _, none => false
  | none, some h => decide (h.1 ≤ 0)
  | some l, some h => decide (h.1 ≤ 0) || decide (h.1 * l.2.1 ≤ l.1 * h.2.1)
theorem nr_none {S : T3 → T3 → Prop} {lo up : Option T4} {p q : Int} (hp : 0 ≤ p) (hq : 1 ≤ q) (hl : LoOk S lo) (hu : UpOk S up) (h : nr lo up = true) : ¬ RateIn lo up p q := by
  rintro ⟨h1, h2⟩
  cases up with
  | none => cases lo <;> cases h
  | some z =>
    have dz := hu.den z rfl
    have g2 := h2 z rfl
    have pz : z.1 ≤ 0 → False := fun c => by
      have := Int.mul_le_mul_of_nonneg_right c (show 0 ≤ q by omega)
      have := Int.mul_nonneg hp (show 0 ≤ z.2.1 by omega)
      rw [Int.zero_mul] at *
      omega
    cases lo with
    | none => exact pz (of_decide_eq_true h)
    | some l =>
      have dl := hl.den l rfl
      have g1 := h1 l rfl
      rcases Bool.or_eq_true _ _ ▸ h with h | h
      · exact pz (of_decide_eq_true h)
      · have h : z.1 * l.2.1 ≤ l.1 * z.2.1 := of_decide_eq_true h
        have := frac_lt (by omega : 0 < l.2.1) (by omega : 0 < z.2.1) (by omega : 0 < q) h g1
        omega
def PB (k : Nat) (o : Option T4) : Prop := ∀ z, o = some z → Bd (k + 2) z.1 ∧ Bd (k + 2) z.2.1
def TB (k : Nat) (ls : List T3) : Prop := ∀ x ∈ ls, Bd k x.2.1 ∧ Bd k x.2.2
section
variable {P : Program} {w : World} {K : PySem.W.Frag} {mg : Str → Option Value} {base : Heap}
def spTP : Sp := fun vs H Q _ => ∃ (T A B : Addr) (vl vu : V) (lo up : Option T4) (as bs : List V) (ls hs : List T3) (S : T3 → T3 → Prop) (k : Nat), vs = [.ref T, .ref A, .ref B] ∧ H T = some (.tup [vl, vu]) ∧ PrV H vl lo ∧ PrV H vu up ∧ H A = some (.lst as) ∧ Obs trO H as ls ∧ H B = some (.lst bs) ∧ Obs trO H bs hs ∧
  TB k ls ∧ TB k hs ∧ PB k lo ∧ PB k up ∧ LoOk S lo ∧ UpOk S up ∧ 0 < k ∧ k ≤ 10000 ∧
  ∀ R H' wl wu lo' up', Same H H' → H' R = some (.tup [wl, wu]) → PrV H' wl lo' → PrV H' wu up' → PB k lo' → PB k up' → LoOk (fun x y => S x y ∨ (x ∈ ls ∧ y ∈ hs)) lo' → UpOk (fun x y => S x y ∨ (x ∈ ls ∧ y ∈ hs)) up' → Q (.ref R) H'
abbrev s_tighter_pairs : Stmt := topS 29
abbrev N_tighter_pairs : List Str := ["pairs", "lows", "highs", "lower", "upper", "i", "t", "n", "j", "u", "m", "bottom"]
abbrev P_tighter_pairs : List Str := ["pairs", "lows", "highs"]
theorem sc_tighter_pairs : FnScope N_tighter_pairs P_tighter_pairs (defScope s_tighter_pairs) := ⟨rfl, rfl, rfl, by decide +kernel, rfl, by decide +kernel, by decide +kernel⟩
theorem ok_tighter_pairs (D : Df K mg "tighter_pairs" s_tighter_pairs P_tighter_pairs) (B : Bi mg) : C8.Cal P w K mg base 1 "tighter_pairs" spTP [] := by
  refine cal_of D sc_tighter_pairs (fun vs H Q E h => ?_) (fun f cdv A outer s H vs Q E hr h => ?_)
  · obtain ⟨T, A, B, vl, vu, lo, up, as, bs, ls, hs, S, k, rfl, _⟩ := h
    rfl
  · obtain ⟨T, A', B', vl, vu, lo, up, as, bs, ls, hs, S, k, rfl, eT, pl, pu, eA, oA, eB, oB, tA, tB, bl, bu, hlo, hup, k0, k1, kk⟩ := h
    refine ⟨_, (pss_cons (ps_asg (pv 0) (pg_tup rfl (pgs_cons (pg_name (i := 3) sc_tighter_pairs.nd rfl (Or.inl rfl)) (pgs_cons (pg_name (i := 4) sc_tighter_pairs.nd rfl (Or.inl rfl)) pgs_nil))))
    (pss_cons (ps_for PassesOwn.never rfl (pi_list (pv 1)) (pg_tup rfl (pgs_cons (pg_name (i := 5) sc_tighter_pairs.nd rfl (Or.inl rfl)) (pgs_cons (pg_name (i := 6) sc_tighter_pairs.nd rfl (Or.inl rfl)) (pgs_cons (pg_name (i := 7) sc_tighter_pairs.nd rfl (Or.inl rfl)) pgs_nil))))
      (pss_one (ps_for PassesOwn.never rfl (pi_list (pv 2)) (pg_tup rfl (pgs_cons (pg_name (i := 8) sc_tighter_pairs.nd rfl (Or.inl rfl)) (pgs_cons (pg_name (i := 9) sc_tighter_pairs.nd rfl (Or.inl rfl)) (pgs_cons (pg_name (i := 10) sc_tighter_pairs.nd rfl (Or.inl rfl)) pgs_nil))))
      (pss_one (ps_if (pt_cmpR op_lt (pv 9) (pv 6) (nomark _))
      (pss_one (ps_if (PW.pt (pw_or (pt_cmpR op_isN (pv 3) pe_non (nomark _)) (pw_or1 (pt_cmpR op_gt (pe_op op_mulW (pe_op op_sub (pe_op op_sub (pv 7) (pv 10)) pe_int) (pe_ix (r := rIxT K) ix_tup (pv 3) pe_int (fun _ _ => rfl))) (pe_op op_mulW (pe_ix (r := rIxT K) ix_tup (pv 3) pe_int (fun _ _ => rfl)) (pe_op op_sub (pv 6) (pv 9))) (nomark _)))))
      (pss_one (ps_set (i := 3) sc_tighter_pairs.nd rfl (Or.inl rfl) (pe_tup (pa_cons (pe_op op_sub (pe_op op_sub (pv 7) (pv 10)) pe_int) (pa_cons (pe_op op_sub (pv 6) (pv 9)) (pa_cons (pv 5) (pa_cons (pv 8) pa_nil)))))))
      pss_nil))
      (pss_one (ps_if (PW.pt (pw_or (pt_cmpR op_lt (pv 6) (pv 9) (nomark _)) (pw_or1 (pt_cmpR op_gt (pv 7) (pv 10) (nomark _)))))
      (pss_cons (ps_set (i := 11) sc_tighter_pairs.nd rfl (Or.inl rfl) (pe_callB (call_max2 rfl) (by rfl) B.max_ bt_max (pa_cons pe_int (pa_cons (pe_op op_sub (pv 9) (pv 6)) pa_nil))))
    (pss_one (ps_if (PW.pt (pw_or (pt_cmpR op_isN (pv 4) pe_non (nomark _)) (pw_or1 (pt_cmpR op_lt (pe_op op_mulW (pe_op op_sub (pe_op op_add (pv 10) pe_int) (pv 7)) (pe_ix (r := rIxT K) ix_tup (pv 4) pe_int (fun _ _ => rfl))) (pe_op op_mulW (pe_ix (r := rIxT K) ix_tup (pv 4) pe_int (fun _ _ => rfl)) (pv 11)) (nomark _)))))
      (pss_one (ps_set (i := 4) sc_tighter_pairs.nd rfl (Or.inl rfl) (pe_tup (pa_cons (pe_op op_sub (pe_op op_add (pv 10) pe_int) (pv 7)) (pa_cons (pv 11) (pa_cons (pv 5) (pa_cons (pv 8) pa_nil)))))))
      pss_nil)))
      pss_nil)))))))
    (pss_one (ps_ret (pe_tup (pa_cons (pv 3) (pa_cons (pv 4) pa_nil))))))), ?_⟩
    refine ⟨_, rfl, T, _, rfl, SqT.of eT, rfl, _, _, rfl, _, _, rfl, rfl, ?_⟩
    refine ⟨_, rfl, A', rfl, ⟨_, SqL.of eA⟩, ?_⟩
    refine for_list (K := K) (a := A') (xs := as) (fun i σ H' => ∃ (vl vu : V) (lo up : Option T4) (y5 y6 y7 y8 y9 y10 y11 : Option V), σ = [some (.ref T), some (.ref A'), some (.ref B'), some vl, some vu, y5, y6, y7, y8, y9, y10, y11] ∧ Same H H' ∧ PrV H' vl lo ∧ PrV H' vu up ∧ PB k lo ∧ PB k up ∧ LoOk (fun x y => S x y ∨ (x ∈ ls.take i ∧ y ∈ hs)) lo ∧ UpOk (fun x y => S x y ∨ (x ∈ ls.take i ∧ y ∈ hs)) up) ?_ ?_ ?_ ?_
    · refine ⟨vl, vu, lo, up, _, _, _, _, _, _, _, rfl, Same.refl _, pl, pu, bl, bu, hlo.congr fun x y => ?_, hup.congr fun x y => ?_⟩
      · constructor
        · exact .inl
        · rintro (z | ⟨z, _⟩)
          · exact z
          · cases z
      · constructor
        · exact .inl
        · rintro (z | ⟨z, _⟩)
          · exact z
          · cases z
    · rintro i σ H' _ ⟨_, _, _, _, _, _, _, _, _, _, _, _, s', _⟩
      exact SqL.of (s' _ _ eA)
    · rintro i v σ H1 hv ⟨vl, vu, lo, up, y5, y6, y7, y8, y9, y10, y11, rfl, s1, pl, pu, bl, bu, hlo, hup⟩
      obtain ⟨r, x, rfl, er, hx⟩ := oA.at hv
      have xb := tA x (List.mem_of_getElem? hx)
      refine ⟨r, _, rfl, SqT.of (s1 _ _ er), rfl, _, _, rfl, _, _, rfl, _, _, rfl, rfl, ?_⟩
      refine ⟨_, rfl, B', rfl, ⟨_, SqL.of (s1 _ _ eB)⟩, ?_⟩
      refine for_list (K := K) (a := B') (xs := bs) (fun j σ H' => ∃ (vl vu : V) (lo up : Option T4) (y8 y9 y10 y11 : Option V), σ = [some (.ref T), some (.ref A'), some (.ref B'), some vl, some vu, some (.int x.1), some (.int x.2.1), some (.int x.2.2), y8, y9, y10, y11] ∧ Same H H' ∧ PrV H' vl lo ∧ PrV H' vu up ∧ PB k lo ∧ PB k up ∧ LoOk (fun x' y' => (S x' y' ∨ (x' ∈ ls.take i ∧ y' ∈ hs)) ∨ (x' = x ∧ y' ∈ hs.take j)) lo ∧ UpOk (fun x' y' => (S x' y' ∨ (x' ∈ ls.take i ∧ y' ∈ hs)) ∨ (x' = x ∧ y' ∈ hs.take j)) up) ?_ ?_ ?_ ?_
      · refine ⟨vl, vu, lo, up, _, _, _, _, rfl, s1, pl, pu, bl, bu, hlo.congr fun x y => ?_, hup.congr fun x y => ?_⟩
        · constructor
          · exact .inl
          · rintro (z | ⟨_, z⟩)
            · exact z
            · cases z
        · constructor
          · exact .inl
          · rintro (z | ⟨_, z⟩)
            · exact z
            · cases z
      · rintro j σ H' _ ⟨_, _, _, _, _, _, _, _, _, s', _⟩
        exact SqL.of (s' _ _ eB)
      · clear hlo hup pl pu bl bu vl vu lo up
        rintro j v σ H2 hv ⟨vl, vu, lo, up, y8, y9, y10, y11, rfl, s2, pl, pu, bl, bu, hlo, hup⟩
        obtain ⟨r2, y, rfl, er2, hy⟩ := oB.at hv
        have yb := tB y (List.mem_of_getElem? hy)
        have cg : ∀ x' y', ad (fun x' y' => (S x' y' ∨ (x' ∈ ls.take i ∧ y' ∈ hs)) ∨ (x' = x ∧ y' ∈ hs.take j)) x y x' y' ↔ ((S x' y' ∨ (x' ∈ ls.take i ∧ y' ∈ hs)) ∨ (x' = x ∧ y' ∈ hs.take (j + 1))) := fun x' y' => by
          rw [List.take_add_one, hy]
          constructor
          · rintro ((z | ⟨z1, z2⟩) | ⟨z1, z2⟩)
            · exact .inl z
            · exact .inr ⟨z1, List.mem_append.mpr (.inl z2)⟩
            · exact .inr ⟨z1, List.mem_append.mpr (.inr (List.mem_singleton.mpr z2))⟩
          · rintro (z | ⟨z1, z2⟩)
            · exact .inl (.inl z)
            · rcases List.mem_append.mp z2 with z2 | z2
              · exact .inl (.inr ⟨z1, z2⟩)
              · exact .inr ⟨z1, List.mem_singleton.mp z2⟩
        have hlo' := hlo
        have hup' := hup
        refine ⟨r2, _, rfl, SqT.of (s2 _ _ er2), rfl, _, _, rfl, _, _, rfl, _, _, rfl, rfl, ?_⟩
        have b1 : Bd (k + 2) (x.2.2 - y.2.2 - 1) := Bd.sub (Bd.sub xb.2 yb.2) (Bd.small 1 (by decide) (by omega))
        have b2 : Bd (k + 1) (x.2.1 - y.2.1) := Bd.sub xb.1 yb.1
        have b3 : Bd (k + 2) (y.2.2 + 1 - x.2.2) := Bd.sub (Bd.add yb.2 (Bd.small 1 (by decide) (by omega))) (xb.2.mono (by omega))
        have b4 : Bd (k + 1) (bot x y) := by
          unfold bot
          by_cases h : y.2.1 - x.2.1 > 1
          · rw [if_pos h]
            exact Bd.sub yb.1 xb.1
          · rw [if_neg h]
            exact Bd.small 1 (by decide) (by omega)
        refine ⟨_, rfl, _, rfl, _, _, rfl, rfl, _, rfl, ite2 (fun c => ?_) (fun c => ?_)⟩
        · have c : y.2.1 < x.2.1 := of_decide_eq_true c
          have upS := (hup.skip (x := x) (y := y) (fun z => z.1 c)).congr cg
          cases lo with
          | none =>
            have e : vl = .non := pl
            subst e
            refine ⟨_, rfl, rfl, _, rfl, iteT (iteT ?_)⟩
            refine ⟨_, rfl, _, rfl, _, _, rfl, rfl, _, _, rfl, rfl, _, rfl, _, rfl, _, _, rfl, rfl, _, rfl, _, rfl, len10 (by simp), fun r3 nr3 => ?_⟩
            have z3 := sm_upd (o := t4O (x.2.2 - y.2.2 - 1, x.2.1 - y.2.1, x.1, y.1)) nr3
            exact ⟨_, _, some (x.2.2 - y.2.2 - 1, x.2.1 - y.2.1, x.1, y.1), up, _, _, _, _, rfl, s2.trans z3, ⟨r3, rfl, upd_same⟩, pu.same z3, fun z e => by cases e; exact ⟨b1, b2.mono (by omega)⟩, bu, (hlo.first c).congr cg, upS⟩
          | some z =>
            obtain ⟨rz, rfl, ez⟩ := pl
            obtain ⟨bz1, bz2⟩ := bl z rfl
            refine ⟨_, rfl, rfl, _, rfl, iteF ?_⟩
            refine ⟨_, rfl, _, rfl, _, _, rfl, rfl, _, _, rfl, rfl, _, rfl, rz, _, _, _, rfl, rfl, SqT.of ez, atI_nat (j := 1) rfl, _, _, rfl, rfl, mulW b1 bz2 (by omega) (by omega) (by omega), _, rfl, rz, _, _, _, rfl, rfl, SqT.of ez, atI_nat (j := 0) rfl, _, rfl, _, rfl, _, _, rfl, rfl, _, _, rfl, rfl, mulW bz1 b2 (by omega) (by omega) (by omega), _, _, rfl, rfl, _, rfl, ite2 (fun g => ?_) (fun g => ?_)⟩
            · have g : (x.2.2 - y.2.2 - 1) * z.2.1 > z.1 * (x.2.1 - y.2.1) := of_decide_eq_true g
              refine ⟨_, rfl, _, rfl, _, _, rfl, rfl, _, _, rfl, rfl, _, rfl, _, rfl, _, _, rfl, rfl, _, rfl, _, rfl, len10 (by simp), fun r3 nr3 => ?_⟩
              have z3 := sm_upd (o := t4O (x.2.2 - y.2.2 - 1, x.2.1 - y.2.1, x.1, y.1)) nr3
              exact ⟨_, _, some (x.2.2 - y.2.2 - 1, x.2.1 - y.2.1, x.1, y.1), up, _, _, _, _, rfl, s2.trans z3, ⟨r3, rfl, upd_same⟩, pu.same z3, fun z e => by cases e; exact ⟨b1, b2.mono (by omega)⟩, bu, (hlo.upd c g).congr cg, upS⟩
            · have g : ¬ (x.2.2 - y.2.2 - 1) * z.2.1 > z.1 * (x.2.1 - y.2.1) := fun h => g (decide_eq_true h)
              exact ⟨_, _, some z, up, _, _, _, _, rfl, s2, ⟨rz, rfl, ez⟩, pu, bl, bu, (hlo.keep (by omega)).congr cg, upS⟩
        · have c : ¬ y.2.1 < x.2.1 := fun h => c (decide_eq_true h)
          have loS := (hlo.skip (x := x) (y := y) c).congr cg
          refine ⟨_, rfl, _, rfl, _, _, rfl, rfl, _, rfl, ite2 (fun c1 => iteT ((fun (hu : uc x y) => ?tw1) ⟨c, .inl (of_decide_eq_true c1)⟩)) (fun c1 => ⟨_, rfl, _, rfl, _, _, rfl, rfl, _, rfl, ite2 (fun c2 => (fun (hu : uc x y) => ?tw2) ⟨c, .inr (of_decide_eq_true c2)⟩) (fun c2 => ?_)⟩)⟩
          case tw1 | tw2 =>
            refine ⟨_, rfl, _, rfl, _, _, rfl, rfl, _, _, rfl, ?_⟩
            show gName 11 (.int (bot x y)) _ H2 _
            cases up with
            | none =>
              have e : vu = .non := pu
              subst e
              refine ⟨_, rfl, rfl, _, rfl, iteT (iteT ?_)⟩
              refine ⟨_, rfl, _, _, rfl, rfl, _, rfl, _, _, rfl, rfl, _, rfl, _, rfl, _, rfl, len10 (by simp), fun r3 nr3 => ?_⟩
              have z3 := sm_upd (o := t4O (y.2.2 + 1 - x.2.2, bot x y, x.1, y.1)) nr3
              exact ⟨_, _, lo, some (y.2.2 + 1 - x.2.2, bot x y, x.1, y.1), _, _, _, _, rfl, s2.trans z3, pl.same z3, ⟨r3, rfl, upd_same⟩, bl, fun z e => by cases e; exact ⟨b3, b4.mono (by omega)⟩, loS, (hup.first hu).congr cg⟩
            | some z =>
              obtain ⟨rz, rfl, ez⟩ := pu
              obtain ⟨bz1, bz2⟩ := bu z rfl
              refine ⟨_, rfl, rfl, _, rfl, iteF ?_⟩
              refine ⟨_, rfl, _, _, rfl, rfl, _, rfl, _, _, rfl, rfl, _, rfl, rz, _, _, _, rfl, rfl, SqT.of ez, atI_nat (j := 1) rfl, _, _, rfl, rfl, mulW b3 bz2 (by omega) (by omega) (by omega), _, rfl, rz, _, _, _, rfl, rfl, SqT.of ez, atI_nat (j := 0) rfl, _, rfl, _, _, rfl, rfl, mulW bz1 b4 (by omega) (by omega) (by omega), _, _, rfl, rfl, _, rfl, ite2 (fun g => ?_) (fun g => ?_)⟩
              · have g : (y.2.2 + 1 - x.2.2) * z.2.1 < z.1 * bot x y := of_decide_eq_true g
                refine ⟨_, rfl, _, _, rfl, rfl, _, rfl, _, _, rfl, rfl, _, rfl, _, rfl, _, rfl, len10 (by simp), fun r3 nr3 => ?_⟩
                have z3 := sm_upd (o := t4O (y.2.2 + 1 - x.2.2, bot x y, x.1, y.1)) nr3
                exact ⟨_, _, lo, some (y.2.2 + 1 - x.2.2, bot x y, x.1, y.1), _, _, _, _, rfl, s2.trans z3, pl.same z3, ⟨r3, rfl, upd_same⟩, bl, fun z e => by cases e; exact ⟨b3, b4.mono (by omega)⟩, loS, (hup.upd hu g).congr cg⟩
              · have g : ¬ (y.2.2 + 1 - x.2.2) * z.2.1 < z.1 * bot x y := fun h => g (decide_eq_true h)
                exact ⟨_, _, lo, some z, _, _, _, _, rfl, s2, pl, ⟨rz, rfl, ez⟩, bl, bu, loS, (hup.keep (by omega)).congr cg⟩
          · have nu : ¬ uc x y := fun z => z.2.elim (fun h => c1 (decide_eq_true h)) (fun h => c2 (decide_eq_true h))
            exact ⟨_, _, lo, up, _, _, _, _, rfl, s2, pl, pu, bl, bu, loS, (hup.skip nu).congr cg⟩
      · clear hlo hup pl pu bl bu vl vu lo up
        rintro σ H2 ⟨vl, vu, lo, up, y8, y9, y10, y11, rfl, s2, pl, pu, bl, bu, hlo, hup⟩
        have etk : hs.take bs.length = hs := List.take_of_length_le (by rw [oB.len]; exact Nat.le_refl _)
        rw [etk] at hlo hup
        have cg : ∀ x' y', ((S x' y' ∨ (x' ∈ ls.take i ∧ y' ∈ hs)) ∨ (x' = x ∧ y' ∈ hs)) ↔ (S x' y' ∨ (x' ∈ ls.take (i + 1) ∧ y' ∈ hs)) := fun x' y' => by
          rw [List.take_add_one, hx]
          constructor
          · rintro ((z | ⟨z1, z2⟩) | ⟨z1, z2⟩)
            · exact .inl z
            · exact .inr ⟨List.mem_append.mpr (.inl z1), z2⟩
            · exact .inr ⟨List.mem_append.mpr (.inr (List.mem_singleton.mpr z1)), z2⟩
          · rintro (z | ⟨z1, z2⟩)
            · exact .inl (.inl z)
            · rcases List.mem_append.mp z1 with z1 | z1
              · exact .inl (.inr ⟨z1, z2⟩)
              · exact .inr ⟨List.mem_singleton.mp z1, z2⟩
        exact ⟨vl, vu, lo, up, _, _, _, _, _, _, _, rfl, s2, pl, pu, bl, bu, hlo.congr cg, hup.congr cg⟩
    · clear hlo hup pl pu bl bu eT vl vu lo up
      rintro σ H2 ⟨vl, vu, lo, up, y5, y6, y7, y8, y9, y10, y11, rfl, s2, pl, pu, bl, bu, hlo, hup⟩
      have etk : ls.take as.length = ls := List.take_of_length_le (by rw [oA.len]; exact Nat.le_refl _)
      rw [etk] at hlo hup
      refine ⟨_, rfl, _, rfl, len10 (by simp), fun R nR => ?_⟩
      have z := sm_upd (o := .tup [vl, vu]) nR
      exact kk R _ vl vu lo up (s2.trans z) upd_same (pl.same z) (pu.same z) bl bu hlo hup
end
end Lf
namespace Lf
open PySem PySem.Spec PyProof.Rows L2
def EndV (H : Hp) (k : Nat) (v : V) : Option (Int × Int) → Prop
  | none => v = .non
  | some e => ∃ a, v = .ref a ∧ H a = some (tup2 e.1 e.2) ∧ Rt k e.1 e.2
def OkE : Option (Int × Int) → Option (Int × Int) → Prop
  | some l, some h => l.1 * h.2 < h.1 * l.2
  | none, some h => 0 < h.1
  | _, none => True
def ResE : Option (Int × Int) → Option (Int × Int) → Int → Int → Prop
  | none, _, N, D => N = 0 ∧ D = 1
  | some l, some h, N, D => Sim l.1 l.2 h.1 h.2 N D
  | some l, none, N, D => Sim l.1 l.2 1 0 N D
section
variable {P : Program} {w : World} {K : PySem.W.Frag} {mg : Str → Option Value} {base : Heap}
def spSB : Sp := fun vs H Q _ => ∃ (v1 v2 : V) (e1 e2 : Option (Int × Int)) (k : Nat), vs = [v1, v2] ∧ EndV H k v1 e1 ∧ EndV H k v2 e2 ∧ OkE e1 e2 ∧ 0 < k ∧ k ≤ 398 ∧
  ∀ r H' N D, Same H H' → H r = none → H' r = some (tup2 N D) → ResE e1 e2 N D → Bd (k + 1) N → Bd (k + 1) D → Q (.ref r) H'
theorem ok_simplest_between (cA_simplest_between : CalF P w K mg base 4 "simplest_between" s_simplest_between P_simplest_between spSB) : C8.Cal P w K mg base 4 "simplest_between" spSB [] := by
  exact cA_simplest_between.cal
end
end Lf
namespace Lf
open PySem PySem.Spec PyProof.Rows L2
def SD (ds : List Rec) : T3 → T3 → Prop := fun x y => x ∈ sel true 0 ds ∧ y ∈ sel false 0 ds
theorem sel_tb {k : Nat} {b : Bool} {ds : List Rec} (h : RcB k ds) : TB k (sel b 0 ds) := fun _ hx => sel_bd h hx
theorem EndV.sm {H H' : Hp} {k : Nat} {v : V} {e : Option (Int × Int)} (h : EndV H k v e) (s : Same H H') : EndV H' k v e := by
  match e, h with
  | none, h => exact h
  | some e, ⟨a, h1, h2, h3⟩ => exact ⟨a, h1, s _ _ h2, h3⟩
theorem EndV.fr {H H' : Hp} {k : Nat} {v : V} {e : Option (Int × Int)} (h : EndV H k v e) (s : Fr H H') : EndV H' k v e := by
  match e, h with
  | none, h => exact h
  | some e, ⟨a, h1, h2, h3⟩ => exact ⟨a, h1, s.t _ _ h2, h3⟩
theorem redRt {k : Nat} {x y : Int} (h0 : 0 ≤ x) (h1 : 1 ≤ y) (bx : Bd k x) (by_ : Bd k y) : Rt k (x / (Int.gcd x y : Int)) (y / (Int.gcd x y : Int)) := by
  have g := gcd_pos (p := x) h1
  refine ⟨Int.ediv_nonneg h0 (by omega), ?_, ?_, bx.ediv g, by_.ediv g⟩
  · have := Int.ediv_le_ediv g (gcd_le (p := x) h1)
    rw [Int.ediv_self (by omega)] at this
    exact this
  · exact Int.gcd_ediv_gcd_ediv_gcd (by omega)
def redE (z : T4) : Int × Int := (z.1 / (Int.gcd z.1 z.2.1 : Int), z.2.1 / (Int.gcd z.1 z.2.1 : Int))
def lowE : Option T4 → Option (Int × Int)
  | none => none
  | some z => if z.1 < 0 then none else some (redE z)
def highE : Option T4 → Option (Int × Int)
  | none => none
  | some z => some (redE z)
theorem red_lt_iff {z : T4} {p q : Int} (d : 1 ≤ z.2.1) : ((redE z).1 * q < p * (redE z).2 ↔ z.1 * q < p * z.2.1) ∧ (p * (redE z).2 < (redE z).1 * q ↔ p * z.2.1 < z.1 * q) := by
  have g := gcd_pos (p := z.1) d
  have e1 : (Int.gcd z.1 z.2.1 : Int) * (z.1 / (Int.gcd z.1 z.2.1 : Int)) = z.1 := Int.mul_ediv_cancel' (Int.gcd_dvd_left ..)
  have e2 : (Int.gcd z.1 z.2.1 : Int) * (z.2.1 / (Int.gcd z.1 z.2.1 : Int)) = z.2.1 := Int.mul_ediv_cancel' (Int.gcd_dvd_right ..)
  unfold redE
  dsimp only
  generalize (Int.gcd z.1 z.2.1 : Int) = gg at *
  generalize z.1 / gg = a at *
  generalize z.2.1 / gg = b at *
  rw [← e1, ← e2]
  have h1 : gg * a * q = gg * (a * q) := by grind
  have h2 : p * (gg * b) = gg * (p * b) := by grind
  rw [h1, h2]
  constructor
  · exact ⟨fun h => Int.mul_lt_mul_of_pos_left h g, fun h => Int.lt_of_mul_lt_mul_left h (Int.le_of_lt g)⟩
  · exact ⟨fun h => Int.mul_lt_mul_of_pos_left h g, fun h => Int.lt_of_mul_lt_mul_left h (Int.le_of_lt g)⟩
/-- strictly between the ends that rates gives -/
def Ins (e1 e2 : Option (Int × Int)) (p q : Int) : Prop := (∀ z, e1 = some z → z.1 * q < p * z.2) ∧ ∀ z, e2 = some z → p * z.2 < z.1 * q
theorem ins_iff {S : T3 → T3 → Prop} {lo up : Option T4} {p q : Int} (hp : 0 ≤ p) (hq : 1 ≤ q) (hl : LoOk S lo) (hu : UpOk S up) : Ins (lowE lo) (highE up) p q ↔ RateIn lo up p q := by
  unfold Ins RateIn
  constructor
  · rintro ⟨h1, h2⟩
    constructor
    · rintro z rfl
      have d := hl.den z rfl
      by_cases c : z.1 < 0
      · have := Int.mul_neg_of_neg_of_pos c (show 0 < q by omega)
        have := Int.mul_nonneg hp (show 0 ≤ z.2.1 by omega)
        omega
      · exact (red_lt_iff d).1.mp (h1 _ (by show (if z.1 < 0 then none else some (redE z)) = _; rw [if_neg c]))
    · rintro z rfl
      exact (red_lt_iff (hu.den z rfl)).2.mp (h2 _ rfl)
  · rintro ⟨h1, h2⟩
    constructor
    · intro z e
      cases lo with
      | none => cases e
      | some y =>
        have e : (if y.1 < 0 then none else some (redE y)) = some z := e
        by_cases c : y.1 < 0
        · rw [if_pos c] at e
          cases e
        · rw [if_neg c] at e
          cases e
          exact (red_lt_iff (hl.den y rfl)).1.mpr (h1 y rfl)
    · intro z e
      cases up with
      | none => cases e
      | some y =>
        cases e
        exact (red_lt_iff (hu.den y rfl)).2.mpr (h2 y rfl)
/-- the phases are there just where all pairs leave room -/
theorem ph_iff {p q : Int} {ds : List Rec} {a b : Option Int} (ha : IsMx (lph p q ds) a) (hb : IsMn (hph p q ds) b) : okPh a b = true ↔ ∀ x y, SD ds x y → p * (y.2.1 - x.2.1) < (y.2.2 + 1 - x.2.2) * q := by
  have key : ∀ x y : T3, (x.2.2 * q - p * x.2.1 ≤ (y.2.2 + 1) * q - p * y.2.1 - 1) ↔ p * (y.2.1 - x.2.1) < (y.2.2 + 1 - x.2.2) * q := fun x y => by
    rw [Int.mul_sub, Int.sub_mul (y.2.2 + 1)]
    omega
  constructor
  · intro h x y ⟨hx, hy⟩
    rw [← key]
    have mx : x.2.2 * q - p * x.2.1 ∈ lph p q ds := List.mem_map.mpr ⟨x, hx, rfl⟩
    have my : (y.2.2 + 1) * q - p * y.2.1 - 1 ∈ hph p q ds := List.mem_map.mpr ⟨y, hy, rfl⟩
    cases a with
    | none =>
      rw [show lph p q ds = [] from ha] at mx
      cases mx
    | some v =>
      cases b with
      | none =>
        rw [show hph p q ds = [] from hb] at my
        cases my
      | some u =>
        have h : v ≤ u := of_decide_eq_true h
        have := ha.2 _ mx
        have := hb.2 _ my
        omega
  · intro h
    cases a with
    | none => rfl
    | some v =>
      cases b with
      | none => rfl
      | some u =>
        obtain ⟨x, hx, ex⟩ := List.mem_map.mp ha.1
        obtain ⟨y, hy, ey⟩ := List.mem_map.mp hb.1
        refine decide_eq_true ?_
        rw [← ex, ← ey]
        exact (key x y).mpr (h x y ⟨hx, hy⟩)
section
variable {P : Program} {w : World} {K : PySem.W.Frag} {mg : Str → Option Value} {base : Heap}
def spRedR : Sp := fun vs H Q _ => ∃ (p q : Int), vs = [.int p, .int q] ∧ 0 ≤ p ∧ 1 ≤ q ∧ Bd 9000 q ∧
  ∀ r H', Same H H' → H r = none → H' r = some (tup2 (p / (Int.gcd p q : Int)) (q / (Int.gcd p q : Int))) → Q (.ref r) H'
abbrev s_reduce_rate : Stmt := topS 19
abbrev N_reduce_rate : List Str := ["p", "q", "divisor"]
abbrev P_reduce_rate : List Str := ["p", "q"]
theorem sc_reduce_rate : FnScope N_reduce_rate P_reduce_rate (defScope s_reduce_rate) := ⟨rfl, rfl, rfl, by decide +kernel, rfl, by decide +kernel, by decide +kernel⟩
theorem ok_reduce_rate (D : Df K mg "reduce_rate" s_reduce_rate P_reduce_rate) (c_gcd : C8.Cal P w K mg base 1 "gcd" spGcd []) : C8.Cal P w K mg base 2 "reduce_rate" spRedR [] := by
  refine cal_of D sc_reduce_rate (fun vs H Q E h => ?_) (fun f cdv A outer s H vs Q E hr h => ?_)
  · obtain ⟨p, q, rfl, _⟩ := h
    rfl
  · obtain ⟨p, q, rfl, hp, hq, hb, k⟩ := h
    refine ⟨_, (pss_cons (ps_set (i := 2) sc_reduce_rate.nd rfl (Or.inl rfl) (C8.pe_c c_gcd hr (by decide) (by rfl) (pa_cons (pv 0) (pa_cons (pv 1) pa_nil))))
    (pss_one (ps_ret (pe_tup (pa_cons (pe_op op_fdivW (pv 0) (pv 2)) (pa_cons (pe_op op_fdivW (pv 1) (pv 2)) pa_nil)))))), ?_⟩
    have hg := gcd_pos (p := p) hq
    have hd : CDivW 0 (Int.gcd p q : Int) := ⟨hg, (hb.between (by omega) (gcd_le hq)).log (by decide)⟩
    refine ⟨_, rfl, _, rfl, p, q, rfl, hp, by omega, ?_⟩
    refine ⟨_, rfl, _, rfl, _, _, rfl, rfl, hd, _, rfl, _, rfl, _, _, rfl, rfl, hd, len10 (by simp), fun r nr => ?_⟩
    exact k r _ (sm_upd nr) nr upd_same
def spTight : Sp := fun vs H Q _ => ∃ (L : Addr) (xs : List V) (ds : List Rec) (k : Nat), vs = [.ref L] ∧ H L = some (.lst xs) ∧ Obs rcO H xs ds ∧ ds.length ≤ 1000 ∧ RcB k ds ∧ 0 < k ∧ k ≤ 8000 ∧
  ∀ R H' wl wu lo up, Same H H' → H' R = some (.tup [wl, wu]) → PrV H' wl lo → PrV H' wu up → PB k lo → PB k up → LoOk (SD ds) lo → UpOk (SD ds) up → Q (.ref R) H'
abbrev s_tight_pairs : Stmt := topS 28
abbrev N_tight_pairs : List Str := ["records", "lows", "highs"]
abbrev P_tight_pairs : List Str := ["records"]
theorem sc_tight_pairs : FnScope N_tight_pairs P_tight_pairs (defScope s_tight_pairs) := ⟨rfl, rfl, rfl, by decide +kernel, rfl, by decide +kernel, by decide +kernel⟩
theorem ok_tight_pairs (D : Df K mg "tight_pairs" s_tight_pairs P_tight_pairs) (c_split_records : C8.Cal P w K mg base 1 "split_records" spSplit []) (c_tighter_pairs : C8.Cal P w K mg base 1 "tighter_pairs" spTP []) : C8.Cal P w K mg base 2 "tight_pairs" spTight [] := by
  refine cal_of D sc_tight_pairs (fun vs H Q E h => ?_) (fun f cdv A outer s H vs Q E hr h => ?_)
  · obtain ⟨L, xs, ds, k, rfl, _⟩ := h
    rfl
  · obtain ⟨L, xs, ds, k, rfl, eL, hO, hl, bd, k0, k1, kk⟩ := h
    refine ⟨_, (pss_cons (ps_asg (C8.pe_c c_split_records hr (by decide) (by rfl) (pa_cons (pv 0) pa_nil)) (pg_tup rfl (pgs_cons (pg_name (i := 1) sc_tight_pairs.nd rfl (Or.inl rfl)) (pgs_cons (pg_name (i := 2) sc_tight_pairs.nd rfl (Or.inl rfl)) pgs_nil))))
    (pss_one (ps_ret (C8.pe_c c_tighter_pairs hr (by decide) (by rfl) (pa_cons (pe_tup (pa_cons pe_non (pa_cons pe_non pa_nil))) (pa_cons (pv 1) (pa_cons (pv 2) pa_nil))))))), ?_⟩
    refine ⟨_, rfl, L, xs, ds, rfl, eL, hO, hl, fun T H1 A' B' as bs s1 eT eA oA eB oB => ?_⟩
    refine ⟨T, _, rfl, SqT.of eT, rfl, _, _, rfl, _, _, rfl, rfl, ?_⟩
    refine ⟨len10 (by simp), fun N nN => ?_⟩
    have z := sm_upd (o := .tup [.non, .non]) nN
    have nf : ∀ x y : T3, (False ∨ x ∈ sel true 0 ds ∧ y ∈ sel false 0 ds) ↔ SD ds x y := fun x y => ⟨fun h => h.elim False.elim id, .inr⟩
    refine ⟨_, rfl, _, rfl, N, A', B', .non, .non, none, none, as, bs, _, _, fun _ _ => False, k, rfl, upd_same, rfl, rfl, z _ _ eA, oA.same z, z _ _ eB, oB.same z, sel_tb bd, sel_tb bd, fun _ h => (nomatch h), fun _ h => (nomatch h), fun _ _ h => h.elim, fun _ _ h => h.elim, k0, by omega, fun R H2 wl wu lo up s2 eR pl pu bl bu hl hu => ?_⟩
    exact kk R H2 wl wu lo up ((s1.trans z).trans s2) eR pl pu bl bu (hl.congr nf) (hu.congr nf)
def spLNR : Sp := fun vs H Q _ => ∃ (R : Addr) (wl wu : V) (lo up : Option T4) (k : Nat), vs = [.ref R] ∧ H R = some (.tup [wl, wu]) ∧ PrV H wl lo ∧ PrV H wu up ∧ PB k lo ∧ PB k up ∧ k ≤ 10000 ∧ Q (.bl (nr lo up)) H
abbrev s_leave_no_rate : Stmt := topS 30
abbrev N_leave_no_rate : List Str := ["pairs", "lower", "upper"]
abbrev P_leave_no_rate : List Str := ["pairs"]
theorem sc_leave_no_rate : FnScope N_leave_no_rate P_leave_no_rate (defScope s_leave_no_rate) := ⟨rfl, rfl, rfl, by decide +kernel, rfl, by decide +kernel, by decide +kernel⟩
theorem ok_leave_no_rate (D : Df K mg "leave_no_rate" s_leave_no_rate P_leave_no_rate) : C8.Cal P w K mg base 1 "leave_no_rate" spLNR [] := by
  refine cal_of D sc_leave_no_rate (fun vs H Q E h => ?_) (fun f cdv A outer s H vs Q E hr h => ?_)
  · obtain ⟨R, wl, wu, lo, up, k, rfl, _⟩ := h
    rfl
  · obtain ⟨R, wl, wu, lo, up, k, rfl, eR, pl, pu, bl, bu, k1, kk⟩ := h
    refine ⟨_, (pss_cons (ps_asg (pv 0) (pg_tup rfl (pgs_cons (pg_name (i := 1) sc_leave_no_rate.nd rfl (Or.inl rfl)) (pgs_cons (pg_name (i := 2) sc_leave_no_rate.nd rfl (Or.inl rfl)) pgs_nil))))
    (pss_cons (ps_if (pt_cmpR op_isN (pv 2) pe_non (nomark _))
      (pss_one (ps_ret pe_bl))
      pss_nil)
    (pss_one (ps_ret (pe_or (pe_cmpR op_le (pe_ix (r := rIxT K) ix_tup (pv 2) pe_int (fun _ _ => rfl)) pe_int (nomark _)) (pe_one (pe_and (pe_cmpR op_notN (pv 1) pe_non (nomark _)) (pe_one (pe_cmpR op_ge (pe_op op_mulW (pe_ix (r := rIxT K) ix_tup (pv 1) pe_int (fun _ _ => rfl)) (pe_ix (r := rIxT K) ix_tup (pv 2) pe_int (fun _ _ => rfl))) (pe_op op_mulW (pe_ix (r := rIxT K) ix_tup (pv 2) pe_int (fun _ _ => rfl)) (pe_ix (r := rIxT K) ix_tup (pv 1) pe_int (fun _ _ => rfl))) (nomark _)))))))))), ?_⟩
    refine ⟨_, rfl, R, _, rfl, SqT.of eR, rfl, _, _, rfl, _, _, rfl, rfl, ?_⟩
    cases up with
    | none =>
      have e : wu = .non := pu
      subst e
      have kk : Q (.bl false) H := by
        cases lo <;> exact kk
      exact ⟨_, rfl, rfl, _, rfl, iteT kk⟩
    | some z =>
      obtain ⟨rz, rfl, ez⟩ := pu
      obtain ⟨b1, b2⟩ := bu z rfl
      refine ⟨_, rfl, rfl, _, rfl, iteF ?_⟩
      refine ⟨_, rfl, rz, _, _, _, rfl, rfl, SqT.of ez, atI_nat (j := 0) rfl, _, _, rfl, rfl, _, rfl, ?_⟩
      cases lo with
      | none =>
        have e : wl = .non := pl
        subst e
        refine ite2 (fun c => ?_) (fun c => ?_)
        · have kk : Q (.bl (decide (z.1 ≤ 0))) H := kk
          rw [c] at kk
          exact kk
        · refine ⟨_, rfl, rfl, _, rfl, iteF ?_⟩
          have kk : Q (.bl (decide (z.1 ≤ 0))) H := kk
          rw [bool_f c] at kk
          exact kk
      | some l =>
        obtain ⟨rl, rfl, el⟩ := pl
        obtain ⟨b3, b4⟩ := bl l rfl
        have kk : Q (.bl (decide (z.1 ≤ 0) || decide (z.1 * l.2.1 ≤ l.1 * z.2.1))) H := kk
        refine ite2 (fun c => ?_) (fun c => ?_)
        · rw [c] at kk
          exact kk
        · rw [bool_f c] at kk
          refine ⟨_, rfl, rfl, _, rfl, iteT ?_⟩
          exact ⟨_, rfl, rl, _, _, _, rfl, rfl, SqT.of el, atI_nat (j := 0) rfl, _, rfl, rz, _, _, _, rfl, rfl, SqT.of ez, atI_nat (j := 1) rfl, _, _, rfl, rfl, mulW b3 b2 (by omega) (by omega) (by omega), _, rfl, rz, _, _, _, rfl, rfl, SqT.of ez, atI_nat (j := 0) rfl, _, rfl, rl, _, _, _, rfl, rfl, SqT.of el, atI_nat (j := 1) rfl, _, _, rfl, rfl, mulW b1 b4 (by omega) (by omega) (by omega), _, _, rfl, rfl, kk⟩
/-- what rate_ends gives -/
def RV (H : Hp) (k : Nat) (v : V) (lo up : Option T4) : Prop := (nr lo up = true ∧ v = .non) ∨ (nr lo up = false ∧ ∃ T a b, v = .ref T ∧ H T = some (.tup [a, b]) ∧ EndV H (k + 2) a (lowE lo) ∧ EndV H (k + 2) b (highE up))
def spRateEnds (m : Nat) : Sp := fun vs H Q _ => ∃ (L : Addr) (xs : List V) (ds : List Rec) (k : Nat), vs = [.ref L] ∧ H L = some (.lst xs) ∧ Obs rcO H xs ds ∧ ds.length ≤ m ∧ RcB k ds ∧ 0 < k ∧ k ≤ 8000 ∧
  ∀ H' v lo up, Same H H' → LoOk (SD ds) lo → UpOk (SD ds) up → PB k lo → PB k up → RV H' k v lo up → Q v H'
abbrev s_rate_ends : Stmt := topS 31
abbrev N_rate_ends : List Str := ["records", "pairs", "lower", "upper", "low", "high"]
abbrev P_rate_ends : List Str := ["records"]
theorem sc_rate_ends : FnScope N_rate_ends P_rate_ends (defScope s_rate_ends) := ⟨rfl, rfl, rfl, by decide +kernel, rfl, by decide +kernel, by decide +kernel⟩
theorem ok_rate_ends (D : Df K mg "rate_ends" s_rate_ends P_rate_ends) (c_tight_pairs : C8.Cal P w K mg base 2 "tight_pairs" spTight []) (c_leave_no_rate : C8.Cal P w K mg base 1 "leave_no_rate" spLNR []) (c_reduce_rate : C8.Cal P w K mg base 2 "reduce_rate" spRedR []) : C8.Cal P w K mg base 3 "rate_ends" (spRateEnds 1000) [] := by
  refine cal_of D sc_rate_ends (fun vs H Q E h => ?_) (fun f cdv A outer s H vs Q E hr h => ?_)
  · obtain ⟨L, xs, ds, k, rfl, _⟩ := h
    rfl
  · obtain ⟨L, xs, ds, k, rfl, eL, hO, hl, bd, k0, k1, kk⟩ := h
    refine ⟨_, (pss_cons (ps_set (i := 1) sc_rate_ends.nd rfl (Or.inl rfl) (C8.pe_c c_tight_pairs hr (by decide) (by rfl) (pa_cons (pv 0) pa_nil)))
    (pss_cons (ps_if (pt_val (C8.pe_c c_leave_no_rate hr (by decide) (by rfl) (pa_cons (pv 1) pa_nil)))
      (pss_one (ps_ret pe_non))
      pss_nil)
    (pss_cons (ps_asg (pv 1) (pg_tup rfl (pgs_cons (pg_name (i := 2) sc_rate_ends.nd rfl (Or.inl rfl)) (pgs_cons (pg_name (i := 3) sc_rate_ends.nd rfl (Or.inl rfl)) pgs_nil))))
    (C8.pss_cut (ps_set (i := 4) sc_rate_ends.nd rfl (Or.inl rfl) (pe_ifExp (PW.pt (pw_or (pt_cmpR op_isN (pv 2) pe_non (nomark _)) (pw_or1 (pt_cmpR op_lt (pe_ix (r := rIxT K) ix_tup (pv 2) pe_int (fun _ _ => rfl)) pe_int (nomark _))))) pe_non (C8.pe_c c_reduce_rate hr (by decide) (by rfl) (pa_cons (pe_ix (r := rIxT K) ix_tup (pv 2) pe_int (fun _ _ => rfl)) (pa_cons (pe_ix (r := rIxT K) ix_tup (pv 2) pe_int (fun _ _ => rfl)) pa_nil)))))
    (C8.pss_cut (ps_set (i := 5) sc_rate_ends.nd rfl (Or.inl rfl) (pe_ifExp (pt_cmpR op_isN (pv 3) pe_non (nomark _)) pe_non (C8.pe_c c_reduce_rate hr (by decide) (by rfl) (pa_cons (pe_ix (r := rIxT K) ix_tup (pv 3) pe_int (fun _ _ => rfl)) (pa_cons (pe_ix (r := rIxT K) ix_tup (pv 3) pe_int (fun _ _ => rfl)) pa_nil)))))
    (pss_one (ps_ret (pe_tup (pa_cons (pv 4) (pa_cons (pv 5) pa_nil)))))))))), ?_⟩
    refine ⟨_, rfl, L, xs, ds, k, rfl, eL, hO, hl, bd, k0, k1, fun R H1 wl wu lo up s1 eR pl pu bl bu hlo hup => ?_⟩
    refine ⟨_, rfl, R, wl, wu, lo, up, k, rfl, eR, pl, pu, bl, bu, by omega, ?_⟩
    refine ⟨_, rfl, ?_⟩
    cases hn : nr lo up with
    | true =>
      refine iteT ?_
      exact kk _ _ lo up s1 hlo hup bl bu (.inl ⟨hn, rfl⟩)
    | false =>
      refine iteF ?_
      refine ⟨_, rfl, R, _, rfl, SqT.of eR, rfl, _, _, rfl, _, _, rfl, rfl, ?_⟩
      refine ⟨fun σ' H' => ∃ va, σ' = [some (.ref L), some (.ref R), some wl, some wu, some va, none] ∧ Same H1 H' ∧ EndV H' (k + 2) va (lowE lo), ?_, ?_⟩
      · cases lo with
        | none =>
          have e : wl = .non := pl
          subst e
          refine ⟨_, rfl, rfl, _, rfl, iteT (iteT ?_)⟩
          exact ⟨_, rfl, Same.refl _, rfl⟩
        | some z =>
          obtain ⟨rz, rfl, ez⟩ := pl
          obtain ⟨b1, b2⟩ := bl z rfl
          have dz := hlo.den z rfl
          refine ⟨_, rfl, rfl, _, rfl, iteF ?_⟩
          refine ⟨_, rfl, rz, _, _, _, rfl, rfl, SqT.of ez, atI_nat (j := 0) rfl, _, _, rfl, rfl, _, rfl, ite2 (fun c => ?_) (fun c => ?_)⟩
          · have c : z.1 < 0 := of_decide_eq_true c
            refine ⟨_, rfl, Same.refl _, ?_⟩
            show EndV H1 (k + 2) .non (if z.1 < 0 then none else some (redE z))
            rw [if_pos c]
            rfl
          · have c : ¬ z.1 < 0 := fun h => c (decide_eq_true h)
            refine ⟨_, rfl, rz, _, _, _, rfl, rfl, SqT.of ez, atI_nat (j := 0) rfl, _, rfl, rz, _, _, _, rfl, rfl, SqT.of ez, atI_nat (j := 1) rfl, z.1, z.2.1, rfl, by omega, dz, b2.mono (by omega), fun r H2 s2 nr er => ?_⟩
            refine ⟨_, rfl, s2, ?_⟩
            show EndV H2 (k + 2) (.ref r) (if z.1 < 0 then none else some (redE z))
            rw [if_neg c]
            exact ⟨r, rfl, er, redRt (by omega) dz b1 b2⟩
      rintro σ H2 ⟨va, rfl, s2, hva⟩
      refine ⟨fun σ' H' => ∃ vb, σ' = [some (.ref L), some (.ref R), some wl, some wu, some va, some vb] ∧ Same H2 H' ∧ EndV H' (k + 2) vb (highE up), ?_, ?_⟩
      · cases up with
        | none =>
          have e : wu = .non := pu
          subst e
          refine ⟨_, rfl, rfl, _, rfl, iteT ?_⟩
          exact ⟨_, rfl, Same.refl _, rfl⟩
        | some z =>
          obtain ⟨rz, rfl, ez⟩ := pu
          have ez := s2 _ _ ez
          obtain ⟨b1, b2⟩ := bu z rfl
          have dz := hup.den z rfl
          have pz : 0 < z.1 := by
            rcases Int.lt_or_le 0 z.1 with h | h
            · exact h
            · exfalso
              cases lo with
              | none =>
                have hn : decide (z.1 ≤ 0) = false := hn
                rw [decide_eq_true h] at hn
                cases hn
              | some l =>
                have hn : (decide (z.1 ≤ 0) || decide (z.1 * l.2.1 ≤ l.1 * z.2.1)) = false := hn
                rw [decide_eq_true h] at hn
                cases hn
          refine ⟨_, rfl, rfl, _, rfl, iteF ?_⟩
          refine ⟨_, rfl, rz, _, _, _, rfl, rfl, SqT.of ez, atI_nat (j := 0) rfl, _, rfl, rz, _, _, _, rfl, rfl, SqT.of ez, atI_nat (j := 1) rfl, z.1, z.2.1, rfl, by omega, dz, b2.mono (by omega), fun r H3 s3 nr er => ?_⟩
          exact ⟨_, rfl, s3, r, rfl, er, redRt (by omega) dz b1 b2⟩
      rintro σ H3 ⟨vb, rfl, s3, hvb⟩
      refine ⟨_, rfl, _, rfl, len10 (by simp), fun T nT => ?_⟩
      have z := sm_upd (o := .tup [va, vb]) nT
      exact kk _ _ lo up (((s1.trans s2).trans s3).trans z) hlo hup bl bu (.inr ⟨hn, T, va, vb, rfl, upd_same, (hva.sm s3).sm z, hvb.sm z⟩)
abbrev s_rates : Stmt := topS 26
abbrev N_rates : List Str := ["records"]
abbrev P_rates : List Str := ["records"]
theorem sc_rates : FnScope N_rates P_rates (defScope s_rates) := ⟨rfl, rfl, rfl, by decide +kernel, rfl, by decide +kernel, by decide +kernel⟩
theorem ok_rates (D : Df K mg "rates" s_rates P_rates) (c_check_records : C8.Cal P w K mg base 3 "check_records" spCkRec []) (c_rate_ends : C8.Cal P w K mg base 3 "rate_ends" (spRateEnds 1000) []) : C8.Cal P w K mg base 4 "rates" (spRateEnds 200) [] := by
  refine cal_of D sc_rates (fun vs H Q E h => ?_) (fun f cdv A outer s H vs Q E hr h => ?_)
  · obtain ⟨L, xs, ds, k, rfl, _⟩ := h
    rfl
  · obtain ⟨L, xs, ds, k, rfl, eL, hO, hl, bd, k0, k1, kk⟩ := h
    refine ⟨_, (pss_cons (ps_expr (C8.pe_c c_check_records hr (by decide) (by rfl) (pa_cons (pv 0) pa_nil)))
    (pss_one (ps_ret (C8.pe_c c_rate_ends hr (by decide) (by rfl) (pa_cons (pv 0) pa_nil))))), ?_⟩
    refine ⟨_, rfl, L, xs, ds, rfl, eL, hO, hl, fun H1 s1 => ?_⟩
    refine ⟨_, rfl, L, xs, ds, k, rfl, s1 _ _ eL, hO.same s1, by omega, bd, k0, k1, fun H2 v lo up s2 hlo hup bl bu rv => ?_⟩
    exact kk H2 v lo up (s1.trans s2) hlo hup bl bu rv
end
end Lf
namespace Lf
open PySem PySem.Spec PyProof.Rows L2
/-- repr of an int or of None -/
theorem repr_some {X : Cx} : CallR X (.builtin "repr") (fun xs H Q => (∃ i : Int, xs = [.int i] ∧ i.natAbs.log2 < 1920 ∧ Q (.str (toString i)) H) ∨ (xs = [.non] ∧ Q (.str "None") H)) := by
  intro pins s σ H xs us Q I rel h
  rcases h with h | ⟨rfl, hq⟩
  · exact SkE.call_repr_int pins s σ H xs us Q I rel h
  · obtain ⟨u, hu, ru⟩ := vals1 rel
    subst hu
    have eu : u = Value.none := ru
    subst eu
    exact PySem.P.repr_of_none ⟨.str "None", H, I.tok _, ⟨_, rfl⟩, hq⟩
theorem cut_take (xs : List V) (m : Int) (h : 0 ≤ m) : cutV xs none (some m) = xs.take m.toNat := by
  obtain ⟨n, rfl⟩ := Int.eq_ofNat_of_zero_le h
  unfold cutV
  rw [HT.sIx_none, show HT.sIx xs.length xs.length (some ((n : Nat) : Int)) = min n xs.length from HT.sIx_nat _ _ n, List.drop_zero, Nat.sub_zero]
  show xs.take (min n xs.length) = xs.take n
  by_cases hn : n ≤ xs.length
  · rw [Nat.min_eq_left hn]
  · rw [Nat.min_eq_right (by omega), List.take_of_length_le (Nat.le_refl _), List.take_of_length_le (by omega)]
theorem flat_ints (ns : List Int) : (ns.map V.int).all flatV = true := by
  induction ns with
  | nil => rfl
  | cons n r ih => simpa [flatV] using ih
theorem inV_ints (ns : List Int) (k : Int) : inV (V.int k) (ns.map V.int) = decide (k ∈ ns) := by
  induction ns with
  | nil => rfl
  | cons n r ih =>
    have ih' : ((r.map V.int).any fun y => eqV y (V.int k)) = decide (k ∈ r) := ih
    show (eqV (V.int n) (V.int k) || (r.map V.int).any fun y => eqV y (V.int k)) = decide (k ∈ n :: r)
    rw [ih']
    by_cases h : n = k
    · subst h
      simp [eqV]
    · have h' : ¬ k = n := fun z => h z.symm
      simp [eqV, h, h']
end Lf
namespace Lf
open PySem PySem.Spec PyProof.Rows L2
/-- two rules that are the same are not different -/
theorem ne3 {K : PySem.W.Frag} {H : Hp} {r1 r2 : Addr} {p q c p' q' c' : Int} {Q : V → Hp → Prop} (e1 : H r1 = some (.tup [.int p, .int q, .int c])) (e2 : H r2 = some (.tup [.int p', .int q', .int c'])) (hp : p = p') (hq : q = q') (hc : c = c') (h : Q (.bl false) H) : rNeD K (.ref r1) (.ref r2) H Q := by
  subst hp hq hc
  refine ⟨.tuple [.int p, .int q, .int c], .tuple [.int p, .int q, .int c], Dp.tup (SqT.of e1) (.cons (.int p) (.cons (.int q) (.cons (.int c) .nil))), Dp.tup (SqT.of e2) (.cons (.int p) (.cons (.int q) (.cons (.int c) .nil))), rfl, rfl, ?_⟩
  rw [SeqAt.eqv_refl _ rfl]
  exact h
theorem logR {k : Nat} {i : Int} (h : Bd k i) (hk : k ≤ 1920) : i.natAbs.log2 < 1920 := (h.mono hk).log (by decide)
def spLaw (K : PySem.W.Frag) : Sp := fun vs H Q _ => ∃ (a : Addr) (ns : List Int), vs = [.ref a] ∧ SqL K H a (ns.map V.int) ∧ ns.length ≤ 63 ∧ ∀ H', Q (.bl true) H'
end Lf
namespace Lf
open PySem PySem.Spec PyProof.Rows L2
/-! ### conflicts: no rate fits -/
def FitM (ds : List Rec) (p q : Int) : Prop := ∀ d ∈ ds, ∀ e ∈ ds, d.lo = true → e.lo = false → p * (e.t - d.t) < (e.n + 1 - d.n) * q
def Cf (ds : List Rec) : Prop := ∀ p q : Int, 0 ≤ p → 1 ≤ q → ¬ FitM ds p q
theorem FitM.sub {ds es : List Rec} {p q : Int} (h : FitM ds p q) (s : ∀ d ∈ es, d ∈ ds) : FitM es p q := fun d hd e he => h d (s d hd) e (s e he)
theorem Cf.sub {ds es : List Rec} (h : Cf es) (s : ∀ d ∈ es, d ∈ ds) : Cf ds := fun p q hp hq f => h p q hp hq (f.sub s)
theorem not_cf {ds : List Rec} (h : ¬ Cf ds) : ∃ p q : Int, 0 ≤ p ∧ 1 ≤ q ∧ FitM ds p q := by
  unfold Cf at h
  simp only [Classical.not_forall, Classical.not_not] at h
  obtain ⟨p, q, hp, hq, f⟩ := h
  exact ⟨p, q, hp, hq, f⟩
theorem fitm_sd {ds : List Rec} {p q : Int} : (∀ x y, SD ds x y → p * (y.2.1 - x.2.1) < (y.2.2 + 1 - x.2.2) * q) ↔ FitM ds p q := by
  constructor
  · intro h d hd e he ld le
    obtain ⟨i, ei⟩ := List.mem_iff_getElem?.mp hd
    obtain ⟨j, ej⟩ := List.mem_iff_getElem?.mp he
    exact h _ _ ⟨mem_sel ei ld 0, mem_sel ej le 0⟩
  · rintro h x y ⟨hx, hy⟩
    obtain ⟨i, d, ei, ld, rfl⟩ := sel_mem hx
    obtain ⟨j, e, ej, le, rfl⟩ := sel_mem hy
    exact h d (List.mem_of_getElem? ei) e (List.mem_of_getElem? ej) ld le
/-- where the bounds leave room there is a rate -/
theorem nr_some {S : T3 → T3 → Prop} {lo up : Option T4} (hl : LoOk S lo) (hu : UpOk S up) (h : nr lo up = false) : ∃ p q : Int, 0 ≤ p ∧ 1 ≤ q ∧ RateIn lo up p q := by
  cases up with
  | none =>
    cases lo with
    | none => exact ⟨0, 1, by omega, by omega, fun z e => (nomatch e), fun z e => (nomatch e)⟩
    | some l =>
      have dl := hl.den l rfl
      refine ⟨(if l.1 < 0 then 0 else l.1) + 1, 1, ?_, by omega, fun z e => ?_, fun z e => (nomatch e)⟩
      · by_cases c : l.1 < 0
        · rw [if_pos c]
          omega
        · rw [if_neg c]
          omega
      · cases e
        have key : l.1 < (if l.1 < 0 then 0 else l.1) + 1 ∧ 0 ≤ (if l.1 < 0 then 0 else l.1) + 1 := by
          by_cases c : l.1 < 0
          · rw [if_pos c]
            omega
          · rw [if_neg c]
            omega
        generalize (if l.1 < 0 then 0 else l.1) + 1 = a at key
        have := Int.mul_le_mul_of_nonneg_left dl key.2
        omega
  | some z =>
    have dz := hu.den z rfl
    cases lo with
    | none =>
      have h : decide (z.1 ≤ 0) = false := h
      have h := of_decide_eq_false h
      exact ⟨0, 1, by omega, by omega, fun z e => (nomatch e), fun y e => by cases e; omega⟩
    | some l =>
      have dl := hl.den l rfl
      have h : (decide (z.1 ≤ 0) || decide (z.1 * l.2.1 ≤ l.1 * z.2.1)) = false := h
      rw [Bool.or_eq_false_iff] at h
      have h1 := of_decide_eq_false h.1
      have h2 := of_decide_eq_false h.2
      by_cases c : l.1 < 0
      · refine ⟨0, 1, by omega, by omega, fun y e => ?_, fun y e => ?_⟩
        · cases e
          omega
        · cases e
          omega
      · refine ⟨l.1 + z.1, l.2.1 + z.2.1, by omega, by omega, fun y e => ?_, fun y e => ?_⟩
        · cases e
          rw [Int.mul_add, Int.add_mul]
          omega
        · cases e
          rw [Int.mul_add, Int.add_mul]
          omega
theorem nr_cf {ds : List Rec} {lo up : Option T4} (hl : LoOk (SD ds) lo) (hu : UpOk (SD ds) up) : nr lo up = true ↔ Cf ds := by
  constructor
  · intro h p q hp hq f
    exact nr_none hp hq hl hu h ((rate_iff hp hq hl hu).mp (fitm_sd.mpr f))
  · intro h
    cases e : nr lo up with
    | true => rfl
    | false =>
      obtain ⟨p, q, hp, hq, r⟩ := nr_some hl hu e
      exact absurd (fitm_sd.mp ((rate_iff hp hq hl hu).mpr r)) (h p q hp hq)
/-! ### three of four -/
theorem cf3_a {t1 n1 u1 m1 t2 n2 p q : Int} (hq : 1 ≤ q) (D0 : u1 < t1) (a : u1 ≥ t2) (X : 0 ≤ (n2 - m1 - 1) * (t1 - u1) + (n1 - m1 - 1) * (u1 - t2))
    (h1 : p * (u1 - t1) < (m1 + 1 - n1) * q) (h2 : p * (u1 - t2) < (m1 + 1 - n2) * q) : False := by
  have e1 : (n1 - m1 - 1) * q < p * (t1 - u1) := by
    have a1 : (n1 - m1 - 1) * q = -((m1 + 1 - n1) * q) := by grind
    have a2 : p * (t1 - u1) = -(p * (u1 - t1)) := by grind
    omega
  have g1 := Int.mul_le_mul_of_nonneg_right (Int.le_of_lt e1) (show 0 ≤ u1 - t2 by omega)
  have g2 := Int.mul_lt_mul_of_pos_right h2 (show 0 < t1 - u1 by omega)
  have g3 := Int.mul_nonneg X (show 0 ≤ q by omega)
  have b1 : p * (u1 - t2) * (t1 - u1) = p * (t1 - u1) * (u1 - t2) := by grind
  have b2 : (m1 + 1 - n2) * q * (t1 - u1) = -((n2 - m1 - 1) * (t1 - u1) * q) := by grind
  have b3 : (n1 - m1 - 1) * q * (u1 - t2) = (n1 - m1 - 1) * (u1 - t2) * q := by grind
  rw [Int.add_mul] at g3
  omega
theorem cf3_b {A D u1 m1 t2 n2 u2 m2 p q : Int} (hq : 1 ≤ q) (D0 : 0 < D) (a : u1 < t2) (hu : t2 < u2) (X : 0 ≤ (n2 - m1 - 1) * D + A * (u1 - t2)) (Y : 0 ≤ (n2 - m2 - 1) * D + A * (u2 - t2))
    (h1 : p * (u1 - t2) < (m1 + 1 - n2) * q) (h2 : p * (u2 - t2) < (m2 + 1 - n2) * q) : False := by
  have g1 := Int.mul_lt_mul_of_pos_right h1 D0
  have g2 := Int.mul_nonneg X (show 0 ≤ q by omega)
  have b1 : (m1 + 1 - n2) * q * D = -((n2 - m1 - 1) * D * q) := by grind
  have b2 : p * (u1 - t2) * D = -(p * D * (t2 - u1)) := by grind
  have b3 : A * (u1 - t2) * q = -(A * q * (t2 - u1)) := by grind
  rw [Int.add_mul] at g2
  have g3 : A * q * (t2 - u1) < p * D * (t2 - u1) := by omega
  have g4 : A * q < p * D := Int.lt_of_mul_lt_mul_right g3 (by omega)
  have g5 := Int.mul_lt_mul_of_pos_right g4 (show 0 < u2 - t2 by omega)
  have g6 := Int.mul_lt_mul_of_pos_right h2 D0
  have g7 := Int.mul_nonneg Y (show 0 ≤ q by omega)
  have b4 : (m2 + 1 - n2) * q * D = -((n2 - m2 - 1) * D * q) := by grind
  have b5 : p * (u2 - t2) * D = p * D * (u2 - t2) := by grind
  have b6 : A * (u2 - t2) * q = A * q * (u2 - t2) := by grind
  rw [Int.add_mul] at g7
  omega
theorem cf3_c {t1 n1 u1 m1 u2 m2 p q : Int} (hq : 1 ≤ q) (D0 : u1 < t1) (a : u2 ≥ t1) (X : 0 ≤ (n1 - m2 - 1) * (t1 - u1) + (n1 - m1 - 1) * (u2 - t1))
    (h1 : p * (u1 - t1) < (m1 + 1 - n1) * q) (h2 : p * (u2 - t1) < (m2 + 1 - n1) * q) : False := by
  have e1 : (n1 - m1 - 1) * q < p * (t1 - u1) := by
    have a1 : (n1 - m1 - 1) * q = -((m1 + 1 - n1) * q) := by grind
    have a2 : p * (t1 - u1) = -(p * (u1 - t1)) := by grind
    omega
  have g1 := Int.mul_le_mul_of_nonneg_right (Int.le_of_lt e1) (show 0 ≤ u2 - t1 by omega)
  have g2 := Int.mul_lt_mul_of_pos_right h2 (show 0 < t1 - u1 by omega)
  have g3 := Int.mul_nonneg X (show 0 ≤ q by omega)
  have b1 : p * (u2 - t1) * (t1 - u1) = p * (t1 - u1) * (u2 - t1) := by grind
  have b2 : (m2 + 1 - n1) * q * (t1 - u1) = -((n1 - m2 - 1) * (t1 - u1) * q) := by grind
  have b3 : (n1 - m1 - 1) * q * (u2 - t1) = (n1 - m1 - 1) * (u2 - t1) * q := by grind
  rw [Int.add_mul] at g3
  omega
theorem cf3_d {A D t1 n1 t2 n2 u2 m2 p q : Int} (hq : 1 ≤ q) (D0 : 0 < D) (a : u2 < t1) (hu : t2 < u2) (X : 0 ≤ (n1 - m2 - 1) * D + A * (u2 - t1)) (Y : 0 ≤ (n2 - m2 - 1) * D + A * (u2 - t2))
    (h1 : p * (u2 - t1) < (m2 + 1 - n1) * q) (h2 : p * (u2 - t2) < (m2 + 1 - n2) * q) : False := by
  have g1 := Int.mul_lt_mul_of_pos_right h1 D0
  have g2 := Int.mul_nonneg X (show 0 ≤ q by omega)
  have b1 : (m2 + 1 - n1) * q * D = -((n1 - m2 - 1) * D * q) := by grind
  have b2 : p * (u2 - t1) * D = -(p * D * (t1 - u2)) := by grind
  have b3 : A * (u2 - t1) * q = -(A * q * (t1 - u2)) := by grind
  rw [Int.add_mul] at g2
  have g3 : A * q * (t1 - u2) < p * D * (t1 - u2) := by omega
  have g4 : A * q < p * D := Int.lt_of_mul_lt_mul_right g3 (by omega)
  have g5 := Int.mul_lt_mul_of_pos_right g4 (show 0 < u2 - t2 by omega)
  have g6 := Int.mul_lt_mul_of_pos_right h2 D0
  have g7 := Int.mul_nonneg Y (show 0 ≤ q by omega)
  have b4 : (m2 + 1 - n2) * q * D = -((n2 - m2 - 1) * D * q) := by grind
  have b5 : p * (u2 - t2) * D = p * D * (u2 - t2) := by grind
  have b6 : A * (u2 - t2) * q = A * q * (u2 - t2) := by grind
  rw [Int.add_mul] at g7
  omega
theorem cf_four {d1 e1 d2 e2 : Rec} (ld1 : d1.lo = true) (le1 : e1.lo = false) (ld2 : d2.lo = true) (le2 : e2.lo = false) (h1 : e1.t < d1.t) (h2 : d2.t < e2.t)
    (c : (e2.n + 1 - d2.n) * (d1.t - e1.t) ≤ (d1.n - e1.n - 1) * (e2.t - d2.t)) : Cf [d1, e1, d2] ∨ Cf [d2, e1, e2] ∨ Cf [d1, e1, e2] ∨ Cf [d1, d2, e2] := by
  have Y : 0 ≤ (d2.n - e2.n - 1) * (d1.t - e1.t) + (d1.n - e1.n - 1) * (e2.t - d2.t) := by
    have b1 : (e2.n + 1 - d2.n) * (d1.t - e1.t) = -((d2.n - e2.n - 1) * (d1.t - e1.t)) := by grind
    omega
  have sum : ((d2.n - e1.n - 1) * (d1.t - e1.t) + (d1.n - e1.n - 1) * (e1.t - d2.t)) + ((d1.n - e2.n - 1) * (d1.t - e1.t) + (d1.n - e1.n - 1) * (e2.t - d1.t)) = (d2.n - e2.n - 1) * (d1.t - e1.t) + (d1.n - e1.n - 1) * (e2.t - d2.t) := by grind
  rcases Int.le_total 0 ((d2.n - e1.n - 1) * (d1.t - e1.t) + (d1.n - e1.n - 1) * (e1.t - d2.t)) with X | X
  · by_cases a : e1.t ≥ d2.t
    · refine .inl fun p q hp hq f => ?_
      exact cf3_a hq h1 a X (f d1 (by simp) e1 (by simp) ld1 le1) (f d2 (by simp) e1 (by simp) ld2 le1)
    · refine .inr (.inl fun p q hp hq f => ?_)
      exact cf3_b hq (show 0 < d1.t - e1.t by omega) (by omega) h2 X Y (f d2 (by simp) e1 (by simp) ld2 le1) (f d2 (by simp) e2 (by simp) ld2 le2)
  · have X : 0 ≤ (d1.n - e2.n - 1) * (d1.t - e1.t) + (d1.n - e1.n - 1) * (e2.t - d1.t) := by omega
    by_cases a : e2.t ≥ d1.t
    · refine .inr (.inr (.inl fun p q hp hq f => ?_))
      exact cf3_c hq h1 a X (f d1 (by simp) e1 (by simp) ld1 le1) (f d1 (by simp) e2 (by simp) ld1 le2)
    · refine .inr (.inr (.inr fun p q hp hq f => ?_))
      exact cf3_d hq (show 0 < d1.t - e1.t by omega) (by omega) h2 X Y (f d1 (by simp) e2 (by simp) ld1 le2) (f d2 (by simp) e2 (by simp) ld2 le2)
/-- records picked by their indexes -/
def pk (ds : List Rec) (js : List Nat) : List Rec := js.filterMap fun j => ds[j]?
theorem mem_pk {ds : List Rec} {js : List Nat} {d : Rec} : d ∈ pk ds js ↔ ∃ j, j ∈ js ∧ ds[j]? = some d := List.mem_filterMap
theorem pk_sub {ds : List Rec} {js is : List Nat} (h : ∀ j ∈ js, j ∈ is) : ∀ d ∈ pk ds js, d ∈ pk ds is := fun d hd => by
  obtain ⟨j, hj, e⟩ := mem_pk.mp hd
  exact mem_pk.mpr ⟨j, h j hj, e⟩
theorem pk_all {ds : List Rec} {js : List Nat} : ∀ d ∈ pk ds js, d ∈ ds := fun d hd => by
  obtain ⟨j, hj, e⟩ := mem_pk.mp hd
  exact List.mem_of_getElem? e
theorem pk_len {ds : List Rec} {js : List Nat} (h : ∀ j ∈ js, j < ds.length) : (pk ds js).length = js.length := by
  induction js with
  | nil => rfl
  | cons j r ih =>
    have hj := h j List.mem_cons_self
    have e : ds[j]? = some ds[j] := List.getElem?_eq_getElem hj
    show (List.filterMap _ (j :: r)).length = _
    rw [List.filterMap_cons, e]
    show ((pk ds r).length + 1) = _
    rw [ih fun k hk => h k (List.mem_cons_of_mem _ hk)]
    rfl
theorem pk_app {ds : List Rec} {js is : List Nat} : pk ds (js ++ is) = pk ds js ++ pk ds is := List.filterMap_append
theorem pk_one {ds : List Rec} {j : Nat} {d : Rec} (e : ds[j]? = some d) : pk ds [j] = [d] := by
  show List.filterMap _ [j] = _
  rw [List.filterMap_cons, e]
  rfl
theorem pk_at {ds : List Rec} {js : List Nat} (h : ∀ j ∈ js, j < ds.length) {i j : Nat} (e : js[i]? = some j) : (pk ds js)[i]? = ds[j]? := by
  induction js generalizing i with
  | nil => cases e
  | cons k r ih =>
    have hk := h k List.mem_cons_self
    have ek : ds[k]? = some ds[k] := List.getElem?_eq_getElem hk
    show (List.filterMap _ (k :: r))[i]? = _
    rw [List.filterMap_cons, ek]
    cases i with
    | zero =>
      cases e
      exact ek.symm
    | succ i => exact ih (fun x hx => h x (List.mem_cons_of_mem _ hx)) e
/-- a conflict none of whose records can be left out -/
structure Least (ds : List Rec) (js : List Nat) : Prop where
  up : js.Pairwise (· < ·)
  lt : ∀ j ∈ js, j < ds.length
  cf : Cf (pk ds js)
  mn : ∀ j ∈ js, ¬ Cf (pk ds (js.filter (· ≠ j)))
  le : js.length ≤ 3
theorem cf_two {ds : List Rec} (h : Cf ds) : ∃ d e, d ∈ ds ∧ e ∈ ds ∧ d.lo = true ∧ e.lo = false := by
  refine Classical.byContradiction fun n => h 0 1 (by omega) (by omega) fun d hd e he ld le => ?_
  exact absurd ⟨d, e, hd, he, ld, le⟩ n
theorem cf_len {ds : List Rec} (h : Cf ds) : 2 ≤ ds.length := by
  obtain ⟨d, e, hd, he, ld, le⟩ := cf_two h
  match ds, hd, he with
  | [a], hd, he =>
    rw [List.mem_singleton.mp hd] at ld
    rw [List.mem_singleton.mp he, ld] at le
    cases le
  | a :: b :: r, _, _ =>
    rw [List.length_cons, List.length_cons]
    omega
theorem Least.ge {ds : List Rec} {js : List Nat} (h : Least ds js) : 2 ≤ js.length := by
  have := cf_len h.cf
  rw [pk_len h.lt] at this
  exact this
/-- what conflicts within a least conflict is all of it -/
theorem Least.all {ds : List Rec} {js is : List Nat} (h : Least ds js) (s : ∀ i ∈ is, i ∈ js) (c : Cf (pk ds is)) : ∀ j ∈ js, j ∈ is := fun j hj => by
  refine Classical.byContradiction fun n => h.mn j hj (c.sub (pk_sub fun i hi => ?_))
  rw [List.mem_filter]
  exact ⟨s i hi, decide_eq_true fun e => n (e ▸ hi)⟩
theorem lo_at {ds : List Rec} {z : T4} (h : LoOk (SD ds) (some z)) : ∃ (i j : Nat) (d e : Rec), ds[i]? = some d ∧ ds[j]? = some e ∧ d.lo = true ∧ e.lo = false ∧ e.t < d.t ∧ z = (d.n - e.n - 1, d.t - e.t, (i : Int), (j : Int)) := by
  obtain ⟨⟨x, y, ⟨hx, hy⟩, g, rfl⟩, _⟩ := h
  obtain ⟨i, d, ei, ld, rfl⟩ := sel_mem hx
  obtain ⟨j, e, ej, le, rfl⟩ := sel_mem hy
  rw [Nat.zero_add, Nat.zero_add] at *
  exact ⟨i, j, d, e, ei, ej, ld, le, g, rfl⟩
theorem up_at {ds : List Rec} {z : T4} (h : UpOk (SD ds) (some z)) : ∃ (i j : Nat) (d e : Rec), ds[i]? = some d ∧ ds[j]? = some e ∧ d.lo = true ∧ e.lo = false ∧ ¬ e.t < d.t ∧ (d.t < e.t ∨ d.n > e.n) ∧ z.1 = e.n + 1 - d.n ∧ (d.t < e.t → z.2.1 = e.t - d.t) ∧ z.2.2 = ((i : Int), (j : Int)) := by
  obtain ⟨⟨x, y, ⟨hx, hy⟩, g, rfl⟩, _⟩ := h
  obtain ⟨i, d, ei, ld, rfl⟩ := sel_mem hx
  obtain ⟨j, e, ej, le, rfl⟩ := sel_mem hy
  rw [Nat.zero_add, Nat.zero_add] at *
  exact ⟨i, j, d, e, ei, ej, ld, le, g.1, g.2, rfl, fun c => bot_eq c, rfl⟩
end Lf
namespace Lf
open PySem PySem.Spec PyProof.Rows L2
/-! ### even lists -/
def Ev (ns : List Int) : Prop := (∀ (i : Nat) (x y : Int), ns[i]? = some x → ns[i + 1]? = some y → x ≤ y) ∧
  ∀ (w i j : Nat) (a b c d : Int), ns[i]? = some a → ns[i + w]? = some b → ns[j]? = some c → ns[j + w]? = some d → (b - a) - (d - c) ≤ 1
theorem get_le {ns : List Int} {i j : Nat} {x : Int} (h : ns[j]? = some x) (le : i ≤ j) : ∃ y, ns[i]? = some y := by
  have := (List.getElem?_eq_some_iff.mp h).1
  exact ⟨_, List.getElem?_eq_getElem (show i < ns.length by omega)⟩
theorem Ev.mono {ns : List Int} (h : Ev ns) : ∀ (k i : Nat) (x y : Int), ns[i]? = some x → ns[i + k]? = some y → x ≤ y := by
  intro k
  induction k with
  | zero =>
    intro i x y hx hy
    have hy : ns[i]? = some y := hy
    rw [hx] at hy
    cases hy
    exact Int.le_refl _
  | succ k ih =>
    intro i x y hx hy
    obtain ⟨z, hz⟩ := get_le hy (show i + k ≤ i + (k + 1) by omega)
    have := ih i x z hx hz
    have := h.1 (i + k) z y hz hy
    omega
theorem Ev.slope {ns : List Int} (h : Ev ns) : ∀ (n w w' i j : Nat) (a b c d : Int), w + w' ≤ n → 1 ≤ w → 1 ≤ w' → ns[i]? = some a → ns[i + w]? = some b → ns[j]? = some c → ns[j + w']? = some d → (b - a - 1) * (w' : Int) < (d - c + 1) * (w : Int) := by
  intro n
  induction n with
  | zero =>
    intro w w' i j a b c d hn h1
    omega
  | succ n ih =>
    intro w w' i j a b c d hn h1 h2 ha hb hc hd
    rcases Nat.lt_trichotomy w w' with lt | eq | gt
    · obtain ⟨m, hm⟩ := get_le hd (show j + w ≤ j + w' by omega)
      have g := h.2 w i j a b c m ha hb hc hm
      have := ih w (w' - w) i (j + w) a b m d (by omega) h1 (by omega) ha hb hm (by rw [show j + w + (w' - w) = j + w' by omega]; exact hd)
      have e : ((w' - w : Nat) : Int) = (w' : Int) - (w : Int) := by omega
      rw [e, Int.mul_sub] at this
      have g2 := Int.mul_le_mul_of_nonneg_right (show b - a - 1 ≤ m - c by omega) (show (0 : Int) ≤ (w : Int) by omega)
      have e2 : (d - c + 1) * (w : Int) = (d - m + 1) * (w : Int) + (m - c) * (w : Int) := by
        rw [← Int.add_mul]
        congr 1
        omega
      omega
    · subst eq
      have g := h.2 w i j a b c d ha hb hc hd
      exact Int.mul_lt_mul_of_pos_right (by omega) (by omega)
    · obtain ⟨m, hm⟩ := get_le hb (show i + w' ≤ i + w by omega)
      have g := h.2 w' i j a m c d ha hm hc hd
      have := ih (w - w') w' (i + w') j m b c d (by omega) (by omega) h2 hm (by rw [show i + w' + (w - w') = i + w by omega]; exact hb) hc hd
      have e : ((w - w' : Nat) : Int) = (w : Int) - (w' : Int) := by omega
      rw [e, Int.mul_sub] at this
      have g2 := Int.mul_le_mul_of_nonneg_right (show m - a ≤ d - c + 1 by omega) (show (0 : Int) ≤ (w' : Int) by omega)
      have e2 : (b - a - 1) * (w' : Int) = (b - m - 1) * (w' : Int) + (m - a) * (w' : Int) := by
        rw [← Int.add_mul]
        congr 1
        omega
      omega
/-- the records of all counts from a start on -/
def Rcs (s : Int) (ns : List Int) (ds : List Rec) : Prop := ∀ d, d ∈ ds ↔ ∃ (k : Nat), ns[k]? = some d.n ∧ d.t = s + (k : Int)
theorem ev_cf {s : Int} {ns : List Int} {ds : List Rec} {lo up : Option T4} (hr : Rcs s ns ds) (hl : LoOk (SD ds) lo) (hu : UpOk (SD ds) up) : Ev ns ↔ ¬ Cf ds := by
  rw [← nr_cf hl hu]
  constructor
  · intro h
    cases up with
    | none => cases lo <;> exact fun z => (nomatch z)
    | some z =>
      obtain ⟨i, j, d, e, ei, ej, ld, le, g1, g2, z1, z2, _⟩ := up_at hu
      obtain ⟨k, hk, tk⟩ := (hr d).mp (List.mem_of_getElem? ei)
      obtain ⟨m, hm, tm⟩ := (hr e).mp (List.mem_of_getElem? ej)
      have lt : d.t < e.t := by
        rcases g2 with g | g
        · exact g
        · rcases Int.lt_or_le d.t e.t with q | q
          · exact q
          · have : k = m := by omega
            subst this
            have := Option.some.inj (hk.symm.trans hm)
            omega
      have km : k < m := by omega
      have em : k + (m - k) = m := by omega
      have mo := h.mono (m - k) k d.n e.n hk (by rw [em]; exact hm)
      have zp : ¬ z.1 ≤ 0 := by omega
      cases lo with
      | none =>
        intro q
        have q : decide (z.1 ≤ 0) = true := q
        exact zp (of_decide_eq_true q)
      | some l =>
        obtain ⟨i1, j1, d1, e1, ei1, ej1, ld1, le1, g, rfl⟩ := lo_at hl
        obtain ⟨k1, hk1, tk1⟩ := (hr d1).mp (List.mem_of_getElem? ei1)
        obtain ⟨m1, hm1, tm1⟩ := (hr e1).mp (List.mem_of_getElem? ej1)
        have e1' : m1 + (k1 - m1) = k1 := by omega
        have sl := h.slope _ (k1 - m1) (m - k) m1 k e1.n d1.n d.n e.n (Nat.le_refl _) (by omega) (by omega) hm1 (by rw [e1']; exact hk1) hk (by rw [em]; exact hm)
        intro q
        have q : (decide (z.1 ≤ 0) || decide (z.1 * (d1.t - e1.t) ≤ (d1.n - e1.n - 1) * z.2.1)) = true := q
        rw [decide_eq_false zp, Bool.false_or, z2 lt, z1] at q
        have q := of_decide_eq_true q
        have a1 : ((m - k : Nat) : Int) = e.t - d.t := by omega
        have a2 : ((k1 - m1 : Nat) : Int) = d1.t - e1.t := by omega
        rw [a1, a2, show e.n - d.n + 1 = e.n + 1 - d.n by omega] at sl
        omega
  · intro h
    rw [nr_cf hl hu] at h
    obtain ⟨p, q, hp, hq, f⟩ := not_cf h
    have mem : ∀ (b : Bool) (k : Nat) (x : Int), ns[k]? = some x → (⟨b, s + (k : Int), x⟩ : Rec) ∈ ds := fun b k x hx => (hr _).mpr ⟨k, hx, rfl⟩
    constructor
    · intro i x y hx hy
      have h1 : p * ((s + ((i + 1 : Nat) : Int)) - (s + (i : Int))) < (y + 1 - x) * q := f _ (mem true i x hx) _ (mem false (i + 1) y hy) rfl rfl
      rw [show (s + ((i + 1 : Nat) : Int)) - (s + (i : Int)) = 1 by omega, Int.mul_one] at h1
      have := pos_of_mul (show 0 < (y + 1 - x) * q by omega) (by omega)
      omega
    · intro w i j a b c d ha hb hc hd
      have h1 : p * ((s + (i : Int)) - (s + ((i + w : Nat) : Int))) < (a + 1 - b) * q := f _ (mem true (i + w) b hb) _ (mem false i a ha) rfl rfl
      have h2 : p * ((s + ((j + w : Nat) : Int)) - (s + (j : Int))) < (d + 1 - c) * q := f _ (mem true j c hc) _ (mem false (j + w) d hd) rfl rfl
      rw [show (s + (i : Int)) - (s + ((i + w : Nat) : Int)) = -(w : Int) by omega, Int.mul_neg] at h1
      rw [show (s + ((j + w : Nat) : Int)) - (s + (j : Int)) = (w : Int) by omega] at h2
      have e : (a + 1 - b) * q + (d + 1 - c) * q = (a + 1 - b + (d + 1 - c)) * q := (Int.add_mul ..).symm
      have := pos_of_mul (show 0 < (a + 1 - b + (d + 1 - c)) * q by omega) (by omega)
      omega
/-- the counts of a rule are even, raised or not -/
theorem ev_rule {p q c s u : Int} {ns : List Int} (hp : 0 ≤ p) (hq : 1 ≤ q) (h : ∀ (k : Nat) (x : Int), ns[k]? = some x → x = (p * (s + (k : Int)) + c) / q + u) : Ev ns := by
  have fl : ∀ z : Int, z / q * q ≤ z ∧ z < z / q * q + q := fun z => by
    have h1 := Int.emod_add_mul_ediv z q
    have h2 := Int.emod_nonneg z (show q ≠ 0 by omega)
    have h3 := Int.emod_lt_of_pos z (show 0 < q by omega)
    rw [Int.mul_comm] at h1
    omega
  constructor
  · intro i x y hx hy
    rw [h i x hx, h (i + 1) y hy]
    have : (p * (s + (i : Int)) + c) / q ≤ (p * (s + ((i + 1 : Nat) : Int)) + c) / q := by
      refine Int.ediv_le_ediv (by omega) ?_
      have := Int.mul_le_mul_of_nonneg_left (show s + (i : Int) ≤ s + ((i + 1 : Nat) : Int) by omega) hp
      omega
    omega
  · intro w i j a b c' d ha hb hc hd
    rw [h i a ha, h (i + w) b hb, h j c' hc, h (j + w) d hd]
    have e1 : p * (s + ((i + w : Nat) : Int)) + c = p * (s + (i : Int)) + c + p * (w : Int) := by
      rw [show s + ((i + w : Nat) : Int) = s + (i : Int) + (w : Int) by omega, Int.mul_add]
      omega
    have e2 : p * (s + ((j + w : Nat) : Int)) + c = p * (s + (j : Int)) + c + p * (w : Int) := by
      rw [show s + ((j + w : Nat) : Int) = s + (j : Int) + (w : Int) by omega, Int.mul_add]
      omega
    rw [e1, e2]
    generalize p * (s + (i : Int)) + c = A
    generalize p * (s + (j : Int)) + c = B
    generalize p * (w : Int) = W
    have f1 := fl A
    have f2 := fl (A + W)
    have f3 := fl B
    have f4 := fl (B + W)
    generalize A / q = a1 at *
    generalize (A + W) / q = a2 at *
    generalize B / q = b1 at *
    generalize (B + W) / q = b2 at *
    have e3 : (a2 - a1 - (b2 - b1)) * q = a2 * q - a1 * q - (b2 * q - b1 * q) := by
      rw [Int.sub_mul, Int.sub_mul, Int.sub_mul]
    have : (a2 - a1 - (b2 - b1)) * q < 2 * q := by omega
    have := Int.lt_of_mul_lt_mul_right this (by omega)
    omega
theorem first_at {l : List Int} {x : Int} (h : x ∈ l) : ∃ j : Nat, l[j]? = some x ∧ ∀ m : Nat, m < j → l[m]? ≠ some x := by
  induction l with
  | nil => cases h
  | cons a r ih =>
    by_cases e : a = x
    · subst e
      exact ⟨0, rfl, fun m hm => by omega⟩
    · rcases List.mem_cons.mp h with g | g
      · exact absurd g.symm e
      · obtain ⟨j, h1, h2⟩ := ih g
        refine ⟨j + 1, h1, fun m hm => ?_⟩
        cases m with
        | zero =>
          intro z
          exact e (Option.some.inj z)
        | succ m => exact h2 m (by omega)
def gns (ns : List Int) (w n : Nat) : List Int := (List.range n).map fun i => ns.getD (i + w) 0 - ns.getD i 0
theorem gns_at {ns : List Int} {w n i : Nat} {a b : Int} (hi : i < n) (ha : ns[i]? = some a) (hb : ns[i + w]? = some b) : b - a ∈ gns ns w n := by
  unfold gns
  refine List.mem_map.mpr ⟨i, List.mem_range.mpr hi, ?_⟩
  rw [List.getD_eq_getElem?_getD, List.getD_eq_getElem?_getD, ha, hb]
  rfl
section
variable {P : Program} {w : World} {K : PySem.W.Frag} {mg : Str → Option Value} {base : Heap}
structure Be (mg : Str → Option Value) : Prop where
  items_ : ∃ t, mg "MOST_ITEMS" = some (.int 200 t)
def spIsCounts : Sp := fun vs H Q _ => ∃ (L : Addr) (ns : List Int), vs = [.ref L] ∧ H L = some (.lst (ns.map V.int)) ∧ 1 ≤ ns.length ∧ ns.length ≤ 200 ∧ ∀ H', Same H H' → Q (.bl true) H'
abbrev s_is_counts : Stmt := topS 16
abbrev N_is_counts : List Str := ["value", "item"]
abbrev P_is_counts : List Str := ["value"]
theorem sc_is_counts : FnScope N_is_counts P_is_counts (defScope s_is_counts) := ⟨rfl, rfl, rfl, by decide +kernel, rfl, by decide +kernel, by decide +kernel⟩
theorem ok_is_counts (D : Df K mg "is_counts" s_is_counts P_is_counts) (B : Bi mg) (UE : Be mg) (c_is_integer : C8.Cal P w K mg base 1 "is_integer" spIsInt []) : C8.Cal P w K mg base 2 "is_counts" spIsCounts [] := by
  refine cal_of D sc_is_counts (fun vs H Q E h => ?_) (fun f cdv A outer s H vs Q E hr h => ?_)
  · obtain ⟨L, ns, rfl, _⟩ := h
    rfl
  · obtain ⟨L, ns, rfl, eL, h1, h2, kk⟩ := h
    obtain ⟨tM, hc_MOST_ITEMS⟩ := UE.items_
    refine ⟨_, (pss_cons (ps_if (PW.pt (pw_or (pt_not (pt_val (pe_callB (call_isiT) (by rfl) B.isinstance_ bt_isinstance (pa_cons (pv 0) (pa_cons (pe_tup (pa_cons (pe_bltn (v := .ty "list") (by rfl) B.list_ bt_list rfl) (pa_cons (pe_bltn (v := .ty "tuple") (by rfl) B.tuple_ bt_tuple rfl) pa_nil))) pa_nil))))) (pw_or1 (pt_not (pt_chain op_le op_le pe_int (pe_callB (call_len_seq) (by rfl) B.len_ bt_len (pa_cons (pv 0) pa_nil)) (pe_glob (v := .int 200) (by rfl) hc_MOST_ITEMS ⟨_, rfl⟩))))))
      (pss_one (ps_ret pe_bl))
      pss_nil)
    (pss_one (ps_ret (pe_callB (cr_all rfl) (by rfl) B.all_ bt_all (pa_cons (pe_lc (own := [("item", 1)]) (g := (gName 1)) (by rfl) sc_is_counts.nd (pi_list (pv 0)) (blkOk_by (own := [("item", 1)]) (N := N_is_counts) (sc := defScope s_is_counts) (by decide +kernel)) (fun _ _ _ _ _ => (pg_name (i := 1) sc_is_counts.nd rfl (Or.inl rfl))) (fun _ _ _ _ _ => pts_nil) (fun _ _ _ _ _ => (C8.pe_c c_is_integer hr (by decide) (by rfl) (pa_cons (pv 1) pa_nil)))) pa_nil))))), ?_⟩
    refine ⟨_, rfl, len10 (by simp), fun tp ntp => ?_⟩
    have s1 := sm_upd (o := .tup [.ty "list", .ty "tuple"]) ntp
    refine ⟨_, tp, _, _, _, true, rfl, upd_same, .cons (.ty "list") (.cons (.ty "tuple") .nil), .base (.lst (s1 _ _ eL)), kit_lt, true, rfl, iteF ?_⟩
    refine ⟨_, rfl, L, _, rfl, .inl (SqL.of (s1 _ _ eL)), _, _, rfl, rfl, _, rfl, iteD (by rw [List.length_map]; omega) ?_⟩
    refine ⟨_, _, rfl, rfl, _, rfl, iteNS (by rw [List.length_map]; omega) ?_⟩
    generalize upd H tp (.tup [.ty "list", .ty "tuple"]) = H1 at s1 ⊢
    refine ⟨_, rfl, L, rfl, ⟨_, SqL.of (s1 _ _ eL)⟩, fun Y nY => ?_⟩
    refine lc_it (walk_list (K := K) (a := L) (xs := ns.map V.int)) (fun i H' => Same H1 H' ∧ H' Y = some (.lst ((List.replicate i true).map V.bl))) ⟨sm_upd nY, upd_same⟩ ?_ ?_ ?_
    · rintro i H' _ ⟨s', _⟩
      exact SqL.of (s' _ _ (s1 _ _ eL))
    · rintro i x H' _ hi ⟨s', eY⟩ ⟨rfl, hx⟩
      obtain ⟨z, _, rfl⟩ := at_map hx
      refine ⟨rfl, _, rfl, z, rfl, _, eY, ?_, ?_, ?_⟩
      · rw [List.length_map, List.length_replicate]
        rw [List.length_map] at hi
        exact small1000 (by omega)
      · intro b o eb
        rw [upd_ne (ne_of_none eb nY)]
        exact s' _ _ eb
      · rw [upd_same, List.replicate_succ', List.map_append]
        rfl
    · rintro H' ⟨s', eY⟩
      refine ⟨Y, _, rfl, SqL.of eY, ?_⟩
      rw [show (List.replicate (ns.map V.int).length true).all id = true from List.all_eq_true.mpr fun b hb => by rw [(List.mem_replicate.mp hb).2]; rfl]
      exact kk _ (s1.trans s')
def spUneven : Sp := fun vs H Q _ => ∃ (L : Addr) (ns : List Int), vs = [.ref L] ∧ H L = some (.lst (ns.map V.int)) ∧ 1 ≤ ns.length ∧ ns.length ≤ 200 ∧ ∀ v H', Same H H' → ((v = .non ∧ Ev ns) ∨ (∃ r, v = .ref r) ∧ ¬ Ev ns) → Q v H'
abbrev s_uneven : Stmt := topS 17
abbrev N_uneven : List Str := ["counts", "i", "w", "gains", "most", "least"]
abbrev P_uneven : List Str := ["counts"]
theorem sc_uneven : FnScope N_uneven P_uneven (defScope s_uneven) := ⟨rfl, rfl, rfl, by decide +kernel, rfl, by decide +kernel, by decide +kernel⟩
theorem ok_uneven (D : Df K mg "uneven" s_uneven P_uneven) (B : Bi mg) (c_is_counts : C8.Cal P w K mg base 2 "is_counts" spIsCounts []) : C8.Cal P w K mg base 3 "uneven" spUneven [] := by
  refine cal_of D sc_uneven (fun vs H Q E h => ?_) (fun f cdv A outer s H vs Q E hr h => ?_)
  · obtain ⟨L, ns, rfl, _⟩ := h
    rfl
  · obtain ⟨L, ns, rfl, eL, h1, h2, kk⟩ := h
    refine ⟨_, (pss_cons (ps_if (pt_not (pt_val (C8.pe_c c_is_counts hr (by decide) (by rfl) (pa_cons (pv 0) pa_nil))))
      (pss_one ps_never)
      pss_nil)
    (pss_cons (ps_for PassesOwn.never rfl (pi_range1 rfl B.range_ (pa_cons (pe_op op_sub (pe_callB (call_len_seq) (by rfl) B.len_ bt_len (pa_cons (pv 0) pa_nil)) pe_int) pa_nil)) (pg_name (i := 1) sc_uneven.nd rfl (Or.inl rfl))
      (pss_one (ps_if (pt_cmpR op_lt (pe_ix (r := rIxL K) ix_list (pv 0) (pe_op op_add (pv 1) pe_int) (fun _ _ => rfl)) (pe_ix (r := rIxL K) ix_list (pv 0) (pv 1) (fun _ _ => rfl)) (nomark _))
      (pss_one (ps_ret (pe_tup (pa_cons pe_str (pa_cons (pv 1) pa_nil)))))
      pss_nil)))
    (pss_cons (ps_for PassesOwn.never rfl (pi_range2 rfl B.range_ (pa_cons pe_int (pa_cons (pe_callB (call_len_seq) (by rfl) B.len_ bt_len (pa_cons (pv 0) pa_nil)) pa_nil))) (pg_name (i := 2) sc_uneven.nd rfl (Or.inr rfl))
      (pss_cons (ps_setLc (i := 3) (own := [("i", 1)]) (g := (gName 1)) (by rfl) sc_uneven.nd rfl rfl (sw_true rfl rfl rfl (by decide +kernel)) (pi_range1 rfl B.range_ (pa_cons (pe_op op_sub (pe_callB (call_len_seq) (by rfl) B.len_ bt_len (pa_cons (pv 0) pa_nil)) (pv 2)) pa_nil)) (blkOk_by (own := [("i", 1)]) (N := N_uneven) (sc := defScope s_uneven) (by decide +kernel)) (fun _ _ _ _ _ => (pg_name (i := 1) sc_uneven.nd rfl (Or.inl rfl))) (fun _ _ _ _ _ => pts_nil) (fun _ _ _ _ _ => (pe_op op_sub (pe_ix (r := rIxL K) ix_list (pv 0) (pe_op op_add (pv 1) (pv 2)) (fun _ _ => rfl)) (pe_ix (r := rIxL K) ix_list (pv 0) (pv 1) (fun _ _ => rfl)))))
    (pss_cons (ps_par (i := 4) (j := 5) rfl sc_uneven.nd rfl rfl (by decide) rfl rfl (pa_cons (pe_callB (cr_max rfl) (by rfl) B.max_ bt_max (pa_cons (pv 3) pa_nil)) (pa_cons (pe_callB (cr_min rfl) (by rfl) B.min_ bt_min (pa_cons (pv 3) pa_nil)) pa_nil)) rfl)
    (pss_one (ps_if (pt_cmpR op_ge (pv 4) (pe_op op_add (pv 5) pe_int) (nomark _))
      (pss_one (ps_ret (pe_tup (pa_cons pe_str (pa_cons (pe_bm PySem.F.plainAttrs_list PySem.F.slot_list_index PySem.F.type_list_index mt_index (pv 3) (pa_cons (pv 4) pa_nil)) (pa_cons (pe_bm PySem.F.plainAttrs_list PySem.F.slot_list_index PySem.F.type_list_index mt_index (pv 3) (pa_cons (pv 5) pa_nil)) (pa_cons (pv 2) pa_nil)))))))
      pss_nil)))))
    (pss_one (ps_ret pe_non))))), ?_⟩
    have lm : (ns.map V.int).length = ns.length := List.length_map ..
    have at_ : ∀ {k : Nat} {x : Int}, ns[k]? = some x → (ns.map V.int)[k]? = some (.int x) := fun {k x} e => by
      rw [List.getElem?_map, e]
      rfl
    refine ⟨_, rfl, L, ns, rfl, eL, h1, h2, fun H1 s1 => ⟨true, rfl, iteF ?_⟩⟩
    have eL := s1 _ _ eL
    refine ⟨_, rfl, L, _, rfl, .inl (SqL.of eL), _, _, rfl, rfl, ?_⟩
    refine ⟨_, rfl, by omega, by omega, ?_⟩
    rw [lm]
    refine for_range (lo := 0) (n := ((ns.length : Int) - 1).toNat) (fun i σ H' => ∃ (y1 : Option V), σ = [some (.ref L), y1, none, none, none, none] ∧ H' = H1 ∧ ∀ (k : Nat) (x y : Int), k < i → ns[k]? = some x → ns[k + 1]? = some y → x ≤ y) ⟨_, rfl, rfl, fun k _ _ z => by omega⟩ ?_ ?_
    · rintro i σ H' hi ⟨y1, rfl, rfl, hm⟩
      have h0 : ns[i]? = some ns[i] := List.getElem?_eq_getElem (by omega)
      have h3 : ns[i + 1]? = some ns[i + 1] := List.getElem?_eq_getElem (by omega)
      refine ⟨_, rfl, _, rfl, _, _, rfl, rfl, L, _, _, .int ns[i + 1], rfl, rfl, SqL.of eL, ?_, ?_⟩
      · rw [Int.zero_add, show ((i : Int) + 1) = ((i + 1 : Nat) : Int) by omega]
        exact atI_nat (at_ h3)
      refine ⟨_, rfl, _, rfl, L, _, _, .int ns[i], rfl, rfl, SqL.of eL, ?_, ?_⟩
      · rw [Int.zero_add]
        exact atI_nat (at_ h0)
      refine ⟨_, _, rfl, rfl, _, rfl, ite2 (fun c => ?_) (fun c => ?_)⟩
      · have c : ns[i + 1] < ns[i] := of_decide_eq_true c
        refine ⟨_, rfl, len10 (by simp), fun r nr => ?_⟩
        refine kk _ _ (s1.trans (sm_upd nr)) (.inr ⟨⟨r, rfl⟩, fun h => ?_⟩)
        have := h.1 i _ _ h0 h3
        omega
      · have c : ¬ ns[i + 1] < ns[i] := fun z => c (decide_eq_true z)
        refine ⟨_, rfl, rfl, fun k x y hk hx hy => ?_⟩
        rcases Nat.lt_or_ge k i with lt | ge
        · exact hm k x y lt hx hy
        · have : k = i := by omega
          subst this
          rw [h0] at hx
          rw [h3] at hy
          cases hx
          cases hy
          omega
    · rintro σ H1 ⟨y1, rfl, rfl, hm⟩
      have hm : ∀ (k : Nat) (x y : Int), ns[k]? = some x → ns[k + 1]? = some y → x ≤ y := fun k x y hx hy => hm k x y (by have := (List.getElem?_eq_some_iff.mp hy).1; omega) hx hy
      refine ⟨_, rfl, L, _, rfl, .inl (SqL.of eL), ?_⟩
      rw [lm]
      refine ⟨_, _, rfl, ⟨by decide, by decide, by omega, by omega⟩, ?_⟩
      refine for_range (lo := 1) (n := ((ns.length : Int) - 1).toNat) (fun i σ H' => ∃ (y1 y2 y3 y4 y5 : Option V), σ = [some (.ref L), y1, y2, y3, y4, y5] ∧ Same H1 H' ∧ ∀ (w i' j : Nat) (a b c d : Int), 1 ≤ w → w < 1 + i → ns[i']? = some a → ns[i' + w]? = some b → ns[j]? = some c → ns[j + w]? = some d → (b - a) - (d - c) ≤ 1) ⟨_, _, _, _, _, rfl, Same.refl _, fun w _ _ _ _ _ _ z1 z2 => by omega⟩ ?_ ?_
      · rintro i σ H2 hi ⟨y1, y2, y3, y4, y5, rfl, s2, hw⟩
        have eL2 := s2 _ _ eL
        obtain ⟨g, hg⟩ : ∃ g : Nat, ns.length = i + 1 + g := ⟨ns.length - (i + 1), by omega⟩
        have hg1 : 1 ≤ g := by omega
        refine ⟨_, rfl, L, _, rfl, .inl (SqL.of eL2), _, rfl, _, _, rfl, rfl, ?_⟩
        rw [lm]
        refine ⟨_, rfl, by omega, by omega, fun G nG => ?_⟩
        have eg : ((ns.length : Int) - (1 + (i : Int))).toNat = g := by omega
        refine lc_range (lo := 0) (n := ((ns.length : Int) - (1 + (i : Int))).toNat) (fun j H' => Same H2 H' ∧ H' G = some (.lst ((gns ns (i + 1) j).map V.int))) ⟨sm_upd nG, upd_same⟩ ?_ ?_
        · rintro j H3 hj ⟨s3, eG⟩
          rw [eg] at hj
          have ha : ns[j]? = some ns[j] := List.getElem?_eq_getElem (by omega)
          have hb : ns[j + (i + 1)]? = some ns[j + (i + 1)] := List.getElem?_eq_getElem (by omega)
          refine ⟨rfl, _, rfl, _, rfl, _, rfl, _, _, rfl, rfl, L, _, _, .int ns[j + (i + 1)], rfl, rfl, SqL.of (s3 _ _ eL2), ?_, ?_⟩
          · rw [Int.zero_add, show ((j : Int) + (1 + (i : Int))) = ((j + (i + 1) : Nat) : Int) by omega]
            exact atI_nat (at_ hb)
          refine ⟨_, rfl, _, rfl, L, _, _, .int ns[j], rfl, rfl, SqL.of (s3 _ _ eL2), ?_, ?_⟩
          · rw [Int.zero_add]
            exact atI_nat (at_ ha)
          refine ⟨_, _, rfl, rfl, _, eG, ?_, ?_, ?_⟩
          · rw [List.length_map]
            unfold gns
            rw [List.length_map, List.length_range]
            exact small1000 (by omega)
          · intro b o eb
            rw [upd_ne (ne_of_none eb nG)]
            exact s3 _ _ eb
          · rw [upd_same]
            unfold gns
            rw [List.range_succ, List.map_append, List.map_append]
            simp only [List.map_cons, List.map_nil]
            rw [List.getD_eq_getElem?_getD, List.getD_eq_getElem?_getD, ha, hb]
            rfl
        rintro H3 ⟨s3, eG⟩
        rw [eg] at eG
        have gl : (gns ns (i + 1) g).length = g := by
          unfold gns
          rw [List.length_map, List.length_range]
        refine ⟨_, rfl, G, _, rfl, SqL.of eG, by omega, fun mx hx lx => ?_⟩
        refine ⟨_, rfl, G, _, rfl, SqL.of eG, by omega, fun mn hn ln => ?_⟩
        refine ⟨_, _, rfl, _, rfl, _, rfl, _, _, rfl, rfl, _, _, rfl, rfl, _, rfl, ite2 (fun c => ?_) (fun c => ?_)⟩
        · have c : mx ≥ mn + 2 := of_decide_eq_true c
          obtain ⟨j1, g1, f1⟩ := first_at hx
          obtain ⟨j2, g2, f2⟩ := first_at hn
          have fl := flat_is (gns ns (i + 1) g)
          have fnd : ∀ {x : Int} {j : Nat}, (gns ns (i + 1) g)[j]? = some x → (∀ m : Nat, m < j → (gns ns (i + 1) g)[m]? ≠ some x) → ∀ m (z' : V), m < j → ((gns ns (i + 1) g).map V.int)[m]? = some z' → eqV z' (.int x) = false := fun {x j} hj hf m z' hm hz => by
            rw [List.getElem?_map] at hz
            cases e : (gns ns (i + 1) g)[m]? with
            | none =>
              rw [e] at hz
              cases hz
            | some y =>
              rw [e] at hz
              cases hz
              have : y ≠ x := fun q => hf m hm (by rw [e, q])
              show (y == x) = false
              exact beq_eq_false_iff_ne.mpr this
          have mp : ∀ {x : Int} {j : Nat}, (gns ns (i + 1) g)[j]? = some x → ((gns ns (i + 1) g).map V.int)[j]? = some (.int x) := fun {x j} e => by
            rw [List.getElem?_map, e]
            rfl
          have nev : ¬ Ev ns := fun h => by
            obtain ⟨k1, hk1, e1⟩ := List.mem_map.mp hx
            obtain ⟨k2, hk2, e2⟩ := List.mem_map.mp hn
            have hk1 := List.mem_range.mp hk1
            have hk2 := List.mem_range.mp hk2
            have q1 : ns[k1]? = some ns[k1] := List.getElem?_eq_getElem (by omega)
            have q2 : ns[k1 + (i + 1)]? = some ns[k1 + (i + 1)] := List.getElem?_eq_getElem (by omega)
            have q3 : ns[k2]? = some ns[k2] := List.getElem?_eq_getElem (by omega)
            have q4 : ns[k2 + (i + 1)]? = some ns[k2 + (i + 1)] := List.getElem?_eq_getElem (by omega)
            rw [List.getD_eq_getElem?_getD, List.getD_eq_getElem?_getD, q1, q2] at e1
            rw [List.getD_eq_getElem?_getD, List.getD_eq_getElem?_getD, q3, q4] at e2
            have := h.2 (i + 1) k1 k2 _ _ _ _ q1 q2 q3 q4
            have e1 : ns[k1 + (i + 1)] - ns[k1] = mx := e1
            have e2 : ns[k2 + (i + 1)] - ns[k2] = mn := e2
            omega
          refine ⟨_, rfl, .inl ⟨rfl, _, SqL.of eG⟩, _, rfl, G, _, _, j1, .int mx, rfl, rfl, SqL.of eG, rfl, fl, mp g1, beq_self_eq_true mx, fnd g1 f1, ?_⟩
          refine ⟨_, rfl, .inl ⟨rfl, _, SqL.of eG⟩, _, rfl, G, _, _, j2, .int mn, rfl, rfl, SqL.of eG, rfl, fl, mp g2, beq_self_eq_true mn, fnd g2 f2, ?_⟩
          refine ⟨_, rfl, len10 (by simp), fun r nr => ?_⟩
          exact kk _ _ (((s1.trans s2).trans s3).trans (sm_upd nr)) (.inr ⟨⟨r, rfl⟩, nev⟩)
        · have c : ¬ mx ≥ mn + 2 := fun z => c (decide_eq_true z)
          refine ⟨_, _, _, _, _, rfl, s2.trans s3, fun w i' j a b c' d w1 w2 ha hb hc hd => ?_⟩
          rcases Nat.lt_or_ge w (1 + i) with lt | ge
          · exact hw w i' j a b c' d w1 lt ha hb hc hd
          · have : w = i + 1 := by omega
            subst this
            have l1 := (List.getElem?_eq_some_iff.mp hb).1
            have l2 := (List.getElem?_eq_some_iff.mp hd).1
            have := lx _ (gns_at (n := g) (by omega) ha hb)
            have := ln _ (gns_at (n := g) (by omega) hc hd)
            omega
      · rintro σ H2 ⟨y1, y2, y3, y4, y5, rfl, s2, hw⟩
        refine kk _ _ (s1.trans s2) (.inl ⟨rfl, hm, fun w i j a b c d ha hb hc hd => ?_⟩)
        rcases Nat.eq_zero_or_pos w with z | z
        · subst z
          have hb : ns[i]? = some b := hb
          have hd : ns[j]? = some d := hd
          rw [ha] at hb
          rw [hc] at hd
          cases hb
          cases hd
          omega
        · exact hw w i j a b c d z (by have := (List.getElem?_eq_some_iff.mp hb).1; omega) ha hb hc hd
end
end Lf
namespace Lf
open PySem PySem.Spec PyProof.Rows L2
theorem at_in {xs : List V} {d : Int} (h0 : 0 ≤ d) (h1 : d < (xs.length : Int)) : ∃ x, atI xs d = some x ∧ x ∈ xs := by
  obtain ⟨j, rfl⟩ := Int.eq_ofNat_of_zero_le h0
  have hj : j < xs.length := by omega
  exact ⟨_, atI_nat (List.getElem?_eq_getElem hj), List.getElem_mem hj⟩
theorem at_ints {ns : List Int} {d : Int} (h0 : 0 ≤ d) (h1 : d < (ns.length : Int)) : ∃ x, atI (ns.map V.int) d = some (.int x) ∧ x ∈ ns ∧ ns[d.toNat]? = some x := by
  obtain ⟨j, rfl⟩ := Int.eq_ofNat_of_zero_le h0
  have hj : j < ns.length := by omega
  have e : ns[j]? = some ns[j] := List.getElem?_eq_getElem hj
  exact ⟨ns[j], atI_nat (by rw [List.getElem?_map, e]; rfl), List.getElem_mem hj, e⟩
theorem ixN_in {n : Nat} {d : Int} (h0 : 0 ≤ d) (h1 : d < (n : Int)) : ixN n d = some d.toNat := by
  unfold ixN
  rw [if_pos h0, if_pos h1]
/-- a list of ints, within k bits -/
structure Row (H : Hp) (R : Addr) (k : Nat) (ns : List Int) : Prop where
  e : H R = some (.lst (ns.map V.int))
  b : ∀ z ∈ ns, Bd k z
theorem Row.fr {H H' : Hp} {R : Addr} {k : Nat} {ns : List Int} (h : Row H R k ns) (f : Fr H H') : Row H' R k ns := ⟨f.l _ _ h.e, h.b⟩
theorem Row.mono {H : Hp} {R : Addr} {k j : Nat} {ns : List Int} (h : Row H R k ns) (l : k ≤ j) : Row H R j ns := ⟨h.e, fun z hz => (h.b z hz).mono l⟩
theorem bd_count {k : Nat} {p q c t : Int} (k0 : 0 < k) (R : RuleB k p q c) (bt : Bd k t) : Bd (2 * k + 1) ((p * t + c) / q) :=
  Bd.ediv (Bd.add ((Bd.mul R.bp bt).mono (by omega : k + k ≤ 2 * k)) (R.bc.mono (by omega))) (by have := R.q1; omega)
theorem set_ints (ns : List Int) (j : Nat) (x : Int) : (ns.map V.int).set j (.int x) = (ns.set j x).map V.int := by
  rw [List.map_set]
section
variable {P : Program} {w : World} {K : PySem.W.Frag} {mg : Str → Option Value} {base : Heap}
def spCR : Sp := fun vs H Q _ => ∃ (t n : Int), vs = [.int t, .int n] ∧ ∀ L r1 r2 H', Same H H' → H' L = some (.lst [.ref r1, .ref r2]) → H' r1 = some (rcO ⟨true, t, n⟩) → H' r2 = some (rcO ⟨false, t, n⟩) → Q (.ref L) H'
abbrev s_count_records : Stmt := topS 23
abbrev N_count_records : List Str := ["time", "count"]
abbrev P_count_records : List Str := ["time", "count"]
theorem sc_count_records : FnScope N_count_records P_count_records (defScope s_count_records) := ⟨rfl, rfl, rfl, by decide +kernel, rfl, by decide +kernel, by decide +kernel⟩
theorem ok_count_records (D : Df K mg "count_records" s_count_records P_count_records) (c_check_integer : C8.Cal P w K mg base 2 "check_integer" spCheckInt []) : C8.Cal P w K mg base 3 "count_records" spCR [] := by
  refine cal_of D sc_count_records (fun vs H Q E h => ?_) (fun f cdv A outer s H vs Q E hr h => ?_)
  · obtain ⟨t, n, rfl, _⟩ := h
    rfl
  · obtain ⟨t, n, rfl, kk⟩ := h
    refine ⟨_, (pss_cons (ps_expr (C8.pe_c c_check_integer hr (by decide) (by rfl) (pa_cons (pv 0) pa_nil)))
    (pss_cons (ps_expr (C8.pe_c c_check_integer hr (by decide) (by rfl) (pa_cons (pv 1) pa_nil)))
    (pss_one (ps_ret (pe_lst (pa_cons (pe_tup (pa_cons pe_str (pa_cons (pv 0) (pa_cons (pv 1) pa_nil)))) (pa_cons (pe_tup (pa_cons pe_str (pa_cons (pv 0) (pa_cons (pv 1) pa_nil)))) pa_nil))))))), ?_⟩
    refine ⟨_, rfl, t, rfl, ?_⟩
    refine ⟨_, rfl, n, rfl, ?_⟩
    refine ⟨_, rfl, _, rfl, len10 (by simp), fun r1 n1 => ?_⟩
    have z1 := sm_upd (o := .tup [.str "at least", .int t, .int n]) n1
    refine ⟨_, rfl, _, rfl, len10 (by simp), fun r2 n2 => ?_⟩
    have z2 := sm_upd (o := .tup [.str "at most", .int t, .int n]) n2
    refine ⟨len10 (by simp), fun L nL => ?_⟩
    have z3 := sm_upd (o := .lst [.ref r1, .ref r2]) nL
    exact kk L r1 r2 _ ((z1.trans z2).trans z3) upd_same (z3 _ _ (z2 _ _ upd_same)) (z3 _ _ upd_same)
def spPat22 : Sp := fun vs H Q _ => ∃ (r : Addr) (p q c wd t : Int) (b : Nat), vs = [.ref r, .int wd, .int t] ∧ H r = some (tup3 p q c) ∧ RuleB b p q c ∧ 0 ≤ wd ∧ wd ≤ 500 ∧ Bd b t ∧ 20 ≤ b ∧ b ≤ 1000 ∧
  ∀ L H' ns, H L = none → Same H H' → Row H' L (2 * b + 6) ns → ns.length = wd.toNat → Q (.ref L) H'
abbrev s_l_pattern : Stmt := topS 43
abbrev N_l_pattern : List Str := ["_law_rule_here", "_law_width", "_law_start", "_law_k"]
abbrev P_l_pattern : List Str := ["_law_rule_here", "_law_width", "_law_start"]
theorem sc_l_pattern : FnScope N_l_pattern P_l_pattern (defScope s_l_pattern) := ⟨rfl, rfl, rfl, by decide +kernel, rfl, by decide +kernel, by decide +kernel⟩
theorem ok_l_pattern (D : Df K mg "_law_pattern" s_l_pattern P_l_pattern) (B : Bi mg) (c_l_tally : C8.Cal P w K mg base 1 "_law_tally" spTally []) : C8.Cal P w K mg base 2 "_law_pattern" spPat22 [] := by
  refine cal_of D sc_l_pattern (fun vs H Q E h => ?_) (fun f cdv A outer s H vs Q E hr h => ?_)
  · obtain ⟨r, p, q, c, wd, t, b, rfl, _⟩ := h
    rfl
  · obtain ⟨r, p, q, c, wd, t, b, rfl, er, R, h0, h5, bt, b2, b1, kk⟩ := h
    refine ⟨_, (pss_one (ps_ret (pe_lc (own := [("_law_k", 3)]) (g := (gName 3)) (by rfl) sc_l_pattern.nd (pi_range1 rfl B.range_ (pa_cons (pv 1) pa_nil)) (blkOk_by (own := [("_law_k", 3)]) (N := N_l_pattern) (sc := defScope s_l_pattern) (by decide +kernel)) (fun _ _ _ _ _ => (pg_name (i := 3) sc_l_pattern.nd rfl (Or.inl rfl))) (fun _ _ _ _ _ => pts_nil) (fun _ _ _ _ _ => (pe_op op_sub (C8.pe_c c_l_tally hr (by decide) (by rfl) (pa_cons (pv 0) (pa_cons (pe_op op_add (pe_op op_add (pv 2) (pv 3)) pe_int) pa_nil))) (C8.pe_c c_l_tally hr (by decide) (by rfl) (pa_cons (pv 0) (pa_cons (pe_op op_add (pv 2) (pv 3)) pa_nil)))))))), ?_⟩
    refine ⟨_, rfl, _, rfl, by omega, by omega, fun L nL => ?_⟩
    refine lc_range (lo := 0) (n := wd.toNat) (fun j H' => Same H H' ∧ ∃ ns, Row H' L (2 * b + 6) ns ∧ ns.length = j) ⟨sm_upd nL, [], ⟨upd_same, fun _ z => (nomatch z)⟩, rfl⟩ ?_ ?_
    · rintro j H' hj ⟨s1, ns, eL, ln⟩
      have er' := s1 _ _ er
      have bj : Bd (b + 1) (t + (0 + (j : Int))) := Bd.add bt (Bd.small 20 (by omega) b2)
      have bj2 : Bd (b + 2) (t + (0 + (j : Int)) + 1) := Bd.add bj (Bd.small 1 (by decide) (by omega))
      refine ⟨rfl, _, rfl, _, rfl, _, rfl, _, _, rfl, rfl, _, _, rfl, rfl, r, p, q, c, _, b + 2, rfl, er', R.mono (by omega), bj2, by omega, by omega, ?_⟩
      refine ⟨_, rfl, _, rfl, _, rfl, _, _, rfl, rfl, r, p, q, c, _, b + 1, rfl, er', R.mono (by omega), bj, by omega, by omega, ?_⟩
      refine ⟨_, _, rfl, rfl, _, eL.e, ?_, ?_, ns ++ [(p * (t + (0 + (j : Int)) + 1) + c) / q - (p * (t + (0 + (j : Int))) + c) / q], ⟨?_, fun z hz => ?_⟩, ?_⟩
      · rw [List.length_map, ln]
        exact small1000 (by omega)
      · intro b' o eb
        rw [upd_ne (ne_of_none eb nL)]
        exact s1 _ _ eb
      · rw [upd_same, List.map_append]
        rfl
      · rcases List.mem_append.mp hz with g | g
        · exact eL.b z g
        · rw [List.mem_singleton.mp g]
          exact (Bd.sub (bd_count (by omega) (R.mono (by omega)) bj2) ((bd_count (by omega) (R.mono (by omega)) bj).mono (by omega))).mono (by omega)
      · rw [List.length_append, ln]
        rfl
    · rintro H' ⟨s1, ns, eL, ln⟩
      exact kk L H' ns nL s1 eL ln
def spLongRow : Sp := fun vs H Q _ => ∃ (a : PA) (n : Nat), vs = [.ref a, .int 90] ∧ Pen H a n ∧ n < 2 ^ 36 ∧ ∀ R H' ns, Row H' R 400 ns → 1 ≤ ns.length → ns.length ≤ 90 → Pen H' a (n + 200) → Fr H H' → Q (.ref R) H'
abbrev s_l_long_row : Stmt := topS 45
abbrev N_l_long_row : List Str := ["_law_pen_here", "_law_size", "_law_rule_here", "_law_many", "_law_steps", "_law_at", "_law_to", "_law_kept", "_law_row_here", "_law_step"]
abbrev P_l_long_row : List Str := ["_law_pen_here", "_law_size"]
theorem sc_l_long_row : FnScope N_l_long_row P_l_long_row (defScope s_l_long_row) := ⟨rfl, rfl, rfl, by decide +kernel, rfl, by decide +kernel, by decide +kernel⟩
theorem ok_l_long_row (D : Df K mg "_law_long_row" s_l_long_row P_l_long_row) (B : Bi mg) (c_l_draw : C8.Cal P w K mg base 1 "_law_draw" spDraw []) (c_l_pick : C8.Cal P w K mg base 2 "_law_pick" spPick []) (c_l_signed : C8.Cal P w K mg base 3 "_law_signed" spSigned []) (c_l_rule : C8.Cal P w K mg base 3 "_law_rule" spRule []) (c_l_far_rule : C8.Cal P w K mg base 4 "_law_far_rule" spFar []) (c_l_pattern : C8.Cal P w K mg base 2 "_law_pattern" spPat22 []) : C8.Cal P w K mg base 5 "_law_long_row" spLongRow [] := by
  refine cal_of D sc_l_long_row (fun vs H Q E h => ?_) (fun f cdv A outer s H vs Q E hr h => ?_)
  · obtain ⟨a, n, rfl, _⟩ := h
    rfl
  · obtain ⟨a, n, rfl, hP, hn, kk⟩ := h
    refine ⟨_, (pss_cons (ps_par (i := 2) (j := 3) rfl sc_l_long_row.nd rfl rfl (by decide) rfl rfl (pa_cons (C8.pe_c c_l_pick hr (by decide) (by rfl) (pa_cons (pv 0) (pa_cons (pe_lst (pa_cons (C8.pe_c c_l_rule hr (by decide) (by rfl) (pa_cons (pv 0) (pa_cons pe_int pa_nil))) (pa_cons (C8.pe_c c_l_far_rule hr (by decide) (by rfl) (pa_cons (pv 0) (pa_cons pe_int pa_nil))) pa_nil))) pa_nil))) (pa_cons (pe_op op_add pe_int (C8.pe_c c_l_draw hr (by decide) (by rfl) (pa_cons (pv 0) (pa_cons (pe_op op_sub (pv 1) pe_int) pa_nil)))) pa_nil)) rfl)
    (pss_cons (ps_par (i := 4) (j := 5) rfl sc_l_long_row.nd rfl rfl (by decide) rfl rfl (pa_cons (C8.pe_c c_l_pattern hr (by decide) (by rfl) (pa_cons (pv 2) (pa_cons (pv 3) (pa_cons (C8.pe_c c_l_signed hr (by decide) (by rfl) (pa_cons (pv 0) (pa_cons pe_int pa_nil))) pa_nil)))) (pa_cons (C8.pe_c c_l_draw hr (by decide) (by rfl) (pa_cons (pv 0) (pa_cons (pv 3) pa_nil))) pa_nil)) rfl)
    (pss_cons (ps_set (i := 6) sc_l_long_row.nd rfl (Or.inl rfl) (C8.pe_c c_l_pick hr (by decide) (by rfl) (pa_cons (pv 0) (pa_cons (pe_lst (pa_cons (pv 5) (pa_cons (pe_op op_mod (pe_op op_add (pv 5) pe_int) (pv 3)) (pa_cons (pe_op op_mod (pe_op op_add (pe_op op_add (pv 5) pe_int) (C8.pe_c c_l_draw hr (by decide) (by rfl) (pa_cons (pv 0) (pa_cons pe_int pa_nil)))) (pv 3)) (pa_cons (C8.pe_c c_l_draw hr (by decide) (by rfl) (pa_cons (pv 0) (pa_cons (pv 3) pa_nil))) pa_nil))))) pa_nil))))
    (pss_cons (ps_set (i := 7) sc_l_long_row.nd rfl (Or.inl rfl) (pe_ix (r := rIxL K) ix_list (pv 4) (pv 5) (fun _ _ => rfl)))
    (pss_cons (ps_asg (pe_ix (r := rIxL K) ix_list (pv 4) (pv 6) (fun _ _ => rfl)) (pg_sub (pv 4) (pv 5) set_list))
    (pss_cons (ps_asg (pv 7) (pg_sub (pv 4) (pv 6) set_list))
    (pss_cons (ps_set (i := 8) sc_l_long_row.nd rfl (Or.inl rfl) (pe_lst (pa_cons (C8.pe_c c_l_signed hr (by decide) (by rfl) (pa_cons (pv 0) (pa_cons pe_int pa_nil))) pa_nil)))
    (pss_cons (ps_for PassesOwn.never rfl (pi_list (pv 4)) (pg_name (i := 9) sc_l_long_row.nd rfl (Or.inl rfl))
      (pss_one (ps_expr (pe_bm PySem.F.plainAttrs_list PySem.F.slot_list_append PySem.F.type_list_append mt_append (pv 8) (pa_cons (pe_op op_add (pe_ix (r := rIxL K) ix_list (pv 8) (pe_un un_neg pe_int) (fun _ _ => rfl)) (pv 9)) pa_nil)))))
    (pss_one (ps_ret (pv 8))))))))))), ?_⟩
    refine ⟨_, rfl, _, rfl, a, n, 60, rfl, hP, by omega, by decide, by decide, fun r1 p1 q1 c1 H1 R1 _ _ e1 hP1 f1 => ?_⟩
    refine ⟨_, rfl, a, _, 12, rfl, hP1, by omega, by decide, by decide, fun r2 p2 q2 c2 H2 R2 e2 hP2 f2 => ?_⟩
    refine ⟨len10 (by simp), fun O nO => ?_⟩
    have zO := sm_upd (o := .lst [.ref r1, .ref r2]) nO
    refine ⟨a, O, _, _, rfl, hP2.same zO, by omega, upd_same, by simp, by simp, fun x H3 hx hP3 f3 => ?_⟩
    obtain ⟨r, p, q, c, rfl, er, R⟩ : ∃ r p q c, x = .ref r ∧ H3 r = some (tup3 p q c) ∧ RuleB 101 p q c := by
      simp only [List.mem_cons, List.not_mem_nil, or_false] at hx
      rcases hx with rfl | rfl
      · exact ⟨r1, p1, q1, c1, rfl, f3.t _ _ (zO _ _ (f2.t _ _ e1)), R1.mono (by decide)⟩
      · exact ⟨r2, p2, q2, c2, rfl, f3.t _ _ (zO _ _ e2), R2.mono (by decide)⟩
    have f03 := f1.trans (f2.trans ((Fr.same zO).trans f3))
    have hP3 : Pen H3 a (n + 60) := hP3.mono (by
      show n + 8 + (9 + 4 * ((12 : Int) / 6).toNat) + 1 ≤ n + 60
      rw [show ((12 : Int) / 6).toNat = 2 by decide]
      omega)
    refine ⟨_, rfl, _, rfl, _, _, rfl, rfl, a, _, _, rfl, hP3, by omega, by omega, Bd.small 20 (by decide) (by decide), fun d4 H4 d40 d41 hP4 f4 => ?_⟩
    refine ⟨_, _, rfl, rfl, _, _, rfl, ?_⟩
    have d41 : d4 < 71 := by omega
    obtain ⟨m, hm⟩ : ∃ m : Int, 19 + d4 = m := ⟨_, rfl⟩
    dsimp only
    rw [hm]
    have m0 : 19 ≤ m := by omega
    have m1 : m ≤ 89 := by omega
    clear hm d40 d41 hP1 hP2 f1 f2 zO nO hx e1 e2
    refine ⟨_, rfl, _, rfl, _, rfl, a, _, 30, rfl, hP4, by omega, by decide, by decide, fun t H5 bt hP5 f5 => ?_⟩
    have f35 := f4.trans f5
    refine ⟨r, p, q, c, m, t, 101, rfl, f35.t _ _ er, R, by omega, by omega, bt.mono (by decide), by decide, by decide, fun S H6 ns nS s6 rw6 ln => ?_⟩
    refine ⟨_, rfl, _, rfl, a, _, _, rfl, hP5.same s6, by omega, by omega, Bd.small 20 (by omega) (by decide), fun at_ H7 at0 at1 hP7 f7 => ?_⟩
    refine ⟨_, _, rfl, ?_⟩
    have f05 := f03.trans f35
    have f57 := (Fr.same s6).trans f7
    have rw7 := rw6.fr f7
    have hP7 : Pen H7 a (n + 80) := hP7.mono (by
      show n + 60 + 1 + 5 + ((30 : Int) / 6).toNat + 1 ≤ n + 80
      rw [show ((30 : Int) / 6).toNat = 5 by decide]
      omega)
    have nl : (ns.length : Int) = m := by omega
    clear s6 rw6 f7 f35 f4 f5 hP4 hP3 f03 f3
    refine ⟨_, rfl, _, rfl, _, rfl, _, _, rfl, rfl, _, rfl, _, _, rfl, rfl, by omega, ?_⟩
    refine ⟨_, rfl, _, _, rfl, rfl, _, rfl, a, _, _, rfl, hP7, by omega, by decide, Bd.small 20 (by decide) (by decide), fun d8 H8 d80 d81 hP8 f8 => ?_⟩
    refine ⟨_, _, rfl, rfl, _, rfl, _, _, rfl, rfl, by omega, ?_⟩
    refine ⟨_, rfl, _, rfl, a, _, _, rfl, hP8, by omega, by omega, Bd.small 20 (by omega) (by decide), fun d9 H9 d90 d91 hP9 f9 => ?_⟩
    refine ⟨len10 (by simp), fun O nO => ?_⟩
    have zO := sm_upd (o := .lst [.int at_, .int ((at_ + 1) % m), .int ((at_ + 1 + d8) % m), .int d9]) nO
    refine ⟨a, O, _, _, rfl, hP9.same zO, by omega, upd_same, by simp, by simp, fun x H10 hx hP10 f10 => ?_⟩
    obtain ⟨to, rfl, to0, to1⟩ : ∃ to : Int, x = .int to ∧ 0 ≤ to ∧ to < m := by
      simp only [List.mem_cons, List.not_mem_nil, or_false] at hx
      rcases hx with rfl | rfl | rfl | rfl
      · exact ⟨_, rfl, at0, at1⟩
      · exact ⟨_, rfl, Int.emod_nonneg _ (by omega), Int.emod_lt_of_pos _ (by omega)⟩
      · exact ⟨_, rfl, Int.emod_nonneg _ (by omega), Int.emod_lt_of_pos _ (by omega)⟩
      · exact ⟨_, rfl, d90, d91⟩
    have f710 := f8.trans (f9.trans ((Fr.same zO).trans f10))
    have rw10 := rw7.fr f710
    have f510 := f57.trans f710
    have hP10 : Pen H10 a (n + 90) := hP10.mono (by omega)
    clear hx zO nO f8 f9 f10 hP8 hP9 hP7 f57 f710 rw7
    obtain ⟨x1, hx1, mx1, _⟩ := at_ints (ns := ns) at0 (by omega)
    obtain ⟨x2, hx2, mx2, _⟩ := at_ints (ns := ns) to0 (by omega)
    refine ⟨_, rfl, _, rfl, S, _, _, _, rfl, rfl, SqL.of rw10.e, hx1, ?_⟩
    refine ⟨_, rfl, _, rfl, S, _, _, _, rfl, rfl, SqL.of rw10.e, hx2, ?_⟩
    refine ⟨_, rfl, _, rfl, S, _, _, _, rfl, rfl, rw10.e, ixN_in at0 (by rw [List.length_map]; omega), ?_⟩
    rw [set_ints]
    have rwa : Row (upd H10 S (.lst ((ns.set at_.toNat x2).map V.int))) S 208 (ns.set at_.toNat x2) := ⟨upd_same, fun z hz => by
      rcases List.mem_or_eq_of_mem_set hz with g | g
      · exact rw10.b z g
      · rw [g]
        exact rw10.b _ mx2⟩
    have fa := f510.over nS (o := .lst ((ns.set at_.toNat x2).map V.int))
    have hPa : Pen (upd H10 S (.lst ((ns.set at_.toNat x2).map V.int))) a (n + 90) := hP5.over nS hP10
    generalize upd H10 S (.lst ((ns.set at_.toNat x2).map V.int)) = Ha at rwa fa hPa ⊢
    refine ⟨_, rfl, _, rfl, _, rfl, S, _, _, _, rfl, rfl, rwa.e, ixN_in to0 (by rw [List.length_map, List.length_set]; omega), ?_⟩
    rw [set_ints]
    have rwb : Row (upd Ha S (.lst (((ns.set at_.toNat x2).set to.toNat x1).map V.int))) S 208 ((ns.set at_.toNat x2).set to.toNat x1) := ⟨upd_same, fun z hz => by
      rcases List.mem_or_eq_of_mem_set hz with g | g
      · exact rwa.b z g
      · rw [g]
        exact rw10.b _ mx1⟩
    have fb := fa.over nS (o := .lst (((ns.set at_.toNat x2).set to.toNat x1).map V.int))
    have hPb : Pen (upd Ha S (.lst (((ns.set at_.toNat x2).set to.toNat x1).map V.int))) a (n + 90) := hP5.over nS hPa
    generalize upd Ha S (.lst (((ns.set at_.toNat x2).set to.toNat x1).map V.int)) = Hb at rwb fb hPb ⊢
    have lnb : ((ns.set at_.toNat x2).set to.toNat x1).length = ns.length := by rw [List.length_set, List.length_set]
    generalize (ns.set at_.toNat x2).set to.toNat x1 = ms at rwb lnb ⊢
    refine ⟨_, rfl, a, _, 30, rfl, hPb, by omega, by decide, by decide, fun g H11 bg hP11 f11 => ?_⟩
    have bg : Bd 100 g := bg
    have hP11 : Pen H11 a (n + 150) := hP11.mono (by
      show n + 90 + 5 + ((30 : Int) / 6).toNat ≤ n + 150
      rw [show ((30 : Int) / 6).toNat = 5 by decide]
      omega)
    refine ⟨len10 (by simp), fun Rr nR => ?_⟩
    have rwc := rwb.fr f11
    have f011 := f05.trans (fb.trans f11)
    refine ⟨_, rfl, S, rfl, ⟨_, SqL.of ((Fr.new nR).l _ _ rwc.e)⟩, ?_⟩
    refine for_list (K := K) (a := S) (xs := ms.map V.int) (fun i σ H' => ∃ (rs : List Int) (z : Int) (y : Option V), σ = [some (.ref a), some (.int 90), some (.ref r), some (.int m), some (.ref S), some (.int at_), some (.int to), some (.int x1), some (.ref Rr), y] ∧ Row H' Rr (210 + i) (rs ++ [z]) ∧ rs.length = i ∧ Fr H11 H' ∧ Pen H' a (n + 150)) ?_ ?_ ?_ ?_
    · refine ⟨[], g, _, rfl, ⟨upd_same, fun z hz => ?_⟩, rfl, Fr.new nR, hP11.new nR⟩
      rw [List.mem_singleton.mp hz]
      exact bg.mono (by omega)
    · rintro i σ H' _ ⟨_, _, _, _, _, _, f', _⟩
      exact SqL.of (f'.l _ _ rwc.e)
    · rintro i v σ H' hv ⟨rs, z, y, rfl, rw', lr, f', hP'⟩
      obtain ⟨st, ms', rfl⟩ := at_map hv
      have hi : i < ms.length := by
        have := (List.getElem?_eq_some_iff.mp hv).1
        rw [List.length_map] at this
        exact this
      have e' := rw'.e
      have e2 : H' Rr = some (.lst (rs.map V.int ++ [.int z])) := by
        rw [e', List.map_append]
        rfl
      refine ⟨_, rfl, .inl ⟨rfl, _, SqL.of e2⟩, _, rfl, 1, rfl, Rr, _, _, _, rfl, rfl, SqL.of e2, atI_last _ _, _, rfl, _, _, rfl, rfl, Rr, _, _, rfl, rfl, e2, ltS (by rw [List.length_append, List.length_map]; simp; omega), ?_⟩
      refine ⟨rs ++ [z], z + st, _, rfl, ⟨?_, fun x hx => ?_⟩, by rw [List.length_append, lr]; rfl, f'.over nR, hP11.over nR hP'⟩
      · rw [upd_same, List.map_append, List.map_append]
        rfl
      · rcases List.mem_append.mp hx with q | q
        · exact (rw'.b x q).mono (by omega)
        · rw [List.mem_singleton.mp q]
          exact Bd.add (rw'.b z (by simp)) ((rwc.b st ms').mono (show 208 ≤ 210 + i by omega))
    · rintro σ H' ⟨rs, z, y, rfl, rw', lr, f', hP'⟩
      rw [List.length_map] at lr
      refine ⟨_, rfl, kk Rr H' (rs ++ [z]) (rw'.mono (by rw [List.length_map]; omega)) (by simp) ?_ (hP'.mono (by omega)) (f011.trans f')⟩
      rw [List.length_append, List.length_singleton]
      omega
end
end Lf
namespace Lf
open PySem PySem.Spec PyProof.Rows L2
theorem bint (b : Bool) : Bd 1 (if b = true then 1 else 0) := by
  cases b <;> exact Bd.small 1 (by decide) (by decide)
theorem row_app {k : Nat} {xs ys : List Int} (h : ∀ z ∈ xs, Bd k z) (h2 : ∀ z ∈ ys, Bd k z) : ∀ z ∈ xs ++ ys, Bd k z := fun z hz => (List.mem_append.mp hz).elim (h z) (h2 z)
theorem cut_drop (xs : List V) (m : Int) (h : 0 ≤ m) : cutV xs (some m) none = xs.drop m.toNat := by
  obtain ⟨j, rfl⟩ := Int.eq_ofNat_of_zero_le h
  unfold cutV
  rw [HT.sIx_none, HT.sIx_nat]
  rcases Nat.le_total j xs.length with q | q
  · rw [Nat.min_eq_left q]
    exact List.take_of_length_le (by rw [List.length_drop]; exact Nat.le_refl _)
  · rw [Nat.min_eq_right q, List.drop_of_length_le (Nat.le_refl _)]
    show List.take _ [] = List.drop j xs
    rw [List.take_nil, List.drop_of_length_le q]
section
variable {P : Program} {w : World} {K : PySem.W.Frag} {mg : Str → Option Value} {base : Heap}
def spRow22 : Sp := fun vs H Q _ => ∃ (a : PA) (n : Nat), vs = [.ref a, .int 14] ∧ Pen H a n ∧ n < 2 ^ 36 ∧ ∀ R H' ns, Row H' R 400 ns → 1 ≤ ns.length → ns.length ≤ 14 → Pen H' a (n + 400) → Fr H H' → Q (.ref R) H'
abbrev s_l_row : Stmt := topS 44
abbrev N_l_row : List Str := ["_law_pen_here", "_law_size", "_law_rule_here", "_law_start", "_law_row_here", "_law_road", "_law_again", "_law_at", "_law_far", "_law_k", "_law_one"]
abbrev P_l_row : List Str := ["_law_pen_here", "_law_size"]
theorem sc_l_row : FnScope N_l_row P_l_row (defScope s_l_row) := ⟨rfl, rfl, rfl, by decide +kernel, rfl, by decide +kernel, by decide +kernel⟩
theorem ok_l_row (D : Df K mg "_law_row" s_l_row P_l_row) (B : Bi mg) (c_l_draw : C8.Cal P w K mg base 1 "_law_draw" spDraw []) (c_l_pick : C8.Cal P w K mg base 2 "_law_pick" spPick []) (c_l_signed : C8.Cal P w K mg base 3 "_law_signed" spSigned []) (c_l_rule : C8.Cal P w K mg base 3 "_law_rule" spRule []) (c_l_far_rule : C8.Cal P w K mg base 4 "_law_far_rule" spFar []) (c_l_tally : C8.Cal P w K mg base 1 "_law_tally" spTally []) : C8.Cal P w K mg base 5 "_law_row" spRow22 [] := by
  refine cal_of D sc_l_row (fun vs H Q E h => ?_) (fun f cdv A outer s H vs Q E hr h => ?_)
  · obtain ⟨a, n, rfl, _⟩ := h
    rfl
  · obtain ⟨a, n, rfl, hP, hn, kk⟩ := h
    refine ⟨_, (pss_cons (ps_asg (pe_tup (pa_cons (C8.pe_c c_l_pick hr (by decide) (by rfl) (pa_cons (pv 0) (pa_cons (pe_lst (pa_cons (C8.pe_c c_l_rule hr (by decide) (by rfl) (pa_cons (pv 0) (pa_cons pe_int pa_nil))) (pa_cons (C8.pe_c c_l_far_rule hr (by decide) (by rfl) (pa_cons (pv 0) (pa_cons pe_int pa_nil))) pa_nil))) pa_nil))) (pa_cons (C8.pe_c c_l_signed hr (by decide) (by rfl) (pa_cons (pv 0) (pa_cons pe_int pa_nil))) pa_nil))) (pg_tup rfl (pgs_cons (pg_name (i := 2) sc_l_row.nd rfl (Or.inr rfl)) (pgs_cons (pg_name (i := 3) sc_l_row.nd rfl (Or.inr rfl)) pgs_nil))))
    (pss_cons (ps_asg (pe_tup (pa_cons (pe_lc (own := [("_law_k", 9)]) (g := (gName 9)) (by rfl) sc_l_row.nd (pi_range1 rfl B.range_ (pa_cons (pe_op op_add pe_int (C8.pe_c c_l_draw hr (by decide) (by rfl) (pa_cons (pv 0) (pa_cons (pv 1) pa_nil)))) pa_nil)) (blkOk_by (own := [("_law_k", 9)]) (N := N_l_row) (sc := defScope s_l_row) (by decide +kernel)) (fun _ _ _ _ _ => (pg_name (i := 9) sc_l_row.nd rfl (Or.inl rfl))) (fun _ _ _ _ _ => pts_nil) (fun _ _ _ _ _ => (C8.pe_c c_l_tally hr (by decide) (by rfl) (pa_cons (pv 2) (pa_cons (pe_op op_add (pv 3) (pv 9)) pa_nil))))) (pa_cons (C8.pe_c c_l_draw hr (by decide) (by rfl) (pa_cons (pv 0) (pa_cons pe_int pa_nil))) pa_nil))) (pg_tup rfl (pgs_cons (pg_name (i := 4) sc_l_row.nd rfl (Or.inr rfl)) (pgs_cons (pg_name (i := 5) sc_l_row.nd rfl (Or.inl rfl)) pgs_nil))))
    (pss_cons (ps_if (pt_cmpR op_eq (pv 5) pe_int (nomark _))
      (pss_one (ps_ret (pe_lc (own := [("_law_one", 10)]) (g := (gName 10)) (by rfl) sc_l_row.nd (pi_list (pv 4)) (blkOk_by (own := [("_law_one", 10)]) (N := N_l_row) (sc := defScope s_l_row) (by decide +kernel)) (fun _ _ _ _ _ => (pg_name (i := 10) sc_l_row.nd rfl (Or.inl rfl))) (fun _ _ _ _ _ => pts_nil) (fun _ _ _ _ _ => (C8.pe_c c_l_signed hr (by decide) (by rfl) (pa_cons (pv 0) (pa_cons pe_int pa_nil)))))))
      pss_nil)
    (pss_cons (ps_for PassesOwn.never rfl (pi_range1 rfl B.range_ (pa_cons (pe_op op_sub (pv 5) pe_int) pa_nil)) (pg_name (i := 6) sc_l_row.nd rfl (Or.inl rfl))
      (pss_cons (ps_asg (pe_tup (pa_cons (C8.pe_c c_l_draw hr (by decide) (by rfl) (pa_cons (pv 0) (pa_cons (pe_callB (call_len_seq) (by rfl) B.len_ bt_len (pa_cons (pv 4) pa_nil)) pa_nil))) (pa_cons (C8.pe_c c_l_pick hr (by decide) (by rfl) (pa_cons (pv 0) (pa_cons (pe_lst (pa_cons pe_int (pa_cons (pe_un un_neg pe_int) (pa_cons (C8.pe_c c_l_signed hr (by decide) (by rfl) (pa_cons (pv 0) (pa_cons pe_int pa_nil))) pa_nil)))) pa_nil))) pa_nil))) (pg_tup rfl (pgs_cons (pg_name (i := 7) sc_l_row.nd rfl (Or.inr rfl)) (pgs_cons (pg_name (i := 8) sc_l_row.nd rfl (Or.inr rfl)) pgs_nil))))
    (pss_one (ps_set (i := 4) sc_l_row.nd rfl (Or.inr rfl) (pe_lc (own := [("_law_k", 9)]) (g := (gName 9)) (by rfl) sc_l_row.nd (pi_range1 rfl B.range_ (pa_cons (pe_callB (call_len_seq) (by rfl) B.len_ bt_len (pa_cons (pv 4) pa_nil)) pa_nil)) (blkOk_by (own := [("_law_k", 9)]) (N := N_l_row) (sc := defScope s_l_row) (by decide +kernel)) (fun _ _ _ _ _ => (pg_name (i := 9) sc_l_row.nd rfl (Or.inl rfl))) (fun _ _ _ _ _ => pts_nil) (fun _ _ _ _ _ => (pe_op op_add (pe_ix (r := rIxL K) ix_list (pv 4) (pv 9) (fun _ _ => rfl)) (pe_op op_mulW (pv 8) (pe_callTy (call_int1) (by rfl) B.int_ bt_int (pa_cons (pe_cmpR op_ge (pv 9) (pv 7) (nomark _)) pa_nil))))))))))
    (pss_cons (ps_if (pt_cmpR op_eq (pv 5) pe_int (nomark _))
      (pss_cons (ps_set (i := 7) sc_l_row.nd rfl (Or.inr rfl) (C8.pe_c c_l_draw hr (by decide) (by rfl) (pa_cons (pv 0) (pa_cons (pe_callB (call_len_seq) (by rfl) B.len_ bt_len (pa_cons (pv 4) pa_nil)) pa_nil))))
    (pss_one (ps_set (i := 4) sc_l_row.nd rfl (Or.inr rfl) (pe_op op_cat (pe_op op_cat (pe_slice sl_list (pv 4) po_none (po_some (pv 7))) (pe_lst (pa_cons (pe_op op_add (pe_ix (r := rIxL K) ix_list (pv 4) (pv 7) (fun _ _ => rfl)) (C8.pe_c c_l_pick hr (by decide) (by rfl) (pa_cons (pv 0) (pa_cons (pe_lst (pa_cons pe_int (pa_cons (pe_un un_neg pe_int) (pa_cons pe_int (pa_cons (pe_un un_neg pe_int) pa_nil))))) pa_nil)))) pa_nil))) (pe_slice sl_list (pv 4) (po_some (pe_op op_add (pv 7) pe_int)) po_none)))))
      pss_nil)
    (pss_one (ps_ret (pv 4)))))))), ?_⟩
    have t30 : ((30 : Int) / 6).toNat = 5 := by decide
    have t12 : ((12 : Int) / 6).toNat = 2 := by decide
    -- rule, start
    refine ⟨_, rfl, _, rfl, a, n, 12, rfl, hP, by omega, by decide, by decide, fun r1 p1 q1 c1 H1 R1 _ _ e1 hP1 f1 => ?_⟩
    refine ⟨_, rfl, a, _, 30, rfl, hP1, by omega, by decide, by decide, fun r2 p2 q2 c2 H2 R2 e2 hP2 f2 => ?_⟩
    rw [t30] at hP2 R2
    refine ⟨len10 (by simp), fun O nO => ?_⟩
    have zO := sm_upd (o := .lst [.ref r1, .ref r2]) nO
    refine ⟨a, O, _, _, rfl, hP2.same zO, by omega, upd_same, by simp, by simp, fun x H3 hx hP3 f3 => ?_⟩
    obtain ⟨r, p, q, c, rfl, er, R⟩ : ∃ r p q c, x = .ref r ∧ H3 r = some (tup3 p q c) ∧ RuleB 102 p q c := by
      simp only [List.mem_cons, List.not_mem_nil, or_false] at hx
      rcases hx with rfl | rfl
      · exact ⟨r1, p1, q1, c1, rfl, f3.t _ _ (zO _ _ (f2.t _ _ e1)), R1.mono (by decide)⟩
      · exact ⟨r2, p2, q2, c2, rfl, f3.t _ _ (zO _ _ e2), R2.mono (by decide)⟩
    have f03 := f1.trans (f2.trans ((Fr.same zO).trans f3))
    refine ⟨_, rfl, a, _, 30, rfl, hP3, by omega, by decide, by decide, fun t H4 bt hP4 f4 => ?_⟩
    rw [t30] at hP4 bt
    refine ⟨len10 (by simp), fun T nT => ?_⟩
    have zT := sm_upd (o := .tup [.ref r, .int t]) nT
    refine ⟨T, _, rfl, SqT.of upd_same, rfl, _, _, rfl, _, _, rfl, rfl, ?_⟩
    have f05 := f03.trans (f4.trans (Fr.same zT))
    have er := zT _ _ (f4.t _ _ er)
    have hP5 : Pen (upd H4 T (.tup [.ref r, .int t])) a (n + 60) := (hP4.same zT).mono (by omega)
    generalize upd H4 T (.tup [.ref r, .int t]) = H5 at f05 er hP5 ⊢
    clear zT nT zO nO hx f1 f2 f3 f4 hP1 hP2 hP3 hP4 f03 e1 e2
    -- row, road
    refine ⟨_, rfl, _, rfl, a, _, _, rfl, hP5, by omega, by decide, Bd.small 20 (by decide) (by decide), fun d H6 d0 d1 hP6 f6 => ?_⟩
    refine ⟨_, _, rfl, rfl, _, rfl, by omega, by omega, fun G nG => ?_⟩
    refine lc_range (lo := 0) (n := (1 + d).toNat) (fun j H' => Same H6 H' ∧ ∃ ns, Row H' G 300 ns ∧ ns.length = j) ⟨sm_upd nG, [], ⟨upd_same, fun _ z => (nomatch z)⟩, rfl⟩ ?_ ?_
    · rintro j H' hj ⟨s1, ns, eL, ln⟩
      have bj : Bd 103 (t + (0 + (j : Int))) := Bd.add (bt.mono (by decide : 100 ≤ 102)) (Bd.small 20 (by omega) (by decide))
      refine ⟨rfl, _, rfl, _, rfl, _, rfl, _, _, rfl, rfl, r, p, q, c, _, 103, rfl, s1 _ _ (f6.t _ _ er), R.mono (by decide), bj, by decide, by decide, ?_⟩
      refine ⟨_, eL.e, ?_, ?_, ns ++ [(p * (t + (0 + (j : Int))) + c) / q], ⟨?_, fun z hz => ?_⟩, ?_⟩
      · rw [List.length_map, ln]
        exact small1000 (by omega)
      · intro b' o eb
        rw [upd_ne (ne_of_none eb nG)]
        exact s1 _ _ eb
      · rw [upd_same, List.map_append]
        rfl
      · rcases List.mem_append.mp hz with g | g
        · exact eL.b z g
        · rw [List.mem_singleton.mp g]
          exact (bd_count (by decide) (R.mono (by decide : 102 ≤ 103)) bj).mono (by decide)
      · rw [List.length_append, ln]
        rfl
    rintro H7 ⟨s7, ns, rw7, ln⟩
    refine ⟨_, rfl, a, _, _, rfl, hP6.same s7, by omega, by decide, Bd.small 20 (by decide) (by decide), fun rd H8 rd0 rd1 hP8 f8 => ?_⟩
    refine ⟨len10 (by simp), fun T nT => ?_⟩
    have zT := sm_upd (o := .tup [.ref G, .int rd]) nT
    refine ⟨T, _, rfl, SqT.of upd_same, rfl, _, _, rfl, _, _, rfl, rfl, ?_⟩
    have f09 := f05.trans (f6.trans ((Fr.same s7).trans (f8.trans (Fr.same zT))))
    have rw9 := (rw7.fr f8).fr (Fr.same zT)
    have hP9 : Pen (upd H8 T (.tup [.ref G, .int rd])) a (n + 70) := (hP8.same zT).mono (by omega)
    generalize upd H8 T (.tup [.ref G, .int rd]) = H9 at f09 rw9 hP9 ⊢
    have l1 : 1 ≤ ns.length := by omega
    have l2 : ns.length ≤ 14 := by omega
    clear zT nT f8 hP8 s7 rw7 f6 hP6 f05 hP5 nG ln er
    refine ⟨_, rfl, rfl, _, rfl, ite2 (fun c0 => ?_) (fun c0 => ?_)⟩
    · refine ⟨_, rfl, G, rfl, ⟨_, SqL.of rw9.e⟩, fun Y nY => ?_⟩
      refine lc_it (walk_list (K := K) (a := G) (xs := ns.map V.int)) (fun j H' => Fr H9 H' ∧ Pen H' a (n + 70 + 10 * j) ∧ ∃ ms, Row H' Y 400 ms ∧ ms.length = j) ⟨Fr.new nY, hP9.new nY, [], ⟨upd_same, fun _ z => (nomatch z)⟩, rfl⟩ ?_ ?_ ?_
      · rintro j H' _ ⟨f', _⟩
        exact SqL.of (f'.l _ _ rw9.e)
      · rintro j x H' _ hj ⟨f', hP', ms, rwm, lm⟩ ⟨rfl, hx⟩
        rw [List.length_map] at hj
        refine ⟨rfl, _, rfl, a, _, 12, rfl, hP', by omega, by decide, by decide, fun g H11 bg hP11 f11 => ?_⟩
        rw [t12] at hP11 bg
        have rwn := rwm.fr f11
        refine ⟨_, rwn.e, ?_, (f'.trans f11).over nY, (hP9.over nY hP11).mono (by omega), ms ++ [g], ⟨?_, row_app rwn.b fun z hz => ?_⟩, ?_⟩
        · rw [List.length_map, lm]
          exact small1000 (by omega)
        · rw [upd_same, List.map_append]
          rfl
        · rw [List.mem_singleton.mp hz]
          exact bg.mono (by decide)
        · rw [List.length_append, lm]
          rfl
      · rintro H' ⟨f', hP', ms, rwm, lm⟩
        rw [List.length_map] at lm hP'
        exact kk Y H' ms rwm (by omega) (by omega) (hP'.mono (by omega)) (f09.trans f')
    · -- changes
      refine ⟨_, rfl, _, _, rfl, rfl, _, rfl, by omega, by omega, ?_⟩
      refine for_range (lo := 0) (n := (rd - 2).toNat) (fun i σ H' => ∃ (G : Addr) (ns : List Int) (y6 y7 y8 : Option V), σ = [some (.ref a), some (.int 14), some (.ref r), some (.int t), some (.ref G), some (.int rd), y6, y7, y8, none, none] ∧ Row H' G (300 + 10 * i) ns ∧ 1 ≤ ns.length ∧ ns.length ≤ 14 ∧ Pen H' a (n + 70 + 20 * i) ∧ Fr H H') ⟨G, ns, _, _, _, rfl, rw9.mono (by omega), l1, l2, hP9, f09⟩ ?_ ?_
      · clear rw9 l1 l2 hP9 f09 G ns
        rintro i σ H' hi ⟨G, ns, y6, y7, y8, rfl, rw9, l1, l2, hP9, f09⟩
        have hi2 : i < 3 := by omega
        have lm : (ns.map V.int).length = ns.length := List.length_map ..
        refine ⟨_, rfl, _, rfl, G, _, rfl, .inl (SqL.of rw9.e), a, _, _, rfl, hP9, by omega, by omega, Bd.small 20 (by omega) (by decide), fun at_ H10 at0 at1 hP10 f10 => ?_⟩
        refine ⟨_, rfl, 1, rfl, _, rfl, a, _, 12, rfl, hP10, by omega, by decide, by decide, fun g H11 bg hP11 f11 => ?_⟩
        rw [t12] at hP11 bg
        refine ⟨len10 (by simp), fun O nO => ?_⟩
        have zO := sm_upd (o := .lst [.int 1, .int (-1), .int g]) nO
        refine ⟨a, O, _, _, rfl, hP11.same zO, by omega, upd_same, by simp, by simp, fun x H12 hx hP12 f12 => ?_⟩
        obtain ⟨fr, rfl, bfr⟩ : ∃ fr : Int, x = .int fr ∧ Bd 40 fr := by
          simp only [List.mem_cons, List.not_mem_nil, or_false] at hx
          rcases hx with rfl | rfl | rfl
          · exact ⟨_, rfl, Bd.small 1 (by decide) (by decide)⟩
          · exact ⟨_, rfl, Bd.small 1 (by decide) (by decide)⟩
          · exact ⟨_, rfl, bg⟩
        refine ⟨len10 (by simp), fun T nT => ?_⟩
        have zT := sm_upd (o := .tup [.int at_, .int fr]) nT
        refine ⟨T, _, rfl, SqT.of upd_same, rfl, _, _, rfl, _, _, rfl, rfl, ?_⟩
        have fA := f10.trans (f11.trans ((Fr.same zO).trans (f12.trans (Fr.same zT))))
        have rw13 := rw9.fr fA
        have hP13 : Pen (upd H12 T (.tup [.int at_, .int fr])) a (n + 70 + 20 * i + 20) := (hP12.same zT).mono (by omega)
        have f013 := f09.trans fA
        generalize upd H12 T (.tup [.int at_, .int fr]) = H13 at rw13 hP13 f013 ⊢
        clear zT nT zO nO hx f10 f11 f12 fA hP9 hP10 hP11 hP12 rw9 f09
        refine ⟨_, rfl, G, _, rfl, .inl (SqL.of rw13.e), ?_⟩
        rw [lm]
        refine ⟨_, rfl, by omega, by omega, fun Y nY => ?_⟩
        refine lc_range (lo := 0) (n := ((ns.length : Int)).toNat) (fun j H' => Same H13 H' ∧ ∃ ms, Row H' Y (300 + 10 * i + 10) ms ∧ ms.length = j) ⟨sm_upd nY, [], ⟨upd_same, fun _ z => (nomatch z)⟩, rfl⟩ ?_ ?_
        · rintro j H' hj ⟨s1, ms, rwm, lms⟩
          have rwj := rw13.fr (Fr.same s1)
          obtain ⟨x, hx, mx, _⟩ := at_ints (ns := ns) (d := 0 + (j : Int)) (by omega) (by omega)
          have bb := bint (decide ((0 + (j : Int)) ≥ at_))
          refine ⟨rfl, _, rfl, _, rfl, G, _, _, _, rfl, rfl, SqL.of rwj.e, hx, ?_⟩
          refine ⟨_, rfl, _, rfl, _, rfl, _, _, rfl, rfl, .inr ⟨_, rfl, _, _, rfl, rfl, mulW bfr bb (by decide) (by decide) (by decide), _, _, rfl, rfl, ?_⟩⟩
          refine ⟨_, rwm.e, ?_, ?_, ms ++ [x + fr * (if decide ((0 + (j : Int)) ≥ at_) = true then 1 else 0)], ⟨?_, row_app rwm.b fun z hz => ?_⟩, ?_⟩
          · rw [List.length_map, lms]
            exact small1000 (by omega)
          · intro b' o eb
            rw [upd_ne (ne_of_none eb nY)]
            exact s1 _ _ eb
          · rw [upd_same, List.map_append]
            rfl
          · rw [List.mem_singleton.mp hz]
            exact (Bd.add (rw13.b x mx) ((Bd.mul bfr bb).mono (by omega : 40 + 1 ≤ 300 + 10 * i))).mono (by omega)
          · rw [List.length_append, lms]
            rfl
        rintro H14 ⟨s14, ms, rwm, lms⟩
        exact ⟨Y, ms, _, _, _, rfl, rwm.mono (by omega), by omega, by omega, (hP13.same s14).mono (by omega), f013.trans (Fr.same s14)⟩
      · clear rw9 l1 l2 hP9 f09 G ns
        rintro σ H' ⟨G, ns, y6, y7, y8, rfl, rw9, l1, l2, hP9, f09⟩
        have hi3 : (rd - 2).toNat ≤ 2 := by omega
        have lm : (ns.map V.int).length = ns.length := List.length_map ..
        refine ⟨_, rfl, rfl, _, rfl, ite2 (fun c1 => ?_) (fun c1 => ?_)⟩
        · refine ⟨_, rfl, _, rfl, G, _, rfl, .inl (SqL.of rw9.e), a, _, _, rfl, hP9, by omega, by omega, Bd.small 20 (by omega) (by decide), fun at_ H10 at0 at1 hP10 f10 => ?_⟩
          rw [lm] at at1
          have rw10 := rw9.fr f10
          refine ⟨_, rfl, _, rfl, _, rfl, G, _, rfl, SqL.of rw10.e, fun p1 n1 => ?_⟩
          have z1 := sm_upd (o := .lst (cutV (ns.map V.int) none (some at_))) n1
          have rw11 := rw10.fr (Fr.same z1)
          have e1 := upd_same (H := H10) (a := p1) (o := .lst (cutV (ns.map V.int) none (some at_)))
          have hP11 := hP10.same z1
          generalize upd H10 p1 (.lst (cutV (ns.map V.int) none (some at_))) = H11 at z1 rw11 e1 hP11 ⊢
          obtain ⟨x, hx, mx, _⟩ := at_ints (ns := ns) at0 at1
          refine ⟨_, rfl, _, rfl, G, _, _, _, rfl, rfl, SqL.of rw11.e, hx, ?_⟩
          refine ⟨_, rfl, 1, rfl, 2, rfl, len10 (by simp), fun O nO => ?_⟩
          have zO := sm_upd (o := .lst [.int 1, .int (-1), .int 2, .int (-2)]) nO
          refine ⟨a, O, _, _, rfl, hP11.same zO, by omega, upd_same, by simp, by simp, fun y H12 hy hP12 f12 => ?_⟩
          obtain ⟨u, rfl, bu⟩ : ∃ u : Int, y = .int u ∧ Bd 3 u := by
            simp only [List.mem_cons, List.not_mem_nil, or_false] at hy
            rcases hy with rfl | rfl | rfl | rfl <;> exact ⟨_, rfl, Bd.small 3 (by decide) (by decide)⟩
          have f112 := (Fr.same zO).trans f12
          have e1 := f112.l _ _ e1
          have rw12 := rw11.fr f112
          refine ⟨_, _, rfl, rfl, len10 (by simp), fun p2 n2 => ?_⟩
          have z2 := sm_upd (o := .lst [.int (x + u)]) n2
          have cl := cutV_length (ns.map V.int) none (some at_)
          have cl2 := cutV_length (ns.map V.int) (some (at_ + 1)) none
          rw [lm] at cl cl2
          refine ⟨p1, p2, _, _, rfl, rfl, z2 _ _ e1, upd_same, len10 (by show (cutV (ns.map V.int) none (some at_)).length + 1 ≤ 1000; omega), fun p3 n3 => ?_⟩
          have z3 := sm_upd (o := .lst (cutV (ns.map V.int) none (some at_) ++ [.int (x + u)])) n3
          refine ⟨_, rfl, _, rfl, _, _, rfl, rfl, _, rfl, G, _, rfl, SqL.of (z3 _ _ (z2 _ _ rw12.e)), fun p4 n4 => ?_⟩
          have z4 := sm_upd (o := .lst (cutV (ns.map V.int) (some (at_ + 1)) none)) n4
          refine ⟨p3, p4, _, _, rfl, rfl, z4 _ _ upd_same, upd_same, len10 (by rw [List.length_append]; show (cutV (ns.map V.int) none (some at_)).length + 1 + _ ≤ 1000; omega), fun W nW => ?_⟩
          have z5 := sm_upd (o := .lst ((cutV (ns.map V.int) none (some at_) ++ [.int (x + u)]) ++ cutV (ns.map V.int) (some (at_ + 1)) none)) nW
          have zz := ((z2.trans z3).trans z4).trans z5
          have er : ((cutV (ns.map V.int) none (some at_) ++ [.int (x + u)]) ++ cutV (ns.map V.int) (some (at_ + 1)) none : List V) = (((ns.take at_.toNat) ++ [x + u]) ++ ns.drop (at_ + 1).toNat).map V.int := by
            rw [cut_take _ _ at0, cut_drop _ _ (by omega), List.map_append, List.map_append, List.map_take, List.map_drop]
            rfl
          refine ⟨_, rfl, kk W _ (((ns.take at_.toNat) ++ [x + u]) ++ ns.drop (at_ + 1).toNat) ⟨by rw [upd_same, er], row_app (row_app (fun z hz => (rw9.b z (List.mem_of_mem_take hz)).mono (by omega)) fun z hz => ?_) fun z hz => (rw9.b z (List.mem_of_mem_drop hz)).mono (by omega)⟩ (by simp; omega) ?_ ((hP12.same zz).mono (by omega)) (f09.trans (f10.trans ((Fr.same z1).trans (f112.trans (Fr.same zz)))))⟩
          · rw [List.mem_singleton.mp hz]
            exact (Bd.add (rw9.b x mx) (bu.mono (by omega : 3 ≤ 300 + 10 * (rd - 2).toNat))).mono (by omega)
          · rw [List.length_append, List.length_append, List.length_take, List.length_drop, List.length_singleton]
            omega
        · exact ⟨_, rfl, kk G H' ns (rw9.mono (by omega)) l1 l2 (hP9.mono (by omega)) f09⟩
end
end Lf
namespace Lf
open PySem PySem.Spec PyProof.Rows L2
def rcl (s : Int) (ns : List Int) (i : Nat) : List Rec := (List.range i).flatMap fun (k : Nat) => [⟨true, s + (k : Int), ns.getD k 0⟩, ⟨false, s + (k : Int), ns.getD k 0⟩]
theorem rcl_snoc (s : Int) (ns : List Int) (i : Nat) {x : Int} (e : ns[i]? = some x) : rcl s ns (i + 1) = rcl s ns i ++ [⟨true, s + (i : Int), x⟩, ⟨false, s + (i : Int), x⟩] := by
  unfold rcl
  rw [List.range_succ, List.flatMap_append]
  congr 1
  simp [e]
theorem rcl_len (s : Int) (ns : List Int) (i : Nat) : (rcl s ns i).length = 2 * i := by
  induction i with
  | zero => rfl
  | succ i ih =>
    unfold rcl at *
    rw [List.range_succ, List.flatMap_append, List.length_append, ih]
    simp
    omega
theorem rcl_rcs (s : Int) (ns : List Int) : Rcs s ns (rcl s ns ns.length) := by
  intro d
  unfold rcl
  rw [List.mem_flatMap]
  constructor
  · rintro ⟨k, hk, hd⟩
    have hk := List.mem_range.mp hk
    have e : ns[k]? = some ns[k] := List.getElem?_eq_getElem hk
    refine ⟨k, ?_, ?_⟩
    · simp only [List.mem_cons, List.not_mem_nil, or_false] at hd
      rw [List.getD_eq_getElem?_getD, e] at hd
      rcases hd with rfl | rfl <;> exact e
    · simp only [List.mem_cons, List.not_mem_nil, or_false] at hd
      rcases hd with rfl | rfl <;> rfl
  · rintro ⟨k, e, ht⟩
    refine ⟨k, List.mem_range.mpr (List.getElem?_eq_some_iff.mp e).1, ?_⟩
    rw [List.getD_eq_getElem?_getD, e]
    obtain ⟨b, t, n⟩ := d
    have ht : t = s + (k : Int) := ht
    subst ht
    cases b
    · exact List.mem_cons_of_mem _ List.mem_cons_self
    · exact List.mem_cons_self
theorem rcl_bd {s : Int} {ns : List Int} {k : Nat} (hs : Bd k s) (hb : ∀ z ∈ ns, Bd (k + 1) z) (h : ns.length ≤ 90) (k0 : 20 ≤ k) : RcB (k + 1) (rcl s ns ns.length) := fun d hd => by
  obtain ⟨j, e, ht⟩ := (rcl_rcs s ns d).mp hd
  have := (List.getElem?_eq_some_iff.mp e).1
  exact ⟨by rw [ht]; exact Bd.add hs (Bd.small 20 (by omega) k0), hb _ (List.mem_of_getElem? e)⟩
theorem rv_dec {H : Hp} {k : Nat} {ds : List Rec} {v : V} {lo up : Option T4} (hl : LoOk (SD ds) lo) (hu : UpOk (SD ds) up) (h : RV H k v lo up) : (v = .non ∧ Cf ds) ∨ (∃ r, v = .ref r) ∧ ¬ Cf ds := by
  rcases h with ⟨h1, rfl⟩ | ⟨h1, T, x, y, rfl, _⟩
  · exact .inl ⟨rfl, (nr_cf hl hu).mp h1⟩
  · refine .inr ⟨⟨T, rfl⟩, fun z => ?_⟩
    rw [(nr_cf hl hu).mpr z] at h1
    cases h1
section
variable {P : Program} {w : World} {K : PySem.W.Frag} {mg : Str → Option Value} {base : Heap}
abbrev s_law : Stmt := topS 46
abbrev N_law : List Str := ["_law_script", "_law_pen_here", "_law_turn", "_law_row_here", "_law_start", "_law_records_here", "_law_k", "_law_rule_here", "_law_many", "_law_even", "_law_low", "_law_high", "_law_one"]
abbrev P_law : List Str := ["_law_script"]
theorem sc_law : FnScope N_law P_law (defScope s_law) := ⟨rfl, rfl, rfl, by decide +kernel, rfl, by decide +kernel, by decide +kernel⟩
theorem ok_law {f : Addr} {fd : FuncData} (F : Fun K "law" "law" s_law f fd) (B : Bi mg) (c_l_pen : C8.Cal P w K mg base 1 "_law_pen" (spPen K) []) (c_l_draw : C8.Cal P w K mg base 1 "_law_draw" spDraw []) (c_l_signed : C8.Cal P w K mg base 3 "_law_signed" spSigned []) (c_l_far_rule : C8.Cal P w K mg base 4 "_law_far_rule" spFar []) (c_l_row : C8.Cal P w K mg base 5 "_law_row" spRow22 []) (c_l_long_row : C8.Cal P w K mg base 5 "_law_long_row" spLongRow []) (c_count_records : C8.Cal P w K mg base 3 "count_records" spCR [])
    (c_uneven : C8.Cal P w K mg base 3 "uneven" spUneven []) (c_rates : C8.Cal P w K mg base 4 "rates" (spRateEnds 200) []) (c_count : C8.Cal P w K mg base 4 "count" spCount []) : FnOk P w K mg base CX0 6 f fd P_law (spLaw K) := by
  refine F.ok sc_law (fun vs H Q E h => ?_) (fun cdv A outer s H vs Q E hr h => ?_)
  · obtain ⟨a, ns, rfl, _⟩ := h
    rfl
  · obtain ⟨sc, ns, rfl, hS, hlen, kk⟩ := h
    refine ⟨_, (pss_cons (ps_set (i := 1) sc_law.nd rfl (Or.inl rfl) (C8.pe_c c_l_pen hr (by decide) (by rfl) (pa_cons (pv 0) pa_nil)))
    (pss_cons (ps_for PassesOwn.never rfl (pi_range1 rfl B.range_ (pa_cons pe_int pa_nil)) (pg_name (i := 2) sc_law.nd rfl (Or.inl rfl))
      (C8.pss_cut (ps_asg (pe_tup (pa_cons (pe_ifExp (pt_cmpR op_gt (pv 2) pe_int (nomark _)) (C8.pe_c c_l_row hr (by decide) (by rfl) (pa_cons (pv 1) (pa_cons pe_int pa_nil))) (C8.pe_c c_l_long_row hr (by decide) (by rfl) (pa_cons (pv 1) (pa_cons pe_int pa_nil)))) (pa_cons (C8.pe_c c_l_signed hr (by decide) (by rfl) (pa_cons (pv 1) (pa_cons pe_int pa_nil))) pa_nil))) (pg_tup rfl (pgs_cons (pg_name (i := 3) sc_law.nd rfl (Or.inl rfl)) (pgs_cons (pg_name (i := 4) sc_law.nd rfl (Or.inr rfl)) pgs_nil))))
    (pss_cons (ps_set (i := 5) sc_law.nd rfl (Or.inl rfl) (pe_lst pa_nil))
    (pss_cons (ps_for PassesOwn.never rfl (pi_range1 rfl B.range_ (pa_cons (pe_callB (call_len_seq) (by rfl) B.len_ bt_len (pa_cons (pv 3) pa_nil)) pa_nil)) (pg_name (i := 6) sc_law.nd rfl (Or.inl rfl))
      (pss_one (ps_set (i := 5) sc_law.nd rfl (Or.inl rfl) (pe_op op_cat (pv 5) (C8.pe_c c_count_records hr (by decide) (by rfl) (pa_cons (pe_op op_add (pv 4) (pv 6)) (pa_cons (pe_ix (r := rIxL K) ix_list (pv 3) (pv 6) (fun _ _ => rfl)) pa_nil)))))))
    (pss_cons (ps_if (pt_cmpR op_ne (pe_cmpR op_isN (C8.pe_c c_uneven hr (by decide) (by rfl) (pa_cons (pv 3) pa_nil)) pe_non (nomark _)) (pe_cmpR op_notN (C8.pe_c c_rates hr (by decide) (by rfl) (pa_cons (pv 5) pa_nil)) pe_non (nomark _)) (nomark _))
      (pss_one (ps_ret pe_bl))
      pss_nil)
    (pss_cons (ps_asg (pe_tup (pa_cons (C8.pe_c c_l_far_rule hr (by decide) (by rfl) (pa_cons (pv 1) (pa_cons pe_int pa_nil))) (pa_cons (pe_op op_add pe_int (C8.pe_c c_l_draw hr (by decide) (by rfl) (pa_cons (pv 1) (pa_cons pe_int pa_nil)))) pa_nil))) (pg_tup rfl (pgs_cons (pg_name (i := 7) sc_law.nd rfl (Or.inr rfl)) (pgs_cons (pg_name (i := 8) sc_law.nd rfl (Or.inl rfl)) pgs_nil))))
    (pss_cons (ps_setLc (i := 9) (own := [("_law_k", 6)]) (g := (gName 6)) (by rfl) sc_law.nd rfl rfl (sw_true rfl rfl rfl (by decide +kernel)) (pi_range1 rfl B.range_ (pa_cons (pv 8) pa_nil)) (blkOk_by (own := [("_law_k", 6)]) (N := N_law) (sc := defScope s_law) (by decide +kernel)) (fun _ _ _ _ _ => (pg_name (i := 6) sc_law.nd rfl (Or.inl rfl))) (fun _ _ _ _ _ => pts_nil) (fun _ _ _ _ _ => (C8.pe_c c_count hr (by decide) (by rfl) (pa_cons (pv 7) (pa_cons (pe_op op_add (pv 4) (pv 6)) pa_nil)))))
    (pss_cons (ps_asg (pe_tup (pa_cons (C8.pe_c c_l_draw hr (by decide) (by rfl) (pa_cons (pv 1) (pa_cons (pv 8) pa_nil))) (pa_cons (C8.pe_c c_l_signed hr (by decide) (by rfl) (pa_cons (pv 1) (pa_cons pe_int pa_nil))) pa_nil))) (pg_tup rfl (pgs_cons (pg_name (i := 10) sc_law.nd rfl (Or.inl rfl)) (pgs_cons (pg_name (i := 11) sc_law.nd rfl (Or.inr rfl)) pgs_nil))))
    (pss_cons (ps_if (PW.pt (pw_or (pt_cmpR op_notN (C8.pe_c c_uneven hr (by decide) (by rfl) (pa_cons (pv 9) pa_nil)) pe_non (nomark _)) (pw_or1 (pt_cmpR op_notN (C8.pe_c c_uneven hr (by decide) (by rfl) (pa_cons (pe_slice sl_list (pv 9) (po_some (pv 10)) po_none) pa_nil)) pe_non (nomark _)))))
      (pss_one (ps_ret pe_bl))
      pss_nil)
    (pss_one (ps_if (pt_cmpR op_notN (C8.pe_c c_uneven hr (by decide) (by rfl) (pa_cons (pe_lc (own := [("_law_one", 12)]) (g := (gName 12)) (by rfl) sc_law.nd (pi_list (pe_slice sl_list (pv 9) po_none (po_some (pe_op op_sub (pv 8) (pv 10))))) (blkOk_by (own := [("_law_one", 12)]) (N := N_law) (sc := defScope s_law) (by decide +kernel)) (fun _ _ _ _ _ => (pg_name (i := 12) sc_law.nd rfl (Or.inl rfl))) (fun _ _ _ _ _ => pts_nil) (fun _ _ _ _ _ => (pe_op op_add (pv 12) (pv 11)))) pa_nil)) pe_non (nomark _))
      (pss_one (ps_ret pe_bl))
      pss_nil)))))))))))
    (pss_one (ps_ret pe_bl)))), ?_⟩
    have t30 : ((30 : Int) / 6).toNat = 5 := by decide
    refine ⟨_, rfl, sc, ns, rfl, hS, fun a H0 hP0 s0 => ?_⟩
    refine ⟨3, rfl, by decide, by decide, ?_⟩
    refine for_range (lo := 0) (n := 3) (fun i σ H1 => ∃ (y2 y3 y4 y5 y6 y7 y8 y9 y10 y11 : Option V), σ = [some (.ref sc), some (.ref a), y2, y3, y4, y5, y6, y7, y8, y9, y10, y11, none] ∧ Pen H1 a (3000 * i)) ⟨_, _, _, _, _, _, _, _, _, _, rfl, hP0⟩ ?_ ?_
    · rintro i σ H1 hi ⟨y2, y3, y4, y5, y6, y7, y8, y9, y10, y11, rfl, hP1⟩
      refine ⟨fun σ' H' => ∃ (R : Addr) (ns : List Int) (st : Int), σ' = [some (.ref sc), some (.ref a), some (.int ((0 : Int) + i)), some (.ref R), some (.int st), y5, y6, y7, y8, y9, y10, y11, none] ∧ Row H' R 400 ns ∧ 1 ≤ ns.length ∧ ns.length ≤ 90 ∧ Bd 100 st ∧ Pen H' a (3000 * i + 600), ?_, ?_⟩
      · refine ⟨_, rfl, _, _, rfl, rfl, _, rfl, ite2 (fun _ => ?_) (fun _ => ?_)⟩
        · refine ⟨_, rfl, a, _, rfl, hP1, by omega, fun R H2 ns rw2 l1 l2 hP2 f2 => ?_⟩
          refine ⟨_, rfl, a, _, 30, rfl, hP2, by omega, by decide, by decide, fun st H3 bst hP3 f3 => ?_⟩
          rw [t30] at hP3 bst
          refine ⟨len10 (by simp), fun T nT => ?_⟩
          have zT := sm_upd (o := .tup [.ref R, .int st]) nT
          refine ⟨T, _, rfl, SqT.of upd_same, rfl, _, _, rfl, _, _, rfl, rfl, ?_⟩
          exact ⟨R, ns, st, rfl, (rw2.fr f3).fr (Fr.same zT), l1, by omega, bst, (hP3.same zT).mono (by omega)⟩
        · refine ⟨_, rfl, a, _, rfl, hP1, by omega, fun R H2 ns rw2 l1 l2 hP2 f2 => ?_⟩
          refine ⟨_, rfl, a, _, 30, rfl, hP2, by omega, by decide, by decide, fun st H3 bst hP3 f3 => ?_⟩
          rw [t30] at hP3 bst
          refine ⟨len10 (by simp), fun T nT => ?_⟩
          have zT := sm_upd (o := .tup [.ref R, .int st]) nT
          refine ⟨T, _, rfl, SqT.of upd_same, rfl, _, _, rfl, _, _, rfl, rfl, ?_⟩
          exact ⟨R, ns, st, rfl, (rw2.fr f3).fr (Fr.same zT), l1, by omega, bst, (hP3.same zT).mono (by omega)⟩
      clear hS s0 hP0
      rintro σ H2 ⟨R, ns, st, rfl, rw2, l1, l2, bst, hP2⟩
      have lm : (ns.map V.int).length = ns.length := List.length_map ..
      refine ⟨Nat.zero_le _, fun L0 nL0 => ?_⟩
      have z0 := sm_upd (o := .lst []) nL0
      refine ⟨_, rfl, R, _, rfl, .inl (SqL.of (z0 _ _ rw2.e)), ?_⟩
      rw [lm]
      refine ⟨_, rfl, by omega, by omega, ?_⟩
      refine for_range (lo := 0) (n := ((ns.length : Int)).toNat) (fun j σ H' => ∃ (L : Addr) (xs : List V) (y6 : Option V), σ = [some (.ref sc), some (.ref a), some (.int ((0 : Int) + i)), some (.ref R), some (.int st), some (.ref L), y6, y7, y8, y9, y10, y11, none] ∧ H' L = some (.lst xs) ∧ Obs rcO H' xs (rcl st ns j) ∧ Same H2 H') ⟨L0, [], _, rfl, upd_same, .nil, z0⟩ ?_ ?_
      · rintro j σ H3 hj ⟨L, xs, y6, rfl, eL, oL, s3⟩
        obtain ⟨x, hx, mx, ex⟩ := at_ints (ns := ns) (d := 0 + (j : Int)) (by omega) (by omega)
        rw [show (0 + (j : Int)).toNat = j by omega] at ex
        refine ⟨_, rfl, _, rfl, _, rfl, _, _, rfl, rfl, _, rfl, _, rfl, R, _, _, _, rfl, rfl, SqL.of (s3 _ _ rw2.e), hx, ?_⟩
        refine ⟨_, _, rfl, fun L2 r1 r2 H4 s4 eL2 e1 e2 => ?_⟩
        have ll := oL.len
        rw [rcl_len] at ll
        refine ⟨L, L2, _, _, rfl, rfl, s4 _ _ eL, eL2, len10 (by rw [ll]; show 2 * j + 2 ≤ 1000; omega), fun p np => ?_⟩
        have zp := sm_upd (o := .lst (xs ++ [.ref r1, .ref r2])) np
        refine ⟨p, _, _, rfl, upd_same, ?_, (s3.trans s4).trans zp⟩
        rw [rcl_snoc st ns j ex]
        refine Obs.app ((oL.same s4).same zp) ?_
        rw [Int.zero_add] at e1 e2
        exact .cons (zp _ _ e1) (.cons (zp _ _ e2) .nil)
      · rintro σ H3 ⟨L, xs, y6, rfl, eL, oL, s3⟩
        rw [Int.toNat_natCast] at oL
        have rw3 := rw2.fr (Fr.same s3)
        have hP3 := hP2.same s3
        have bD : RcB 400 (rcl st ns ns.length) := rcl_bd (bst.mono (by decide : 100 ≤ 399)) rw2.b l2 (by decide)
        have hrc := rcl_rcs st ns
        have dl : (rcl st ns ns.length).length ≤ 200 := by
          rw [rcl_len]
          omega
        generalize rcl st ns ns.length = ds at oL bD hrc dl
        refine ⟨_, rfl, R, ns, rfl, rw3.e, l1, by omega, fun v H4 s4 hv => ?_⟩
        refine ⟨rfl, _, rfl, L, xs, ds, 400, rfl, s4 _ _ eL, oL.same s4, dl, bD, by decide, by decide, fun H5 u lo up s5 hlo hup _ _ rv => ⟨rfl, rfl, _, rfl, ?_⟩⟩
        have ev := ev_cf hrc hlo hup
        have key : decide (v = V.non) = !decide (u = V.non) := by
          rcases hv with ⟨rfl, h⟩ | ⟨⟨r, rfl⟩, h⟩
          · rcases rv_dec hlo hup rv with ⟨_, c⟩ | ⟨⟨r, rfl⟩, c⟩
            · exact absurd c (ev.mp h)
            · rfl
          · rcases rv_dec hlo hup rv with ⟨rfl, c⟩ | ⟨_, c⟩
            · rfl
            · exact absurd (ev.mpr c) h
        rw [key]
        refine iteNS (by simp) ?_
        have hP5 := (hP3.same s4).same s5
        clear key ev rv hv hlo hup oL eL s3 s4 s5 hrc bD dl rw3 hP3 rw2 hP2
        -- counts of one rule
        refine ⟨_, rfl, a, _, 30, rfl, hP5, by omega, by decide, by decide, fun r p q c H6 Rr er hP6 f6 => ?_⟩
        rw [t30] at hP6 Rr
        have Rr : RuleB 102 p q c := Rr
        refine ⟨_, rfl, a, _, _, rfl, hP6, by omega, by decide, Bd.small 20 (by decide) (by decide), fun d H7 d0 d1 hP7 f7 => ?_⟩
        refine ⟨_, _, rfl, rfl, len10 (by simp), fun T nT => ?_⟩
        have zT := sm_upd (o := .tup [.ref r, .int (1 + d)]) nT
        refine ⟨T, _, rfl, SqT.of upd_same, rfl, _, _, rfl, _, _, rfl, rfl, ?_⟩
        have er := zT _ _ (f7.t _ _ er)
        have hP8 := hP7.same zT
        generalize upd H7 T (.tup [.ref r, .int (1 + d)]) = H8 at er hP8 ⊢
        clear zT nT f7 f6 hP7 hP6 hP5
        refine ⟨_, rfl, _, rfl, by omega, by omega, fun G nG => ?_⟩
        refine lc_range (lo := 0) (n := (1 + d).toNat) (fun j H' => Same H8 H' ∧ ∃ ms, H' G = some (.lst (ms.map V.int)) ∧ ms.length = j ∧ ∀ (k : Nat) (x : Int), ms[k]? = some x → x = (p * (st + (k : Int)) + c) / q) ⟨sm_upd nG, [], upd_same, rfl, fun k x z => by cases z⟩ ?_ ?_
        · rintro j H' hj ⟨s1, ms, eL, lms, hm⟩
          have bj : Bd 103 (st + (0 + (j : Int))) := Bd.add (bst.mono (by decide : 100 ≤ 102)) (Bd.small 20 (by omega) (by decide))
          refine ⟨rfl, _, rfl, _, rfl, _, rfl, _, _, rfl, rfl, r, p, q, c, _, 103, rfl, s1 _ _ er, Rr.mono (by decide), bj, by decide, by decide, fun H'' s2 => ?_⟩
          refine ⟨_, s2 _ _ eL, ?_, ?_, ms ++ [(p * (st + (j : Int)) + c) / q], ?_, ?_, fun k x hk => ?_⟩
          · rw [List.length_map, lms]
            exact small1000 (by omega)
          · intro b' o eb
            rw [upd_ne (ne_of_none eb nG)]
            exact s2 _ _ (s1 _ _ eb)
          · rw [upd_same, List.map_append, Int.zero_add]
            rfl
          · rw [List.length_append, lms]
            rfl
          · rcases Nat.lt_or_ge k ms.length with lt | ge
            · rw [List.getElem?_append_left lt] at hk
              exact hm k x hk
            · rw [List.getElem?_append_right ge] at hk
              have hk0 : k - ms.length = 0 := by
                rcases Nat.eq_zero_or_pos (k - ms.length) with z | z
                · exact z
                · rw [List.getElem?_eq_none (by simp; omega)] at hk
                  cases hk
              rw [hk0] at hk
              cases hk
              rw [show k = j by omega]
        rintro H9 ⟨s9, ms, eG, lms, hm⟩
        have hP9 := hP8.same s9
        have d1 : d < 30 := d1
        refine ⟨_, rfl, _, rfl, a, _, _, rfl, hP9, by omega, by omega, Bd.small 20 (by omega) (by decide), fun lw H10 w0 w1 hP10 f10 => ?_⟩
        refine ⟨_, rfl, a, _, 30, rfl, hP10, by omega, by decide, by decide, fun hg H11 bh hP11 f11 => ?_⟩
        rw [t30] at hP11 bh
        refine ⟨len10 (by simp), fun T nT => ?_⟩
        have zT := sm_upd (o := .tup [.int lw, .int hg]) nT
        refine ⟨T, _, rfl, SqT.of upd_same, rfl, _, _, rfl, _, _, rfl, rfl, ?_⟩
        have eG := zT _ _ (f11.l _ _ (f10.l _ _ eG))
        have hP12 := hP11.same zT
        generalize upd H11 T (.tup [.int lw, .int hg]) = H12 at eG hP12 ⊢
        clear zT nT f10 f11 hP10 hP11 hP9 hP8 s9 er
        have hm0 : ∀ (k : Nat) (x : Int), ms[k]? = some x → x = (p * (st + (k : Int)) + c) / q + 0 := fun k x hk => by
          rw [Int.add_zero]
          exact hm k x hk
        refine ⟨_, rfl, G, ms, rfl, eG, by omega, by omega, fun v H13 s13 hv => ?_⟩
        have ev : v = .non := by
          rcases hv with ⟨h, _⟩ | ⟨_, h⟩
          · exact h
          · exact absurd (ev_rule Rr.p0 Rr.q1 hm0) h
        subst ev
        refine ⟨rfl, _, rfl, iteF ?_⟩
        have eG := s13 _ _ eG
        refine ⟨_, rfl, _, rfl, _, rfl, G, _, rfl, SqL.of eG, fun p1 n1 => ?_⟩
        rw [cut_drop _ _ w0, ← List.map_drop]
        have z1 := sm_upd (o := .lst ((ms.drop lw.toNat).map V.int)) n1
        have hmd : ∀ (k : Nat) (x : Int), (ms.drop lw.toNat)[k]? = some x → x = (p * ((st + (lw.toNat : Int)) + (k : Int)) + c) / q + 0 := fun k x hk => by
          rw [List.getElem?_drop] at hk
          have := hm _ x hk
          rw [this, Int.add_zero, show st + ((lw.toNat + k : Nat) : Int) = (st + (lw.toNat : Int)) + (k : Int) by omega]
        refine ⟨p1, _, rfl, upd_same, by rw [List.length_drop]; omega, by rw [List.length_drop]; omega, fun v H14 s14 hv => ?_⟩
        have ev : v = .non := by
          rcases hv with ⟨h, _⟩ | ⟨_, h⟩
          · exact h
          · exact absurd (ev_rule Rr.p0 Rr.q1 hmd) h
        subst ev
        refine ⟨rfl, _, rfl, iteF ?_⟩
        have eG := s14 _ _ (z1 _ _ eG)
        have hP14 := ((hP12.same s13).same z1).same s14
        clear s13 z1 s14 n1 hP12
        refine ⟨_, rfl, _, rfl, _, rfl, _, _, rfl, rfl, _, rfl, G, _, rfl, SqL.of eG, fun p2 n2 => ?_⟩
        rw [cut_take _ _ (show 0 ≤ 1 + d - lw by omega), ← List.map_take]
        have z2 := sm_upd (o := .lst ((ms.take (1 + d - lw).toNat).map V.int)) n2
        have e2 := upd_same (H := H14) (a := p2) (o := .lst ((ms.take (1 + d - lw).toNat).map V.int))
        generalize upd H14 p2 (.lst ((ms.take (1 + d - lw).toNat).map V.int)) = H15 at z2 e2 ⊢
        have lt : (ms.take (1 + d - lw).toNat).length = (1 + d - lw).toNat := by
          rw [List.length_take]
          omega
        have hmt : ∀ (k : Nat) (x : Int), (ms.take (1 + d - lw).toNat)[k]? = some x → x = (p * (st + (k : Int)) + c) / q := fun k x hk => by
          have hk' := (List.getElem?_eq_some_iff.mp hk).1
          rw [lt] at hk'
          rw [List.getElem?_take, if_pos hk'] at hk
          exact hm k x hk
        have hl0 : 1 ≤ (1 + d - lw).toNat := by omega
        have hl1 : (1 + d - lw).toNat ≤ 30 := by omega
        generalize ms.take (1 + d - lw).toNat = us at e2 lt hmt ⊢
        refine ⟨p2, rfl, ⟨_, SqL.of e2⟩, fun Y nY => ?_⟩
        refine lc_it (walk_list (K := K) (a := p2) (xs := us.map V.int)) (fun j H' => Same H15 H' ∧ ∃ ms, H' Y = some (.lst (ms.map V.int)) ∧ ms.length = j ∧ ∀ (k : Nat) (x : Int), ms[k]? = some x → x = (p * (st + (k : Int)) + c) / q + hg) ⟨sm_upd nY, [], upd_same, rfl, fun k x z => by cases z⟩ ?_ ?_ ?_
        · rintro j H' _ ⟨s', _⟩
          exact SqL.of (s' _ _ e2)
        · rintro j x H' _ hj ⟨s', ms, eY, lms, hm⟩ ⟨rfl, hx⟩
          rw [List.length_map] at hj
          have hu : us[j]? = some us[j] := List.getElem?_eq_getElem hj
          have hx' : x = .int us[j] := by
            rw [List.getElem?_map, hu] at hx
            exact (Option.some.inj hx).symm
          subst hx'
          refine ⟨rfl, _, rfl, _, rfl, _, _, rfl, rfl, _, eY, ?_, ?_, ms ++ [us[j] + hg], ?_, ?_, fun k x hk => ?_⟩
          · rw [List.length_map, lms]
            exact small1000 (by omega)
          · intro b' o eb
            rw [upd_ne (ne_of_none eb nY)]
            exact s' _ _ eb
          · rw [upd_same, List.map_append]
            rfl
          · rw [List.length_append, lms]
            rfl
          · rcases Nat.lt_or_ge k ms.length with lt | ge
            · rw [List.getElem?_append_left lt] at hk
              exact hm k x hk
            · rw [List.getElem?_append_right ge] at hk
              have hk0 : k - ms.length = 0 := by
                rcases Nat.eq_zero_or_pos (k - ms.length) with z | z
                · exact z
                · rw [List.getElem?_eq_none (by simp; omega)] at hk
                  cases hk
              rw [hk0] at hk
              cases hk
              rw [show k = j by omega, hmt j _ hu]
        rintro H16 ⟨s16, vs, eY, lvs, hv⟩
        rw [List.length_map, lt] at lvs
        refine ⟨Y, vs, rfl, eY, by omega, by omega, fun v H17 s17 hv2 => ?_⟩
        have ev : v = .non := by
          rcases hv2 with ⟨h, _⟩ | ⟨_, h⟩
          · exact h
          · exact absurd (ev_rule Rr.p0 Rr.q1 hv) h
        subst ev
        refine ⟨rfl, _, rfl, iteF ?_⟩
        exact ⟨_, _, _, _, _, _, _, _, _, _, rfl, (((hP14.same z2).same s16).same s17).mono (by omega)⟩
    · rintro σ H1 _
      exact kk _
end
/-! ### what the top has written -/
theorem all_mk {l : PySem.W.OpenLaw} {w : World} {K : PySem.W.Frag} {h : Heap} {mg : Str → Option Value} {fa : Addr} (X : K.In h) (G : h.Ns mainGlobals mg) (hfa : mg "law" = some (.ref fa))
    {f0 f1 f2 f3 f4 f5 f6 f7 f8 f9 f10 f11 f12 f13 f14 f15 f16 f17 f18 f19 f20 f21 f22 f23 f24 f25 f26 f27 f28 f29 f30 f31 : Addr} {od0 an0 od1 an1 od2 an2 od3 an3 od4 an4 od5 an5 od6 an6 od7 an7 od8 an8 od9 an9 od10 an10 od11 an11 od12 an12 od13 an13 od14 an14 od15 an15 od16 an16 od17 an17 od18 an18 od19 an19 od20 an20 od21 an21 od22 an22 od23 an23 od24 an24 od25 an25 od26 an26 od27 an27 od28 an28 od29 an29 od30 an30 od31 an31 : Option Addr} {sl0 sl1 sl2 sl3 sl4 sl5 sl6 sl7 sl8 sl9 sl10 sl11 sl12 sl13 sl14 sl15 sl16 sl17 sl18 sl19 sl20 sl21 sl22 sl23 sl24 sl25 sl26 sl27 sl28 sl29 sl30 sl31 : Array (Option Value)} {oc0 kV0 dc0 pm0 cd0 ct0 oc1 kV1 dc1 pm1 cd1 ct1 oc2 kV2 dc2 pm2 cd2 ct2 oc3 kV3 dc3 pm3 cd3 ct3 oc4 kV4 dc4 pm4 cd4 ct4 oc5 kV5 dc5 pm5 cd5 ct5 oc6 kV6 dc6 pm6 cd6 ct6 oc7 kV7 dc7 pm7 cd7 ct7 oc8 kV8 dc8 pm8 cd8 ct8 oc9 kV9 dc9 pm9 cd9 ct9 oc10 kV10 dc10 pm10 cd10 ct10 oc11 kV11 dc11 pm11 cd11 ct11 oc12 kV12 dc12 pm12 cd12 ct12 oc13 kV13 dc13 pm13 cd13 ct13 oc14 kV14 dc14 pm14 cd14 ct14 oc15 kV15 dc15 pm15 cd15 ct15 oc16 kV16 dc16 pm16 cd16 ct16 oc17 kV17 dc17 pm17 cd17 ct17 oc18 kV18 dc18 pm18 cd18 ct18 oc19 kV19 dc19 pm19 cd19 ct19 oc20 kV20 dc20 pm20 cd20 ct20 oc21 kV21 dc21 pm21 cd21 ct21 oc22 kV22 dc22 pm22 cd22 ct22 oc23 kV23 dc23 pm23 cd23 ct23 oc24 kV24 dc24 pm24 cd24 ct24 oc25 kV25 dc25 pm25 cd25 ct25 oc26 kV26 dc26 pm26 cd26 ct26 oc27 kV27 dc27 pm27 cd27 ct27 oc28 kV28 dc28 pm28 cd28 ct28 oc29 kV29 dc29 pm29 cd29 ct29 oc30 kV30 dc30 pm30 cd30 ct30 oc31 kV31 dc31 pm31 cd31 ct31 : Value}
    (a0 : PySem.W.nsIn K mainGlobals "_law_pen" = some (some (.ref f0))) (l0 : K.lookup f0 = some ⟨oc0, od0, .func (PySem.W.fnOf "_law_pen" "_law_pen" (defArgs s_l_pen) (defBody s_l_pen) (defScope s_l_pen) .none kV0 dc0 pm0 an0 cd0 ct0), sl0⟩) (c0 : PySem.W.codeIn K cd0 "_law_pen" = true) (k0 : PySem.W.keepIn K (.ref f0) = true)
    (a1 : PySem.W.nsIn K mainGlobals "_law_draw" = some (some (.ref f1))) (l1 : K.lookup f1 = some ⟨oc1, od1, .func (PySem.W.fnOf "_law_draw" "_law_draw" (defArgs s_l_draw) (defBody s_l_draw) (defScope s_l_draw) .none kV1 dc1 pm1 an1 cd1 ct1), sl1⟩) (c1 : PySem.W.codeIn K cd1 "_law_draw" = true) (k1 : PySem.W.keepIn K (.ref f1) = true)
    (a2 : PySem.W.nsIn K mainGlobals "_law_pick" = some (some (.ref f2))) (l2 : K.lookup f2 = some ⟨oc2, od2, .func (PySem.W.fnOf "_law_pick" "_law_pick" (defArgs s_l_pick) (defBody s_l_pick) (defScope s_l_pick) .none kV2 dc2 pm2 an2 cd2 ct2), sl2⟩) (c2 : PySem.W.codeIn K cd2 "_law_pick" = true) (k2 : PySem.W.keepIn K (.ref f2) = true)
    (a3 : PySem.W.nsIn K mainGlobals "_law_great" = some (some (.ref f3))) (l3 : K.lookup f3 = some ⟨oc3, od3, .func (PySem.W.fnOf "_law_great" "_law_great" (defArgs s_l_great) (defBody s_l_great) (defScope s_l_great) .none kV3 dc3 pm3 an3 cd3 ct3), sl3⟩) (c3 : PySem.W.codeIn K cd3 "_law_great" = true) (k3 : PySem.W.keepIn K (.ref f3) = true)
    (a4 : PySem.W.nsIn K mainGlobals "_law_signed" = some (some (.ref f4))) (l4 : K.lookup f4 = some ⟨oc4, od4, .func (PySem.W.fnOf "_law_signed" "_law_signed" (defArgs s_l_signed) (defBody s_l_signed) (defScope s_l_signed) .none kV4 dc4 pm4 an4 cd4 ct4), sl4⟩) (c4 : PySem.W.codeIn K cd4 "_law_signed" = true) (k4 : PySem.W.keepIn K (.ref f4) = true)
    (a5 : PySem.W.nsIn K mainGlobals "_law_gcd" = some (some (.ref f5))) (l5 : K.lookup f5 = some ⟨oc5, od5, .func (PySem.W.fnOf "_law_gcd" "_law_gcd" (defArgs s_l_gcd) (defBody s_l_gcd) (defScope s_l_gcd) .none kV5 dc5 pm5 an5 cd5 ct5), sl5⟩) (c5 : PySem.W.codeIn K cd5 "_law_gcd" = true) (k5 : PySem.W.keepIn K (.ref f5) = true)
    (a6 : PySem.W.nsIn K mainGlobals "_law_lowest" = some (some (.ref f6))) (l6 : K.lookup f6 = some ⟨oc6, od6, .func (PySem.W.fnOf "_law_lowest" "_law_lowest" (defArgs s_l_lowest) (defBody s_l_lowest) (defScope s_l_lowest) .none kV6 dc6 pm6 an6 cd6 ct6), sl6⟩) (c6 : PySem.W.codeIn K cd6 "_law_lowest" = true) (k6 : PySem.W.keepIn K (.ref f6) = true)
    (a7 : PySem.W.nsIn K mainGlobals "_law_rule" = some (some (.ref f7))) (l7 : K.lookup f7 = some ⟨oc7, od7, .func (PySem.W.fnOf "_law_rule" "_law_rule" (defArgs s_l_rule) (defBody s_l_rule) (defScope s_l_rule) .none kV7 dc7 pm7 an7 cd7 ct7), sl7⟩) (c7 : PySem.W.codeIn K cd7 "_law_rule" = true) (k7 : PySem.W.keepIn K (.ref f7) = true)
    (a8 : PySem.W.nsIn K mainGlobals "_law_far_rule" = some (some (.ref f8))) (l8 : K.lookup f8 = some ⟨oc8, od8, .func (PySem.W.fnOf "_law_far_rule" "_law_far_rule" (defArgs s_l_far_rule) (defBody s_l_far_rule) (defScope s_l_far_rule) .none kV8 dc8 pm8 an8 cd8 ct8), sl8⟩) (c8 : PySem.W.codeIn K cd8 "_law_far_rule" = true) (k8 : PySem.W.keepIn K (.ref f8) = true)
    (a9 : PySem.W.nsIn K mainGlobals "is_integer" = some (some (.ref f9))) (l9 : K.lookup f9 = some ⟨oc9, od9, .func (PySem.W.fnOf "is_integer" "is_integer" (defArgs s_is_integer) (defBody s_is_integer) (defScope s_is_integer) .none kV9 dc9 pm9 an9 cd9 ct9), sl9⟩) (c9 : PySem.W.codeIn K cd9 "is_integer" = true) (k9 : PySem.W.keepIn K (.ref f9) = true)
    (a10 : PySem.W.nsIn K mainGlobals "check_integer" = some (some (.ref f10))) (l10 : K.lookup f10 = some ⟨oc10, od10, .func (PySem.W.fnOf "check_integer" "check_integer" (defArgs s_check_integer) (defBody s_check_integer) (defScope s_check_integer) .none kV10 dc10 pm10 an10 cd10 ct10), sl10⟩) (c10 : PySem.W.codeIn K cd10 "check_integer" = true) (k10 : PySem.W.keepIn K (.ref f10) = true)
    (a11 : PySem.W.nsIn K mainGlobals "gcd" = some (some (.ref f11))) (l11 : K.lookup f11 = some ⟨oc11, od11, .func (PySem.W.fnOf "gcd" "gcd" (defArgs s_gcd) (defBody s_gcd) (defScope s_gcd) .none kV11 dc11 pm11 an11 cd11 ct11), sl11⟩) (c11 : PySem.W.codeIn K cd11 "gcd" = true) (k11 : PySem.W.keepIn K (.ref f11) = true)
    (a12 : PySem.W.nsIn K mainGlobals "is_rule" = some (some (.ref f12))) (l12 : K.lookup f12 = some ⟨oc12, od12, .func (PySem.W.fnOf "is_rule" "is_rule" (defArgs s_is_rule) (defBody s_is_rule) (defScope s_is_rule) .none kV12 dc12 pm12 an12 cd12 ct12), sl12⟩) (c12 : PySem.W.codeIn K cd12 "is_rule" = true) (k12 : PySem.W.keepIn K (.ref f12) = true)
    (a13 : PySem.W.nsIn K mainGlobals "check_rule" = some (some (.ref f13))) (l13 : K.lookup f13 = some ⟨oc13, od13, .func (PySem.W.fnOf "check_rule" "check_rule" (defArgs s_check_rule) (defBody s_check_rule) (defScope s_check_rule) .none kV13 dc13 pm13 an13 cd13 ct13), sl13⟩) (c13 : PySem.W.codeIn K cd13 "check_rule" = true) (k13 : PySem.W.keepIn K (.ref f13) = true)
    (a14 : PySem.W.nsIn K mainGlobals "count" = some (some (.ref f14))) (l14 : K.lookup f14 = some ⟨oc14, od14, .func (PySem.W.fnOf "count" "count" (defArgs s_count) (defBody s_count) (defScope s_count) .none kV14 dc14 pm14 an14 cd14 ct14), sl14⟩) (c14 : PySem.W.codeIn K cd14 "count" = true) (k14 : PySem.W.keepIn K (.ref f14) = true)
    (a15 : PySem.W.nsIn K mainGlobals "_law_tally" = some (some (.ref f15))) (l15 : K.lookup f15 = some ⟨oc15, od15, .func (PySem.W.fnOf "_law_tally" "_law_tally" (defArgs s_l_tally) (defBody s_l_tally) (defScope s_l_tally) .none kV15 dc15 pm15 an15 cd15 ct15), sl15⟩) (c15 : PySem.W.codeIn K cd15 "_law_tally" = true) (k15 : PySem.W.keepIn K (.ref f15) = true)
    (a16 : PySem.W.nsIn K mainGlobals "is_record" = some (some (.ref f16))) (l16 : K.lookup f16 = some ⟨oc16, od16, .func (PySem.W.fnOf "is_record" "is_record" (defArgs s_is_record) (defBody s_is_record) (defScope s_is_record) .none kV16 dc16 pm16 an16 cd16 ct16), sl16⟩) (c16 : PySem.W.codeIn K cd16 "is_record" = true) (k16 : PySem.W.keepIn K (.ref f16) = true)
    (a17 : PySem.W.nsIn K mainGlobals "check_records" = some (some (.ref f17))) (l17 : K.lookup f17 = some ⟨oc17, od17, .func (PySem.W.fnOf "check_records" "check_records" (defArgs s_check_records) (defBody s_check_records) (defScope s_check_records) .none kV17 dc17 pm17 an17 cd17 ct17), sl17⟩) (c17 : PySem.W.codeIn K cd17 "check_records" = true) (k17 : PySem.W.keepIn K (.ref f17) = true)
    (a18 : PySem.W.nsIn K mainGlobals "split_records" = some (some (.ref f18))) (l18 : K.lookup f18 = some ⟨oc18, od18, .func (PySem.W.fnOf "split_records" "split_records" (defArgs s_split_records) (defBody s_split_records) (defScope s_split_records) .none kV18 dc18 pm18 an18 cd18 ct18), sl18⟩) (c18 : PySem.W.codeIn K cd18 "split_records" = true) (k18 : PySem.W.keepIn K (.ref f18) = true)
    (a19 : PySem.W.nsIn K mainGlobals "tighter_pairs" = some (some (.ref f19))) (l19 : K.lookup f19 = some ⟨oc19, od19, .func (PySem.W.fnOf "tighter_pairs" "tighter_pairs" (defArgs s_tighter_pairs) (defBody s_tighter_pairs) (defScope s_tighter_pairs) .none kV19 dc19 pm19 an19 cd19 ct19), sl19⟩) (c19 : PySem.W.codeIn K cd19 "tighter_pairs" = true) (k19 : PySem.W.keepIn K (.ref f19) = true)
    (a20 : PySem.W.nsIn K mainGlobals "reduce_rate" = some (some (.ref f20))) (l20 : K.lookup f20 = some ⟨oc20, od20, .func (PySem.W.fnOf "reduce_rate" "reduce_rate" (defArgs s_reduce_rate) (defBody s_reduce_rate) (defScope s_reduce_rate) .none kV20 dc20 pm20 an20 cd20 ct20), sl20⟩) (c20 : PySem.W.codeIn K cd20 "reduce_rate" = true) (k20 : PySem.W.keepIn K (.ref f20) = true)
    (a21 : PySem.W.nsIn K mainGlobals "tight_pairs" = some (some (.ref f21))) (l21 : K.lookup f21 = some ⟨oc21, od21, .func (PySem.W.fnOf "tight_pairs" "tight_pairs" (defArgs s_tight_pairs) (defBody s_tight_pairs) (defScope s_tight_pairs) .none kV21 dc21 pm21 an21 cd21 ct21), sl21⟩) (c21 : PySem.W.codeIn K cd21 "tight_pairs" = true) (k21 : PySem.W.keepIn K (.ref f21) = true)
    (a22 : PySem.W.nsIn K mainGlobals "leave_no_rate" = some (some (.ref f22))) (l22 : K.lookup f22 = some ⟨oc22, od22, .func (PySem.W.fnOf "leave_no_rate" "leave_no_rate" (defArgs s_leave_no_rate) (defBody s_leave_no_rate) (defScope s_leave_no_rate) .none kV22 dc22 pm22 an22 cd22 ct22), sl22⟩) (c22 : PySem.W.codeIn K cd22 "leave_no_rate" = true) (k22 : PySem.W.keepIn K (.ref f22) = true)
    (a23 : PySem.W.nsIn K mainGlobals "rate_ends" = some (some (.ref f23))) (l23 : K.lookup f23 = some ⟨oc23, od23, .func (PySem.W.fnOf "rate_ends" "rate_ends" (defArgs s_rate_ends) (defBody s_rate_ends) (defScope s_rate_ends) .none kV23 dc23 pm23 an23 cd23 ct23), sl23⟩) (c23 : PySem.W.codeIn K cd23 "rate_ends" = true) (k23 : PySem.W.keepIn K (.ref f23) = true)
    (a24 : PySem.W.nsIn K mainGlobals "rates" = some (some (.ref f24))) (l24 : K.lookup f24 = some ⟨oc24, od24, .func (PySem.W.fnOf "rates" "rates" (defArgs s_rates) (defBody s_rates) (defScope s_rates) .none kV24 dc24 pm24 an24 cd24 ct24), sl24⟩) (c24 : PySem.W.codeIn K cd24 "rates" = true) (k24 : PySem.W.keepIn K (.ref f24) = true)
    (a25 : PySem.W.nsIn K mainGlobals "is_counts" = some (some (.ref f25))) (l25 : K.lookup f25 = some ⟨oc25, od25, .func (PySem.W.fnOf "is_counts" "is_counts" (defArgs s_is_counts) (defBody s_is_counts) (defScope s_is_counts) .none kV25 dc25 pm25 an25 cd25 ct25), sl25⟩) (c25 : PySem.W.codeIn K cd25 "is_counts" = true) (k25 : PySem.W.keepIn K (.ref f25) = true)
    (a26 : PySem.W.nsIn K mainGlobals "uneven" = some (some (.ref f26))) (l26 : K.lookup f26 = some ⟨oc26, od26, .func (PySem.W.fnOf "uneven" "uneven" (defArgs s_uneven) (defBody s_uneven) (defScope s_uneven) .none kV26 dc26 pm26 an26 cd26 ct26), sl26⟩) (c26 : PySem.W.codeIn K cd26 "uneven" = true) (k26 : PySem.W.keepIn K (.ref f26) = true)
    (a27 : PySem.W.nsIn K mainGlobals "count_records" = some (some (.ref f27))) (l27 : K.lookup f27 = some ⟨oc27, od27, .func (PySem.W.fnOf "count_records" "count_records" (defArgs s_count_records) (defBody s_count_records) (defScope s_count_records) .none kV27 dc27 pm27 an27 cd27 ct27), sl27⟩) (c27 : PySem.W.codeIn K cd27 "count_records" = true) (k27 : PySem.W.keepIn K (.ref f27) = true)
    (a28 : PySem.W.nsIn K mainGlobals "_law_pattern" = some (some (.ref f28))) (l28 : K.lookup f28 = some ⟨oc28, od28, .func (PySem.W.fnOf "_law_pattern" "_law_pattern" (defArgs s_l_pattern) (defBody s_l_pattern) (defScope s_l_pattern) .none kV28 dc28 pm28 an28 cd28 ct28), sl28⟩) (c28 : PySem.W.codeIn K cd28 "_law_pattern" = true) (k28 : PySem.W.keepIn K (.ref f28) = true)
    (a29 : PySem.W.nsIn K mainGlobals "_law_long_row" = some (some (.ref f29))) (l29 : K.lookup f29 = some ⟨oc29, od29, .func (PySem.W.fnOf "_law_long_row" "_law_long_row" (defArgs s_l_long_row) (defBody s_l_long_row) (defScope s_l_long_row) .none kV29 dc29 pm29 an29 cd29 ct29), sl29⟩) (c29 : PySem.W.codeIn K cd29 "_law_long_row" = true) (k29 : PySem.W.keepIn K (.ref f29) = true)
    (a30 : PySem.W.nsIn K mainGlobals "_law_row" = some (some (.ref f30))) (l30 : K.lookup f30 = some ⟨oc30, od30, .func (PySem.W.fnOf "_law_row" "_law_row" (defArgs s_l_row) (defBody s_l_row) (defScope s_l_row) .none kV30 dc30 pm30 an30 cd30 ct30), sl30⟩) (c30 : PySem.W.codeIn K cd30 "_law_row" = true) (k30 : PySem.W.keepIn K (.ref f30) = true)
    (a31 : PySem.W.nsIn K mainGlobals "law" = some (some (.ref f31))) (l31 : K.lookup f31 = some ⟨oc31, od31, .func (PySem.W.fnOf "law" "law" (defArgs s_law) (defBody s_law) (defScope s_law) .none kV31 dc31 pm31 an31 cd31 ct31), sl31⟩) (c31 : PySem.W.codeIn K cd31 "law" = true) (k31 : PySem.W.keepIn K (.ref f31) = true)
    (z0 : PySem.W.nsIn K mainGlobals "len" = some none) (z1 : PySem.W.nsIn K mainGlobals "abs" = some none) (z2 : PySem.W.nsIn K mainGlobals "list" = some none) (z3 : PySem.W.nsIn K mainGlobals "range" = some none) (z4 : PySem.W.nsIn K mainGlobals "sum" = some none) (z5 : PySem.W.nsIn K mainGlobals "repr" = some none) (z6 : PySem.W.nsIn K mainGlobals "max" = some none) (z7 : PySem.W.nsIn K mainGlobals "min" = some none) (z8 : PySem.W.nsIn K mainGlobals "reversed" = some none) (z9 : PySem.W.nsIn K mainGlobals "divmod" = some none) (z10 : PySem.W.nsIn K mainGlobals "isinstance" = some none) (z11 : PySem.W.nsIn K mainGlobals "all" = some none) (z12 : PySem.W.nsIn K mainGlobals "int" = some none) (z13 : PySem.W.nsIn K mainGlobals "bool" = some none) (z14 : PySem.W.nsIn K mainGlobals "tuple" = some none) (z15 : PySem.W.nsIn K mainGlobals "sorted" = some none) (z16 : PySem.W.nsIn K mainGlobals "zip" = some none) (z17 : PySem.W.nsIn K mainGlobals "enumerate" = some none) (z18 : PySem.W.nsIn K mainGlobals "set" = some none) (z19 : PySem.W.nsIn K mainGlobals "str" = some none)
    {tM tN : Tok} (xM : PySem.W.nsIn K mainGlobals "MOST_RECORDS" = some (some (.int 200 tM))) (xN : PySem.W.nsIn K mainGlobals "MOST_ITEMS" = some (some (.int 200 tN))) :
    ∃ fd : FuncData, (∀ (s : Shared) (v : Value), BindsTo s fd ⟨[v], []⟩ [("_law_script", v)]) ∧ ∀ base : Heap, K.In base → base.Ns mainGlobals mg → FnOk l.prog w K mg base CX0 6 fa fd ["_law_script"] (spLaw K) := by
  have e := hfa.symm.trans (PySem.W.mg_of X G a31)
  cases e
  have B : Bi mg := ⟨PySem.W.mg_none_of X G z0, PySem.W.mg_none_of X G z1, PySem.W.mg_none_of X G z2, PySem.W.mg_none_of X G z3, PySem.W.mg_none_of X G z4, PySem.W.mg_none_of X G z5, PySem.W.mg_none_of X G z6, PySem.W.mg_none_of X G z7, PySem.W.mg_none_of X G z8, PySem.W.mg_none_of X G z9, PySem.W.mg_none_of X G z10, PySem.W.mg_none_of X G z11, PySem.W.mg_none_of X G z12, PySem.W.mg_none_of X G z13, PySem.W.mg_none_of X G z14, PySem.W.mg_none_of X G z15, PySem.W.mg_none_of X G z16, PySem.W.mg_none_of X G z17, PySem.W.mg_none_of X G z18, PySem.W.mg_none_of X G z19⟩
  have U : Bc mg := ⟨⟨tM, PySem.W.mg_of X G xM⟩⟩
  have UE : Be mg := ⟨⟨tN, PySem.W.mg_of X G xN⟩⟩
  have F0 := fun_mk (st := s_l_pen) l0 c0 k0
  have D_l_pen : Df K mg "_law_pen" s_l_pen P_l_pen := ⟨f0, _, F0, PySem.W.mg_of X G a0, F0.binds fun _ _ _ _ _ _ us hl => match us, hl with | [_], _ => rfl⟩
  have F1 := fun_mk (st := s_l_draw) l1 c1 k1
  have D_l_draw : Df K mg "_law_draw" s_l_draw P_l_draw := ⟨f1, _, F1, PySem.W.mg_of X G a1, F1.binds fun _ _ _ _ _ _ us hl => match us, hl with | [_, _], _ => rfl⟩
  have F2 := fun_mk (st := s_l_pick) l2 c2 k2
  have D_l_pick : Df K mg "_law_pick" s_l_pick P_l_pick := ⟨f2, _, F2, PySem.W.mg_of X G a2, F2.binds fun _ _ _ _ _ _ us hl => match us, hl with | [_, _], _ => rfl⟩
  have F3 := fun_mk (st := s_l_great) l3 c3 k3
  have D_l_great : Df K mg "_law_great" s_l_great P_l_great := ⟨f3, _, F3, PySem.W.mg_of X G a3, F3.binds fun _ _ _ _ _ _ us hl => match us, hl with | [_, _], _ => rfl⟩
  have F4 := fun_mk (st := s_l_signed) l4 c4 k4
  have D_l_signed : Df K mg "_law_signed" s_l_signed P_l_signed := ⟨f4, _, F4, PySem.W.mg_of X G a4, F4.binds fun _ _ _ _ _ _ us hl => match us, hl with | [_, _], _ => rfl⟩
  have F5 := fun_mk (st := s_l_gcd) l5 c5 k5
  have D_l_gcd : Df K mg "_law_gcd" s_l_gcd P_l_gcd := ⟨f5, _, F5, PySem.W.mg_of X G a5, F5.binds fun _ _ _ _ _ _ us hl => match us, hl with | [_, _], _ => rfl⟩
  have F6 := fun_mk (st := s_l_lowest) l6 c6 k6
  have D_l_lowest : Df K mg "_law_lowest" s_l_lowest P_l_lowest := ⟨f6, _, F6, PySem.W.mg_of X G a6, F6.binds fun _ _ _ _ _ _ us hl => match us, hl with | [_, _, _], _ => rfl⟩
  have F7 := fun_mk (st := s_l_rule) l7 c7 k7
  have D_l_rule : Df K mg "_law_rule" s_l_rule P_l_rule := ⟨f7, _, F7, PySem.W.mg_of X G a7, F7.binds fun _ _ _ _ _ _ us hl => match us, hl with | [_, _], _ => rfl⟩
  have F8 := fun_mk (st := s_l_far_rule) l8 c8 k8
  have D_l_far_rule : Df K mg "_law_far_rule" s_l_far_rule P_l_far_rule := ⟨f8, _, F8, PySem.W.mg_of X G a8, F8.binds fun _ _ _ _ _ _ us hl => match us, hl with | [_, _], _ => rfl⟩
  have F9 := fun_mk (st := s_is_integer) l9 c9 k9
  have D_is_integer : Df K mg "is_integer" s_is_integer P_is_integer := ⟨f9, _, F9, PySem.W.mg_of X G a9, F9.binds fun _ _ _ _ _ _ us hl => match us, hl with | [_], _ => rfl⟩
  have F10 := fun_mk (st := s_check_integer) l10 c10 k10
  have D_check_integer : Df K mg "check_integer" s_check_integer P_check_integer := ⟨f10, _, F10, PySem.W.mg_of X G a10, F10.binds fun _ _ _ _ _ _ us hl => match us, hl with | [_], _ => rfl⟩
  have F11 := fun_mk (st := s_gcd) l11 c11 k11
  have D_gcd : Df K mg "gcd" s_gcd P_gcd := ⟨f11, _, F11, PySem.W.mg_of X G a11, F11.binds fun _ _ _ _ _ _ us hl => match us, hl with | [_, _], _ => rfl⟩
  have F12 := fun_mk (st := s_is_rule) l12 c12 k12
  have D_is_rule : Df K mg "is_rule" s_is_rule P_is_rule := ⟨f12, _, F12, PySem.W.mg_of X G a12, F12.binds fun _ _ _ _ _ _ us hl => match us, hl with | [_], _ => rfl⟩
  have F13 := fun_mk (st := s_check_rule) l13 c13 k13
  have D_check_rule : Df K mg "check_rule" s_check_rule P_check_rule := ⟨f13, _, F13, PySem.W.mg_of X G a13, F13.binds fun _ _ _ _ _ _ us hl => match us, hl with | [_], _ => rfl⟩
  have F14 := fun_mk (st := s_count) l14 c14 k14
  have D_count : Df K mg "count" s_count P_count := ⟨f14, _, F14, PySem.W.mg_of X G a14, F14.binds fun _ _ _ _ _ _ us hl => match us, hl with | [_, _], _ => rfl⟩
  have F15 := fun_mk (st := s_l_tally) l15 c15 k15
  have D_l_tally : Df K mg "_law_tally" s_l_tally P_l_tally := ⟨f15, _, F15, PySem.W.mg_of X G a15, F15.binds fun _ _ _ _ _ _ us hl => match us, hl with | [_, _], _ => rfl⟩
  have F16 := fun_mk (st := s_is_record) l16 c16 k16
  have D_is_record : Df K mg "is_record" s_is_record P_is_record := ⟨f16, _, F16, PySem.W.mg_of X G a16, F16.binds fun _ _ _ _ _ _ us hl => match us, hl with | [_], _ => rfl⟩
  have F17 := fun_mk (st := s_check_records) l17 c17 k17
  have D_check_records : Df K mg "check_records" s_check_records P_check_records := ⟨f17, _, F17, PySem.W.mg_of X G a17, F17.binds fun _ _ _ _ _ _ us hl => match us, hl with | [_], _ => rfl⟩
  have F18 := fun_mk (st := s_split_records) l18 c18 k18
  have D_split_records : Df K mg "split_records" s_split_records P_split_records := ⟨f18, _, F18, PySem.W.mg_of X G a18, F18.binds fun _ _ _ _ _ _ us hl => match us, hl with | [_], _ => rfl⟩
  have F19 := fun_mk (st := s_tighter_pairs) l19 c19 k19
  have D_tighter_pairs : Df K mg "tighter_pairs" s_tighter_pairs P_tighter_pairs := ⟨f19, _, F19, PySem.W.mg_of X G a19, F19.binds fun _ _ _ _ _ _ us hl => match us, hl with | [_, _, _], _ => rfl⟩
  have F20 := fun_mk (st := s_reduce_rate) l20 c20 k20
  have D_reduce_rate : Df K mg "reduce_rate" s_reduce_rate P_reduce_rate := ⟨f20, _, F20, PySem.W.mg_of X G a20, F20.binds fun _ _ _ _ _ _ us hl => match us, hl with | [_, _], _ => rfl⟩
  have F21 := fun_mk (st := s_tight_pairs) l21 c21 k21
  have D_tight_pairs : Df K mg "tight_pairs" s_tight_pairs P_tight_pairs := ⟨f21, _, F21, PySem.W.mg_of X G a21, F21.binds fun _ _ _ _ _ _ us hl => match us, hl with | [_], _ => rfl⟩
  have F22 := fun_mk (st := s_leave_no_rate) l22 c22 k22
  have D_leave_no_rate : Df K mg "leave_no_rate" s_leave_no_rate P_leave_no_rate := ⟨f22, _, F22, PySem.W.mg_of X G a22, F22.binds fun _ _ _ _ _ _ us hl => match us, hl with | [_], _ => rfl⟩
  have F23 := fun_mk (st := s_rate_ends) l23 c23 k23
  have D_rate_ends : Df K mg "rate_ends" s_rate_ends P_rate_ends := ⟨f23, _, F23, PySem.W.mg_of X G a23, F23.binds fun _ _ _ _ _ _ us hl => match us, hl with | [_], _ => rfl⟩
  have F24 := fun_mk (st := s_rates) l24 c24 k24
  have D_rates : Df K mg "rates" s_rates P_rates := ⟨f24, _, F24, PySem.W.mg_of X G a24, F24.binds fun _ _ _ _ _ _ us hl => match us, hl with | [_], _ => rfl⟩
  have F25 := fun_mk (st := s_is_counts) l25 c25 k25
  have D_is_counts : Df K mg "is_counts" s_is_counts P_is_counts := ⟨f25, _, F25, PySem.W.mg_of X G a25, F25.binds fun _ _ _ _ _ _ us hl => match us, hl with | [_], _ => rfl⟩
  have F26 := fun_mk (st := s_uneven) l26 c26 k26
  have D_uneven : Df K mg "uneven" s_uneven P_uneven := ⟨f26, _, F26, PySem.W.mg_of X G a26, F26.binds fun _ _ _ _ _ _ us hl => match us, hl with | [_], _ => rfl⟩
  have F27 := fun_mk (st := s_count_records) l27 c27 k27
  have D_count_records : Df K mg "count_records" s_count_records P_count_records := ⟨f27, _, F27, PySem.W.mg_of X G a27, F27.binds fun _ _ _ _ _ _ us hl => match us, hl with | [_, _], _ => rfl⟩
  have F28 := fun_mk (st := s_l_pattern) l28 c28 k28
  have D_l_pattern : Df K mg "_law_pattern" s_l_pattern P_l_pattern := ⟨f28, _, F28, PySem.W.mg_of X G a28, F28.binds fun _ _ _ _ _ _ us hl => match us, hl with | [_, _, _], _ => rfl⟩
  have F29 := fun_mk (st := s_l_long_row) l29 c29 k29
  have D_l_long_row : Df K mg "_law_long_row" s_l_long_row P_l_long_row := ⟨f29, _, F29, PySem.W.mg_of X G a29, F29.binds fun _ _ _ _ _ _ us hl => match us, hl with | [_, _], _ => rfl⟩
  have F30 := fun_mk (st := s_l_row) l30 c30 k30
  have D_l_row : Df K mg "_law_row" s_l_row P_l_row := ⟨f30, _, F30, PySem.W.mg_of X G a30, F30.binds fun _ _ _ _ _ _ us hl => match us, hl with | [_, _], _ => rfl⟩
  have F31 := fun_mk (st := s_law) l31 c31 k31
  refine ⟨PySem.W.fnOf "law" "law" (defArgs s_law) (defBody s_law) (defScope s_law) .none kV31 dc31 pm31 an31 cd31 ct31, fun s v => .of_eq rfl, fun base _ _ => ?_⟩
  have c_l_pen := ok_l_pen (P := l.prog) (w := w) (base := base) D_l_pen B
  have c_l_draw := ok_l_draw (P := l.prog) (w := w) (base := base) D_l_draw B
  have c_l_pick := ok_l_pick (P := l.prog) (w := w) (base := base) D_l_pick B c_l_draw
  have c_l_great := ok_l_great (P := l.prog) (w := w) (base := base) D_l_great B c_l_draw
  have c_l_signed := ok_l_signed (P := l.prog) (w := w) (base := base) D_l_signed B c_l_draw c_l_pick c_l_great
  have c_l_gcd := ok_l_gcd (P := l.prog) (w := w) (base := base) D_l_gcd
  have c_l_lowest := ok_l_lowest (P := l.prog) (w := w) (base := base) D_l_lowest c_l_gcd
  have c_l_rule := ok_l_rule (P := l.prog) (w := w) (base := base) D_l_rule B c_l_draw c_l_pick c_l_lowest
  have c_l_far_rule := ok_l_far_rule (P := l.prog) (w := w) (base := base) D_l_far_rule B c_l_pick c_l_great c_l_signed c_l_lowest
  have c_is_integer := ok_is_integer (P := l.prog) (w := w) (base := base) D_is_integer B
  have c_check_integer := ok_check_integer (P := l.prog) (w := w) (base := base) D_check_integer c_is_integer
  have c_gcd := ok_gcd (P := l.prog) (w := w) (base := base) D_gcd
  have c_is_rule := ok_is_rule (P := l.prog) (w := w) (base := base) D_is_rule B c_is_integer c_gcd
  have c_check_rule := ok_check_rule (P := l.prog) (w := w) (base := base) D_check_rule c_is_rule
  have c_count := ok_count (P := l.prog) (w := w) (base := base) D_count c_check_rule c_check_integer
  have c_l_tally := ok_l_tally (P := l.prog) (w := w) (base := base) D_l_tally
  have c_is_record := ok_is_record (P := l.prog) (w := w) (base := base) D_is_record B c_is_integer
  have c_check_records := ok_check_records (P := l.prog) (w := w) (base := base) D_check_records B U c_is_record
  have c_split_records := ok_split_records (P := l.prog) (w := w) (base := base) D_split_records B
  have c_tighter_pairs := ok_tighter_pairs (P := l.prog) (w := w) (base := base) D_tighter_pairs B
  have c_reduce_rate := ok_reduce_rate (P := l.prog) (w := w) (base := base) D_reduce_rate c_gcd
  have c_tight_pairs := ok_tight_pairs (P := l.prog) (w := w) (base := base) D_tight_pairs c_split_records c_tighter_pairs
  have c_leave_no_rate := ok_leave_no_rate (P := l.prog) (w := w) (base := base) D_leave_no_rate
  have c_rate_ends := ok_rate_ends (P := l.prog) (w := w) (base := base) D_rate_ends c_tight_pairs c_leave_no_rate c_reduce_rate
  have c_rates := ok_rates (P := l.prog) (w := w) (base := base) D_rates c_check_records c_rate_ends
  have c_is_counts := ok_is_counts (P := l.prog) (w := w) (base := base) D_is_counts B UE c_is_integer
  have c_uneven := ok_uneven (P := l.prog) (w := w) (base := base) D_uneven B c_is_counts
  have c_count_records := ok_count_records (P := l.prog) (w := w) (base := base) D_count_records c_check_integer
  have c_l_pattern := ok_l_pattern (P := l.prog) (w := w) (base := base) D_l_pattern B c_l_tally
  have c_l_long_row := ok_l_long_row (P := l.prog) (w := w) (base := base) D_l_long_row B c_l_draw c_l_pick c_l_signed c_l_rule c_l_far_rule c_l_pattern
  have c_l_row := ok_l_row (P := l.prog) (w := w) (base := base) D_l_row B c_l_draw c_l_pick c_l_signed c_l_rule c_l_far_rule c_l_tally
  exact ok_law F31 B c_l_pen c_l_draw c_l_signed c_l_far_rule c_l_row c_l_long_row c_count_records c_uneven c_rates c_count
end Lf
open PySem PySem.W PyProof.Rows
set_option maxRecDepth 100000 in
set_option maxHeartbeats 0 in
theorem PySem.Challenge.cw_leapfit_k22_whole_even_lists_have_rules_holds : PySem.Challenge.rw_leapfit_k22_whole_even_lists_have_rules.Holds := by
  w_on; o_law; k_head; (case hw => w_witness2)
  k_fill
  refine L2.walk_of (l := PySem.Challenge.rw_leapfit_k22_whole_even_lists_have_rules) (n := 63) (k := 6) (x := "_law_script") (CX := fun _ => L2.CX0) (sp := fun w => Lf.spLaw _) rfl (by decide) rfl ⟨rfl, by decide, by decide⟩ (fun w h Y => PySem.W.kIn_of Y) ?F (fun _ _ a ns hl _ hS => ⟨a, ns, rfl, hS, hl, fun _ => rfl⟩) (fun _ _ _ _ _ h => h)
  case F =>
    intro w mg fa h KX G hmg
    refine' Lf.all_mk KX G hmg ?a0 ?l0 ?c0 ?k0 ?a1 ?l1 ?c1 ?k1 ?a2 ?l2 ?c2 ?k2 ?a3 ?l3 ?c3 ?k3 ?a4 ?l4 ?c4 ?k4 ?a5 ?l5 ?c5 ?k5 ?a6 ?l6 ?c6 ?k6 ?a7 ?l7 ?c7 ?k7 ?a8 ?l8 ?c8 ?k8 ?a9 ?l9 ?c9 ?k9 ?a10 ?l10 ?c10 ?k10 ?a11 ?l11 ?c11 ?k11 ?a12 ?l12 ?c12 ?k12 ?a13 ?l13 ?c13 ?k13 ?a14 ?l14 ?c14 ?k14 ?a15 ?l15 ?c15 ?k15 ?a16 ?l16 ?c16 ?k16 ?a17 ?l17 ?c17 ?k17 ?a18 ?l18 ?c18 ?k18 ?a19 ?l19 ?c19 ?k19 ?a20 ?l20 ?c20 ?k20 ?a21 ?l21 ?c21 ?k21 ?a22 ?l22 ?c22 ?k22 ?a23 ?l23 ?c23 ?k23 ?a24 ?l24 ?c24 ?k24 ?a25 ?l25 ?c25 ?k25 ?a26 ?l26 ?c26 ?k26 ?a27 ?l27 ?c27 ?k27 ?a28 ?l28 ?c28 ?k28 ?a29 ?l29 ?c29 ?k29 ?a30 ?l30 ?c30 ?k30 ?a31 ?l31 ?c31 ?k31 ?z0 ?z1 ?z2 ?z3 ?z4 ?z5 ?z6 ?z7 ?z8 ?z9 ?z10 ?z11 ?z12 ?z13 ?z14 ?z15 ?z16 ?z17 ?z18 ?z19 ?xM ?xN
    (case a0 => k_is); (case l0 => k_is); (case c0 => k_is); (case k0 => k_is)
    (case a1 => k_is); (case l1 => k_is); (case c1 => k_is); (case k1 => k_is)
    (case a2 => k_is); (case l2 => k_is); (case c2 => k_is); (case k2 => k_is)
    (case a3 => k_is); (case l3 => k_is); (case c3 => k_is); (case k3 => k_is)
    (case a4 => k_is); (case l4 => k_is); (case c4 => k_is); (case k4 => k_is)
    (case a5 => k_is); (case l5 => k_is); (case c5 => k_is); (case k5 => k_is)
    (case a6 => k_is); (case l6 => k_is); (case c6 => k_is); (case k6 => k_is)
    (case a7 => k_is); (case l7 => k_is); (case c7 => k_is); (case k7 => k_is)
    (case a8 => k_is); (case l8 => k_is); (case c8 => k_is); (case k8 => k_is)
    (case a9 => k_is); (case l9 => k_is); (case c9 => k_is); (case k9 => k_is)
    (case a10 => k_is); (case l10 => k_is); (case c10 => k_is); (case k10 => k_is)
    (case a11 => k_is); (case l11 => k_is); (case c11 => k_is); (case k11 => k_is)
    (case a12 => k_is); (case l12 => k_is); (case c12 => k_is); (case k12 => k_is)
    (case a13 => k_is); (case l13 => k_is); (case c13 => k_is); (case k13 => k_is)
    (case a14 => k_is); (case l14 => k_is); (case c14 => k_is); (case k14 => k_is)
    (case a15 => k_is); (case l15 => k_is); (case c15 => k_is); (case k15 => k_is)
    (case a16 => k_is); (case l16 => k_is); (case c16 => k_is); (case k16 => k_is)
    (case a17 => k_is); (case l17 => k_is); (case c17 => k_is); (case k17 => k_is)
    (case a18 => k_is); (case l18 => k_is); (case c18 => k_is); (case k18 => k_is)
    (case a19 => k_is); (case l19 => k_is); (case c19 => k_is); (case k19 => k_is)
    (case a20 => k_is); (case l20 => k_is); (case c20 => k_is); (case k20 => k_is)
    (case a21 => k_is); (case l21 => k_is); (case c21 => k_is); (case k21 => k_is)
    (case a22 => k_is); (case l22 => k_is); (case c22 => k_is); (case k22 => k_is)
    (case a23 => k_is); (case l23 => k_is); (case c23 => k_is); (case k23 => k_is)
    (case a24 => k_is); (case l24 => k_is); (case c24 => k_is); (case k24 => k_is)
    (case a25 => k_is); (case l25 => k_is); (case c25 => k_is); (case k25 => k_is)
    (case a26 => k_is); (case l26 => k_is); (case c26 => k_is); (case k26 => k_is)
    (case a27 => k_is); (case l27 => k_is); (case c27 => k_is); (case k27 => k_is)
    (case a28 => k_is); (case l28 => k_is); (case c28 => k_is); (case k28 => k_is)
    (case a29 => k_is); (case l29 => k_is); (case c29 => k_is); (case k29 => k_is)
    (case a30 => k_is); (case l30 => k_is); (case c30 => k_is); (case k30 => k_is)
    (case a31 => k_is); (case l31 => k_is); (case c31 => k_is); (case k31 => k_is)
    (case z0 => k_is); (case z1 => k_is); (case z2 => k_is); (case z3 => k_is); (case z4 => k_is); (case z5 => k_is); (case z6 => k_is); (case z7 => k_is); (case z8 => k_is); (case z9 => k_is); (case z10 => k_is); (case z11 => k_is); (case z12 => k_is); (case z13 => k_is); (case z14 => k_is); (case z15 => k_is); (case z16 => k_is); (case z17 => k_is); (case z18 => k_is); (case z19 => k_is)
    (case xM => k_is); (case xN => k_is)
