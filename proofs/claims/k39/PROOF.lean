import PyProof.Rows.All
import Wide.All
import OpenK.AllK
import Wide.FinOn
import HandS.ForMost
import HandS.Codes
import HandS.Wide
import HandS.WideBits
import HandS.IsInst
import HandS.RaiseMore
import HandS.Style
import HandS.NoneIn
import HandS.Walk
import HandS.SetFor
import HandS.Strs
import KE.LtSeq
import HandS.Conv
import HandS.Exc
import HandS.TryOnly
import HandS.ExcOwn
import HandS.ExcIs
import HandS.WordsExc
import HandS.Lambda
import HandS.EndTab
import HandS.EndOwn
import KE.KNestM
import HandS.ExcInit
import HandS.ExcField
import KE.KExcSuper
import KE.KExcIs
import HandS.Defaults
import KE.DatumOrd
import KE.SortData
import KE.SortKeyHeap
import KE.KSortKey
import KE.GoesMore
import HandS.SortInts
import HandS.Deep
import HandS.Evl
import HandS.SortKw
import HandS.RevRange
import PySem.Challenge.RW_leapfit_k39_answers_checked
set_option Elab.async false
set_option linter.all false
set_option maxRecDepth 100000
set_option maxHeartbeats 4000000
set_option linter.all false
namespace Lf
/-! ### sums of rounded quotients -/
def fs : Nat → Int → Int → Int → Int
  | 0, _, _, _ => 0
  | n + 1, a, b, m => fs n a b m + (a * n + b) / m
def tri (n : Int) : Int := n * (n - 1) / 2
theorem tri_succ (n : Int) : tri (n + 1) = tri n + n := by
  unfold tri
  rw [show (n + 1) * (n + 1 - 1) = n * (n - 1) + n * 2 by
    rw [Int.add_sub_cancel, Int.mul_sub, Int.add_mul]; omega]
  rw [Int.add_mul_ediv_right _ _ (by decide)]
theorem tri_zero : tri 0 = 0 := rfl
theorem div_shift (x k m : Int) (h : 0 < m) : (x + m * k) / m = x / m + k := by
  rw [Int.add_mul_ediv_left _ _ (by omega)]
theorem fs_red (n : Nat) (a b m : Int) (h : 0 < m) : fs n a b m = fs n (a % m) b m + a / m * tri n := by
  induction n with
  | zero => simp [fs, tri_zero]
  | succ n ih =>
    show fs n a b m + (a * n + b) / m = fs n (a % m) b m + (a % m * n + b) / m + a / m * tri ((n + 1 : Nat) : Int)
    have e : a * n + b = (a % m * n + b) + m * (a / m * n) := by
      have q := Int.emod_add_mul_ediv a m
      have q2 : a * n = (a % m + m * (a / m)) * n := by rw [q]
      rw [q2, Int.add_mul, Int.mul_assoc]; omega
    rw [e, div_shift _ _ _ h, ih, Int.natCast_add, Int.natCast_one, tri_succ, Int.mul_add]
    omega
theorem fs_redb (n : Nat) (a b m : Int) (h : 0 < m) : fs n a b m = fs n a (b % m) m + b / m * n := by
  induction n with
  | zero => simp [fs]
  | succ n ih =>
    show fs n a b m + (a * n + b) / m = fs n a (b % m) m + (a * n + b % m) / m + b / m * ((n + 1 : Nat) : Int)
    have e : a * n + b = (a * n + b % m) + m * (b / m) := by
      have q := Int.emod_add_mul_ediv b m
      omega
    rw [e, div_shift _ _ _ h, ih, Int.natCast_add, Int.natCast_one, Int.mul_add, Int.mul_one]
    omega
/-- each term of the second sum grows by one when its offset grows by its divisor -/
theorem fs_up (n : Nat) (a b m : Int) (h : 0 < m) : fs n a (b + m) m = fs n a b m + n := by
  induction n with
  | zero => simp [fs]
  | succ n ih =>
    show fs n a (b + m) m + (a * n + (b + m)) / m = fs n a b m + (a * n + b) / m + ((n + 1 : Nat) : Int)
    rw [show a * n + (b + m) = (a * n + b) + m * 1 by omega, div_shift _ _ _ h, ih]
    omega
/-- the first term apart -/
theorem fs_first (n : Nat) (a b m : Int) : fs (n + 1) a b m = b / m + fs n a (b + a) m := by
  induction n with
  | zero => show 0 + (a * ((0 : Nat) : Int) + b) / m = b / m + 0; simp
  | succ n ih =>
    show fs (n + 1) a b m + (a * ((n + 1 : Nat) : Int) + b) / m = b / m + (fs n a (b + a) m + (a * n + (b + a)) / m)
    rw [ih, show a * ((n + 1 : Nat) : Int) + b = a * n + (b + a) by
      rw [Int.natCast_add, Int.natCast_one, Int.mul_add]; omega]
    omega
theorem fs_swap (n : Nat) (a b m : Int) (ha : 0 < a) (ham : a < m) (hb : 0 ≤ b) (hbm : b < m) :
    fs n a b m = fs ((a * n + b) / m).toNat m ((a * n + b) % m) a := by
  induction n with
  | zero =>
    have e : (a * ((0 : Nat) : Int) + b) / m = 0 := by
      rw [show a * ((0 : Nat) : Int) + b = b by simp]
      exact Int.ediv_eq_zero_of_lt hb hbm
    rw [e]; rfl
  | succ n ih =>
    show fs n a b m + (a * n + b) / m = fs ((a * ((n + 1 : Nat) : Int) + b) / m).toNat m ((a * ((n + 1 : Nat) : Int) + b) % m) a
    rw [ih]
    have hm : 0 < m := by omega
    have hy : 0 ≤ a * n + b := by
      have := Int.mul_nonneg (Int.le_of_lt ha) (Int.natCast_nonneg n); omega
    generalize hyd : a * (n : Int) + b = y at hy
    have e : a * ((n + 1 : Nat) : Int) + b = y + a := by
      rw [Int.natCast_add, Int.natCast_one, Int.mul_add]; omega
    rw [e]
    have hq : 0 ≤ y / m := Int.ediv_nonneg hy (by omega)
    have hr0 : 0 ≤ y % m := Int.emod_nonneg _ (by omega)
    have hr1 : y % m < m := Int.emod_lt_of_pos _ hm
    have hd := Int.emod_add_mul_ediv y m
    generalize y / m = q at *
    generalize y % m = r at *
    by_cases hc : r + a < m
    · have e1 : (y + a) / m = q := by
        rw [show y + a = (r + a) + m * q by omega, div_shift _ _ _ hm, Int.ediv_eq_zero_of_lt (by omega) hc]
        omega
      have e2 : (y + a) % m = r + a := by
        have := Int.emod_add_mul_ediv (y + a) m
        rw [e1] at this
        omega
      rw [e1, e2, fs_up _ _ _ _ ha]
      omega
    · have e1 : (y + a) / m = q + 1 := by
        rw [show y + a = (r + a - m) + m * (q + 1) by rw [Int.mul_add]; omega, div_shift _ _ _ hm, Int.ediv_eq_zero_of_lt (by omega) (by omega)]
        omega
      have e2 : (y + a) % m = r + a - m := by
        have := Int.emod_add_mul_ediv (y + a) m
        rw [e1, Int.mul_add] at this
        omega
      rw [e1, e2, show (q + 1).toNat = q.toNat + 1 by omega, fs_first, Int.ediv_eq_zero_of_lt (by omega) (by omega), show r + a - m + m = r + a by omega, fs_up _ _ _ _ ha]
      omega
/-- a whole turn of the loop -/
theorem fs_turn (n a b m : Int) (hn : 0 ≤ n) (hm : 0 < m) :
    fs n.toNat a b m = a / m * tri n + b / m * n + fs ((a % m * n + b % m) / m).toNat m ((a % m * n + b % m) % m) (a % m) := by
  have h1 := fs_red n.toNat a b m hm
  have h2 := fs_redb n.toNat (a % m) b m hm
  have en : ((n.toNat : Nat) : Int) = n := by omega
  rw [en] at h1 h2
  have ha0 : 0 ≤ a % m := Int.emod_nonneg _ (by omega)
  have ha1 : a % m < m := Int.emod_lt_of_pos _ hm
  have hb0 : 0 ≤ b % m := Int.emod_nonneg _ (by omega)
  have hb1 : b % m < m := Int.emod_lt_of_pos _ hm
  by_cases hz : a % m = 0
  · have e0 : (a % m * n + b % m) / m = 0 := by
      rw [hz, Int.zero_mul, Int.zero_add]
      exact Int.ediv_eq_zero_of_lt hb0 hb1
    have z : fs n.toNat (a % m) (b % m) m = 0 := by
      rw [hz]
      have : ∀ k : Nat, fs k 0 (b % m) m = 0 := fun k => by
        induction k with
        | zero => rfl
        | succ k ih =>
          show fs k 0 (b % m) m + (0 * (k : Int) + b % m) / m = 0
          rw [ih, Int.zero_mul, Int.zero_add, Int.zero_add]
          exact Int.ediv_eq_zero_of_lt hb0 hb1
      exact this _
    rw [e0]
    show _ = _ + fs 0 m _ _
    have e3 : fs 0 m ((a % m * n + b % m) % m) (a % m) = 0 := rfl
    have e4 : (0 : Int).toNat = 0 := rfl
    rw [e3, h1, h2, z]
    omega
  · have h3 := fs_swap n.toNat (a % m) (b % m) m (by omega) ha1 hb0 hb1
    rw [en] at h3
    rw [h1, h2, h3]
    omega
theorem turn_le (n a b m : Int) (hn : 0 < n) (hm : 0 < m) : (a % m * n + b % m) / m ≤ n ∧ 0 ≤ (a % m * n + b % m) / m := by
  have ha0 : 0 ≤ a % m := Int.emod_nonneg _ (by omega)
  have ha1 : a % m < m := Int.emod_lt_of_pos _ hm
  have hb0 : 0 ≤ b % m := Int.emod_nonneg _ (by omega)
  have hb1 : b % m < m := Int.emod_lt_of_pos _ hm
  have h0 : 0 ≤ a % m * n := Int.mul_nonneg ha0 (by omega)
  refine ⟨?_, Int.ediv_nonneg (by omega) (by omega)⟩
  have h1 : a % m * n ≤ (m - 1) * n := Int.mul_le_mul_of_nonneg_right (by omega) (by omega)
  rw [Int.sub_mul, Int.one_mul] at h1
  have h2 : (a % m * n + b % m) / m < n + 1 := by
    apply Int.ediv_lt_of_lt_mul hm
    rw [Int.add_mul, Int.one_mul, Int.mul_comm n m]
    omega
  omega
theorem turn_zero (n a b m : Int) (hm : 0 < m) (hz : a % m = 0) : (a % m * n + b % m) / m = 0 := by
  rw [hz, Int.zero_mul, Int.zero_add]
  exact Int.ediv_eq_zero_of_lt (Int.emod_nonneg _ (by omega)) (Int.emod_lt_of_pos _ hm)
/-! ### sizes -/
def Bd (k : Nat) (i : Int) : Prop := i.natAbs < 2 ^ k
theorem Bd.mono {k j : Nat} {i : Int} (h : Bd k i) (e : k ≤ j) : Bd j i := Nat.lt_of_lt_of_le h (Nat.pow_le_pow_right (by decide) e)
theorem Bd.le {k : Nat} {i j : Int} (h : Bd k j) (e : i.natAbs ≤ j.natAbs) : Bd k i := Nat.lt_of_le_of_lt e h
theorem Bd.mul {k j : Nat} {x y : Int} (h : Bd k x) (h2 : Bd j y) : Bd (k + j) (x * y) := by
  unfold Bd
  rw [Int.natAbs_mul, Nat.pow_add]
  exact Nat.mul_lt_mul'' h h2
theorem Bd.add {k : Nat} {x y : Int} (h : Bd k x) (h2 : Bd k y) : Bd (k + 1) (x + y) := by
  unfold Bd at *
  rw [Nat.pow_succ]
  omega
theorem Bd.sub {k : Nat} {x y : Int} (h : Bd k x) (h2 : Bd k y) : Bd (k + 1) (x - y) := by
  unfold Bd at *
  rw [Nat.pow_succ]
  omega
theorem Bd.neg {k : Nat} {x : Int} (h : Bd k x) : Bd k (-x) := by
  unfold Bd at *
  omega
theorem Bd.ediv {k : Nat} {x m : Int} (h : Bd k x) (hm : 0 < m) : Bd k (x / m) := by
  refine h.le ?_
  rcases Int.lt_or_le x 0 with hx | hx
  · have h1 : x / m < 0 := Int.ediv_neg_of_neg_of_pos hx hm
    have h2 : x ≤ x / m := by
      apply Int.le_ediv_of_mul_le hm
      have : (-x) * 1 ≤ (-x) * m := Int.mul_le_mul_of_nonneg_left (by omega) (by omega)
      rw [Int.neg_mul, Int.neg_mul, Int.mul_one] at this
      omega
    omega
  · have h1 : 0 ≤ x / m := Int.ediv_nonneg hx (by omega)
    have h2 : x / m ≤ x := Int.ediv_le_self _ hx
    omega
theorem Bd.emod {k : Nat} {x m : Int} (h : Bd k m) (hm : 0 < m) : Bd k (x % m) := by
  refine h.le ?_
  have := Int.emod_nonneg x (show m ≠ 0 by omega)
  have := Int.emod_lt_of_pos x hm
  omega
theorem Bd.log {k : Nat} {i : Int} (h : Bd k i) (hk : 0 < k) : i.natAbs.log2 < k := by
  by_cases e : i.natAbs = 0
  · rw [e]; exact hk
  · exact (Nat.log2_lt e).mpr h
theorem Bd.small {k : Nat} {i : Int} (c : Nat) (h : i.natAbs < 2 ^ c) (e : c ≤ k) : Bd k i := Bd.mono (k := c) h e
theorem Bd.between {k : Nat} {x y : Int} (h : Bd k y) (h0 : 0 ≤ x) (h1 : x ≤ y) : Bd k x := h.le (by omega)
/-! ### the greatest common divisor -/
theorem gcd_turn (x y : Int) (hx : 0 ≤ x) (hy : 0 < y) : Int.gcd y (x % y) = Int.gcd x y := by
  unfold Int.gcd
  rw [show (x % y).natAbs = x.natAbs % y.natAbs by
    obtain ⟨a, rfl⟩ := Int.eq_ofNat_of_zero_le hx
    obtain ⟨b, rfl⟩ := Int.eq_ofNat_of_zero_le (Int.le_of_lt hy)
    rfl]
  rw [Nat.gcd_comm, ← Nat.gcd_rec, Nat.gcd_comm]
end Lf
namespace Lf
theorem nab_ediv {x m : Int} (hm : 0 < m) : (x / m).natAbs ≤ x.natAbs := by
  rcases Int.lt_or_le x 0 with hx | hx
  · have h1 : x / m < 0 := Int.ediv_neg_of_neg_of_pos hx hm
    have h2 : x ≤ x / m := by
      apply Int.le_ediv_of_mul_le hm
      have : (-x) * 1 ≤ (-x) * m := Int.mul_le_mul_of_nonneg_left (by omega) (by omega)
      rw [Int.neg_mul, Int.neg_mul, Int.mul_one] at this
      omega
    omega
  · have h1 : 0 ≤ x / m := Int.ediv_nonneg hx (by omega)
    have h2 : x / m ≤ x := Int.ediv_le_self _ hx
    omega
theorem fs_nab (n : Nat) (a b m : Int) (hm : 0 < m) : (fs n a b m).natAbs ≤ n * (a.natAbs * n + b.natAbs) := by
  induction n with
  | zero => show (0 : Int).natAbs ≤ _; simp
  | succ n ih =>
    show (fs n a b m + (a * n + b) / m).natAbs ≤ (n + 1) * (a.natAbs * (n + 1) + b.natAbs)
    have h1 := nab_ediv (x := a * n + b) hm
    have h2 := Int.natAbs_add_le (a * n) b
    have h3 := Int.natAbs_add_le (fs n a b m) ((a * n + b) / m)
    have h4 : (a * (n : Int)).natAbs = a.natAbs * n := by rw [Int.natAbs_mul]; rfl
    rw [h4] at h2
    have h5 : n * (a.natAbs * n + b.natAbs) ≤ n * (a.natAbs * (n + 1) + b.natAbs) := Nat.mul_le_mul_left _ (Nat.add_le_add_right (Nat.mul_le_mul_left _ (by omega)) _)
    have h6 : a.natAbs * n ≤ a.natAbs * (n + 1) := Nat.mul_le_mul_left _ (by omega)
    rw [Nat.add_mul, Nat.one_mul]
    omega
theorem fs_bd {n k j : Nat} {a b m : Int} (hm : 0 < m) (hn : n < 2 ^ j) (ha : Bd k a) (hb : Bd k b) : Bd (j + (k + j + 1)) (fs n a b m) := by
  unfold Bd at *
  have h := fs_nab n a b m hm
  refine Nat.lt_of_le_of_lt h ?_
  rw [Nat.pow_add 2 j]
  have h1 : a.natAbs * n + b.natAbs < 2 ^ (k + j + 1) := by
    have e : a.natAbs * n ≤ 2 ^ k * 2 ^ j := Nat.mul_le_mul (Nat.le_of_lt ha) (Nat.le_of_lt hn)
    have e2 : 2 ^ k ≤ 2 ^ k * 2 ^ j := Nat.le_mul_of_pos_right _ (Nat.pow_pos (by decide))
    rw [Nat.pow_succ, Nat.pow_add]
    omega
  exact Nat.mul_lt_mul'' hn h1
def trm (p q c s : Int) (i : Nat) : Int := (p * (s + i) + c) / q
theorem trm_sum (p q c s : Int) (n : Nat) : ((List.range n).map (trm p q c s)).sum = fs n p (p * s + c) q := by
  induction n with
  | zero => rfl
  | succ n ih =>
    rw [List.range_succ, List.map_append, List.sum_append, ih]
    show _ + (trm p q c s n + 0) = fs n p (p * s + c) q + (p * n + (p * s + c)) / q
    unfold trm
    rw [show p * (s + (n : Int)) + c = p * n + (p * s + c) by rw [Int.mul_add]; omega]
    omega
end Lf
namespace Lf
/-! ### triples in lowest terms -/
def gg (p q : Int) : Int := (Int.gcd p q : Int)
theorem gg_pos {p q : Int} (h : 1 ≤ q) : 0 < gg p q := by
  have : 0 < Int.gcd p q := Int.gcd_pos_of_ne_zero_right _ (by omega)
  unfold gg
  omega
theorem gg_p (p q : Int) : p = gg p q * (p / gg p q) := (Int.mul_ediv_cancel' (Int.gcd_dvd_left ..)).symm
theorem gg_q (p q : Int) : q = gg p q * (q / gg p q) := (Int.mul_ediv_cancel' (Int.gcd_dvd_right ..)).symm
theorem gg_mul (g x y : Int) (h : 0 ≤ g) : gg (g * x) (g * y) = g * gg x y := by
  unfold gg
  rw [Int.gcd_mul_left, Int.natCast_mul, Int.natAbs_of_nonneg h]
/-- reduced, multiplied, reduced again -/
theorem gg_twice (p q u v : Int) (h : 1 ≤ q) : gg (u * p) (v * q) = gg p q * gg (u * (p / gg p q)) (v * (q / gg p q)) := by
  have hg := gg_pos (p := p) h
  rw [← gg_mul _ _ _ (Int.le_of_lt hg)]
  congr 1
  · rw [Int.mul_left_comm, ← gg_p]
  · rw [Int.mul_left_comm, ← gg_q]
theorem red_p (p q u v : Int) (h : 1 ≤ q) (hv : 1 ≤ v) : u * (p / gg p q) / gg (u * (p / gg p q)) (v * (q / gg p q)) = u * p / gg (u * p) (v * q) := by
  have hg := gg_pos (p := p) h
  have e := gg_twice p q u v h
  rw [e]
  have e2 : u * p = gg p q * (u * (p / gg p q)) := by rw [Int.mul_left_comm, ← gg_p]
  rw [e2, Int.mul_ediv_mul_of_pos _ _ hg]
theorem red_q (p q u v : Int) (h : 1 ≤ q) (hv : 1 ≤ v) : v * (q / gg p q) / gg (u * (p / gg p q)) (v * (q / gg p q)) = v * q / gg (u * p) (v * q) := by
  have hg := gg_pos (p := p) h
  have e := gg_twice p q u v h
  rw [e]
  have e2 : v * q = gg p q * (v * (q / gg p q)) := by rw [Int.mul_left_comm, ← gg_q]
  rw [e2, Int.mul_ediv_mul_of_pos _ _ hg]
theorem red_c (p q u v c : Int) (h : 1 ≤ q) (hv : 1 ≤ v) : c / gg p q / gg (u * (p / gg p q)) (v * (q / gg p q)) = c / gg (u * p) (v * q) := by
  have hg := gg_pos (p := p) h
  rw [gg_twice p q u v h, Int.ediv_ediv_of_nonneg (Int.le_of_lt hg)]
theorem red_shift (p q a b c : Int) (h : 1 ≤ q) : (p * a + q * b + c) / gg p q = p / gg p q * a + q / gg p q * b + c / gg p q := by
  have hg := gg_pos (p := p) h
  have e : p * a + q * b + c = c + gg p q * (p / gg p q * a + q / gg p q * b) := by
    rw [Int.mul_add, ← Int.mul_assoc, ← Int.mul_assoc, ← gg_p, ← gg_q]
    omega
  rw [e, div_shift _ _ _ hg]
  omega
theorem div_neg1 (c g : Int) (hg : 0 < g) : (-1 - c) / g = -1 - c / g := by
  have e := Int.emod_add_mul_ediv c g
  have h0 := Int.emod_nonneg c (show g ≠ 0 by omega)
  have h1 := Int.emod_lt_of_pos c hg
  have e2 : -1 - c = (g - 1 - c % g) + g * (-1 - c / g) := by
    rw [Int.mul_sub]
    omega
  rw [e2, div_shift _ _ _ hg, Int.ediv_eq_zero_of_lt (by omega) (by omega)]
  omega
theorem red_mirror (p q c : Int) (h : 1 ≤ q) : (q - 1 - c) / gg p q = q / gg p q - 1 - c / gg p q := by
  have hg := gg_pos (p := p) h
  have e : q - 1 - c = (-1 - c) + gg p q * (q / gg p q) := by
    rw [← gg_q]
    omega
  rw [e, div_shift _ _ _ hg, div_neg1 _ _ hg]
  omega
end Lf
namespace Lf
theorem gg1 {p q : Int} (h : Int.gcd p q = 1) : gg p q = 1 := by
  unfold gg
  rw [h]
  rfl
theorem thin2 (p q c j k : Int) (h : 1 ≤ q * j) (hk : 1 ≤ k) :
    p / gg p (q * j) / gg (p / gg p (q * j)) (q * j / gg p (q * j) * k) = p / gg p (q * (j * k)) ∧
    q * j / gg p (q * j) * k / gg (p / gg p (q * j)) (q * j / gg p (q * j) * k) = q * (j * k) / gg p (q * (j * k)) ∧
    c / gg p (q * j) / gg (p / gg p (q * j)) (q * j / gg p (q * j) * k) = c / gg p (q * (j * k)) := by
  have e : q * (j * k) = k * (q * j) := by rw [← Int.mul_assoc, Int.mul_comm]
  have h1 := red_p p (q * j) 1 k h hk
  have h2 := red_q p (q * j) 1 k h hk
  have h3 := red_c p (q * j) 1 k c h hk
  simp only [Int.one_mul] at h1 h2 h3
  rw [Int.mul_comm (q * j / gg p (q * j)) k, e]
  exact ⟨h1, h2, h3⟩
theorem sample2 (p q c j k : Int) (h : 1 ≤ q) :
    p * j / gg (p * j) q * k / gg (p * j / gg (p * j) q * k) (q / gg (p * j) q) = p * (j * k) / gg (p * (j * k)) q ∧
    q / gg (p * j) q / gg (p * j / gg (p * j) q * k) (q / gg (p * j) q) = q / gg (p * (j * k)) q ∧
    c / gg (p * j) q / gg (p * j / gg (p * j) q * k) (q / gg (p * j) q) = c / gg (p * (j * k)) q := by
  have e : p * (j * k) = k * (p * j) := by rw [← Int.mul_assoc, Int.mul_comm]
  have h1 := red_p (p * j) q k 1 h (by decide)
  have h2 := red_q (p * j) q k 1 h (by decide)
  have h3 := red_c (p * j) q k 1 c h (by decide)
  simp only [Int.one_mul] at h1 h2 h3
  rw [Int.mul_comm (p * j / gg (p * j) q) k, e]
  exact ⟨h1, h2, h3⟩
theorem both2 (p q c k : Int) (h : 1 ≤ q) (hk : 1 ≤ k) :
    p * k / gg (p * k) q / gg (p * k / gg (p * k) q) (q / gg (p * k) q * k) = k * p / gg (k * p) (k * q) ∧
    q / gg (p * k) q * k / gg (p * k / gg (p * k) q) (q / gg (p * k) q * k) = k * q / gg (k * p) (k * q) ∧
    c / gg (p * k) q / gg (p * k / gg (p * k) q) (q / gg (p * k) q * k) = c / gg (k * p) (k * q) := by
  have h1 := red_p (p * k) q 1 k h hk
  have h2 := red_q (p * k) q 1 k h hk
  have h3 := red_c (p * k) q 1 k c h hk
  simp only [Int.one_mul] at h1 h2 h3
  rw [Int.mul_comm (q / gg (p * k) q) k, Int.mul_comm k p]
  exact ⟨h1, h2, h3⟩
theorem one_le_mul {x y : Int} (h : 1 ≤ x) (h2 : 1 ≤ y) : 1 ≤ x * y := by
  have := Int.mul_le_mul h h2 (by decide) (by omega)
  omega
end Lf
namespace Lf
/-! ### sums over ranges -/
theorem fs_add (n m : Nat) (a b q : Int) : fs (n + m) a b q = fs n a b q + fs m a (a * n + b) q := by
  induction m with
  | zero => show fs n a b q = fs n a b q + 0; omega
  | succ m ih =>
    show fs (n + m) a b q + (a * ((n + m : Nat) : Int) + b) / q = fs n a b q + (fs m a (a * n + b) q + (a * m + (a * n + b)) / q)
    rw [ih, show a * ((n + m : Nat) : Int) + b = a * m + (a * n + b) by rw [Int.natCast_add, Int.mul_add]; omega]
    omega
/-- two neighbouring ranges -/
theorem fs_split (p q c s m e : Int) (h1 : s ≤ m) (h2 : m ≤ e) : fs (m - s).toNat p (p * s + c) q + fs (e - m).toNat p (p * m + c) q = fs (e - s).toNat p (p * s + c) q := by
  have e1 : (e - s).toNat = (m - s).toNat + (e - m).toNat := by omega
  rw [e1, fs_add, show ((m - s).toNat : Int) = m - s by omega, show p * (m - s) + (p * s + c) = p * m + c by rw [Int.mul_sub]; omega]
theorem fs_one (p b q : Int) : fs 1 p b q = b / q := by
  show 0 + (p * ((0 : Nat) : Int) + b) / q = b / q
  simp
/-- one step of the offset: a term grows by one exactly where the divisor divides -/
theorem step_div (x q : Int) (h : 0 < q) : (x + 1) / q = x / q + (if (x + 1) % q = 0 then 1 else 0) := by
  have e := Int.emod_add_mul_ediv x q
  have h0 := Int.emod_nonneg x (show q ≠ 0 by omega)
  have h1 := Int.emod_lt_of_pos x h
  by_cases hc : x % q + 1 = q
  · have e2 : x + 1 = 0 + q * (x / q + 1) := by rw [Int.mul_add]; omega
    have e3 : (x + 1) % q = 0 := by rw [e2, Int.zero_add, Int.mul_emod_right]
    rw [if_pos e3, e2, div_shift _ _ _ h, Int.zero_ediv]
    omega
  · have e2 : x + 1 = (x % q + 1) + q * (x / q) := by omega
    have e3 : (x + 1) % q = x % q + 1 := by
      rw [e2, Int.add_mul_emod_self_left]
      exact Int.emod_eq_of_lt (by omega) (by omega)
    rw [if_neg (by omega)]
    rw [e2, div_shift _ _ _ h, Int.ediv_eq_zero_of_lt (by omega) (by omega)]
    omega
theorem hit_once (p q b : Int) (hg : Int.gcd p q = 1) (i j : Int) (hi : 0 ≤ i) (hij : i < j) (hj : j < q) (h1 : (p * i + b) % q = 0) (h2 : (p * j + b) % q = 0) : False := by
  have d1 := Int.dvd_of_emod_eq_zero h1
  have d2 := Int.dvd_of_emod_eq_zero h2
  have d3 : q ∣ p * (j - i) := by
    have := Int.dvd_sub d2 d1
    rw [show p * j + b - (p * i + b) = p * (j - i) by rw [Int.mul_sub]; omega] at this
    exact this
  have d4 : q ∣ j - i := by
    have n1 : q.natAbs ∣ p.natAbs * (j - i).natAbs := by
      rw [← Int.natAbs_mul]
      exact Int.natAbs_dvd_natAbs.mpr d3
    have n2 : Nat.Coprime q.natAbs p.natAbs := by
      unfold Nat.Coprime
      rw [Nat.gcd_comm]
      exact hg
    exact Int.natAbs_dvd_natAbs.mp (Nat.Coprime.dvd_of_dvd_mul_left n2 n1)
  have := Int.le_of_dvd (by omega) d4
  omega
theorem fs_step_le (p q b : Int) (hq : 0 < q) (hg : Int.gcd p q = 1) (n : Nat) (hn : (n : Int) ≤ q) :
    fs n p (b + 1) q - fs n p b q = 0 ∧ (∀ i : Nat, i < n → (p * i + (b + 1)) % q ≠ 0) ∨ fs n p (b + 1) q - fs n p b q = 1 ∧ (∃ i : Nat, i < n ∧ (p * i + (b + 1)) % q = 0) := by
  induction n with
  | zero => exact .inl ⟨rfl, fun i h => absurd h (by omega)⟩
  | succ n ih =>
    have e : fs (n + 1) p (b + 1) q - fs (n + 1) p b q = (fs n p (b + 1) q - fs n p b q) + ((p * n + (b + 1)) / q - (p * n + b) / q) := by
      show fs n p (b + 1) q + (p * n + (b + 1)) / q - (fs n p b q + (p * n + b) / q) = _
      omega
    have s := step_div (p * n + b) q hq
    rw [show p * (n : Int) + b + 1 = p * n + (b + 1) by omega] at s
    rw [e]
    rcases ih (by omega) with ⟨h1, h2⟩ | ⟨h1, i, hi, h2⟩
    · by_cases hc : (p * (n : Int) + (b + 1)) % q = 0
      · rw [if_pos hc] at s
        exact .inr ⟨by omega, n, by omega, hc⟩
      · rw [if_neg hc] at s
        refine .inl ⟨by omega, fun i hi => ?_⟩
        by_cases hin : i = n
        · subst hin; exact hc
        · exact h2 i (by omega)
    · have hc : ¬ (p * (n : Int) + (b + 1)) % q = 0 := fun z => hit_once p q (b + 1) hg i n (by omega) (by omega) (by omega) h2 z
      rw [if_neg hc] at s
      exact .inr ⟨by omega, i, by omega, h2⟩
theorem fs_step (p q b : Int) (hq : 0 < q) (hg : Int.gcd p q = 1) : fs q.toNat p (b + 1) q = fs q.toNat p b q + 1 := by
  have hle : ∀ b, fs q.toNat p (b + 1) q - fs q.toNat p b q ≤ 1 := fun b => by
    rcases fs_step_le p q b hq hg q.toNat (by omega) with ⟨h, _⟩ | ⟨h, _⟩ <;> omega
  have many : ∀ (k : Nat) (b : Int), fs q.toNat p (b + k) q - fs q.toNat p b q ≤ k := fun k => by
    induction k with
    | zero => intro b; simp
    | succ k ih =>
      intro b
      have h1 := ih b
      have h2 := hle (b + k)
      rw [show b + ((k + 1 : Nat) : Int) = b + k + 1 by omega]
      omega
  have up := fs_up q.toNat p b q hq
  have h1 := many (q.toNat - 1) (b + 1)
  rw [show b + 1 + ((q.toNat - 1 : Nat) : Int) = b + q by omega] at h1
  have h2 := hle b
  omega
theorem fs_from (p q : Int) (hq : 0 < q) (hg : Int.gcd p q = 1) (k : Nat) (b : Int) : fs q.toNat p (b + k) q = fs q.toNat p b q + k := by
  induction k with
  | zero => simp
  | succ k ih =>
    rw [show b + ((k + 1 : Nat) : Int) = b + k + 1 by omega, fs_step p q _ hq hg, ih]
    omega
theorem fs_any (p q b : Int) (hq : 0 < q) (hg : Int.gcd p q = 1) : fs q.toNat p b q = fs q.toNat p 0 q + b := by
  rcases Int.lt_or_le b 0 with h | h
  · have := fs_from p q hq hg (-b).toNat b
    rw [show b + ((-b).toNat : Int) = 0 by omega] at this
    omega
  · have := fs_from p q hq hg b.toNat 0
    rw [show 0 + (b.toNat : Int) = b by omega] at this
    omega
/-- terms in reverse order -/
theorem fs_rev (n : Nat) (a b q : Int) : fs n a b q = fs n (-a) (a * (n - 1) + b) q := by
  induction n with
  | zero => rfl
  | succ n ih =>
    rw [fs_first n (-a)]
    show fs n a b q + (a * n + b) / q = _
    rw [ih, show a * (((n + 1 : Nat) : Int) - 1) + b = a * n + b by rw [show ((n + 1 : Nat) : Int) - 1 = n by omega],
      show a * (n : Int) + b + -a = a * (n - 1) + b by rw [Int.mul_sub]; omega]
    omega
/-- negated terms -/
theorem fs_neg (n : Nat) (a b q : Int) (hq : 0 < q) : fs n (-a) (-b) q = - fs n a (b + q - 1) q := by
  induction n with
  | zero => rfl
  | succ n ih =>
    show fs n (-a) (-b) q + (-a * n + -b) / q = - (fs n a (b + q - 1) q + (a * n + (b + q - 1)) / q)
    rw [ih]
    have h1 := div_neg1 (a * n + (b - 1)) q hq
    have h2 := div_shift (a * n + (b - 1)) 1 q hq
    rw [show -1 - (a * (n : Int) + (b - 1)) = -a * n + -b by rw [Int.neg_mul]; omega] at h1
    rw [show a * (n : Int) + (b - 1) + q * 1 = a * n + (b + q - 1) by omega] at h2
    omega
theorem fs_cycle (p q b : Int) (hq : 0 < q) (hg : Int.gcd p q = 1) : fs q.toNat p b q = b + (p - 1) * (q - 1) / 2 := by
  have h0 := fs_any p q b hq hg
  have r := fs_rev q.toNat p 0 q
  have ng := fs_neg q.toNat p (-(p * (q - 1))) q hq
  rw [show ((q.toNat : Nat) : Int) = q by omega, Int.add_zero] at r
  rw [Int.neg_neg] at ng
  have h2 := fs_any p q (-(p * (q - 1)) + q - 1) hq hg
  have key : 2 * fs q.toNat p 0 q = (p - 1) * (q - 1) := by
    have e : (p - 1) * (q - 1) = p * (q - 1) - (q - 1) := by rw [Int.sub_mul, Int.one_mul]
    omega
  have : (p - 1) * (q - 1) / 2 = fs q.toNat p 0 q := by
    rw [← key, Int.mul_ediv_cancel_left _ (by decide)]
  omega
/-- Hermite's identity -/
theorem fs_hermite (k y : Int) (hk : 0 < k) : fs k.toNat 1 y k = y := by
  have := fs_cycle 1 k y hk (by simp [Int.gcd])
  rw [this]
  simp
/-- mirrored -/
theorem fs_mirror (n : Nat) (p q c s : Int) (hq : 0 < q) : fs n p (p * (1 - (s + n)) + (q - 1 - c)) q = - fs n p (p * s + c) q := by
  induction n with
  | zero => rfl
  | succ n ih =>
    rw [fs_first]
    show _ = -(fs n p (p * s + c) q + (p * n + (p * s + c)) / q)
    have e1 : p * (1 - (s + ((n + 1 : Nat) : Int))) + (q - 1 - c) + p = p * (1 - (s + n)) + (q - 1 - c) := by
      rw [show (1 - (s + ((n + 1 : Nat) : Int))) = (1 - (s + n)) - 1 by omega, Int.mul_sub p _ 1]
      omega
    rw [e1, ih]
    have h1 := div_neg1 (p * n + (p * s + c)) q hq
    have h2 := div_shift (-1 - (p * n + (p * s + c))) 1 q hq
    rw [show -1 - (p * (n : Int) + (p * s + c)) + q * 1 = p * (1 - (s + ((n + 1 : Nat) : Int))) + (q - 1 - c) by
      rw [show (1 - (s + ((n + 1 : Nat) : Int))) = -(n : Int) - s by omega, Int.mul_sub, Int.mul_neg]; omega] at h2
    omega
theorem fs_lowest (n : Nat) (p q c s : Int) (hq : 1 ≤ q) : fs n (p / gg p q) (p / gg p q * s + c / gg p q) (q / gg p q) = fs n p (p * s + c) q := by
  have hg := gg_pos (p := p) hq
  induction n with
  | zero => rfl
  | succ n ih =>
    show fs n (p / gg p q) (p / gg p q * s + c / gg p q) (q / gg p q) + (p / gg p q * n + (p / gg p q * s + c / gg p q)) / (q / gg p q) = fs n p (p * s + c) q + (p * n + (p * s + c)) / q
    rw [ih]
    have e1 : p / gg p q * n + (p / gg p q * s + c / gg p q) = (p * n + (p * s + c)) / gg p q := by
      have : p * n + (p * s + c) = c + gg p q * (p / gg p q * n + p / gg p q * s) := by
        rw [Int.mul_add, ← Int.mul_assoc, ← Int.mul_assoc, ← gg_p]
        omega
      rw [this, div_shift _ _ _ hg]
      omega
    have e2 : (p * n + (p * s + c)) / gg p q / (q / gg p q) = (p * n + (p * s + c)) / q := by
      rw [Int.ediv_ediv_of_nonneg (Int.le_of_lt hg), ← gg_q]
    rw [e1, e2]
theorem sum_map_add {α : Type} (l : List α) (f g : α → Int) : (l.map fun x => f x + g x).sum = (l.map f).sum + (l.map g).sum := by
  induction l with
  | nil => rfl
  | cons x r ih => simp only [List.map_cons, List.sum_cons, ih]; omega
theorem range_fs (k : Nat) (a b q : Int) : ((List.range k).map fun (j : Nat) => (a * j + b) / q).sum = fs k a b q := by
  induction k with
  | zero => rfl
  | succ k ih =>
    rw [List.range_succ, List.map_append, List.sum_append, ih]
    show _ + ((a * k + b) / q + 0) = fs k a b q + (a * k + b) / q
    omega
theorem fs_thin (n : Nat) (p q b k : Int) (hq : 0 < q) (hk : 0 < k) : ((List.range k.toNat).map fun (j : Nat) => fs n p (b + q * j) (q * k)).sum = fs n p b q := by
  induction n with
  | zero =>
    show ((List.range k.toNat).map fun _ => (0 : Int)).sum = 0
    induction k.toNat with
    | zero => rfl
    | succ m ih => rw [List.range_succ, List.map_append, List.sum_append, ih]; rfl
  | succ n ih =>
    have e : (List.range k.toNat).map (fun (j : Nat) => fs (n + 1) p (b + q * j) (q * k)) = (List.range k.toNat).map (fun (j : Nat) => fs n p (b + q * j) (q * k) + (1 * (j : Int) + (p * n + b) / q) / k) := by
      apply List.map_congr_left
      intro j _
      show fs n p (b + q * j) (q * k) + (p * n + (b + q * j)) / (q * k) = _
      rw [← Int.ediv_ediv_of_nonneg (Int.le_of_lt hq), show p * (n : Int) + (b + q * j) = (p * n + b) + q * j by omega, div_shift _ _ _ hq, Int.one_mul, Int.add_comm]
      rw [Int.add_comm (j : Int)]
      omega
    rw [e, sum_map_add, ih, range_fs, fs_hermite _ _ hk]
    rfl
theorem fs_sample (n : Nat) (p q b k : Int) (hk : 0 ≤ k) : ((List.range k.toNat).map fun (j : Nat) => fs n (p * k) (b + p * j) q).sum = fs (k.toNat * n) p b q := by
  induction n with
  | zero =>
    show ((List.range k.toNat).map fun _ => (0 : Int)).sum = 0
    induction k.toNat with
    | zero => rfl
    | succ m ih => rw [List.range_succ, List.map_append, List.sum_append, ih]; rfl
  | succ n ih =>
    have e : (List.range k.toNat).map (fun (j : Nat) => fs (n + 1) (p * k) (b + p * j) q) = (List.range k.toNat).map (fun (j : Nat) => fs n (p * k) (b + p * j) q + (p * (j : Int) + (p * ((k.toNat * n : Nat) : Int) + b)) / q) := by
      apply List.map_congr_left
      intro j _
      show fs n (p * k) (b + p * j) q + (p * k * n + (b + p * j)) / q = _
      rw [Int.natCast_mul, show ((k.toNat : Nat) : Int) = k by omega, ← Int.mul_assoc]
      rw [show p * k * (n : Int) + (b + p * j) = p * j + (p * k * n + b) by omega]
    rw [e, sum_map_add, ih, range_fs, Nat.mul_succ, fs_add]
end Lf
namespace Lf
theorem fs_lin (n : Nat) (a b m i j : Int) (hm : 0 < m) : fs n (a + i * m) (b + j * m) m = fs n a b m + i * tri n + j * n := by
  induction n with
  | zero => simp [fs, tri_zero]
  | succ n ih =>
    show fs n (a + i * m) (b + j * m) m + ((a + i * m) * n + (b + j * m)) / m = fs n a b m + (a * n + b) / m + i * tri ((n + 1 : Nat) : Int) + j * ((n + 1 : Nat) : Int)
    rw [ih, show (a + i * m) * (n : Int) + (b + j * m) = (a * n + b) + m * (i * n + j) by
      rw [Int.add_mul, Int.mul_add, Int.mul_comm i m, Int.mul_assoc, Int.mul_comm j m]; omega, div_shift _ _ _ hm, Int.natCast_add, Int.natCast_one, tri_succ, Int.mul_add, Int.mul_add]
    omega
theorem fs_scale (n : Nat) (a b m k : Int) (hk : 0 < k) : fs n (a * k) (b * k) (m * k) = fs n a b m := by
  induction n with
  | zero => rfl
  | succ n ih =>
    show fs n (a * k) (b * k) (m * k) + (a * k * n + b * k) / (m * k) = fs n a b m + (a * n + b) / m
    rw [ih, show a * k * (n : Int) + b * k = (a * n + b) * k by rw [Int.add_mul, Int.mul_right_comm], Int.mul_ediv_mul_of_pos_left _ _ hk]
theorem fs_last (n a b m : Int) (hn : 0 < n) : fs n.toNat a b m - fs (n - 1).toNat a b m = (a * (n - 1) + b) / m := by
  have e : n.toNat = (n - 1).toNat + 1 := by omega
  rw [e]
  show fs (n - 1).toNat a b m + (a * ((n - 1).toNat : Int) + b) / m - fs (n - 1).toNat a b m = _
  rw [show ((n - 1).toNat : Int) = n - 1 by omega]
  omega
theorem fs_part (n k a b m : Int) (h0 : 0 ≤ k) (h1 : k ≤ n) : fs k.toNat a b m + fs (n - k).toNat a (a * k + b) m = fs n.toNat a b m := by
  rw [show n.toNat = k.toNat + (n - k).toNat by omega, fs_add, show ((k.toNat : Nat) : Int) = k by omega]
theorem Bd.grow3 {k : Nat} {r d : Int} (h0 : 0 ≤ r) (h : Bd k r) (d0 : 0 ≤ d) (d1 : d < 1000) : Bd (k + 10) (1000 * r + d) := by
  unfold Bd at *
  have e : (2 : Nat) ^ (k + 10) = 2 ^ k * 1024 := by rw [Nat.pow_add]
  rw [e]
  generalize (2 : Nat) ^ k = m at h
  omega
theorem Bd.grow1 {k : Nat} {r d : Int} (h0 : 0 ≤ r) (h : Bd k r) (d0 : 0 ≤ d) (d1 : d < 10) : Bd (k + 4) (10 * r + d) := by
  unfold Bd at *
  have e : (2 : Nat) ^ (k + 4) = 2 ^ k * 16 := by rw [Nat.pow_add]
  rw [e]
  generalize (2 : Nat) ^ k = m at h
  omega
end Lf
namespace Lf
/-! ### events -/
theorem gal {p q : Int} (c m t : Int) (hp : 1 ≤ p) (hq : 1 ≤ q) : m ≤ (p * t + c) / q ↔ (q * m + (p - 1 - c)) / p ≤ t := by
  rw [Int.le_ediv_iff_mul_le (by omega), ← Int.lt_add_one_iff (a := (q * m + (p - 1 - c)) / p), Int.ediv_lt_iff_lt_mul (by omega), Int.mul_comm m q, Int.add_mul, Int.one_mul, Int.mul_comm t p]
  omega
theorem ct_mono {p q c s t : Int} (hp : 0 ≤ p) (hq : 1 ≤ q) (h : s ≤ t) : (p * s + c) / q ≤ (p * t + c) / q := by
  apply Int.ediv_le_ediv (by omega)
  have := Int.mul_le_mul_of_nonneg_left h hp
  omega
theorem ev_at {p q c m t : Int} (hp : 1 ≤ p) (hq : 1 ≤ q) (h1 : (p * (t - 1) + c) / q < m) (h2 : m ≤ (p * t + c) / q) : (q * m + (p - 1 - c)) / p = t := by
  have a := (gal c m t hp hq).mp h2
  have b : ¬ (q * m + (p - 1 - c)) / p ≤ t - 1 := fun h => by
    have := (gal c m (t - 1) hp hq).mpr h
    omega
  omega
theorem fs_const (k : Nat) (a b m v : Int) (h : ∀ i : Nat, i < k → (a * i + b) / m = v) : fs k a b m = k * v := by
  induction k with
  | zero => simp [fs]
  | succ k ih =>
    show fs k a b m + (a * k + b) / m = ((k + 1 : Nat) : Int) * v
    rw [ih (fun i hi => h i (by omega)), h k (by omega), Int.natCast_add, Int.natCast_one, Int.add_mul]
    omega
/-- the sum of the counts of a range by the times of its events -/
theorem fs_dual (p q c s : Int) (hp : 1 ≤ p) (hq : 1 ≤ q) (n : Nat) :
    fs n p (p * s + c) q = n * ((p * (s - 1) + c) / q) + ((p * (s + n - 1) + c) / q - (p * (s - 1) + c) / q) * (s + n) - fs ((p * (s + n - 1) + c) / q - (p * (s - 1) + c) / q).toNat q (q * ((p * (s - 1) + c) / q + 1) + (p - 1 - c)) p := by
  induction n with
  | zero =>
    rw [show s + ((0 : Nat) : Int) - 1 = s - 1 by omega, Int.sub_self]
    simp [fs]
  | succ n ih =>
    show fs n p (p * s + c) q + (p * n + (p * s + c)) / q = _
    rw [ih]
    have e0 : p * (n : Int) + (p * s + c) = p * (s + ((n + 1 : Nat) : Int) - 1) + c := by
      rw [show s + ((n + 1 : Nat) : Int) - 1 = s + n by omega, Int.mul_add]
      omega
    rw [e0]
    have m1 : (p * (s - 1) + c) / q ≤ (p * (s + n - 1) + c) / q := ct_mono (by omega) hq (by omega)
    have m2 : (p * (s + n - 1) + c) / q ≤ (p * (s + ((n + 1 : Nat) : Int) - 1) + c) / q := ct_mono (by omega) hq (by omega)
    have key : ∀ i : Nat, (i : Int) < (p * (s + ((n + 1 : Nat) : Int) - 1) + c) / q - (p * (s + n - 1) + c) / q → (q * ((p * (s + n - 1) + c) / q + 1 + i) + (p - 1 - c)) / p = s + n := fun i hi => by
      apply ev_at hp hq
      · show (p * (s + n - 1) + c) / q < _
        omega
      · rw [show s + (n : Int) = s + ((n + 1 : Nat) : Int) - 1 by omega] at *
        omega
    generalize hl : (p * (s - 1) + c) / q = low at *
    generalize hh : (p * (s + n - 1) + c) / q = hi at *
    generalize hh2 : (p * (s + ((n + 1 : Nat) : Int) - 1) + c) / q = hi2 at *
    rw [show (hi2 - low).toNat = (hi - low).toNat + (hi2 - hi).toNat by omega, fs_add, show ((hi - low).toNat : Int) = hi - low by omega]
    have fc := fs_const (hi2 - hi).toNat q (q * (hi - low) + (q * (low + 1) + (p - 1 - c))) p (s + n) (fun i h => by
      have := key i (by omega)
      rw [show q * (i : Int) + (q * (hi - low) + (q * (low + 1) + (p - 1 - c))) = q * (hi + 1 + i) + (p - 1 - c) by
        have : q * (hi + 1 + i) = q * i + q * (hi - low) + q * (low + 1) := by rw [← Int.mul_add, ← Int.mul_add]; congr 1; omega
        omega]
      exact this)
    rw [fc, show ((hi2 - hi).toNat : Int) = hi2 - hi by omega]
    rw [show s + ((n + 1 : Nat) : Int) = s + n + 1 by omega, show ((n + 1 : Nat) : Int) = n + 1 by omega]
    generalize s + (n : Int) = x
    have e3 : (hi2 - low) * (x + 1) = hi2 * x - low * x + hi2 - low := by rw [Int.mul_add, Int.sub_mul]; omega
    have e4 : (hi - low) * x = hi * x - low * x := by rw [Int.sub_mul]
    have e5 : (hi2 - hi) * x = hi2 * x - hi * x := by rw [Int.sub_mul]
    have e6 : ((n : Int) + 1) * low = n * low + low := by rw [Int.add_mul, Int.one_mul]
    rw [e3, e4, e5, e6]
    omega
theorem ct_fast {p q c s : Int} (hq : 1 ≤ q) (h : q ≤ p) (n : Nat) : (n : Int) ≤ (p * (s + n) + c) / q - (p * s + c) / q := by
  induction n with
  | zero => simp
  | succ n ih =>
    have : (p * (s + n) + c) / q + 1 ≤ (p * (s + ((n + 1 : Nat) : Int)) + c) / q := by
      have e := div_shift (p * (s + n) + c) 1 q (by omega)
      rw [← e]
      apply Int.ediv_le_ediv (by omega)
      rw [show s + ((n + 1 : Nat) : Int) = s + n + 1 by omega, Int.mul_add p (s + n) 1]
      omega
    omega
theorem ct_slow {p q c s : Int} (hq : 1 ≤ q) (h : p ≤ q) (n : Nat) : (p * (s + n) + c) / q - (p * s + c) / q ≤ n := by
  induction n with
  | zero => simp
  | succ n ih =>
    have : (p * (s + ((n + 1 : Nat) : Int)) + c) / q ≤ (p * (s + n) + c) / q + 1 := by
      have e := div_shift (p * (s + n) + c) 1 q (by omega)
      rw [← e]
      apply Int.ediv_le_ediv (by omega)
      rw [show s + ((n + 1 : Nat) : Int) = s + n + 1 by omega, Int.mul_add p (s + n) 1]
      omega
    omega
end Lf

namespace Lf
open PySem PySem.Spec PyProof.Rows L2
def topS (i : Nat) : Stmt := PySem.Challenge.pw_leapfit_k39_answers_checked.main.body.getD i (.Pass ⟨0, 0, 0, 0⟩)
/-! ### heaps -/
theorem len10 {n : Nat} (h : n ≤ 1000) : n ≤ sizeLine := Nat.le_of_lt (small1000 h)
def penD (l : Addr) (t r : Int) : List (Key × V) := [(Sum.inr "cells", .ref l), (Sum.inr "spot", .int t), (Sum.inr "more", .int r)]
/-- all but the source's own dict stays -/
structure Fr (H H' : Hp) : Prop where
  k : ∀ b o, H b = some o → (∀ x : Addr × Int × Int, o ≠ .dK (penD x.1 x.2.1 x.2.2)) → H' b = some o
theorem Fr.t {H H' : Hp} (f : Fr H H') (b : Addr) (xs : List V) (h : H b = some (.tup xs)) : H' b = some (.tup xs) := f.k b _ h fun _ z => by cases z
theorem Fr.l {H H' : Hp} (f : Fr H H') (b : Addr) (xs : List V) (h : H b = some (.lst xs)) : H' b = some (.lst xs) := f.k b _ h fun _ z => by cases z
theorem Fr.refl (H : Hp) : Fr H H := ⟨fun _ _ h _ => h⟩
theorem Fr.trans {H H1 H2 : Hp} (a : Fr H H1) (b : Fr H1 H2) : Fr H H2 := ⟨fun c o h n => b.k c o (a.k c o h n) n⟩
theorem Fr.same {H H1 : Hp} (a : Same H H1) : Fr H H1 := ⟨fun c o h _ => a c _ h⟩
theorem sm_upd {H : Hp} {p : Addr} {o : HO} (h : H p = none) : Same H (upd H p o) := fun b x e => by
  rw [upd_ne (ne_of_none e h)]
  exact e
theorem Fr.new {H : Hp} {p : Addr} {o : HO} (h : H p = none) : Fr H (upd H p o) := Fr.same (sm_upd h)
theorem Fr.dict {H : Hp} {p l : Addr} {t r : Int} {o : HO} (h : H p = some (.dK (penD l t r))) : Fr H (upd H p o) :=
  ⟨fun b o e n => by rw [upd_ne (ne_of e h (n (l, t, r)))]; exact e⟩
theorem Fr.d0 {H H' : Hp} (f : Fr H H') (b : Addr) (h : H b = some (.dK [])) : H' b = some (.dK []) := f.k b _ h fun _ z => by cases z
/-! ### the source of numbers -/
theorem sct : ¬ ("cells" : Str) = "spot" := by decide +kernel
theorem scr : ¬ ("cells" : Str) = "more" := by decide +kernel
theorem str_ : ¬ ("spot" : Str) = "more" := by decide +kernel
theorem srt : ¬ ("more" : Str) = "spot" := by decide +kernel
theorem kct : ¬ (Sum.inr ("cells" : Str) : Key) = Sum.inr ("spot" : Str) := fun h => sct (Sum.inr.inj h)
theorem kcr : ¬ (Sum.inr ("cells" : Str) : Key) = Sum.inr ("more" : Str) := fun h => scr (Sum.inr.inj h)
theorem ktr : ¬ (Sum.inr ("spot" : Str) : Key) = Sum.inr ("more" : Str) := fun h => str_ (Sum.inr.inj h)
theorem krt : ¬ (Sum.inr ("more" : Str) : Key) = Sum.inr ("spot" : Str) := fun h => srt (Sum.inr.inj h)
theorem dg_rest {H : Hp} {a l : Addr} {t r : Int} (h : H a = some (.dK (penD l t r))) : DGet H a (.str "more") (some (.int r)) := by
  have e : valV (penD l t r) (Sum.inr "more" : Key) = some (.int r) := by
    unfold penD
    rw [valV_neg kcr, valV_neg ktr, valV_pos rfl]
  rw [← e]
  exact DGet.k (k := Sum.inr "more") h
theorem dg_turn {H : Hp} {a l : Addr} {t r : Int} (h : H a = some (.dK (penD l t r))) : DGet H a (.str "spot") (some (.int t)) := by
  have e : valV (penD l t r) (Sum.inr "spot" : Key) = some (.int t) := by
    unfold penD
    rw [valV_neg kct, valV_pos rfl]
  rw [← e]
  exact DGet.k (k := Sum.inr "spot") h
theorem dg_cells {H : Hp} {a l : Addr} {t r : Int} (h : H a = some (.dK (penD l t r))) : DGet H a (.str "cells") (some (.ref l)) := by
  have e : valV (penD l t r) (Sum.inr "cells" : Key) = some (.ref l) := by
    unfold penD
    rw [valV_pos rfl]
  rw [← e]
  exact DGet.k (k := Sum.inr "cells") h
theorem dp_rest {H : Hp} {a l : Addr} {t r y : Int} (h : H a = some (.dK (penD l t r))) : DPut H a (.str "more") (.int y) (upd H a (.dK (penD l t y))) := by
  have e : putK (penD l t r) (Sum.inr "more" : Key) (.int y) = penD l t y := by
    simp [putK, penD, scr, str_]
  rw [← e]
  exact DPut.k (k := Sum.inr "more") h (by show 3 < sizeLine; exact small1000 (by decide))
theorem dp_turn {H : Hp} {a l : Addr} {t r y : Int} (h : H a = some (.dK (penD l t r))) : DPut H a (.str "spot") (.int y) (upd H a (.dK (penD l y r))) := by
  have e : putK (penD l t r) (Sum.inr "spot" : Key) (.int y) = penD l y r := by
    simp [putK, penD, sct, srt]
  rw [← e]
  exact DPut.k (k := Sum.inr "spot") h (by show 3 < sizeLine; exact small1000 (by decide))
/-- where the source stands: its dict, its list of cells -/
structure PA where
  d : Addr
  l : Addr
instance : Coe PA Addr := ⟨PA.d⟩
structure Pen (H : Hp) (a : PA) (n : Nat) : Prop where
  ex : ∃ (cs : List Int) (t r : Int), H a.d = some (.dK (penD a.l t r)) ∧ H a.l = some (.lst (cs.map V.int)) ∧ cs.length ≤ 63 ∧ 0 ≤ t ∧ t ≤ n ∧ 0 ≤ r
theorem Pen.same {H H' : Hp} {a : PA} {n : Nat} (p : Pen H a n) (s : Same H H') : Pen H' a n := by
  obtain ⟨cs, t, r, h1, h2, h3⟩ := p.ex
  exact ⟨cs, t, r, s _ _ h1, s _ _ h2, h3⟩
theorem Pen.new {H : Hp} {a : PA} {p : Addr} {n : Nat} {o : HO} (q : Pen H a n) (h : H p = none) : Pen (upd H p o) a n := q.same (sm_upd h)
theorem Pen.mono {H : Hp} {a : PA} {n m : Nat} (p : Pen H a n) (h : n ≤ m) : Pen H a m := by
  obtain ⟨cs, t, r, h1, h2, h3, h4, h5, h6⟩ := p.ex
  exact ⟨cs, t, r, h1, h2, h3, h4, by omega, h6⟩
theorem Pen.put {H : Hp} {a l : Addr} {cs : List Int} {t r : Int} {n : Nat} {kvs : List (Key × V)} (ha : H a = some (.dK kvs)) (hl : H l = some (.lst (cs.map V.int))) (h1 : cs.length ≤ 63) (h2 : 0 ≤ t) (h3 : t ≤ n) (h4 : 0 ≤ r) :
    Pen (upd H a (.dK (penD l t r))) ⟨a, l⟩ n :=
  ⟨cs, t, r, upd_same, by show upd H a _ l = _; rw [upd_ne (ne_of hl ha (by intro z; cases z))]; exact hl, h1, h2, h3, h4⟩
/-- an address that was free when the source stood already -/
theorem Pen.over {H H' : Hp} {a : PA} {L : Addr} {n m : Nat} {o : HO} (p0 : Pen H a m) (hL : H L = none) (p : Pen H' a n) : Pen (upd H' L o) a n := by
  obtain ⟨_, _, _, g1, g2, _⟩ := p0.ex
  obtain ⟨cs, t, r, h1, h2, h3⟩ := p.ex
  exact ⟨cs, t, r, by rw [upd_ne (ne_of_none g1 hL)]; exact h1, by rw [upd_ne (ne_of_none g2 hL)]; exact h2, h3⟩
theorem Fr.over {H H' : Hp} {L : Addr} {o : HO} (f : Fr H H') (hL : H L = none) : Fr H (upd H' L o) :=
  ⟨fun b o e n => by rw [upd_ne (ne_of_none e hL)]; exact f.k _ _ e n⟩
/-! ### defs by their names -/
def Df (K : PySem.W.Frag) (mg : Str → Option Value) (x : Str) (st : Stmt) (ps : List Str) : Prop := ∃ f fd, Fun K x x st f fd ∧ mg x = some (.ref f) ∧ Binds K fd ps []
structure Bi (mg : Str → Option Value) : Prop where
  len_ : mg "len" = none
  abs_ : mg "abs" = none
  list_ : mg "list" = none
  range_ : mg "range" = none
  sum_ : mg "sum" = none
  repr_ : mg "repr" = none
  max_ : mg "max" = none
  min_ : mg "min" = none
  reversed_ : mg "reversed" = none
  divmod_ : mg "divmod" = none
  isinstance_ : mg "isinstance" = none
  all_ : mg "all" = none
  int_ : mg "int" = none
  bool_ : mg "bool" = none
  tuple_ : mg "tuple" = none
  sorted_ : mg "sorted" = none
  zip_ : mg "zip" = none
  enumerate_ : mg "enumerate" = none
  set_ : mg "set" = none
  str_ : mg "str" = none
theorem bt_len : bootBuiltins ("len" : Str) = Option.some (Value.builtin "len") := by decide +kernel
theorem bt_abs : bootBuiltins ("abs" : Str) = Option.some (Value.builtin "abs") := by decide +kernel
theorem bt_sum : bootBuiltins ("sum" : Str) = Option.some (Value.builtin "sum") := by decide +kernel
theorem bt_repr : bootBuiltins ("repr" : Str) = Option.some (Value.builtin "repr") := by decide +kernel
theorem bt_max : bootBuiltins ("max" : Str) = Option.some (Value.builtin "max") := by decide +kernel
theorem bt_min : bootBuiltins ("min" : Str) = Option.some (Value.builtin "min") := by decide +kernel
theorem bt_divmod : bootBuiltins ("divmod" : Str) = Option.some (Value.builtin "divmod") := by decide +kernel
theorem bt_isinstance : bootBuiltins ("isinstance" : Str) = Option.some (Value.builtin "isinstance") := by decide +kernel
theorem bt_all : bootBuiltins ("all" : Str) = Option.some (Value.builtin "all") := by decide +kernel
theorem bt_set : bootBuiltins ("set" : Str) = Option.some (Value.type "set") := by decide +kernel
theorem bt_str : bootBuiltins ("str" : Str) = Option.some (Value.type "str") := by decide +kernel
theorem bt_sorted : bootBuiltins ("sorted" : Str) = Option.some (Value.builtin "sorted") := by decide +kernel
theorem bt_list : bootBuiltins ("list" : Str) = Option.some (Value.type "list") := by decide +kernel
theorem bt_int : bootBuiltins ("int" : Str) = Option.some (Value.type "int") := by decide +kernel
theorem bt_bool : bootBuiltins ("bool" : Str) = Option.some (Value.type "bool") := by decide +kernel
theorem bt_tuple : bootBuiltins ("tuple" : Str) = Option.some (Value.type "tuple") := by decide +kernel
section
variable {P : Program} {w : World} {K : PySem.W.Frag} {mg : Str → Option Value} {base : Heap}
theorem cal_of {x : Str} {st : Stmt} {N ps : List Str} {k : Nat} {sp : Sp} (D : Df K mg x st ps) (S : FnScope N ps (defScope st)) (len : ∀ vs H Q E, sp vs H Q E → vs.length = ps.length)
    (hb : ∀ (f : Addr) (cdv : Value) (A : Around) (outer : List Env) (s : Shared) (H : Hp) (vs : List V) (Q : VK) (E : XK), Room k (A.deeper (envOfC x (defScope st) s.heap.objs.size f cdv)) → sp vs H Q E →
      ∃ t, PSs (cxOf CX0 P w K mg base N x (defScope st) f cdv A outer s H E).nox (defBody st) t ∧ t { nx := fun _ H' => Q .non H', rt := Q } (start N vs) H) : C8.Cal P w K mg base (k + 1) x sp [] := by
  obtain ⟨f, fd, F, hm, b⟩ := D
  exact ⟨⟨f, fd, ps, [], F.ok S len (fun cdv A outer s H vs Q E hr h => hb f cdv A outer s H vs Q E hr h), hm, F.kp, b, .nil⟩⟩
/-- the same, its own row known (for calls with keywords) -/
def CalF (P : Program) (w : World) (K : PySem.W.Frag) (mg : Str → Option Value) (base : Heap) (k : Nat) (x : Str) (st : Stmt) (ps : List Str) (sp : Sp) : Prop :=
  ∃ f fd, Fun K x x st f fd ∧ mg x = some (.ref f) ∧ FnOk P w K mg base CX0 k f fd ps sp ∧ Binds K fd ps []
theorem calF_of {x : Str} {st : Stmt} {N ps : List Str} {k : Nat} {sp : Sp} (D : Df K mg x st ps) (S : FnScope N ps (defScope st)) (len : ∀ vs H Q E, sp vs H Q E → vs.length = ps.length)
    (hb : ∀ (f : Addr) (cdv : Value) (A : Around) (outer : List Env) (s : Shared) (H : Hp) (vs : List V) (Q : VK) (E : XK), Room k (A.deeper (envOfC x (defScope st) s.heap.objs.size f cdv)) → sp vs H Q E →
      ∃ t, PSs (cxOf CX0 P w K mg base N x (defScope st) f cdv A outer s H E).nox (defBody st) t ∧ t { nx := fun _ H' => Q .non H', rt := Q } (start N vs) H) : CalF P w K mg base (k + 1) x st ps sp := by
  obtain ⟨f, fd, F, hm, b⟩ := D
  exact ⟨f, fd, F, hm, F.ok S len (fun cdv A outer s H vs Q E hr h => hb f cdv A outer s H vs Q E hr h), b⟩
theorem CalF.cal {x : Str} {st : Stmt} {ps : List Str} {k : Nat} {sp : Sp} (c : CalF P w K mg base k x st ps sp) : C8.Cal P w K mg base k x sp [] := by
  obtain ⟨f, fd, F, hm, G, b⟩ := c
  exact ⟨⟨f, fd, ps, [], G, hm, F.kp, b, .nil⟩⟩
/-! ### _law_pen -/
theorem cut_ints (ns : List Int) : ∃ cs : List Int, cutV (ns.map V.int) none (some 63) = cs.map V.int ∧ cs.length ≤ 63 := by
  refine ⟨ns.take 63, ?_, by rw [List.length_take]; omega⟩
  unfold cutV
  rw [HT.sIx_none, show HT.sIx (ns.map V.int).length (ns.map V.int).length (some 63) = min 63 (ns.map V.int).length from HT.sIx_nat _ _ 63]
  rw [List.drop_zero, Nat.sub_zero, List.map_take, List.length_map]
  by_cases h : 63 ≤ ns.length
  · rw [Nat.min_eq_left h]
  · rw [Nat.min_eq_right (by omega), List.take_of_length_le (by rw [List.length_map]; omega), List.take_of_length_le (by rw [List.length_map]; omega)]
def spPen (K : PySem.W.Frag) : Sp := fun vs H Q _ => ∃ (s : Addr) (ns : List Int), vs = [.ref s] ∧ SqL K H s (ns.map V.int) ∧ ∀ (a : PA) H', Pen H' a 0 → Same H H' → Q (.ref a) H'
abbrev s_l_pen : Stmt := topS 40
abbrev N_l_pen : List Str := ["_law_script"]
abbrev P_l_pen : List Str := ["_law_script"]
theorem sc_l_pen : FnScope N_l_pen P_l_pen (defScope s_l_pen) := ⟨rfl, rfl, rfl, by decide +kernel, rfl, by decide +kernel, by decide +kernel⟩
theorem ok_l_pen (D : Df K mg "_law_pen" s_l_pen P_l_pen) (B : Bi mg) : C8.Cal P w K mg base 1 "_law_pen" (spPen K) [] := by
  refine cal_of D sc_l_pen (fun vs H Q E h => ?_) (fun f cdv A outer s H vs Q E hr h => ?_)
  · obtain ⟨a, ns, rfl, _⟩ := h
    rfl
  · obtain ⟨a, ns, rfl, hS, q⟩ := h
    refine ⟨_, (pss_one (ps_ret (pe_disp (pps_cons pe_str (pe_callTy (call_list_of) (by rfl) B.list_ bt_list (pa_cons (pe_slice sl_list (pv 0) po_none (po_some pe_int)) pa_nil)) (pps_cons pe_str pe_int (pps_cons pe_str pe_int pps_nil))) (by rfl) (by rfl) (fun z => by cases z) (by decide)))), ?_⟩
    refine fun p np => ?_
    have s1 : Same H (upd H p (.dK [])) := sm_upd np
    refine ⟨_, rfl, 63, rfl, a, _, rfl, s1.seq hS, fun c nc => ?_⟩
    obtain ⟨cs, ec, hc⟩ := cut_ints ns
    rw [ec]
    refine ⟨c, _, rfl, .inl (SqL.of upd_same), fun l nl => ?_⟩
    have ncp : p ≠ c := ne_of_none upd_same nc
    have nlc : c ≠ l := ne_of_none upd_same nl
    have nlp : p ≠ l := ne_of_none (by rw [upd_ne ncp]; exact upd_same) nl
    refine ⟨by rw [upd_ne nlp, upd_ne ncp, upd_same], penD l 0 0, rfl, by show 3 ≤ 15; decide, ?_⟩
    have e : mergeK [] (penD l 0 0) = penD l 0 0 := by
      simp [mergeK, penD, putK, sct, scr, str_]
    rw [e]
    refine q ⟨p, l⟩ _ ⟨cs, 0, 0, upd_same, ?_, hc, by omega, by omega, by omega⟩ ?_
    · show upd _ p _ l = _
      rw [upd_ne nlp.symm, upd_same]
    · intro b o eb
      have nb : b ≠ p := ne_of_none eb np
      have nb2 : b ≠ c := ne_of_none (s1 _ _ eb) nc
      have nb3 : b ≠ l := ne_of_none (sm_upd nc _ _ (s1 _ _ eb)) nl
      rw [upd_ne nb, upd_ne nb3, upd_ne nb2, upd_ne nb]
      exact eb
end
end Lf
namespace Lf
open PySem PySem.Spec PyProof.Rows L2
/-! ### a try that catches, and keeps the exception in a name -/
abbrev dead : Ends := { nx := fun _ _ => False, rt := fun _ _ => False }
/-- the wish: the clause's class; then the suite; then, with the exception known, what follows -/
def wKeep (K : PySem.W.Frag) (c : Value) (i : Nat) (ts : Addr → TS) (go : Addr → Value → Option Addr → L2.St → Hp → Prop) : WX := fun cls d σ H =>
  PySem.W.exmOne K cls c = some true ∧ ∀ a, H a = none → ts a { nx := fun σ' H' => go a cls d (σ'.set i none) H', rt := fun _ _ => False } (σ.set i (some (.ref a))) H
/-- slots are as many as names -/
theorem takes_len {X : Cx} {W : WX} (t : Takes X W) : Takes X (fun cls d σ H => σ.length = X.N.length → W cls d σ H) := fun u s' ⟨a, B, sI, pins, σ, H, cls, d, e, I, nb, up, sky, na, os, ag, ww⟩ =>
  t u s' ⟨a, B, sI, pins, σ, H, cls, d, e, I, nb, up, sky, na, os, ag, ww I.len⟩
section
variable {X : Cx} {pins : List (Addr × Obj)} {σ : L2.St} {H : Hp} {s : Shared}
/-- an exception's object, known from now on -/
theorem pin_in (J : Inv X pins σ H s) {a : Addr} {oe : Obj} {vs : Array Value} (ge : s.heap.get? a = some oe) (dt : oe.data = .fields vs) (na : H a = none) (n1 : a ≠ X.env.locals) (n2 : a ∉ X.fs) : Inv (X.tr ((a, oe) :: (X.pn ++ pins)) X.xe) [] σ H s := by
  refine ⟨J.ok.toTry _ _, J.os, J.bare, J.base, J.loc, J.cell, J.free, J.freeC, fun p hp => ?_, J.hok, J.len⟩
  rw [List.append_nil] at hp
  rcases List.mem_cons.mp hp with rfl | hp
  · refine ⟨ge, na, n1, n2, fun v z => ?_⟩
    have z : oe.data = .cell v := z
    rw [dt] at z
    cases z
  · exact J.pin p hp
theorem pin_out {a : Addr} {oe : Obj} {pn : List (Addr × Obj)} (ok : X.Ok) (J : Inv (X.tr ((a, oe) :: (X.pn ++ pins)) X.xe) pn σ H s) : Inv X pins σ H s :=
  ⟨ok, J.os, J.bare, J.base, J.loc, J.cell, J.free, J.freeC, fun p hp => J.pin p (List.mem_append.mpr (.inl (List.mem_cons_of_mem _ hp))), J.hok, J.len⟩
theorem out_suite {a : Addr} {oe : Obj} {pn : List (Addr × Obj)} (ok : X.Ok) (J : Inv (X.suite a ((a, oe) :: (X.pn ++ pins))) pn σ H s) : Inv (X.tr ((a, oe) :: (X.pn ++ pins)) X.xe) [] σ H s :=
  ⟨ok.toTry _ _, J.os, J.bare, J.base, J.loc, J.cell, J.free, J.freeC, fun p hp => J.pin p (List.mem_append.mpr (.inl (by rw [List.append_nil] at hp; exact hp))), J.hok, J.len⟩
end
section
variable {X : Cx} {x n : Str} {c : Value} {i : Nat} {body suite rest : List Stmt} {b0 : Stmt} {np po pq : Pos} {tb : WX → TS} {ts : Addr → TS} {tr : Addr → Value → Option Addr → TS}
theorem pss_keep (stk : X.stack = X.env :: X.outer) (fr : X.env.frame = some X.env.locals) (nd : X.N.Nodup) (ni : X.N[i]? = some n) (kn : X.env.kindOf n = some .local) (hc : Names X x c)
    (hb : ∀ (W : WX) (pn : List (Addr × Obj)) (xe : Value → Shared → Prop), Takes (X.tr pn xe) W → PSs (X.tr pn xe) body (tb W))
    (hsu : ∀ (a : Addr) (oe : Obj) (pn : List (Addr × Obj)), PSs (X.suite a ((a, oe) :: pn)) (b0 :: suite) (ts a))
    (hre : ∀ (a : Addr) (oe : Obj) (cls : Value) (d : Option Addr) (pn : List (Addr × Obj)), Zc cls d oe → (∃ vs, oe.data = .fields vs) → PSs (X.tr ((a, oe) :: pn) X.xe) rest (tr a cls d)) :
    PSs X (.Try body [.ExceptHandler (some (.Name x np)) (some n) (b0 :: suite) pq] [] [] po :: rest) (fun D σ H => tb (wKeep X.K c i ts (fun a cls d σ' H' => tr a cls d D σ' H')) dead σ H) := by
  refine ⟨fun pins s σ H D I h => wpAny_execs_cons (wpAny_Try_except ?_)⟩
  have ok := I.ok
  have frm : X.A.frames = some (X.env :: X.outer) := by rw [ok.frames, stk]
  refine wpAny_mono ((hb (wKeep X.K c i ts (fun a cls d σ' H' => tr a cls d D σ' H')) (X.pn ++ pins) _ (fun u s' air => ?_)).run [] s σ H dead (I.toTry _) h) (fun f s1 z => ?_) (fun e s1 he => he)
  · obtain ⟨a, B, sI, pins', σ1, H1, cls, d, rfl, J0, nb, up, sky, na, os, ag, em, go⟩ := air
    have J : Inv X pins σ1 H1 sI := J0.ofTry ok
    rw [stk] at sky
    refine Sky.land Zc.steady frm fr sky fun h3 f3 u3 => ?_
    have J3 : Inv X pins σ1 H1 { s' with heap := h3 } := J.landed nb f3.1 (up.trans u3) os ag
    obtain ⟨o3, v3, g3, z3, d3⟩ := f3.there
    have nf : a ∉ frs (X.env :: X.outer) := fun hm => by
      obtain ⟨_, o', e', hn⟩ := f3.2.2.1.mem hm
      rw [g3] at e'
      cases e'
      exact hn _ d3
    have n1 : a ≠ X.env.locals := fun z => nf (List.mem_filterMap.mpr ⟨X.env, List.mem_cons_self, by rw [fr, z]⟩)
    have n2 : a ∉ X.fs := fun hm => by
      obtain ⟨e, he, q⟩ := List.mem_filterMap.mp hm
      exact nf (List.mem_filterMap.mpr ⟨e, List.mem_cons_of_mem _ he, q⟩)
    have S3 := J3.suite g3 d3 na n1 n2
    refine wpAny_handleBy_cons (codeAny_handlers_test ?_) (by intro q; cases q)
    have lt : PySem.W.Looks (model X.prog X.w) h3 (typeOf (.ref a)) cls := fun A Q E s k q => wpAny_typeOf_ref (k _ _ g3) (by rw [z3.1]; exact q)
    have lm := PySem.W.exm_one (M := model X.prog X.w) J3.kIn lt em
    have seen : ∀ {Q : Value → Shared → Prop} {E : Value → Shared → Prop}, Q c { s' with heap := h3 } → wpAny (model X.prog X.w) (X.A.mark (some (.ref a))) (eval (.Name x np) X.env) Q E { s' with heap := h3 } := fun {Q E} q => by
      obtain ⟨hg, hd, hm | ⟨hm, hv, hw⟩⟩ := hc
      · exact ld_glob S3 hg hm q hd
      · exact ld_blt S3 hg hm hv q hw hd
    refine seen (lm.here (codeAny_handlers_suite_as (HandSPX.lands_againZ f3 fun h4 f4 u4 => ?_)))
    have J4 : Inv X pins σ1 H1 { s' with heap := h4 } := J.landed nb f4.1 ((up.trans u3).trans u4) os ag
    obtain ⟨o4, v4, g4, z4, d4⟩ := f4.there
    have S4 := J4.suite g4 d4 na n1 n2
    refine store_ok (X := X.suite a ((a, o4) :: (X.pn ++ pins))) (v := .ref a) S4 nd ni (.inl kn) rfl (fun s5 S5 => ?_) (.inr kn)
    refine wpAny_mono ((hsu a o4 (X.pn ++ pins)).run [] s5 _ H1 _ S5 (go a na)) (fun f s6 q => ?_) (fun _ _ z => False.elim z)
    cases f with
    | next =>
      obtain ⟨σ6, H6, S6, q6⟩ := q
      refine gone_ok (X := X.tr ((a, o4) :: (X.pn ++ pins)) X.xe) (out_suite ok S6) nd ni kn fun s7 J7 => ?_
      refine wpAny_mono ((hre a o4 cls d (X.pn ++ pins) z4 ⟨_, d4⟩).run [] s7 _ H6 D J7 q6) (fun f s8 r => ?_) (fun _ _ z => z)
      cases f with
      | next =>
        obtain ⟨σ8, H8, J8, q8⟩ := r
        exact ⟨σ8, H8, pin_out ok J8, q8⟩
      | brk =>
        obtain ⟨σ8, H8, J8, q8⟩ := r
        exact ⟨σ8, H8, pin_out ok J8, q8⟩
      | cont =>
        obtain ⟨σ8, H8, J8, q8⟩ := r
        exact ⟨σ8, H8, pin_out ok J8, q8⟩
      | ret u =>
        obtain ⟨v8, σ8, H8, J8, r8, q8⟩ := r
        exact ⟨v8, σ8, H8, pin_out ok J8, r8, q8⟩
    | brk =>
      obtain ⟨_, _, _, q6⟩ := q
      exact False.elim q6
    | cont =>
      obtain ⟨_, _, _, q6⟩ := q
      exact False.elim q6
    | ret u =>
      obtain ⟨_, _, _, _, _, q6⟩ := q
      exact False.elim q6
  · cases f with
    | next =>
      obtain ⟨_, _, _, q6⟩ := z
      exact False.elim q6
    | brk =>
      obtain ⟨_, _, _, q6⟩ := z
      exact False.elim q6
    | cont =>
      obtain ⟨_, _, _, q6⟩ := z
      exact False.elim q6
    | ret u =>
      obtain ⟨_, _, _, _, _, q6⟩ := z
      exact False.elim q6
end
/-! ### isinstance of a known exception -/
/-- by one class, or by a tuple of classes -/
def rIsK (K : PySem.W.Frag) (D a : Addr) : List V → Hp → VK → Prop := fun xs H Q => ∃ (y : V) (b : Bool), xs = [.ref a, y] ∧ Q (.bl b) H ∧
  ((∃ cv, (∀ u, RelV y u → u = cv) ∧ PySem.W.kitOne K (.ref D) cv = some b) ∨ ∃ (tp : Addr) (cs : List Addr), y = .ref tp ∧ SqT K H tp (cs.map V.ref) ∧ PySem.W.kitAny K (.ref D) (cs.map Value.ref) = some b)
theorem vals_refs : ∀ {cs : List Addr} {us : List Value}, Vals (cs.map V.ref) us → us = cs.map Value.ref
  | [], _, r => by cases r; rfl
  | c :: cs, _, r => by
    cases r with
    | cons r1 r2 =>
      rw [vals_refs r2]
      cases r1
      rfl
theorem call_isK {X : Cx} {a D : Addr} {oe : Obj} {pn : List (Addr × Obj)} {xe : Value → Shared → Prop} (C : ExcC X.K D) (hz : Zc (.ref D) none oe) (hf : ∃ vs, oe.data = .fields vs) : CallR (X.tr ((a, oe) :: pn) xe) (.builtin "isinstance") (rIsK X.K D a) := by
  intro pins s σ H xs us Q I r h
  obtain ⟨y, b, rfl, q, h⟩ := h
  cases r with
  | cons rx rr =>
    cases rr with
    | cons rt rr =>
      cases rr
      cases rx
      obtain ⟨ge, _⟩ := I.pin (a, oe) (List.mem_append.mpr (.inl List.mem_cons_self))
      obtain ⟨vs, hv⟩ := hf
      have J : PySem.W.InstAt s.heap a oe D none := by
        obtain ⟨oc, od, oda, osl⟩ := oe
        obtain ⟨h1, h2⟩ := hz
        dsimp only at h1 h2 hv
        subst h1 h2 hv
        exact ⟨ge, rfl, rfl, trivial⟩
      have kx := PySem.W.handS_kitx_exc (x := a) (ox := oe) C.hg C.hk C.hs C.hd C.ha C.hn C.ht C.hm
      rcases h with ⟨cv, hcv, e⟩ | ⟨tp, cs, rfl, hT, e⟩
      · have ec := hcv _ rt
        subst ec
        exact PySem.W.kia_one kx I.kIn J e (fun z => nomatch z) fun tk => ⟨.bl b, H, I.kept (t' := tk) fun _ _ z => z, rfl, q⟩
      · obtain ⟨its, rv, ⟨o, e1, e2, nn, e3⟩, _⟩ := I.tuple hT
        have ei := vals_refs rv
        subst ei
        cases rt
        obtain ⟨oc, od, oda, osl⟩ := o
        dsimp only at e2 e3
        subst e2 e3
        exact PySem.W.kia_tup kx I.kIn J e1 e (fun z => nomatch z) fun tk => ⟨.bl b, H, I.kept (t' := tk) fun _ _ z => z, rfl, q⟩
/-! ### an own exception without arguments, made -/
theorem pmk_none {X : Cx} {C : Addr} {bmB : List Value} {B newId initId : String} {x : Str} {p po : Pos} (F : ExcBaseFacts B newId initId bmB) (q : PySem.W.excIn X.K C bmB newId = true) (gC : X.mg x = some (.ref C)) (kC : PySem.W.keepIn X.K (.ref C) = true) (r : Raises X (.ref C)) (hg : Gl X x)
    (hdb : (x == ("__debug__" : Str)) = false := by decide) : PMk X (.Call (.Name x p) [] [] po) (fun _ H Q => Q (.ref C) none H) := by
  intro pins s σ H Q I h
  refine wpAny_Call_Name_kw (ld_glob I hg gC ?_ hdb)
  refine PySem.W.callWith_K0 I.kIn kC ?_
  show wpAny _ _ (call (.ref C) []) _ _ _
  obtain ⟨bm, N, nm, qn, bs, hdct, sn, sub, ab, col, dd, k0, k1, k2, k3, k5, mN, hC, hN, hni, T⟩ := exc_obj I.kIn q
  refine wpAny_call_exc_subT F T hC hN hni (fun h' e hm => ?_) (by show 0 ≤ sizeLine; omega)
  exact mk_of I hm r h (I.hok.gone hm.new)
/-! ### what the top tells of the class NoEvents, at C, and of the classes beside it -/
structure NoEv (K : PySem.W.Frag) (mg : Str → Option Value) (C : Addr) : Prop where
  gC : mg "NoEvents" = some (.ref C)
  kC : PySem.W.keepIn K (.ref C) = true
  xi : PySem.W.excIn K C [.type "ValueError", .type "Exception", .type "BaseException", .type "object"] "ValueError.__new__" = true
  ex : ExcC K C
  ty : PySem.W.typeIn K (.ref C) = some (.type "type")
  sf : PySem.W.subIn K (.ref C) (.ref C) = some true
structure NoEvB (K : PySem.W.Frag) (mg : Str → Option Value) (C L N R E I : Addr) : Prop where
  gL : mg "LeapfitError" = some (.ref L)
  gN : mg "InvalidNumber" = some (.ref N)
  gR : mg "InvalidRule" = some (.ref R)
  gE : mg "NoRule" = some (.ref E)
  gI : mg "InvalidCounts" = some (.ref I)
  bV : mg "ValueError" = none
  oL : PySem.W.kitOne K (.ref C) (.ref L) = some true
  oV : PySem.W.kitOne K (.ref C) (.type "ValueError") = some true
  oN : PySem.W.kitAny K (.ref C) [.ref N, .ref R, .ref E, .ref I] = some false
theorem NoEv.raises {X : Cx} {C : Addr} (T : NoEv X.K X.mg C) : Raises X (.ref C) := raises_own T.ex.hs T.ty
theorem NoEv.meets {K : PySem.W.Frag} {mg : Str → Option Value} {C : Addr} (T : NoEv K mg C) : PySem.W.exmOne K (.ref C) (.ref C) = some true := PySem.W.exm_ref T.ex.hs T.ex.hd T.ty T.sf
/-- a def that raises, by its name -/
def CalX (P : Program) (w : World) (K : PySem.W.Frag) (mg : Str → Option Value) (base : Heap) (k : Nat) (x : Str) (sp : Sp) : Prop :=
  ∃ f fd ps, FnOk P w K mg base (L2.CX P w) k f fd ps sp ∧ mg x = some (.ref f) ∧ PySem.W.keepIn K (.ref f) = true ∧ Binds K fd ps []
theorem calx_of {P : Program} {w : World} {K : PySem.W.Frag} {mg : Str → Option Value} {base : Heap} {x : Str} {st : Stmt} {N ps : List Str} {k : Nat} {sp : Sp} (D : Df K mg x st ps) (S : FnScope N ps (defScope st)) (len : ∀ vs H Q E, sp vs H Q E → vs.length = ps.length)
    (hb : ∀ (f : Addr) (cdv : Value) (A : Around) (outer : List Env) (s : Shared) (H : Hp) (vs : List V) (Q : VK) (E : XK), Room k (A.deeper (envOfC x (defScope st) s.heap.objs.size f cdv)) → sp vs H Q E →
      ∃ t, PSs (cxOf (L2.CX P w) P w K mg base N x (defScope st) f cdv A outer s H E) (defBody st) t ∧ t { nx := fun _ H' => Q .non H', rt := Q } (start N vs) H) : CalX P w K mg base (k + 1) x sp := by
  obtain ⟨f, fd, F, hm, b⟩ := D
  exact ⟨f, fd, ps, F.okX S len (fun cdv A outer s H vs Q E hr h => hb f cdv A outer s H vs Q E hr h), hm, F.kp, b⟩
section
variable {X : Cx} {x : Str} {sp : Sp} {W : WX} {j k : Nat} {e : Expr} {es : List Expr} {t : TA} {p po : Pos}
/-- it is called where what it raises is taken -/
theorem pe_cx (c : CalX X.prog X.w X.K X.mg X.base k x sp) (hr : Room j X.A) (hk : k ≤ j) (tk : Takes X W) (hg : Gl X x) (ha : L2.PA X (e :: es) t)
    (hdb : (x == ("__debug__" : Str)) = false := by decide) (he : starEach (e :: es) X.env = (false, eval e X.env) :: starEach es X.env := by rfl) (hpl : (backTo po (starEach es X.env)).any (·.1) = false := by rfl) :
    PE X (.Call (.Name x p) (e :: es) [] po) (tCallS sp (WE W) t) := by
  obtain ⟨f, fd, ps, F, hm, kp, b⟩ := c
  exact pe_callS F (hr.mono hk) hg hm kp b (fun σ => passAt tk σ) ha hdb he hpl
end
end Lf
namespace Lf
open PySem PySem.Spec PyProof.Rows L2
/-! ### a def called where no repr is under way -/
structure FnG (P : Program) (w : World) (K : PySem.W.Frag) (mg : Str → Option Value) (base : Heap) (k : Nat) (f : Addr) (fd : FuncData) (ps : List Str) (sp : Sp) : Prop where
  lenG : ∀ vs H Q E, sp vs H Q E → vs.length = ps.length
  runG : ∀ (A : Around) (out : List Env) (sh : Shared) (H : Hp) (ar : Args) (us : List Value) (vs : List V) (Q : VK) (E : XK), Room k A → A.guards = some [] → Env0 P w K mg base A out sh H → BindsTo sh fd ar (ps.zip us) → Vals vs us → sp vs H Q E →
    codeAny (model P w) A (.call (.ref f) ar) (CR CX0 out P w H sh Q E) sh
theorem fnG_of {P : Program} {w : World} {K : PySem.W.Frag} {mg : Str → Option Value} {base : Heap} {x qual : Str} {st : Stmt} {f : Addr} {fd : FuncData} {N ps : List Str} {k : Nat} {sp : Sp} (F : Fun K x qual st f fd) (S : FnScope N ps (defScope st)) (ln : ∀ vs H Q E, sp vs H Q E → vs.length = ps.length)
    (bd : ∀ (cdv : Value) (A : Around) (out : List Env) (sh : Shared) (H : Hp) (vs : List V) (Q : VK) (E : XK), Room k (A.deeper (envOfC qual (defScope st) sh.heap.objs.size f cdv)) → A.guards = some [] → sp vs H Q E →
      ∃ t, PSs (cxOf CX0 P w K mg base N qual (defScope st) f cdv A out sh H E).nox (defBody st) t ∧ t { nx := fun _ H' => Q .non H', rt := Q } (start N vs) H) : FnG P w K mg base (k + 1) f fd ps sp := by
  obtain ⟨oc, od, kV, doc, pm, an, cdv, ct, osl, rfl, lkp, cin⟩ := F.ex
  refine ⟨ln, fun A out sh H ar us vs Q E rm gd en bnd rel pr => ?_⟩
  have lv := ln _ _ _ _ pr
  have inK : K.In sh.heap := en.mod.kin.keeps fun b o e => (en.bs b o e).1
  have nol : sh.heap.NoLimit := en.mod.nolimit.keeps fun b o e => (en.bs b o e).1
  have knd : ∀ y ∈ ps.zip us, (defScope st).names.lookup y.1 = some .local ∨ ((defScope st).names.lookup y.1 = some .cell ∧ ((cellsFrom (sh.heap.objs.size + 1) (defScope st).names []).lookup y.1).isSome = true) := fun ⟨n, v⟩ hy => by
    rcases S.par n (List.of_mem_zip hy).1 with z | z
    · exact .inl z
    · exact .inr ⟨z, PySem.W.cellsFrom_some _ _ _ (.inl z)⟩
  refine codeAny_call_function rm.depth (inK _ _ lkp) rfl S.co S.gen rfl (PySem.W.codeRec_of inK cin) (bnd _ _ _ _ ?_)
  refine wpAny_newFunctionEnv_cells S.kind knd fun env he sh1 x1 => ?_
  subst he
  refine ⟨nol.keeps x1.toInCall.keep, codeAny_func ?_⟩
  obtain ⟨t, ht, hq⟩ := bd cdv A out sh H vs Q E (rm.deeper _) gd pr
  have inv := inv_start (CX := CX0) (P := P) (w := w) (K := K) (mg := mg) (base := base) (E := E) (f := f) (cd := cdv) (qual := qual) S rm.hd en lv rel x1
  refine wpAny_mono (ht.nox.run [] sh1 (start N vs) H _ inv hq) (fun fl sh' hs => ?_) fun e sh' hs => hs
  cases fl with
  | ret u =>
    obtain ⟨v, σ', H', J, rv, z⟩ := hs
    exact ⟨v, H', J.os, J.bare, J.base, J.hok, rv, z⟩
  | next =>
    obtain ⟨σ', H', J, z⟩ := hs
    exact ⟨V.non, H', J.os, J.bare, J.base, J.hok, rfl, z⟩
  | brk =>
    obtain ⟨_, _, _, z⟩ := hs
    exact False.elim z
  | cont =>
    obtain ⟨_, _, _, z⟩ := hs
    exact False.elim z
/-- the law called, at the heap behind the top -/
theorem lawG {P : Program} {w : World} {K : PySem.W.Frag} {mg mb : Str → Option Value} {k : Nat} {fa ad : Addr} {fd : FuncData} {x : Str} {sp : Sp} {sh : Shared} {vs : List Value} {ns : List Int}
    (inK : K.In sh.heap) (nsm : sh.heap.Ns mainGlobals mg) (nsb : sh.heap.Ns builtinsNs mb) (bb : ∀ x : Str, x ≠ "__name__" → mb x = bootBuiltins x) (nol : sh.heap.NoLimit) (gn : sh.gens = #[])
    (ga : sh.heap.get? ad = some { cls := .type "list", data := .seq vs.toArray }) (isI : IntsAre vs ns) (len : ns.length ≤ sizeLine) (rm : Room k callerA)
    (F : ∀ base : Heap, K.In base → base.Ns mainGlobals mg → FnG P w K mg base k fa fd [x] sp) (bnd : ∀ (s : Shared) (u : Value), BindsTo s fd ⟨[u], []⟩ [(x, u)])
    (pr : ∀ H : Hp, SqL K H ad (ns.map V.int) → sp [.ref ad] H (fun v _ => v = .bl true) fun _ _ _ => False) :
    codeAny (model P w) callerA (.call (.ref fa) ⟨[.ref ad], []⟩) (fun r sh' => r = .ok (.ret (.bool true)) ∧ OldK sh.heap sh'.heap ∧ sh'.os = sh.os ∧ AllBare sh'.gens) sh := by
  have rel := vals_ints isI
  have lnv := isI.length
  have main : ∀ H : Hp, Only H → SqL K H ad (ns.map V.int) → HOk P w H sh.heap → (∀ b, H b ≠ none → b = ad) → (H ad ≠ none → K.lookup ad = none) →
      codeAny (model P w) callerA (.call (.ref fa) ⟨[.ref ad], []⟩) (fun r sh' => r = .ok (.ret (.bool true)) ∧ OldK sh.heap sh'.heap ∧ sh'.os = sh.os ∧ AllBare sh'.gens) sh := by
    intro H only seq hok one nk
    have lay : ∀ {b : Addr} {o : Obj}, sh.heap.get? b = some o → H b = none → (hidT sh.heap H).get? b = some o := fun e n => hidT_get e n
    have nod : ∀ {b : Addr} {o : Obj} {es : Array DictEntry} {ep : Nat}, sh.heap.get? b = some o → o.data = .dict es ep → H b = none := fun {b o es ep} e d => by
      cases z : H b with
      | none => rfl
      | some u =>
        have eb : b = ad := one b (by rw [z]; simp)
        subst eb
        rw [ga] at e
        cases e
        exact (nomatch (show Data.seq vs.toArray _ = Data.dict es ep from d))
    have nsL : ∀ {b : Addr} {m : Str → Option Value}, sh.heap.Ns b m → (hidT sh.heap H).Ns b m := fun {b m} ⟨o, es, ep, e, d, r⟩ => ⟨o, es, ep, lay e (nod e d), d, r⟩
    have inB : K.In (hidT sh.heap H) := fun b o e => lay (inK b o e) (by
      cases z : H b with
      | none => rfl
      | some u =>
        have eb : b = ad := one b (by rw [z]; simp)
        subst eb
        rw [nk (by rw [z]; simp)] at e
        cases e)
    have md : Mod K mg (hidT sh.heap H) := ⟨inB, nsL nsm, ⟨mb, nsL nsb, bb⟩, let ⟨mc, h1, h2⟩ := nol; ⟨mc, nsL h1, h2⟩⟩
    have en : Env0 P w K mg (hidT sh.heap H) callerA [] sh H := ⟨rfl, md, fun b o e => of_hidT e, Nat.le_of_eq (hidT_size _ _), trivial, fun b hb => absurd (show b ∈ ([] : List Addr) from hb) (by simp), hok, .of_eq gn⟩
    refine codeAny_mono ((F _ inB (nsL nsm)).runG callerA [] sh H ⟨[.ref ad], []⟩ [.ref ad] [.ref ad] _ _ rm rfl en (bnd sh (.ref ad)) (.cons rfl .nil) (pr H seq)) fun r sh' h => ?_
    match r, h with
    | .error e, h => exact (show False from h).elim
    | .ok .next, h => exact False.elim h
    | .ok .brk, h => exact False.elim h
    | .ok .cont, h => exact False.elim h
    | .ok (.ret u), h =>
      obtain ⟨v, H', os, bare, un, hok', rv, z⟩ := h
      have z' : v = .bl true := z
      subst z'
      have eu : u = Value.bool true := rv
      subst eu
      refine ⟨rfl, OldK.of_keep (fun b o e => ?_), os, bare⟩
      cases zb : H b with
      | none => exact un.keep b o e zb (fun z => absurd (show b ∈ ([] : List Addr) from z) (by simp)) (by simp)
      | some u =>
        rcases only b with z | ⟨ob, xs, z⟩
        · rw [zb] at z
          cases z
        · have e1 := (hok b _ z).1
          have e2 := (hok' b _ (un.frzs b ob _ z)).1
          rw [e] at e1
          cases e1
          exact e2
  cases hk : K.lookup ad with
  | some o =>
    have e := inK ad o hk
    rw [ga] at e
    cases e
    exact main (fun _ => none) (fun _ => .inl rfl) (.inr ⟨_, vs.toArray, _, hk, rfl, rfl, rfl, by rw [List.size_toArray, lnv]; exact len, by simpa using rel⟩) (fun b u z => nomatch (show (none : Option HO) = some u from z)) (fun b z => absurd rfl z) (fun z => absurd rfl z)
  | none =>
    refine main (fun b => if b = ad then some (.frz { cls := .type "list", data := .seq vs.toArray } (.lst (ns.map V.int))) else none) (fun b => ?_) (.inl (.inr ⟨{ cls := .type "list", data := .seq vs.toArray }, if_pos rfl⟩)) (fun b u z => ?_) (fun b z => ?_) (fun _ => hk)
    · by_cases eb : b = ad
      · exact .inr ⟨_, _, if_pos eb⟩
      · exact .inl (if_neg eb)
    · by_cases eb : b = ad
      · subst eb
        have z' := (if_pos rfl).symm.trans z
        cases z'
        exact ⟨ga, by rw [List.length_map]; exact len, vs, _, rel, ga⟩
      · exact (nomatch (if_neg eb).symm.trans z)
    · by_cases eb : b = ad
      · exact eb
      · exact absurd (if_neg eb) z
theorem walkG {l : PySem.W.OpenLaw} {n k : Nat} {q : Program} {loose : List Str} {XP : (Str → Option Value) → Heap → Prop} {YP : World → Heap → Prop} {d : DefRec} {K : Params → PySem.W.Frag} {sp : World → Sp} {x : Str}
    (most : l.most = some n) (nsz : n ≤ sizeLine) (nodf : d.params.defaults = []) (rm : Room k callerA) (inY : ∀ (w : World) (h : Heap), YP w h → (K w.params).In h)
    (F : ∀ (w : World) (mg : Str → Option Value) (fa : Addr) (h : Heap), (K w.params).In h → h.Ns mainGlobals mg → mg d.name = some (.ref fa) → ∃ fd : FuncData, (∀ (s : Shared) (u : Value), BindsTo s fd ⟨[u], []⟩ [(x, u)]) ∧ ∀ base : Heap, (K w.params).In base → base.Ns mainGlobals mg → FnG l.prog w (K w.params) mg base k fa fd [x] (sp w))
    (pr : ∀ (w : World) (H : Hp) (a : Addr) (ns : List Int), ns.length ≤ n → SqL (K w.params) H a (ns.map V.int) → sp w [.ref a] H (fun v _ => v = .bl true) fun _ _ _ => False) : PySem.W.WalkO q loose XP YP l.row.toRowW d [] (fun f vs => PySem.call f vs) := by
  refine Att.attach_call most nodf fun w s₀ sh mg mb fa o pm cd doc a vs ns G Y ho hd hcd hmg hobj hints hlen hg => ?_
  have inK := inY w _ Y
  obtain ⟨fd, hb, hF⟩ := F w mg fa _ inK G.T.g hmg
  exact lawG inK G.T.g G.T.b G.T.builtins G.T.nolimit hg hobj hints (Nat.le_trans hlen nsz) rm hF hb (fun H hS => pr w H a ns hlen hS)
/-! ### repr of data -/
theorem repr_data {X : Cx} (gd : X.A.guards = some []) (hu : X.A.units + 70 < cLine) : CallR X (.builtin "repr") (fun xs H Q => ∃ (a : Addr) (d : PyData), xs = [.ref a] ∧ Dp X.K H (.ref a) d ∧ d.showable = true ∧ d.hasDict = false ∧ d.depth ≤ 60 ∧ d.shown.length ≤ sizeLine ∧ Q (.str d.shown) H) := by
  intro pins s σ H xs us Q I rel h
  obtain ⟨a, d, rfl, dp, sw, nd, dd, sz, hq⟩ := h
  obtain ⟨u, hu1, ru⟩ := vals1 rel
  subst hu1
  obtain ⟨as, rd⟩ := Dp.reads I d (.ref a) u dp ru
  have eu : u = Value.ref a := ru
  subst eu
  refine repr_of_reads' rd sw (fun z => by rw [nd] at z; cases z) gd (by omega) (fun _ _ e => e) (fun h' u tk hk => ?_) sz
  exact ⟨.str d.shown, H, I.kept hk, ⟨u, rfl⟩, hq⟩
theorem show_fits (ds : List Int) (hb : ∀ z ∈ ds, Bd 1900 z) (hl : ds.length ≤ 100) : (PyData.tuple (ds.map PyData.int)).showable = true ∧ (PyData.tuple (ds.map PyData.int)).hasDict = false ∧ (PyData.tuple (ds.map PyData.int)).depth ≤ 60 ∧ (PyData.tuple (ds.map PyData.int)).shown.length ≤ sizeLine := by
  have lg : ∀ z ∈ ds, z.natAbs.log2 < 1920 := fun z hz => ((hb z hz).mono (show 1900 ≤ 1920 by decide)).log (by decide)
  have key : ∀ l : List Int, (∀ z ∈ l, z.natAbs.log2 < 1920) → PyData.showableAll (l.map PyData.int) = true ∧ PyData.hasDictAll (l.map PyData.int) = false ∧ PyData.depthAll (l.map PyData.int) = 0 ∧ ((PyData.shownAll (l.map PyData.int)).map (·.length)).sum ≤ 1921 * l.length ∧ (PyData.shownAll (l.map PyData.int)).length = l.length := by
    intro l
    induction l with
    | nil => intro _; exact ⟨rfl, rfl, rfl, by simp [PyData.shownAll], rfl⟩
    | cons z r ih =>
      intro h
      obtain ⟨i1, i2, i3, i4, i5⟩ := ih fun y hy => h y (List.mem_cons_of_mem _ hy)
      have hz := h z (List.mem_cons_self ..)
      refine ⟨?_, ?_, ?_, ?_, ?_⟩
      · simp [PyData.showableAll, PyData.showable, hz, i1]
      · simp [PyData.hasDictAll, PyData.hasDict, i2]
      · simp [PyData.depthAll, PyData.depth, i3]
      · have := PyProof.Rows.int_text_len_1921 hz
        simp only [List.map_cons, PyData.shownAll, PyData.shown, List.sum_cons, List.length_cons]
        omega
      · simp [PyData.shownAll, i5]
  obtain ⟨k1, k2, k3, k4, k5⟩ := key ds lg
  refine ⟨by simpa [PyData.showable] using k1, by simpa [PyData.hasDict] using k2, by simp [PyData.depth, k3], ?_⟩
  have := tupleText_len_le (PyData.shownAll (ds.map PyData.int))
  rw [k5] at this
  show (tupleText (PyData.shownAll (ds.map PyData.int))).length ≤ sizeLine
  rw [sizeLine_eq]
  omega
theorem dpAll_ints {K : PySem.W.Frag} {H : Hp} : ∀ ds : List Int, DpAll K H (ds.map V.int) (ds.map PyData.int)
  | [] => .nil
  | c :: r => .cons (.int c) (dpAll_ints r)
/-- repr of a tuple of ints -/
theorem rp_ints {K : PySem.W.Frag} {H : Hp} {a : Addr} {Q : VK} (ds : List Int) (e : H a = some (.tup (ds.map V.int))) (hb : ∀ z ∈ ds, Bd 1900 z) (hl : ds.length ≤ 100) (h : Q (.str (PyData.tuple (ds.map PyData.int)).shown) H) :
    ∃ (a' : Addr) (d : PyData), [V.ref a] = [.ref a'] ∧ Dp K H (.ref a') d ∧ d.showable = true ∧ d.hasDict = false ∧ d.depth ≤ 60 ∧ d.shown.length ≤ sizeLine ∧ Q (.str d.shown) H := by
  obtain ⟨f1, f2, f3, f4⟩ := show_fits ds hb hl
  exact ⟨a, _, rfl, Dp.tup (SqT.of e) (dpAll_ints ds), f1, f2, f3, f4, h⟩
end Lf
namespace Lf
open PySem PySem.Spec PyProof.Rows L2
/-! ### guards and a table of code objects together -/
theorem lawGT {P : Program} {w : World} {K : PySem.W.Frag} {mg mb : Str → Option Value} {k : Nat} {fa ad cT PT : Addr} {fd : FuncData} {x : Str} {sp : Sp} {sh : Shared} {vs : List Value} {ns : List Int}
    (inK : K.In sh.heap) (nsm : sh.heap.Ns mainGlobals mg) (nsb : sh.heap.Ns builtinsNs mb) (bb : ∀ x : Str, x ≠ "__name__" → mb x = bootBuiltins x) (nol : sh.heap.NoLimit) (gn : sh.gens = #[])
    (tP : sh.heap.get? PT = some { cls := .none, data := .fields #[] }) (nP : K.lookup PT = none) (hC : PySem.W.CodeHd sh.heap cT PT)
    (bM : ∃ (bm : Addr) (ob : Obj), mg "__builtins__" = some (.ref bm) ∧ bm ≠ builtinsNs ∧ sh.heap.get? bm = some ob ∧ ob.cls = .type "module" ∧ ob.dict = some builtinsNs ∧ ob.data = .plain)
    (ga : sh.heap.get? ad = some { cls := .type "list", data := .seq vs.toArray }) (isI : IntsAre vs ns) (len : ns.length ≤ sizeLine) (rm : Room k callerA)
    (F : ∀ base : Heap, K.In base → base.Ns mainGlobals mg → LamX.TabB base mg cT PT → FnG P w K mg base k fa fd [x] sp) (bnd : ∀ (s : Shared) (u : Value), BindsTo s fd ⟨[u], []⟩ [(x, u)])
    (pr : ∀ H : Hp, H PT = some (.tbl #[]) → SqL K H ad (ns.map V.int) → sp [.ref ad] H (fun v _ => v = .bl true) fun _ _ _ => False) :
    codeAny (model P w) callerA (.call (.ref fa) ⟨[.ref ad], []⟩) (fun r sh' => r = .ok (.ret (.bool true)) ∧ OldK sh.heap sh'.heap ∧ sh'.os = sh.os ∧ AllBare sh'.gens) sh := by
  have rel := vals_ints isI
  have lnv := isI.length
  have nab : ¬ ad = PT := fun z => by
    rw [z, tP] at ga
    cases ga
  have main : ∀ H : Hp, H PT = some (.tbl #[]) → (∀ b, H b = none ∨ b = PT ∨ ∃ o xs, H b = some (.frz o (.lst xs))) → SqL K H ad (ns.map V.int) → HOk P w H sh.heap → (∀ b, H b ≠ none → b = ad ∨ b = PT) → (H ad ≠ none → K.lookup ad = none) →
      codeAny (model P w) callerA (.call (.ref fa) ⟨[.ref ad], []⟩) (fun r sh' => r = .ok (.ret (.bool true)) ∧ OldK sh.heap sh'.heap ∧ sh'.os = sh.os ∧ AllBare sh'.gens) sh := by
    intro H hT only seq hok one nk
    have lay : ∀ {b : Addr} {o : Obj}, sh.heap.get? b = some o → H b = none → (hidT sh.heap H).get? b = some o := fun e n => hidT_get e n
    -- what is no list and no empty record is not tracked
    have off : ∀ {b : Addr} {o : Obj}, sh.heap.get? b = some o → (∀ zs m, o.data ≠ .seq zs m) → o.data ≠ .fields #[] → H b = none := fun {b o} e n1 n2 => by
      cases z : H b with
      | none => rfl
      | some u =>
        rcases one b (by rw [z]; simp) with eb | eb
        · rw [eb, ga] at e
          cases e
          exact absurd rfl (n1 _ _)
        · rw [eb, tP] at e
          cases e
          exact absurd rfl n2
    have nsL : ∀ {b : Addr} {m : Str → Option Value}, sh.heap.Ns b m → (hidT sh.heap H).Ns b m := fun {b m} ⟨o, es, ep, e, d, r⟩ =>
      ⟨o, es, ep, lay e (off e (fun zs m z => by rw [d] at z; cases z) (fun z => by rw [d] at z; cases z)), d, r⟩
    have inB : K.In (hidT sh.heap H) := fun b o e => lay (inK b o e) (by
      cases z : H b with
      | none => rfl
      | some u =>
        rcases one b (by rw [z]; simp) with eb | eb
        · subst eb
          rw [nk (by rw [z]; simp)] at e
          cases e
        · rw [eb, nP] at e
          cases e)
    have md : Mod K mg (hidT sh.heap H) := ⟨inB, nsL nsm, ⟨mb, nsL nsb, bb⟩, let ⟨mc, h1, h2⟩ := nol; ⟨mc, nsL h1, h2⟩⟩
    have gP : ¬ mainGlobals = PT := fun z => by
      obtain ⟨o, es, ep, e, d, _⟩ := nsm
      rw [z, tP] at e
      cases e
      cases d
    have tb : LamX.TabB (hidT sh.heap H) mg cT PT := by
      refine ⟨?_, ?_, gP⟩
      · obtain ⟨o, us, fi, tf, fl, tg, iF, tx, tt, e1, r1, r2, r3, rr⟩ := hC
        refine ⟨o, us, fi, tf, fl, tg, iF, tx, tt, lay e1 (off e1 (fun zs m z => by rw [r2] at z; cases z) (fun z => ?_)), r1, r2, r3, rr⟩
        rw [r2] at z
        cases z
        simp at r3
      · obtain ⟨bm, ob, b1, b2, b3, b4, b5, b6⟩ := bM
        refine ⟨bm, ob, b1, b2, fun z => ?_, fun z => ?_, lay b3 (off b3 (fun zs m z => by rw [b6] at z; cases z) (fun z => by rw [b6] at z; cases z)), b4, b5, b6⟩
        · obtain ⟨o, es, ep, e, d, _⟩ := nsm
          rw [z, e] at b3
          cases b3
          rw [d] at b6
          cases b6
        · rw [z, tP] at b3
          cases b3
          cases b6
    have en : Env0 P w K mg (hidT sh.heap H) callerA [] sh H := ⟨rfl, md, fun b o e => of_hidT e, Nat.le_of_eq (hidT_size _ _), trivial, fun b hb => absurd (show b ∈ ([] : List Addr) from hb) (by simp), hok, .of_eq gn⟩
    refine codeAny_mono ((F _ inB (nsL nsm) tb).runG callerA [] sh H ⟨[.ref ad], []⟩ [.ref ad] [.ref ad] _ _ rm rfl en (bnd sh (.ref ad)) (.cons rfl .nil) (pr H hT seq)) fun r sh' h => ?_
    match r, h with
    | .error e, h => exact (show False from h).elim
    | .ok .next, h => exact False.elim h
    | .ok .brk, h => exact False.elim h
    | .ok .cont, h => exact False.elim h
    | .ok (.ret u), h =>
      obtain ⟨v, H', os, bare, un, hok', rv, z⟩ := h
      have z' : v = .bl true := z
      subst z'
      have eu : u = Value.bool true := rv
      subst eu
      have old : ∀ b o, ¬ b = PT → sh.heap.get? b = some o → sh'.heap.get? b = some o := fun b o nb e => by
        cases zb : H b with
        | none => exact un.keep b o e zb (fun z => absurd (show b ∈ ([] : List Addr) from z) (by simp)) (by simp)
        | some u =>
          rcases only b with z | z | ⟨ob, xs, z⟩
          · rw [zb] at z
            cases z
          · exact absurd z nb
          · have e1 := (hok b _ z).1
            have e2 := (hok' b _ (un.frzs b ob _ z)).1
            rw [e] at e1
            cases e1
            exact e2
      obtain ⟨more, zm⟩ := un.tbls PT #[] hT
      have grown : sh'.heap.get? PT = some { cls := .none, data := .fields (#[] ++ more) } := hok' PT _ zm
      refine ⟨rfl, ⟨fun b o e => ?_, fun b o e => ?_⟩, os, bare⟩
      · by_cases hb : b = PT
        · rw [hb] at e ⊢
          rw [tP] at e
          cases e
          exact .inr (.inl ⟨(hC.tab tP).isCodeTable, rfl, #[], more, rfl, grown⟩)
        · exact .inl (old b o hb e)
      · by_cases hb : b = PT
        · rw [hb]
          exact ⟨_, grown⟩
        · exact ⟨o, old b o hb e⟩
  cases hk : K.lookup ad with
  | some o =>
    have e := inK ad o hk
    rw [ga] at e
    cases e
    refine main (fun b => if b = PT then some (.tbl #[]) else none) (if_pos rfl) (fun b => ?_) (.inr ⟨_, vs.toArray, _, hk, rfl, rfl, rfl, by rw [List.size_toArray, lnv]; exact len, by simpa using rel⟩) (fun b u z => ?_) (fun b z => ?_) (fun z => absurd (if_neg nab) z)
    · by_cases hb : b = PT
      · exact .inr (.inl hb)
      · exact .inl (if_neg hb)
    · by_cases hb : b = PT
      · rw [hb] at z ⊢
        have z' := (if_pos rfl).symm.trans z
        cases z'
        exact tP
      · exact (nomatch (if_neg hb).symm.trans z)
    · by_cases hb : b = PT
      · exact .inr hb
      · exact absurd (if_neg hb) z
  | none =>
    refine main (fun b => if b = ad then some (.frz { cls := .type "list", data := .seq vs.toArray } (.lst (ns.map V.int))) else if b = PT then some (.tbl #[]) else none) ((if_neg (fun z => nab z.symm)).trans (if_pos rfl)) (fun b => ?_) (.inl (.inr ⟨{ cls := .type "list", data := .seq vs.toArray }, if_pos rfl⟩)) (fun b u z => ?_) (fun b z => ?_) (fun _ => hk)
    · by_cases eb : b = ad
      · exact .inr (.inr ⟨_, _, if_pos eb⟩)
      · by_cases hb : b = PT
        · exact .inr (.inl hb)
        · exact .inl ((if_neg eb).trans (if_neg hb))
    · by_cases eb : b = ad
      · subst eb
        have z' := (if_pos rfl).symm.trans z
        cases z'
        exact ⟨ga, by rw [List.length_map]; exact len, vs, _, rel, ga⟩
      · have z1 := (if_neg eb).symm.trans z
        by_cases hb : b = PT
        · rw [hb] at z1 ⊢
          have z' := (if_pos rfl).symm.trans z1
          cases z'
          exact tP
        · exact (nomatch (if_neg hb).symm.trans z1)
    · by_cases eb : b = ad
      · exact .inl eb
      · by_cases hb : b = PT
        · exact .inr hb
        · exact absurd ((if_neg eb).trans (if_neg hb)) z
/-- what the head tells of the law, of the table PT of the code object cT -/
structure LawGT (l : PySem.W.OpenLaw) (w : World) (K : PySem.W.Frag) (k : Nat) (x : Str) (mg : Str → Option Value) (fa : Addr) (h : Heap) : Prop where
  ex : ∃ (fd : FuncData) (cT PT : Addr) (sp : Sp), h.get? PT = some { cls := .none, data := .fields #[] } ∧ K.lookup PT = none ∧ PySem.W.CodeHd h cT PT ∧ (∀ (s : Shared) (u : Value), BindsTo s fd ⟨[u], []⟩ [(x, u)]) ∧
    (∀ (H : Hp) (a : Addr) (ns : List Int), ns.length ≤ 63 → H PT = some (.tbl #[]) → SqL K H a (ns.map V.int) → sp [.ref a] H (fun v _ => v = .bl true) fun _ _ _ => False) ∧
    ∀ base : Heap, K.In base → base.Ns mainGlobals mg → LamX.TabB base mg cT PT → FnG l.prog w K mg base k fa fd [x] sp
theorem walkGT {l : PySem.W.OpenLaw} {k : Nat} {q : Program} {loose : List Str} {XP : (Str → Option Value) → Heap → Prop} {YP : World → Heap → Prop} {d : DefRec} {K : Params → PySem.W.Frag} {x : Str}
    (most : l.most = some 63) (nodf : d.params.defaults = []) (rm : Room k callerA) (inY : ∀ (w : World) (h : Heap), YP w h → (K w.params).In h)
    (F : ∀ (w : World) (mg : Str → Option Value) (fa : Addr) (h : Heap), YP w h → (K w.params).In h → h.Ns mainGlobals mg → mg d.name = some (.ref fa) → LawGT l w (K w.params) k x mg fa h) : PySem.W.WalkO q loose XP YP l.row.toRowW d [] (fun f vs => PySem.call f vs) := by
  refine Att.attach_call most nodf fun w s₀ sh mg mb fa o pm cd doc a vs ns G Y ho hd hcd hmg hobj hints hlen hg => ?_
  have inK := inY w _ Y
  obtain ⟨fd, cT, PT, sp, tP, nP, hC, hb, hp, hF⟩ := (F w mg fa _ Y inK G.T.g hmg).ex
  exact lawGT inK G.T.g G.T.b G.T.builtins G.T.nolimit hg tP nP hC G.T.bmain hobj hints (Nat.le_trans hlen (by decide)) rm hF hb (fun H hH hS => hp H a ns hlen hH hS)
/-! ### a def by its row, called where no repr is under way -/
theorem fnG_lk {P : Program} {w : World} {K : PySem.W.Frag} {mg : Str → Option Value} {base : Heap} {x : Str} {st : Stmt} {f : Addr} {N ps : List Str} {k : Nat} {sp : Sp} {oc kV doc pm cdv ct : Value} {od an : Option Addr} {osl : Array (Option Value)}
    (lkp : K.lookup f = some ⟨oc, od, .func (PySem.W.fnOf x x (defArgs st) (defBody st) (defScope st) .none kV doc pm an cdv ct), osl⟩) (cin : PySem.W.codeIn K cdv x = true) (S : FnScope N ps (defScope st)) (ln : ∀ vs H Q E, sp vs H Q E → vs.length = ps.length)
    (bd : ∀ (A : Around) (out : List Env) (sh : Shared) (H : Hp) (vs : List V) (Q : VK) (E : XK), Room k (A.deeper (envOfC x (defScope st) sh.heap.objs.size f cdv)) → A.guards = some [] → sp vs H Q E →
      ∃ t, PSs (cxOf CX0 P w K mg base N x (defScope st) f cdv A out sh H E).nox (defBody st) t ∧ t { nx := fun _ H' => Q .non H', rt := Q } (start N vs) H) : FnG P w K mg base (k + 1) f (PySem.W.fnOf x x (defArgs st) (defBody st) (defScope st) .none kV doc pm an cdv ct) ps sp := by
  refine ⟨ln, fun A out sh H ar us vs Q E rm gd en bnd rel pr => ?_⟩
  have lv := ln _ _ _ _ pr
  have kIn : K.In sh.heap := en.mod.kin.keeps fun b o e => (en.bs b o e).1
  have nol : sh.heap.NoLimit := en.mod.nolimit.keeps fun b o e => (en.bs b o e).1
  have knd : ∀ y ∈ ps.zip us, (defScope st).names.lookup y.1 = some .local ∨ ((defScope st).names.lookup y.1 = some .cell ∧ ((cellsFrom (sh.heap.objs.size + 1) (defScope st).names []).lookup y.1).isSome = true) := fun ⟨n, v⟩ hy => by
    rcases S.par n (List.of_mem_zip hy).1 with z | z
    · exact .inl z
    · exact .inr ⟨z, PySem.W.cellsFrom_some _ _ _ (.inl z)⟩
  refine codeAny_call_function rm.depth (kIn _ _ lkp) rfl S.co S.gen rfl (PySem.W.codeRec_of kIn cin) (bnd _ _ _ _ ?_)
  refine wpAny_newFunctionEnv_cells S.kind knd fun env he sh1 x1 => ?_
  subst he
  refine ⟨nol.keeps x1.toInCall.keep, codeAny_func ?_⟩
  obtain ⟨t, ht, hq⟩ := bd A out sh H vs Q E (rm.deeper _) gd pr
  have inv := inv_start (CX := CX0) (P := P) (w := w) (K := K) (mg := mg) (base := base) (E := E) (f := f) (cd := cdv) (qual := x) S rm.hd en lv rel x1
  refine wpAny_mono (ht.nox.run [] sh1 (start N vs) H _ inv hq) (fun fl sh' hs => ?_) fun e sh' hs => hs
  cases fl with
  | ret u =>
    obtain ⟨v, σ', H', J, rv, z⟩ := hs
    exact ⟨v, H', J.os, J.bare, J.base, J.hok, rv, z⟩
  | next =>
    obtain ⟨σ', H', J, z⟩ := hs
    exact ⟨V.non, H', J.os, J.bare, J.base, J.hok, rfl, z⟩
  | brk =>
    obtain ⟨_, _, _, z⟩ := hs
    exact False.elim z
  | cont =>
    obtain ⟨_, _, _, z⟩ := hs
    exact False.elim z
section
variable {X : Cx} {x : Str} {sp : Sp} {W : WX} {j k i : Nat} {f : Addr} {fd : FuncData} {ps : List Str} {e : Expr} {es : List Expr} {t : TA} {p po : Pos}
/-- such a def, called by its name -/
theorem pe_g (F : FnG X.prog X.w X.K X.mg X.base k f fd ps sp) (gd : X.A.guards = some []) (hr : Room j X.A) (hk : k ≤ j) (hg : Gl X x) (hm : X.mg x = some (.ref f)) (kp : PySem.W.keepIn X.K (.ref f) = true) (hb : Binds X.K fd ps []) (ha : L2.PA X (e :: es) t)
    (hdb : (x == ("__debug__" : Str)) = false := by decide) (he : starEach (e :: es) X.env = (false, eval e X.env) :: starEach es X.env := by rfl) (hpl : (backTo po (starEach es X.env)).any (·.1) = false := by rfl) :
    PE X (.Call (.Name x p) (e :: es) [] po) (fun σ H Q => t σ H fun vs H1 => sp vs H1 Q (fun _ _ _ => False)) := by
  refine ⟨fun pins s σ H Q I h => wpAny_Call_Name_kw (ld_glob I hg hm ?_ hdb)⟩
  refine PySem.W.callWith_K (h₀ := X.base) I.ok.mod.kin kp (thn (ha.run po pins s σ H _ I h) fun us s1 ⟨vs, H1, I1, rv, q⟩ => ⟨I1.kIn, ?_⟩) he hpl
  have hl : us.length = ps.length := by rw [← rv.length]; exact F.lenG _ _ _ _ q
  have b := hb s1 us I1.kIn (by rw [List.append_nil]; exact hl)
  rw [List.append_nil] at b
  refine wpAny_call (codeAny_mono (F.runG X.A X.stack s1 H1 ⟨us, []⟩ us vs Q _ (hr.mono hk) gd I1.env0 b rv q) fun r s' hq => ?_)
  cases r with
  | error e => exact (show False from hq).elim
  | ok fl =>
    cases fl with
    | ret u => exact I1.after hq
    | next => exact False.elim hq
    | brk => exact False.elim hq
    | cont => exact False.elim hq
/-- a name that holds one of some defs that raise -/
theorem pe_vx (S : Addr → Prop) (hS : ∀ f, S f → ∃ fd ps, FnOk X.prog X.w X.K X.mg X.base (L2.CX X.prog X.w) k f fd ps sp ∧ PySem.W.keepIn X.K (.ref f) = true ∧ Binds X.K fd ps []) (hr : Room j X.A) (hk : k ≤ j) (tk : Takes X W) (hN : X.N[i]? = some x) (hv : Vis X.env.scope x) (ha : L2.PA X (e :: es) t)
    (hd : (x == ("__debug__" : Str)) = false := by decide) (hcd : (x == ("__classdict__" : Str)) = false := by decide) (he : starEach (e :: es) X.env = (false, eval e X.env) :: starEach es X.env := by rfl) (hpl : (backTo po (starEach es X.env)).any (·.1) = false := by rfl) :
    PE X (.Call (.Name x p) (e :: es) [] po) (fun σ H Q => ∃ f, σ[i]? = some (some (.ref f)) ∧ S f ∧ t σ H fun vs H1 => sp vs H1 Q (WE W σ)) := by
  refine ⟨fun pins s σ H Q I h => ?_⟩
  obtain ⟨f, hs, hf, h⟩ := h
  obtain ⟨fd, ps, F, kp, b⟩ := hS f hf
  refine wpAny_Call_Name_kw (thn ((pe_var (pos := p) (i := i) hN hv hd hcd).run pins s σ H (fun v H1 => v = .ref f ∧ H1 = H) I ⟨.ref f, hs, rfl, rfl⟩) fun u s1 ⟨v, H1, I1, r1, q1, q2⟩ => ?_)
  subst q1
  rw [q2] at I1
  cases r1
  refine PySem.W.callWith_K (h₀ := X.base) I1.ok.mod.kin kp (thn (ha.run po pins s1 σ H _ I1 h) fun us s2 ⟨vs, H2, I2, rv, q⟩ => ⟨I2.kIn, ?_⟩) he hpl
  exact run_fnS F (hr.mono hk) b (passAt tk σ) I2 rv q
end
end Lf
namespace Lf
open PySem PySem.Spec PyProof.Rows L2
/-! ### as lawGT, for some tables of code objects, and the base has the table of modules -/
def InT (TS : List (Addr × Addr)) (b : Addr) : Prop := ∃ q ∈ TS, q.2 = b
theorem lawGTn {P : Program} {w : World} {K : PySem.W.Frag} {mg mb : Str → Option Value} {k : Nat} {fa ad : Addr} {TS : List (Addr × Addr)} {fd : FuncData} {x : Str} {sp : Sp} {sh : Shared} {vs : List Value} {ns : List Int}
    (inK : K.In sh.heap) (nsm : sh.heap.Ns mainGlobals mg) (nsb : sh.heap.Ns builtinsNs mb) (bb : ∀ x : Str, x ≠ "__name__" → mb x = bootBuiltins x) (nol : sh.heap.NoLimit) (gn : sh.gens = #[])
    (sM : ∃ mm, sh.heap.Ns sysModules mm) (tPs : ∀ q ∈ TS, sh.heap.get? q.2 = some { cls := .none, data := .fields #[] }) (nPs : ∀ q ∈ TS, K.lookup q.2 = none) (hCs : ∀ q ∈ TS, PySem.W.CodeHd sh.heap q.1 q.2)
    (bM : ∃ (bm : Addr) (ob : Obj), mg "__builtins__" = some (.ref bm) ∧ bm ≠ builtinsNs ∧ sh.heap.get? bm = some ob ∧ ob.cls = .type "module" ∧ ob.dict = some builtinsNs ∧ ob.data = .plain)
    (ga : sh.heap.get? ad = some { cls := .type "list", data := .seq vs.toArray }) (isI : IntsAre vs ns) (len : ns.length ≤ sizeLine) (rm : Room k callerA)
    (F : ∀ base : Heap, K.In base → base.Ns mainGlobals mg → (∃ o, base.get? 1 = some o) → (∀ q ∈ TS, LamX.TabB base mg q.1 q.2) → FnG P w K mg base k fa fd [x] sp) (bnd : ∀ (s : Shared) (u : Value), BindsTo s fd ⟨[u], []⟩ [(x, u)])
    (pr : ∀ H : Hp, (∀ q ∈ TS, H q.2 = some (.tbl #[])) → SqL K H ad (ns.map V.int) → sp [.ref ad] H (fun v _ => v = .bl true) fun _ _ _ => False) :
    codeAny (model P w) callerA (.call (.ref fa) ⟨[.ref ad], []⟩) (fun r sh' => r = .ok (.ret (.bool true)) ∧ OldK sh.heap sh'.heap ∧ sh'.os = sh.os ∧ AllBare sh'.gens) sh := by
  have rel := vals_ints isI
  have lnv := isI.length
  have tP : ∀ {b}, InT TS b → sh.heap.get? b = some { cls := .none, data := .fields #[] } := fun ⟨q, hq, e⟩ => e ▸ tPs q hq
  have nP : ∀ {b}, InT TS b → K.lookup b = none := fun ⟨q, hq, e⟩ => e ▸ nPs q hq
  have nab : ¬ InT TS ad := fun z => by
    rw [tP z] at ga
    cases ga
  have main : ∀ H : Hp, (∀ b, InT TS b → H b = some (.tbl #[])) → (∀ b, H b = none ∨ InT TS b ∨ ∃ o xs, H b = some (.frz o (.lst xs))) → SqL K H ad (ns.map V.int) → HOk P w H sh.heap → (∀ b, H b ≠ none → b = ad ∨ InT TS b) → (H ad ≠ none → K.lookup ad = none) →
      codeAny (model P w) callerA (.call (.ref fa) ⟨[.ref ad], []⟩) (fun r sh' => r = .ok (.ret (.bool true)) ∧ OldK sh.heap sh'.heap ∧ sh'.os = sh.os ∧ AllBare sh'.gens) sh := by
    intro H hT only seq hok one nk
    have lay : ∀ {b : Addr} {o : Obj}, sh.heap.get? b = some o → H b = none → (hidT sh.heap H).get? b = some o := fun e n => hidT_get e n
    -- what is no list and no empty record is not tracked
    have off : ∀ {b : Addr} {o : Obj}, sh.heap.get? b = some o → (∀ zs m, o.data ≠ .seq zs m) → o.data ≠ .fields #[] → H b = none := fun {b o} e n1 n2 => by
      cases z : H b with
      | none => rfl
      | some u =>
        rcases one b (by rw [z]; simp) with eb | eb
        · rw [eb, ga] at e
          cases e
          exact absurd rfl (n1 _ _)
        · rw [tP eb] at e
          cases e
          exact absurd rfl n2
    have nsL : ∀ {b : Addr} {m : Str → Option Value}, sh.heap.Ns b m → (hidT sh.heap H).Ns b m := fun {b m} ⟨o, es, ep, e, d, r⟩ =>
      ⟨o, es, ep, lay e (off e (fun zs m z => by rw [d] at z; cases z) (fun z => by rw [d] at z; cases z)), d, r⟩
    have inB : K.In (hidT sh.heap H) := fun b o e => lay (inK b o e) (by
      cases z : H b with
      | none => rfl
      | some u =>
        rcases one b (by rw [z]; simp) with eb | eb
        · subst eb
          rw [nk (by rw [z]; simp)] at e
          cases e
        · rw [nP eb] at e
          cases e)
    have md : Mod K mg (hidT sh.heap H) := ⟨inB, nsL nsm, ⟨mb, nsL nsb, bb⟩, let ⟨mc, h1, h2⟩ := nol; ⟨mc, nsL h1, h2⟩⟩
    have tb : ∀ q ∈ TS, LamX.TabB (hidT sh.heap H) mg q.1 q.2 := fun q hq => by
      have tq := tPs q hq
      have hC := hCs q hq
      have gP : ¬ mainGlobals = q.2 := fun z => by
        obtain ⟨o, es, ep, e, d, _⟩ := nsm
        rw [z, tq] at e
        cases e
        cases d
      refine ⟨?_, ?_, gP⟩
      · obtain ⟨o, us, fi, tf, fl, tg, iF, tx, tt, e1, r1, r2, r3, rr⟩ := hC
        refine ⟨o, us, fi, tf, fl, tg, iF, tx, tt, lay e1 (off e1 (fun zs m z => by rw [r2] at z; cases z) (fun z => ?_)), r1, r2, r3, rr⟩
        rw [r2] at z
        cases z
        simp at r3
      · obtain ⟨bm, ob, b1, b2, b3, b4, b5, b6⟩ := bM
        refine ⟨bm, ob, b1, b2, fun z => ?_, fun z => ?_, lay b3 (off b3 (fun zs m z => by rw [b6] at z; cases z) (fun z => by rw [b6] at z; cases z)), b4, b5, b6⟩
        · obtain ⟨o, es, ep, e, d, _⟩ := nsm
          rw [z, e] at b3
          cases b3
          rw [d] at b6
          cases b6
        · rw [z, tq] at b3
          cases b3
          cases b6
    have en : Env0 P w K mg (hidT sh.heap H) callerA [] sh H := ⟨rfl, md, fun b o e => of_hidT e, Nat.le_of_eq (hidT_size _ _), trivial, fun b hb => absurd (show b ∈ ([] : List Addr) from hb) (by simp), hok, .of_eq gn⟩
    refine codeAny_mono ((F _ inB (nsL nsm) (let ⟨_, h⟩ := sM; let ⟨o, _, _, e, _⟩ := nsL h; ⟨o, e⟩) tb).runG callerA [] sh H ⟨[.ref ad], []⟩ [.ref ad] [.ref ad] _ _ rm rfl en (bnd sh (.ref ad)) (.cons rfl .nil) (pr H (fun q hq => hT q.2 ⟨q, hq, rfl⟩) seq)) fun r sh' h => ?_
    match r, h with
    | .error e, h => exact (show False from h).elim
    | .ok .next, h => exact False.elim h
    | .ok .brk, h => exact False.elim h
    | .ok .cont, h => exact False.elim h
    | .ok (.ret u), h =>
      obtain ⟨v, H', os, bare, un, hok', rv, z⟩ := h
      have z' : v = .bl true := z
      subst z'
      have eu : u = Value.bool true := rv
      subst eu
      have old : ∀ b o, ¬ InT TS b → sh.heap.get? b = some o → sh'.heap.get? b = some o := fun b o nb e => by
        cases zb : H b with
        | none => exact un.keep b o e zb (fun z => absurd (show b ∈ ([] : List Addr) from z) (by simp)) (by simp)
        | some u =>
          rcases only b with z | z | ⟨ob, xs, z⟩
          · rw [zb] at z
            cases z
          · exact absurd z nb
          · have e1 := (hok b _ z).1
            have e2 := (hok' b _ (un.frzs b ob _ z)).1
            rw [e] at e1
            cases e1
            exact e2
      have hT' : ∀ b, InT TS b → ∃ more, sh'.heap.get? b = some { cls := .none, data := .fields (#[] ++ more) } := fun b hb => by
        obtain ⟨more, zm⟩ := un.tbls b #[] (hT b hb)
        exact ⟨more, hok' b _ zm⟩
      refine ⟨rfl, ⟨fun b o e => ?_, fun b o e => ?_⟩, os, bare⟩
      · by_cases hb : InT TS b
        · obtain ⟨more, grown⟩ := hT' b hb
          have tb := tP hb
          rw [tb] at e
          cases e
          obtain ⟨q, hq, eq⟩ := hb
          exact .inr (.inl ⟨by rw [← eq]; exact ((hCs q hq).tab (tPs q hq)).isCodeTable, rfl, #[], more, rfl, grown⟩)
        · exact .inl (old b o hb e)
      · by_cases hb : InT TS b
        · obtain ⟨more, grown⟩ := hT' b hb
          exact ⟨_, grown⟩
        · exact ⟨o, old b o hb e⟩
  haveI : ∀ b, Decidable (InT TS b) := fun b => Classical.propDecidable _
  cases hk : K.lookup ad with
  | some o =>
    have e := inK ad o hk
    rw [ga] at e
    cases e
    refine main (fun b => if InT TS b then some (.tbl #[]) else none) (fun b hb => if_pos hb) (fun b => ?_) (.inr ⟨_, vs.toArray, _, hk, rfl, rfl, rfl, by rw [List.size_toArray, lnv]; exact len, by simpa using rel⟩) (fun b u z => ?_) (fun b z => ?_) (fun z => absurd (if_neg nab) z)
    · by_cases hb : InT TS b
      · exact .inr (.inl hb)
      · exact .inl (if_neg hb)
    · by_cases hb : InT TS b
      · have z' := (if_pos hb).symm.trans z
        cases z'
        exact tP hb
      · exact (nomatch (if_neg hb).symm.trans z)
    · by_cases hb : InT TS b
      · exact .inr hb
      · exact absurd (if_neg hb) z
  | none =>
    refine main (fun b => if b = ad then some (.frz { cls := .type "list", data := .seq vs.toArray } (.lst (ns.map V.int))) else if InT TS b then some (.tbl #[]) else none) (fun b hb => (if_neg (fun (z : b = ad) => nab (z ▸ hb))).trans (if_pos hb)) (fun b => ?_) (.inl (.inr ⟨{ cls := .type "list", data := .seq vs.toArray }, if_pos rfl⟩)) (fun b u z => ?_) (fun b z => ?_) (fun _ => hk)
    · by_cases eb : b = ad
      · exact .inr (.inr ⟨_, _, if_pos eb⟩)
      · by_cases hb : InT TS b
        · exact .inr (.inl hb)
        · exact .inl ((if_neg eb).trans (if_neg hb))
    · by_cases eb : b = ad
      · subst eb
        have z' := (if_pos rfl).symm.trans z
        cases z'
        exact ⟨ga, by rw [List.length_map]; exact len, vs, _, rel, ga⟩
      · have z1 := (if_neg eb).symm.trans z
        by_cases hb : InT TS b
        · have z' := (if_pos hb).symm.trans z1
          cases z'
          exact tP hb
        · exact (nomatch (if_neg hb).symm.trans z1)
    · by_cases eb : b = ad
      · exact .inl eb
      · by_cases hb : InT TS b
        · exact .inr hb
        · exact absurd ((if_neg eb).trans (if_neg hb)) z
/-- what the head tells of the law, of the tables of some code objects -/
structure LawGTn (l : PySem.W.OpenLaw) (w : World) (K : PySem.W.Frag) (k : Nat) (x : Str) (mg : Str → Option Value) (fa : Addr) (h : Heap) : Prop where
  ex : ∃ (fd : FuncData) (TS : List (Addr × Addr)) (sp : Sp), (∀ q ∈ TS, h.get? q.2 = some { cls := .none, data := .fields #[] }) ∧ (∀ q ∈ TS, K.lookup q.2 = none) ∧ (∀ q ∈ TS, PySem.W.CodeHd h q.1 q.2) ∧ (∀ (s : Shared) (u : Value), BindsTo s fd ⟨[u], []⟩ [(x, u)]) ∧
    (∀ (H : Hp) (a : Addr) (ns : List Int), ns.length ≤ 63 → (∀ q ∈ TS, H q.2 = some (.tbl #[])) → SqL K H a (ns.map V.int) → sp [.ref a] H (fun v _ => v = .bl true) fun _ _ _ => False) ∧
    ∀ base : Heap, K.In base → base.Ns mainGlobals mg → (∃ o, base.get? 1 = some o) → (∀ q ∈ TS, LamX.TabB base mg q.1 q.2) → FnG l.prog w K mg base k fa fd [x] sp
theorem walkGTn {l : PySem.W.OpenLaw} {k : Nat} {q : Program} {loose : List Str} {XP : (Str → Option Value) → Heap → Prop} {YP : World → Heap → Prop} {d : DefRec} {K : Params → PySem.W.Frag} {x : Str}
    (noImp : importsNone q = true) (most : l.most = some 63) (nodf : d.params.defaults = []) (rm : Room k callerA) (inY : ∀ (w : World) (h : Heap), YP w h → (K w.params).In h)
    (F : ∀ (w : World) (mg : Str → Option Value) (fa : Addr) (h : Heap), YP w h → (K w.params).In h → h.Ns mainGlobals mg → mg d.name = some (.ref fa) → LawGTn l w (K w.params) k x mg fa h) : PySem.W.WalkO q loose XP YP l.row.toRowW d [] (fun f vs => PySem.call f vs) := by
  refine Att.attach_call most nodf fun w s₀ sh mg mb fa o pm cd doc a vs ns G Y ho hd hcd hmg hobj hints hlen hg => ?_
  have inK := inY w _ Y
  obtain ⟨fd, TS, sp, tP, nP, hC, hb, hp, hF⟩ := (F w mg fa _ Y inK G.T.g hmg).ex
  exact lawGTn inK G.T.g G.T.b G.T.builtins G.T.nolimit hg (let ⟨mm, h, _⟩ := (G.T.seer noImp).mods; ⟨mm, h⟩) tP nP hC G.T.bmain hobj hints (Nat.le_trans hlen (by decide)) rm hF hb (fun H hH hS => hp H a ns hlen hH hS)
/-! ### a def that makes lambdas: its row, its code object, its table -/
structure DfT (K : PySem.W.Frag) (mg : Str → Option Value) (base : Heap) (x : Str) (st : Stmt) (ps : List Str) (PT : Addr) : Prop where
  ex : ∃ (f cQ : Addr) (oc kV doc pm ct : Value) (od an : Option Addr) (osl : Array (Option Value)), K.lookup f = some ⟨oc, od, .func (PySem.W.fnOf x x (defArgs st) (defBody st) (defScope st) .none kV doc pm an (.ref cQ) ct), osl⟩ ∧ PySem.W.codeIn K (.ref cQ) x = true ∧ PySem.W.keepIn K (.ref f) = true ∧ mg x = some (.ref f) ∧
    Binds K (PySem.W.fnOf x x (defArgs st) (defBody st) (defScope st) .none kV doc pm an (.ref cQ) ct) ps [] ∧ LamX.TabB base mg cQ PT
theorem calT_of {P : Program} {w : World} {K : PySem.W.Frag} {mg : Str → Option Value} {base : Heap} {x : Str} {st : Stmt} {N ps : List Str} {k : Nat} {sp : Sp} {PT : Addr} (D : DfT K mg base x st ps PT) (S : FnScope N ps (defScope st)) (len : ∀ vs H Q E, sp vs H Q E → vs.length = ps.length)
    (hb : ∀ (f cQ : Addr) (A : Around) (outer : List Env) (s : Shared) (H : Hp) (vs : List V) (Q : VK) (E : XK), LamX.TabB base mg cQ PT → Room k (A.deeper (envOfC x (defScope st) s.heap.objs.size f (.ref cQ))) → sp vs H Q E →
      ∃ t, PSs (cxOf CX0 P w K mg base N x (defScope st) f (.ref cQ) A outer s H E).nox (defBody st) t ∧ t { nx := fun _ H' => Q .non H', rt := Q } (start N vs) H) : C8.Cal P w K mg base (k + 1) x sp [] := by
  obtain ⟨f, cQ, oc, kV, doc, pm, ct, od, an, osl, lk, hcd, kp, hm, b, TB⟩ := D.ex
  refine ⟨⟨f, _, ps, [], fn_of lk hcd S len fun A outer s H vs Q E hr hsp => ?_, hm, kp, b, .nil⟩⟩
  obtain ⟨t, h, q⟩ := hb f cQ A outer s H vs Q E TB hr hsp
  exact ⟨t, h.nox, q⟩
end Lf
namespace Lf
open PySem PySem.Spec PyProof.Rows L2
/-! ### an own exception class over ValueError whose __init__ says super().__init__(text), self.x = x -/
/-- the context of such an __init__ at its entry -/
def cxSup (P : Program) (w : World) (K : PySem.W.Frag) (mg : Str → Option Value) (base : Heap) (N : List Str) (env : Env) (A : Around) (outer : List Env) (s : Shared) (H : Hp) : Cx where
  prog := P
  w := w
  K := K
  mg := mg
  base := base
  A := A.deeper env
  N := N
  s_0 := s
  H_0 := H
  env := env
  outer := outer
  stack := env :: outer
  ex := []
  calm := true
  fn := fun _ => false
  pn := []
  xe := fun _ _ => False
/-- what it promises -/
def spIni (C : Addr) (x : Str) : Sp := fun vs H Q _ => ∃ (a : Addr) (v : V), vs = [.ref a, v] ∧ H a = some (exo a C none) ∧
  ∀ dx, H dx = none → dx ≠ a → Q .non (upd (upd H dx (exd dx [(x, v)])) a (exo a C (some dx)))
/-- its text -/
structure IniT (x : Str) (params : Arguments) (body : List Stmt) (scope : Scope) : Prop where
  pa : ∃ ar, (params.posonlyargs ++ params.args).head? = some ar ∧ ar.arg = "self"
  bd : ∃ txt p0 p1 p2 p3 p4 p5 p6 p7 p8 p9 j, body = [.Expr (.Call (.Attribute (.Call (.Name "super" p0) [] [] p1) "__init__" p2) [.Constant (.str txt) j p3] [] p4) p5, .Assign [.Attribute (.Name "self" p6) x p7] (.Name x p8) p9] ∧
    ∃ pl : Env → Sem Bool, ∀ env : Env, eval (.Call (.Attribute (.Call (.Name "super" p0) [] [] p1) "__init__" p2) [.Constant (.str txt) j p3] [] p4) env = (do
      let ov ← attributeBase (.Call (.Name "super" p0) [] [] p1) "__init__" env (eval (.Call (.Name "super" p0) [] [] p1) env)
      standAt p2.atName
      let (f, first) ← holding [ov] (getMethod ov "__init__" (pl env))
      callWith p4 f first (backTo p4 (starEach [.Constant (.str txt) j p3] env)) [])
  ls : scope.names.lookup ("self" : Str) = some .local
  lx : scope.names.lookup x = some .local
  lc : scope.names.lookup ("__class__" : Str) = some .free
  lu : scope.names.lookup ("super" : Str) = some .globalImplicit
  nc : ∀ y ∈ scope.names, y.2 ≠ .cell
  nf : ∀ y ∈ scope.names, y.2 = .free → y.1 = "__class__"
  co : scope.isCoroutine = false
  ge : scope.isGenerator = false
  kd : scope.kind = .function
  ne : x ≠ "self"
  dx : (x == ("__debug__" : Str)) = false
  dc : (x == ("__classdict__" : Str)) = false
/-- what the written part tells of it -/
structure SupC (P : Program) (K : PySem.W.Frag) (C cda cc : Addr) (x : Str) : Prop where
  cls : OexC K C
  code : ∃ ccl cdd vs ccs file tf, K.lookup cda = some ⟨ccl, cdd, .fields vs, ccs⟩ ∧ vs[2]? = some (.str file tf) ∧ ((P.main.file : Str) == file) = true
  cell : ∃ cl cld csl, K.lookup cc = some ⟨cl, cld, .cell (some (.ref C)), csl⟩
  sub : PySem.W.mroIn K C (.ref C) = some true
  st : PySem.W.nsIn K cStatics "thirdparty.any" = some none
  sup : PySem.W.ks_superIn K C C "__init__" = some (some (.builtin "ValueError.__init__"))
  ve : PySem.W.subIn K (.ref C) (.type "ValueError") = some true
  no : PySem.W.findIn K (.ref C) x = some none
  top : (P.main.scope.names.lookup ("super" : Str)).isSome = false
theorem bt_super : bootBuiltins ("super" : Str) = Option.some (Value.type "super") := by decide +kernel
section
variable {P : Program} {w : World} {K : PySem.W.Frag} {mg : Str → Option Value} {base : Heap}
theorem fn_sup {CX : CXT} {C f cda cc : Addr} {name qual x : Str} {params : Arguments} {body : List Stmt} {scope : Scope} {dV kV doc pm ct oc : Value} {an od : Option Addr} {osl : Array (Option Value)}
    (lk : K.lookup f = some ⟨oc, od, .func (PySem.W.ksFn name qual params body scope dV kV doc pm an (.ref cda) ct cc), osl⟩) (hcd : PySem.W.codeIn K (.ref cda) qual = true) (T : IniT x params body scope) (S : SupC P K C cda cc x) (ms : mg "super" = none) :
    FnOk P w K mg base CX 1 f (PySem.W.ksFn name qual params body scope dV kV doc pm an (.ref cda) ct cc) ["self", x] (spIni C x) := by
  refine ⟨fun vs H Q E h => ?_, fun A outer s H args us vs Q E hr e0 hb r hsp => ?_⟩
  · obtain ⟨a, v, rfl, _⟩ := h
    rfl
  obtain ⟨a, v, rfl, ea, q⟩ := hsp
  obtain ⟨u, rfl, ru⟩ : ∃ u, us = [.ref a, u] ∧ RelV v u := by
    cases r with
    | cons ra r =>
      cases r with
      | cons rv r =>
        cases r
        cases ra
        exact ⟨_, rfl, rv⟩
  have KX : K.In s.heap := e0.mod.kin.keeps fun b o e => (e0.bs b o e).1
  have lim : s.heap.NoLimit := e0.mod.nolimit.keeps fun b o e => (e0.bs b o e).1
  refine ks_codeAny_call_defAt (fd := PySem.W.ksFn name qual params body scope dV kV doc pm an (.ref cda) ct cc) (body := body) hr.depth (KX _ _ lk) rfl lim (PySem.W.codeRec_of KX hcd) rfl hb T.nc (fun y hy => ?_) (fun h₀ hns hk => ?_) T.co T.ge T.kd
  · have : y = (("self" : Str), Value.ref a) ∨ y = (x, u) := by simpa using hy
    rcases this with rfl | rfl
    · exact T.ls
    · exact T.lx
  obtain ⟨txt, p0, p1, p2, p3, p4, p5, p6, p7, p8, p9, j, rfl, pl, hpl⟩ := T.bd
  obtain ⟨ar, har, ear⟩ := T.pa
  obtain ⟨cl, cld, csl, hcell⟩ := S.cell
  obtain ⟨ccl, cdd, fvs, ccs, file, tf, hcode, hvs, hfile⟩ := S.code
  show _root_.PySem.wpAt _ (A.deeper (PySem.W.ksEnv qual scope s.heap.objs.size f (.ref cda) cc)) (.func _ (PySem.W.ksEnv qual scope s.heap.objs.size f (.ref cda) cc)) (execs _ (PySem.W.ksEnv qual scope s.heap.objs.size f (.ref cda) cc)) _ _ _
  generalize hX : cxSup P w K mg base ["self", x] (PySem.W.ksEnv qual scope s.heap.objs.size f (.ref cda) cc) A outer s H = X
  have bcell : base.get? cc = some ⟨cl, cld, .cell (some (.ref C)), csl⟩ := e0.mod.kin _ _ hcell
  have luc : ∀ y c, List.lookup y [(("__class__" : Str), cc)] = some c → y = "__class__" ∧ c = cc := fun y c h => by
    rw [List.lookup_cons] at h
    by_cases hy : (y == ("__class__" : Str)) = true
    · rw [hy] at h
      exact ⟨by simpa using hy, (Option.some.inj h).symm⟩
    · rw [Bool.not_eq_true] at hy
      rw [hy] at h
      cases h
  have noA : ∀ b : Addr, b ∉ ([] : List Addr) := fun b z => nomatch z
  have I : Inv X [] [some (.ref a), some v] H { s with heap := h₀, toks := s.toks + [(("self" : Str), Value.ref a), (x, u)].length } := by
    subst hX
    refine ⟨⟨e0.mod, T.kd, rfl, rfl, Nat.le_refl _, fun y z c h1 h2 => ?_, fun y hy => ?_, fun y c z _ => (nomatch z), fun _ => hr.hd, Around.frames_deeper e0.frames, .inr ⟨rfl, rfl⟩, fun b z => absurd z (noA b), e0.bs, e0.bsz, fun b _ _ => noA b, fun b z => absurd z (noA b), e0.funs, e0.frf⟩,
      rfl, e0.bare, Un.kept hk, ⟨_, hns, fun i y v' h1 h2 h3 => ?_⟩, fun y c h => ?_, e0.hok.fresh (Nat.le_refl _), fun y c h => ?_, fun p hp => absurd (show p ∈ ([] : List (Addr × Obj)) from hp) (by simp), e0.hok.kept hk, rfl⟩
    · rw [(luc y c h1).1, (luc z c h2).1]
    · have hy : scope.names.lookup y = some .cell ∨ scope.names.lookup y = some .free := hy
      rcases hy with hy | hy
      · exact absurd rfl (T.nc _ (PySem.mem_of_lookup hy))
      · have := T.nf _ (PySem.mem_of_lookup hy) rfl
        dsimp only at this
        subst this
        exact ⟨cc, rfl⟩
    · match i, h1, h2 with
      | 0, h1, h2 =>
        cases h1
        cases h2
        refine ⟨.ref a, rfl, .inl ⟨T.ls, ?_⟩⟩
        show List.lookup _ [(x, u), ("self", .ref a)] = _
        rw [List.lookup_cons, show (("self" : Str) == x) = false by simpa using fun z => T.ne z.symm]
        rfl
      | 1, h1, h2 =>
        cases h1
        cases h2
        refine ⟨u, ru, .inl ⟨T.lx, ?_⟩⟩
        show List.lookup _ [(x, u), ("self", .ref a)] = _
        rw [List.lookup_cons, beq_self_eq_true]
    · obtain ⟨_, rfl⟩ := luc y c h
      exact ⟨_, _, hk _ _ ((e0.bs _ _ bcell).1), rfl⟩
    · obtain ⟨_, rfl⟩ := luc y c h
      exact (e0.bs _ _ bcell).2
  have eE : X.env = PySem.W.ksEnv qual scope s.heap.objs.size f (.ref cda) cc := by subst hX; rfl
  have eA : X.A = A.deeper (PySem.W.ksEnv qual scope s.heap.objs.size f (.ref cda) cc) := by subst hX; rfl
  have eP : X.prog = P ∧ X.w = w ∧ X.K = K ∧ X.mg = mg ∧ X.base = base ∧ X.N = [("self" : Str), x] ∧ X.stack = PySem.W.ksEnv qual scope s.heap.objs.size f (.ref cda) cc :: outer ∧ X.s_0 = s ∧ X.H_0 = H ∧ X.outer = outer ∧ X.ex = [] := by subst hX; exact ⟨rfl, rfl, rfl, rfl, rfl, rfl, rfl, rfl, rfl, rfl, rfl⟩
  have Z : ∀ s', (∃ σ' H', Inv X [] σ' H' s' ∧ Q .non H') → CR CX outer P w H s Q E (.ok (.ret .none)) s' := fun s' ⟨σ', H', J, q'⟩ => by
    subst hX
    exact ⟨.non, H', J.os, J.bare, J.base, J.hok, rfl, q'⟩
  have hxe : ∀ e s', X.xe e s' → False := by subst hX; exact fun _ _ z => z
  have hprog : X.prog = P := by subst hX; rfl
  have hw : X.w = w := by subst hX; rfl
  have hK : X.K = K := by subst hX; rfl
  have hmg : X.mg = mg := by subst hX; rfl
  have hN : X.N = [("self" : Str), x] := by subst hX; rfl
  subst hprog hw hK hmg
  rw [← eA, ← eE]
  obtain ⟨nm, qn, N, bs, bm, sn, sub, ab, col, dd, k0, k1, k2, k3, k5, hC, hbm⟩ := S.cls.cls
  obtain ⟨t1, ho⟩ := exo_at I.hok ea
  obtain ⟨cdD, hcl⟩ : ∃ cdD, PySem.W.clsIn X.K C = some cdD := ⟨_, by unfold PySem.W.clsIn; rw [hC] <;> rfl⟩
  have hne : ¬ (("__init__" : Str) == ("__class__" : Str)) = true := by decide
  have hbase : ∀ s', Inv X [] [some (.ref a), some v] H s' → (∃ m, s'.heap.Ns X.env.locals m ∧ m "self" = some (.ref a)) := fun s' J => by
    obtain ⟨m, hn, hl⟩ := J.loc
    obtain ⟨u', ru', lk'⟩ := hl 0 "self" (.ref a) (by rw [hN]; rfl) rfl (by rw [eE]; exact .inl T.ls)
    cases ru'
    rcases lk' with ⟨_, e⟩ | ⟨z, _⟩
    · exact ⟨m, hn, e⟩
    · rw [eE] at z
      have z : scope.names.lookup ("self" : Str) = some .cell ∨ scope.names.lookup ("self" : Str) = some .free := z
      rw [T.ls] at z
      rcases z with z | z <;> cases z
  obtain ⟨m, hn, hself⟩ := hbase _ I
  obtain ⟨mb, hb1, hb2⟩ := I.mod.blt
  have hfr : ∀ {s'} , Inv X [] [some (.ref a), some v] H s' → ∃ o, s'.heap.get? a = some o ∧ o.cls = .ref C ∧ ∀ c, o.data ≠ .cls c := fun {s'} J => by
    obtain ⟨t1, h1⟩ := exo_at J.hok ea
    exact ⟨_, h1, rfl, fun c z => by cases z⟩
  obtain ⟨oD, hD1, hD2⟩ : ∃ oD, h₀.get? C = some oD ∧ oD.data = .cls cdD := by
    unfold PySem.W.clsIn at hcl
    split at hcl
    · rename_i c d cd' sl hoo
      cases hcl
      exact ⟨_, I.kIn _ _ hoo, rfl⟩
    · cases hcl
  refine ks_wpAt_execs_cons (ks_wpAt_Expr_any (ks_wpAt_MethodCall (pl := pl X.env) ?_ (hpl X.env)) ?hi ?hs)
  case hi => exact I.quiet
  case hs => rfl
  refine ks_wpAt_super_base (env := X.env) (attr := "__init__") (f := f) (cc := cda) (fd := PySem.W.ksFn name qual params _ scope dV kV doc pm an (.ref cda) ct cc) (ar := ar) (by rw [eE]; exact T.lu) (by rw [eE]; exact T.lc) (by decide) (by rw [eE]) (I.kIn _ _ lk) rfl har (by rw [eE]) (I.kIn _ _ hcode) rfl hvs hfile S.top ?_
  refine PySem.W.ks_loadName_global I.ok.kind (by rw [eE]; exact T.lu) (Calls.loadGlobal_builtin (by rw [I.ok.glob]; exact I.mod.glob.keeps I.bk) ms (by rw [I.ok.blt]; exact hb1.keeps I.bk) ((hb2 _ (by decide)).trans bt_super) ⟨rfl, ?_⟩)
  refine wpAny_loadName_free I.ok.kind (by rw [eE]; exact T.lc) (by rw [eE]; rfl) ⟨_, I.kIn _ _ hcell, rfl⟩ ?_
  rw [ear]
  refine wpAny_loadName_local I.ok.kind (by rw [eE]; exact T.ls) hn hself ?_
  refine ks_wpAny_isType_cls hD1 hD2 ⟨rfl, ?_⟩
  refine ks_wpAny_call_super hD1 hD2 ho rfl (fun c z => by cases z) (PySem.W.looks_mroIn I.kIn S.sub) (fun h1 e1 kk1 => ?_)
  have I1 := I.kept (t' := s.toks + [(("self" : Str), Value.ref a), (x, u)].length) kk1
  have hm : PySem.W.alongIn X.K "__init__" ((cdD.mro.dropWhile (· != .ref C)).drop 1) = some (some (.builtin "ValueError.__init__")) := by
    have z := S.sup
    unfold PySem.W.ks_superIn at z
    rw [hcl, Option.bind_some] at z
    exact z
  obtain ⟨t2, ho1⟩ := exo_at I1.hok ea
  have IA : PySem.W.InstAt h1 a { cls := .ref C, dict := none, data := .fields #[.ref t2, .none, .none, .none, .bool false, .none] } C none := ⟨ho1, rfl, rfl, trivial⟩
  refine PySem.W.kxs_getMethod PySem.W.kxs_ValueError e1 (PySem.W.looks_opaque I1.kIn S.st) (l₀ := cdD.mro) (fun A Q E s k q => wpAny_bind ((PySem.W.looks_clsIn I1.kIn hcl) A _ E s k (wpAny_pure q))) rfl I1.kIn hm (IA.type.andThen (PySem.W.looks_subIn I1.kIn S.ve)) (PySem.W.ks_ne I1.kIn IA hcl) (by decide) ?_
  have I2 := I1.kept (h' := h1.push (PySem.W.kxs_mw "ValueError.__init__" a)) (t' := s.toks + [(("self" : Str), Value.ref a), (x, u)].length + 1) (fun b o e => Heap.get?_push_of_some _ e)
  have hmw : (h1.push (PySem.W.kxs_mw "ValueError.__init__" a)).get? h1.objs.size = some (PySem.W.kxs_mw "ValueError.__init__" a) := Heap.get?_push_at rfl rfl
  have I3 : Inv X [(h1.objs.size, PySem.W.kxs_mw "ValueError.__init__" a)] [some (.ref a), some v] H _ := I2.pins_of (fun p hp => by
    have hp : p = (h1.objs.size, PySem.W.kxs_mw "ValueError.__init__" a) := by simpa using hp
    subst hp
    exact ⟨hmw, I1.hok.fresh (Nat.le_refl _), fun z => absurd I1.lt (by rw [← z]; exact Nat.lt_irrefl _), I1.nofs (Nat.le_refl _), fun v z => by cases z⟩)
  have hst : starEach [Expr.Constant (Const.str txt) j p3] X.env = (false, eval (Expr.Constant (Const.str txt) j p3) X.env) :: starEach [] X.env := rfl
  refine PySem.W.kxs_callWith (i := "ValueError.__init__") (x := a) (by rfl) ?_
  show wpAny _ _ (evalArgs _ true ((false, eval (Expr.Constant (Const.str txt) j p3) X.env) :: _) []) _ _ _
  refine Calls.evalArgs_plain ?_
  have hpa : L2.PA X [Expr.Constant (Const.str txt) j p3] (tCons (tC (.str txt)) tNil) := pa_cons pe_str pa_nil
  refine thn (hpa.run p4 _ _ _ H (fun vs H' => H' = H ∧ vs = [.str txt]) I3 ⟨rfl, rfl⟩) fun us s4 ⟨vs, H4, I4, r4, eH, ev⟩ => ?_
  subst eH ev
  have hu4 := (I4.pin (h1.objs.size, PySem.W.kxs_mw "ValueError.__init__" a) (by simp)).1
  refine ⟨hu4, ?_⟩
  obtain ⟨t3, ho4⟩ := exo_at I4.hok ea
  have hlen : us.length ≤ sizeLine := by
    rw [← r4.length]
    rw [sizeLine_eq]; exact (by show 1 ≤ _; omega)
  obtain ⟨h4, g4, d4, t4, os4⟩ := s4
  refine wpAny_call (codeAny_of_tree ?_)
  show wpAny _ _ (callAny (.ref h1.objs.size) ⟨us, []⟩) _ _ _
  simp only [callAny]
  refine wpAny_bind (wpAny_load hu4 ?_)
  simp only [PySem.W.kxs_mw, show (Value.type "method-wrapper" == Value.type "method" || Value.type "method-wrapper" == Value.type "builtin_function_or_method" || Value.type "method-wrapper" == Value.type "method-wrapper") = true by decide, if_true]
  refine PySem.W.KFB.if_so (by decide) ?_
  refine wpAny_bind (PySem.W.check_bound_init F.excBase_ValueError.toExcCallFacts (I4.kIn _ _ hC) ho4 rfl ?_)
  refine wpAny_bind (wpAny_pure (wpAny_pure ?_))
  refine ⟨plainId_quiet F.excBase_ValueError.init.plain _, codeAny_builtin F.excBase_ValueError.initEntry ?_⟩
  refine PySem.W.exc_init_tree (cls := .ref C) (t0 := t3) (dv := none) (c2 := .none) (c3 := .none) (b4 := .bool false) ho4 hlen (fun h5 k5 e5 _ => ?_)
  have J5 := I4.write (t' := t4) (x := a) (e := a) (o := exo a C none) (by rw [ea]; exact True.intro) (.inl rfl) k5 ⟨_, e5⟩ (exo_ok e5)
  have eu : upd H4 a (exo a C none) = H4 := by
    funext b
    by_cases hb : b = a
    · rw [hb, upd_same, ea]
    · rw [upd_ne hb]
  rw [eu] at J5
  have J6 : Inv X [] [some (.ref a), some v] H4 _ := J5.pins_of (fun p hp => nomatch hp)
  have hps : PSs X [Stmt.Assign [(Expr.Name "self" p6).Attribute x p7] (Expr.Name x p8) p9] (tOst X.K x (tVar 0) (tVar 1)) :=
    pss_one (ps_ost (pe_var (by rw [hN]; rfl) (by rw [eE]; exact .inl T.ls) (by decide) (by decide)) (pe_var (by rw [hN]; rfl) (by rw [eE]; exact .inl T.lx) T.dx T.dc))
  show _root_.PySem.wpAt _ _ _ _ _ _ _
  refine wpAt_of_wpAny (wpAny_mono (hps.run [] _ _ H4 { nx := fun _ H' => Q .non H', rt := fun _ _ => False } J6 ?_) (fun fl s' hs => ?_) fun e s' hs => ?_)
  · exact ⟨_, rfl, _, rfl, a, C, rfl, S.cls, S.no, .inl ⟨ea, fun dx n ne => q dx n ne⟩⟩
  · cases fl with
    | ret u =>
      obtain ⟨v, σ', H', J, rv, q⟩ := hs
      exact False.elim q
    | next =>
      obtain ⟨σ', H', J, q⟩ := hs
      exact Z s' ⟨σ', H', J, q⟩
    | brk =>
      obtain ⟨_, _, _, q⟩ := hs
      exact False.elim q
    | cont =>
      obtain ⟨_, _, _, q⟩ := hs
      exact False.elim q
  · exact (hxe _ _ hs).elim
end

section
variable {P : Program} {w : World} {K : PySem.W.Frag} {mg : Str → Option Value} {base : Heap}
/-- what the top tells of such a class: at C, its __init__ at fI, its name nm, its field x -/
structure ValC (P : Program) (K : PySem.W.Frag) (mg : Str → Option Value) (C : Addr) (nm x : Str) : Prop where
  gC : mg nm = some (.ref C)
  ini : ∃ (fI cda cc : Addr) (qual : Str) (params : Arguments) (body : List Stmt) (scope : Scope) (kV doc pm ct oc : Value) (an od : Option Addr) (osl : Array (Option Value)),
    K.lookup fI = some ⟨oc, od, .func (PySem.W.ksFn "__init__" qual params body scope .none kV doc pm an (.ref cda) ct cc), osl⟩ ∧ PySem.W.codeIn K (.ref cda) qual = true ∧ IniT x params body scope ∧ SupC P K C cda cc x ∧
    PySem.W.findIn K (.ref C) "__init__" = some (some (.ref fI)) ∧ PySem.W.typeIn K (.ref fI) = some (.type "function") ∧ Binds K (PySem.W.ksFn "__init__" qual params body scope .none kV doc pm an (.ref cda) ct cc) ["self", x] []
  ms : mg "super" = none
  ex : ExcC K C
  sf : PySem.W.subIn K (.ref C) (.ref C) = some true
theorem ValC.oex {C : Addr} {nm x : Str} (T : ValC P K mg C nm x) : OexC K C := by
  obtain ⟨fI, cda, cc, qual, params, body, scope, kV, doc, pm, ct, oc, an, od, osl, _, _, _, S, _⟩ := T.ini
  exact S.cls
theorem ValC.raises {X : Cx} {C : Addr} {nm x : Str} (T : ValC P X.K X.mg C nm x) : Raises X (.ref C) := raises_own T.oex.exC T.oex.tyC
theorem ValC.meets {C : Addr} {nm x : Str} (T : ValC P K mg C nm x) : PySem.W.exmOne K (.ref C) (.ref C) = some true := PySem.W.exm_ref T.ex.hs T.ex.hd T.oex.tyC T.sf
theorem ValC.no {C : Addr} {nm x : Str} (T : ValC P K mg C nm x) : PySem.W.findIn K (.ref C) x = some none := by
  obtain ⟨fI, cda, cc, qual, params, body, scope, kV, doc, pm, ct, oc, an, od, osl, _, _, _, S, _⟩ := T.ini
  exact S.no
theorem ValC.xf {C : Addr} {nm x : Str} (T : ValC P K mg C nm x) : XfC K C := ⟨T.ex.hg, T.ex.hk, T.ex.hs, T.ex.hd⟩
theorem back_to {H1 : Hp} {a d C : Addr} {fs : List (Str × V)} (ha : H1 a = none) (hd : d ≠ a) :
    upd (del (upd (upd (upd H1 a (exo a C none)) d (exd d fs)) a (exo a C (some d))) a) d (.xd fs) = upd H1 d (.xd fs) := by
  funext b
  by_cases h1 : b = d
  · subst h1
    rw [upd_same, upd_same]
  · rw [upd_ne h1, upd_ne h1]
    by_cases h2 : b = a
    · subst h2
      rw [del_same, ha]
    · rw [del_ne h2, upd_ne h2, upd_ne h1, upd_ne h2]
/-- nm(e): the exception, its value -/
theorem pmk_val {X : Cx} {C : Addr} {nm x : Str} {e : Expr} {te : TE} {p pos : Pos} {j : Nat} (T : ValC X.prog X.K X.mg C nm x) (hr : Room j X.A) (hj : 2 ≤ j) (hg : Gl X nm) (he : PE X e te)
    (hdb : (nm == ("__debug__" : Str)) = false := by decide) (hs : starEach [e] X.env = (false, eval e X.env) :: starEach [] X.env := by rfl) :
    PMk X (.Call (.Name nm p) [e] [] pos) (tMkO C (spIni C x) [] (tCons te tNil)) := by
  obtain ⟨fI, cda, cc, qual, params, body, scope, kV, doc, pm, ct, oc, an, od, osl, lk, hcd, iT, S, fi, ti, bi⟩ := T.ini
  have F := fn_sup (P := X.prog) (w := X.w) (base := X.base) (CX := CX0) lk hcd iT S T.ms
  exact pmk_oex (X := X) (p := p) (pos := pos) (x := nm) S.cls fi ti F (hr.mono hj) bi .nil (fun _ _ _ _ _ _ _ z => z.elim) hg T.gC (pa_cons he pa_nil hs) hdb hs
theorem mkv {C : Addr} {x : Str} {v : V} {H1 : Hp} {Q : XK} (h : ∀ d, H1 d = none → Q (.ref C) (some d) (upd H1 d (.xd [(x, v)]))) : [v].length ≤ 1000 ∧ ∀ a, H1 a = none → spIni C x (.ref a :: ([v] ++ [])) (upd H1 a (exo a C none))
    (fun v H2 => v = .non ∧ ∃ (d : Addr) (fs : List (Str × V)), H2 a = some (exo a C (some d)) ∧ H2 d = some (exd d fs) ∧ H1 d = none ∧ Q (.ref C) (some d) (upd (del H2 a) d (.xd fs))) (fun _ _ _ => False) := by
  refine ⟨by show 1 ≤ 1000; decide, fun a ha => ⟨a, v, rfl, upd_same, fun dx hx hne => ⟨rfl, dx, [(x, v)], upd_same, ?_, ?_, ?_⟩⟩⟩
  · rw [upd_ne hne, upd_same]
  · rw [upd_ne hne] at hx
    exact hx
  · rw [back_to ha hne]
    rw [upd_ne hne] at hx
    exact h dx hx
/-! ### isinstance of a caught exception that has its dict -/
/-- in the suite -/
def rIsV (K : PySem.W.Frag) (D a dd : Addr) : List V → Hp → VK → Prop := fun xs H Q => ∃ (c : V) (cv : Value) (b : Bool) (fs : List (Str × V)), xs = [.ref a, c] ∧ (∀ u, RelV c u → u = cv) ∧ PySem.W.kitOne K (.ref D) cv = some b ∧ H dd = some (.xd fs) ∧ Q (.bl b) H
theorem call_isV {X : Cx} {a D dd : Addr} {oe : Obj} {pn : List (Addr × Obj)} (C : ExcC X.K D) (hz : Zc (.ref D) (some dd) oe) (hf : ∃ vs, oe.data = .fields vs) : CallR (X.suite a ((a, oe) :: pn)) (.builtin "isinstance") (rIsV X.K D a dd) := by
  intro pins s σ H xs us Q I r h
  obtain ⟨c, cv, b, fs, rfl, hcv, e, ed, q⟩ := h
  cases r with
  | cons rx rr =>
    cases rr with
    | cons rt rr =>
      cases rr
      cases rx
      obtain ⟨ge, _⟩ := I.pin (a, oe) (List.mem_append.mpr (.inl List.mem_cons_self))
      obtain ⟨vs, hv⟩ := hf
      obtain ⟨mA, hns, _⟩ := (show ObjOk X.prog X.w H s.heap dd (.xd fs) from I.hok dd _ ed)
      obtain ⟨od, _, _, ho, _⟩ := hns
      have J : PySem.W.InstAt s.heap a oe D (some od) := by
        obtain ⟨oc, od', oda, osl⟩ := oe
        obtain ⟨h1, h2⟩ := hz
        dsimp only at h1 h2 hv
        subst h1 h2 hv
        exact ⟨ge, rfl, rfl, ho⟩
      have hcl : (PySem.W.clsIn X.K D).isSome = true := by
        obtain ⟨cd, hc, _⟩ := PySem.W.any_some C.hd
        rw [hc]
        rfl
      have kx := PySem.W.kitx_exc (x := a) (ox := oe) (od := some od) hcl C.hg C.hk C.hs C.ha C.hn C.ht C.hm
      have ec := hcv _ rt
      subst ec
      exact PySem.W.kia_one kx I.kIn J e (fun z => nomatch z) fun tk => ⟨.bl b, H, I.kept (t' := tk) fun _ _ z => z, rfl, q⟩
end
end Lf
namespace Lf
open PySem PySem.Spec PyProof.Rows L2
/-! ### data of any kind -/
mutual
inductive Dv (H : Hp) : V → PyData → Prop
  | non : Dv H .non .none
  | bl (b : Bool) : Dv H (.bl b) (.bool b)
  | int (i : Int) : Dv H (.int i) (.int i)
  | str (x : Str) : Dv H (.str x) (.str x)
  | lst {a : Addr} {xs : List V} {ds : List PyData} : a ≠ 1 → H a = some (.lst xs) → DvAll H xs ds → Dv H (.ref a) (.list ds)
  | tup {a : Addr} {xs : List V} {ds : List PyData} : H a = some (.tup xs) → DvAll H xs ds → Dv H (.ref a) (.tuple ds)
  | dk0 {a : Addr} : H a = some (.dK []) → Dv H (.ref a) (.dict [])
  | dk1 {a : Addr} {x : Str} {v : V} {d : PyData} : H a = some (.dK [(Sum.inr x, v)]) → Dv H v d → Dv H (.ref a) (.dict [(.str x, d)])
inductive DvAll (H : Hp) : List V → List PyData → Prop
  | nil : DvAll H [] []
  | cons {v : V} {vs : List V} {d : PyData} {ds : List PyData} : Dv H v d → DvAll H vs ds → DvAll H (v :: vs) (d :: ds)
end
/-- what such data leans on stays -/
structure Kp (H H' : Hp) : Prop where
  l : ∀ b xs, H b = some (.lst xs) → H' b = some (.lst xs)
  t : ∀ b xs, H b = some (.tup xs) → H' b = some (.tup xs)
  d0 : ∀ b, H b = some (.dK []) → H' b = some (.dK [])
  d1 : ∀ b x v, H b = some (.dK [(Sum.inr x, v)]) → H' b = some (.dK [(Sum.inr x, v)])
theorem Fr.kp {H H' : Hp} (f : Fr H H') : Kp H H' := ⟨f.l, f.t, f.d0, fun b x v h => f.k _ _ h fun _ z => by cases z⟩
theorem ext_kp {H H' : Hp} (e : LamX.ExtN H H') : Kp H H' := ⟨fun _ _ h => e _ _ h (fun _ z => by cases z), fun _ _ h => e _ _ h (fun _ z => by cases z), fun _ h => e _ _ h (fun _ z => by cases z), fun _ _ _ h => e _ _ h (fun _ z => by cases z)⟩
mutual
theorem Dv.kp {H H' : Hp} (f : Kp H H') : ∀ (d : PyData) (v : V), Dv H v d → Dv H' v d
  | .none, _, .non => .non
  | .bool _, _, .bl b => .bl b
  | .int _, _, .int i => .int i
  | .str _, _, .str x => .str x
  | .list ds, _, .lst n h hs => .lst n (f.l _ _ h) (Dv.kpAll f ds _ hs)
  | .tuple ds, _, .tup h hs => .tup (f.t _ _ h) (Dv.kpAll f ds _ hs)
  | .dict [], _, .dk0 h => .dk0 (f.d0 _ h)
  | .dict [(.str _, d)], _, .dk1 h h2 => .dk1 (f.d1 _ _ _ h) (Dv.kp f d _ h2)
theorem Dv.kpAll {H H' : Hp} (f : Kp H H') : ∀ (ds : List PyData) (vs : List V), DvAll H vs ds → DvAll H' vs ds
  | [], _, .nil => .nil
  | d :: ds, _, .cons h hs => .cons (Dv.kp f d _ h) (Dv.kpAll f ds _ hs)
end
theorem Dv.fr {H H' : Hp} (f : Fr H H') (d : PyData) (v : V) (h : Dv H v d) : Dv H' v d := Dv.kp f.kp d v h
section
variable {X : Cx} {pins : List (Addr × Obj)} {σ : L2.St} {H : Hp} {s : Shared}
mutual
theorem Dv.reads (I : Inv X pins σ H s) : ∀ (d : PyData) (v : V) (u : Value), Dv H v d → RelV v u → ∃ as, Reads s.heap u d as ∧ sysModules ∉ as
  | .none, _, _, .non, r => by
    cases r
    exact ⟨_, Reads.none, by simp⟩
  | .bool b, _, _, .bl _, r => by
    cases r
    exact ⟨_, Reads.bool b, by simp⟩
  | .int i, _, _, .int _, r => by
    obtain ⟨t, rfl⟩ := r
    exact ⟨_, Reads.int i t, by simp⟩
  | .str x, _, _, .str _, r => by
    obtain ⟨t, rfl⟩ := r
    exact ⟨_, Reads.str x t, by simp⟩
  | .list ds, _, _, .lst n1 h hs, r => by
    cases r
    obtain ⟨its, rv, ⟨o, n, ho, hc, _, hd⟩, _⟩ := I.list (SqL.of h)
    obtain ⟨as, hr, ns⟩ := Dv.readsAll I ds _ its hs rv
    exact ⟨_, Reads.list ho hc hd hr, fun z => (List.mem_cons.mp z).elim (fun e => n1 e.symm) ns⟩
  | .tuple ds, _, _, .tup h hs, r => by
    cases r
    obtain ⟨its, rv, ⟨o, ho, hc, n, hd⟩, _⟩ := I.tuple (SqT.of h)
    obtain ⟨as, hr, ns⟩ := Dv.readsAll I ds _ its hs rv
    exact ⟨_, Reads.tuple ho hc hd hr, ns⟩
  | .dict [], _, _, .dk0 (a := a) h, r => by
    cases r
    obtain ⟨_, hne, vs, kv, o, es, ep, ho, hx, hd, hk, hp, hn⟩ := (show ObjOk X.prog X.w H s.heap a (.dK []) from I.hok a _ h)
    cases kv
    have he : es.toList = [] := by
      cases hE : es.toList with
      | nil => rfl
      | cons x y => rw [hE] at hp; cases hp
    refine ⟨_, Reads.dict (kvs := []) ho hx.1 hd (by rw [he]; exact .nil) (by rw [he]; exact .nil), ?_⟩
    intro z
    have z' : sysModules = a := by simpa using z
    rw [z'] at hne
    simp at hne
  | .dict [(.str x, d)], _, _, .dk1 (a := a) (v := v) h h2, r => by
    cases r
    obtain ⟨_, hne, vs, kv, o, es, ep, ho, hx, hd, hk, hp, hn⟩ := (show ObjOk X.prog X.w H s.heap a (.dK [(Sum.inr x, v)]) from I.hok a _ h)
    cases kv with
    | @cons _ q _ _ k1 k2 =>
      cases k2
      obtain ⟨qk, qv⟩ := q
      obtain ⟨ek, rv⟩ := k1
      dsimp only at ek rv
      subst ek
      obtain ⟨as, hr, ns⟩ := Dv.reads I d v qv h2 rv
      have hE : ∃ e t, es.toList = [e] ∧ e.key = .str x t ∧ e.val = qv := by
        generalize es.toList = l at hp
        cases hp with
        | @cons e _ es' _ hi hv hr =>
          cases hr
          rcases keyIs_shape (show keyIs (Sum.inr x) e.key = true from hi) with ⟨i, t, z, _⟩ | ⟨y, t, z, ev⟩
          · cases z
          · cases z
            exact ⟨e, t, rfl, ev, hv⟩
      obtain ⟨e, t, hE1, hE2, hE3⟩ := hE
      have q1 : ReadsAll s.heap (es.toList.map (·.key)) [PyData.str x] ([] ++ []) := by
        rw [hE1]
        simp only [List.map_cons, List.map_nil]
        rw [hE2]
        exact .cons (Reads.str x t) .nil
      have q2 : ReadsAll s.heap (es.toList.map (·.val)) [d] (as ++ []) := by
        rw [hE1]
        simp only [List.map_cons, List.map_nil]
        rw [hE3]
        exact .cons hr .nil
      refine ⟨_, Reads.dict (kvs := [(.str x, d)]) ho hx.1 hd q1 q2, fun z => ?_⟩
      have z' : sysModules = a ∨ sysModules ∈ as := by simpa using z
      rcases z' with z' | z'
      · rw [z'] at hne
        simp at hne
      · exact ns z'
theorem Dv.readsAll (I : Inv X pins σ H s) : ∀ (ds : List PyData) (vs : List V) (us : List Value), DvAll H vs ds → Vals vs us → ∃ as, ReadsAll s.heap us ds as ∧ sysModules ∉ as
  | [], _, _, .nil, r => by
    cases r
    exact ⟨_, ReadsAll.nil, by simp⟩
  | d :: ds, _, _, .cons h1 h2, r => by
    cases r with
    | cons r1 r2 =>
      obtain ⟨as, q1, n1⟩ := Dv.reads I d _ _ h1 r1
      obtain ⟨bs, q2, n2⟩ := Dv.readsAll I ds _ _ h2 r2
      exact ⟨_, ReadsAll.cons q1 q2, fun z => (List.mem_append.mp z).elim n1 n2⟩
end
end
/-- repr of such data -/
theorem repr_any {X : Cx} (gd : X.A.guards = some []) (hu : X.A.units + 70 < cLine) : CallR X (.builtin "repr") (fun xs H Q => ∃ (v : V) (d : PyData), xs = [v] ∧ Dv H v d ∧ d.showable = true ∧ d.depth ≤ 60 ∧ d.shown.length ≤ sizeLine ∧ Q (.str d.shown) H) := by
  intro pins s σ H xs us Q I rel h
  obtain ⟨v, d, rfl, dp, sw, dd, sz, hq⟩ := h
  obtain ⟨u, hu1, ru⟩ := vals1 rel
  subst hu1
  obtain ⟨as, rd, hsm⟩ := Dv.reads I d v u dp ru
  have big : ∀ a, u = Value.ref a → wpAny (model X.prog X.w) X.A (call (.builtin "repr") [u]) (EP X pins σ Q) X.xe s := fun a ea => by
    subst ea
    refine repr_of_reads' rd sw (fun _ => hsm) gd (by omega) (fun _ _ e => e) (fun h' u tk hk => ?_) sz
    exact ⟨.str d.shown, H, I.kept hk, ⟨u, rfl⟩, hq⟩
  cases dp with
  | non =>
    have eu : u = Value.none := ru
    subst eu
    exact PySem.P.repr_of_none ⟨.str "None", H, I.tok _, ⟨_, rfl⟩, hq⟩
  | bl b =>
    have eu : u = Value.bool b := ru
    subst eu
    refine PySem.P.repr_of_bool ⟨.str (if b then "True" else "False"), H, I.tok _, ⟨_, rfl⟩, ?_⟩
    cases b <;> exact hq
  | int i =>
    obtain ⟨t, rfl⟩ := ru
    refine PySem.P.repr_of_int (by simpa [PyData.showable] using sw) ⟨.str (toString i), H, I.tok _, ⟨_, rfl⟩, hq⟩
  | str x =>
    obtain ⟨t, rfl⟩ := ru
    exact PySem.P.repr_of_str ⟨.str (reprText x), H, I.tok _, ⟨_, rfl⟩, hq⟩ sz
  | lst _ h hs => exact big _ ru
  | tup h hs => exact big _ ru
  | dk0 h => exact big _ ru
  | dk1 h h2 => exact big _ ru
/-- the name of its type -/
def tyN : PyData → String
  | .none => "NoneType"
  | .bool _ => "bool"
  | .int _ => "int"
  | .str _ => "str"
  | .list _ => "list"
  | .tuple _ => "tuple"
  | .dict _ => "dict"
def isB : PyData → Bool
  | .bool _ => true
  | _ => false
def isIB : PyData → Bool
  | .bool _ => true
  | .int _ => true
  | _ => false
/-- an integer, not a bool -/
def isI : PyData → Bool
  | .int _ => true
  | _ => false
theorem Dv.ty {K : PySem.W.Frag} {H : Hp} {v : V} {d : PyData} (h : Dv H v d) : TyX K H v (.type (tyN d)) := by
  cases h with
  | non => exact .base .non
  | bl b => exact .base (.bl b)
  | int i => exact .base (.int i)
  | str x => exact .base (.str x)
  | lst _ h _ => exact .base (.lst h)
  | tup h _ => exact .base (.tup h)
  | dk0 h => exact .base (.dK h)
  | dk1 h _ => exact .base (.dK h)
theorem kit_int (d : PyData) : kitB (tyN d) "int" = some (isIB d) := by
  cases d
  · show kitB "NoneType" "int" = some false; decide +kernel
  · show kitB "bool" "int" = some true; decide +kernel
  · show kitB "int" "int" = some true; decide +kernel
  · show kitB "str" "int" = some false; decide +kernel
  · show kitB "list" "int" = some false; decide +kernel
  · show kitB "tuple" "int" = some false; decide +kernel
  · show kitB "dict" "int" = some false; decide +kernel
theorem kit_bool (d : PyData) : kitB (tyN d) "bool" = some (isB d) := by
  cases d
  · show kitB "NoneType" "bool" = some false; decide +kernel
  · show kitB "bool" "bool" = some true; decide +kernel
  · show kitB "int" "bool" = some false; decide +kernel
  · show kitB "str" "bool" = some false; decide +kernel
  · show kitB "list" "bool" = some false; decide +kernel
  · show kitB "tuple" "bool" = some false; decide +kernel
  · show kitB "dict" "bool" = some false; decide +kernel
/-- a new list is not where the modules are -/
def tLst1 (t : TA) : TE := fun σ H Q => t σ H fun xs H1 => xs.length ≤ sizeLine ∧ ∀ l, H1 l = none → l ≠ 1 → Q (.ref l) (upd H1 l (.lst xs))
theorem pe_lst1 {X : Cx} {es : List Expr} {t : TA} {pos : Pos} (h : L2.PA X es t) : PE X (.List es pos) (tLst1 t) := by
  constructor
  intro pins s σ H Q I hq
  refine wpAny_List_spliced (thn (h.run pos pins s σ H _ I hq) fun us s1 ⟨xs, H1, J, r, z, q⟩ => ?_)
  refine ⟨r.length ▸ z, ?_⟩
  have fresh := J.hok.fresh (Nat.le_refl s1.heap.objs.size)
  have n1 : s1.heap.objs.size ≠ 1 := by
    obtain ⟨o, _, _, e, _⟩ := J.mod.glob
    have lt := Heap.lt_size (J.bk _ _ e)
    intro c
    rw [c] at lt
    exact absurd lt (by decide)
  refine ⟨.ref s1.heap.objs.size, upd H1 s1.heap.objs.size (.lst xs), ?_, rfl, q _ fresh n1⟩
  exact J.laid (t' := s1.toks) (fun b u e => Heap.get?_push_of_some _ e) (Nat.le_refl _) ⟨z, us, 0, r, Heap.get?_push_size _ rfl⟩
end Lf
namespace Lf
open PySem PySem.Spec PyProof.Rows L2
/-! ### data of any kind at any address: where the modules are known to stand, nothing tracked is there -/
mutual
inductive DvF (H : Hp) : V → PyData → Prop
  | non : DvF H .non .none
  | bl (b : Bool) : DvF H (.bl b) (.bool b)
  | int (i : Int) : DvF H (.int i) (.int i)
  | str (x : Str) : DvF H (.str x) (.str x)
  | lst {a : Addr} {xs : List V} {ds : List PyData} : H a = some (.lst xs) → DvFAll H xs ds → DvF H (.ref a) (.list ds)
  | tup {a : Addr} {xs : List V} {ds : List PyData} : H a = some (.tup xs) → DvFAll H xs ds → DvF H (.ref a) (.tuple ds)
  | dk0 {a : Addr} : H a = some (.dK []) → DvF H (.ref a) (.dict [])
  | dk1 {a : Addr} {x : Str} {v : V} {d : PyData} : H a = some (.dK [(Sum.inr x, v)]) → DvF H v d → DvF H (.ref a) (.dict [(.str x, d)])
inductive DvFAll (H : Hp) : List V → List PyData → Prop
  | nil : DvFAll H [] []
  | cons {v : V} {vs : List V} {d : PyData} {ds : List PyData} : DvF H v d → DvFAll H vs ds → DvFAll H (v :: vs) (d :: ds)
end
mutual
theorem DvF.dv {H : Hp} (n : H 1 = none) : ∀ (d : PyData) (v : V), DvF H v d → Dv H v d
  | .none, _, .non => .non
  | .bool _, _, .bl b => .bl b
  | .int _, _, .int i => .int i
  | .str _, _, .str x => .str x
  | .list ds, _, .lst (a := a) h hs => .lst (fun e => by subst e; rw [n] at h; cases h) h (DvFAll.dv n ds _ hs)
  | .tuple ds, _, .tup h hs => .tup h (DvFAll.dv n ds _ hs)
  | .dict [], _, .dk0 h => .dk0 h
  | .dict [(.str _, d)], _, .dk1 h g => .dk1 h (DvF.dv n d _ g)
theorem DvFAll.dv {H : Hp} (n : H 1 = none) : ∀ (ds : List PyData) (vs : List V), DvFAll H vs ds → DvAll H vs ds
  | [], _, .nil => .nil
  | d :: ds, _, .cons h hs => .cons (DvF.dv n d _ h) (DvFAll.dv n ds _ hs)
end
theorem dvf_ints {H : Hp} : ∀ ns : List Int, DvFAll H (ns.map V.int) (ns.map PyData.int)
  | [] => .nil
  | _ :: r => .cons (.int _) (dvf_ints r)
/-- repr of such data, where the base has the table of modules -/
theorem repr_any1 {X : Cx} (h1 : ∃ o, X.base.get? 1 = some o) (gd : X.A.guards = some []) (hu : X.A.units + 70 < cLine) : CallR X (.builtin "repr") (fun xs H Q => ∃ (v : V) (d : PyData), xs = [v] ∧ DvF H v d ∧ d.showable = true ∧ d.depth ≤ 60 ∧ d.shown.length ≤ sizeLine ∧ Q (.str d.shown) H) := by
  intro pins s σ H xs us Q I rel h
  obtain ⟨v, d, e, dp, sw, dd, sz, hq⟩ := h
  obtain ⟨o, ho⟩ := h1
  exact repr_any gd hu pins s σ H xs us Q I rel ⟨v, d, e, DvF.dv (I.bs 1 o ho).2 d v dp, sw, dd, sz, hq⟩
end Lf
namespace Lf
open PySem PySem.Spec PyProof.Rows L2
/-! ### enumerate of a tuple; of a list or a tuple -/
set_option maxHeartbeats 4000000 in
theorem meets_enum1 {v : Value} {o : Obj} {G : Heap → Prop} (B : Begins v o G) :
    Meets (Builtin.«enumerate.__new__» ⟨[.type "enumerate", v], []⟩) (fun _ R s => G s.heap ∧
      R (.ok (.ret (.ref (s.heap.push o).objs.size))) { s with heap := (s.heap.push o).push { cls := .type "enumerate", data := .fields #[.none, .bool false, .ref s.heap.objs.size, rawInt 0, .none, .none] } }) :=
  .of_wp fun prog w A R s h => by
    obtain ⟨hp, g, d, tk, os⟩ := s
    obtain ⟨h1, h⟩ := h
    have hsub := sub_enumerate
    have q1 : ∀ {A' : Around} {E : Value → Shared → Prop} {Q : Value → Shared → Prop}, Q (.ref hp.objs.size) ⟨hp.push o, g, d, tk, os⟩ → wpAny (model prog w) A' (pyIter v) Q E ⟨hp, g, d, tk, os⟩ :=
      fun q => B.iter prog w _ _ ⟨hp, g, d, tk, os⟩ _ h1 q
    wp_walk using q1
    refine wpAny_stack_any fun st => wpAny_pure ?_
    split
    · rename_i c _ _ _ _ _
      cases (c == Value.type "enumerate")
      · wp_walk using q1
        exact ⟨_, rfl, h⟩
      · wp_walk using q1
        exact ⟨_, rfl, h⟩
    · wp_walk using q1
      exact ⟨_, rfl, h⟩
theorem enum_begins1 {prog : Program} {w : World} {A : Around} {E : Value → Shared → Prop} {s : Shared} {v : Value} {o : Obj} {G : Heap → Prop} {Q : Value → Shared → Prop} (B : Begins v o G) (h1 : G s.heap)
    (h : ∀ h', IsEnum h' (s.heap.objs.size + 1) s.heap.objs.size 0 .none → h'.get? s.heap.objs.size = some o → h'.objs.size = s.heap.objs.size + 2 →
      (∀ b o, s.heap.get? b = some o → h'.get? b = some o) → Q (.ref (s.heap.objs.size + 1)) { s with heap := h' }) :
    wpAny (model prog w) A (call (.type "enumerate") [v]) Q E s := by
  refine callType_new F.called_enumerate (by decide) (F.typeCall_enumerate_1 _) (F.newCall_enumerate_1 _) (fun obj => F.args_object_init_2 obj _) F.entry_enumerate_new
    (meets_enum1 B) ⟨h1, ?_⟩
  have hz : (s.heap.push o).objs.size = s.heap.objs.size + 1 := Heap.size_push ..
  show _ ∧ _
  rw [hz]
  have he : IsEnum ((s.heap.push o).push { cls := .type "enumerate", data := .fields #[.none, .bool false, .ref s.heap.objs.size, rawInt 0, .none, .none] }) (s.heap.objs.size + 1) s.heap.objs.size 0 .none := by
    have := Heap.get?_push_size (s.heap.push o) (o := { cls := .type "enumerate", data := .fields #[.none, .bool false, .ref s.heap.objs.size, rawInt 0, .none, .none] }) rfl
    rw [hz] at this
    exact this
  exact ⟨⟨_, he, rfl⟩, h _ he (Heap.get?_push_of_some _ (Heap.get?_push_size _ B.free)) (by rw [Heap.size_push, hz]) fun b o x => Heap.get?_push_of_some _ (Heap.get?_push_of_some _ x)⟩
def IteT (K : PySem.W.Frag) (a : Addr) : It :=
  ⟨fun i H => ∃ (xs : List V) (x : V), SqT K H a xs ∧ xs[i]? = some x, fun i H v H' => ∃ T x, v = .ref T ∧ H T = none ∧ H' = upd H T (.tup [.int (i : Nat), x]) ∧ ∀ xs, SqT K H a xs → xs[i]? = some x, fun i H => ∃ xs : List V, SqT K H a xs ∧ xs.length = i⟩
theorem turn_enumT {P : Program} {w : World} {K : PySem.W.Frag} {elts : List Expr} {kk : Nat} {tpos : Pos} (a e it : Addr) (ne1 : e ≠ it) (ne2 : a ≠ it) (ne3 : e ≠ a) :
    Turn P w K (.Tuple elts kk tpos) (IteT K a) [e, it] e (fun i h => (∃ old, IsEnum h e it ((i : Nat) : Int) old) ∧ h.IsTupleIter it a i) where
  mem := by simp
  obj := fun i h st b hb => by
    obtain ⟨⟨old, he⟩, ⟨o, ho, hc, hd⟩⟩ := st
    have e' : b = e ∨ b = it := by simpa using hb
    rcases e' with z | z
    · rw [z]; exact ⟨_, he, fun v q => nomatch q⟩
    · rw [z]; exact ⟨o, ho, fun v q => by rw [hd] at q; cases q⟩
  keep := fun i h h' st k => let ⟨⟨old, he⟩, hi⟩ := st; ⟨⟨old, k e (by simp) _ he⟩, hi.at fun o q => k it (by simp) o q⟩
  item := by
    intro X hP hw hK hc i pins s σ H E I hf st hg
    subst hP hw hK
    obtain ⟨⟨old, he⟩, hit⟩ := st
    obtain ⟨xs, x, hq, hx⟩ := hg
    obtain ⟨its, rv, p, hz⟩ := I.tuple hq
    obtain ⟨u, hu, ru⟩ := rv.get hx
    have hel : e < s.heap.objs.size := Heap.lt_size he
    have hil : it < s.heap.objs.size := by obtain ⟨_, q, _⟩ := hit; exact Heap.lt_size q
    have hlt : i < its.toArray.size := by
      have := (List.getElem?_eq_some_iff.mp hu).1
      simpa using this
    have D := Draws.tuple (prog := X.prog) (w := X.w) (A := X.A.in1) (I.ok.hd hc) it a ne2 its.toArray
    refine wpAny_pyNext_enum_itemD D he ⟨hit, p⟩ hlt ne1 (by simp [ne1, ne3]) fun x' h' tk hP ho hit' hT hsz hk => ?_
    have eu : x' = u := by
      have hP : its.toArray[i]? = some x' := hP
      rw [show its.toArray[i]? = some u by simpa using hu] at hP
      exact (Option.some.inj hP).symm
    subst eu
    refine ⟨_, rfl, wpAny_letOwnedTupleGo_enum (s := { s with heap := h', toks := tk + 1 }) ho fun h'' he' sb => ?_⟩
    have hT2 : h''.get? s.heap.objs.size = some { cls := .type "tuple", data := .seq #[.int i tk, x'] } := (sb.2 _ (Nat.ne_of_gt hel)).trans hT
    have new : ObjOk X.prog X.w (upd H s.heap.objs.size (.tup [.int (i : Nat), x])) h'' s.heap.objs.size (.tup [.int (i : Nat), x]) :=
      ⟨by show 2 ≤ sizeLine; decide, [.int i tk, x'], .cons ⟨_, rfl⟩ (.cons ru .nil), ⟨_, hT2, rfl, _, rfl⟩⟩
    have I1 : Inv X pins σ (upd H s.heap.objs.size (.tup [.int (i : Nat), x])) { s with heap := h'', toks := tk + 1 } :=
      I.turnedNew (ch := [e, it]) (fun b ob hb q => (sb.2 b (fun z => hb (by simp [z]))).trans (hk b ob (fun z => hb (by simp [z])) (fun z => hb (by simp [z])) q)) hf (Nat.le_refl _) new
    refine ⟨.ref s.heap.objs.size, _, I1, rfl, ⟨_, x, rfl, I.hok.fresh (Nat.le_refl _), rfl, fun ys hy => by rw [I.tuple_inj hy hq]; exact hx⟩, ⟨⟨x', ?_⟩, hit'.1.at fun o q => (sb.2 it (Ne.symm ne1)).trans q⟩, fun b hb => ?_⟩
    · have e1 : ((i + 1 : Nat) : Int) = (i : Int) + 1 := by omega
      rw [e1]; exact he'
    · have hb' : b < s.heap.objs.size := by
        have e' : b = e ∨ b = it := by simpa using hb
        rcases e' with z | z
        · rw [z]; exact hel
        · rw [z]; exact hil
      rw [upd_ne (Nat.ne_of_lt hb')]
      exact (hf b hb).1
  done := by
    intro X hP hw hK hc i pins s σ H E I hf st hg
    subst hP hw hK
    obtain ⟨⟨old, he⟩, hit⟩ := st
    obtain ⟨xs, hq, hx⟩ := hg
    obtain ⟨its, rv, p, hz⟩ := I.tuple hq
    obtain ⟨f0, f1, f2, f3, f4, f5⟩ := hf it (by simp)
    have hl := rv.length
    have ei : i = its.toArray.size := by
      simp
      omega
    have D := Draws.tuple (prog := X.prog) (w := X.w) (A := X.A.in1) (I.ok.hd hc) it a ne2 its.toArray
    refine wpAny_pyNext_enum_endD D he ⟨ei ▸ hit, p⟩ fun h' eb => ⟨rfl, I.turned (t' := s.toks) (fun b o hb q => eb b o hb q) f0 f1 f3 f4 f5⟩
  self := fun A i s Q E st h => let ⟨⟨_, he⟩, _⟩ := st; wpAny_pyIter_enum he h
/-! ### a list or a tuple -/
def SqB (K : PySem.W.Frag) : Bool → Hp → Addr → List V → Prop
  | true => SqL K
  | false => SqT K
def sqO : Bool → List V → HO
  | true, xs => .lst xs
  | false, xs => .tup xs
theorem SqB.of {K : PySem.W.Frag} {b : Bool} {H : Hp} {a : Addr} {xs : List V} (h : H a = some (sqO b xs)) : SqB K b H a xs := by
  cases b
  · exact SqT.of h
  · exact SqL.of h
def Itb (K : PySem.W.Frag) : Bool → Addr → It
  | true => Itl K
  | false => Itt K
def IteB (K : PySem.W.Frag) : Bool → Addr → It
  | true => Ite K
  | false => IteT K
theorem walk_seq {K : PySem.W.Frag} {b : Bool} {a : Addr} {xs : List V} : Walk (Itb K b a) xs.length (fun H => SqB K b H a xs) (YAt xs) := by
  cases b
  · exact walk_tup
  · exact walk_list
theorem walk_enumT {K : PySem.W.Frag} {a : Addr} {xs : List V} : Walk (IteT K a) xs.length (fun H => SqT K H a xs) (YPair (fun i => some (.int (i : Nat))) (fun i => xs[i]?)) := by
  refine ⟨fun i _ hi q => ⟨xs, xs[i], q, by simp [hi]⟩, fun _ q => ⟨xs, q, rfl⟩, fun i H v H' _ q y => ?_⟩
  obtain ⟨T, x, h1, h2, h3, h4⟩ := y
  exact ⟨T, .int (i : Nat), x, h1, h2, h3, rfl, h4 xs q⟩
theorem walk_enumB {K : PySem.W.Frag} {b : Bool} {a : Addr} {xs : List V} : Walk (IteB K b a) xs.length (fun H => SqB K b H a xs) (YPair (fun i => some (.int (i : Nat))) (fun i => xs[i]?)) := by
  cases b
  · exact walk_enumT
  · exact walk_enum
def iSeq (K : PySem.W.Frag) (tl : TE) : TI := fun σ H R => tl σ H fun x H1 => ∃ a b xs, x = .ref a ∧ SqB K b H1 a xs ∧ R (Itb K b a) H1
theorem pi_seq {X : Cx} {tg l : Expr} {tl : TE} (hl : PE X l tl) : PI X tg l (iSeq X.K tl) := by
  refine ⟨fun pins s σ H R I h => ?_⟩
  refine thn (hl.run pins s σ H _ I h) fun v s1 ⟨x, H1, I1, r1, q1⟩ => ?_
  obtain ⟨a, b, xs, e, hq, q⟩ := q1
  subst e
  cases r1
  cases b with
  | true =>
    obtain ⟨its, rv, p, hz⟩ := I1.list hq
    refine wpAny_pyIter_list p.isList ?_
    refine ⟨s1.heap.objs.size, [s1.heap.objs.size], _, _, H1, rfl, I1.kept (t' := s1.toks) fun b o e => Heap.get?_push_of_some _ e, turn_list a _, ⟨_, Heap.get?_push_size _ rfl, rfl, rfl⟩, fun b hb => ?_, q⟩
    have e : b = s1.heap.objs.size := by simpa using hb
    subst e
    exact I1.fpOk (Nat.le_refl _) (I1.hok.fresh (Nat.le_refl _))
  | false =>
    obtain ⟨its, rv, p, hz⟩ := I1.tuple hq
    refine wpAny_pyIter_tuple (show s1.heap.IsTuple a its.toArray from p) ?_
    refine ⟨s1.heap.objs.size, [s1.heap.objs.size], _, _, H1, rfl, I1.kept (t' := s1.toks) fun b o e => Heap.get?_push_of_some _ e, turn_tuple a _, ⟨_, Heap.get?_push_size _ rfl, rfl, rfl⟩, fun b hb => ?_, q⟩
    have e : b = s1.heap.objs.size := by simpa using hb
    subst e
    exact I1.fpOk (Nat.le_refl _) (I1.hok.fresh (Nat.le_refl _))
def iEnumB (K : PySem.W.Frag) (ta : TA) : TI := fun σ H R => ta σ H fun vs H1 => ∃ a b xs, vs = [.ref a] ∧ SqB K b H1 a xs ∧ R (IteB K b a) H1
theorem pi_enumB {X : Cx} {e : Expr} {ta : TA} {p pos tpos : Pos} {elts : List Expr} {kk : Nat} (hg : Gl X "enumerate") (hm : X.mg "enumerate" = none) (ha : L2.PA X [e] ta) (hs : starEach [e] X.env = [(false, eval e X.env)] := by rfl) :
    PI X (.Tuple elts kk tpos) (.Call (.Name "enumerate" p) [e] [] pos) (iEnumB X.K ta) := by
  refine ⟨fun pins s σ H R I h => ?_⟩
  refine Call_ (ld_blt I hg hm boot_enumerate (PyProof.Rows.callWith_type1 (thn (ha.run pos pins s σ H _ I h) fun us s1 ⟨vs, H1, I1, r1, q1⟩ => ?_) hs rfl))
  obtain ⟨a, b, xs, ex, hq, q⟩ := q1
  subst ex
  cases r1 with
  | cons r rr =>
    cases rr
    cases r
    cases b with
    | true =>
      obtain ⟨its, rv, p', hz⟩ := I1.list hq
      refine call_enumerate_list p'.isList fun h' he hit hsz hk => wpAny_pyIter_enum he ?_
      have I2 : Inv X pins σ H1 { s1 with heap := h' } := I1.kept (t' := s1.toks) hk
      refine ⟨s1.heap.objs.size + 1, [s1.heap.objs.size + 1, s1.heap.objs.size], _, _, H1, rfl, I2, turn_enum a (s1.heap.objs.size + 1) s1.heap.objs.size, ⟨⟨.none, he⟩, hit, Nat.succ_ne_self _⟩, fun b hb => ?_, q⟩
      have e' : b = s1.heap.objs.size + 1 ∨ b = s1.heap.objs.size := by simpa using hb
      have hle : s1.heap.objs.size ≤ b := by
        rcases e' with z | z
        · rw [z]; exact Nat.le_add_right _ _
        · rw [z]; exact Nat.le_refl _
      exact I1.fpOk hle (I1.hok.fresh hle)
    | false =>
      obtain ⟨its, rv, p', hz⟩ := I1.tuple hq
      have hal : a < s1.heap.objs.size := by
        obtain ⟨_, q, _⟩ := p'
        exact Heap.lt_size q
      refine enum_begins1 (begins_tuple a its.toArray) p' fun h' he hit hsz hk => wpAny_pyIter_enum he ?_
      have I2 : Inv X pins σ H1 { s1 with heap := h' } := I1.kept (t' := s1.toks) hk
      refine ⟨s1.heap.objs.size + 1, [s1.heap.objs.size + 1, s1.heap.objs.size], _, _, H1, rfl, I2, turn_enumT a (s1.heap.objs.size + 1) s1.heap.objs.size (Nat.succ_ne_self _) (Nat.ne_of_lt hal) (Nat.ne_of_gt (Nat.lt_succ_of_lt hal)), ⟨⟨.none, he⟩, ⟨_, hit, rfl, rfl⟩⟩, fun b hb => ?_, q⟩
      have e' : b = s1.heap.objs.size + 1 ∨ b = s1.heap.objs.size := by simpa using hb
      have hle : s1.heap.objs.size ≤ b := by
        rcases e' with z | z
        · rw [z]; exact Nat.le_add_right _ _
        · rw [z]; exact Nat.le_refl _
      exact I1.fpOk hle (I1.hok.fresh hle)
end Lf
namespace Lf
open PySem PySem.Spec PyProof.Rows L2
section
variable {P : Program} {w : World} {K : PySem.W.Frag} {mg : Str → Option Value} {base : Heap}
/-! ### _law_draw -/
theorem at_mod (cs : List Int) (t : Int) (h : cs ≠ []) : ∃ c, atI (cs.map V.int) (t % ((cs.map V.int).length : Int)) = some (.int c) := by
  have hl : 0 < cs.length := List.length_pos_iff.mpr h
  rw [List.length_map]
  have h0 := Int.emod_nonneg t (show (cs.length : Int) ≠ 0 by omega)
  have h1 := Int.emod_lt_of_pos t (show (0 : Int) < cs.length by omega)
  generalize t % (cs.length : Int) = i at h0 h1
  obtain ⟨j, rfl⟩ := Int.eq_ofNat_of_zero_le h0
  have hj : j < cs.length := by omega
  refine ⟨cs[j], atI_nat ?_⟩
  rw [List.getElem?_map, List.getElem?_eq_getElem hj]
  rfl
theorem dp_ints {K : PySem.W.Frag} {H : Hp} : ∀ cs : List Int, DpAll K H (cs.map V.int) (cs.map PyData.int)
  | [] => .nil
  | c :: r => .cons (.int c) (dp_ints r)
theorem sh_ints (cs : List Int) : SeqAt.shaped (.list (cs.map PyData.int)) = true := by
  have h : ∀ cs : List Int, PyData.canLayAll0 (cs.map PyData.int) = true ∧ PyData.depthAll (cs.map PyData.int) = 0 := by
    intro cs
    induction cs with
    | nil => exact ⟨rfl, rfl⟩
    | cons c r ih => exact ⟨by simpa [PyData.canLayAll0, PyData.canLay0] using ih.1, by simpa [PyData.depthAll, PyData.depth] using ih.2⟩
  simp [SeqAt.shaped, PyData.canLay0, PyData.depth, (h cs).1, (h cs).2]
def spDraw : Sp := fun vs H Q _ => ∃ (a : PA) (n : Nat) (many : Int), vs = [.ref a, .int many] ∧ Pen H a n ∧ n < 2 ^ 40 ∧ 0 < many ∧ Bd 9000 many ∧
  ∀ d H', 0 ≤ d → d < many → Pen H' a (n + 1) → Fr H H' → Q (.int d) H'
end
end Lf
namespace Lf
open PySem PySem.Spec PyProof.Rows L2
section
variable {P : Program} {w : World} {K : PySem.W.Frag} {mg : Str → Option Value} {base : Heap}
abbrev s_l_draw : Stmt := topS 41
abbrev N_l_draw : List Str := ["_law_pen_here", "_law_many", "_law_digit", "_law_spot", "_law_cell", "_law_mix"]
abbrev P_l_draw : List Str := ["_law_pen_here", "_law_many"]
theorem sc_l_draw : FnScope N_l_draw P_l_draw (defScope s_l_draw) := ⟨rfl, rfl, rfl, by decide +kernel, rfl, by decide +kernel, by decide +kernel⟩
theorem ok_l_draw (D : Df K mg "_law_draw" s_l_draw P_l_draw) (B : Bi mg) : C8.Cal P w K mg base 1 "_law_draw" spDraw [] := by
  refine cal_of D sc_l_draw (fun vs H Q E h => ?_) (fun f cdv A outer s H vs Q E hr h => ?_)
  · obtain ⟨a, n, many, rfl, _⟩ := h
    rfl
  · obtain ⟨⟨a, l⟩, n, many, rfl, hP, hn, h0, hb, q⟩ := h
    have hu := hu_of hr
    have hd : CDivW 0 many := ⟨h0, hb.log (by decide)⟩
    obtain ⟨cs, t, r, ea, el, hl, ht0, htn, hr0⟩ := hP.ex
    have ea : H a = some (.dK (penD l t r)) := ea
    have el : H l = some (.lst (cs.map V.int)) := el
    refine ⟨_, (pss_cons (ps_if (pt_cmpR op_gt (pe_dget hu (pv 0) pe_str (fun _ _ => rfl)) pe_int (nomark _))
      (pss_cons (ps_set (i := 2) sc_l_draw.nd rfl (Or.inl rfl) (pe_op op_mod (pe_dget hu (pv 0) pe_str (fun _ _ => rfl)) (pv 1)))
    (pss_cons (ps_dput hu (pv 0) pe_str (pe_op op_fdivW (pe_dget hu (pv 0) pe_str (fun _ _ => rfl)) (pv 1)) rfl)
    (pss_one (ps_ret (pv 2)))))
      pss_nil)
    (pss_cons (ps_set (i := 3) sc_l_draw.nd rfl (Or.inl rfl) (pe_dget hu (pv 0) pe_str (fun _ _ => rfl)))
    (pss_cons (ps_dput hu (pv 0) pe_str (pe_op op_add (pv 3) pe_int) rfl)
    (C8.pss_cut (ps_set (i := 4) sc_l_draw.nd rfl (Or.inl rfl) (pe_ifExp (pt_cmpR (op_neD hr.units) (pe_dget hu (pv 0) pe_str (fun _ _ => rfl)) (pe_lst pa_nil) (nomark _)) (pe_ix (r := rIxL K) ix_list (pe_dget hu (pv 0) pe_str (fun _ _ => rfl)) (pe_op op_mod (pv 3) (pe_callB (call_len_seq) (by rfl) B.len_ bt_len (pa_cons (pe_dget hu (pv 0) pe_str (fun _ _ => rfl)) pa_nil))) (fun _ _ => rfl)) (pe_op op_add (pe_op op_mul pe_int (pv 3)) pe_int)))
    (C8.pss_cut (ps_if (PW.pt (pw_and (pt_cmpR op_lt (pv 3) (pe_callB (call_len_seq) (by rfl) B.len_ bt_len (pa_cons (pe_dget hu (pv 0) pe_str (fun _ _ => rfl)) pa_nil)) (nomark _)) (pw_and1 (pt_cmpR op_ge (pe_callB (call_abs) (by rfl) B.abs_ bt_abs (pa_cons (pv 4) pa_nil)) (pe_op op_pow pe_int pe_int) (nomark _)))))
      (pss_cons (ps_dput hu (pv 0) pe_str (pe_op op_fdivW (pe_op op_sub (pe_callB (call_abs) (by rfl) B.abs_ bt_abs (pa_cons (pv 4) pa_nil)) (pe_op op_pow pe_int pe_int)) (pv 1)) rfl)
    (pss_one (ps_ret (pe_op op_mod (pe_op op_sub (pe_callB (call_abs) (by rfl) B.abs_ bt_abs (pa_cons (pv 4) pa_nil)) (pe_op op_pow pe_int pe_int)) (pv 1)))))
      pss_nil)
    (pss_cons (ps_set (i := 5) sc_l_draw.nd rfl (Or.inl rfl) (pe_op op_mod (pe_op op_add (pe_op op_add (pe_op op_add (pe_op op_mul (pe_op op_mod (pv 4) pe_int) pe_int) (pe_op op_mul (pe_op op_mul pe_int (pv 3)) (pv 3))) (pe_op op_mul pe_int (pv 3))) pe_int) pe_int))
    (pss_cons (ps_set (i := 5) sc_l_draw.nd rfl (Or.inl rfl) (pe_op op_mod (pe_op op_add (pe_op op_add (pe_op op_add (pe_op op_mul (pv 5) (pv 5)) (pe_op op_mul pe_int (pv 5))) (pe_op op_mul pe_int (pv 3))) pe_int) pe_int))
    (pss_one (ps_ret (pe_op op_mod (pe_op op_fdiv (pe_op op_mod (pe_op op_mul (pv 5) (pe_op op_add (pv 5) pe_int)) pe_int) pe_int) (pv 1))))))))))), ?_⟩
    -- the rest > 0
    refine ⟨_, rfl, a, _, rfl, dg_rest ea, _, _, rfl, rfl, _, rfl, ite2 (fun e => ?_) (fun e => ?_)⟩
    · refine ⟨_, rfl, a, _, rfl, dg_rest ea, _, rfl, _, _, rfl, rfl, h0, ?_⟩
      refine ⟨_, rfl, a, _, rfl, dg_rest ea, _, rfl, _, _, rfl, rfl, hd, _, rfl, a, _, rfl, dp_rest ea, ?_⟩
      refine ⟨_, rfl, ?_⟩
      exact q _ _ (Int.emod_nonneg _ (by omega)) (Int.emod_lt_of_pos _ h0) (Pen.put ea el hl ht0 (by omega) (Int.ediv_nonneg hr0 (by omega))) (Fr.dict ea)
    · refine ⟨_, rfl, a, _, rfl, dg_turn ea, ?_⟩
      refine ⟨_, rfl, _, _, rfl, rfl, _, rfl, a, _, rfl, dp_turn ea, ?_⟩
      have ea1 : upd H a (.dK (penD l (t + 1) r)) a = some (.dK (penD l (t + 1) r)) := upd_same
      have nla : l ≠ a := ne_of el ea (by intro z; cases z)
      have el1 : upd H a (.dK (penD l (t + 1) r)) l = some (.lst (cs.map V.int)) := by rw [upd_ne nla]; exact el
      have f1 : Fr H (upd H a (.dK (penD l (t + 1) r))) := Fr.dict ea
      generalize upd H a (.dK (penD l (t + 1) r)) = H1 at ea1 el1 f1
      refine ⟨fun σ' H' => ∃ c : Int, σ' = [some (.ref a), some (.int many), none, some (.int t), some (.int c), none] ∧ Same H1 H', ?_, ?_⟩
      · refine ⟨_, rfl, a, _, rfl, dg_cells ea1, Nat.zero_le _, fun p np => ?_⟩
        have s1 : Same H1 (upd H1 p (.lst [])) := sm_upd np
        refine ⟨.list (cs.map PyData.int), .list [], Dp.lst (SqL.of (s1 _ _ el1)) (dp_ints cs), Dp.lst (SqL.of upd_same) .nil, sh_ints cs, rfl, _, rfl, ?_⟩
        by_cases hc : cs = []
        · subst hc
          refine iteF ?_
          refine ⟨_, rfl, _, _, rfl, rfl, .inl ⟨by decide, by decide⟩, _, _, rfl, rfl, ?_⟩
          exact ⟨_, rfl, s1⟩
        · obtain ⟨c, r', rfl⟩ : ∃ c r', cs = c :: r' := by
            cases cs with
            | nil => exact absurd rfl hc
            | cons c r' => exact ⟨c, r', rfl⟩
          refine iteT ?_
          obtain ⟨v, hv⟩ := at_mod (c :: r') t hc
          refine ⟨_, rfl, a, _, rfl, dg_cells (s1 _ _ ea1), _, rfl, _, rfl, a, _, rfl, dg_cells (s1 _ _ ea1), l, _, rfl, .inl (SqL.of (s1 _ _ el1)), _, _, rfl, rfl, ?_, l, _, _, _, rfl, rfl, SqL.of (s1 _ _ el1), hv, ?_⟩
          · show (0 : Int) < (((c :: r').map V.int).length : Int)
            rw [List.length_map, List.length_cons]
            omega
          · exact ⟨v, rfl, s1⟩
      · rintro σ' H2 ⟨c, rfl, s2⟩
        have ea2 := s2 _ _ ea1
        have el2 := s2 _ _ el1
        have f2 : Fr H H2 := f1.trans (Fr.same s2)
        refine ⟨fun σ' H' => σ' = [some (.ref a), some (.int many), none, some (.int t), some (.int c), none] ∧ H' = H2, ?_, ?_⟩
        · refine ⟨_, rfl, _, rfl, a, _, rfl, dg_cells ea2, l, _, rfl, .inl (SqL.of el2), _, _, rfl, rfl, _, rfl, ite2 (fun e1 => ?_) (fun e1 => ?_)⟩
          · refine ⟨_, rfl, _, rfl, _, _, rfl, rfl, ⟨by decide, by decide, by decide⟩, _, _, rfl, rfl, _, rfl, ite2 (fun e2 => ?_) (fun e2 => ?_)⟩
            · have e3 := of_decide_eq_true e2
              refine ⟨_, rfl, _, rfl, _, _, rfl, rfl, ⟨by decide, by decide, by decide⟩, _, _, rfl, rfl, _, rfl, _, _, rfl, rfl, hd, _, rfl, a, _, rfl, dp_rest ea2, ?_⟩
              refine ⟨_, rfl, _, rfl, _, _, rfl, rfl, ⟨by decide, by decide, by decide⟩, _, _, rfl, rfl, _, rfl, _, _, rfl, rfl, h0, ?_⟩
              exact q _ _ (Int.emod_nonneg _ (by omega)) (Int.emod_lt_of_pos _ h0) (Pen.put ea2 el2 hl (by omega) (by omega) (Int.ediv_nonneg (by omega) (by omega))) (f2.trans (Fr.dict ea2))
            · exact ⟨rfl, rfl⟩
          · exact iteF ⟨rfl, rfl⟩
        · rintro σ' H' ⟨rfl, rfl⟩
          refine ⟨_, rfl, _, _, rfl, rfl, (by show (0 : Int) < 2147483647; decide), _, _, rfl, rfl, .inr ⟨by decide, by decide⟩, _, rfl, _, _, rfl, rfl, .inl ⟨by decide, by decide⟩, _, rfl, _, _, rfl, rfl, .inr ⟨by omega, by omega⟩, _, _, rfl, rfl, _, rfl, _, _, rfl, rfl, .inl ⟨by decide, by decide⟩, _, _, rfl, rfl, _, _, rfl, rfl, _, _, rfl, rfl, (by show (0 : Int) < 2147483629; decide), ?_⟩
          have d0 := Int.emod_nonneg (c % 2147483647 * 69621 + 48271 * t * t + 30011 * t + 13) (show (2147483629 : Int) ≠ 0 by decide)
          have d1 := Int.emod_lt_of_pos (c % 2147483647 * 69621 + 48271 * t * t + 30011 * t + 13) (show (0 : Int) < 2147483629 by decide)
          dsimp only
          generalize (c % 2147483647 * 69621 + 48271 * t * t + 30011 * t + 13) % 2147483629 = x1 at d0 d1
          refine ⟨_, rfl, _, rfl, _, _, rfl, rfl, .inl ⟨by omega, by omega⟩, _, rfl, _, _, rfl, rfl, .inl ⟨by decide, by decide⟩, _, _, rfl, rfl, _, rfl, _, _, rfl, rfl, .inl ⟨by decide, by decide⟩, _, _, rfl, rfl, _, _, rfl, rfl, _, _, rfl, rfl, (by show (0 : Int) < 2147483587; decide), ?_⟩
          have d20 := Int.emod_nonneg (x1 * x1 + 40692 * x1 + 7 * t + 3) (show (2147483587 : Int) ≠ 0 by decide)
          have d21 := Int.emod_lt_of_pos (x1 * x1 + 40692 * x1 + 7 * t + 3) (show (0 : Int) < 2147483587 by decide)
          dsimp only
          generalize (x1 * x1 + 40692 * x1 + 7 * t + 3) % 2147483587 = x2 at d20 d21
          refine ⟨_, rfl, _, rfl, _, _, rfl, rfl, _, _, rfl, rfl, .inl ⟨by omega, by omega⟩, _, _, rfl, rfl, (by show (0 : Int) < 2147483579; decide), _, _, rfl, rfl, ⟨by decide, by decide⟩, _, rfl, _, _, rfl, rfl, h0, ?_⟩
          have hP2 : Pen H' ⟨a, l⟩ (n + 1) := ⟨cs, t + 1, r, ea2, el2, hl, by omega, by omega, hr0⟩
          exact q _ _ (Int.emod_nonneg _ (by omega)) (Int.emod_lt_of_pos _ h0) hP2 f2
end
end Lf
namespace Lf
open PySem PySem.Spec PyProof.Rows L2
section
variable {P : Program} {w : World} {K : PySem.W.Frag} {mg : Str → Option Value} {base : Heap}
/-! ### _law_pick -/
def spPick : Sp := fun vs H Q _ => ∃ (a : PA) (l : Addr) (n : Nat) (xs : List V), vs = [.ref a, .ref l] ∧ Pen H a n ∧ n < 2 ^ 40 ∧ H l = some (.lst xs) ∧ xs ≠ [] ∧ xs.length ≤ 1000 ∧
  ∀ x H', x ∈ xs → Pen H' a (n + 1) → Fr H H' → Q x H'
abbrev s_l_pick : Stmt := topS 42
abbrev N_l_pick : List Str := ["_law_pen_here", "_law_some"]
abbrev P_l_pick : List Str := ["_law_pen_here", "_law_some"]
theorem sc_l_pick : FnScope N_l_pick P_l_pick (defScope s_l_pick) := ⟨rfl, rfl, rfl, by decide +kernel, rfl, by decide +kernel, by decide +kernel⟩
theorem ok_l_pick (D : Df K mg "_law_pick" s_l_pick P_l_pick) (B : Bi mg) (c_l_draw : C8.Cal P w K mg base 1 "_law_draw" spDraw []) : C8.Cal P w K mg base 2 "_law_pick" spPick [] := by
  refine cal_of D sc_l_pick (fun vs H Q E h => ?_) (fun f cdv A outer s H vs Q E hr h => ?_)
  · obtain ⟨a, l, n, xs, rfl, _⟩ := h
    rfl
  · obtain ⟨a, l, n, xs, rfl, hP, hn, el, hx, hxl, q⟩ := h
    have hu := hu_of hr
    refine ⟨_, (pss_one (ps_ret (pe_ix (r := rIxL K) ix_list (pv 1) (C8.pe_c c_l_draw hr (by decide) (by rfl) (pa_cons (pv 0) (pa_cons (pe_callB (call_len_seq) (by rfl) B.len_ bt_len (pa_cons (pv 1) pa_nil)) pa_nil))) (fun _ _ => rfl)))), ?_⟩
    have hl : 0 < xs.length := List.length_pos_iff.mpr hx
    refine ⟨_, rfl, _, rfl, _, rfl, l, _, rfl, .inl (SqL.of el), a, n, _, rfl, hP, hn, by omega, Bd.small 20 (by omega) (by decide), fun d H' d0 d1 hP' f' => ?_⟩
    obtain ⟨j, rfl⟩ := Int.eq_ofNat_of_zero_le d0
    have hj : j < xs.length := by omega
    refine ⟨l, _, _, _, rfl, rfl, SqL.of (f'.l _ _ el), atI_nat (List.getElem?_eq_getElem hj), ?_⟩
    exact q _ _ (List.getElem_mem hj) hP' f'
end
end Lf
namespace Lf
open PySem PySem.Spec PyProof.Rows L2
theorem Bd.grow {k : Nat} {r d : Int} (h0 : 0 ≤ r) (h : Bd k r) (d0 : 0 ≤ d) (d1 : d < 10 ^ 6) : Bd (k + 20) (r * 10 ^ 6 + d) := by
  unfold Bd at *
  have e : (2 : Nat) ^ (k + 20) = 2 ^ k * 1048576 := by rw [Nat.pow_add]
  rw [e]
  generalize (2 : Nat) ^ k = m at h
  omega
/-- a rule, its numbers within k bits -/
structure RuleB (k : Nat) (p q c : Int) : Prop where
  p0 : 0 ≤ p
  q1 : 1 ≤ q
  g : Int.gcd p q = 1
  bp : Bd k p
  bq : Bd k q
  bc : Bd k c
theorem RuleB.mono {k j : Nat} {p q c : Int} (h : RuleB k p q c) (e : k ≤ j) : RuleB j p q c := ⟨h.p0, h.q1, h.g, h.bp.mono e, h.bq.mono e, h.bc.mono e⟩
theorem gcd_pos {p q : Int} (h : 1 ≤ q) : 0 < (Int.gcd p q : Int) := by
  have : 0 < Int.gcd p q := Int.gcd_pos_of_ne_zero_right _ (by omega)
  omega
theorem gcd_le {p q : Int} (h : 1 ≤ q) : (Int.gcd p q : Int) ≤ q := Int.le_of_dvd (by omega) (Int.gcd_dvd_right ..)
theorem low_rule {k : Nat} {p q c : Int} (h0 : 0 ≤ p) (h1 : 1 ≤ q) (bp : Bd k p) (bq : Bd k q) (bc : Bd k c) : RuleB k (p / (Int.gcd p q : Int)) (q / (Int.gcd p q : Int)) (c / (Int.gcd p q : Int)) := by
  have hg := gcd_pos (p := p) h1
  refine ⟨Int.ediv_nonneg h0 (by omega), ?_, ?_, bp.ediv hg, bq.ediv hg, bc.ediv hg⟩
  · exact Int.le_ediv_of_mul_le hg (by rw [Int.one_mul]; exact gcd_le h1)
  · have : 0 < Int.gcd p q := by omega
    exact Int.gcd_ediv_gcd_ediv_gcd this
/-- a new rule stands at r -/
abbrev tup3 (p q c : Int) : HO := .tup [.int p, .int q, .int c]
theorem low_rule' {k : Nat} {p q c : Int} (h0 : 0 ≤ p) (h1 : 1 ≤ q) (bp : Bd k p) (bq : Bd k q) (bc : Bd k c) : RuleB k (p / gg p q) (q / gg p q) (c / gg p q) := low_rule h0 h1 bp bq bc
theorem low_le {p q : Int} (h1 : 1 ≤ q) : q / (Int.gcd p q : Int) ≤ q := Int.ediv_le_self _ (by omega)
section
variable {P : Program} {w : World} {K : PySem.W.Frag} {mg : Str → Option Value} {base : Heap}
/-! ### _law_gcd, _law_lowest -/
def spGcd : Sp := fun vs H Q _ => ∃ (x y : Int), vs = [.int x, .int y] ∧ 0 ≤ x ∧ 0 ≤ y ∧ Q (.int (Int.gcd x y : Int)) H
def mu1 : L2.St → Hp → Nat := fun σ _ => match σ with
  | _ :: some (.int v) :: _ => v.toNat
  | _ => 0
abbrev s_l_gcd : Stmt := topS 44
abbrev N_l_gcd : List Str := ["_law_one", "_law_other"]
abbrev P_l_gcd : List Str := ["_law_one", "_law_other"]
theorem sc_l_gcd : FnScope N_l_gcd P_l_gcd (defScope s_l_gcd) := ⟨rfl, rfl, rfl, by decide +kernel, rfl, by decide +kernel, by decide +kernel⟩
theorem ok_l_gcd (D : Df K mg "_law_gcd" s_l_gcd P_l_gcd) : C8.Cal P w K mg base 1 "_law_gcd" spGcd [] := by
  refine cal_of D sc_l_gcd (fun vs H Q E h => ?_) (fun f cdv A outer s H vs Q E hr h => ?_)
  · obtain ⟨x, y, rfl, _⟩ := h
    rfl
  · obtain ⟨x, y, rfl, hx, hy, q⟩ := h
    refine ⟨_, (pss_cons (ps_while PassesOwn.never (pt_cmpR op_gt (pv 1) pe_int (nomark _))
      (pss_one (ps_par (i := 0) (j := 1) rfl sc_l_gcd.nd rfl rfl (by decide) rfl rfl (pa_cons (pv 1) (pa_cons (pe_op op_mod (pv 0) (pv 1)) pa_nil)) rfl)))
    (pss_one (ps_ret (pv 0)))), ?_⟩
    refine while_by (fun σ H' => ∃ u v : Int, σ = [some (.int u), some (.int v)] ∧ 0 ≤ u ∧ 0 ≤ v ∧ Int.gcd u v = Int.gcd x y ∧ H' = H) mu1 ⟨x, y, rfl, hx, hy, rfl, rfl⟩ ?_ ?_
    · rintro σ H' ⟨u, v, rfl, hu, hv, e, rfl⟩
      refine ⟨_, rfl, _, _, rfl, rfl, _, rfl, ite2 (fun c => ?_) (fun c => ?_)⟩
      · have hv0 : 0 < v := of_decide_eq_true c
        refine ⟨_, rfl, _, rfl, _, rfl, _, _, rfl, rfl, hv0, _, _, rfl, ⟨v, u % v, rfl, hv, Int.emod_nonneg _ (by omega), ?_, rfl⟩, ?_⟩
        · rw [gcd_turn u v hu hv0]; exact e
        · show (u % v).toNat < v.toNat
          have := Int.emod_lt_of_pos u hv0
          omega
      · have hv0 : v = 0 := by
          have : ¬ 0 < v := fun z => c (decide_eq_true z)
          omega
        subst hv0
        refine ⟨_, rfl, ?_⟩
        have e2 : (Int.gcd x y : Int) = u := by
          rw [← e, Int.gcd_zero_right]
          omega
        rw [← e2]
        exact q
    · rintro σ H' Q1 Q2 hQ ⟨v, h1, i, j, h2, h3, b, h4, h5⟩
      exact ⟨v, h1, i, j, h2, h3, b, h4, hQ _ _ h5⟩
end
end Lf
namespace Lf
open PySem PySem.Spec PyProof.Rows L2
/-! ### objects in a row -/
inductive Obs {α : Type} (O : α → HO) (H : Hp) : List V → List α → Prop
  | nil : Obs O H [] []
  | cons {r : Addr} {vs : List V} {d : α} {ds : List α} : H r = some (O d) → Obs O H vs ds → Obs O H (.ref r :: vs) (d :: ds)
section
variable {α : Type} {O : α → HO} {H H' : Hp}
theorem Obs.len {vs : List V} {ds : List α} (h : Obs O H vs ds) : vs.length = ds.length := by
  induction h with
  | nil => rfl
  | cons _ _ ih => rw [List.length_cons, List.length_cons, ih]
theorem Obs.at {vs : List V} {ds : List α} (h : Obs O H vs ds) : ∀ {i : Nat} {x : V}, vs[i]? = some x → ∃ r d, x = .ref r ∧ H r = some (O d) ∧ ds[i]? = some d := by
  induction h with
  | nil =>
    intro i x e
    cases e
  | cons e0 _ ih =>
    intro i x e
    cases i with
    | zero =>
      cases e
      exact ⟨_, _, rfl, e0, rfl⟩
    | succ i => exact ih e
theorem Obs.on {vs : List V} {ds : List α} (h : Obs O H vs ds) : ∀ {i : Nat} {d : α}, ds[i]? = some d → ∃ r, vs[i]? = some (.ref r) ∧ H r = some (O d) := by
  induction h with
  | nil =>
    intro i x e
    cases e
  | cons e0 _ ih =>
    intro i x e
    cases i with
    | zero =>
      cases e
      exact ⟨_, rfl, e0⟩
    | succ i => exact ih e
theorem Obs.keep {vs : List V} {ds : List α} (h : Obs O H vs ds) (f : ∀ b d, H b = some (O d) → H' b = some (O d)) : Obs O H' vs ds := by
  induction h with
  | nil => exact .nil
  | cons e0 _ ih => exact .cons (f _ _ e0) ih
theorem Obs.same {vs : List V} {ds : List α} (h : Obs O H vs ds) (s : Same H H') : Obs O H' vs ds := h.keep fun b d e => s _ _ e
theorem Obs.snoc {vs : List V} {ds : List α} {r : Addr} {d : α} (h : Obs O H vs ds) (e : H r = some (O d)) : Obs O H (vs ++ [.ref r]) (ds ++ [d]) := by
  induction h with
  | nil => exact .cons e .nil
  | cons e0 _ ih => exact .cons e0 ih
theorem Obs.app {vs us : List V} {ds es : List α} (h : Obs O H vs ds) (h2 : Obs O H us es) : Obs O H (vs ++ us) (ds ++ es) := by
  induction h with
  | nil => exact h2
  | cons e0 _ ih => exact .cons e0 ih
theorem Obs.drop {vs : List V} {ds : List α} (h : Obs O H vs ds) : ∀ n, Obs O H (vs.drop n) (ds.drop n) := by
  induction h with
  | nil =>
    intro n
    rw [List.drop_nil, List.drop_nil]
    exact .nil
  | cons e0 h ih =>
    intro n
    cases n with
    | zero => exact .cons e0 h
    | succ n => exact ih n
theorem Obs.take {vs : List V} {ds : List α} (h : Obs O H vs ds) : ∀ n, Obs O H (vs.take n) (ds.take n) := by
  induction h with
  | nil =>
    intro n
    rw [List.take_nil, List.take_nil]
    exact .nil
  | cons e0 h ih =>
    intro n
    cases n with
    | zero => exact .nil
    | succ n => exact .cons e0 (ih n)
end
/-! ### records -/
structure Rec where
  lo : Bool
  t : Int
  n : Int
def wd : Bool → Str
  | true => "at least"
  | false => "at most"
abbrev rcO (d : Rec) : HO := .tup [.str (wd d.lo), .int d.t, .int d.n]
theorem w_lo (b : Bool) : decide (V.str (wd b) = V.str ("at least" : Str)) = b := by
  cases b
  · exact decide_eq_false (by intro z; exact absurd (V.str.inj z) (by decide +kernel))
  · exact decide_eq_true rfl
theorem w_hi (b : Bool) : decide (V.str (wd b) = V.str ("at most" : Str)) = !b := by
  cases b
  · exact decide_eq_true rfl
  · exact decide_eq_false (by intro z; exact absurd (V.str.inj z) (by decide +kernel))
def RcB (k : Nat) (ds : List Rec) : Prop := ∀ d ∈ ds, Bd k d.t ∧ Bd k d.n
theorem RcB.mono {k j : Nat} {ds : List Rec} (h : RcB k ds) (e : k ≤ j) : RcB j ds := fun d hd => ⟨(h d hd).1.mono e, (h d hd).2.mono e⟩
theorem Obs.fr {H H' : Hp} {vs : List V} {ds : List Rec} (h : Obs rcO H vs ds) (f : Fr H H') : Obs rcO H' vs ds := h.keep fun b d e => f.t _ _ e
/-- what split_records gives: index, time, count -/
abbrev T3 := Int × Int × Int
abbrev trO (x : T3) : HO := .tup [.int x.1, .int x.2.1, .int x.2.2]
def sel (b : Bool) : Nat → List Rec → List T3
  | _, [] => []
  | k, d :: ds => if d.lo = b then ((k : Int), d.t, d.n) :: sel b (k + 1) ds else sel b (k + 1) ds
theorem sel_snoc (b : Bool) (k : Nat) (ds : List Rec) (d : Rec) : sel b k (ds ++ [d]) = sel b k ds ++ (if d.lo = b then [(((k + ds.length : Nat) : Int), d.t, d.n)] else []) := by
  induction ds generalizing k with
  | nil =>
    show (if d.lo = b then _ else _) = _
    by_cases h : d.lo = b
    · rw [if_pos h, if_pos h]
      rfl
    · rw [if_neg h, if_neg h]
      rfl
  | cons e r ih =>
    show (if e.lo = b then ((k : Int), e.t, e.n) :: sel b (k + 1) (r ++ [d]) else sel b (k + 1) (r ++ [d])) = (if e.lo = b then _ else _) ++ _
    rw [ih (k + 1), List.length_cons, show k + 1 + r.length = k + (r.length + 1) by omega]
    by_cases h : e.lo = b
    · rw [if_pos h, if_pos h]
      rfl
    · rw [if_neg h, if_neg h]
theorem sel_len (b : Bool) (k : Nat) (ds : List Rec) : (sel b k ds).length ≤ ds.length := by
  induction ds generalizing k with
  | nil => exact Nat.le_refl _
  | cons e r ih =>
    show (if e.lo = b then _ else _ : List T3).length ≤ _
    have := ih (k + 1)
    by_cases h : e.lo = b
    · rw [if_pos h, List.length_cons, List.length_cons]
      omega
    · rw [if_neg h, List.length_cons]
      omega
theorem sel_take {b : Bool} {ds : List Rec} {i : Nat} {d : Rec} (e : ds[i]? = some d) : sel b 0 (ds.take (i + 1)) = sel b 0 (ds.take i) ++ (if d.lo = b then [((i : Int), d.t, d.n)] else []) := by
  have hi : i < ds.length := (List.getElem?_eq_some_iff.mp e).1
  rw [List.take_add_one, e]
  show sel b 0 (ds.take i ++ [d]) = _
  rw [sel_snoc, List.length_take, Nat.min_eq_left (by omega), Nat.zero_add]
/-- each of them speaks of a record at its index -/
theorem sel_mem {b : Bool} {k : Nat} {ds : List Rec} {x : T3} (h : x ∈ sel b k ds) : ∃ (i : Nat) (d : Rec), ds[i]? = some d ∧ d.lo = b ∧ x = (((k + i : Nat) : Int), d.t, d.n) := by
  induction ds generalizing k with
  | nil => cases h
  | cons e r ih =>
    have h : x ∈ (if e.lo = b then ((k : Int), e.t, e.n) :: sel b (k + 1) r else sel b (k + 1) r) := h
    have up : x ∈ sel b (k + 1) r → ∃ (i : Nat) (d : Rec), (e :: r)[i]? = some d ∧ d.lo = b ∧ x = (((k + i : Nat) : Int), d.t, d.n) := fun z => by
      obtain ⟨i, d, h1, h2, h3⟩ := ih z
      exact ⟨i + 1, d, h1, h2, by rw [h3, show k + 1 + i = k + (i + 1) by omega]⟩
    by_cases hb : e.lo = b
    · rw [if_pos hb] at h
      rcases List.mem_cons.mp h with rfl | h
      · exact ⟨0, e, rfl, hb, rfl⟩
      · exact up h
    · rw [if_neg hb] at h
      exact up h
theorem mem_sel {b : Bool} {ds : List Rec} {i : Nat} {d : Rec} (e : ds[i]? = some d) (hb : d.lo = b) : ∀ k, (((k + i : Nat) : Int), d.t, d.n) ∈ sel b k ds := by
  induction ds generalizing i with
  | nil => cases e
  | cons f r ih =>
    intro k
    show _ ∈ (if f.lo = b then _ else _)
    cases i with
    | zero =>
      cases e
      rw [if_pos hb]
      exact List.mem_cons_self
    | succ i =>
      have := ih e (k + 1)
      rw [show k + 1 + i = k + (i + 1) by omega] at this
      by_cases h : f.lo = b
      · rw [if_pos h]
        exact List.mem_cons_of_mem _ this
      · rw [if_neg h]
        exact this
theorem sel_bd {k : Nat} {b : Bool} {ds : List Rec} (h : RcB k ds) {x : T3} (hx : x ∈ sel b 0 ds) : Bd k x.2.1 ∧ Bd k x.2.2 := by
  obtain ⟨i, d, e, _, rfl⟩ := sel_mem hx
  exact h d (List.mem_of_getElem? e)
/-- what a list has as its greatest -/
def IsMx (l : List Int) : Option Int → Prop
  | none => l = []
  | some m => m ∈ l ∧ ∀ y ∈ l, y ≤ m
def IsMn (l : List Int) : Option Int → Prop
  | none => l = []
  | some m => m ∈ l ∧ ∀ y ∈ l, m ≤ y
def oV : Option Int → V
  | none => .non
  | some i => .int i
theorem maxOf_mx (x : Int) (xs : List Int) : PySem.W.maxOf x xs ∈ x :: xs ∧ ∀ y ∈ x :: xs, y ≤ PySem.W.maxOf x xs := by
  induction xs generalizing x with
  | nil => exact ⟨List.mem_cons_self, fun y hy => by rw [List.mem_singleton.mp hy]; exact Int.le_refl _⟩
  | cons z r ih =>
    have e : PySem.W.maxOf x (z :: r) = PySem.W.maxOf (if decide (x < z) = true then z else x) r := rfl
    rw [e]
    obtain ⟨h1, h2⟩ := ih (if decide (x < z) = true then z else x)
    refine ⟨?_, fun y hy => ?_⟩
    · rcases List.mem_cons.mp h1 with h | h
      · rw [h]
        by_cases c : x < z
        · rw [if_pos (decide_eq_true c)]
          exact List.mem_cons_of_mem _ List.mem_cons_self
        · rw [if_neg (fun h => c (of_decide_eq_true h))]
          exact List.mem_cons_self
      · exact List.mem_cons_of_mem _ (List.mem_cons_of_mem _ h)
    · have g := h2 _ List.mem_cons_self
      have gx : x ≤ PySem.W.maxOf (if decide (x < z) = true then z else x) r ∧ z ≤ PySem.W.maxOf (if decide (x < z) = true then z else x) r := by
        by_cases c : x < z
        · rw [if_pos (decide_eq_true c)] at g ⊢
          exact ⟨by omega, g⟩
        · rw [if_neg (fun h => c (of_decide_eq_true h))] at g ⊢
          exact ⟨g, by omega⟩
      rcases List.mem_cons.mp hy with rfl | hy
      · exact gx.1
      · rcases List.mem_cons.mp hy with rfl | hy
        · exact gx.2
        · exact h2 _ (List.mem_cons_of_mem _ hy)
theorem minOf_mn (x : Int) (xs : List Int) : PySem.W.minOf x xs ∈ x :: xs ∧ ∀ y ∈ x :: xs, PySem.W.minOf x xs ≤ y := by
  induction xs generalizing x with
  | nil => exact ⟨List.mem_cons_self, fun y hy => by rw [List.mem_singleton.mp hy]; exact Int.le_refl _⟩
  | cons z r ih =>
    have e : PySem.W.minOf x (z :: r) = PySem.W.minOf (if decide (z < x) = true then z else x) r := rfl
    rw [e]
    obtain ⟨h1, h2⟩ := ih (if decide (z < x) = true then z else x)
    refine ⟨?_, fun y hy => ?_⟩
    · rcases List.mem_cons.mp h1 with h | h
      · rw [h]
        by_cases c : z < x
        · rw [if_pos (decide_eq_true c)]
          exact List.mem_cons_of_mem _ List.mem_cons_self
        · rw [if_neg (fun h => c (of_decide_eq_true h))]
          exact List.mem_cons_self
      · exact List.mem_cons_of_mem _ (List.mem_cons_of_mem _ h)
    · have g := h2 _ List.mem_cons_self
      have gx : PySem.W.minOf (if decide (z < x) = true then z else x) r ≤ x ∧ PySem.W.minOf (if decide (z < x) = true then z else x) r ≤ z := by
        by_cases c : z < x
        · rw [if_pos (decide_eq_true c)] at g ⊢
          exact ⟨by omega, g⟩
        · rw [if_neg (fun h => c (of_decide_eq_true h))] at g ⊢
          exact ⟨g, by omega⟩
      rcases List.mem_cons.mp hy with rfl | hy
      · exact gx.1
      · rcases List.mem_cons.mp hy with rfl | hy
        · exact gx.2
        · exact h2 _ (List.mem_cons_of_mem _ hy)
/-- max(list, default=d), min(list, default=d) -/
def rMxD (K : PySem.W.Frag) : List V → List V → Hp → VK → Prop := fun vs zs H Q => ∃ (a : Addr) (ns : List Int), vs = [V.ref a] ∧ zs = [.non] ∧ SqL K H a (ns.map V.int) ∧ ∀ m, IsMx ns m → Q (oV m) H
def rMnD (K : PySem.W.Frag) : List V → List V → Hp → VK → Prop := fun vs zs H Q => ∃ (a : Addr) (ns : List Int), vs = [V.ref a] ∧ zs = [.non] ∧ SqL K H a (ns.map V.int) ∧ ∀ m, IsMn ns m → Q (oV m) H
theorem cr_maxD {X : Cx} (hc : X.calm = true) (hu : X.A.units + 64 < cLine) : CallRK X (.builtin "max") [Str.ofString "default"] (rMxD X.K) := by
  intro pins s σ H xs zs us ws Q I r rz h
  obtain ⟨a, ns, rfl, rfl, hs, q⟩ := h
  obtain ⟨its, rv, hl, _⟩ := I.list hs
  rw [Vals.ref1 r]
  obtain ⟨d, rfl, rd⟩ := vals1 rz
  have ed : d = Value.none := rd
  subst ed
  refine PySem.W.max_list_datum_default (α := Int) (xs := ns) (I.ok.hd hc) hl.isList (by simpa using PySem.W.HoldAll.of_ints rv.ints) (by show _ + 1 + 0 < _; omega) (fun e h' tk hk => ⟨.non, H, I.kept hk, rfl, q none e⟩) fun y ys i v h' tk e hv hh hk => ?_
  obtain ⟨as, hr⟩ := hh
  obtain ⟨t, rfl⟩ : ∃ t, v = Value.int (PySem.W.maxOf y ys) t := by
    cases hr
    exact ⟨_, rfl⟩
  exact ⟨.int _, H, I.kept hk, ⟨_, rfl⟩, q (some _) (by rw [e]; exact maxOf_mx y ys)⟩
theorem cr_minD {X : Cx} (hc : X.calm = true) (hu : X.A.units + 64 < cLine) : CallRK X (.builtin "min") [Str.ofString "default"] (rMnD X.K) := by
  intro pins s σ H xs zs us ws Q I r rz h
  obtain ⟨a, ns, rfl, rfl, hs, q⟩ := h
  obtain ⟨its, rv, hl, _⟩ := I.list hs
  rw [Vals.ref1 r]
  obtain ⟨d, rfl, rd⟩ := vals1 rz
  have ed : d = Value.none := rd
  subst ed
  refine PySem.W.min_list_datum_default (α := Int) (xs := ns) (I.ok.hd hc) hl.isList (by simpa using PySem.W.HoldAll.of_ints rv.ints) (by show _ + 1 + 0 < _; omega) (fun e h' tk hk => ⟨.non, H, I.kept hk, rfl, q none e⟩) fun y ys i v h' tk e hv hh hk => ?_
  obtain ⟨as, hr⟩ := hh
  obtain ⟨t, rfl⟩ : ∃ t, v = Value.int (PySem.W.minOf y ys) t := by
    cases hr
    exact ⟨_, rfl⟩
  exact ⟨.int _, H, I.kept hk, ⟨_, rfl⟩, q (some _) (by rw [e]; exact minOf_mn y ys)⟩
end Lf
namespace Lf
open PySem PySem.Spec PyProof.Rows L2
theorem iteD {c A B : Prop} [Decidable c] (hc : c) (h : A) : if decide c = true then A else B := by
  rw [if_pos (decide_eq_true hc)]
  exact h
theorem iteDn {c A B : Prop} [Decidable c] (hc : ¬ c) (h : B) : if decide c = true then A else B := by
  rw [if_neg (fun z => hc (of_decide_eq_true z))]
  exact h
theorem iteTs {b : Bool} {A B : Prop} (h : b = true) (hA : A) : if b = true then A else B := by
  rw [h, if_pos rfl]
  exact hA
theorem iteFz {b : Bool} {A B : Prop} (h : b = false) (hB : B) : if b = true then A else B := by
  rw [h, if_neg Bool.false_ne_true]
  exact hB
theorem bool_f {b : Bool} (h : ¬ b = true) : b = false := by
  cases b
  · rfl
  · exact absurd rfl h
theorem lenS {n : Nat} (h : n ≤ 100000) : n ≤ sizeLine := by
  rw [sizeLine_eq]
  omega
theorem ltS {n : Nat} (h : n ≤ 100000) : n < sizeLine := by
  rw [sizeLine_eq]
  omega
theorem flat_is (ns : List Int) : (ns.map V.int).all flatV = true := by
  induction ns with
  | nil => rfl
  | cons n r ih => simpa [flatV] using ih
theorem mulW {a b : Nat} {x y : Int} (h : Bd a x) (h2 : Bd b y) (ha : 0 < a) (hb : 0 < b) (hab : a + b ≤ 1000000) : CMulW x y := wide_mul h h2 ha hb hab
theorem divW {b : Nat} {x y : Int} (h0 : 0 < y) (h : Bd b y) (hb : b ≤ 9000) : CDivW x y := ⟨h0, (h.mono hb).log (by decide)⟩
theorem divP {b : Nat} {x y : Int} (h0 : 0 < y) (h : Bd b y) (hb : b ≤ 9000) : CDivP x y := ⟨h0, PyProof.noPylong_of_log2 ((h.mono hb).log (by decide))⟩
theorem kii : kitB "int" "int" = some true := by decide +kernel
theorem kib : kitB "int" "bool" = some false := by decide +kernel
theorem ktt : kitB "tuple" "tuple" = some true := by decide +kernel
section
variable {P : Program} {w : World} {K : PySem.W.Frag} {mg : Str → Option Value} {base : Heap}
/-! ### integers -/
def spIsInt : Sp := fun vs H Q _ => ∃ i : Int, vs = [.int i] ∧ Q (.bl true) H
abbrev s_is_integer : Stmt := topS 6
abbrev N_is_integer : List Str := ["value"]
abbrev P_is_integer : List Str := ["value"]
theorem sc_is_integer : FnScope N_is_integer P_is_integer (defScope s_is_integer) := ⟨rfl, rfl, rfl, by decide +kernel, rfl, by decide +kernel, by decide +kernel⟩
theorem ok_is_integer (D : Df K mg "is_integer" s_is_integer P_is_integer) (B : Bi mg) : C8.Cal P w K mg base 1 "is_integer" spIsInt [] := by
  refine cal_of D sc_is_integer (fun vs H Q E h => ?_) (fun f cdv A outer s H vs Q E hr h => ?_)
  · obtain ⟨i, rfl, _⟩ := h
    rfl
  · obtain ⟨i, rfl, q⟩ := h
    refine ⟨_, (pss_one (ps_ret (pe_and (pe_callB (call_isi) (by rfl) B.isinstance_ bt_isinstance (pa_cons (pv 0) (pa_cons (pe_bltn (v := .ty "int") (by rfl) B.int_ bt_int rfl) pa_nil))) (pe_one (pe_not (pe_callB (call_isi) (by rfl) B.isinstance_ bt_isinstance (pa_cons (pv 0) (pa_cons (pe_bltn (v := .ty "bool") (by rfl) B.bool_ bt_bool rfl) pa_nil)))))))), ?_⟩
    refine ⟨_, rfl, _, _, _, _, true, rfl, .ty "int", .base (.int i), kit_ty kii, true, rfl, iteT ?_⟩
    exact ⟨_, rfl, _, _, _, _, false, rfl, .ty "bool", .base (.int i), kit_ty kib, false, rfl, q⟩
def spCheckInt : Sp := fun vs H Q _ => ∃ i : Int, vs = [.int i] ∧ Q .non H
end
end Lf
namespace Lf
open PySem PySem.Spec PyProof.Rows L2
section
variable {P : Program} {w : World} {K : PySem.W.Frag} {mg : Str → Option Value} {base : Heap}
abbrev s_gcd : Stmt := topS 7
abbrev N_gcd : List Str := ["first", "second"]
abbrev P_gcd : List Str := ["first", "second"]
theorem sc_gcd : FnScope N_gcd P_gcd (defScope s_gcd) := ⟨rfl, rfl, rfl, by decide +kernel, rfl, by decide +kernel, by decide +kernel⟩
theorem ok_gcd (D : Df K mg "gcd" s_gcd P_gcd) : C8.Cal P w K mg base 1 "gcd" spGcd [] := by
  refine cal_of D sc_gcd (fun vs H Q E h => ?_) (fun f cdv A outer s H vs Q E hr h => ?_)
  · obtain ⟨x, y, rfl, _⟩ := h
    rfl
  · obtain ⟨x, y, rfl, hx, hy, q⟩ := h
    refine ⟨_, (pss_cons (ps_while PassesOwn.never (pt_truth (pv 1) (fun _ => rfl))
      (pss_one (ps_par (i := 0) (j := 1) rfl sc_gcd.nd rfl rfl (by decide) rfl rfl (pa_cons (pv 1) (pa_cons (pe_op op_mod (pv 0) (pv 1)) pa_nil)) rfl)))
    (pss_one (ps_ret (pv 0)))), ?_⟩
    refine while_by (fun σ H' => ∃ u v : Int, σ = [some (.int u), some (.int v)] ∧ 0 ≤ u ∧ 0 ≤ v ∧ Int.gcd u v = Int.gcd x y ∧ H' = H) mu1 ⟨x, y, rfl, hx, hy, rfl, rfl⟩ ?_ ?_
    · rintro σ H' ⟨u, v, rfl, hu, hv, e, rfl⟩
      refine ⟨_, rfl, _, rfl, ite2 (fun c => ?_) (fun c => ?_)⟩
      · have hv0 : 0 < v := by
          have : v ≠ 0 := by simpa using c
          omega
        refine ⟨_, rfl, _, rfl, _, rfl, _, _, rfl, rfl, hv0, _, _, rfl, ⟨v, u % v, rfl, hv, Int.emod_nonneg _ (by omega), ?_, rfl⟩, ?_⟩
        · rw [gcd_turn u v hu hv0]; exact e
        · show (u % v).toNat < v.toNat
          have := Int.emod_lt_of_pos u hv0
          omega
      · have hv0 : v = 0 := by simpa using c
        subst hv0
        refine ⟨_, rfl, ?_⟩
        have e2 : (Int.gcd x y : Int) = u := by
          rw [← e, Int.gcd_zero_right]
          omega
        rw [← e2]
        exact q
    · rintro σ H' Q1 Q2 hQ ⟨v, h1, b, h4, h5⟩
      exact ⟨v, h1, b, h4, hQ _ _ h5⟩
/-! ### rules -/
def spIsRule : Sp := fun vs H Q _ => ∃ (r : Addr) (p q c : Int) (k : Nat), vs = [.ref r] ∧ H r = some (.tup [.int p, .int q, .int c]) ∧ RuleB k p q c ∧ ∀ H', Same H H' → Q (.bl true) H'
abbrev s_is_rule : Stmt := topS 20
abbrev N_is_rule : List Str := ["value", "item"]
abbrev P_is_rule : List Str := ["value"]
theorem sc_is_rule : FnScope N_is_rule P_is_rule (defScope s_is_rule) := ⟨rfl, rfl, rfl, by decide +kernel, rfl, by decide +kernel, by decide +kernel⟩
theorem ok_is_rule (D : Df K mg "is_rule" s_is_rule P_is_rule) (B : Bi mg) (c_is_integer : C8.Cal P w K mg base 1 "is_integer" spIsInt []) (c_gcd : C8.Cal P w K mg base 1 "gcd" spGcd []) : C8.Cal P w K mg base 2 "is_rule" spIsRule [] := by
  refine cal_of D sc_is_rule (fun vs H Q E h => ?_) (fun f cdv A outer s H vs Q E hr h => ?_)
  · obtain ⟨r, p, q, c, k, rfl, _⟩ := h
    rfl
  · obtain ⟨r, p, q, c, k, rfl, er, R, kk⟩ := h
    refine ⟨_, (pss_cons (ps_if (PW.pt (pw_or (pt_not (pt_val (pe_callB (call_isi) (by rfl) B.isinstance_ bt_isinstance (pa_cons (pv 0) (pa_cons (pe_bltn (v := .ty "tuple") (by rfl) B.tuple_ bt_tuple rfl) pa_nil))))) (pw_or1 (pt_cmpR op_ne (pe_callB (call_len_seq) (by rfl) B.len_ bt_len (pa_cons (pv 0) pa_nil)) pe_int (nomark _)))))
      (pss_one (ps_ret pe_bl))
      pss_nil)
    (pss_cons (ps_if (pt_not (pt_val (pe_callB (cr_all rfl) (by rfl) B.all_ bt_all (pa_cons (pe_lc (own := [("item", 1)]) (g := (gName 1)) (by rfl) sc_is_rule.nd (pi_tup (pv 0)) (blkOk_by (own := [("item", 1)]) (N := N_is_rule) (sc := defScope s_is_rule) (by decide +kernel)) (fun _ _ _ _ _ => (pg_name (i := 1) sc_is_rule.nd rfl (Or.inl rfl))) (fun _ _ _ _ _ => pts_nil) (fun _ _ _ _ _ => (C8.pe_c c_is_integer hr (by decide) (by rfl) (pa_cons (pv 1) pa_nil)))) pa_nil))))
      (pss_one (ps_ret pe_bl))
      pss_nil)
    (pss_one (ps_ret (pe_and (pe_cmpR op_ge (pe_ix (r := rIxT K) ix_tup (pv 0) pe_int (fun _ _ => rfl)) pe_int (nomark _)) (pe_and (pe_cmpR op_ge (pe_ix (r := rIxT K) ix_tup (pv 0) pe_int (fun _ _ => rfl)) pe_int (nomark _)) (pe_one (pe_cmpR op_eq (C8.pe_c c_gcd hr (by decide) (by rfl) (pa_cons (pe_ix (r := rIxT K) ix_tup (pv 0) pe_int (fun _ _ => rfl)) (pa_cons (pe_ix (r := rIxT K) ix_tup (pv 0) pe_int (fun _ _ => rfl)) pa_nil))) pe_int (nomark _))))))))), ?_⟩
    refine ⟨_, rfl, _, _, _, _, true, rfl, .ty "tuple", .base (.tup er), kit_ty ktt, true, rfl, iteF ?_⟩
    refine ⟨_, rfl, r, _, rfl, .inr (SqT.of er), rfl, _, rfl, iteNS rfl ?_⟩
    refine ⟨_, rfl, r, rfl, ⟨_, SqT.of er⟩, fun L nL => ?_⟩
    refine lc_tup (K := K) (a := r) (xs := [.int p, .int q, .int c]) (fun i H' => Same H H' ∧ H' L = some (.lst (List.replicate i (V.bl true)))) ?_ ?_ ?_ ?_
    · exact ⟨sm_upd nL, upd_same⟩
    · rintro i H' hi ⟨s1, _⟩
      exact SqT.of (s1 _ _ er)
    · rintro i x H' hx ⟨s1, eL⟩
      have hi : i < 3 := (List.getElem?_eq_some_iff.mp hx).1
      obtain ⟨z, rfl⟩ : ∃ z, x = V.int z := by
        match i, hi with
        | 0, _ => exact ⟨p, (Option.some.inj hx).symm⟩
        | 1, _ => exact ⟨q, (Option.some.inj hx).symm⟩
        | 2, _ => exact ⟨c, (Option.some.inj hx).symm⟩
      refine ⟨rfl, _, rfl, z, rfl, _, eL, ?_, ?_, ?_⟩
      · rw [List.length_replicate]
        exact small1000 (by omega)
      · intro b o eb
        rw [upd_ne (ne_of_none eb nL)]
        exact s1 _ _ eb
      · rw [upd_same, ← List.replicate_succ']
    · rintro H' ⟨s1, eL⟩
      have eL' : H' L = some (.lst ([true, true, true].map V.bl)) := eL
      refine ⟨L, [true, true, true], rfl, SqL.of eL', true, rfl, iteF ?_⟩
      have er' := s1 _ _ er
      refine ⟨_, rfl, r, _, _, _, rfl, rfl, SqT.of er', atI_nat (j := 0) rfl, _, _, rfl, rfl, _, rfl, iteD R.p0 ?_⟩
      refine ⟨_, rfl, r, _, _, _, rfl, rfl, SqT.of er', atI_nat (j := 1) rfl, _, _, rfl, rfl, _, rfl, iteD R.q1 ?_⟩
      refine ⟨_, rfl, r, _, _, _, rfl, rfl, SqT.of er', atI_nat (j := 0) rfl, _, rfl, r, _, _, _, rfl, rfl, SqT.of er', atI_nat (j := 1) rfl, p, q, rfl, R.p0, by have := R.q1; omega, rfl, ?_⟩
      rw [R.g]
      exact kk _ s1
def spCheckRule : Sp := fun vs H Q _ => ∃ (r : Addr) (p q c : Int) (k : Nat), vs = [.ref r] ∧ H r = some (.tup [.int p, .int q, .int c]) ∧ RuleB k p q c ∧ ∀ H', Same H H' → Q .non H'
end
end Lf
namespace Lf
open PySem PySem.Spec PyProof.Rows L2
def Btw (p q t b x y : Int) : Prop := p * y < x * q ∧ x * b < t * y
structure Sim (p q t b N D : Int) : Prop where
  d1 : 1 ≤ D
  n1 : 1 ≤ N
  bt : Btw p q t b N D
  mi : ∀ x y, 1 ≤ y → Btw p q t b x y → D ≤ y ∧ N ≤ x
theorem pos_of_mul {a b : Int} (h : 0 < a * b) (hb : 0 ≤ b) : 0 < a := by
  rcases Int.lt_or_le 0 a with z | z
  · exact z
  · have := Int.mul_le_mul_of_nonneg_right z hb
    rw [Int.zero_mul] at this
    omega
theorem sim_base {p q t b : Int} (hp : 0 ≤ p) (hq : 1 ≤ q) (h : (p / q + 1) * b < t) : Sim p q t b (p / q + 1) 1 := by
  have w0 : 0 ≤ p / q := Int.ediv_nonneg hp (by omega)
  have w1 : p < (p / q + 1) * q := Int.lt_ediv_add_one_mul_self p (by omega)
  have w2 : p / q * q ≤ p := Int.ediv_mul_le p (by omega)
  generalize p / q = w at *
  refine ⟨by omega, by omega, ⟨by omega, by omega⟩, fun x y hy hb => ⟨hy, ?_⟩⟩
  have h1 := Int.mul_le_mul_of_nonneg_right w2 (show 0 ≤ y by omega)
  have h2 : 0 < (x - w * y) * q := by
    have e : w * q * y = w * y * q := by grind
    have := hb.1
    rw [Int.sub_mul]
    omega
  have h3 := pos_of_mul h2 (by omega)
  have h4 := Int.mul_le_mul_of_nonneg_left hy w0
  omega
theorem sim_step {p q t b N D : Int} (hp : 0 ≤ p) (hq : 1 ≤ q) (s : Sim b (t - p / q * b) q (p - p / q * q) N D) : Sim p q t b (p / q * N + D) N := by
  have w0 : 0 ≤ p / q := Int.ediv_nonneg hp (by omega)
  have w2 : p / q * q ≤ p := Int.ediv_mul_le p (by omega)
  generalize p / q = w at *
  obtain ⟨d1, n1, ⟨b1, b2⟩, mi⟩ := s
  have n0 := Int.mul_nonneg w0 (show 0 ≤ N by omega)
  refine ⟨n1, by omega, ⟨by grind, by grind⟩, fun x y hy ⟨g1, g2⟩ => ?_⟩
  have h1 := Int.mul_le_mul_of_nonneg_right w2 (show 0 ≤ y by omega)
  have h2 : 0 < (x - w * y) * q := by grind
  have h3 := pos_of_mul h2 (by omega)
  obtain ⟨m1, m2⟩ := mi y (x - w * y) (by omega) ⟨by grind, by grind⟩
  have h4 := Int.mul_le_mul_of_nonneg_left m2 w0
  exact ⟨m2, by omega⟩
/-- what the loop of wholes says, read backwards -/
def fold2 : List Int → Int × Int → Int × Int
  | [], x => x
  | w :: r, x => (w * (fold2 r x).1 + (fold2 r x).2, (fold2 r x).1)
theorem fold2_snoc (l : List Int) (w N D : Int) : fold2 (l ++ [w]) (N, D) = fold2 l (w * N + D, N) := by
  induction l with
  | nil => rfl
  | cons v r ih =>
    show (v * (fold2 (r ++ [w]) (N, D)).1 + (fold2 (r ++ [w]) (N, D)).2, (fold2 (r ++ [w]) (N, D)).1) = _
    rw [ih]
    rfl
structure Iv (k : Nat) (p q t b : Int) : Prop where
  p0 : 0 ≤ p
  q1 : 1 ≤ q
  b0 : 0 ≤ b
  lt : p * b < t * q
  bp : Bd k p
  bq : Bd k q
  bt : Bd k t
  bb : Bd k b
theorem Iv.mono {k j : Nat} {p q t b : Int} (I : Iv k p q t b) (h : k ≤ j) : Iv j p q t b := ⟨I.p0, I.q1, I.b0, I.lt, I.bp.mono h, I.bq.mono h, I.bt.mono h, I.bb.mono h⟩
theorem Iv.t1 {k : Nat} {p q t b : Int} (I : Iv k p q t b) : 1 ≤ t := by
  have h1 := Int.mul_nonneg I.p0 I.b0
  have h2 := I.lt
  have := pos_of_mul (a := t) (b := q) (by omega) (by have := I.q1; omega)
  omega
theorem Iv.next {k : Nat} {p q t b : Int} (I : Iv k p q t b) (h : t ≤ (p / q + 1) * b) : Iv k b (t - p / q * b) q (p - p / q * q) ∧ 1 ≤ b ∧ t - p / q * b ≤ b ∧ p - p / q * q < q := by
  have t1 := I.t1
  obtain ⟨p0, q1, b0, lt, bp, bq, bt, bb⟩ := I
  have w0 : 0 ≤ p / q := Int.ediv_nonneg p0 (by omega)
  have w1 : p < (p / q + 1) * q := Int.lt_ediv_add_one_mul_self p (by omega)
  have w2 : p / q * q ≤ p := Int.ediv_mul_le p (by omega)
  generalize p / q = w at *
  have b1 : 1 ≤ b := by
    rcases Int.lt_or_le 0 b with z | z
    · exact z
    · have : b = 0 := by omega
      subst this
      rw [Int.mul_zero] at h
      omega
  have h1 : 0 < (t - w * b) * q := by
    have := Int.mul_le_mul_of_nonneg_right w2 b0
    grind
  have h2 := pos_of_mul h1 (by omega)
  have h3 : t - w * b ≤ b := by
    rw [Int.add_mul] at h
    omega
  have h4 : p - w * q < q := by
    rw [Int.add_mul] at w1
    omega
  exact ⟨⟨b0, by omega, by omega, by grind, bb, bb.between (by omega) h3, bq, bq.between (by omega) (by omega)⟩, b1, h3, h4⟩
theorem Iv.med {k : Nat} {p q t b N D : Int} (I : Iv k p q t b) (s : Sim p q t b N D) : D ≤ q + b ∧ N ≤ p + t := by
  have h := I.lt
  have := I.q1
  have := I.b0
  exact s.mi (p + t) (q + b) (by omega) ⟨by grind, by grind⟩
theorem Iv.bds {k : Nat} {p q t b N D : Int} (I : Iv k p q t b) (s : Sim p q t b N D) : Bd (k + 1) N ∧ Bd (k + 1) D := by
  obtain ⟨m1, m2⟩ := I.med s
  have := s.n1
  have := s.d1
  exact ⟨(Bd.add I.bp I.bt).between (by omega) m2, (Bd.add I.bq I.bb).between (by omega) m1⟩
structure Lw (k : Nat) (p0 q0 t0 b0 : Int) (ws : List Int) (p q t b : Int) : Prop where
  iv : Iv k p q t b
  c : ∀ l1 l2, ws = l1 ++ l2 → ∀ N D, Sim p q t b N D → Bd (k + 1) (fold2 l2 (N, D)).1 ∧ Bd (k + 1) (fold2 l2 (N, D)).2
  a : ∀ N D, Sim p q t b N D → Sim p0 q0 t0 b0 (fold2 ws (N, D)).1 (fold2 ws (N, D)).2
  d : ∀ w ∈ ws, Bd k w
  n : (ws = [] ∧ q = q0 ∧ b = b0) ∨ (q ≤ p ∧ (p * b).toNat * 2 ^ ws.length ≤ (2 * (q0 * b0)).toNat)
theorem Lw.init {k : Nat} {p q t b : Int} (I : Iv k p q t b) : Lw k p q t b [] p q t b :=
  ⟨I, fun l1 l2 e N D s => by
    have : l2 = [] := (List.append_eq_nil_iff.mp e.symm).2
    subst this
    exact I.bds s, fun N D s => s, fun w hw => by simp at hw, .inl ⟨rfl, rfl, rfl⟩⟩
theorem Lw.next {k : Nat} {p0 q0 t0 b0 p q t b : Int} {ws : List Int} (L : Lw k p0 q0 t0 b0 ws p q t b) (h : t ≤ (p / q + 1) * b) : Lw k p0 q0 t0 b0 (ws ++ [p / q]) b (t - p / q * b) q (p - p / q * q) := by
  have I := L.iv
  obtain ⟨I2, b1, h3, h4⟩ := I.next h
  have st : ∀ N D, Sim b (t - p / q * b) q (p - p / q * q) N D → Sim p q t b (p / q * N + D) N := fun N D s => sim_step I.p0 I.q1 s
  refine ⟨I2, fun l1 l2 e N D s => ?_, fun N D s => ?_, fun w hw => ?_, .inr ⟨h3, ?_⟩⟩
  · rcases List.eq_nil_or_concat l2 with rfl | ⟨l', w', rfl⟩
    · exact I2.bds s
    · rw [List.concat_eq_append, ← List.append_assoc] at e
      obtain ⟨e1, e2⟩ := List.append_inj' e rfl
      have e3 : p / q = w' := by simpa using e2
      rw [List.concat_eq_append, ← e3, fold2_snoc]
      exact L.c l1 l' e1 _ _ (st N D s)
  · rw [fold2_snoc]
    exact L.a _ _ (st N D s)
  · rcases List.mem_append.mp hw with z | z
    · exact L.d w z
    · rw [List.mem_singleton.mp z]
      exact I.bp.ediv (by have := I.q1; omega)
  · have r0 := I2.b0
    rw [List.length_append, List.length_singleton, Nat.pow_succ]
    rcases L.n with ⟨rfl, rfl, rfl⟩ | ⟨hq, hn⟩
    · have := Int.mul_le_mul_of_nonneg_left (show p - p / q * q ≤ q by omega) (show 0 ≤ b by omega)
      rw [Int.mul_comm q b]
      simp only [List.length_nil, Nat.pow_zero, Nat.one_mul]
      generalize b * (p - p / q * q) = x at *
      generalize b * q = y at *
      omega
    · refine Nat.le_trans ?_ hn
      rw [Nat.mul_comm (2 ^ ws.length) 2, ← Nat.mul_assoc]
      refine Nat.mul_le_mul_right _ ?_
      have w1 : 1 ≤ p / q := Int.le_ediv_of_mul_le (by have := I.q1; omega) (by omega)
      have h5 := Int.mul_le_mul_of_nonneg_right w1 (show 0 ≤ q by have := I.q1; omega)
      have h6 := Int.mul_le_mul_of_nonneg_left (show 2 * (p - p / q * q) ≤ p by omega) (show 0 ≤ b by omega)
      generalize p - p / q * q = r at *
      have e1 : b * (2 * r) = 2 * (b * r) := by grind
      rw [e1, Int.mul_comm b p] at h6
      have := Int.mul_nonneg (show 0 ≤ b by omega) r0
      generalize b * r = x at *
      generalize p * b = y at *
      omega
theorem Lw.len {k : Nat} {p0 q0 t0 b0 p q t b : Int} {ws : List Int} (L : Lw k p0 q0 t0 b0 ws p q t b) (b1 : 1 ≤ b) (bq : Bd k q0) (bb : Bd k b0) : ws.length < 2 * k + 2 := by
  rcases L.n with ⟨rfl, _⟩ | ⟨hq, hn⟩
  · simp
  · have B1 : Bd (k + k + 1) (2 * (q0 * b0)) := by
      have := Bd.add (Bd.mul bq bb) (Bd.mul bq bb)
      rw [show 2 * (q0 * b0) = q0 * b0 + q0 * b0 by omega]
      exact this
    have p1 : 1 ≤ p * b := by
      have := Int.mul_le_mul (show 1 ≤ p by have := L.iv.q1; omega) b1 (by omega) (by have := L.iv.p0; omega)
      omega
    unfold Bd at B1
    have h2 : 2 ^ ws.length ≤ (p * b).toNat * 2 ^ ws.length := Nat.le_mul_of_pos_left _ (by omega)
    have h3 : 2 ^ ws.length < 2 ^ (k + k + 1) := by omega
    have := (Nat.pow_lt_pow_iff_right (by decide)).mp h3
    omega
section
variable {P : Program} {w : World} {K : PySem.W.Frag} {mg : Str → Option Value} {base : Heap}
/-! ### rates -/
structure Rt (k : Nat) (p q : Int) : Prop where
  p0 : 0 ≤ p
  q1 : 1 ≤ q
  g : Int.gcd p q = 1
  bp : Bd k p
  bq : Bd k q
theorem Rt.mono {k j : Nat} {p q : Int} (h : Rt k p q) (e : k ≤ j) : Rt j p q := ⟨h.p0, h.q1, h.g, h.bp.mono e, h.bq.mono e⟩
abbrev tup2 (p q : Int) : HO := .tup [.int p, .int q]
def spIsRate : Sp := fun vs H Q _ => ∃ (r : Addr) (p q : Int) (k : Nat), vs = [.ref r] ∧ H r = some (tup2 p q) ∧ Rt k p q ∧ Q (.bl true) H
abbrev s_is_rate : Stmt := topS 9
abbrev N_is_rate : List Str := ["value"]
abbrev P_is_rate : List Str := ["value"]
theorem sc_is_rate : FnScope N_is_rate P_is_rate (defScope s_is_rate) := ⟨rfl, rfl, rfl, by decide +kernel, rfl, by decide +kernel, by decide +kernel⟩
theorem ok_is_rate (D : Df K mg "is_rate" s_is_rate P_is_rate) (B : Bi mg) (c_is_integer : C8.Cal P w K mg base 1 "is_integer" spIsInt []) (c_gcd : C8.Cal P w K mg base 1 "gcd" spGcd []) : C8.Cal P w K mg base 2 "is_rate" spIsRate [] := by
  refine cal_of D sc_is_rate (fun vs H Q E h => ?_) (fun f cdv A outer s H vs Q E hr h => ?_)
  · obtain ⟨r, p, q, k, rfl, _⟩ := h
    rfl
  · obtain ⟨r, p, q, k, rfl, er, R, kk⟩ := h
    refine ⟨_, (pss_cons (ps_if (PW.pt (pw_or (pt_not (pt_val (pe_callB (call_isi) (by rfl) B.isinstance_ bt_isinstance (pa_cons (pv 0) (pa_cons (pe_bltn (v := .ty "tuple") (by rfl) B.tuple_ bt_tuple rfl) pa_nil))))) (pw_or1 (pt_cmpR op_ne (pe_callB (call_len_seq) (by rfl) B.len_ bt_len (pa_cons (pv 0) pa_nil)) pe_int (nomark _)))))
      (pss_one (ps_ret pe_bl))
      pss_nil)
    (pss_cons (ps_if (PW.pt (pw_or (pt_not (pt_val (C8.pe_c c_is_integer hr (by decide) (by rfl) (pa_cons (pe_ix (r := rIxT K) ix_tup (pv 0) pe_int (fun _ _ => rfl)) pa_nil)))) (pw_or1 (pt_not (pt_val (C8.pe_c c_is_integer hr (by decide) (by rfl) (pa_cons (pe_ix (r := rIxT K) ix_tup (pv 0) pe_int (fun _ _ => rfl)) pa_nil)))))))
      (pss_one (ps_ret pe_bl))
      pss_nil)
    (pss_one (ps_ret (pe_and (pe_cmpR op_ge (pe_ix (r := rIxT K) ix_tup (pv 0) pe_int (fun _ _ => rfl)) pe_int (nomark _)) (pe_and (pe_cmpR op_ge (pe_ix (r := rIxT K) ix_tup (pv 0) pe_int (fun _ _ => rfl)) pe_int (nomark _)) (pe_one (pe_cmpR op_eq (C8.pe_c c_gcd hr (by decide) (by rfl) (pa_cons (pe_ix (r := rIxT K) ix_tup (pv 0) pe_int (fun _ _ => rfl)) (pa_cons (pe_ix (r := rIxT K) ix_tup (pv 0) pe_int (fun _ _ => rfl)) pa_nil))) pe_int (nomark _))))))))), ?_⟩
    refine ⟨_, rfl, _, _, _, _, true, rfl, .ty "tuple", .base (.tup er), kit_ty ktt, true, rfl, iteF ?_⟩
    refine ⟨_, rfl, r, _, rfl, .inr (SqT.of er), rfl, _, rfl, iteNS rfl ?_⟩
    refine ⟨_, rfl, r, _, _, _, rfl, rfl, SqT.of er, atI_nat (j := 0) rfl, p, rfl, true, rfl, iteF ?_⟩
    refine ⟨_, rfl, r, _, _, _, rfl, rfl, SqT.of er, atI_nat (j := 1) rfl, q, rfl, true, rfl, iteF ?_⟩
    refine ⟨_, rfl, r, _, _, _, rfl, rfl, SqT.of er, atI_nat (j := 0) rfl, _, _, rfl, rfl, _, rfl, iteD R.p0 ?_⟩
    refine ⟨_, rfl, r, _, _, _, rfl, rfl, SqT.of er, atI_nat (j := 1) rfl, _, _, rfl, rfl, _, rfl, iteD R.q1 ?_⟩
    refine ⟨_, rfl, r, _, _, _, rfl, rfl, SqT.of er, atI_nat (j := 0) rfl, _, rfl, r, _, _, _, rfl, rfl, SqT.of er, atI_nat (j := 1) rfl, p, q, rfl, R.p0, by have := R.q1; omega, rfl, ?_⟩
    rw [R.g]
    exact kk
def spCheckRate : Sp := fun vs H Q _ => ∃ (r : Addr) (p q : Int) (k : Nat), vs = [.ref r] ∧ H r = some (tup2 p q) ∧ Rt k p q ∧ Q .non H
abbrev s_check_rate : Stmt := topS 10
abbrev N_check_rate : List Str := ["value"]
abbrev P_check_rate : List Str := ["value"]
theorem sc_check_rate : FnScope N_check_rate P_check_rate (defScope s_check_rate) := ⟨rfl, rfl, rfl, by decide +kernel, rfl, by decide +kernel, by decide +kernel⟩
theorem ok_check_rate (D : Df K mg "check_rate" s_check_rate P_check_rate) (c_is_rate : C8.Cal P w K mg base 2 "is_rate" spIsRate []) : C8.Cal P w K mg base 3 "check_rate" spCheckRate [] := by
  refine cal_of D sc_check_rate (fun vs H Q E h => ?_) (fun f cdv A outer s H vs Q E hr h => ?_)
  · obtain ⟨r, p, q, k, rfl, _⟩ := h
    rfl
  · obtain ⟨r, p, q, k, rfl, er, R, kk⟩ := h
    refine ⟨_, (pss_one (ps_if (pt_not (pt_val (C8.pe_c c_is_rate hr (by decide) (by rfl) (pa_cons (pv 0) pa_nil))))
      (pss_one ps_never)
      pss_nil)), ?_⟩
    exact ⟨_, rfl, r, p, q, k, rfl, er, R, true, rfl, iteF kk⟩
/-! ### simplest_inside -/
def spInside : Sp := fun vs H Q _ => ∃ (l h : Addr) (p q t b : Int) (k : Nat), vs = [.ref l, .ref h] ∧ H l = some (tup2 p q) ∧ H h = some (tup2 t b) ∧ Iv k p q t b ∧ 0 < k ∧ k ≤ 2000 ∧
  ∀ r H' N D, Same H H' → H r = none → H' r = some (tup2 N D) → Sim p q t b N D → Bd (k + 1) N → Bd (k + 1) D → Q (.ref r) H'
def muF : L2.St → Hp → Nat := fun σ _ => match σ with
  | _ :: _ :: _ :: some (.int q) :: _ :: some (.int b) :: _ => (q + b).toNat
  | _ => 0
abbrev s_simplest_inside : Stmt := topS 13
abbrev N_simplest_inside : List Str := ["low", "high", "p", "q", "top", "bottom", "wholes", "whole", "numerator", "denominator"]
abbrev P_simplest_inside : List Str := ["low", "high"]
theorem sc_simplest_inside : FnScope N_simplest_inside P_simplest_inside (defScope s_simplest_inside) := ⟨rfl, rfl, rfl, by decide +kernel, rfl, by decide +kernel, by decide +kernel⟩
theorem ok_simplest_inside (D : Df K mg "simplest_inside" s_simplest_inside P_simplest_inside) (B : Bi mg) : C8.Cal P w K mg base 1 "simplest_inside" spInside [] := by
  refine cal_of D sc_simplest_inside (fun vs H Q E h => ?_) (fun f cdv A outer s H vs Q E hr h => ?_)
  · obtain ⟨l, h, p, q, t, b, k, rfl, _⟩ := h
    rfl
  · obtain ⟨l, h, p0, q0, t0, b0, k, rfl, el, eh, I, k0, k4, kk⟩ := h
    refine ⟨_, (pss_cons (ps_asg (pv 0) (pg_tup rfl (pgs_cons (pg_name (i := 2) sc_simplest_inside.nd rfl (Or.inl rfl)) (pgs_cons (pg_name (i := 3) sc_simplest_inside.nd rfl (Or.inl rfl)) pgs_nil))))
    (pss_cons (ps_asg (pv 1) (pg_tup rfl (pgs_cons (pg_name (i := 4) sc_simplest_inside.nd rfl (Or.inl rfl)) (pgs_cons (pg_name (i := 5) sc_simplest_inside.nd rfl (Or.inl rfl)) pgs_nil))))
    (pss_cons (ps_set (i := 6) sc_simplest_inside.nd rfl (Or.inl rfl) (pe_lst pa_nil))
    (pss_cons (ps_set (i := 7) sc_simplest_inside.nd rfl (Or.inl rfl) (pe_op op_fdivW (pv 2) (pv 3)))
    (pss_cons (ps_while PassesOwn.never (pt_cmpR op_ge (pe_op op_mulW (pe_op op_add (pv 7) pe_int) (pv 5)) (pv 4) (nomark _))
      (pss_cons (ps_expr (pe_bm PySem.F.plainAttrs_list PySem.F.slot_list_append PySem.F.type_list_append mt_append (pv 6) (pa_cons (pv 7) pa_nil)))
    (pss_cons (ps_asg (pe_tup (pa_cons (pv 5) (pa_cons (pe_op op_sub (pv 4) (pe_op op_mulW (pv 7) (pv 5))) (pa_cons (pv 3) (pa_cons (pe_op op_sub (pv 2) (pe_op op_mulW (pv 7) (pv 3))) pa_nil))))) (pg_tup rfl (pgs_cons (pg_name (i := 2) sc_simplest_inside.nd rfl (Or.inl rfl)) (pgs_cons (pg_name (i := 3) sc_simplest_inside.nd rfl (Or.inl rfl)) (pgs_cons (pg_name (i := 4) sc_simplest_inside.nd rfl (Or.inl rfl)) (pgs_cons (pg_name (i := 5) sc_simplest_inside.nd rfl (Or.inl rfl)) pgs_nil))))))
    (pss_one (ps_set (i := 7) sc_simplest_inside.nd rfl (Or.inl rfl) (pe_op op_fdivW (pv 2) (pv 3)))))))
    (pss_cons (ps_par (i := 8) (j := 9) rfl sc_simplest_inside.nd rfl rfl (by decide) rfl rfl (pa_cons (pe_op op_add (pv 7) pe_int) (pa_cons pe_int pa_nil)) rfl)
    (pss_cons (ps_for PassesOwn.never rfl (pi_reversed (by rfl) B.reversed_ (pa_cons (pv 6) pa_nil)) (pg_name (i := 7) sc_simplest_inside.nd rfl (Or.inl rfl))
      (pss_one (ps_par (i := 8) (j := 9) rfl sc_simplest_inside.nd rfl rfl (by decide) rfl rfl (pa_cons (pe_op op_add (pe_op op_mulW (pv 7) (pv 8)) (pv 9)) (pa_cons (pv 8) pa_nil)) rfl)))
    (pss_one (ps_ret (pe_tup (pa_cons (pv 8) (pa_cons (pv 9) pa_nil)))))))))))), ?_⟩
    refine ⟨_, rfl, l, _, rfl, SqT.of el, rfl, _, _, rfl, _, _, rfl, rfl, ?_⟩
    refine ⟨_, rfl, h, _, rfl, SqT.of eh, rfl, _, _, rfl, _, _, rfl, rfl, ?_⟩
    refine ⟨Nat.zero_le _, fun lv nlv => ?_⟩
    refine ⟨_, rfl, _, rfl, _, _, rfl, rfl, divW (by have := I.q1; omega) I.bq (by omega), ?_⟩
    refine while_by (fun σ H' => ∃ (p q t b : Int) (ws : List Int), σ = [some (.ref l), some (.ref h), some (.int p), some (.int q), some (.int t), some (.int b), some (.ref lv), some (.int (p / q)), none, none] ∧ Lw k p0 q0 t0 b0 ws p q t b ∧ Same H H' ∧ H' lv = some (.lst (ws.map V.int))) muF ⟨p0, q0, t0, b0, [], rfl, Lw.init I, sm_upd nlv, upd_same⟩ ?_ ?_
    · rintro σ H1 ⟨p, q, t, b, ws, rfl, L, sH, elv⟩
      have J := L.iv
      have q1 := J.q1
      have bw : Bd k (p / q) := J.bp.ediv (by omega)
      have bw1 : Bd (k + 1) (p / q + 1) := Bd.add bw (Bd.small 1 (by decide) (by omega))
      refine ⟨_, rfl, _, _, rfl, rfl, _, rfl, _, _, rfl, rfl, mulW bw1 J.bb (by omega) k0 (by omega), _, rfl, _, _, rfl, rfl, _, rfl, ite2 (fun c => ?_) (fun c => ?_)⟩
      · have hc : t ≤ (p / q + 1) * b := of_decide_eq_true c
        obtain ⟨_, b1, h3, h4⟩ := J.next hc
        have LN := L.next hc
        have ln := L.len b1 I.bq I.bb
        have q1' := LN.iv.q1
        refine ⟨_, rfl, .inl ⟨rfl, _, SqL.of elv⟩, _, rfl, lv, _, _, rfl, rfl, elv, ?_, ?_⟩
        · rw [List.length_map]
          exact (Nat.lt_of_le_of_lt (show _ ≤ 5000 by omega) (by decide))
        · refine ⟨_, rfl, _, rfl, _, rfl, _, rfl, _, _, rfl, rfl, mulW bw J.bb k0 k0 (by omega), _, _, rfl, rfl, _, rfl, _, rfl, _, rfl, _, rfl, _, _, rfl, rfl, mulW bw J.bq k0 k0 (by omega), _, _, rfl, rfl, len10 (by simp), fun t2 nt2 => ?_⟩
          refine ⟨t2, _, rfl, SqT.of upd_same, rfl, _, _, rfl, _, _, rfl, _, _, rfl, _, _, rfl, rfl, ?_⟩
          refine ⟨_, rfl, _, rfl, _, _, rfl, rfl, divW (by omega) LN.iv.bq (by omega), ?_⟩
          refine ⟨⟨_, _, _, _, ws ++ [p / q], rfl, LN, ?_, ?_⟩, ?_⟩
          · intro x o ex
            have z := sH _ _ ex
            have nx : x ≠ lv := ne_of_none ex nlv
            have z2 : upd H1 lv (.lst (ws.map V.int ++ [.int (p / q)])) x = some o := by
              rw [upd_ne nx]
              exact z
            exact sm_upd nt2 _ _ z2
          · have z2 : upd H1 lv (.lst (ws.map V.int ++ [.int (p / q)])) lv = some (.lst ((ws ++ [p / q]).map V.int)) := by
              rw [upd_same, List.map_append]
              rfl
            exact sm_upd nt2 _ _ z2
          · show (t - p / q * b + (p - p / q * q)).toNat < (q + b).toNat
            have := LN.iv.b0
            omega
      · have hc : (p / q + 1) * b < t := by
          have : ¬ t ≤ (p / q + 1) * b := fun z => c (decide_eq_true z)
          omega
        have S := sim_base J.p0 J.q1 hc
        refine ⟨_, rfl, _, _, rfl, rfl, _, _, rfl, ?_⟩
        refine ⟨_, rfl, lv, _, rfl, SqL.of elv, ?_⟩
        have CC := L.c
        have CA := L.a
        generalize hN : p / q + 1 = N at S
        refine for_it walk_rev (fun i σ H2 => ∃ (y : Option V), σ = [some (.ref l), some (.ref h), some (.int p), some (.int q), some (.int t), some (.int b), some (.ref lv), y, some (.int (fold2 (ws.drop (ws.length - i)) (N, 1)).1), some (.int (fold2 (ws.drop (ws.length - i)) (N, 1)).2)] ∧ H2 = H1) ?_ ?_ ?_ ?_
        · refine ⟨some (.int (p / q)), ?_, rfl⟩
          rw [Nat.sub_zero, List.drop_length, ← hN]
          rfl
        · rintro i σ H2 _ ⟨_, _, rfl⟩
          exact SqL.of elv
        · rintro i x σ H2 H3 hi ⟨y, rfl, rfl⟩ ⟨rfl, hx⟩
          rw [List.length_map] at hi hx
          have hj : ws.length - 1 - i < ws.length := by omega
          rw [List.getElem?_map, List.getElem?_eq_getElem hj] at hx
          have ex : x = V.int ws[ws.length - 1 - i] := (Option.some.inj hx).symm
          subst ex
          have d1 := L.d _ (List.getElem_mem hj)
          have cc := CC (ws.take (ws.length - i)) (ws.drop (ws.length - i)) (List.take_append_drop _ _).symm N 1 S
          have ed : ws.drop (ws.length - (i + 1)) = ws[ws.length - 1 - i] :: ws.drop (ws.length - i) := by
            rw [show ws.length - (i + 1) = ws.length - 1 - i by omega, List.drop_eq_getElem_cons hj, show ws.length - 1 - i + 1 = ws.length - i by omega]
          generalize ws[ws.length - 1 - i] = e at *
          refine ⟨_, rfl, _, rfl, _, _, rfl, rfl, mulW d1 cc.1 k0 (by omega) (by omega), _, rfl, _, _, rfl, rfl, _, rfl, _, _, rfl, ?_⟩
          refine ⟨some (.int e), ?_, rfl⟩
          rw [ed]
          rfl
        · rintro σ H2 ⟨y, rfl, rfl⟩
          have e0 : ws.drop (ws.length - (ws.map V.int).length) = ws := by
            rw [List.length_map, Nat.sub_self]
            rfl
          rw [e0]
          refine ⟨_, rfl, _, rfl, len10 (by simp), fun r nr => ?_⟩
          have F2 := CA N 1 S
          have bd := I.bds F2
          refine kk r _ _ _ (sH.trans (sm_upd nr)) ?_ upd_same F2 bd.1 bd.2
          cases z : H r with
          | none => rfl
          | some o =>
            rw [sH _ _ z] at nr
            cases nr
    · rintro σ H' Q1 Q2 hQ ⟨v, h1, i, j, h2, h3, v2, g1, i2, j2, g2, g3, gm, v3, g4, i3, j3, g5, g6, b, h4, h5⟩
      exact ⟨v, h1, i, j, h2, h3, v2, g1, i2, j2, g2, g3, gm, v3, g4, i3, j3, g5, g6, b, h4, hQ _ _ h5⟩
end
end Lf
namespace Lf
open PySem PySem.Spec PyProof.Rows L2
theorem obs_cut {α : Type} {O : α → HO} {H : Hp} {vs : List V} {ds : List α} (h : Obs O H vs ds) (lo hi : Option Int) : ∃ es, Obs O H (cutV vs lo hi) es ∧ (∀ d ∈ es, d ∈ ds) ∧ es.length ≤ ds.length := by
  unfold cutV
  generalize HT.sIx vs.length 0 lo = i
  generalize HT.sIx vs.length vs.length hi - i = j
  refine ⟨(ds.drop i).take j, (h.drop i).take j, fun d hd => List.mem_of_mem_drop (List.mem_of_mem_take hd), ?_⟩
  rw [List.length_take, List.length_drop]
  omega
theorem at_map {cs : List Int} {i : Nat} {x : V} (h : (cs.map V.int)[i]? = some x) : ∃ c, c ∈ cs ∧ x = .int c := by
  rw [List.getElem?_map] at h
  cases e : cs[i]? with
  | none =>
    rw [e] at h
    cases h
  | some c =>
    rw [e] at h
    cases h
    exact ⟨c, List.mem_of_getElem? e, rfl⟩
theorem in_words (b : Bool) : inV (.str (wd b)) [.str "at least", .str "at most"] = true := by
  cases b <;> decide +kernel
theorem kit_lt {K : PySem.W.Frag} : PySem.W.kitAny K (.type "list") [.type "list", .type "tuple"] = some true :=
  kitAny_cons (b := true) (kit_ty (by decide +kernel)) (fun z => by cases z) (fun _ => rfl)
def lph (p q : Int) (ds : List Rec) : List Int := (sel true 0 ds).map fun x => x.2.2 * q - p * x.2.1
def hph (p q : Int) (ds : List Rec) : List Int := (sel false 0 ds).map fun x => (x.2.2 + 1) * q - p * x.2.1 - 1
def okPh : Option Int → Option Int → Bool
  | some x, some y => decide (x ≤ y)
  | _, _ => true
theorem mx_uniq {l : List Int} {a b : Option Int} (h : IsMx l a) (h2 : IsMx l b) : a = b := by
  cases a with
  | none =>
    cases b with
    | none => rfl
    | some y =>
      have e : l = [] := h
      subst e
      cases h2.1
  | some x =>
    cases b with
    | none =>
      have e : l = [] := h2
      subst e
      cases h.1
    | some y =>
      have h1 := h.2 y h2.1
      have h3 := h2.2 x h.1
      rw [show x = y by omega]
theorem mn_uniq {l : List Int} {a b : Option Int} (h : IsMn l a) (h2 : IsMn l b) : a = b := by
  cases a with
  | none =>
    cases b with
    | none => rfl
    | some y =>
      have e : l = [] := h
      subst e
      cases h2.1
  | some x =>
    cases b with
    | none =>
      have e : l = [] := h2
      subst e
      cases h.1
    | some y =>
      have h1 := h.2 y h2.1
      have h3 := h2.2 x h.1
      rw [show x = y by omega]
def fitB (p q c : Int) (d : Rec) : Bool := if d.lo = true then decide (d.n ≤ (p * d.t + c) / q) else decide ((p * d.t + c) / q ≤ d.n)
structure Bc (mg : Str → Option Value) : Prop where
  most_ : ∃ t, mg "MOST_RECORDS" = some (.int 200 t)
section
variable {P : Program} {w : World} {K : PySem.W.Frag} {mg : Str → Option Value} {base : Heap}
/-! ### is_record, check_records -/
def spIsRec : Sp := fun vs H Q _ => ∃ (r : Addr) (d : Rec), vs = [.ref r] ∧ H r = some (rcO d) ∧ ∀ H', Same H H' → Q (.bl true) H'
abbrev s_is_record : Stmt := topS 16
abbrev N_is_record : List Str := ["value"]
abbrev P_is_record : List Str := ["value"]
theorem sc_is_record : FnScope N_is_record P_is_record (defScope s_is_record) := ⟨rfl, rfl, rfl, by decide +kernel, rfl, by decide +kernel, by decide +kernel⟩
theorem ok_is_record (D : Df K mg "is_record" s_is_record P_is_record) (B : Bi mg) (c_is_integer : C8.Cal P w K mg base 1 "is_integer" spIsInt []) : C8.Cal P w K mg base 2 "is_record" spIsRec [] := by
  refine cal_of D sc_is_record (fun vs H Q E h => ?_) (fun f cdv A outer s H vs Q E hr h => ?_)
  · obtain ⟨r, d, rfl, _⟩ := h
    rfl
  · obtain ⟨r, d, rfl, er, kk⟩ := h
    refine ⟨_, (pss_cons (ps_if (PW.pt (pw_or (pt_not (pt_val (pe_callB (call_isi) (by rfl) B.isinstance_ bt_isinstance (pa_cons (pv 0) (pa_cons (pe_bltn (v := .ty "tuple") (by rfl) B.tuple_ bt_tuple rfl) pa_nil))))) (pw_or1 (pt_cmpR op_ne (pe_callB (call_len_seq) (by rfl) B.len_ bt_len (pa_cons (pv 0) pa_nil)) pe_int (nomark _)))))
      (pss_one (ps_ret pe_bl))
      pss_nil)
    (pss_one (ps_ret (pe_and (pe_cmpR op_in_seq (pe_ix (r := rIxT K) ix_tup (pv 0) pe_int (fun _ _ => rfl)) (pe_tup (pa_cons pe_str (pa_cons pe_str pa_nil))) rfl) (pe_and (C8.pe_c c_is_integer hr (by decide) (by rfl) (pa_cons (pe_ix (r := rIxT K) ix_tup (pv 0) pe_int (fun _ _ => rfl)) pa_nil)) (pe_one (C8.pe_c c_is_integer hr (by decide) (by rfl) (pa_cons (pe_ix (r := rIxT K) ix_tup (pv 0) pe_int (fun _ _ => rfl)) pa_nil)))))))), ?_⟩
    refine ⟨_, rfl, _, _, _, _, true, rfl, .ty "tuple", .base (.tup er), kit_ty ktt, true, rfl, iteF ?_⟩
    refine ⟨_, rfl, r, _, rfl, .inr (SqT.of er), rfl, _, rfl, iteNS rfl ?_⟩
    refine ⟨_, rfl, r, _, _, _, rfl, rfl, SqT.of er, atI_nat (j := 0) rfl, len10 (by simp), fun p np => ?_⟩
    have er1 := sm_upd (o := .tup [.str "at least", .str "at most"]) np _ _ er
    refine ⟨p, _, rfl, .inr (SqT.of upd_same), rfl, rfl, _, rfl, iteTs (in_words d.lo) ?_⟩
    refine ⟨_, rfl, r, _, _, _, rfl, rfl, SqT.of er1, atI_nat (j := 1) rfl, d.t, rfl, true, rfl, iteT ?_⟩
    refine ⟨_, rfl, r, _, _, _, rfl, rfl, SqT.of er1, atI_nat (j := 2) rfl, d.n, rfl, ?_⟩
    exact kk _ (sm_upd np)
def spCkRec : Sp := fun vs H Q _ => ∃ (L : Addr) (xs : List V) (ds : List Rec), vs = [.ref L] ∧ H L = some (.lst xs) ∧ Obs rcO H xs ds ∧ ds.length ≤ 200 ∧ ∀ H', Same H H' → Q .non H'
abbrev s_check_records : Stmt := topS 17
abbrev N_check_records : List Str := ["value", "index", "item"]
abbrev P_check_records : List Str := ["value"]
theorem sc_check_records : FnScope N_check_records P_check_records (defScope s_check_records) := ⟨rfl, rfl, rfl, by decide +kernel, rfl, by decide +kernel, by decide +kernel⟩
theorem ok_check_records (D : Df K mg "check_records" s_check_records P_check_records) (B : Bi mg) (U : Bc mg) (c_is_record : C8.Cal P w K mg base 2 "is_record" spIsRec []) : C8.Cal P w K mg base 3 "check_records" spCkRec [] := by
  refine cal_of D sc_check_records (fun vs H Q E h => ?_) (fun f cdv A outer s H vs Q E hr h => ?_)
  · obtain ⟨L, xs, ds, rfl, _⟩ := h
    rfl
  · obtain ⟨L, xs, ds, rfl, eL, hO, hl, kk⟩ := h
    obtain ⟨tM, hc_MOST_RECORDS⟩ := U.most_
    refine ⟨_, (pss_cons (ps_if (PW.pt (pw_or (pt_not (pt_val (pe_callB (call_isiT) (by rfl) B.isinstance_ bt_isinstance (pa_cons (pv 0) (pa_cons (pe_tup (pa_cons (pe_bltn (v := .ty "list") (by rfl) B.list_ bt_list rfl) (pa_cons (pe_bltn (v := .ty "tuple") (by rfl) B.tuple_ bt_tuple rfl) pa_nil))) pa_nil))))) (pw_or1 (pt_cmpR op_gt (pe_callB (call_len_seq) (by rfl) B.len_ bt_len (pa_cons (pv 0) pa_nil)) (pe_glob (v := .int 200) (by rfl) hc_MOST_RECORDS ⟨_, rfl⟩) (nomark _)))))
      (pss_one ps_never)
      pss_nil)
    (pss_one (ps_for PassesOwn.never rfl (pi_enum (by rfl) B.enumerate_ (pa_cons (pv 0) pa_nil)) (pg_tup rfl (pgs_cons (pg_name (i := 1) sc_check_records.nd rfl (Or.inl rfl)) (pgs_cons (pg_name (i := 2) sc_check_records.nd rfl (Or.inl rfl)) pgs_nil)))
      (pss_one (ps_if (pt_not (pt_val (C8.pe_c c_is_record hr (by decide) (by rfl) (pa_cons (pv 2) pa_nil))))
      (pss_one ps_never)
      pss_nil))))), ?_⟩
    refine ⟨_, rfl, len10 (by simp), fun tp ntp => ?_⟩
    have s1 := sm_upd (o := .tup [.ty "list", .ty "tuple"]) ntp
    refine ⟨_, tp, _, _, _, true, rfl, upd_same, .cons (.ty "list") (.cons (.ty "tuple") .nil), .base (.lst (s1 _ _ eL)), kit_lt, true, rfl, iteF ?_⟩
    refine ⟨_, rfl, L, _, rfl, .inl (SqL.of (s1 _ _ eL)), _, _, rfl, rfl, _, rfl, iteDn (by rw [hO.len]; omega) ?_⟩
    generalize upd H tp (.tup [.ty "list", .ty "tuple"]) = H1 at s1
    refine ⟨_, rfl, L, _, rfl, SqL.of (s1 _ _ eL), ?_⟩
    refine for_it (walk_enum (K := K) (a := L) (xs := xs)) (fun i σ H' => ∃ (y1 y2 : Option V), σ = [some (.ref L), y1, y2] ∧ Same H H') ⟨_, _, rfl, s1⟩ ?_ ?_ ?_
    · rintro i σ H2 _ ⟨_, _, _, s2⟩
      exact SqL.of (s2 _ _ eL)
    · rintro i v σ H2 H3 hi ⟨y1, y2, rfl, s2⟩ ⟨T, x, y, rfl, nT, rfl, hx, hy⟩
      cases hx
      obtain ⟨r, d, rfl, er, _⟩ := hO.at hy
      have s3 := s2.trans (sm_upd (o := .tup [.int (i : Nat), .ref r]) nT)
      refine ⟨T, _, rfl, SqT.of upd_same, rfl, _, _, rfl, _, _, rfl, rfl, ?_⟩
      refine ⟨_, rfl, r, d, rfl, s3 _ _ er, fun H4 s4 => ⟨true, rfl, iteF ?_⟩⟩
      exact ⟨_, _, rfl, s3.trans s4⟩
    · rintro σ H2 ⟨_, _, rfl, s2⟩
      exact kk _ s2
/-! ### split_records -/
def spSplit : Sp := fun vs H Q _ => ∃ (L : Addr) (xs : List V) (ds : List Rec), vs = [.ref L] ∧ H L = some (.lst xs) ∧ Obs rcO H xs ds ∧ ds.length ≤ 1000 ∧
  ∀ T H' A B as bs, Same H H' → H' T = some (.tup [.ref A, .ref B]) → H' A = some (.lst as) → Obs trO H' as (sel true 0 ds) → H' B = some (.lst bs) → Obs trO H' bs (sel false 0 ds) → Q (.ref T) H'
abbrev s_split_records : Stmt := topS 23
abbrev N_split_records : List Str := ["records", "lows", "highs", "i", "word", "t", "n", "j", "u", "m"]
abbrev P_split_records : List Str := ["records"]
theorem sc_split_records : FnScope N_split_records P_split_records (defScope s_split_records) := ⟨rfl, rfl, rfl, by decide +kernel, rfl, by decide +kernel, by decide +kernel⟩
theorem ok_split_records (D : Df K mg "split_records" s_split_records P_split_records) (B : Bi mg) : C8.Cal P w K mg base 1 "split_records" spSplit [] := by
  refine cal_of D sc_split_records (fun vs H Q E h => ?_) (fun f cdv A outer s H vs Q E hr h => ?_)
  · obtain ⟨L, xs, ds, rfl, _⟩ := h
    rfl
  · obtain ⟨L, xs, ds, rfl, eL, hO, hl, kk⟩ := h
    refine ⟨_, (pss_cons (ps_setLc (i := 1) (own := [("i", 3), ("word", 4), ("t", 5), ("n", 6)]) (g := (gTup K 2 (gCons (gName 3) (gCons (gTup K 3 (gCons (gName 4) (gCons (gName 5) (gCons (gName 6) gNil)))) gNil)))) (by rfl) sc_split_records.nd rfl rfl (sw_true rfl rfl rfl (by decide +kernel)) (pi_enum (by rfl) B.enumerate_ (pa_cons (pv 0) pa_nil)) (blkOk_by (own := [("i", 3), ("word", 4), ("t", 5), ("n", 6)]) (N := N_split_records) (sc := defScope s_split_records) (by decide +kernel)) (fun _ _ _ _ _ => (pg_tup rfl (pgs_cons (pg_name (i := 3) sc_split_records.nd rfl (Or.inl rfl)) (pgs_cons (pg_tup rfl (pgs_cons (pg_name (i := 4) sc_split_records.nd rfl (Or.inl rfl)) (pgs_cons (pg_name (i := 5) sc_split_records.nd rfl (Or.inl rfl)) (pgs_cons (pg_name (i := 6) sc_split_records.nd rfl (Or.inl rfl)) pgs_nil)))) pgs_nil)))) (fun _ _ _ _ _ => (pts_one (pt_cmpR op_eq (pv 4) pe_str (nomark _)))) (fun _ _ _ _ _ => (pe_tup (pa_cons (pv 3) (pa_cons (pv 5) (pa_cons (pv 6) pa_nil))))))
    (pss_cons (ps_setLc (i := 2) (own := [("j", 7), ("word", 4), ("u", 8), ("m", 9)]) (g := (gTup K 2 (gCons (gName 7) (gCons (gTup K 3 (gCons (gName 4) (gCons (gName 8) (gCons (gName 9) gNil)))) gNil)))) (by rfl) sc_split_records.nd rfl rfl (sw_true rfl rfl rfl (by decide +kernel)) (pi_enum (by rfl) B.enumerate_ (pa_cons (pv 0) pa_nil)) (blkOk_by (own := [("j", 7), ("word", 4), ("u", 8), ("m", 9)]) (N := N_split_records) (sc := defScope s_split_records) (by decide +kernel)) (fun _ _ _ _ _ => (pg_tup rfl (pgs_cons (pg_name (i := 7) sc_split_records.nd rfl (Or.inl rfl)) (pgs_cons (pg_tup rfl (pgs_cons (pg_name (i := 4) sc_split_records.nd rfl (Or.inl rfl)) (pgs_cons (pg_name (i := 8) sc_split_records.nd rfl (Or.inl rfl)) (pgs_cons (pg_name (i := 9) sc_split_records.nd rfl (Or.inl rfl)) pgs_nil)))) pgs_nil)))) (fun _ _ _ _ _ => (pts_one (pt_cmpR op_eq (pv 4) pe_str (nomark _)))) (fun _ _ _ _ _ => (pe_tup (pa_cons (pv 7) (pa_cons (pv 8) (pa_cons (pv 9) pa_nil))))))
    (pss_one (ps_ret (pe_tup (pa_cons (pv 1) (pa_cons (pv 2) pa_nil))))))), ?_⟩
    refine ⟨_, rfl, L, _, rfl, SqL.of eL, fun A nA => ?_⟩
    refine lc_it (walk_enum (K := K) (a := L) (xs := xs)) (fun i H' => ∃ as, H' A = some (.lst as) ∧ Obs trO H' as (sel true 0 (ds.take i)) ∧ Same H H') ⟨_, upd_same, .nil, sm_upd nA⟩ ?_ ?_ ?_
    · rintro i H1 _ ⟨_, _, _, s1⟩
      exact SqL.of (s1 _ _ eL)
    · rintro i v H1 H2 hi ⟨as, eA, oA, s1⟩ ⟨T, x, y, rfl, nT, rfl, hx, hy⟩
      cases hx
      obtain ⟨r, d, rfl, er, hd⟩ := hO.at hy
      have z := sm_upd (o := .tup [.int (i : Nat), .ref r]) nT
      have s2 := s1.trans z
      have al : as.length < sizeLine := by
        have h1 := oA.len
        have h2 := sel_len true 0 (ds.take i)
        rw [List.length_take] at h2
        exact small1000 (by omega)
      refine ⟨T, _, rfl, SqT.of upd_same, rfl, _, _, rfl, _, _, rfl, r, _, rfl, SqT.of (s2 _ _ er), rfl, _, _, rfl, _, _, rfl, _, _, rfl, rfl, rfl, ?_⟩
      refine ⟨rfl, _, rfl, rfl, _, rfl, ?_⟩
      rw [w_lo]
      cases hb : d.lo with
      | true =>
        refine iteT ⟨_, rfl, _, rfl, _, rfl, len10 (by simp), fun t nt => ?_⟩
        have z2 := sm_upd (o := .tup [.int (i : Nat), .int d.t, .int d.n]) nt
        have nA2 : t ≠ A := (ne_of_none (z _ _ eA) nt).symm
        refine ⟨as, z2 _ _ (z _ _ eA), al, _, upd_same, ?_, ?_⟩
        · rw [sel_take hd, if_pos hb]
          refine Obs.snoc (Obs.keep ((oA.same z).same z2) fun b d' e => ?_) ?_
          · rw [upd_ne (ne_of e (z2 _ _ (z _ _ eA)) (by intro q; cases q))]
            exact e
          · rw [upd_ne nA2]
            exact upd_same
        · intro b o e
          rw [upd_ne (ne_of_none e nA)]
          exact z2 _ _ (s2 _ _ e)
      | false =>
        refine iteF ⟨as, z _ _ eA, ?_, s2⟩
        rw [sel_take hd, if_neg (by rw [hb]; exact Bool.false_ne_true), List.append_nil]
        exact oA.same z
    rintro H1 ⟨as, eA, oA, s1⟩
    rw [List.take_of_length_le (by rw [hO.len]; exact Nat.le_refl _)] at oA
    refine ⟨_, rfl, L, _, rfl, SqL.of (s1 _ _ eL), fun B2 nB => ?_⟩
    refine lc_it (walk_enum (K := K) (a := L) (xs := xs)) (fun i H' => ∃ bs, H' B2 = some (.lst bs) ∧ Obs trO H' bs (sel false 0 (ds.take i)) ∧ Same H1 H') ⟨_, upd_same, .nil, sm_upd nB⟩ ?_ ?_ ?_
    · rintro i H2 _ ⟨_, _, _, s2⟩
      exact SqL.of (s2 _ _ (s1 _ _ eL))
    · rintro i v H2 H3 hi ⟨bs, eB, oB, s2⟩ ⟨T, x, y, rfl, nT, rfl, hx, hy⟩
      cases hx
      obtain ⟨r, d, rfl, er, hd⟩ := hO.at hy
      have z := sm_upd (o := .tup [.int (i : Nat), .ref r]) nT
      have s3 := s2.trans z
      have al : bs.length < sizeLine := by
        have h1 := oB.len
        have h2 := sel_len false 0 (ds.take i)
        rw [List.length_take] at h2
        exact small1000 (by omega)
      refine ⟨T, _, rfl, SqT.of upd_same, rfl, _, _, rfl, _, _, rfl, r, _, rfl, SqT.of (s3 _ _ (s1 _ _ er)), rfl, _, _, rfl, _, _, rfl, _, _, rfl, rfl, rfl, ?_⟩
      refine ⟨rfl, _, rfl, rfl, _, rfl, ?_⟩
      rw [w_hi]
      cases hb : d.lo with
      | false =>
        refine iteT ⟨_, rfl, _, rfl, _, rfl, len10 (by simp), fun t nt => ?_⟩
        have z2 := sm_upd (o := .tup [.int (i : Nat), .int d.t, .int d.n]) nt
        have nB2 : t ≠ B2 := (ne_of_none (z _ _ eB) nt).symm
        refine ⟨bs, z2 _ _ (z _ _ eB), al, _, upd_same, ?_, ?_⟩
        · rw [sel_take hd, if_pos hb]
          refine Obs.snoc (Obs.keep ((oB.same z).same z2) fun b d' e => ?_) ?_
          · rw [upd_ne (ne_of e (z2 _ _ (z _ _ eB)) (by intro q; cases q))]
            exact e
          · rw [upd_ne nB2]
            exact upd_same
        · intro b o e
          rw [upd_ne (ne_of_none e nB)]
          exact z2 _ _ (s3 _ _ e)
      | true =>
        refine iteF ⟨bs, z _ _ eB, ?_, s3⟩
        rw [sel_take hd, if_neg (by rw [hb]; exact fun q => Bool.false_ne_true q.symm), List.append_nil]
        exact oB.same z
    rintro H2 ⟨bs, eB, oB, s2⟩
    rw [List.take_of_length_le (by rw [hO.len]; exact Nat.le_refl _)] at oB
    refine ⟨_, rfl, _, rfl, len10 (by simp), fun T nT => ?_⟩
    have z := sm_upd (o := .tup [.ref A, .ref B2]) nT
    exact kk T _ A B2 as bs ((s1.trans s2).trans z) upd_same (z _ _ (s2 _ _ eA)) ((oA.same s2).same z) (z _ _ eB) (oB.same z)
end
end Lf
namespace Lf
open PySem PySem.Spec PyProof.Rows L2
/-! ### checks of integers: any value -/
def atLeast (l : Int) : PyData → Bool
  | .int i => decide (l ≤ i)
  | _ => false
theorem isI_b {d : PyData} (h : isI d = true) : isIB d = true ∧ isB d = false := by
  cases d <;> first | exact ⟨rfl, rfl⟩ | cases h
section
variable {P : Program} {w : World} {K : PySem.W.Frag} {mg : Str → Option Value} {base : Heap} {C : Addr}
def spIsAny : Sp := fun vs H Q _ => ∃ (v : V) (d : PyData), vs = [v] ∧ Dv H v d ∧ Q (.bl (isI d)) H
theorem okA_is_integer (D : Df K mg "is_integer" s_is_integer P_is_integer) (B : Bi mg) : C8.Cal P w K mg base 1 "is_integer" spIsAny [] := by
  refine cal_of D sc_is_integer (fun vs H Q E h => ?_) (fun f cdv A outer s H vs Q E hr h => ?_)
  · obtain ⟨v, d, rfl, _⟩ := h
    rfl
  · obtain ⟨v, d, rfl, dv, q⟩ := h
    refine ⟨_, (pss_one (ps_ret (pe_and (pe_callB (call_isi) (by rfl) B.isinstance_ bt_isinstance (pa_cons (pv 0) (pa_cons (pe_bltn (v := .ty "int") (by rfl) B.int_ bt_int rfl) pa_nil))) (pe_one (pe_not (pe_callB (call_isi) (by rfl) B.isinstance_ bt_isinstance (pa_cons (pv 0) (pa_cons (pe_bltn (v := .ty "bool") (by rfl) B.bool_ bt_bool rfl) pa_nil)))))))), ?_⟩
    refine ⟨_, rfl, _, _, _, _, isIB d, rfl, .ty "int", dv.ty, kit_ty (kit_int d), isIB d, rfl, ?_⟩
    by_cases hb : isIB d = true
    · rw [if_pos hb]
      refine ⟨_, rfl, _, _, _, _, isB d, rfl, .ty "bool", dv.ty, kit_ty (kit_bool d), isB d, rfl, ?_⟩
      have e : (!isB d) = isI d := by
        cases d <;> first | rfl | cases hb
      rw [e]
      exact q
    · rw [if_neg hb]
      have e : isI d = false := by
        cases d <;> first | rfl | exact absurd rfl hb
      rw [e] at q
      exact q
/-- InvalidNumber, with the value -/
def Out (C : Addr) (v : V) (H : Hp) (E : XK) : Prop := ∀ dd, H dd = none → E (.ref C) (some dd) (upd H dd (.xd [("value", v)]))
def spCkI (C : Addr) : Sp := fun vs H Q E => ∃ (v : V) (d : PyData), vs = [v] ∧ Dv H v d ∧ (isI d = true → Q .non H) ∧ (isI d = false → Out C v H E)
def spCkL (C : Addr) : Sp := fun vs H Q E => ∃ (v : V) (d : PyData) (l : Int), vs = [v, .int l] ∧ Dv H v d ∧ (atLeast l d = true → Q .non H) ∧ (atLeast l d = false → Out C v H E)
end
end Lf
namespace Lf
open PySem PySem.Spec PyProof.Rows L2
/-! ### records: any value -/
/-- x in a tuple whose items are data of any depth -/
def rInDT (K : PySem.W.Frag) : R2 := fun x y H Q => ∃ d ds, Dp K H x d ∧ Dp K H y (.tuple ds) ∧ SeqAt.shaped d = true ∧ SeqAt.shaped (.tuple ds) = true ∧ Q (.bl (ds.any fun z => PyData.eqv z d)) H
theorem op_inDT {X : Cx} (hu : X.A.units + 65 < cLine) : OpR X (compareOp .In) (rInDT X.K) := by
  intro pins s σ H x y v u Q I rx ry h
  obtain ⟨d, ds, hd, he, sd, se, q⟩ := h
  obtain ⟨as, r1⟩ := Dp.reads I d x v hd rx
  obtain ⟨bs, r2⟩ := Dp.reads I (.tuple ds) y u he ry
  exact SeqAt.in_tuple_reads r2 r1 (SeqAt.canLay_of_shaped se) (SeqAt.canLay_of_shaped sd) (room_in_shaped sd hu) ⟨.bl _, H, I, rfl, q⟩
mutual
theorem Dv.dp {K : PySem.W.Frag} {H : Hp} : ∀ (d : PyData) (v : V), Dv H v d → d.hasDict = false → Dp K H v d
  | .none, _, .non, _ => .non
  | .bool _, _, .bl b, _ => .bl b
  | .int _, _, .int i, _ => .int i
  | .str _, _, .str x, _ => .str x
  | .list ds, _, .lst _ h hs, n => .lst (SqL.of h) (Dv.dpAll ds _ hs (by simpa [PyData.hasDict] using n))
  | .tuple ds, _, .tup h hs, n => .tup (SqT.of h) (Dv.dpAll ds _ hs (by simpa [PyData.hasDict] using n))
  | .dict [], _, .dk0 h, n => by simp [PyData.hasDict] at n
  | .dict [(.str _, d)], _, .dk1 h h2, n => by simp [PyData.hasDict] at n
theorem Dv.dpAll {K : PySem.W.Frag} {H : Hp} : ∀ (ds : List PyData) (vs : List V), DvAll H vs ds → PyData.hasDictAll ds = false → DpAll K H vs ds
  | [], _, .nil, _ => .nil
  | d :: ds, _, .cons h hs, n => by
    have n : d.hasDict = false ∧ PyData.hasDictAll ds = false := by simpa [PyData.hasDictAll] using n
    exact .cons (Dv.dp d _ h n.1) (Dv.dpAll ds _ hs n.2)
end
def words : List PyData := [.str "at least", .str "at most"]
def recB : PyData → Bool
  | .tuple [d0, d1, d2] => words.any (fun z => PyData.eqv z d0) && (isI d1 && isI d2)
  | _ => false
/-- its first part may be looked for -/
def rgB : PyData → Bool
  | .tuple [d0, _, _] => !d0.hasDict && SeqAt.shaped d0
  | _ => true
theorem rec_three {ds : List PyData} (h : ds.length ≠ 3) : recB (.tuple ds) = false := by
  match ds, h with
  | [], _ => rfl
  | [_], _ => rfl
  | [_, _], _ => rfl
  | [_, _, _], h => exact absurd rfl h
  | _ :: _ :: _ :: _ :: _, _ => rfl
theorem len_ne3 {n : Nat} (h : n ≠ 3) : (!decide (V.int (n : Int) = V.int 3)) = true := by
  have : ¬ V.int (n : Int) = V.int 3 := fun z => h (by
    have := V.int.inj z
    omega)
  rw [decide_eq_false this]
  rfl
def isT' : PyData → Bool
  | .tuple _ => true
  | _ => false
theorem kit_tup' (d : PyData) : kitB (tyN d) "tuple" = some (isT' d) := by
  cases d
  · show kitB "NoneType" "tuple" = some false; decide +kernel
  · show kitB "bool" "tuple" = some false; decide +kernel
  · show kitB "int" "tuple" = some false; decide +kernel
  · show kitB "str" "tuple" = some false; decide +kernel
  · show kitB "list" "tuple" = some false; decide +kernel
  · show kitB "tuple" "tuple" = some true; decide +kernel
  · show kitB "dict" "tuple" = some false; decide +kernel
theorem dva_length {H : Hp} {vs : List V} {ds : List PyData} (h : DvAll H vs ds) : vs.length = ds.length := by
  induction ds generalizing vs with
  | nil =>
    cases h
    rfl
  | cons d ds ih =>
    cases h with
    | cons _ h2 => rw [List.length_cons, List.length_cons, ih h2]
/-- the exception, with what it keeps -/
def OutY (C : Addr) (x : Str) (v : V) (H : Hp) (E : XK) : Prop := ∀ dd, H dd = none → E (.ref C) (some dd) (upd H dd (.xd [(x, v)]))
def opp (d : Rec) : Rec := ⟨!d.lo, d.t, if d.lo = true then d.n - 1 else d.n + 1⟩
section
variable {P : Program} {w : World} {K : PySem.W.Frag} {mg : Str → Option Value} {base : Heap} {C : Addr}
def spIsRecD : Sp := fun vs H Q _ => ∃ (v : V) (d : PyData), vs = [v] ∧ Dv H v d ∧ rgB d = true ∧ ∀ H', Same H H' → Q (.bl (recB d)) H'
theorem okA_is_record (D : Df K mg "is_record" s_is_record P_is_record) (B : Bi mg) (cA_is_integer : C8.Cal P w K mg base 1 "is_integer" spIsAny []) : C8.Cal P w K mg base 2 "is_record" spIsRecD [] := by
  refine cal_of D sc_is_record (fun vs H Q E h => ?_) (fun f cdv A outer s H vs Q E hr h => ?_)
  · obtain ⟨v, d, rfl, _⟩ := h
    rfl
  · obtain ⟨v, d, rfl, dv, rg, kk⟩ := h
    have c_is_integer := cA_is_integer
    have hu : (A.deeper (envOfC "is_record" (defScope s_is_record) s.heap.objs.size f cdv)).units + 65 < cLine := by
      have := hr.un
      omega
    refine ⟨_, (pss_cons (ps_if (PW.pt (pw_or (pt_not (pt_val (pe_callB (call_isi) (by rfl) B.isinstance_ bt_isinstance (pa_cons (pv 0) (pa_cons (pe_bltn (v := .ty "tuple") (by rfl) B.tuple_ bt_tuple rfl) pa_nil))))) (pw_or1 (pt_cmpR op_ne (pe_callB (call_len_seq) (by rfl) B.len_ bt_len (pa_cons (pv 0) pa_nil)) pe_int (nomark _)))))
      (pss_one (ps_ret pe_bl))
      pss_nil)
    (pss_one (ps_ret (pe_and (pe_cmpR (op_inDT hu) (pe_ix (r := rIxT K) ix_tup (pv 0) pe_int (fun _ _ => rfl)) (pe_tup (pa_cons pe_str (pa_cons pe_str pa_nil))) rfl) (pe_and (C8.pe_c c_is_integer hr (by decide) (by rfl) (pa_cons (pe_ix (r := rIxT K) ix_tup (pv 0) pe_int (fun _ _ => rfl)) pa_nil)) (pe_one (C8.pe_c c_is_integer hr (by decide) (by rfl) (pa_cons (pe_ix (r := rIxT K) ix_tup (pv 0) pe_int (fun _ _ => rfl)) pa_nil)))))))), ?_⟩
    refine ⟨_, rfl, _, _, _, _, isT' d, rfl, .ty "tuple", dv.ty, kit_ty (kit_tup' d), isT' d, rfl, ?_⟩
    cases ht : isT' d with
    | false =>
      have e : recB d = false := by
        cases d <;> first | rfl | cases ht
      rw [e] at kk
      exact iteT (iteT (kk _ (Same.refl _)))
    | true =>
      cases dv with
      | tup er hs =>
        rename_i r xs ds
        refine iteF ⟨_, rfl, r, _, rfl, .inr (SqT.of er), rfl, _, rfl, ?_⟩
        have hl := dva_length hs
        by_cases h3 : xs.length = 3
        · match xs, ds, hs, h3, hl with
          | [v0, v1, v2], [d0, d1, d2], hs, _, _ =>
            cases hs with
            | cons g0 hs =>
              cases hs with
              | cons g1 hs =>
                cases hs with
                | cons g2 hs =>
                  have rg : (!d0.hasDict && SeqAt.shaped d0) = true := rg
                  rw [Bool.and_eq_true] at rg
                  have nd : d0.hasDict = false := by
                    have := rg.1
                    cases h : d0.hasDict with
                    | false => rfl
                    | true =>
                      rw [h] at this
                      cases this
                  refine iteNS rfl ?_
                  refine ⟨_, rfl, r, _, _, _, rfl, rfl, SqT.of er, atI_nat (j := 0) rfl, len10 (by simp), fun p np => ?_⟩
                  have z := sm_upd (o := .tup [.str "at least", .str "at most"]) np
                  have er1 := z _ _ er
                  have kz := (Fr.same z).kp
                  refine ⟨d0, words, Dv.dp d0 _ (Dv.kp kz _ _ g0) nd, Dp.tup (SqT.of upd_same) (.cons (.str _) (.cons (.str _) .nil)), rg.2, by decide +kernel, _, rfl, ?_⟩
                  have kk : ∀ H', Same H H' → Q (.bl (words.any (fun z => PyData.eqv z d0) && (isI d1 && isI d2))) H' := kk
                  cases c0 : words.any (fun z => PyData.eqv z d0) with
                  | false =>
                    rw [c0] at kk
                    exact iteF (kk _ z)
                  | true =>
                    rw [c0] at kk
                    refine iteT ⟨_, rfl, r, _, _, _, rfl, rfl, SqT.of er1, atI_nat (j := 1) rfl, v1, d1, rfl, Dv.kp kz _ _ g1, isI d1, rfl, ?_⟩
                    cases c1 : isI d1 with
                    | false =>
                      rw [c1] at kk
                      exact iteF (kk _ z)
                    | true =>
                      rw [c1] at kk
                      refine iteT ⟨_, rfl, r, _, _, _, rfl, rfl, SqT.of er1, atI_nat (j := 2) rfl, v2, d2, rfl, Dv.kp kz _ _ g2, ?_⟩
                      exact kk _ z
        · rw [rec_three (by omega)] at kk
          exact iteTs (len_ne3 h3) (kk _ (Same.refl _))
      | _ => cases ht
/-! ### opposite -/
def spOpp : Sp := fun vs H Q _ => ∃ (r : Addr) (d : Rec), vs = [.ref r] ∧ H r = some (rcO d) ∧ ∀ e H', Same H H' → H' e = some (rcO (opp d)) → Q (.ref e) H'
abbrev s_opposite : Stmt := topS 35
abbrev N_opposite : List Str := ["record", "word", "time", "number"]
abbrev P_opposite : List Str := ["record"]
theorem sc_opposite : FnScope N_opposite P_opposite (defScope s_opposite) := ⟨rfl, rfl, rfl, by decide +kernel, rfl, by decide +kernel, by decide +kernel⟩
theorem ok_opposite (D : Df K mg "opposite" s_opposite P_opposite) (c_is_record : C8.Cal P w K mg base 2 "is_record" spIsRec []) : C8.Cal P w K mg base 3 "opposite" spOpp [] := by
  refine cal_of D sc_opposite (fun vs H Q E h => ?_) (fun f cdv A outer s H vs Q E hr h => ?_)
  · obtain ⟨r, d, rfl, _⟩ := h
    rfl
  · obtain ⟨r, d, rfl, er, kk⟩ := h
    refine ⟨_, (pss_cons (ps_if (pt_not (pt_val (C8.pe_c c_is_record hr (by decide) (by rfl) (pa_cons (pv 0) pa_nil))))
      (pss_one ps_never)
      pss_nil)
    (pss_cons (ps_asg (pv 0) (pg_tup rfl (pgs_cons (pg_name (i := 1) sc_opposite.nd rfl (Or.inl rfl)) (pgs_cons (pg_name (i := 2) sc_opposite.nd rfl (Or.inl rfl)) (pgs_cons (pg_name (i := 3) sc_opposite.nd rfl (Or.inl rfl)) pgs_nil)))))
    (pss_cons (ps_if (pt_cmpR op_eq (pv 1) pe_str (nomark _))
      (pss_one (ps_ret (pe_tup (pa_cons pe_str (pa_cons (pv 2) (pa_cons (pe_op op_sub (pv 3) pe_int) pa_nil))))))
      pss_nil)
    (pss_one (ps_ret (pe_tup (pa_cons pe_str (pa_cons (pv 2) (pa_cons (pe_op op_add (pv 3) pe_int) pa_nil))))))))), ?_⟩
    refine ⟨_, rfl, r, d, rfl, er, fun H1 s1 => ⟨true, rfl, iteF ?_⟩⟩
    refine ⟨_, rfl, r, _, rfl, SqT.of (s1 _ _ er), rfl, _, _, rfl, _, _, rfl, _, _, rfl, rfl, ?_⟩
    refine ⟨_, rfl, rfl, _, rfl, ?_⟩
    rw [w_lo]
    obtain ⟨lo, t, n⟩ := d
    cases lo with
    | true =>
      refine iteT ⟨_, rfl, _, rfl, _, _, rfl, rfl, len10 (by simp), fun e ne => ?_⟩
      exact kk e _ (s1.trans (sm_upd ne)) upd_same
    | false =>
      refine iteF ⟨_, rfl, _, rfl, _, _, rfl, rfl, len10 (by simp), fun e ne => ?_⟩
      exact kk e _ (s1.trans (sm_upd ne)) upd_same
def spOppX (C : Addr) : Sp := fun vs H _ E => ∃ (v : V) (d : PyData), vs = [v] ∧ Dv H v d ∧ rgB d = true ∧ recB d = false ∧ ∀ H', Same H H' → OutY C "index" (.int 0) H' E
theorem okx_opposite (D : Df K mg "opposite" s_opposite P_opposite) (T : ValC P K mg C "InvalidRecord" "index") (cA_is_record : C8.Cal P w K mg base 2 "is_record" spIsRecD []) : CalX P w K mg base 3 "opposite" (spOppX C) := by
  refine calx_of D sc_opposite (fun vs H Q E h => ?_) (fun f cdv A outer s H vs Q E hr h => ?_)
  · obtain ⟨v, d, rfl, _⟩ := h
    rfl
  · obtain ⟨v, d, rfl, dv, rg, rb, he⟩ := h
    have c_is_record := cA_is_record
    refine ⟨_, (pss_cons (ps_if (pt_not (pt_val (C8.pe_c c_is_record hr (by decide) (by rfl) (pa_cons (pv 0) pa_nil))))
      (pss_one (ps_raise rfl (takes_of rfl rfl rfl rfl) (pmk_val T hr (by decide) rfl pe_int)))
      pss_nil)
    (pss_cons (ps_asg (pv 0) (pg_tup rfl (pgs_cons (pg_name (i := 1) sc_opposite.nd rfl (Or.inl rfl)) (pgs_cons (pg_name (i := 2) sc_opposite.nd rfl (Or.inl rfl)) (pgs_cons (pg_name (i := 3) sc_opposite.nd rfl (Or.inl rfl)) pgs_nil)))))
    (pss_cons (ps_if (pt_cmpR op_eq (pv 1) pe_str (nomark _))
      (pss_one (ps_ret (pe_tup (pa_cons pe_str (pa_cons (pv 2) (pa_cons (pe_op op_sub (pv 3) pe_int) pa_nil))))))
      pss_nil)
    (pss_one (ps_ret (pe_tup (pa_cons pe_str (pa_cons (pv 2) (pa_cons (pe_op op_add (pv 3) pe_int) pa_nil))))))))), ?_⟩
    refine ⟨_, rfl, v, d, rfl, dv, rg, fun H1 s1 => ⟨recB d, rfl, ?_⟩⟩
    rw [rb]
    exact iteT (mkv (he H1 s1))
end
/-- n.x of an exception that a name keeps -/
theorem pe_xk {Y : Cx} {a C : Addr} {oe : Obj} {cls : Value} {d : Option Addr} {e : Expr} {te : TE} {pos : Pos} {n : Str} (T : XfC Y.K C) (hno : PySem.W.findIn Y.K (.ref C) n = some none)
    (hz : Zc cls d oe) (hf : ∃ vs, oe.data = .fields vs) (hin : (a, oe) ∈ Y.pn) (he : PE Y e te) (hb : attributeBase e n Y.env (eval e Y.env) = eval e Y.env := by rfl) : PE Y (.Attribute e n pos) (tXf a cls d C n te) := by
  constructor
  intro pins s σ H Q I h
  refine attr_of hb (thn (he.run pins s σ H _ I h) fun u s1 hh => ?_)
  obtain ⟨x, H1, J1, rx, ex, ec, dd, fs, v, ed, ea, l, q⟩ := hh
  subst ex ec ed
  obtain rfl : u = Value.ref a := rx
  obtain ⟨there, _⟩ := J1.pin (a, oe) (List.mem_append_left _ hin)
  obtain ⟨vs, hd⟩ := hf
  obtain ⟨mA, hns, hr⟩ := (show ObjOk Y.prog Y.w H1 s1.heap dd (.xd fs) from J1.hok dd _ ea)
  obtain ⟨od, ho, hl⟩ := lookIn_ns hns
  obtain ⟨u, hu, ru⟩ := RelO.some_of (v := v) (o := mA n) (by rw [← l]; exact hr n)
  have inst : PySem.W.InstAt s1.heap a oe C (some od) := ⟨there, hz.1, by unfold PySem.W.notCls; rw [hd] <;> rfl, by rw [hz.2]; exact ho⟩
  have found := PySem.W.findObj_own T.hdC hno rfl (by rw [hl, hu])
  exact HandSPX.exc_get J1.kIn inst T.ga T.gg T.exC found (handed_of ru) ⟨v, H1, J1.tok _, ru, q⟩
end Lf
namespace Lf
open PySem PySem.Spec PyProof.Rows L2
/-! ### rates: any value -/
def isT : PyData → Bool
  | .tuple _ => true
  | _ => false
theorem kit_tup (d : PyData) : kitB (tyN d) "tuple" = some (isT d) := by
  cases d
  · show kitB "NoneType" "tuple" = some false; decide +kernel
  · show kitB "bool" "tuple" = some false; decide +kernel
  · show kitB "int" "tuple" = some false; decide +kernel
  · show kitB "str" "tuple" = some false; decide +kernel
  · show kitB "list" "tuple" = some false; decide +kernel
  · show kitB "tuple" "tuple" = some true; decide +kernel
  · show kitB "dict" "tuple" = some false; decide +kernel
def rateD : PyData → Bool
  | .tuple [.int p, .int q] => decide (0 ≤ p) && (decide (1 ≤ q) && decide (V.int (Int.gcd p q : Int) = V.int 1))
  | _ => false
theorem rateD_inv {d : PyData} (h : rateD d = true) : ∃ p q, d = .tuple [.int p, .int q] ∧ 0 ≤ p ∧ 1 ≤ q ∧ Int.gcd p q = 1 := by
  unfold rateD at h
  split at h
  · rename_i p q
    rw [Bool.and_eq_true, Bool.and_eq_true] at h
    have h3 := V.int.inj (of_decide_eq_true h.2.2)
    exact ⟨p, q, rfl, of_decide_eq_true h.1, of_decide_eq_true h.2.1, by omega⟩
  · cases h
theorem dv_rate {H : Hp} {v : V} {p q : Int} (h : Dv H v (.tuple [.int p, .int q])) : ∃ r, v = .ref r ∧ H r = some (tup2 p q) := by
  cases h with
  | tup e hs =>
    cases hs with
    | cons h1 hs =>
      cases hs with
      | cons h2 hs =>
        cases hs
        cases h1
        cases h2
        exact ⟨_, rfl, e⟩
/-- a value's own pair, within bounds, where it is a rate -/
def BR (d : PyData) : Prop := rateD d = true → ∃ p q, d = .tuple [.int p, .int q] ∧ Rt 30 p q
def bad : PyData → Bool
  | .none => false
  | d => !rateD d
def isN : PyData → Bool
  | .none => true
  | _ => false
def pr : PyData → Int × Int
  | .tuple [.int p, .int q] => (p, q)
  | _ => (0, 1)
def due (d1 d2 : PyData) : Option Bool :=
  if bad d1 = true then some true else if bad d2 = true then some false else if isN d2 = true then none
  else if (pr d2).1 * (pr d1).2 ≤ (pr d1).1 * (pr d2).2 then some false else none
theorem dv_non {H : Hp} {v : V} {d : PyData} (h : Dv H v d) : decide (v = .non) = isN d := by
  cases h <;> first | rfl | exact decide_eq_false (by intro z; cases z)
theorem isI_inv {H : Hp} {v : V} {d : PyData} (h : Dv H v d) (hi : isI d = true) : ∃ z, v = .int z ∧ d = .int z := by
  cases h with
  | int z => exact ⟨z, rfl, rfl⟩
  | _ => cases hi
theorem dva_len {H : Hp} {vs : List V} {ds : List PyData} (h : DvAll H vs ds) : vs.length = ds.length := by
  induction ds generalizing vs with
  | nil =>
    cases h
    rfl
  | cons d ds ih =>
    cases h with
    | cons _ h2 => rw [List.length_cons, List.length_cons, ih h2]
theorem rate_two {ds : List PyData} (h : ds.length ≠ 2) : rateD (.tuple ds) = false := by
  unfold rateD
  split
  · rename_i p q e
    cases e
    exact absurd rfl h
  · rfl
theorem rate_i {d0 d1 : PyData} (h : isI d0 = false ∨ isI d1 = false) : rateD (.tuple [d0, d1]) = false := by
  unfold rateD
  split
  · rename_i p q e
    cases e
    rcases h with h | h <;> cases h
  · rfl
theorem len_ne {n : Nat} (h : n ≠ 2) : (!decide (V.int (n : Int) = V.int 2)) = true := by
  have : ¬ V.int (n : Int) = V.int 2 := fun z => h (by
    have := V.int.inj z
    omega)
  rw [decide_eq_false this]
  rfl
section
variable {P : Program} {w : World} {K : PySem.W.Frag} {mg : Str → Option Value} {base : Heap} {C : Addr}
def spIsRateD : Sp := fun vs H Q _ => ∃ (v : V) (d : PyData), vs = [v] ∧ Dv H v d ∧ Q (.bl (rateD d)) H
theorem okA_is_rate (D : Df K mg "is_rate" s_is_rate P_is_rate) (B : Bi mg) (cA_is_integer : C8.Cal P w K mg base 1 "is_integer" spIsAny []) (c_gcd : C8.Cal P w K mg base 1 "gcd" spGcd []) : C8.Cal P w K mg base 2 "is_rate" spIsRateD [] := by
  refine cal_of D sc_is_rate (fun vs H Q E h => ?_) (fun f cdv A outer s H vs Q E hr h => ?_)
  · obtain ⟨v, d, rfl, _⟩ := h
    rfl
  · obtain ⟨v, d, rfl, dv, kk⟩ := h
    have c_is_integer := cA_is_integer
    refine ⟨_, (pss_cons (ps_if (PW.pt (pw_or (pt_not (pt_val (pe_callB (call_isi) (by rfl) B.isinstance_ bt_isinstance (pa_cons (pv 0) (pa_cons (pe_bltn (v := .ty "tuple") (by rfl) B.tuple_ bt_tuple rfl) pa_nil))))) (pw_or1 (pt_cmpR op_ne (pe_callB (call_len_seq) (by rfl) B.len_ bt_len (pa_cons (pv 0) pa_nil)) pe_int (nomark _)))))
      (pss_one (ps_ret pe_bl))
      pss_nil)
    (pss_cons (ps_if (PW.pt (pw_or (pt_not (pt_val (C8.pe_c c_is_integer hr (by decide) (by rfl) (pa_cons (pe_ix (r := rIxT K) ix_tup (pv 0) pe_int (fun _ _ => rfl)) pa_nil)))) (pw_or1 (pt_not (pt_val (C8.pe_c c_is_integer hr (by decide) (by rfl) (pa_cons (pe_ix (r := rIxT K) ix_tup (pv 0) pe_int (fun _ _ => rfl)) pa_nil)))))))
      (pss_one (ps_ret pe_bl))
      pss_nil)
    (pss_one (ps_ret (pe_and (pe_cmpR op_ge (pe_ix (r := rIxT K) ix_tup (pv 0) pe_int (fun _ _ => rfl)) pe_int (nomark _)) (pe_and (pe_cmpR op_ge (pe_ix (r := rIxT K) ix_tup (pv 0) pe_int (fun _ _ => rfl)) pe_int (nomark _)) (pe_one (pe_cmpR op_eq (C8.pe_c c_gcd hr (by decide) (by rfl) (pa_cons (pe_ix (r := rIxT K) ix_tup (pv 0) pe_int (fun _ _ => rfl)) (pa_cons (pe_ix (r := rIxT K) ix_tup (pv 0) pe_int (fun _ _ => rfl)) pa_nil))) pe_int (nomark _))))))))), ?_⟩
    refine ⟨_, rfl, _, _, _, _, isT d, rfl, .ty "tuple", dv.ty, kit_ty (kit_tup d), isT d, rfl, ?_⟩
    cases ht : isT d with
    | false =>
      have e : rateD d = false := by
        cases d <;> first | rfl | cases ht
      rw [e] at kk
      exact iteT (iteT kk)
    | true =>
      cases dv with
      | tup er hs =>
        rename_i r xs ds
        refine iteF ⟨_, rfl, r, _, rfl, .inr (SqT.of er), rfl, _, rfl, ?_⟩
        have hl := dva_len hs
        by_cases h2 : xs.length = 2
        · match xs, ds, hs, h2, hl with
          | [v0, v1], [d0, d1], hs, _, _ =>
            cases hs with
            | cons g0 hs =>
              cases hs with
              | cons g1 hs =>
                refine iteNS rfl ?_
                refine ⟨_, rfl, r, _, _, _, rfl, rfl, SqT.of er, atI_nat (j := 0) rfl, v0, d0, rfl, g0, isI d0, rfl, ?_⟩
                cases i0 : isI d0 with
                | false =>
                  rw [rate_i (.inl i0)] at kk
                  exact iteT (iteT kk)
                | true =>
                  refine iteF ⟨_, rfl, r, _, _, _, rfl, rfl, SqT.of er, atI_nat (j := 1) rfl, v1, d1, rfl, g1, isI d1, rfl, ?_⟩
                  cases i1 : isI d1 with
                  | false =>
                    rw [rate_i (.inr i1)] at kk
                    exact iteT kk
                  | true =>
                    obtain ⟨p, rfl, rfl⟩ := isI_inv g0 i0
                    obtain ⟨q, rfl, rfl⟩ := isI_inv g1 i1
                    have kk : Q (.bl (decide (0 ≤ p) && (decide (1 ≤ q) && decide (V.int (Int.gcd p q : Int) = V.int 1)))) H := kk
                    refine iteF ⟨_, rfl, r, _, _, _, rfl, rfl, SqT.of er, atI_nat (j := 0) rfl, _, _, rfl, rfl, _, rfl, ite2 (fun c => ?_) (fun c => ?_)⟩
                    · have c : p ≥ 0 := of_decide_eq_true c
                      rw [decide_eq_true (show 0 ≤ p from c), Bool.true_and] at kk
                      refine ⟨_, rfl, r, _, _, _, rfl, rfl, SqT.of er, atI_nat (j := 1) rfl, _, _, rfl, rfl, _, rfl, ite2 (fun c2 => ?_) (fun c2 => ?_)⟩
                      · have c2 : q ≥ 1 := of_decide_eq_true c2
                        rw [decide_eq_true (show 1 ≤ q from c2), Bool.true_and] at kk
                        exact ⟨_, rfl, r, _, _, _, rfl, rfl, SqT.of er, atI_nat (j := 0) rfl, _, rfl, r, _, _, _, rfl, rfl, SqT.of er, atI_nat (j := 1) rfl, p, q, rfl, c, by omega, rfl, kk⟩
                      · have c2 : ¬ q ≥ 1 := fun z => c2 (decide_eq_true z)
                        rw [decide_eq_false (show ¬ 1 ≤ q from c2), Bool.false_and] at kk
                        exact kk
                    · have c : ¬ p ≥ 0 := fun z => c (decide_eq_true z)
                      rw [decide_eq_false (show ¬ 0 ≤ p from c), Bool.false_and] at kk
                      exact kk
        · rw [rate_two (by omega)] at kk
          exact iteTs (len_ne h2) kk
      | _ => cases ht
/-- the exception, with the value -/
def OutX (C : Addr) (x : Str) (v : V) (H : Hp) (E : XK) : Prop := ∀ dd, H dd = none → E (.ref C) (some dd) (upd H dd (.xd [(x, v)]))
def spCkRate (C : Addr) : Sp := fun vs H Q E => ∃ (v : V) (d : PyData), vs = [v] ∧ Dv H v d ∧ (rateD d = true → Q .non H) ∧ (rateD d = false → OutX C "value" v H E)
theorem okx_check_rate (D : Df K mg "check_rate" s_check_rate P_check_rate) (T : ValC P K mg C "InvalidRate" "value") (cA_is_rate : C8.Cal P w K mg base 2 "is_rate" spIsRateD []) : CalX P w K mg base 3 "check_rate" (spCkRate C) := by
  refine calx_of D sc_check_rate (fun vs H Q E h => ?_) (fun f cdv A outer s H vs Q E hr h => ?_)
  · obtain ⟨v, d, rfl, _⟩ := h
    rfl
  · obtain ⟨v, d, rfl, dv, hq, he⟩ := h
    have c_is_rate := cA_is_rate
    refine ⟨_, (pss_one (ps_if (pt_not (pt_val (C8.pe_c c_is_rate hr (by decide) (by rfl) (pa_cons (pv 0) pa_nil))))
      (pss_one (ps_raise rfl (takes_of rfl rfl rfl rfl) (pmk_val T hr (by decide) rfl (pv 0))))
      pss_nil)), ?_⟩
    refine ⟨_, rfl, v, d, rfl, dv, rateD d, rfl, ?_⟩
    cases hd : rateD d with
    | true => exact iteF (hq hd)
    | false => exact iteT ⟨_, rfl, mkv (he hd)⟩
end
end Lf
namespace Lf
open PySem PySem.Spec PyProof.Rows L2
def Odp (Pd : PyData → Prop) (H : Hp) (x : V) : Prop := ∃ d, Dv H x d ∧ Pd d
def OdpL (Pd : PyData → Prop) (H : Hp) (xs : List V) : Prop := ∀ x ∈ xs, Odp Pd H x
section
variable {Pd : PyData → Prop} {H H' : Hp} {xs ys : List V}
theorem OdpL.kp (h : OdpL Pd H xs) (f : Kp H H') : OdpL Pd H' xs := fun x hx => by
  obtain ⟨d, h1, h2⟩ := h x hx
  exact ⟨d, Dv.kp f _ _ h1, h2⟩
theorem OdpL.same (h : OdpL Pd H xs) (s : Same H H') : OdpL Pd H' xs := h.kp (Fr.same s).kp
theorem OdpL.snoc {x : V} (h : OdpL Pd H xs) (o : Odp Pd H x) : OdpL Pd H (xs ++ [x]) := fun y hy => by
  rcases List.mem_append.mp hy with hy | hy
  · exact h y hy
  · rw [List.mem_singleton.mp hy]
    exact o
theorem OdpL.app (h : OdpL Pd H xs) (h2 : OdpL Pd H ys) : OdpL Pd H (xs ++ ys) := fun y hy => (List.mem_append.mp hy).elim (h y) (h2 y)
theorem OdpL.nil : OdpL Pd H [] := fun _ z => (nomatch z)
end
def Pd37 (d : PyData) : Prop := rgB d = true ∧ recB d = false
theorem odd_by {d : PyData} (h : (rgB d && !recB d) = true) : Pd37 d := by
  rw [Bool.and_eq_true] at h
  refine ⟨h.1, ?_⟩
  cases e : recB d with
  | false => rfl
  | true =>
    rw [e] at h
    cases h.2
theorem rec_i {d0 d1 d2 : PyData} (h : isI d1 = false ∨ isI d2 = false) : recB (.tuple [d0, d1, d2]) = false := by
  show (words.any (fun z => PyData.eqv z d0) && (isI d1 && isI d2)) = false
  rcases h with h | h <;> rw [h] <;> simp
theorem rec_s {x : Str} {t n : Int} (h : (words.any fun z => PyData.eqv z (.str x)) = false) : recB (.tuple [.str x, .int t, .int n]) = false := by
  show (words.any (fun z => PyData.eqv z (.str x)) && (isI (.int t) && isI (.int n))) = false
  rw [h]
  rfl
theorem rg_w (b : Bool) {d1 d2 : PyData} : rgB (.tuple [.str (wd b), d1, d2]) = true := by
  show (!PyData.hasDict (.str (wd b)) && SeqAt.shaped (.str (wd b))) = true
  cases b <;> decide +kernel
theorem rg_lw (b : Bool) {d1 d2 : PyData} : rgB (.tuple [.list [.str (wd b)], d1, d2]) = true := by
  show (!PyData.hasDict (.list [.str (wd b)]) && SeqAt.shaped (.list [.str (wd b)])) = true
  cases b <;> decide +kernel
theorem mergeK1 {x : Str} {v : V} : mergeK [] [(Sum.inr x, v)] = [(Sum.inr x, v)] := by
  simp [mergeK, putK]
end Lf
namespace Lf
open PySem PySem.Spec PyProof.Rows L2
section
variable {P : Program} {w : World} {K : PySem.W.Frag} {mg : Str → Option Value} {base : Heap}
def spOddR37 : Sp := fun vs H Q _ => ∃ (a : PA) (n : Nat) (r : Addr) (d : Rec), vs = [.ref a, .ref r] ∧ Pen H a n ∧ n < 2 ^ 39 ∧ H r = some (rcO d) ∧ Bd 1900 d.n ∧ ∀ x H', Odp Pd37 H' x → Pen H' a (n + 1) → Fr H H' → Q x H'
abbrev s_l_odd_record : Stmt := topS 53
abbrev N_l_odd_record : List Str := ["_law_pen_here", "_law_record_here", "_law_bound", "_law_time_here", "_law_number", "_law_some"]
abbrev P_l_odd_record : List Str := ["_law_pen_here", "_law_record_here"]
theorem sc_l_odd_record : FnScope N_l_odd_record P_l_odd_record (defScope s_l_odd_record) := ⟨rfl, rfl, rfl, by decide +kernel, rfl, by decide +kernel, by decide +kernel⟩
theorem ok_l_odd_record (D : Df K mg "_law_odd_record" s_l_odd_record P_l_odd_record) (B : Bi mg) (c_l_pick : C8.Cal P w K mg base 2 "_law_pick" spPick []) : C8.Cal P w K mg base 3 "_law_odd_record" spOddR37 [] := by
  refine cal_of D sc_l_odd_record (fun vs H Q E h => ?_) (fun f cdv A outer s H vs Q E hr h => ?_)
  · obtain ⟨a, n, r, d, rfl, _⟩ := h
    rfl
  · obtain ⟨a, n, r, d, rfl, hP, hn, er, bn, kk⟩ := h
    have hlog : d.n.natAbs.log2 < 1920 := (bn.mono (by decide)).log (by decide)
    refine ⟨_, (pss_cons (ps_asg (pv 1) (pg_tup rfl (pgs_cons (pg_name (i := 2) sc_l_odd_record.nd rfl (Or.inl rfl)) (pgs_cons (pg_name (i := 3) sc_l_odd_record.nd rfl (Or.inl rfl)) (pgs_cons (pg_name (i := 4) sc_l_odd_record.nd rfl (Or.inl rfl)) pgs_nil)))))
    (C8.pss_cut (ps_set (i := 5) sc_l_odd_record.nd rfl (Or.inl rfl) (pe_lst1 (pa_cons pe_non (pa_cons pe_bl (pa_cons pe_str (pa_cons (pe_tup (pa_cons (pv 2) (pa_cons (pv 3) pa_nil))) (pa_cons (pe_tup (pa_cons (pv 2) (pa_cons (pv 3) (pa_cons (pv 4) (pa_cons pe_int pa_nil))))) (pa_cons (pe_lst1 (pa_cons (pv 2) (pa_cons (pv 3) (pa_cons (pv 4) pa_nil)))) pa_nil))))))))
    (C8.pss_cut (ps_set (i := 5) sc_l_odd_record.nd rfl (Or.inl rfl) (pe_op op_cat (pv 5) (pe_lst1 (pa_cons (pe_tup (pa_cons (pv 3) (pa_cons (pv 2) (pa_cons (pv 4) pa_nil)))) (pa_cons (pe_tup (pa_cons pe_str (pa_cons (pv 3) (pa_cons (pv 4) pa_nil)))) (pa_cons (pe_tup (pa_cons pe_str (pa_cons (pv 3) (pa_cons (pv 4) pa_nil)))) pa_nil))))))
    (C8.pss_cut (ps_set (i := 5) sc_l_odd_record.nd rfl (Or.inl rfl) (pe_op op_cat (pv 5) (pe_lst1 (pa_cons (pe_tup (pa_cons pe_str (pa_cons (pv 3) (pa_cons (pv 4) pa_nil)))) (pa_cons (pe_tup (pa_cons pe_non (pa_cons (pv 3) (pa_cons (pv 4) pa_nil)))) pa_nil)))))
    (C8.pss_cut (ps_set (i := 5) sc_l_odd_record.nd rfl (Or.inl rfl) (pe_op op_cat (pv 5) (pe_lst1 (pa_cons (pe_tup (pa_cons (pv 2) (pa_cons pe_bl (pa_cons (pv 4) pa_nil)))) (pa_cons (pe_tup (pa_cons (pv 2) (pa_cons (pv 3) (pa_cons pe_bl pa_nil)))) (pa_cons (pe_tup (pa_cons (pv 2) (pa_cons pe_non (pa_cons (pv 4) pa_nil)))) (pa_cons (pe_tup (pa_cons (pv 2) (pa_cons (pv 3) (pa_cons (pe_callTy (call_str_int) (by rfl) B.str_ bt_str (pa_cons (pv 4) pa_nil)) pa_nil)))) (pa_cons pe_dnewK pa_nil))))))))
    (pss_one (ps_ret (C8.pe_c c_l_pick hr (by decide) (by rfl) (pa_cons (pv 0) (pa_cons (pe_op op_cat (pv 5) (pe_lst1 (pa_cons (pe_tup (pa_cons (pv 2) (pa_cons (pe_tup (pa_cons (pv 3) pa_nil)) (pa_cons (pv 4) pa_nil)))) (pa_cons (pe_tup (pa_cons (pe_lst1 (pa_cons (pv 2) pa_nil)) (pa_cons (pv 3) (pa_cons (pv 4) pa_nil)))) (pa_cons (pe_tup pa_nil) (pa_cons pe_int pa_nil)))))) pa_nil)))))))))), ?_⟩
    refine ⟨_, rfl, r, _, rfl, SqT.of er, rfl, _, _, rfl, _, _, rfl, _, _, rfl, rfl, ?_⟩
    refine ⟨fun σ' H' => ∃ (O : Addr) (xs : List V), σ' = [some (.ref a), some (.ref r), some (.str (wd d.lo)), some (.int d.t), some (.int d.n), some (.ref O)] ∧ H' O = some (.lst xs) ∧ OdpL Pd37 H' xs ∧ xs.length = 6 ∧ Same H H', ?_, ?_⟩
    · have s0 := Same.refl H
      have l0 := OdpL.nil (Pd := Pd37) (H := H)
      have l0 := l0.snoc (x := .non) ⟨_, .non, odd_by (by decide +kernel)⟩
      have l0 := l0.snoc (x := .bl true) ⟨_, .bl true, odd_by (by decide +kernel)⟩
      have l0 := l0.snoc (x := .str "at least") ⟨_, .str "at least", odd_by (by decide +kernel)⟩
      refine ⟨_, rfl, _, rfl, len10 (by simp), fun o1 n1 => ?_⟩
      have z1 := sm_upd (o := .tup [.str (wd d.lo), .int d.t]) n1
      have s1 := s0.trans z1
      have l1 := (l0.same z1).snoc (x := .ref o1) ⟨_, .tup upd_same (.cons (.str _) (.cons (.int _) (.nil))), ⟨rfl, rfl⟩⟩
      refine ⟨_, rfl, _, rfl, _, rfl, len10 (by simp), fun o2 n2 => ?_⟩
      have z2 := sm_upd (o := .tup [.str (wd d.lo), .int d.t, .int d.n, .int 0]) n2
      have s2 := s1.trans z2
      have l2 := (l1.same z2).snoc (x := .ref o2) ⟨_, .tup upd_same (.cons (.str _) (.cons (.int _) (.cons (.int _) (.cons (.int 0) (.nil))))), ⟨rfl, rfl⟩⟩
      refine ⟨_, rfl, _, rfl, _, rfl, len10 (by simp), fun o3 n3 m3 => ?_⟩
      have z3 := sm_upd (o := .lst [.str (wd d.lo), .int d.t, .int d.n]) n3
      have s3 := s2.trans z3
      have l3 := (l2.same z3).snoc (x := .ref o3) ⟨_, .lst m3 upd_same (.cons (.str _) (.cons (.int _) (.cons (.int _) (.nil)))), ⟨rfl, rfl⟩⟩
      refine ⟨len10 (by simp), fun O N M => ?_⟩
      have z := sm_upd (o := .lst [.non, .bl true, .str "at least", .ref o1, .ref o2, .ref o3]) N
      exact ⟨O, _, rfl, upd_same, l3.same z, rfl, s3.trans z⟩
    rintro σ' G1 ⟨O1, xs1, rfl, e1, ol1, ln1, sH1⟩
    refine ⟨fun σ' H' => ∃ (O : Addr) (xs : List V), σ' = [some (.ref a), some (.ref r), some (.str (wd d.lo)), some (.int d.t), some (.int d.n), some (.ref O)] ∧ H' O = some (.lst xs) ∧ OdpL Pd37 H' xs ∧ xs.length = 9 ∧ Same H H', ?_, ?_⟩
    · have s0 := Same.refl G1
      have l0 := OdpL.nil (Pd := Pd37) (H := G1)
      refine ⟨_, rfl, ?_⟩
      refine ⟨_, rfl, _, rfl, _, rfl, len10 (by simp), fun o1 n1 => ?_⟩
      have z1 := sm_upd (o := .tup [.int d.t, .str (wd d.lo), .int d.n]) n1
      have s1 := s0.trans z1
      have l1 := (l0.same z1).snoc (x := .ref o1) ⟨_, .tup upd_same (.cons (.int _) (.cons (.str _) (.cons (.int _) (.nil)))), ⟨rfl, rec_i (.inl rfl)⟩⟩
      refine ⟨_, rfl, _, rfl, len10 (by simp), fun o2 n2 => ?_⟩
      have z2 := sm_upd (o := .tup [.str "at  least", .int d.t, .int d.n]) n2
      have s2 := s1.trans z2
      have l2 := (l1.same z2).snoc (x := .ref o2) ⟨_, .tup upd_same (.cons (.str "at  least") (.cons (.int _) (.cons (.int _) (.nil)))), ⟨by show (!false && SeqAt.shaped (.str "at  least")) = true; decide +kernel, rec_s (by decide +kernel)⟩⟩
      refine ⟨_, rfl, _, rfl, len10 (by simp), fun o3 n3 => ?_⟩
      have z3 := sm_upd (o := .tup [.str "At least", .int d.t, .int d.n]) n3
      have s3 := s2.trans z3
      have l3 := (l2.same z3).snoc (x := .ref o3) ⟨_, .tup upd_same (.cons (.str "At least") (.cons (.int _) (.cons (.int _) (.nil)))), ⟨by show (!false && SeqAt.shaped (.str "At least")) = true; decide +kernel, rec_s (by decide +kernel)⟩⟩
      refine ⟨len10 (by simp), fun O N M => ?_⟩
      have z := sm_upd (o := .lst [.ref o1, .ref o2, .ref o3]) N
      have s := s3.trans z
      refine ⟨O1, O, _, _, rfl, rfl, s _ _ e1, upd_same, len10 (by rw [ln1]; show 6 + 3 ≤ 1000; decide), fun O2 N2 => ?_⟩
      have z2 := sm_upd (o := .lst (xs1 ++ [.ref o1, .ref o2, .ref o3])) N2
      refine ⟨O2, _, rfl, upd_same, ?_, by rw [List.length_append, ln1]; rfl, sH1.trans (s.trans z2)⟩
      intro x hx
      rcases List.mem_append.mp hx with hx | hx
      · exact ((ol1.same s).same z2) x hx
      · exact ((l3.same z).same z2) x hx
    rintro σ' G2 ⟨O2, xs2, rfl, e2, ol2, ln2, sH2⟩
    refine ⟨fun σ' H' => ∃ (O : Addr) (xs : List V), σ' = [some (.ref a), some (.ref r), some (.str (wd d.lo)), some (.int d.t), some (.int d.n), some (.ref O)] ∧ H' O = some (.lst xs) ∧ OdpL Pd37 H' xs ∧ xs.length = 11 ∧ Same H H', ?_, ?_⟩
    · have s0 := Same.refl G2
      have l0 := OdpL.nil (Pd := Pd37) (H := G2)
      refine ⟨_, rfl, ?_⟩
      refine ⟨_, rfl, _, rfl, len10 (by simp), fun o1 n1 => ?_⟩
      have z1 := sm_upd (o := .tup [.str "", .int d.t, .int d.n]) n1
      have s1 := s0.trans z1
      have l1 := (l0.same z1).snoc (x := .ref o1) ⟨_, .tup upd_same (.cons (.str "") (.cons (.int _) (.cons (.int _) (.nil)))), ⟨by show (!false && SeqAt.shaped (.str "")) = true; decide +kernel, rec_s (by decide +kernel)⟩⟩
      refine ⟨_, rfl, _, rfl, len10 (by simp), fun o2 n2 => ?_⟩
      have z2 := sm_upd (o := .tup [.non, .int d.t, .int d.n]) n2
      have s2 := s1.trans z2
      have l2 := (l1.same z2).snoc (x := .ref o2) ⟨_, .tup upd_same (.cons (.non) (.cons (.int _) (.cons (.int _) (.nil)))), ⟨rfl, rfl⟩⟩
      refine ⟨len10 (by simp), fun O N M => ?_⟩
      have z := sm_upd (o := .lst [.ref o1, .ref o2]) N
      have s := s2.trans z
      refine ⟨O2, O, _, _, rfl, rfl, s _ _ e2, upd_same, len10 (by rw [ln2]; show 9 + 2 ≤ 1000; decide), fun O2 N2 => ?_⟩
      have z2 := sm_upd (o := .lst (xs2 ++ [.ref o1, .ref o2])) N2
      refine ⟨O2, _, rfl, upd_same, ?_, by rw [List.length_append, ln2]; rfl, sH2.trans (s.trans z2)⟩
      intro x hx
      rcases List.mem_append.mp hx with hx | hx
      · exact ((ol2.same s).same z2) x hx
      · exact ((l2.same z).same z2) x hx
    rintro σ' G3 ⟨O3, xs3, rfl, e3, ol3, ln3, sH3⟩
    refine ⟨fun σ' H' => ∃ (O : Addr) (xs : List V), σ' = [some (.ref a), some (.ref r), some (.str (wd d.lo)), some (.int d.t), some (.int d.n), some (.ref O)] ∧ H' O = some (.lst xs) ∧ OdpL Pd37 H' xs ∧ xs.length = 16 ∧ Same H H', ?_, ?_⟩
    · have s0 := Same.refl G3
      have l0 := OdpL.nil (Pd := Pd37) (H := G3)
      refine ⟨_, rfl, ?_⟩
      refine ⟨_, rfl, _, rfl, len10 (by simp), fun o1 n1 => ?_⟩
      have z1 := sm_upd (o := .tup [.str (wd d.lo), .bl true, .int d.n]) n1
      have s1 := s0.trans z1
      have l1 := (l0.same z1).snoc (x := .ref o1) ⟨_, .tup upd_same (.cons (.str _) (.cons (.bl true) (.cons (.int _) (.nil)))), ⟨rg_w d.lo, rec_i (.inl rfl)⟩⟩
      refine ⟨_, rfl, _, rfl, len10 (by simp), fun o2 n2 => ?_⟩
      have z2 := sm_upd (o := .tup [.str (wd d.lo), .int d.t, .bl false]) n2
      have s2 := s1.trans z2
      have l2 := (l1.same z2).snoc (x := .ref o2) ⟨_, .tup upd_same (.cons (.str _) (.cons (.int _) (.cons (.bl false) (.nil)))), ⟨rg_w d.lo, rec_i (.inr rfl)⟩⟩
      refine ⟨_, rfl, _, rfl, len10 (by simp), fun o3 n3 => ?_⟩
      have z3 := sm_upd (o := .tup [.str (wd d.lo), .non, .int d.n]) n3
      have s3 := s2.trans z3
      have l3 := (l2.same z3).snoc (x := .ref o3) ⟨_, .tup upd_same (.cons (.str _) (.cons (.non) (.cons (.int _) (.nil)))), ⟨rg_w d.lo, rec_i (.inl rfl)⟩⟩
      refine ⟨_, rfl, _, rfl, _, rfl, _, rfl, hlog, len10 (by simp), fun o4 n4 => ?_⟩
      have z4 := sm_upd (o := .tup [.str (wd d.lo), .int d.t, .str (toString d.n)]) n4
      have s4 := s3.trans z4
      have l4 := (l3.same z4).snoc (x := .ref o4) ⟨_, .tup upd_same (.cons (.str _) (.cons (.int _) (.cons (.str _) (.nil)))), ⟨rg_w d.lo, rec_i (.inr rfl)⟩⟩
      refine fun o5 n5 => ?_
      have z5 := sm_upd (o := .dK []) n5
      have s5 := s4.trans z5
      have l5 := (l4.same z5).snoc (x := .ref o5) ⟨_, .dk0 upd_same, odd_by (by decide +kernel)⟩
      refine ⟨len10 (by simp), fun O N M => ?_⟩
      have z := sm_upd (o := .lst [.ref o1, .ref o2, .ref o3, .ref o4, .ref o5]) N
      have s := s5.trans z
      refine ⟨O3, O, _, _, rfl, rfl, s _ _ e3, upd_same, len10 (by rw [ln3]; show 11 + 5 ≤ 1000; decide), fun O2 N2 => ?_⟩
      have z2 := sm_upd (o := .lst (xs3 ++ [.ref o1, .ref o2, .ref o3, .ref o4, .ref o5])) N2
      refine ⟨O2, _, rfl, upd_same, ?_, by rw [List.length_append, ln3]; rfl, sH3.trans (s.trans z2)⟩
      intro x hx
      rcases List.mem_append.mp hx with hx | hx
      · exact ((ol3.same s).same z2) x hx
      · exact ((l5.same z).same z2) x hx
    rintro σ' G4 ⟨O4, xs4, rfl, e4, ol4, ln4, sH4⟩
    have s0 := Same.refl G4
    have l0 := OdpL.nil (Pd := Pd37) (H := G4)
    refine ⟨_, rfl, _, rfl, ?_⟩
    refine ⟨_, rfl, _, rfl, len10 (by simp), fun o1 n1 => ?_⟩
    have z1 := sm_upd (o := .tup [.int d.t]) n1
    have s1 := s0.trans z1
    have l1 := l0.same z1
    refine ⟨_, rfl, len10 (by simp), fun o2 n2 => ?_⟩
    have z2 := sm_upd (o := .tup [.str (wd d.lo), .ref o1, .int d.n]) n2
    have s2 := s1.trans z2
    have l2 := (l1.same z2).snoc (x := .ref o2) ⟨_, .tup upd_same (.cons (.str _) (.cons (.tup (z2 _ _ upd_same) (.cons (.int _) .nil)) (.cons (.int _) (.nil)))), ⟨rg_w d.lo, rec_i (.inl rfl)⟩⟩
    refine ⟨_, rfl, len10 (by simp), fun o3 n3 m3 => ?_⟩
    have z3 := sm_upd (o := .lst [.str (wd d.lo)]) n3
    have s3 := s2.trans z3
    have l3 := l2.same z3
    refine ⟨_, rfl, _, rfl, len10 (by simp), fun o4 n4 => ?_⟩
    have z4 := sm_upd (o := .tup [.ref o3, .int d.t, .int d.n]) n4
    have s4 := s3.trans z4
    have l4 := (l3.same z4).snoc (x := .ref o4) ⟨_, .tup upd_same (.cons (.lst m3 (z4 _ _ upd_same) (.cons (.str _) .nil)) (.cons (.int _) (.cons (.int _) (.nil)))), ⟨rg_lw d.lo, rfl⟩⟩
    refine ⟨Nat.zero_le _, fun o5 n5 => ?_⟩
    have z5 := sm_upd (o := .tup []) n5
    have s5 := s4.trans z5
    have l5 := (l4.same z5).snoc (x := .ref o5) ⟨_, .tup upd_same (.nil), odd_by (by decide +kernel)⟩
    have l5 := l5.snoc (x := .int 7) ⟨_, .int 7, odd_by (by decide +kernel)⟩
    refine ⟨len10 (by simp), fun O N M => ?_⟩
    have z := sm_upd (o := .lst [.ref o2, .ref o4, .ref o5, .int 7]) N
    have s := s5.trans z
    refine ⟨O4, O, _, _, rfl, rfl, s _ _ e4, upd_same, len10 (by rw [ln4]; show 16 + 4 ≤ 1000; decide), fun O2 N2 => ?_⟩
    have z2 := sm_upd (o := .lst (xs4 ++ [.ref o2, .ref o4, .ref o5, .int 7])) N2
    have ol : OdpL Pd37 _ (xs4 ++ [.ref o2, .ref o4, .ref o5, .int 7]) := ((ol4.same s).same z2).app ((l5.same z).same z2)
    have sF := sH4.trans (s.trans z2)
    refine ⟨a, O2, _, _, rfl, hP.same sF, by omega, upd_same, (fun e => by have := congrArg List.length e; rw [List.length_append, ln4] at this; cases this), by rw [List.length_append, ln4]; show 16 + 4 ≤ 1000; decide, fun x H' hx hP' f' => ?_⟩
    exact kk x H' ((ol.kp f'.kp) x hx) hP' ((Fr.same sF).trans f')
end
end Lf
namespace Lf
open PySem PySem.Spec PyProof.Rows L2
theorem at_in {xs : List V} {d : Int} (h0 : 0 ≤ d) (h1 : d < (xs.length : Int)) : ∃ x, atI xs d = some x ∧ x ∈ xs := by
  obtain ⟨j, rfl⟩ := Int.eq_ofNat_of_zero_le h0
  have hj : j < xs.length := by omega
  exact ⟨_, atI_nat (List.getElem?_eq_getElem hj), List.getElem_mem hj⟩
section
variable {P : Program} {w : World} {K : PySem.W.Frag} {mg : Str → Option Value} {base : Heap}
/-! ### _law_far, _law_rule, _law_count, _law_time, _law_record -/
def spFar : Sp := fun vs H Q _ => ∃ (a : PA) (n : Nat) (dg : Int) (m : Nat), vs = [.ref a, .int dg] ∧ Pen H a n ∧ n < 2 ^ 39 ∧ dg / 6 = (m : Int) ∧ 1 ≤ m ∧ m ≤ 60 ∧
  ∀ z H', Bd (20 * m) z → Pen H' a (n + m + 2) → Fr H H' → Q (.int z) H'
abbrev s_l_far : Stmt := topS 43
abbrev N_l_far : List Str := ["_law_pen_here", "_law_digits", "_law_number", "_law_k"]
abbrev P_l_far : List Str := ["_law_pen_here", "_law_digits"]
theorem sc_l_far : FnScope N_l_far P_l_far (defScope s_l_far) := ⟨rfl, rfl, rfl, by decide +kernel, rfl, by decide +kernel, by decide +kernel⟩
theorem ok_l_far (D : Df K mg "_law_far" s_l_far P_l_far) (B : Bi mg) (c_l_draw : C8.Cal P w K mg base 1 "_law_draw" spDraw []) : C8.Cal P w K mg base 2 "_law_far" spFar [] := by
  refine cal_of D sc_l_far (fun vs H Q E h => ?_) (fun f cdv A outer s H vs Q E hr h => ?_)
  · obtain ⟨a, n, dg, m, rfl, _⟩ := h
    rfl
  · obtain ⟨a, n, dg, m, rfl, hP, hn, hm, m1, m40, q⟩ := h
    refine ⟨_, (pss_cons (ps_set (i := 2) sc_l_far.nd rfl (Or.inl rfl) pe_int)
    (pss_cons (ps_for PassesOwn.never rfl (pi_range1 rfl B.range_ (pa_cons (C8.pe_c c_l_draw hr (by decide) (by rfl) (pa_cons (pv 0) (pa_cons (pe_op op_add (pe_op op_fdiv (pv 1) pe_int) pe_int) pa_nil))) pa_nil)) (pg_name (i := 3) sc_l_far.nd rfl (Or.inl rfl))
      (pss_one (ps_set (i := 2) sc_l_far.nd rfl (Or.inl rfl) (pe_op op_add (pe_op op_mul (pv 2) (pe_op op_pow pe_int pe_int)) (C8.pe_c c_l_draw hr (by decide) (by rfl) (pa_cons (pv 0) (pa_cons (pe_op op_pow pe_int pe_int) pa_nil)))))))
    (pss_one (ps_ret (pe_ix (r := rIxL K) ix_list (pe_lst (pa_cons (pv 2) (pa_cons (pe_op op_sub pe_int (pv 2)) pa_nil))) (C8.pe_c c_l_draw hr (by decide) (by rfl) (pa_cons (pv 0) (pa_cons pe_int pa_nil))) (fun _ _ => rfl)))))), ?_⟩
    refine ⟨_, rfl, _, rfl, _, _, rfl, rfl, ⟨by decide, by decide⟩, _, _, rfl, rfl, a, n, _, rfl, hP, by omega, by omega, Bd.small 20 (by omega) (by decide), fun dd H1 d0 d1 hP1 f1 => ?_⟩
    refine ⟨_, rfl, by omega, by omega, ?_⟩
    refine for_range (lo := 0) (n := dd.toNat) (fun i σ H2 => ∃ (r : Int) (y : Option V), σ = [some (.ref a), some (.int dg), some (.int r), y] ∧ 0 ≤ r ∧ Bd (20 * i) r ∧ Pen H2 a (n + 1 + i) ∧ Fr H H2) ?_ ?_ ?_
    · exact ⟨0, none, rfl, by omega, by show (0 : Int).natAbs < 2 ^ 0; decide, hP1, f1⟩
    · rintro i σ H2 hi ⟨r, y, rfl, r0, rb, hP2, f2⟩
      refine ⟨_, rfl, _, _, rfl, rfl, ⟨by decide, by decide, by decide⟩, _, _, rfl, rfl, .inr ⟨by decide, by decide⟩, _, rfl, _, _, rfl, rfl, ⟨by decide, by decide, by decide⟩, a, _, _, rfl, hP2, by omega, by decide, Bd.small 20 (by decide) (by decide), fun e H3 e0 e1 hP3 f3 => ?_⟩
      refine ⟨_, _, rfl, rfl, ?_⟩
      refine ⟨_, _, rfl, ?_, ?_, hP3, f2.trans f3⟩
      · have : (0 : Int) ≤ 10 ^ (6 : Int).toNat := by decide
        have := Int.mul_nonneg r0 this
        omega
      · exact Bd.grow r0 rb e0 e1
    · rintro σ H2 ⟨r, y, rfl, r0, rb, hP2, f2⟩
      have rm : Bd (20 * m) r := rb.mono (by omega)
      refine ⟨_, rfl, _, rfl, _, _, rfl, rfl, len10 (by simp), fun l nl => ?_⟩
      refine ⟨_, rfl, a, _, _, rfl, hP2.new nl, by omega, by decide, Bd.small 20 (by decide) (by decide), fun d H3 d20 d21 hP3 f3 => ?_⟩
      have el := f3.l _ _ (upd_same (H := H2) (a := l) (o := .lst [.int r, .int (0 - r)]))
      obtain ⟨x, hx, mx⟩ := at_in (xs := [.int r, .int (0 - r)]) d20 (by show d < 2; omega)
      refine ⟨l, _, _, _, rfl, rfl, SqL.of el, hx, ?_⟩
      have fF : Fr H H3 := f2.trans ((Fr.new nl).trans f3)
      simp only [List.mem_cons, List.not_mem_nil, or_false] at mx
      rcases mx with rfl | rfl
      · exact q _ _ rm (hP3.mono (by omega)) fF
      · exact q _ _ (by rw [Int.zero_sub]; exact rm.neg) (hP3.mono (by omega)) fF
theorem absB {k : Nat} {z : Int} (h : Bd k z) : 0 ≤ (if z < 0 then -z else z) ∧ Bd k (if z < 0 then -z else z) := by
  by_cases c : z < 0
  · rw [if_pos c]
    exact ⟨by omega, h.neg⟩
  · rw [if_neg c]
    exact ⟨by omega, h⟩
def spRule30 : Sp := fun vs H Q _ => ∃ (a : PA) (n : Nat) (dg : Int) (m : Nat), vs = [.ref a, .int dg] ∧ Pen H a n ∧ n < 2 ^ 38 ∧ dg / 6 = (m : Int) ∧ 2 ≤ m ∧ m ≤ 20 ∧
  ∀ r H' p q c, RuleB (20 * m + 4) p q c → H' r = some (.tup [.int p, .int q, .int c]) → Pen H' a (n + 100) → Fr H H' → Q (.ref r) H'
abbrev s_l_rule : Stmt := topS 45
abbrev N_l_rule : List Str := ["_law_pen_here", "_law_digits", "_law_road", "_law_q", "_law_p", "_law_divisor", "_law_c"]
abbrev P_l_rule : List Str := ["_law_pen_here", "_law_digits"]
theorem sc_l_rule : FnScope N_l_rule P_l_rule (defScope s_l_rule) := ⟨rfl, rfl, rfl, by decide +kernel, rfl, by decide +kernel, by decide +kernel⟩
theorem ok_l_rule (D : Df K mg "_law_rule" s_l_rule P_l_rule) (B : Bi mg) (c_l_draw : C8.Cal P w K mg base 1 "_law_draw" spDraw []) (c_l_far : C8.Cal P w K mg base 2 "_law_far" spFar []) (c_l_gcd : C8.Cal P w K mg base 1 "_law_gcd" spGcd []) : C8.Cal P w K mg base 3 "_law_rule" spRule30 [] := by
  refine cal_of D sc_l_rule (fun vs H Q E h => ?_) (fun f cdv A outer s H vs Q E hr h => ?_)
  · obtain ⟨a, n, dg, m, rfl, _⟩ := h
    rfl
  · obtain ⟨a, n, dg, m, rfl, hP, hn, hm, m1, m20, kk⟩ := h
    refine ⟨_, (pss_cons (ps_set (i := 2) sc_l_rule.nd rfl (Or.inl rfl) (C8.pe_c c_l_draw hr (by decide) (by rfl) (pa_cons (pv 0) (pa_cons pe_int pa_nil))))
    (C8.pss_cut (ps_set (i := 3) sc_l_rule.nd rfl (Or.inl rfl) (pe_op op_add pe_int (pe_ix (r := rIxL K) ix_list (pe_lst (pa_cons (C8.pe_c c_l_draw hr (by decide) (by rfl) (pa_cons (pv 0) (pa_cons pe_int pa_nil))) (pa_cons (C8.pe_c c_l_draw hr (by decide) (by rfl) (pa_cons (pv 0) (pa_cons pe_int pa_nil))) (pa_cons (C8.pe_c c_l_draw hr (by decide) (by rfl) (pa_cons (pv 0) (pa_cons (pe_op op_pow pe_int pe_int) pa_nil))) (pa_cons (pe_callB (call_abs) (by rfl) B.abs_ bt_abs (pa_cons (C8.pe_c c_l_far hr (by decide) (by rfl) (pa_cons (pv 0) (pa_cons (pv 1) pa_nil))) pa_nil)) pa_nil))))) (pv 2) (fun _ _ => rfl))))
    (C8.pss_cut (ps_set (i := 4) sc_l_rule.nd rfl (Or.inl rfl) (pe_ix (r := rIxL K) ix_list (pe_lst (pa_cons (C8.pe_c c_l_draw hr (by decide) (by rfl) (pa_cons (pv 0) (pa_cons (pe_op op_add (pe_op op_mul pe_int (pv 3)) pe_int) pa_nil))) (pa_cons (C8.pe_c c_l_draw hr (by decide) (by rfl) (pa_cons (pv 0) (pa_cons pe_int pa_nil))) (pa_cons (pe_callB (call_abs) (by rfl) B.abs_ bt_abs (pa_cons (C8.pe_c c_l_far hr (by decide) (by rfl) (pa_cons (pv 0) (pa_cons (pv 1) pa_nil))) pa_nil)) pa_nil)))) (C8.pe_c c_l_draw hr (by decide) (by rfl) (pa_cons (pv 0) (pa_cons pe_int pa_nil))) (fun _ _ => rfl)))
    (pss_cons (ps_set (i := 5) sc_l_rule.nd rfl (Or.inl rfl) (C8.pe_c c_l_gcd hr (by decide) (by rfl) (pa_cons (pv 4) (pa_cons (pv 3) pa_nil))))
    (C8.pss_cut (ps_set (i := 6) sc_l_rule.nd rfl (Or.inl rfl) (pe_ix (r := rIxL K) ix_list (pe_lst (pa_cons (pe_op op_sub (C8.pe_c c_l_draw hr (by decide) (by rfl) (pa_cons (pv 0) (pa_cons pe_int pa_nil))) pe_int) (pa_cons (C8.pe_c c_l_far hr (by decide) (by rfl) (pa_cons (pv 0) (pa_cons (pv 1) pa_nil))) pa_nil))) (C8.pe_c c_l_draw hr (by decide) (by rfl) (pa_cons (pv 0) (pa_cons pe_int pa_nil))) (fun _ _ => rfl)))
    (pss_one (ps_ret (pe_tup (pa_cons (pe_op op_fdivW (pv 4) (pv 5)) (pa_cons (pe_op op_fdivW (pv 3) (pv 5)) (pa_cons (pv 6) pa_nil))))))))))), ?_⟩
    have sB : ∀ {x : Int}, x.natAbs < 2 ^ 20 → Bd (20 * m) x := fun h => Bd.small 20 h (by omega)
    -- road, q
    refine ⟨_, rfl, a, _, _, rfl, hP, by omega, by decide, Bd.small 20 (by decide) (by decide), fun rd H1 r0 r1 hP1 f1 => ?_⟩
    refine ⟨fun σ' H' => ∃ q : Int, σ' = [some (.ref a), some (.int dg), some (.int rd), some (.int q), none, none, none] ∧ 1 ≤ q ∧ Bd (20 * m + 1) q ∧ Pen H' a (n + 30) ∧ Fr H H', ?_, ?_⟩
    · refine ⟨_, rfl, a, _, _, rfl, hP1, by omega, by decide, Bd.small 20 (by decide) (by decide), fun e1 H2 e10 e11 hP2 f2 => ?_⟩
      refine ⟨_, rfl, a, _, _, rfl, hP2, by omega, by decide, Bd.small 20 (by decide) (by decide), fun e2 H3 e20 e21 hP3 f3 => ?_⟩
      refine ⟨_, rfl, _, _, rfl, rfl, ⟨by decide, by decide, by decide⟩, a, _, _, rfl, hP3, by omega, by decide, Bd.small 20 (by decide) (by decide), fun e3 H4 e30 e31 hP4 f4 => ?_⟩
      refine ⟨_, rfl, _, rfl, a, _, dg, m, rfl, hP4, by omega, hm, by omega, by omega, fun z H5 bz hP5 f5 => ?_⟩
      obtain ⟨z0, zb⟩ := absB bz
      refine ⟨_, rfl, ?_⟩
      have e31 : e3 < 1000000 := e31
      generalize (if z < 0 then -z else z) = z' at z0 zb
      refine ⟨len10 (by simp), fun l nl => ?_⟩
      obtain ⟨x, hx, mx⟩ := at_in (xs := [.int e1, .int e2, .int e3, .int z']) r0 (by show rd < 4; omega)
      refine ⟨_, rfl, l, _, _, _, rfl, rfl, SqL.of upd_same, hx, ?_⟩
      obtain ⟨v, rfl, v0, vb⟩ : ∃ v, x = V.int v ∧ 0 ≤ v ∧ Bd (20 * m) v := by
        simp only [List.mem_cons, List.not_mem_nil, or_false] at mx
        rcases mx with rfl | rfl | rfl | rfl
        · exact ⟨_, rfl, by omega, sB (by omega)⟩
        · exact ⟨_, rfl, by omega, sB (by omega)⟩
        · exact ⟨_, rfl, by omega, sB (by omega)⟩
        · exact ⟨_, rfl, z0, zb⟩
      refine ⟨_, _, rfl, rfl, ?_⟩
      exact ⟨_, rfl, by omega, Bd.add (sB (by decide)) vb, (hP5.new nl).mono (by omega), f1.trans (f2.trans (f3.trans (f4.trans (f5.trans (Fr.new nl)))))⟩
    rintro σ H2 ⟨q, rfl, q1, qb, hP2, f2⟩
    -- p
    refine ⟨fun σ' H' => ∃ p : Int, σ' = [some (.ref a), some (.int dg), some (.int rd), some (.int q), some (.int p), none, none] ∧ 0 ≤ p ∧ Bd (20 * m + 4) p ∧ Pen H' a (n + 60) ∧ Fr H H', ?_, ?_⟩
    · have b3 : Bd (20 * m + 3) (3 * q) := by
        rw [show 3 * q = q + q + q by omega]
        exact Bd.add (Bd.add qb qb) (qb.mono (by omega))
      have b31 : Bd (20 * m + 4) (3 * q + 1) := Bd.add b3 (Bd.small 1 (by decide) (by omega))
      refine ⟨_, rfl, _, rfl, _, _, rfl, rfl, .inl ⟨by decide, by decide⟩, _, _, rfl, rfl, a, _, _, rfl, hP2, by omega, by omega, b31.mono (by omega), fun e1 H3 e10 e11 hP3 f3 => ?_⟩
      refine ⟨_, rfl, a, _, _, rfl, hP3, by omega, by decide, Bd.small 20 (by decide) (by decide), fun e2 H4 e20 e21 hP4 f4 => ?_⟩
      refine ⟨_, rfl, _, rfl, a, _, dg, m, rfl, hP4, by omega, hm, by omega, by omega, fun z H5 bz hP5 f5 => ?_⟩
      obtain ⟨z0, zb⟩ := absB bz
      refine ⟨_, rfl, ?_⟩
      generalize (if z < 0 then -z else z) = z' at z0 zb
      refine ⟨len10 (by simp), fun l nl => ?_⟩
      refine ⟨_, rfl, a, _, _, rfl, hP5.new nl, by omega, by decide, Bd.small 20 (by decide) (by decide), fun d H6 d0 d1 hP6 f6 => ?_⟩
      have el := f6.l _ _ (upd_same (H := H5) (a := l) (o := .lst [.int e1, .int e2, .int z']))
      obtain ⟨x, hx, mx⟩ := at_in (xs := [.int e1, .int e2, .int z']) d0 (by show d < 3; omega)
      refine ⟨l, _, _, _, rfl, rfl, SqL.of el, hx, ?_⟩
      obtain ⟨v, rfl, v0, vb⟩ : ∃ v, x = V.int v ∧ 0 ≤ v ∧ Bd (20 * m + 4) v := by
        simp only [List.mem_cons, List.not_mem_nil, or_false] at mx
        rcases mx with rfl | rfl | rfl
        · exact ⟨_, rfl, by omega, b31.between (by omega) (by omega)⟩
        · exact ⟨_, rfl, by omega, (sB (by omega)).mono (by omega)⟩
        · exact ⟨_, rfl, z0, zb.mono (by omega)⟩
      exact ⟨_, rfl, v0, vb, hP6.mono (by omega), f2.trans (f3.trans (f4.trans (f5.trans ((Fr.new nl).trans f6))))⟩
    rintro σ H3 ⟨p, rfl, p0, pb, hP3, f3⟩
    -- divisor, c
    refine ⟨_, rfl, _, rfl, p, q, rfl, p0, by omega, ?_⟩
    have hg := gcd_pos (p := p) q1
    have hgl := gcd_le (p := p) q1
    have hcop : Int.gcd (p / (Int.gcd p q : Int)) (q / (Int.gcd p q : Int)) = 1 := Int.gcd_ediv_gcd_ediv_gcd (by omega)
    have hq1 : 1 ≤ q / (Int.gcd p q : Int) := Int.le_ediv_of_mul_le hg (by rw [Int.one_mul]; exact hgl)
    have gb : Bd (20 * m + 1) (Int.gcd p q : Int) := qb.between (by omega) hgl
    generalize (Int.gcd p q : Int) = g at hg hgl hcop hq1 gb
    refine ⟨fun σ' H' => ∃ c : Int, σ' = [some (.ref a), some (.int dg), some (.int rd), some (.int q), some (.int p), some (.int g), some (.int c)] ∧ Bd (20 * m + 4) c ∧ Pen H' a (n + 100) ∧ Fr H H', ?_, ?_⟩
    · refine ⟨_, rfl, a, _, _, rfl, hP3, by omega, by decide, Bd.small 20 (by decide) (by decide), fun e1 H4 e10 e11 hP4 f4 => ?_⟩
      refine ⟨_, _, rfl, rfl, _, rfl, _, rfl, a, _, dg, m, rfl, hP4, by omega, hm, by omega, by omega, fun z H5 bz hP5 f5 => ?_⟩
      refine ⟨len10 (by simp), fun l nl => ?_⟩
      refine ⟨_, rfl, a, _, _, rfl, hP5.new nl, by omega, by decide, Bd.small 20 (by decide) (by decide), fun d H6 d0 d1 hP6 f6 => ?_⟩
      have el := f6.l _ _ (upd_same (H := H5) (a := l) (o := .lst [.int (e1 - 20), .int z]))
      obtain ⟨x, hx, mx⟩ := at_in (xs := [.int (e1 - 20), .int z]) d0 (by show d < 2; omega)
      refine ⟨l, _, _, _, rfl, rfl, SqL.of el, hx, ?_⟩
      obtain ⟨v, rfl, vb⟩ : ∃ v, x = V.int v ∧ Bd (20 * m + 4) v := by
        simp only [List.mem_cons, List.not_mem_nil, or_false] at mx
        rcases mx with rfl | rfl
        · exact ⟨_, rfl, (sB (by omega)).mono (by omega)⟩
        · exact ⟨_, rfl, bz.mono (by omega)⟩
      exact ⟨_, rfl, vb, hP6.mono (by omega), f3.trans (f4.trans (f5.trans ((Fr.new nl).trans f6)))⟩
    rintro σ H4 ⟨c, rfl, cb, hP4, f4⟩
    have hd : CDivW 0 g := ⟨hg, (gb.mono (by omega : 20 * m + 1 ≤ 9000)).log (by decide)⟩
    refine ⟨_, rfl, _, rfl, _, _, rfl, rfl, hd, _, rfl, _, rfl, _, _, rfl, rfl, hd, _, rfl, len10 (by simp), fun r nr => ?_⟩
    exact kk r _ _ _ _ ⟨Int.ediv_nonneg p0 (by omega), hq1, hcop, pb.ediv hg, (qb.ediv hg).mono (by omega), cb⟩ upd_same (hP4.new nr) (f4.trans (Fr.new nr))
def spCount30 : Sp := fun vs H Q _ => ∃ (r : Addr) (p q c t : Int) (k : Nat), vs = [.ref r, .int t] ∧ H r = some (.tup [.int p, .int q, .int c]) ∧ RuleB k p q c ∧ Bd k t ∧ 0 < k ∧ k ≤ 3000 ∧ Q (.int ((p * t + c) / q)) H
abbrev s_l_count : Stmt := topS 46
abbrev N_l_count : List Str := ["_law_rule_here", "_law_time_here"]
abbrev P_l_count : List Str := ["_law_rule_here", "_law_time_here"]
theorem sc_l_count : FnScope N_l_count P_l_count (defScope s_l_count) := ⟨rfl, rfl, rfl, by decide +kernel, rfl, by decide +kernel, by decide +kernel⟩
theorem ok_l_count (D : Df K mg "_law_count" s_l_count P_l_count) : C8.Cal P w K mg base 1 "_law_count" spCount30 [] := by
  refine cal_of D sc_l_count (fun vs H Q E h => ?_) (fun f cdv A outer s H vs Q E hr h => ?_)
  · obtain ⟨r, p, q, c, t, k, rfl, _⟩ := h
    rfl
  · obtain ⟨r, p, q, c, t, k, rfl, er, R, bt, k0, k3, kk⟩ := h
    refine ⟨_, (pss_one (ps_ret (pe_op op_fdivW (pe_op op_add (pe_op op_mulW (pe_ix (r := rIxT K) ix_tup (pv 0) pe_int (fun _ _ => rfl)) (pv 1)) (pe_ix (r := rIxT K) ix_tup (pv 0) pe_int (fun _ _ => rfl))) (pe_ix (r := rIxT K) ix_tup (pv 0) pe_int (fun _ _ => rfl))))), ?_⟩
    refine ⟨_, rfl, r, _, _, _, rfl, rfl, SqT.of er, atI_nat (j := 0) rfl, _, rfl, _, _, rfl, rfl, mulW R.bp bt k0 k0 (by omega), ?_⟩
    refine ⟨_, rfl, r, _, _, _, rfl, rfl, SqT.of er, atI_nat (j := 2) rfl, _, _, rfl, rfl, ?_⟩
    refine ⟨_, rfl, r, _, _, _, rfl, rfl, SqT.of er, atI_nat (j := 1) rfl, _, _, rfl, rfl, divW (by have := R.q1; omega) R.bq (by omega), kk⟩
def spTime30 : Sp := fun vs H Q _ => ∃ (a : PA) (n : Nat) (dg : Int) (m : Nat), vs = [.ref a, .int dg] ∧ Pen H a n ∧ n < 2 ^ 38 ∧ dg / 6 = (m : Int) ∧ 1 ≤ m ∧ m ≤ 60 ∧
  ∀ z H', Bd (20 * m) z → Pen H' a (n + m + 5) → Fr H H' → Q (.int z) H'
abbrev s_l_time : Stmt := topS 48
abbrev N_l_time : List Str := ["_law_pen_here", "_law_digits"]
abbrev P_l_time : List Str := ["_law_pen_here", "_law_digits"]
theorem sc_l_time : FnScope N_l_time P_l_time (defScope s_l_time) := ⟨rfl, rfl, rfl, by decide +kernel, rfl, by decide +kernel, by decide +kernel⟩
theorem ok_l_time (D : Df K mg "_law_time" s_l_time P_l_time) (B : Bi mg) (c_l_draw : C8.Cal P w K mg base 1 "_law_draw" spDraw []) (c_l_far : C8.Cal P w K mg base 2 "_law_far" spFar []) : C8.Cal P w K mg base 3 "_law_time" spTime30 [] := by
  refine cal_of D sc_l_time (fun vs H Q E h => ?_) (fun f cdv A outer s H vs Q E hr h => ?_)
  · obtain ⟨a, n, dg, m, rfl, _⟩ := h
    rfl
  · obtain ⟨a, n, dg, m, rfl, hP, hn, hm, m1, m20, kk⟩ := h
    refine ⟨_, (pss_one (ps_ret (pe_ix (r := rIxL K) ix_list (pe_lst (pa_cons (pe_op op_sub (C8.pe_c c_l_draw hr (by decide) (by rfl) (pa_cons (pv 0) (pa_cons pe_int pa_nil))) pe_int) (pa_cons (pe_op op_sub (C8.pe_c c_l_draw hr (by decide) (by rfl) (pa_cons (pv 0) (pa_cons pe_int pa_nil))) pe_int) (pa_cons (C8.pe_c c_l_far hr (by decide) (by rfl) (pa_cons (pv 0) (pa_cons (pv 1) pa_nil))) pa_nil)))) (C8.pe_c c_l_draw hr (by decide) (by rfl) (pa_cons (pv 0) (pa_cons pe_int pa_nil))) (fun _ _ => rfl)))), ?_⟩
    have sB : ∀ {x : Int}, x.natAbs < 2 ^ 20 → Bd (20 * m) x := fun h => Bd.small 20 h (by omega)
    refine ⟨_, rfl, a, _, _, rfl, hP, by omega, by decide, Bd.small 20 (by decide) (by decide), fun e1 H1 e10 e11 hP1 f1 => ?_⟩
    refine ⟨_, _, rfl, rfl, _, rfl, a, _, _, rfl, hP1, by omega, by decide, Bd.small 20 (by decide) (by decide), fun e2 H2 e20 e21 hP2 f2 => ?_⟩
    refine ⟨_, _, rfl, rfl, _, rfl, _, rfl, a, _, dg, m, rfl, hP2, by omega, hm, by omega, by omega, fun z H3 bz hP3 f3 => ?_⟩
    refine ⟨len10 (by simp), fun l nl => ?_⟩
    refine ⟨_, rfl, a, _, _, rfl, hP3.new nl, by omega, by decide, Bd.small 20 (by decide) (by decide), fun d H4 d0 d1 hP4 f4 => ?_⟩
    have el := f4.l _ _ (upd_same (H := H3) (a := l) (o := .lst [.int (e1 - 4), .int (e2 - 30), .int z]))
    obtain ⟨x, hx, mx⟩ := at_in (xs := [.int (e1 - 4), .int (e2 - 30), .int z]) d0 (by show d < 3; omega)
    refine ⟨l, _, _, _, rfl, rfl, SqL.of el, hx, ?_⟩
    have fF := f1.trans (f2.trans (f3.trans ((Fr.new nl).trans f4)))
    simp only [List.mem_cons, List.not_mem_nil, or_false] at mx
    rcases mx with rfl | rfl | rfl
    · exact kk _ _ (sB (by omega)) (hP4.mono (by omega)) fF
    · exact kk _ _ (sB (by omega)) (hP4.mono (by omega)) fF
    · exact kk _ _ bz (hP4.mono (by omega)) fF
def spRec30 : Sp := fun vs H Q _ => ∃ (a : PA) (n : Nat) (r L : Addr) (p q c : Int) (offs : List Int) (dg : Int) (m k : Nat), vs = [.ref a, .ref r, .ref L, .int dg] ∧ Pen H a n ∧ n < 2 ^ 37 ∧ H r = some (.tup [.int p, .int q, .int c]) ∧ RuleB k p q c ∧
  H L = some (.lst (offs.map V.int)) ∧ offs ≠ [] ∧ offs.length ≤ 1000 ∧ (∀ z ∈ offs, Bd 200 z) ∧ dg / 6 = (m : Int) ∧ 1 ≤ m ∧ m ≤ 60 ∧ 100 ≤ k ∧ 20 * m ≤ k ∧ k ≤ 3000 ∧
  ∀ e H' d o, H' e = some (rcO d) → Bd k d.t → Bd (2 * k + 2) d.n → o ∈ offs → d.n = (p * d.t + c) / q + (if d.lo = true then o else -o) → Pen H' a (n + m + 10) → Fr H H' → Q (.ref e) H'
abbrev s_l_record : Stmt := topS 49
abbrev N_l_record : List Str := ["_law_pen_here", "_law_rule_here", "_law_offs", "_law_digits", "_law_time_here", "_law_off"]
abbrev P_l_record : List Str := ["_law_pen_here", "_law_rule_here", "_law_offs", "_law_digits"]
theorem sc_l_record : FnScope N_l_record P_l_record (defScope s_l_record) := ⟨rfl, rfl, rfl, by decide +kernel, rfl, by decide +kernel, by decide +kernel⟩
theorem ok_l_record (D : Df K mg "_law_record" s_l_record P_l_record) (B : Bi mg) (c_l_draw : C8.Cal P w K mg base 1 "_law_draw" spDraw []) (c_l_pick : C8.Cal P w K mg base 2 "_law_pick" spPick []) (c_l_count : C8.Cal P w K mg base 1 "_law_count" spCount30 []) (c_l_time : C8.Cal P w K mg base 3 "_law_time" spTime30 []) : C8.Cal P w K mg base 4 "_law_record" spRec30 [] := by
  refine cal_of D sc_l_record (fun vs H Q E h => ?_) (fun f cdv A outer s H vs Q E hr h => ?_)
  · obtain ⟨a, n, r, L, p, q, c, offs, dg, m, k, rfl, _⟩ := h
    rfl
  · obtain ⟨a, n, r, L, p, q, c, offs, dg, m, k, rfl, hP, hn, er, R, eL, ho0, hol, hob, hm, m1, m20, k0, km, k3, kk⟩ := h
    refine ⟨_, (pss_cons (ps_par (i := 4) (j := 5) rfl sc_l_record.nd rfl rfl (by decide) rfl rfl (pa_cons (C8.pe_c c_l_time hr (by decide) (by rfl) (pa_cons (pv 0) (pa_cons (pv 3) pa_nil))) (pa_cons (C8.pe_c c_l_pick hr (by decide) (by rfl) (pa_cons (pv 0) (pa_cons (pv 2) pa_nil))) pa_nil)) rfl)
    (pss_cons (ps_if (pt_cmpR op_eq (C8.pe_c c_l_draw hr (by decide) (by rfl) (pa_cons (pv 0) (pa_cons pe_int pa_nil))) pe_int (nomark _))
      (pss_one (ps_ret (pe_tup (pa_cons pe_str (pa_cons (pv 4) (pa_cons (pe_op op_add (C8.pe_c c_l_count hr (by decide) (by rfl) (pa_cons (pv 1) (pa_cons (pv 4) pa_nil))) (pv 5)) pa_nil))))))
      pss_nil)
    (pss_one (ps_ret (pe_tup (pa_cons pe_str (pa_cons (pv 4) (pa_cons (pe_op op_sub (C8.pe_c c_l_count hr (by decide) (by rfl) (pa_cons (pv 1) (pa_cons (pv 4) pa_nil))) (pv 5)) pa_nil)))))))), ?_⟩
    refine ⟨_, rfl, _, rfl, a, n, dg, m, rfl, hP, by omega, hm, m1, m20, fun t H1 bt hP1 f1 => ?_⟩
    refine ⟨_, rfl, _, rfl, a, L, _, _, rfl, hP1, by omega, f1.l _ _ eL, by simpa using ho0, by simpa using hol, fun x H2 hx hP2 f2 => ?_⟩
    obtain ⟨o, ho, rfl⟩ := List.mem_map.mp hx
    have bo := hob o ho
    have bt : Bd k t := bt.mono km
    refine ⟨_, _, rfl, ?_⟩
    refine ⟨_, rfl, a, _, _, rfl, hP2, by omega, by decide, Bd.small 20 (by decide) (by decide), fun d H3 d0 d1 hP3 f3 => ?_⟩
    have fF := f1.trans (f2.trans f3)
    have er3 := fF.t _ _ er
    have bc : Bd (2 * k + 1) ((p * t + c) / q) := Bd.ediv (Bd.add ((Bd.mul R.bp bt).mono (by omega)) (R.bc.mono (by omega))) (by have := R.q1; omega)
    refine ⟨rfl, _, rfl, ite2 (fun _ => ?_) (fun _ => ?_)⟩
    · refine ⟨_, rfl, _, rfl, _, rfl, r, p, q, c, t, k, rfl, er3, R, bt, by omega, by omega, ?_⟩
      refine ⟨_, rfl, _, _, rfl, rfl, len10 (by simp), fun e ne => ?_⟩
      refine kk e _ ⟨true, t, (p * t + c) / q + o⟩ o upd_same bt (Bd.add bc (bo.mono (by omega))) ho rfl ((hP3.new ne).mono (by omega)) (fF.trans (Fr.new ne))
    · refine ⟨_, rfl, _, rfl, _, rfl, r, p, q, c, t, k, rfl, er3, R, bt, by omega, by omega, ?_⟩
      refine ⟨_, rfl, _, _, rfl, rfl, len10 (by simp), fun e ne => ?_⟩
      refine kk e _ ⟨false, t, (p * t + c) / q - o⟩ o upd_same bt (Bd.sub bc (bo.mono (by omega))) ho ?_ ((hP3.new ne).mono (by omega)) (fF.trans (Fr.new ne))
      show (p * t + c) / q - o = (p * t + c) / q + -o
      omega
end
end Lf
namespace Lf
open PySem PySem.Spec PyProof.Rows L2
def rcD (d : Rec) : PyData := .tuple [.str (wd d.lo), .int d.t, .int d.n]
theorem dp_rec {K : PySem.W.Frag} {H : Hp} {r : Addr} {d : Rec} (e : H r = some (rcO d)) : Dp K H (.ref r) (rcD d) := Dp.tup (SqT.of e) (.cons (.str _) (.cons (.int _) (.cons (.int _) .nil)))
theorem dp_recs {K : PySem.W.Frag} {H : Hp} {xs : List V} {ds : List Rec} (h : Obs rcO H xs ds) : DpAll K H xs (ds.map rcD) := by
  induction h with
  | nil => exact .nil
  | cons e _ ih => exact .cons (dp_rec e) ih
theorem sh_recs (ds : List Rec) : SeqAt.shaped (.list (ds.map rcD)) = true := by
  have h : ∀ ds : List Rec, PyData.canLayAll0 (ds.map rcD) = true ∧ PyData.depthAll (ds.map rcD) ≤ 1 := by
    intro cs
    induction cs with
    | nil => exact ⟨rfl, by decide⟩
    | cons c r ih =>
      refine ⟨?_, ?_⟩
      · have hw : PyData.strOk (wd c.lo) = true := by
          cases c.lo <;> decide +kernel
        simpa [PyData.canLayAll0, PyData.canLay0, rcD, hw] using ih.1
      · have := ih.2
        simp only [List.map_cons, PyData.depthAll, rcD, PyData.depth]
        omega
  have h2 : (PyData.list (ds.map rcD)).depth ≤ 64 := by
    have := (h ds).2
    simp only [PyData.depth]
    omega
  show (PyData.canLay0 _ && decide _) = true
  rw [Bool.and_eq_true]
  exact ⟨by simpa [PyData.canLay0] using (h ds).1, decide_eq_true h2⟩
section
variable {P : Program} {w : World} {K : PySem.W.Frag} {mg : Str → Option Value} {base : Heap}
def spRecs30 : Sp := fun vs H Q _ => ∃ (a : PA) (n : Nat) (L : Addr) (mo : Int) (offs : List Int) (dg : Int) (m : Nat), vs = [.ref a, .int mo, .ref L, .int dg] ∧ Pen H a n ∧ n < 2 ^ 36 ∧ 0 ≤ mo ∧ mo ≤ 200 ∧
  H L = some (.lst (offs.map V.int)) ∧ offs ≠ [] ∧ offs.length ≤ 1000 ∧ (∀ z ∈ offs, Bd 200 z) ∧ dg / 6 = (m : Int) ∧ 5 ≤ m ∧ m ≤ 20 ∧
  ∀ F H' xs ds, H' F = some (.lst xs) → Obs rcO H' xs ds → (ds.length : Int) ≤ mo → RcB (40 * m + 10) ds → Pen H' a (n + 10000) → Fr H H' → Q (.ref F) H'
end
end Lf
namespace Lf
open PySem PySem.Spec PyProof.Rows L2
/-! ### check_records, split_records: of a list or a tuple, or refused -/
def isLT : PyData → Bool
  | .list _ => true
  | .tuple _ => true
  | _ => false
theorem kit_ltD {K : PySem.W.Frag} (d : PyData) : PySem.W.kitAny K (.type (tyN d)) [.type "list", .type "tuple"] = some (isLT d) := by
  cases d
  · exact kitAny_cons (b := false) (kit_ty (by show kitB "NoneType" "list" = some false; decide +kernel)) (fun _ => kitAny_cons (b := false) (kit_ty (by show kitB "NoneType" "tuple" = some false; decide +kernel)) (fun _ => rfl) (fun z => by cases z)) (fun z => by cases z)
  · exact kitAny_cons (b := false) (kit_ty (by show kitB "bool" "list" = some false; decide +kernel)) (fun _ => kitAny_cons (b := false) (kit_ty (by show kitB "bool" "tuple" = some false; decide +kernel)) (fun _ => rfl) (fun z => by cases z)) (fun z => by cases z)
  · exact kitAny_cons (b := false) (kit_ty (by show kitB "int" "list" = some false; decide +kernel)) (fun _ => kitAny_cons (b := false) (kit_ty (by show kitB "int" "tuple" = some false; decide +kernel)) (fun _ => rfl) (fun z => by cases z)) (fun z => by cases z)
  · exact kitAny_cons (b := false) (kit_ty (by show kitB "str" "list" = some false; decide +kernel)) (fun _ => kitAny_cons (b := false) (kit_ty (by show kitB "str" "tuple" = some false; decide +kernel)) (fun _ => rfl) (fun z => by cases z)) (fun z => by cases z)
  · exact kit_lt
  · exact kitAny_cons (b := false) (kit_ty (by show kitB "tuple" "list" = some false; decide +kernel)) (fun _ => kitAny_cons (b := true) (kit_ty ktt) (fun z => by cases z) (fun _ => rfl)) (fun z => by cases z)
  · exact kitAny_cons (b := false) (kit_ty (by show kitB "dict" "list" = some false; decide +kernel)) (fun _ => kitAny_cons (b := false) (kit_ty (by show kitB "dict" "tuple" = some false; decide +kernel)) (fun _ => rfl) (fun z => by cases z)) (fun z => by cases z)
def sqN (kb : Bool) : String := if kb = true then "list" else "tuple"
theorem sq_ty {K : PySem.W.Frag} {H : Hp} {a : Addr} {kb : Bool} {xs : List V} (h : H a = some (sqO kb xs)) : TyX K H (.ref a) (.type (sqN kb)) := by
  cases kb
  · exact .base (.tup h)
  · exact .base (.lst h)
theorem kit_sq {K : PySem.W.Frag} (kb : Bool) : PySem.W.kitAny K (.type (sqN kb)) [.type "list", .type "tuple"] = some true := by
  cases kb
  · exact kit_ltD (.tuple [])
  · exact kit_ltD (.list [])
theorem SqB.or {K : PySem.W.Frag} {b : Bool} {H : Hp} {a : Addr} {xs : List V} (h : SqB K b H a xs) : SqL K H a xs ∨ SqT K H a xs := by
  cases b
  · exact .inr h
  · exact .inl h
theorem rec_yes (d : Rec) : recB (rcD d) = true := by
  show (words.any (fun z => PyData.eqv z (.str (wd d.lo))) && true) = true
  cases d.lo <;> decide +kernel
theorem rec_rg (d : Rec) : rgB (rcD d) = true := rg_w d.lo
theorem rec_dvS {H : Hp} {e : Addr} {d : Rec} (h : H e = some (rcO d)) : Dv H (.ref e) (rcD d) := .tup h (.cons (.str _) (.cons (.int _) (.cons (.int _) .nil)))
inductive CkBad (H : Hp) : V → Int → Prop
  | kind {v : V} {d : PyData} : Dv H v d → isLT d = false → CkBad H v (-1)
  | long {a : Addr} {kb : Bool} {xs : List V} : H a = some (sqO kb xs) → 200 < xs.length → CkBad H (.ref a) (-1)
  | item {a : Addr} {kb : Bool} {xs : List V} {ds : List Rec} {x : V} {d : PyData} {i : Nat} : H a = some (sqO kb xs) → xs.length ≤ 200 → Obs rcO H (xs.take i) ds → xs[i]? = some x → Dv H x d → rgB d = true → recB d = false → CkBad H (.ref a) (i : Nat)
section
variable {P : Program} {w : World} {K : PySem.W.Frag} {mg : Str → Option Value} {base : Heap} {C : Addr}
def spCkS : Sp := fun vs H Q _ => ∃ (L : Addr) (kb : Bool) (xs : List V) (ds : List Rec), vs = [.ref L] ∧ H L = some (sqO kb xs) ∧ Obs rcO H xs ds ∧ ds.length ≤ 200 ∧ ∀ H', Same H H' → Q .non H'
theorem okS_check_records (D : Df K mg "check_records" s_check_records P_check_records) (B : Bi mg) (U : Bc mg) (c_is_record : C8.Cal P w K mg base 2 "is_record" spIsRec []) : C8.Cal P w K mg base 3 "check_records" spCkS [] := by
  refine cal_of D sc_check_records (fun vs H Q E h => ?_) (fun f cdv A outer s H vs Q E hr h => ?_)
  · obtain ⟨L, kb, xs, ds, rfl, _⟩ := h
    rfl
  · obtain ⟨L, kb, xs, ds, rfl, eL, hO, hl, kk⟩ := h
    obtain ⟨tM, hc_MOST_RECORDS⟩ := U.most_
    refine ⟨_, (pss_cons (ps_if (PW.pt (pw_or (pt_not (pt_val (pe_callB (call_isiT) (by rfl) B.isinstance_ bt_isinstance (pa_cons (pv 0) (pa_cons (pe_tup (pa_cons (pe_bltn (v := .ty "list") (by rfl) B.list_ bt_list rfl) (pa_cons (pe_bltn (v := .ty "tuple") (by rfl) B.tuple_ bt_tuple rfl) pa_nil))) pa_nil))))) (pw_or1 (pt_cmpR op_gt (pe_callB (call_len_seq) (by rfl) B.len_ bt_len (pa_cons (pv 0) pa_nil)) (pe_glob (v := .int 200) (by rfl) hc_MOST_RECORDS ⟨_, rfl⟩) (nomark _)))))
      (pss_one ps_never)
      pss_nil)
    (pss_one (ps_for PassesOwn.never rfl (pi_enumB (by rfl) B.enumerate_ (pa_cons (pv 0) pa_nil)) (pg_tup rfl (pgs_cons (pg_name (i := 1) sc_check_records.nd rfl (Or.inl rfl)) (pgs_cons (pg_name (i := 2) sc_check_records.nd rfl (Or.inl rfl)) pgs_nil)))
      (pss_one (ps_if (pt_not (pt_val (C8.pe_c c_is_record hr (by decide) (by rfl) (pa_cons (pv 2) pa_nil))))
      (pss_one ps_never)
      pss_nil))))), ?_⟩
    refine ⟨_, rfl, len10 (by simp), fun tp ntp => ?_⟩
    have s1 := sm_upd (o := .tup [.ty "list", .ty "tuple"]) ntp
    refine ⟨_, tp, _, _, _, true, rfl, upd_same, .cons (.ty "list") (.cons (.ty "tuple") .nil), sq_ty (s1 _ _ eL), kit_sq kb, true, rfl, iteF ?_⟩
    refine ⟨_, rfl, L, _, rfl, (SqB.of (s1 _ _ eL)).or, _, _, rfl, rfl, _, rfl, iteDn (by rw [hO.len]; omega) ?_⟩
    generalize upd H tp (.tup [.ty "list", .ty "tuple"]) = H1 at s1
    refine ⟨_, rfl, L, kb, xs, rfl, SqB.of (s1 _ _ eL), ?_⟩
    refine for_it (walk_enumB (K := K) (b := kb) (a := L) (xs := xs)) (fun i σ H' => ∃ (y1 y2 : Option V), σ = [some (.ref L), y1, y2] ∧ Same H H') ⟨_, _, rfl, s1⟩ ?_ ?_ ?_
    · rintro i σ H2 _ ⟨_, _, _, s2⟩
      exact SqB.of (s2 _ _ eL)
    · rintro i v σ H2 H3 hi ⟨y1, y2, rfl, s2⟩ ⟨T, x, y, rfl, nT, rfl, hx, hy⟩
      cases hx
      obtain ⟨r, d, rfl, er, _⟩ := hO.at hy
      have s3 := s2.trans (sm_upd (o := .tup [.int (i : Nat), .ref r]) nT)
      refine ⟨T, _, rfl, SqT.of upd_same, rfl, _, _, rfl, _, _, rfl, rfl, ?_⟩
      refine ⟨_, rfl, r, d, rfl, s3 _ _ er, fun H4 s4 => ⟨true, rfl, iteF ?_⟩⟩
      exact ⟨_, _, rfl, s3.trans s4⟩
    · rintro σ H2 ⟨_, _, rfl, s2⟩
      exact kk _ s2
def spCkX (C : Addr) : Sp := fun vs H _ E => ∃ (v : V) (j : Int), vs = [v] ∧ CkBad H v j ∧ ∀ H', Same H H' → OutY C "index" (.int j) H' E
theorem okx_check_records (D : Df K mg "check_records" s_check_records P_check_records) (T : ValC P K mg C "InvalidRecord" "index") (B : Bi mg) (U : Bc mg) (cA_is_record : C8.Cal P w K mg base 2 "is_record" spIsRecD []) : CalX P w K mg base 3 "check_records" (spCkX C) := by
  refine calx_of D sc_check_records (fun vs H Q E h => ?_) (fun f cdv A outer s H vs Q E hr h => ?_)
  · obtain ⟨v, j, rfl, _⟩ := h
    rfl
  · obtain ⟨v, j, rfl, hb, he⟩ := h
    have c_is_record := cA_is_record
    obtain ⟨tM, hc_MOST_RECORDS⟩ := U.most_
    refine ⟨_, (pss_cons (ps_if (PW.pt (pw_or (pt_not (pt_val (pe_callB (call_isiT) (by rfl) B.isinstance_ bt_isinstance (pa_cons (pv 0) (pa_cons (pe_tup (pa_cons (pe_bltn (v := .ty "list") (by rfl) B.list_ bt_list rfl) (pa_cons (pe_bltn (v := .ty "tuple") (by rfl) B.tuple_ bt_tuple rfl) pa_nil))) pa_nil))))) (pw_or1 (pt_cmpR op_gt (pe_callB (call_len_seq) (by rfl) B.len_ bt_len (pa_cons (pv 0) pa_nil)) (pe_glob (v := .int 200) (by rfl) hc_MOST_RECORDS ⟨_, rfl⟩) (nomark _)))))
      (pss_one (ps_raise rfl (takes_of rfl rfl rfl rfl) (pmk_val T hr (by decide) rfl (pe_un un_neg pe_int))))
      pss_nil)
    (pss_one (ps_for (passes_of rfl) rfl (pi_enumB (by rfl) B.enumerate_ (pa_cons (pv 0) pa_nil)) (pg_tup rfl (pgs_cons (pg_name (i := 1) sc_check_records.nd rfl (Or.inl rfl)) (pgs_cons (pg_name (i := 2) sc_check_records.nd rfl (Or.inl rfl)) pgs_nil)))
      (pss_one (ps_if (pt_not (pt_val (C8.pe_c c_is_record hr (by decide) (by rfl) (pa_cons (pv 2) pa_nil))))
      (pss_one (ps_raise rfl (takes_of rfl rfl rfl rfl) (pmk_val T hr (by decide) rfl (pv 1))))
      pss_nil))))), ?_⟩
    refine ⟨_, rfl, len10 (by simp), fun tp ntp => ?_⟩
    have s1 := sm_upd (o := .tup [.ty "list", .ty "tuple"]) ntp
    cases hb with
    | kind dv ik =>
      rename_i d
      refine ⟨_, tp, _, _, _, isLT d, rfl, upd_same, .cons (.ty "list") (.cons (.ty "tuple") .nil), (Dv.kp (Fr.same s1).kp _ _ dv).ty, kit_ltD d, isLT d, rfl, ?_⟩
      rw [ik]
      exact iteT (iteT ⟨1, rfl, mkv (he _ s1)⟩)
    | long eL hl =>
      rename_i L kb xs
      refine ⟨_, tp, _, _, _, true, rfl, upd_same, .cons (.ty "list") (.cons (.ty "tuple") .nil), sq_ty (s1 _ _ eL), kit_sq kb, true, rfl, iteF ?_⟩
      refine ⟨_, rfl, L, _, rfl, (SqB.of (s1 _ _ eL)).or, _, _, rfl, rfl, _, rfl, iteD (by omega) ?_⟩
      exact ⟨1, rfl, mkv (he _ s1)⟩
    | item eL hl hO hx dx rg rb =>
      rename_i L kb xs ds x d k
      refine ⟨_, tp, _, _, _, true, rfl, upd_same, .cons (.ty "list") (.cons (.ty "tuple") .nil), sq_ty (s1 _ _ eL), kit_sq kb, true, rfl, iteF ?_⟩
      refine ⟨_, rfl, L, _, rfl, (SqB.of (s1 _ _ eL)).or, _, _, rfl, rfl, _, rfl, iteDn (by omega) ?_⟩
      generalize upd H tp (.tup [.ty "list", .ty "tuple"]) = H1 at s1
      have hk : k < xs.length := (List.getElem?_eq_some_iff.mp hx).1
      refine ⟨_, rfl, L, kb, xs, rfl, SqB.of (s1 _ _ eL), ?_⟩
      refine for_it (walk_enumB (K := K) (b := kb) (a := L) (xs := xs)) (fun i σ H' => ∃ (y1 y2 : Option V), σ = [some (.ref L), y1, y2] ∧ Same H H' ∧ i ≤ k) ⟨_, _, rfl, s1, Nat.zero_le _⟩ ?_ ?_ ?_
      · rintro i σ H2 _ ⟨_, _, _, s2, _⟩
        exact SqB.of (s2 _ _ eL)
      · rintro i v σ H2 H3 hi ⟨y1, y2, rfl, s2, ik⟩ ⟨T, x', y, rfl, nT, rfl, hx', hy⟩
        cases hx'
        have s3 := s2.trans (sm_upd (o := .tup [.int (i : Nat), y]) nT)
        refine ⟨T, _, rfl, SqT.of upd_same, rfl, _, _, rfl, _, _, rfl, rfl, ?_⟩
        by_cases hik : i = k
        · subst hik
          have hy : xs[i]? = some y := hy
          rw [hx] at hy
          cases hy
          refine ⟨_, rfl, x, d, rfl, Dv.kp (Fr.same s3).kp _ _ dx, rg, fun H4 s4 => ⟨recB d, rfl, ?_⟩⟩
          rw [rb]
          exact iteT ⟨_, rfl, mkv (he _ (s3.trans s4))⟩
        · have hlt : i < k := by omega
          have hy2 : (xs.take k)[i]? = some y := by
            rw [List.getElem?_take_of_lt hlt]
            exact hy
          obtain ⟨r, d', rfl, er, _⟩ := hO.at hy2
          refine ⟨_, rfl, .ref r, rcD d', rfl, rec_dvS (s3 _ _ er), rec_rg d', fun H4 s4 => ⟨recB (rcD d'), rfl, ?_⟩⟩
          rw [rec_yes]
          exact iteF ⟨_, _, rfl, s3.trans s4, by omega⟩
      · rintro σ H2 ⟨_, _, rfl, s2, ik⟩
        omega
/-! ### split_records -/
def spSplitS : Sp := fun vs H Q _ => ∃ (L : Addr) (kb : Bool) (xs : List V) (ds : List Rec), vs = [.ref L] ∧ H L = some (sqO kb xs) ∧ Obs rcO H xs ds ∧ ds.length ≤ 1000 ∧
  ∀ T H' A B as bs, Same H H' → H' T = some (.tup [.ref A, .ref B]) → H' A = some (.lst as) → Obs trO H' as (sel true 0 ds) → H' B = some (.lst bs) → Obs trO H' bs (sel false 0 ds) → Q (.ref T) H'
theorem okS_split_records (D : Df K mg "split_records" s_split_records P_split_records) (B : Bi mg) : C8.Cal P w K mg base 1 "split_records" spSplitS [] := by
  refine cal_of D sc_split_records (fun vs H Q E h => ?_) (fun f cdv A outer s H vs Q E hr h => ?_)
  · obtain ⟨L, kb, xs, ds, rfl, _⟩ := h
    rfl
  · obtain ⟨L, kb, xs, ds, rfl, eL, hO, hl, kk⟩ := h
    refine ⟨_, (pss_cons (ps_setLc (i := 1) (own := [("i", 3), ("word", 4), ("t", 5), ("n", 6)]) (g := (gTup K 2 (gCons (gName 3) (gCons (gTup K 3 (gCons (gName 4) (gCons (gName 5) (gCons (gName 6) gNil)))) gNil)))) (by rfl) sc_split_records.nd rfl rfl (sw_true rfl rfl rfl (by decide +kernel)) (pi_enumB (by rfl) B.enumerate_ (pa_cons (pv 0) pa_nil)) (blkOk_by (own := [("i", 3), ("word", 4), ("t", 5), ("n", 6)]) (N := N_split_records) (sc := defScope s_split_records) (by decide +kernel)) (fun _ _ _ _ _ => (pg_tup rfl (pgs_cons (pg_name (i := 3) sc_split_records.nd rfl (Or.inl rfl)) (pgs_cons (pg_tup rfl (pgs_cons (pg_name (i := 4) sc_split_records.nd rfl (Or.inl rfl)) (pgs_cons (pg_name (i := 5) sc_split_records.nd rfl (Or.inl rfl)) (pgs_cons (pg_name (i := 6) sc_split_records.nd rfl (Or.inl rfl)) pgs_nil)))) pgs_nil)))) (fun _ _ _ _ _ => (pts_one (pt_cmpR op_eq (pv 4) pe_str (nomark _)))) (fun _ _ _ _ _ => (pe_tup (pa_cons (pv 3) (pa_cons (pv 5) (pa_cons (pv 6) pa_nil))))))
    (pss_cons (ps_setLc (i := 2) (own := [("j", 7), ("word", 4), ("u", 8), ("m", 9)]) (g := (gTup K 2 (gCons (gName 7) (gCons (gTup K 3 (gCons (gName 4) (gCons (gName 8) (gCons (gName 9) gNil)))) gNil)))) (by rfl) sc_split_records.nd rfl rfl (sw_true rfl rfl rfl (by decide +kernel)) (pi_enumB (by rfl) B.enumerate_ (pa_cons (pv 0) pa_nil)) (blkOk_by (own := [("j", 7), ("word", 4), ("u", 8), ("m", 9)]) (N := N_split_records) (sc := defScope s_split_records) (by decide +kernel)) (fun _ _ _ _ _ => (pg_tup rfl (pgs_cons (pg_name (i := 7) sc_split_records.nd rfl (Or.inl rfl)) (pgs_cons (pg_tup rfl (pgs_cons (pg_name (i := 4) sc_split_records.nd rfl (Or.inl rfl)) (pgs_cons (pg_name (i := 8) sc_split_records.nd rfl (Or.inl rfl)) (pgs_cons (pg_name (i := 9) sc_split_records.nd rfl (Or.inl rfl)) pgs_nil)))) pgs_nil)))) (fun _ _ _ _ _ => (pts_one (pt_cmpR op_eq (pv 4) pe_str (nomark _)))) (fun _ _ _ _ _ => (pe_tup (pa_cons (pv 7) (pa_cons (pv 8) (pa_cons (pv 9) pa_nil))))))
    (pss_one (ps_ret (pe_tup (pa_cons (pv 1) (pa_cons (pv 2) pa_nil))))))), ?_⟩
    refine ⟨_, rfl, L, kb, xs, rfl, SqB.of eL, fun A nA => ?_⟩
    refine lc_it (walk_enumB (K := K) (b := kb) (a := L) (xs := xs)) (fun i H' => ∃ as, H' A = some (.lst as) ∧ Obs trO H' as (sel true 0 (ds.take i)) ∧ Same H H') ⟨_, upd_same, .nil, sm_upd nA⟩ ?_ ?_ ?_
    · rintro i H1 _ ⟨_, _, _, s1⟩
      exact SqB.of (s1 _ _ eL)
    · rintro i v H1 H2 hi ⟨as, eA, oA, s1⟩ ⟨T, x, y, rfl, nT, rfl, hx, hy⟩
      cases hx
      obtain ⟨r, d, rfl, er, hd⟩ := hO.at hy
      have z := sm_upd (o := .tup [.int (i : Nat), .ref r]) nT
      have s2 := s1.trans z
      have al : as.length < sizeLine := by
        have h1 := oA.len
        have h2 := sel_len true 0 (ds.take i)
        rw [List.length_take] at h2
        exact small1000 (by omega)
      refine ⟨T, _, rfl, SqT.of upd_same, rfl, _, _, rfl, _, _, rfl, r, _, rfl, SqT.of (s2 _ _ er), rfl, _, _, rfl, _, _, rfl, _, _, rfl, rfl, rfl, ?_⟩
      refine ⟨rfl, _, rfl, rfl, _, rfl, ?_⟩
      rw [w_lo]
      cases hb : d.lo with
      | true =>
        refine iteT ⟨_, rfl, _, rfl, _, rfl, len10 (by simp), fun t nt => ?_⟩
        have z2 := sm_upd (o := .tup [.int (i : Nat), .int d.t, .int d.n]) nt
        have nA2 : t ≠ A := (ne_of_none (z _ _ eA) nt).symm
        refine ⟨as, z2 _ _ (z _ _ eA), al, _, upd_same, ?_, ?_⟩
        · rw [sel_take hd, if_pos hb]
          refine Obs.snoc (Obs.keep ((oA.same z).same z2) fun b d' e => ?_) ?_
          · rw [upd_ne (ne_of e (z2 _ _ (z _ _ eA)) (by intro q; cases q))]
            exact e
          · rw [upd_ne nA2]
            exact upd_same
        · intro b o e
          rw [upd_ne (ne_of_none e nA)]
          exact z2 _ _ (s2 _ _ e)
      | false =>
        refine iteF ⟨as, z _ _ eA, ?_, s2⟩
        rw [sel_take hd, if_neg (by rw [hb]; exact Bool.false_ne_true), List.append_nil]
        exact oA.same z
    rintro H1 ⟨as, eA, oA, s1⟩
    rw [List.take_of_length_le (by rw [hO.len]; exact Nat.le_refl _)] at oA
    refine ⟨_, rfl, L, kb, xs, rfl, SqB.of (s1 _ _ eL), fun B2 nB => ?_⟩
    refine lc_it (walk_enumB (K := K) (b := kb) (a := L) (xs := xs)) (fun i H' => ∃ bs, H' B2 = some (.lst bs) ∧ Obs trO H' bs (sel false 0 (ds.take i)) ∧ Same H1 H') ⟨_, upd_same, .nil, sm_upd nB⟩ ?_ ?_ ?_
    · rintro i H2 _ ⟨_, _, _, s2⟩
      exact SqB.of (s2 _ _ (s1 _ _ eL))
    · rintro i v H2 H3 hi ⟨bs, eB, oB, s2⟩ ⟨T, x, y, rfl, nT, rfl, hx, hy⟩
      cases hx
      obtain ⟨r, d, rfl, er, hd⟩ := hO.at hy
      have z := sm_upd (o := .tup [.int (i : Nat), .ref r]) nT
      have s3 := s2.trans z
      have al : bs.length < sizeLine := by
        have h1 := oB.len
        have h2 := sel_len false 0 (ds.take i)
        rw [List.length_take] at h2
        exact small1000 (by omega)
      refine ⟨T, _, rfl, SqT.of upd_same, rfl, _, _, rfl, _, _, rfl, r, _, rfl, SqT.of (s3 _ _ (s1 _ _ er)), rfl, _, _, rfl, _, _, rfl, _, _, rfl, rfl, rfl, ?_⟩
      refine ⟨rfl, _, rfl, rfl, _, rfl, ?_⟩
      rw [w_hi]
      cases hb : d.lo with
      | false =>
        refine iteT ⟨_, rfl, _, rfl, _, rfl, len10 (by simp), fun t nt => ?_⟩
        have z2 := sm_upd (o := .tup [.int (i : Nat), .int d.t, .int d.n]) nt
        have nB2 : t ≠ B2 := (ne_of_none (z _ _ eB) nt).symm
        refine ⟨bs, z2 _ _ (z _ _ eB), al, _, upd_same, ?_, ?_⟩
        · rw [sel_take hd, if_pos hb]
          refine Obs.snoc (Obs.keep ((oB.same z).same z2) fun b d' e => ?_) ?_
          · rw [upd_ne (ne_of e (z2 _ _ (z _ _ eB)) (by intro q; cases q))]
            exact e
          · rw [upd_ne nB2]
            exact upd_same
        · intro b o e
          rw [upd_ne (ne_of_none e nB)]
          exact z2 _ _ (s3 _ _ e)
      | true =>
        refine iteF ⟨bs, z _ _ eB, ?_, s3⟩
        rw [sel_take hd, if_neg (by rw [hb]; exact fun q => Bool.false_ne_true q.symm), List.append_nil]
        exact oB.same z
    rintro H2 ⟨bs, eB, oB, s2⟩
    rw [List.take_of_length_le (by rw [hO.len]; exact Nat.le_refl _)] at oB
    refine ⟨_, rfl, _, rfl, len10 (by simp), fun T nT => ?_⟩
    have z := sm_upd (o := .tup [.ref A, .ref B2]) nT
    exact kk T _ A B2 as bs ((s1.trans s2).trans z) upd_same (z _ _ (s2 _ _ eA)) ((oA.same s2).same z) (z _ _ eB) (oB.same z)
end
end Lf
namespace Lf
open PySem PySem.Spec PyProof.Rows L2
/-! ### the bounds of the rates -/
abbrev T4 := Int × Int × Int × Int
abbrev t4O (z : T4) : HO := .tup [.int z.1, .int z.2.1, .int z.2.2.1, .int z.2.2.2]
def PrV (H : Hp) (v : V) : Option T4 → Prop
  | none => v = .non
  | some z => ∃ r, v = .ref r ∧ H r = some (t4O z)
theorem PrV.same {H H' : Hp} {v : V} {o : Option T4} (h : PrV H v o) (s : Same H H') : PrV H' v o := by
  cases o with
  | none => exact h
  | some z =>
    obtain ⟨r, e, h⟩ := h
    exact ⟨r, e, s _ _ h⟩
def uc (x y : T3) : Prop := ¬ y.2.1 < x.2.1 ∧ (x.2.1 < y.2.1 ∨ x.2.2 > y.2.2)
def bot (x y : T3) : Int := if y.2.1 - x.2.1 > 1 then y.2.1 - x.2.1 else 1
theorem bot_pos (x y : T3) : 1 ≤ bot x y := by
  unfold bot
  by_cases h : y.2.1 - x.2.1 > 1
  · rw [if_pos h]
    omega
  · rw [if_neg h]
    omega
theorem bot_eq {x y : T3} (h : x.2.1 < y.2.1) : bot x y = y.2.1 - x.2.1 := by
  unfold bot
  by_cases h : y.2.1 - x.2.1 > 1
  · rw [if_pos h]
  · rw [if_neg h]
    omega
def LoOk (S : T3 → T3 → Prop) : Option T4 → Prop
  | none => ∀ x y, S x y → ¬ y.2.1 < x.2.1
  | some z => (∃ x y, S x y ∧ y.2.1 < x.2.1 ∧ z = (x.2.2 - y.2.2 - 1, x.2.1 - y.2.1, x.1, y.1)) ∧ ∀ x y, S x y → y.2.1 < x.2.1 → (x.2.2 - y.2.2 - 1) * z.2.1 ≤ z.1 * (x.2.1 - y.2.1)
def UpOk (S : T3 → T3 → Prop) : Option T4 → Prop
  | none => ∀ x y, S x y → ¬ uc x y
  | some z => (∃ x y, S x y ∧ uc x y ∧ z = (y.2.2 + 1 - x.2.2, bot x y, x.1, y.1)) ∧ ∀ x y, S x y → uc x y → z.1 * bot x y ≤ (y.2.2 + 1 - x.2.2) * z.2.1
theorem frac_trans {a b c d e f : Int} (hd : 0 < d) (hb : 0 < b) (hf : 0 < f) (h1 : a * d ≤ c * b) (h2 : c * f ≤ e * d) : a * f ≤ e * b := by
  refine Int.le_of_mul_le_mul_right ?_ hd
  have g1 := Int.mul_le_mul_of_nonneg_right h1 (Int.le_of_lt hf)
  have g2 := Int.mul_le_mul_of_nonneg_right h2 (Int.le_of_lt hb)
  have e1 : a * f * d = a * d * f := by grind
  have e2 : e * b * d = e * d * b := by grind
  have e3 : c * b * f = c * f * b := by grind
  omega
theorem frac_lt {a b c d e f : Int} (hd : 0 < d) (hb : 0 < b) (hf : 0 < f) (h1 : a * d ≤ c * b) (h2 : c * f < e * d) : a * f < e * b := by
  refine Int.lt_of_mul_lt_mul_right ?_ (Int.le_of_lt hd)
  have g1 := Int.mul_le_mul_of_nonneg_right h1 (Int.le_of_lt hf)
  have g2 := Int.mul_lt_mul_of_pos_right h2 hb
  have e1 : a * f * d = a * d * f := by grind
  have e2 : e * b * d = e * d * b := by grind
  have e3 : c * b * f = c * f * b := by grind
  omega
theorem frac_lt' {a b c d e f : Int} (hd : 0 < d) (hb : 0 < b) (hf : 0 < f) (h1 : a * d < c * b) (h2 : c * f ≤ e * d) : a * f < e * b := by
  refine Int.lt_of_mul_lt_mul_right ?_ (Int.le_of_lt hd)
  have g1 := Int.mul_lt_mul_of_pos_right h1 hf
  have g2 := Int.mul_le_mul_of_nonneg_right h2 (Int.le_of_lt hb)
  have e1 : a * f * d = a * d * f := by grind
  have e2 : e * b * d = e * d * b := by grind
  have e3 : c * b * f = c * f * b := by grind
  omega
def ad (S : T3 → T3 → Prop) (x y : T3) : T3 → T3 → Prop := fun x' y' => S x' y' ∨ (x' = x ∧ y' = y)
section
variable {S S' : T3 → T3 → Prop} {x y : T3} {o : Option T4}
theorem LoOk.congr (h : LoOk S o) (e : ∀ x y, S x y ↔ S' x y) : LoOk S' o := by
  have : S = S' := by
    funext x y
    exact propext (e x y)
  rw [← this]
  exact h
theorem UpOk.congr (h : UpOk S o) (e : ∀ x y, S x y ↔ S' x y) : UpOk S' o := by
  have : S = S' := by
    funext x y
    exact propext (e x y)
  rw [← this]
  exact h
theorem LoOk.den (h : LoOk S o) : ∀ z, o = some z → 1 ≤ z.2.1 := fun z e => by
  subst e
  obtain ⟨⟨x, y, _, h1, rfl⟩, _⟩ := h
  show 1 ≤ x.2.1 - y.2.1
  omega
theorem UpOk.den (h : UpOk S o) : ∀ z, o = some z → 1 ≤ z.2.1 := fun z e => by
  subst e
  obtain ⟨⟨x, y, _, h1, rfl⟩, _⟩ := h
  exact bot_pos x y
theorem LoOk.skip (h : LoOk S o) (n : ¬ y.2.1 < x.2.1) : LoOk (ad S x y) o := by
  cases o with
  | none =>
    rintro x' y' (z | ⟨rfl, rfl⟩)
    · exact h _ _ z
    · exact n
  | some z =>
    obtain ⟨⟨x0, y0, s0, h1, h2⟩, h3⟩ := h
    refine ⟨⟨x0, y0, .inl s0, h1, h2⟩, ?_⟩
    rintro x' y' (z | ⟨rfl, rfl⟩) c
    · exact h3 _ _ z c
    · exact absurd c n
theorem UpOk.skip (h : UpOk S o) (n : ¬ uc x y) : UpOk (ad S x y) o := by
  cases o with
  | none =>
    rintro x' y' (z | ⟨rfl, rfl⟩)
    · exact h _ _ z
    · exact n
  | some z =>
    obtain ⟨⟨x0, y0, s0, h1, h2⟩, h3⟩ := h
    refine ⟨⟨x0, y0, .inl s0, h1, h2⟩, ?_⟩
    rintro x' y' (z | ⟨rfl, rfl⟩) c
    · exact h3 _ _ z c
    · exact absurd c n
theorem LoOk.first (h : LoOk S none) (c : y.2.1 < x.2.1) : LoOk (ad S x y) (some (x.2.2 - y.2.2 - 1, x.2.1 - y.2.1, x.1, y.1)) := by
  refine ⟨⟨x, y, .inr ⟨rfl, rfl⟩, c, rfl⟩, ?_⟩
  rintro x' y' (z | ⟨rfl, rfl⟩) c'
  · exact absurd c' (h _ _ z)
  · exact Int.le_refl _
theorem LoOk.keep {z : T4} (h : LoOk S (some z)) (g : (x.2.2 - y.2.2 - 1) * z.2.1 ≤ z.1 * (x.2.1 - y.2.1)) : LoOk (ad S x y) (some z) := by
  obtain ⟨⟨x0, y0, s0, h1, h2⟩, h3⟩ := h
  refine ⟨⟨x0, y0, .inl s0, h1, h2⟩, ?_⟩
  rintro x' y' (z | ⟨rfl, rfl⟩) c
  · exact h3 _ _ z c
  · exact g
theorem LoOk.upd {z : T4} (h : LoOk S (some z)) (c : y.2.1 < x.2.1) (g : z.1 * (x.2.1 - y.2.1) < (x.2.2 - y.2.2 - 1) * z.2.1) : LoOk (ad S x y) (some (x.2.2 - y.2.2 - 1, x.2.1 - y.2.1, x.1, y.1)) := by
  refine ⟨⟨x, y, .inr ⟨rfl, rfl⟩, c, rfl⟩, ?_⟩
  have dz := h.den z rfl
  rintro x' y' (s | ⟨rfl, rfl⟩) c'
  · show (x'.2.2 - y'.2.2 - 1) * (x.2.1 - y.2.1) ≤ (x.2.2 - y.2.2 - 1) * (x'.2.1 - y'.2.1)
    exact frac_trans (by omega : 0 < z.2.1) (by omega) (by omega) (h.2 _ _ s c') (Int.le_of_lt g)
  · exact Int.le_refl _
theorem UpOk.first (h : UpOk S none) (c : uc x y) : UpOk (ad S x y) (some (y.2.2 + 1 - x.2.2, bot x y, x.1, y.1)) := by
  refine ⟨⟨x, y, .inr ⟨rfl, rfl⟩, c, rfl⟩, ?_⟩
  rintro x' y' (z | ⟨rfl, rfl⟩) c'
  · exact absurd c' (h _ _ z)
  · exact Int.le_refl _
theorem UpOk.keep {z : T4} (h : UpOk S (some z)) (g : z.1 * bot x y ≤ (y.2.2 + 1 - x.2.2) * z.2.1) : UpOk (ad S x y) (some z) := by
  obtain ⟨⟨x0, y0, s0, h1, h2⟩, h3⟩ := h
  refine ⟨⟨x0, y0, .inl s0, h1, h2⟩, ?_⟩
  rintro x' y' (z | ⟨rfl, rfl⟩) c
  · exact h3 _ _ z c
  · exact g
theorem UpOk.upd {z : T4} (h : UpOk S (some z)) (c : uc x y) (g : (y.2.2 + 1 - x.2.2) * z.2.1 < z.1 * bot x y) : UpOk (ad S x y) (some (y.2.2 + 1 - x.2.2, bot x y, x.1, y.1)) := by
  refine ⟨⟨x, y, .inr ⟨rfl, rfl⟩, c, rfl⟩, ?_⟩
  have dz := h.den z rfl
  have b1 := bot_pos x y
  rintro x' y' (s | ⟨rfl, rfl⟩) c'
  · have b2 := bot_pos x' y'
    show (y.2.2 + 1 - x.2.2) * bot x' y' ≤ (y'.2.2 + 1 - x'.2.2) * bot x y
    exact frac_trans (by omega : 0 < z.2.1) (by omega) (by omega) (Int.le_of_lt g) (h.2 _ _ s c')
  · exact Int.le_refl _
end
/-- a rate within the bounds -/
def RateIn (lo up : Option T4) (p q : Int) : Prop := (∀ z, lo = some z → z.1 * q < p * z.2.1) ∧ ∀ z, up = some z → p * z.2.1 < z.1 * q
theorem rate_iff {S : T3 → T3 → Prop} {lo up : Option T4} {p q : Int} (hp : 0 ≤ p) (hq : 1 ≤ q) (hl : LoOk S lo) (hu : UpOk S up) : (∀ x y, S x y → p * (y.2.1 - x.2.1) < (y.2.2 + 1 - x.2.2) * q) ↔ RateIn lo up p q := by
  constructor
  · intro h
    constructor
    · rintro z rfl
      obtain ⟨⟨x, y, s, c, rfl⟩, _⟩ := hl
      have := h x y s
      show (x.2.2 - y.2.2 - 1) * q < p * (x.2.1 - y.2.1)
      have e1 : (x.2.2 - y.2.2 - 1) * q = -((y.2.2 + 1 - x.2.2) * q) := by grind
      have e2 : p * (x.2.1 - y.2.1) = -(p * (y.2.1 - x.2.1)) := by grind
      omega
    · rintro z rfl
      obtain ⟨⟨x, y, s, c, rfl⟩, _⟩ := hu
      have g := h x y s
      show p * bot x y < (y.2.2 + 1 - x.2.2) * q
      by_cases c2 : x.2.1 < y.2.1
      · rw [bot_eq c2]
        exact g
      · have e : y.2.1 - x.2.1 = 0 := by
          have := c.1
          omega
        rw [e, Int.mul_zero] at g
        have : 0 < y.2.2 + 1 - x.2.2 := pos_of_mul g (by omega)
        have := c.2
        omega
  · rintro ⟨h1, h2⟩ x y s
    by_cases c : y.2.1 < x.2.1
    · cases lo with
      | none => exact absurd c (hl x y s)
      | some z =>
        have dz := hl.den z rfl
        have g := frac_lt (by omega : 0 < z.2.1) (by omega) (by omega : 0 < q) (hl.2 x y s c) (h1 z rfl)
        have e1 : (x.2.2 - y.2.2 - 1) * q = -((y.2.2 + 1 - x.2.2) * q) := by grind
        have e2 : p * (x.2.1 - y.2.1) = -(p * (y.2.1 - x.2.1)) := by grind
        omega
    · by_cases c2 : x.2.1 < y.2.1 ∨ x.2.2 > y.2.2
      · cases up with
        | none => exact absurd ⟨c, c2⟩ (hu x y s)
        | some z =>
          have dz := hu.den z rfl
          have b1 := bot_pos x y
          have g := frac_lt' (by omega : 0 < z.2.1) (by omega : 0 < q) (by omega : 0 < bot x y) (h2 z rfl) (hu.2 x y s ⟨c, c2⟩)
          have le : y.2.1 - x.2.1 ≤ bot x y := by
            by_cases c3 : x.2.1 < y.2.1
            · rw [bot_eq c3]
              exact Int.le_refl _
            · omega
          have := Int.mul_le_mul_of_nonneg_left le hp
          omega
      · have e : y.2.1 - x.2.1 = 0 := by omega
        rw [e, Int.mul_zero]
        exact Int.mul_pos (by omega) (by omega)
/-- no rate is left -/
def nr : Option T4 → Option T4 → Bool
  | _, none => false
  | none, some h => decide (h.1 ≤ 0)
  | some l, some h => decide (h.1 ≤ 0) || decide (h.1 * l.2.1 ≤ l.1 * h.2.1)
theorem nr_none {S : T3 → T3 → Prop} {lo up : Option T4} {p q : Int} (hp : 0 ≤ p) (hq : 1 ≤ q) (hl : LoOk S lo) (hu : UpOk S up) (h : nr lo up = true) : ¬ RateIn lo up p q := by
  rintro ⟨h1, h2⟩
  cases up with
  | none => cases lo <;> cases h
  | some z =>
    have dz := hu.den z rfl
    have g2 := h2 z rfl
    have pz : z.1 ≤ 0 → False := fun c => by
      have := Int.mul_le_mul_of_nonneg_right c (show 0 ≤ q by omega)
      have := Int.mul_nonneg hp (show 0 ≤ z.2.1 by omega)
      rw [Int.zero_mul] at *
      omega
    cases lo with
    | none => exact pz (of_decide_eq_true h)
    | some l =>
      have dl := hl.den l rfl
      have g1 := h1 l rfl
      rcases Bool.or_eq_true _ _ ▸ h with h | h
      · exact pz (of_decide_eq_true h)
      · have h : z.1 * l.2.1 ≤ l.1 * z.2.1 := of_decide_eq_true h
        have := frac_lt (by omega : 0 < l.2.1) (by omega : 0 < z.2.1) (by omega : 0 < q) h g1
        omega
def PB (k : Nat) (o : Option T4) : Prop := ∀ z, o = some z → Bd (k + 2) z.1 ∧ Bd (k + 2) z.2.1
def TB (k : Nat) (ls : List T3) : Prop := ∀ x ∈ ls, Bd k x.2.1 ∧ Bd k x.2.2
section
variable {P : Program} {w : World} {K : PySem.W.Frag} {mg : Str → Option Value} {base : Heap}
def spTP : Sp := fun vs H Q _ => ∃ (T A B : Addr) (vl vu : V) (lo up : Option T4) (as bs : List V) (ls hs : List T3) (S : T3 → T3 → Prop) (k : Nat), vs = [.ref T, .ref A, .ref B] ∧ H T = some (.tup [vl, vu]) ∧ PrV H vl lo ∧ PrV H vu up ∧ H A = some (.lst as) ∧ Obs trO H as ls ∧ H B = some (.lst bs) ∧ Obs trO H bs hs ∧
  TB k ls ∧ TB k hs ∧ PB k lo ∧ PB k up ∧ LoOk S lo ∧ UpOk S up ∧ 0 < k ∧ k ≤ 10000 ∧
  ∀ R H' wl wu lo' up', Same H H' → H' R = some (.tup [wl, wu]) → PrV H' wl lo' → PrV H' wu up' → PB k lo' → PB k up' → LoOk (fun x y => S x y ∨ (x ∈ ls ∧ y ∈ hs)) lo' → UpOk (fun x y => S x y ∨ (x ∈ ls ∧ y ∈ hs)) up' → Q (.ref R) H'
abbrev s_tighter_pairs : Stmt := topS 25
abbrev N_tighter_pairs : List Str := ["pairs", "lows", "highs", "lower", "upper", "i", "t", "n", "j", "u", "m", "bottom"]
abbrev P_tighter_pairs : List Str := ["pairs", "lows", "highs"]
theorem sc_tighter_pairs : FnScope N_tighter_pairs P_tighter_pairs (defScope s_tighter_pairs) := ⟨rfl, rfl, rfl, by decide +kernel, rfl, by decide +kernel, by decide +kernel⟩
theorem ok_tighter_pairs (D : Df K mg "tighter_pairs" s_tighter_pairs P_tighter_pairs) (B : Bi mg) : C8.Cal P w K mg base 1 "tighter_pairs" spTP [] := by
  refine cal_of D sc_tighter_pairs (fun vs H Q E h => ?_) (fun f cdv A outer s H vs Q E hr h => ?_)
  · obtain ⟨T, A, B, vl, vu, lo, up, as, bs, ls, hs, S, k, rfl, _⟩ := h
    rfl
  · obtain ⟨T, A', B', vl, vu, lo, up, as, bs, ls, hs, S, k, rfl, eT, pl, pu, eA, oA, eB, oB, tA, tB, bl, bu, hlo, hup, k0, k1, kk⟩ := h
    refine ⟨_, (pss_cons (ps_asg (pv 0) (pg_tup rfl (pgs_cons (pg_name (i := 3) sc_tighter_pairs.nd rfl (Or.inl rfl)) (pgs_cons (pg_name (i := 4) sc_tighter_pairs.nd rfl (Or.inl rfl)) pgs_nil))))
    (pss_cons (ps_for PassesOwn.never rfl (pi_list (pv 1)) (pg_tup rfl (pgs_cons (pg_name (i := 5) sc_tighter_pairs.nd rfl (Or.inl rfl)) (pgs_cons (pg_name (i := 6) sc_tighter_pairs.nd rfl (Or.inl rfl)) (pgs_cons (pg_name (i := 7) sc_tighter_pairs.nd rfl (Or.inl rfl)) pgs_nil))))
      (pss_one (ps_for PassesOwn.never rfl (pi_list (pv 2)) (pg_tup rfl (pgs_cons (pg_name (i := 8) sc_tighter_pairs.nd rfl (Or.inl rfl)) (pgs_cons (pg_name (i := 9) sc_tighter_pairs.nd rfl (Or.inl rfl)) (pgs_cons (pg_name (i := 10) sc_tighter_pairs.nd rfl (Or.inl rfl)) pgs_nil))))
      (pss_one (ps_if (pt_cmpR op_lt (pv 9) (pv 6) (nomark _))
      (pss_one (ps_if (PW.pt (pw_or (pt_cmpR op_isN (pv 3) pe_non (nomark _)) (pw_or1 (pt_cmpR op_gt (pe_op op_mulW (pe_op op_sub (pe_op op_sub (pv 7) (pv 10)) pe_int) (pe_ix (r := rIxT K) ix_tup (pv 3) pe_int (fun _ _ => rfl))) (pe_op op_mulW (pe_ix (r := rIxT K) ix_tup (pv 3) pe_int (fun _ _ => rfl)) (pe_op op_sub (pv 6) (pv 9))) (nomark _)))))
      (pss_one (ps_set (i := 3) sc_tighter_pairs.nd rfl (Or.inl rfl) (pe_tup (pa_cons (pe_op op_sub (pe_op op_sub (pv 7) (pv 10)) pe_int) (pa_cons (pe_op op_sub (pv 6) (pv 9)) (pa_cons (pv 5) (pa_cons (pv 8) pa_nil)))))))
      pss_nil))
      (pss_one (ps_if (PW.pt (pw_or (pt_cmpR op_lt (pv 6) (pv 9) (nomark _)) (pw_or1 (pt_cmpR op_gt (pv 7) (pv 10) (nomark _)))))
      (pss_cons (ps_set (i := 11) sc_tighter_pairs.nd rfl (Or.inl rfl) (pe_callB (call_max2 rfl) (by rfl) B.max_ bt_max (pa_cons pe_int (pa_cons (pe_op op_sub (pv 9) (pv 6)) pa_nil))))
    (pss_one (ps_if (PW.pt (pw_or (pt_cmpR op_isN (pv 4) pe_non (nomark _)) (pw_or1 (pt_cmpR op_lt (pe_op op_mulW (pe_op op_sub (pe_op op_add (pv 10) pe_int) (pv 7)) (pe_ix (r := rIxT K) ix_tup (pv 4) pe_int (fun _ _ => rfl))) (pe_op op_mulW (pe_ix (r := rIxT K) ix_tup (pv 4) pe_int (fun _ _ => rfl)) (pv 11)) (nomark _)))))
      (pss_one (ps_set (i := 4) sc_tighter_pairs.nd rfl (Or.inl rfl) (pe_tup (pa_cons (pe_op op_sub (pe_op op_add (pv 10) pe_int) (pv 7)) (pa_cons (pv 11) (pa_cons (pv 5) (pa_cons (pv 8) pa_nil)))))))
      pss_nil)))
      pss_nil)))))))
    (pss_one (ps_ret (pe_tup (pa_cons (pv 3) (pa_cons (pv 4) pa_nil))))))), ?_⟩
    refine ⟨_, rfl, T, _, rfl, SqT.of eT, rfl, _, _, rfl, _, _, rfl, rfl, ?_⟩
    refine ⟨_, rfl, A', rfl, ⟨_, SqL.of eA⟩, ?_⟩
    refine for_list (K := K) (a := A') (xs := as) (fun i σ H' => ∃ (vl vu : V) (lo up : Option T4) (y5 y6 y7 y8 y9 y10 y11 : Option V), σ = [some (.ref T), some (.ref A'), some (.ref B'), some vl, some vu, y5, y6, y7, y8, y9, y10, y11] ∧ Same H H' ∧ PrV H' vl lo ∧ PrV H' vu up ∧ PB k lo ∧ PB k up ∧ LoOk (fun x y => S x y ∨ (x ∈ ls.take i ∧ y ∈ hs)) lo ∧ UpOk (fun x y => S x y ∨ (x ∈ ls.take i ∧ y ∈ hs)) up) ?_ ?_ ?_ ?_
    · refine ⟨vl, vu, lo, up, _, _, _, _, _, _, _, rfl, Same.refl _, pl, pu, bl, bu, hlo.congr fun x y => ?_, hup.congr fun x y => ?_⟩
      · constructor
        · exact .inl
        · rintro (z | ⟨z, _⟩)
          · exact z
          · cases z
      · constructor
        · exact .inl
        · rintro (z | ⟨z, _⟩)
          · exact z
          · cases z
    · rintro i σ H' _ ⟨_, _, _, _, _, _, _, _, _, _, _, _, s', _⟩
      exact SqL.of (s' _ _ eA)
    · rintro i v σ H1 hv ⟨vl, vu, lo, up, y5, y6, y7, y8, y9, y10, y11, rfl, s1, pl, pu, bl, bu, hlo, hup⟩
      obtain ⟨r, x, rfl, er, hx⟩ := oA.at hv
      have xb := tA x (List.mem_of_getElem? hx)
      refine ⟨r, _, rfl, SqT.of (s1 _ _ er), rfl, _, _, rfl, _, _, rfl, _, _, rfl, rfl, ?_⟩
      refine ⟨_, rfl, B', rfl, ⟨_, SqL.of (s1 _ _ eB)⟩, ?_⟩
      refine for_list (K := K) (a := B') (xs := bs) (fun j σ H' => ∃ (vl vu : V) (lo up : Option T4) (y8 y9 y10 y11 : Option V), σ = [some (.ref T), some (.ref A'), some (.ref B'), some vl, some vu, some (.int x.1), some (.int x.2.1), some (.int x.2.2), y8, y9, y10, y11] ∧ Same H H' ∧ PrV H' vl lo ∧ PrV H' vu up ∧ PB k lo ∧ PB k up ∧ LoOk (fun x' y' => (S x' y' ∨ (x' ∈ ls.take i ∧ y' ∈ hs)) ∨ (x' = x ∧ y' ∈ hs.take j)) lo ∧ UpOk (fun x' y' => (S x' y' ∨ (x' ∈ ls.take i ∧ y' ∈ hs)) ∨ (x' = x ∧ y' ∈ hs.take j)) up) ?_ ?_ ?_ ?_
      · refine ⟨vl, vu, lo, up, _, _, _, _, rfl, s1, pl, pu, bl, bu, hlo.congr fun x y => ?_, hup.congr fun x y => ?_⟩
        · constructor
          · exact .inl
          · rintro (z | ⟨_, z⟩)
            · exact z
            · cases z
        · constructor
          · exact .inl
          · rintro (z | ⟨_, z⟩)
            · exact z
            · cases z
      · rintro j σ H' _ ⟨_, _, _, _, _, _, _, _, _, s', _⟩
        exact SqL.of (s' _ _ eB)
      · clear hlo hup pl pu bl bu vl vu lo up
        rintro j v σ H2 hv ⟨vl, vu, lo, up, y8, y9, y10, y11, rfl, s2, pl, pu, bl, bu, hlo, hup⟩
        obtain ⟨r2, y, rfl, er2, hy⟩ := oB.at hv
        have yb := tB y (List.mem_of_getElem? hy)
        have cg : ∀ x' y', ad (fun x' y' => (S x' y' ∨ (x' ∈ ls.take i ∧ y' ∈ hs)) ∨ (x' = x ∧ y' ∈ hs.take j)) x y x' y' ↔ ((S x' y' ∨ (x' ∈ ls.take i ∧ y' ∈ hs)) ∨ (x' = x ∧ y' ∈ hs.take (j + 1))) := fun x' y' => by
          rw [List.take_add_one, hy]
          constructor
          · rintro ((z | ⟨z1, z2⟩) | ⟨z1, z2⟩)
            · exact .inl z
            · exact .inr ⟨z1, List.mem_append.mpr (.inl z2)⟩
            · exact .inr ⟨z1, List.mem_append.mpr (.inr (List.mem_singleton.mpr z2))⟩
          · rintro (z | ⟨z1, z2⟩)
            · exact .inl (.inl z)
            · rcases List.mem_append.mp z2 with z2 | z2
              · exact .inl (.inr ⟨z1, z2⟩)
              · exact .inr ⟨z1, List.mem_singleton.mp z2⟩
        have hlo' := hlo
        have hup' := hup
        refine ⟨r2, _, rfl, SqT.of (s2 _ _ er2), rfl, _, _, rfl, _, _, rfl, _, _, rfl, rfl, ?_⟩
        have b1 : Bd (k + 2) (x.2.2 - y.2.2 - 1) := Bd.sub (Bd.sub xb.2 yb.2) (Bd.small 1 (by decide) (by omega))
        have b2 : Bd (k + 1) (x.2.1 - y.2.1) := Bd.sub xb.1 yb.1
        have b3 : Bd (k + 2) (y.2.2 + 1 - x.2.2) := Bd.sub (Bd.add yb.2 (Bd.small 1 (by decide) (by omega))) (xb.2.mono (by omega))
        have b4 : Bd (k + 1) (bot x y) := by
          unfold bot
          by_cases h : y.2.1 - x.2.1 > 1
          · rw [if_pos h]
            exact Bd.sub yb.1 xb.1
          · rw [if_neg h]
            exact Bd.small 1 (by decide) (by omega)
        refine ⟨_, rfl, _, rfl, _, _, rfl, rfl, _, rfl, ite2 (fun c => ?_) (fun c => ?_)⟩
        · have c : y.2.1 < x.2.1 := of_decide_eq_true c
          have upS := (hup.skip (x := x) (y := y) (fun z => z.1 c)).congr cg
          cases lo with
          | none =>
            have e : vl = .non := pl
            subst e
            refine ⟨_, rfl, rfl, _, rfl, iteT (iteT ?_)⟩
            refine ⟨_, rfl, _, rfl, _, _, rfl, rfl, _, _, rfl, rfl, _, rfl, _, rfl, _, _, rfl, rfl, _, rfl, _, rfl, len10 (by simp), fun r3 nr3 => ?_⟩
            have z3 := sm_upd (o := t4O (x.2.2 - y.2.2 - 1, x.2.1 - y.2.1, x.1, y.1)) nr3
            exact ⟨_, _, some (x.2.2 - y.2.2 - 1, x.2.1 - y.2.1, x.1, y.1), up, _, _, _, _, rfl, s2.trans z3, ⟨r3, rfl, upd_same⟩, pu.same z3, fun z e => by cases e; exact ⟨b1, b2.mono (by omega)⟩, bu, (hlo.first c).congr cg, upS⟩
          | some z =>
            obtain ⟨rz, rfl, ez⟩ := pl
            obtain ⟨bz1, bz2⟩ := bl z rfl
            refine ⟨_, rfl, rfl, _, rfl, iteF ?_⟩
            refine ⟨_, rfl, _, rfl, _, _, rfl, rfl, _, _, rfl, rfl, _, rfl, rz, _, _, _, rfl, rfl, SqT.of ez, atI_nat (j := 1) rfl, _, _, rfl, rfl, mulW b1 bz2 (by omega) (by omega) (by omega), _, rfl, rz, _, _, _, rfl, rfl, SqT.of ez, atI_nat (j := 0) rfl, _, rfl, _, rfl, _, _, rfl, rfl, _, _, rfl, rfl, mulW bz1 b2 (by omega) (by omega) (by omega), _, _, rfl, rfl, _, rfl, ite2 (fun g => ?_) (fun g => ?_)⟩
            · have g : (x.2.2 - y.2.2 - 1) * z.2.1 > z.1 * (x.2.1 - y.2.1) := of_decide_eq_true g
              refine ⟨_, rfl, _, rfl, _, _, rfl, rfl, _, _, rfl, rfl, _, rfl, _, rfl, _, _, rfl, rfl, _, rfl, _, rfl, len10 (by simp), fun r3 nr3 => ?_⟩
              have z3 := sm_upd (o := t4O (x.2.2 - y.2.2 - 1, x.2.1 - y.2.1, x.1, y.1)) nr3
              exact ⟨_, _, some (x.2.2 - y.2.2 - 1, x.2.1 - y.2.1, x.1, y.1), up, _, _, _, _, rfl, s2.trans z3, ⟨r3, rfl, upd_same⟩, pu.same z3, fun z e => by cases e; exact ⟨b1, b2.mono (by omega)⟩, bu, (hlo.upd c g).congr cg, upS⟩
            · have g : ¬ (x.2.2 - y.2.2 - 1) * z.2.1 > z.1 * (x.2.1 - y.2.1) := fun h => g (decide_eq_true h)
              exact ⟨_, _, some z, up, _, _, _, _, rfl, s2, ⟨rz, rfl, ez⟩, pu, bl, bu, (hlo.keep (by omega)).congr cg, upS⟩
        · have c : ¬ y.2.1 < x.2.1 := fun h => c (decide_eq_true h)
          have loS := (hlo.skip (x := x) (y := y) c).congr cg
          refine ⟨_, rfl, _, rfl, _, _, rfl, rfl, _, rfl, ite2 (fun c1 => iteT ((fun (hu : uc x y) => ?tw1) ⟨c, .inl (of_decide_eq_true c1)⟩)) (fun c1 => ⟨_, rfl, _, rfl, _, _, rfl, rfl, _, rfl, ite2 (fun c2 => (fun (hu : uc x y) => ?tw2) ⟨c, .inr (of_decide_eq_true c2)⟩) (fun c2 => ?_)⟩)⟩
          case tw1 | tw2 =>
            refine ⟨_, rfl, _, rfl, _, _, rfl, rfl, _, _, rfl, ?_⟩
            show gName 11 (.int (bot x y)) _ H2 _
            cases up with
            | none =>
              have e : vu = .non := pu
              subst e
              refine ⟨_, rfl, rfl, _, rfl, iteT (iteT ?_)⟩
              refine ⟨_, rfl, _, _, rfl, rfl, _, rfl, _, _, rfl, rfl, _, rfl, _, rfl, _, rfl, len10 (by simp), fun r3 nr3 => ?_⟩
              have z3 := sm_upd (o := t4O (y.2.2 + 1 - x.2.2, bot x y, x.1, y.1)) nr3
              exact ⟨_, _, lo, some (y.2.2 + 1 - x.2.2, bot x y, x.1, y.1), _, _, _, _, rfl, s2.trans z3, pl.same z3, ⟨r3, rfl, upd_same⟩, bl, fun z e => by cases e; exact ⟨b3, b4.mono (by omega)⟩, loS, (hup.first hu).congr cg⟩
            | some z =>
              obtain ⟨rz, rfl, ez⟩ := pu
              obtain ⟨bz1, bz2⟩ := bu z rfl
              refine ⟨_, rfl, rfl, _, rfl, iteF ?_⟩
              refine ⟨_, rfl, _, _, rfl, rfl, _, rfl, _, _, rfl, rfl, _, rfl, rz, _, _, _, rfl, rfl, SqT.of ez, atI_nat (j := 1) rfl, _, _, rfl, rfl, mulW b3 bz2 (by omega) (by omega) (by omega), _, rfl, rz, _, _, _, rfl, rfl, SqT.of ez, atI_nat (j := 0) rfl, _, rfl, _, _, rfl, rfl, mulW bz1 b4 (by omega) (by omega) (by omega), _, _, rfl, rfl, _, rfl, ite2 (fun g => ?_) (fun g => ?_)⟩
              · have g : (y.2.2 + 1 - x.2.2) * z.2.1 < z.1 * bot x y := of_decide_eq_true g
                refine ⟨_, rfl, _, _, rfl, rfl, _, rfl, _, _, rfl, rfl, _, rfl, _, rfl, _, rfl, len10 (by simp), fun r3 nr3 => ?_⟩
                have z3 := sm_upd (o := t4O (y.2.2 + 1 - x.2.2, bot x y, x.1, y.1)) nr3
                exact ⟨_, _, lo, some (y.2.2 + 1 - x.2.2, bot x y, x.1, y.1), _, _, _, _, rfl, s2.trans z3, pl.same z3, ⟨r3, rfl, upd_same⟩, bl, fun z e => by cases e; exact ⟨b3, b4.mono (by omega)⟩, loS, (hup.upd hu g).congr cg⟩
              · have g : ¬ (y.2.2 + 1 - x.2.2) * z.2.1 < z.1 * bot x y := fun h => g (decide_eq_true h)
                exact ⟨_, _, lo, some z, _, _, _, _, rfl, s2, pl, ⟨rz, rfl, ez⟩, bl, bu, loS, (hup.keep (by omega)).congr cg⟩
          · have nu : ¬ uc x y := fun z => z.2.elim (fun h => c1 (decide_eq_true h)) (fun h => c2 (decide_eq_true h))
            exact ⟨_, _, lo, up, _, _, _, _, rfl, s2, pl, pu, bl, bu, loS, (hup.skip nu).congr cg⟩
      · clear hlo hup pl pu bl bu vl vu lo up
        rintro σ H2 ⟨vl, vu, lo, up, y8, y9, y10, y11, rfl, s2, pl, pu, bl, bu, hlo, hup⟩
        have etk : hs.take bs.length = hs := List.take_of_length_le (by rw [oB.len]; exact Nat.le_refl _)
        rw [etk] at hlo hup
        have cg : ∀ x' y', ((S x' y' ∨ (x' ∈ ls.take i ∧ y' ∈ hs)) ∨ (x' = x ∧ y' ∈ hs)) ↔ (S x' y' ∨ (x' ∈ ls.take (i + 1) ∧ y' ∈ hs)) := fun x' y' => by
          rw [List.take_add_one, hx]
          constructor
          · rintro ((z | ⟨z1, z2⟩) | ⟨z1, z2⟩)
            · exact .inl z
            · exact .inr ⟨List.mem_append.mpr (.inl z1), z2⟩
            · exact .inr ⟨List.mem_append.mpr (.inr (List.mem_singleton.mpr z1)), z2⟩
          · rintro (z | ⟨z1, z2⟩)
            · exact .inl (.inl z)
            · rcases List.mem_append.mp z1 with z1 | z1
              · exact .inl (.inr ⟨z1, z2⟩)
              · exact .inr ⟨List.mem_singleton.mp z1, z2⟩
        exact ⟨vl, vu, lo, up, _, _, _, _, _, _, _, rfl, s2, pl, pu, bl, bu, hlo.congr cg, hup.congr cg⟩
    · clear hlo hup pl pu bl bu eT vl vu lo up
      rintro σ H2 ⟨vl, vu, lo, up, y5, y6, y7, y8, y9, y10, y11, rfl, s2, pl, pu, bl, bu, hlo, hup⟩
      have etk : ls.take as.length = ls := List.take_of_length_le (by rw [oA.len]; exact Nat.le_refl _)
      rw [etk] at hlo hup
      refine ⟨_, rfl, _, rfl, len10 (by simp), fun R nR => ?_⟩
      have z := sm_upd (o := .tup [vl, vu]) nR
      exact kk R _ vl vu lo up (s2.trans z) upd_same (pl.same z) (pu.same z) bl bu hlo hup
end
end Lf
namespace Lf
open PySem PySem.Spec PyProof.Rows L2
def EndV (H : Hp) (k : Nat) (v : V) : Option (Int × Int) → Prop
  | none => v = .non
  | some e => ∃ a, v = .ref a ∧ H a = some (tup2 e.1 e.2) ∧ Rt k e.1 e.2
def OkE : Option (Int × Int) → Option (Int × Int) → Prop
  | some l, some h => l.1 * h.2 < h.1 * l.2
  | none, some h => 0 < h.1
  | _, none => True
def ResE : Option (Int × Int) → Option (Int × Int) → Int → Int → Prop
  | none, _, N, D => N = 0 ∧ D = 1
  | some l, some h, N, D => Sim l.1 l.2 h.1 h.2 N D
  | some l, none, N, D => Sim l.1 l.2 1 0 N D
section
variable {P : Program} {w : World} {K : PySem.W.Frag} {mg : Str → Option Value} {base : Heap}
def spSB : Sp := fun vs H Q _ => ∃ (v1 v2 : V) (e1 e2 : Option (Int × Int)) (k : Nat), vs = [v1, v2] ∧ EndV H k v1 e1 ∧ EndV H k v2 e2 ∧ OkE e1 e2 ∧ 0 < k ∧ k ≤ 1998 ∧
  ∀ r H' N D, Same H H' → H r = none → H' r = some (tup2 N D) → ResE e1 e2 N D → Bd (k + 1) N → Bd (k + 1) D → Q (.ref r) H'
abbrev s_simplest_between : Stmt := topS 12
abbrev N_simplest_between : List Str := ["low", "high", "p", "q"]
abbrev P_simplest_between : List Str := ["low", "high"]
theorem sc_simplest_between : FnScope N_simplest_between P_simplest_between (defScope s_simplest_between) := ⟨rfl, rfl, rfl, by decide +kernel, rfl, by decide +kernel, by decide +kernel⟩
theorem okA_simplest_between (D : Df K mg "simplest_between" s_simplest_between P_simplest_between) (c_check_rate : C8.Cal P w K mg base 3 "check_rate" spCheckRate []) (c_simplest_inside : C8.Cal P w K mg base 1 "simplest_inside" spInside []) : CalF P w K mg base 4 "simplest_between" s_simplest_between P_simplest_between spSB := by
  refine calF_of D sc_simplest_between (fun vs H Q E h => ?_) (fun f cdv A outer s H vs Q E hr h => ?_)
  · obtain ⟨v1, v2, e1, e2, k, rfl, _⟩ := h
    rfl
  · obtain ⟨v1, v2, e1, e2, k, rfl, g1, g2, ok, k0, k3, kk⟩ := h
    refine ⟨_, (pss_cons (ps_if (pt_cmpR op_notN (pv 0) pe_non (nomark _))
      (pss_one (ps_expr (C8.pe_c c_check_rate hr (by decide) (by rfl) (pa_cons (pv 0) pa_nil))))
      pss_nil)
    (pss_cons (ps_if (pt_cmpR op_notN (pv 1) pe_non (nomark _))
      (pss_cons (ps_expr (C8.pe_c c_check_rate hr (by decide) (by rfl) (pa_cons (pv 1) pa_nil)))
    (pss_cons (ps_asg (pe_ifExp (pt_cmpR op_isN (pv 0) pe_non (nomark _)) (pe_tup (pa_cons pe_int (pa_cons pe_int pa_nil))) (pv 0)) (pg_tup rfl (pgs_cons (pg_name (i := 2) sc_simplest_between.nd rfl (Or.inl rfl)) (pgs_cons (pg_name (i := 3) sc_simplest_between.nd rfl (Or.inl rfl)) pgs_nil))))
    (pss_one (ps_if (pt_cmpR op_le (pe_op op_mulW (pe_ix (r := rIxT K) ix_tup (pv 1) pe_int (fun _ _ => rfl)) (pv 3)) (pe_op op_mulW (pv 2) (pe_ix (r := rIxT K) ix_tup (pv 1) pe_int (fun _ _ => rfl))) (nomark _))
      (pss_one ps_never)
      pss_nil))))
      pss_nil)
    (pss_cons (ps_if (pt_cmpR op_isN (pv 0) pe_non (nomark _))
      (pss_one (ps_ret (pe_tup (pa_cons pe_int (pa_cons pe_int pa_nil)))))
      pss_nil)
    (pss_one (ps_ret (C8.pe_c c_simplest_inside hr (by decide) (by rfl) (pa_cons (pv 0) (pa_cons (pe_ifExp (pt_cmpR op_isN (pv 1) pe_non (nomark _)) (pe_tup (pa_cons pe_int (pa_cons pe_int pa_nil))) (pv 1)) pa_nil)))))))), ?_⟩
    match e1, e2, g1, g2, ok, kk with
    | none, none, g1, g2, ok, kk =>
      have h1 : v1 = .non := g1
      have h2 : v2 = .non := g2
      subst h1 h2
      refine ⟨_, rfl, rfl, _, rfl, iteF ?_⟩
      refine ⟨_, rfl, rfl, _, rfl, iteF ?_⟩
      refine ⟨_, rfl, rfl, _, rfl, iteT ?_⟩
      refine ⟨len10 (by simp), fun r nr => ?_⟩
      exact kk r _ 0 1 (sm_upd nr) nr upd_same ⟨rfl, rfl⟩ (Bd.small 1 (by decide) (by omega)) (Bd.small 1 (by decide) (by omega))
    | none, some (t, b), g1, ⟨h, h2, eh, R⟩, ok, kk =>
      have h1 : v1 = .non := g1
      subst h1 h2
      have eh : H h = some (tup2 t b) := eh
      have ok : 0 < t := ok
      refine ⟨_, rfl, rfl, _, rfl, iteF ?_⟩
      refine ⟨_, rfl, rfl, _, rfl, iteT ?_⟩
      refine ⟨_, rfl, h, t, b, k, rfl, eh, R, ?_⟩
      refine ⟨_, rfl, rfl, _, rfl, iteT ?_⟩
      refine ⟨len10 (by simp), fun z nz => ⟨z, _, rfl, SqT.of upd_same, rfl, _, _, rfl, _, _, rfl, rfl, ?_⟩⟩
      have s1 : Same H (upd H z (tup2 0 1)) := sm_upd nz
      have eh1 := s1 _ _ eh
      refine ⟨_, rfl, h, _, _, _, rfl, rfl, SqT.of eh1, atI_nat (j := 0) rfl, _, rfl, _, _, rfl, rfl, mulW R.bp (Bd.small 1 (by decide) (Nat.le_refl 1)) k0 (by decide) (by omega), _, rfl, _, rfl, h, _, _, _, rfl, rfl, SqT.of eh1, atI_nat (j := 1) rfl, _, _, rfl, rfl, mulW (Bd.small 1 (by decide) (Nat.le_refl 1)) R.bq (by decide) k0 (by omega), _, _, rfl, rfl, _, rfl, iteDn (by omega) ?_⟩
      refine ⟨_, rfl, rfl, _, rfl, iteT ?_⟩
      refine ⟨len10 (by simp), fun r nr => ?_⟩
      refine kk r _ 0 1 (s1.trans (sm_upd nr)) ?_ upd_same ⟨rfl, rfl⟩ (Bd.small 1 (by decide) (by omega)) (Bd.small 1 (by decide) (by omega))
      cases zz : H r with
      | none => rfl
      | some o =>
        rw [s1 _ _ zz] at nr
        cases nr
    | some (p, q), none, ⟨l, h1, el, R⟩, g2, ok, kk =>
      have h2 : v2 = .non := g2
      subst h1 h2
      have el : H l = some (tup2 p q) := el
      refine ⟨_, rfl, rfl, _, rfl, iteT ?_⟩
      refine ⟨_, rfl, l, p, q, k, rfl, el, R, ?_⟩
      refine ⟨_, rfl, rfl, _, rfl, iteF ?_⟩
      refine ⟨_, rfl, rfl, _, rfl, iteF ?_⟩
      refine ⟨_, rfl, _, rfl, rfl, _, rfl, iteT ?_⟩
      refine ⟨len10 (by simp), fun z nz => ?_⟩
      have s1 : Same H (upd H z (tup2 1 0)) := sm_upd nz
      refine ⟨l, z, p, q, 1, 0, k, rfl, s1 _ _ el, upd_same, ⟨R.p0, R.q1, by decide, by have := R.q1; omega, R.bp, R.bq, Bd.small 1 (by decide) (by omega), Bd.small 1 (by decide) (by omega)⟩, k0, by omega, fun r H' N D s2 nr er S b1 b2 => ?_⟩
      refine kk r H' N D (s1.trans s2) ?_ er S b1 b2
      cases zz : H r with
      | none => rfl
      | some o =>
        rw [s1 _ _ zz] at nr
        cases nr
    | some (p, q), some (t, b), ⟨l, h1, el, R⟩, ⟨h, h2, eh, R2⟩, ok, kk =>
      subst h1 h2
      have el : H l = some (tup2 p q) := el
      have eh : H h = some (tup2 t b) := eh
      have ok : p * b < t * q := ok
      refine ⟨_, rfl, rfl, _, rfl, iteT ?_⟩
      refine ⟨_, rfl, l, p, q, k, rfl, el, R, ?_⟩
      refine ⟨_, rfl, rfl, _, rfl, iteT ?_⟩
      refine ⟨_, rfl, h, t, b, k, rfl, eh, R2, ?_⟩
      refine ⟨_, rfl, rfl, _, rfl, iteF ?_⟩
      refine ⟨_, rfl, l, _, rfl, SqT.of el, rfl, _, _, rfl, _, _, rfl, rfl, ?_⟩
      refine ⟨_, rfl, h, _, _, _, rfl, rfl, SqT.of eh, atI_nat (j := 0) rfl, _, rfl, _, _, rfl, rfl, mulW R2.bp R.bq k0 k0 (by omega), _, rfl, _, rfl, h, _, _, _, rfl, rfl, SqT.of eh, atI_nat (j := 1) rfl, _, _, rfl, rfl, mulW R.bp R2.bq k0 k0 (by omega), _, _, rfl, rfl, _, rfl, iteDn (by omega) ?_⟩
      refine ⟨_, rfl, rfl, _, rfl, iteF ?_⟩
      refine ⟨_, rfl, _, rfl, rfl, _, rfl, iteF ?_⟩
      refine ⟨_, rfl, l, h, p, q, t, b, k, rfl, el, eh, ⟨R.p0, R.q1, by have := R2.q1; omega, ok, R.bp, R.bq, R2.bp, R2.bq⟩, k0, by omega, fun r H' N D s2 nr er S b1 b2 => kk r H' N D s2 nr er S b1 b2⟩
theorem ok_simplest_between (cA_simplest_between : CalF P w K mg base 4 "simplest_between" s_simplest_between P_simplest_between spSB) : C8.Cal P w K mg base 4 "simplest_between" spSB [] := by
  exact cA_simplest_between.cal
end
end Lf
namespace Lf
open PySem PySem.Spec PyProof.Rows L2
def SD (ds : List Rec) : T3 → T3 → Prop := fun x y => x ∈ sel true 0 ds ∧ y ∈ sel false 0 ds
theorem sel_tb {k : Nat} {b : Bool} {ds : List Rec} (h : RcB k ds) : TB k (sel b 0 ds) := fun _ hx => sel_bd h hx
theorem EndV.sm {H H' : Hp} {k : Nat} {v : V} {e : Option (Int × Int)} (h : EndV H k v e) (s : Same H H') : EndV H' k v e := by
  match e, h with
  | none, h => exact h
  | some e, ⟨a, h1, h2, h3⟩ => exact ⟨a, h1, s _ _ h2, h3⟩
theorem EndV.fr {H H' : Hp} {k : Nat} {v : V} {e : Option (Int × Int)} (h : EndV H k v e) (s : Fr H H') : EndV H' k v e := by
  match e, h with
  | none, h => exact h
  | some e, ⟨a, h1, h2, h3⟩ => exact ⟨a, h1, s.t _ _ h2, h3⟩
theorem redRt {k : Nat} {x y : Int} (h0 : 0 ≤ x) (h1 : 1 ≤ y) (bx : Bd k x) (by_ : Bd k y) : Rt k (x / (Int.gcd x y : Int)) (y / (Int.gcd x y : Int)) := by
  have g := gcd_pos (p := x) h1
  refine ⟨Int.ediv_nonneg h0 (by omega), ?_, ?_, bx.ediv g, by_.ediv g⟩
  · have := Int.ediv_le_ediv g (gcd_le (p := x) h1)
    rw [Int.ediv_self (by omega)] at this
    exact this
  · exact Int.gcd_ediv_gcd_ediv_gcd (by omega)
def redE (z : T4) : Int × Int := (z.1 / (Int.gcd z.1 z.2.1 : Int), z.2.1 / (Int.gcd z.1 z.2.1 : Int))
def lowE : Option T4 → Option (Int × Int)
  | none => none
  | some z => if z.1 < 0 then none else some (redE z)
def highE : Option T4 → Option (Int × Int)
  | none => none
  | some z => some (redE z)
theorem red_lt_iff {z : T4} {p q : Int} (d : 1 ≤ z.2.1) : ((redE z).1 * q < p * (redE z).2 ↔ z.1 * q < p * z.2.1) ∧ (p * (redE z).2 < (redE z).1 * q ↔ p * z.2.1 < z.1 * q) := by
  have g := gcd_pos (p := z.1) d
  have e1 : (Int.gcd z.1 z.2.1 : Int) * (z.1 / (Int.gcd z.1 z.2.1 : Int)) = z.1 := Int.mul_ediv_cancel' (Int.gcd_dvd_left ..)
  have e2 : (Int.gcd z.1 z.2.1 : Int) * (z.2.1 / (Int.gcd z.1 z.2.1 : Int)) = z.2.1 := Int.mul_ediv_cancel' (Int.gcd_dvd_right ..)
  unfold redE
  dsimp only
  generalize (Int.gcd z.1 z.2.1 : Int) = gg at *
  generalize z.1 / gg = a at *
  generalize z.2.1 / gg = b at *
  rw [← e1, ← e2]
  have h1 : gg * a * q = gg * (a * q) := by grind
  have h2 : p * (gg * b) = gg * (p * b) := by grind
  rw [h1, h2]
  constructor
  · exact ⟨fun h => Int.mul_lt_mul_of_pos_left h g, fun h => Int.lt_of_mul_lt_mul_left h (Int.le_of_lt g)⟩
  · exact ⟨fun h => Int.mul_lt_mul_of_pos_left h g, fun h => Int.lt_of_mul_lt_mul_left h (Int.le_of_lt g)⟩
/-- strictly between the ends that rates gives -/
def Ins (e1 e2 : Option (Int × Int)) (p q : Int) : Prop := (∀ z, e1 = some z → z.1 * q < p * z.2) ∧ ∀ z, e2 = some z → p * z.2 < z.1 * q
theorem ins_iff {S : T3 → T3 → Prop} {lo up : Option T4} {p q : Int} (hp : 0 ≤ p) (hq : 1 ≤ q) (hl : LoOk S lo) (hu : UpOk S up) : Ins (lowE lo) (highE up) p q ↔ RateIn lo up p q := by
  unfold Ins RateIn
  constructor
  · rintro ⟨h1, h2⟩
    constructor
    · rintro z rfl
      have d := hl.den z rfl
      by_cases c : z.1 < 0
      · have := Int.mul_neg_of_neg_of_pos c (show 0 < q by omega)
        have := Int.mul_nonneg hp (show 0 ≤ z.2.1 by omega)
        omega
      · exact (red_lt_iff d).1.mp (h1 _ (by show (if z.1 < 0 then none else some (redE z)) = _; rw [if_neg c]))
    · rintro z rfl
      exact (red_lt_iff (hu.den z rfl)).2.mp (h2 _ rfl)
  · rintro ⟨h1, h2⟩
    constructor
    · intro z e
      cases lo with
      | none => cases e
      | some y =>
        have e : (if y.1 < 0 then none else some (redE y)) = some z := e
        by_cases c : y.1 < 0
        · rw [if_pos c] at e
          cases e
        · rw [if_neg c] at e
          cases e
          exact (red_lt_iff (hl.den y rfl)).1.mpr (h1 y rfl)
    · intro z e
      cases up with
      | none => cases e
      | some y =>
        cases e
        exact (red_lt_iff (hu.den y rfl)).2.mpr (h2 y rfl)
/-- the phases are there just where all pairs leave room -/
theorem ph_iff {p q : Int} {ds : List Rec} {a b : Option Int} (ha : IsMx (lph p q ds) a) (hb : IsMn (hph p q ds) b) : okPh a b = true ↔ ∀ x y, SD ds x y → p * (y.2.1 - x.2.1) < (y.2.2 + 1 - x.2.2) * q := by
  have key : ∀ x y : T3, (x.2.2 * q - p * x.2.1 ≤ (y.2.2 + 1) * q - p * y.2.1 - 1) ↔ p * (y.2.1 - x.2.1) < (y.2.2 + 1 - x.2.2) * q := fun x y => by
    rw [Int.mul_sub, Int.sub_mul (y.2.2 + 1)]
    omega
  constructor
  · intro h x y ⟨hx, hy⟩
    rw [← key]
    have mx : x.2.2 * q - p * x.2.1 ∈ lph p q ds := List.mem_map.mpr ⟨x, hx, rfl⟩
    have my : (y.2.2 + 1) * q - p * y.2.1 - 1 ∈ hph p q ds := List.mem_map.mpr ⟨y, hy, rfl⟩
    cases a with
    | none =>
      rw [show lph p q ds = [] from ha] at mx
      cases mx
    | some v =>
      cases b with
      | none =>
        rw [show hph p q ds = [] from hb] at my
        cases my
      | some u =>
        have h : v ≤ u := of_decide_eq_true h
        have := ha.2 _ mx
        have := hb.2 _ my
        omega
  · intro h
    cases a with
    | none => rfl
    | some v =>
      cases b with
      | none => rfl
      | some u =>
        obtain ⟨x, hx, ex⟩ := List.mem_map.mp ha.1
        obtain ⟨y, hy, ey⟩ := List.mem_map.mp hb.1
        refine decide_eq_true ?_
        rw [← ex, ← ey]
        exact (key x y).mpr (h x y ⟨hx, hy⟩)
section
variable {P : Program} {w : World} {K : PySem.W.Frag} {mg : Str → Option Value} {base : Heap}
def spRedR : Sp := fun vs H Q _ => ∃ (p q : Int), vs = [.int p, .int q] ∧ 0 ≤ p ∧ 1 ≤ q ∧ Bd 9000 q ∧
  ∀ r H', Same H H' → H r = none → H' r = some (tup2 (p / (Int.gcd p q : Int)) (q / (Int.gcd p q : Int))) → Q (.ref r) H'
abbrev s_reduce_rate : Stmt := topS 11
abbrev N_reduce_rate : List Str := ["p", "q", "divisor"]
abbrev P_reduce_rate : List Str := ["p", "q"]
theorem sc_reduce_rate : FnScope N_reduce_rate P_reduce_rate (defScope s_reduce_rate) := ⟨rfl, rfl, rfl, by decide +kernel, rfl, by decide +kernel, by decide +kernel⟩
theorem ok_reduce_rate (D : Df K mg "reduce_rate" s_reduce_rate P_reduce_rate) (c_gcd : C8.Cal P w K mg base 1 "gcd" spGcd []) : C8.Cal P w K mg base 2 "reduce_rate" spRedR [] := by
  refine cal_of D sc_reduce_rate (fun vs H Q E h => ?_) (fun f cdv A outer s H vs Q E hr h => ?_)
  · obtain ⟨p, q, rfl, _⟩ := h
    rfl
  · obtain ⟨p, q, rfl, hp, hq, hb, k⟩ := h
    refine ⟨_, (pss_cons (ps_set (i := 2) sc_reduce_rate.nd rfl (Or.inl rfl) (C8.pe_c c_gcd hr (by decide) (by rfl) (pa_cons (pv 0) (pa_cons (pv 1) pa_nil))))
    (pss_one (ps_ret (pe_tup (pa_cons (pe_op op_fdivW (pv 0) (pv 2)) (pa_cons (pe_op op_fdivW (pv 1) (pv 2)) pa_nil)))))), ?_⟩
    have hg := gcd_pos (p := p) hq
    have hd : CDivW 0 (Int.gcd p q : Int) := ⟨hg, (hb.between (by omega) (gcd_le hq)).log (by decide)⟩
    refine ⟨_, rfl, _, rfl, p, q, rfl, hp, by omega, ?_⟩
    refine ⟨_, rfl, _, rfl, _, _, rfl, rfl, hd, _, rfl, _, rfl, _, _, rfl, rfl, hd, len10 (by simp), fun r nr => ?_⟩
    exact k r _ (sm_upd nr) nr upd_same
def spTight : Sp := fun vs H Q _ => ∃ (L : Addr) (xs : List V) (ds : List Rec) (k : Nat), vs = [.ref L] ∧ H L = some (.lst xs) ∧ Obs rcO H xs ds ∧ ds.length ≤ 1000 ∧ RcB k ds ∧ 0 < k ∧ k ≤ 8000 ∧
  ∀ R H' wl wu lo up, Same H H' → H' R = some (.tup [wl, wu]) → PrV H' wl lo → PrV H' wu up → PB k lo → PB k up → LoOk (SD ds) lo → UpOk (SD ds) up → Q (.ref R) H'
abbrev s_tight_pairs : Stmt := topS 24
abbrev N_tight_pairs : List Str := ["records", "lows", "highs"]
abbrev P_tight_pairs : List Str := ["records"]
theorem sc_tight_pairs : FnScope N_tight_pairs P_tight_pairs (defScope s_tight_pairs) := ⟨rfl, rfl, rfl, by decide +kernel, rfl, by decide +kernel, by decide +kernel⟩
theorem ok_tight_pairs (D : Df K mg "tight_pairs" s_tight_pairs P_tight_pairs) (c_split_records : C8.Cal P w K mg base 1 "split_records" spSplit []) (c_tighter_pairs : C8.Cal P w K mg base 1 "tighter_pairs" spTP []) : C8.Cal P w K mg base 2 "tight_pairs" spTight [] := by
  refine cal_of D sc_tight_pairs (fun vs H Q E h => ?_) (fun f cdv A outer s H vs Q E hr h => ?_)
  · obtain ⟨L, xs, ds, k, rfl, _⟩ := h
    rfl
  · obtain ⟨L, xs, ds, k, rfl, eL, hO, hl, bd, k0, k1, kk⟩ := h
    refine ⟨_, (pss_cons (ps_asg (C8.pe_c c_split_records hr (by decide) (by rfl) (pa_cons (pv 0) pa_nil)) (pg_tup rfl (pgs_cons (pg_name (i := 1) sc_tight_pairs.nd rfl (Or.inl rfl)) (pgs_cons (pg_name (i := 2) sc_tight_pairs.nd rfl (Or.inl rfl)) pgs_nil))))
    (pss_one (ps_ret (C8.pe_c c_tighter_pairs hr (by decide) (by rfl) (pa_cons (pe_tup (pa_cons pe_non (pa_cons pe_non pa_nil))) (pa_cons (pv 1) (pa_cons (pv 2) pa_nil))))))), ?_⟩
    refine ⟨_, rfl, L, xs, ds, rfl, eL, hO, hl, fun T H1 A' B' as bs s1 eT eA oA eB oB => ?_⟩
    refine ⟨T, _, rfl, SqT.of eT, rfl, _, _, rfl, _, _, rfl, rfl, ?_⟩
    refine ⟨len10 (by simp), fun N nN => ?_⟩
    have z := sm_upd (o := .tup [.non, .non]) nN
    have nf : ∀ x y : T3, (False ∨ x ∈ sel true 0 ds ∧ y ∈ sel false 0 ds) ↔ SD ds x y := fun x y => ⟨fun h => h.elim False.elim id, .inr⟩
    refine ⟨_, rfl, _, rfl, N, A', B', .non, .non, none, none, as, bs, _, _, fun _ _ => False, k, rfl, upd_same, rfl, rfl, z _ _ eA, oA.same z, z _ _ eB, oB.same z, sel_tb bd, sel_tb bd, fun _ h => (nomatch h), fun _ h => (nomatch h), fun _ _ h => h.elim, fun _ _ h => h.elim, k0, by omega, fun R H2 wl wu lo up s2 eR pl pu bl bu hl hu => ?_⟩
    exact kk R H2 wl wu lo up ((s1.trans z).trans s2) eR pl pu bl bu (hl.congr nf) (hu.congr nf)
def spLNR : Sp := fun vs H Q _ => ∃ (R : Addr) (wl wu : V) (lo up : Option T4) (k : Nat), vs = [.ref R] ∧ H R = some (.tup [wl, wu]) ∧ PrV H wl lo ∧ PrV H wu up ∧ PB k lo ∧ PB k up ∧ k ≤ 10000 ∧ Q (.bl (nr lo up)) H
abbrev s_leave_no_rate : Stmt := topS 26
abbrev N_leave_no_rate : List Str := ["pairs", "lower", "upper"]
abbrev P_leave_no_rate : List Str := ["pairs"]
theorem sc_leave_no_rate : FnScope N_leave_no_rate P_leave_no_rate (defScope s_leave_no_rate) := ⟨rfl, rfl, rfl, by decide +kernel, rfl, by decide +kernel, by decide +kernel⟩
theorem ok_leave_no_rate (D : Df K mg "leave_no_rate" s_leave_no_rate P_leave_no_rate) : C8.Cal P w K mg base 1 "leave_no_rate" spLNR [] := by
  refine cal_of D sc_leave_no_rate (fun vs H Q E h => ?_) (fun f cdv A outer s H vs Q E hr h => ?_)
  · obtain ⟨R, wl, wu, lo, up, k, rfl, _⟩ := h
    rfl
  · obtain ⟨R, wl, wu, lo, up, k, rfl, eR, pl, pu, bl, bu, k1, kk⟩ := h
    refine ⟨_, (pss_cons (ps_asg (pv 0) (pg_tup rfl (pgs_cons (pg_name (i := 1) sc_leave_no_rate.nd rfl (Or.inl rfl)) (pgs_cons (pg_name (i := 2) sc_leave_no_rate.nd rfl (Or.inl rfl)) pgs_nil))))
    (pss_cons (ps_if (pt_cmpR op_isN (pv 2) pe_non (nomark _))
      (pss_one (ps_ret pe_bl))
      pss_nil)
    (pss_one (ps_ret (pe_or (pe_cmpR op_le (pe_ix (r := rIxT K) ix_tup (pv 2) pe_int (fun _ _ => rfl)) pe_int (nomark _)) (pe_one (pe_and (pe_cmpR op_notN (pv 1) pe_non (nomark _)) (pe_one (pe_cmpR op_ge (pe_op op_mulW (pe_ix (r := rIxT K) ix_tup (pv 1) pe_int (fun _ _ => rfl)) (pe_ix (r := rIxT K) ix_tup (pv 2) pe_int (fun _ _ => rfl))) (pe_op op_mulW (pe_ix (r := rIxT K) ix_tup (pv 2) pe_int (fun _ _ => rfl)) (pe_ix (r := rIxT K) ix_tup (pv 1) pe_int (fun _ _ => rfl))) (nomark _)))))))))), ?_⟩
    refine ⟨_, rfl, R, _, rfl, SqT.of eR, rfl, _, _, rfl, _, _, rfl, rfl, ?_⟩
    cases up with
    | none =>
      have e : wu = .non := pu
      subst e
      have kk : Q (.bl false) H := by
        cases lo <;> exact kk
      exact ⟨_, rfl, rfl, _, rfl, iteT kk⟩
    | some z =>
      obtain ⟨rz, rfl, ez⟩ := pu
      obtain ⟨b1, b2⟩ := bu z rfl
      refine ⟨_, rfl, rfl, _, rfl, iteF ?_⟩
      refine ⟨_, rfl, rz, _, _, _, rfl, rfl, SqT.of ez, atI_nat (j := 0) rfl, _, _, rfl, rfl, _, rfl, ?_⟩
      cases lo with
      | none =>
        have e : wl = .non := pl
        subst e
        refine ite2 (fun c => ?_) (fun c => ?_)
        · have kk : Q (.bl (decide (z.1 ≤ 0))) H := kk
          rw [c] at kk
          exact kk
        · refine ⟨_, rfl, rfl, _, rfl, iteF ?_⟩
          have kk : Q (.bl (decide (z.1 ≤ 0))) H := kk
          rw [bool_f c] at kk
          exact kk
      | some l =>
        obtain ⟨rl, rfl, el⟩ := pl
        obtain ⟨b3, b4⟩ := bl l rfl
        have kk : Q (.bl (decide (z.1 ≤ 0) || decide (z.1 * l.2.1 ≤ l.1 * z.2.1))) H := kk
        refine ite2 (fun c => ?_) (fun c => ?_)
        · rw [c] at kk
          exact kk
        · rw [bool_f c] at kk
          refine ⟨_, rfl, rfl, _, rfl, iteT ?_⟩
          exact ⟨_, rfl, rl, _, _, _, rfl, rfl, SqT.of el, atI_nat (j := 0) rfl, _, rfl, rz, _, _, _, rfl, rfl, SqT.of ez, atI_nat (j := 1) rfl, _, _, rfl, rfl, mulW b3 b2 (by omega) (by omega) (by omega), _, rfl, rz, _, _, _, rfl, rfl, SqT.of ez, atI_nat (j := 0) rfl, _, rfl, rl, _, _, _, rfl, rfl, SqT.of el, atI_nat (j := 1) rfl, _, _, rfl, rfl, mulW b1 b4 (by omega) (by omega) (by omega), _, _, rfl, rfl, kk⟩
/-- what rate_ends gives -/
def RV (H : Hp) (k : Nat) (v : V) (lo up : Option T4) : Prop := (nr lo up = true ∧ v = .non) ∨ (nr lo up = false ∧ ∃ T a b, v = .ref T ∧ H T = some (.tup [a, b]) ∧ EndV H (k + 2) a (lowE lo) ∧ EndV H (k + 2) b (highE up))
def spRateEnds (m : Nat) : Sp := fun vs H Q _ => ∃ (L : Addr) (xs : List V) (ds : List Rec) (k : Nat), vs = [.ref L] ∧ H L = some (.lst xs) ∧ Obs rcO H xs ds ∧ ds.length ≤ m ∧ RcB k ds ∧ 0 < k ∧ k ≤ 8000 ∧
  ∀ H' v lo up, Same H H' → LoOk (SD ds) lo → UpOk (SD ds) up → PB k lo → PB k up → RV H' k v lo up → Q v H'
abbrev s_rate_ends : Stmt := topS 27
abbrev N_rate_ends : List Str := ["records", "pairs", "lower", "upper", "low", "high"]
abbrev P_rate_ends : List Str := ["records"]
theorem sc_rate_ends : FnScope N_rate_ends P_rate_ends (defScope s_rate_ends) := ⟨rfl, rfl, rfl, by decide +kernel, rfl, by decide +kernel, by decide +kernel⟩
theorem ok_rate_ends (D : Df K mg "rate_ends" s_rate_ends P_rate_ends) (c_tight_pairs : C8.Cal P w K mg base 2 "tight_pairs" spTight []) (c_leave_no_rate : C8.Cal P w K mg base 1 "leave_no_rate" spLNR []) (c_reduce_rate : C8.Cal P w K mg base 2 "reduce_rate" spRedR []) : C8.Cal P w K mg base 3 "rate_ends" (spRateEnds 1000) [] := by
  refine cal_of D sc_rate_ends (fun vs H Q E h => ?_) (fun f cdv A outer s H vs Q E hr h => ?_)
  · obtain ⟨L, xs, ds, k, rfl, _⟩ := h
    rfl
  · obtain ⟨L, xs, ds, k, rfl, eL, hO, hl, bd, k0, k1, kk⟩ := h
    refine ⟨_, (pss_cons (ps_set (i := 1) sc_rate_ends.nd rfl (Or.inl rfl) (C8.pe_c c_tight_pairs hr (by decide) (by rfl) (pa_cons (pv 0) pa_nil)))
    (pss_cons (ps_if (pt_val (C8.pe_c c_leave_no_rate hr (by decide) (by rfl) (pa_cons (pv 1) pa_nil)))
      (pss_one (ps_ret pe_non))
      pss_nil)
    (pss_cons (ps_asg (pv 1) (pg_tup rfl (pgs_cons (pg_name (i := 2) sc_rate_ends.nd rfl (Or.inl rfl)) (pgs_cons (pg_name (i := 3) sc_rate_ends.nd rfl (Or.inl rfl)) pgs_nil))))
    (C8.pss_cut (ps_set (i := 4) sc_rate_ends.nd rfl (Or.inl rfl) (pe_ifExp (PW.pt (pw_or (pt_cmpR op_isN (pv 2) pe_non (nomark _)) (pw_or1 (pt_cmpR op_lt (pe_ix (r := rIxT K) ix_tup (pv 2) pe_int (fun _ _ => rfl)) pe_int (nomark _))))) pe_non (C8.pe_c c_reduce_rate hr (by decide) (by rfl) (pa_cons (pe_ix (r := rIxT K) ix_tup (pv 2) pe_int (fun _ _ => rfl)) (pa_cons (pe_ix (r := rIxT K) ix_tup (pv 2) pe_int (fun _ _ => rfl)) pa_nil)))))
    (C8.pss_cut (ps_set (i := 5) sc_rate_ends.nd rfl (Or.inl rfl) (pe_ifExp (pt_cmpR op_isN (pv 3) pe_non (nomark _)) pe_non (C8.pe_c c_reduce_rate hr (by decide) (by rfl) (pa_cons (pe_ix (r := rIxT K) ix_tup (pv 3) pe_int (fun _ _ => rfl)) (pa_cons (pe_ix (r := rIxT K) ix_tup (pv 3) pe_int (fun _ _ => rfl)) pa_nil)))))
    (pss_one (ps_ret (pe_tup (pa_cons (pv 4) (pa_cons (pv 5) pa_nil)))))))))), ?_⟩
    refine ⟨_, rfl, L, xs, ds, k, rfl, eL, hO, hl, bd, k0, k1, fun R H1 wl wu lo up s1 eR pl pu bl bu hlo hup => ?_⟩
    refine ⟨_, rfl, R, wl, wu, lo, up, k, rfl, eR, pl, pu, bl, bu, by omega, ?_⟩
    refine ⟨_, rfl, ?_⟩
    cases hn : nr lo up with
    | true =>
      refine iteT ?_
      exact kk _ _ lo up s1 hlo hup bl bu (.inl ⟨hn, rfl⟩)
    | false =>
      refine iteF ?_
      refine ⟨_, rfl, R, _, rfl, SqT.of eR, rfl, _, _, rfl, _, _, rfl, rfl, ?_⟩
      refine ⟨fun σ' H' => ∃ va, σ' = [some (.ref L), some (.ref R), some wl, some wu, some va, none] ∧ Same H1 H' ∧ EndV H' (k + 2) va (lowE lo), ?_, ?_⟩
      · cases lo with
        | none =>
          have e : wl = .non := pl
          subst e
          refine ⟨_, rfl, rfl, _, rfl, iteT (iteT ?_)⟩
          exact ⟨_, rfl, Same.refl _, rfl⟩
        | some z =>
          obtain ⟨rz, rfl, ez⟩ := pl
          obtain ⟨b1, b2⟩ := bl z rfl
          have dz := hlo.den z rfl
          refine ⟨_, rfl, rfl, _, rfl, iteF ?_⟩
          refine ⟨_, rfl, rz, _, _, _, rfl, rfl, SqT.of ez, atI_nat (j := 0) rfl, _, _, rfl, rfl, _, rfl, ite2 (fun c => ?_) (fun c => ?_)⟩
          · have c : z.1 < 0 := of_decide_eq_true c
            refine ⟨_, rfl, Same.refl _, ?_⟩
            show EndV H1 (k + 2) .non (if z.1 < 0 then none else some (redE z))
            rw [if_pos c]
            rfl
          · have c : ¬ z.1 < 0 := fun h => c (decide_eq_true h)
            refine ⟨_, rfl, rz, _, _, _, rfl, rfl, SqT.of ez, atI_nat (j := 0) rfl, _, rfl, rz, _, _, _, rfl, rfl, SqT.of ez, atI_nat (j := 1) rfl, z.1, z.2.1, rfl, by omega, dz, b2.mono (by omega), fun r H2 s2 nr er => ?_⟩
            refine ⟨_, rfl, s2, ?_⟩
            show EndV H2 (k + 2) (.ref r) (if z.1 < 0 then none else some (redE z))
            rw [if_neg c]
            exact ⟨r, rfl, er, redRt (by omega) dz b1 b2⟩
      rintro σ H2 ⟨va, rfl, s2, hva⟩
      refine ⟨fun σ' H' => ∃ vb, σ' = [some (.ref L), some (.ref R), some wl, some wu, some va, some vb] ∧ Same H2 H' ∧ EndV H' (k + 2) vb (highE up), ?_, ?_⟩
      · cases up with
        | none =>
          have e : wu = .non := pu
          subst e
          refine ⟨_, rfl, rfl, _, rfl, iteT ?_⟩
          exact ⟨_, rfl, Same.refl _, rfl⟩
        | some z =>
          obtain ⟨rz, rfl, ez⟩ := pu
          have ez := s2 _ _ ez
          obtain ⟨b1, b2⟩ := bu z rfl
          have dz := hup.den z rfl
          have pz : 0 < z.1 := by
            rcases Int.lt_or_le 0 z.1 with h | h
            · exact h
            · exfalso
              cases lo with
              | none =>
                have hn : decide (z.1 ≤ 0) = false := hn
                rw [decide_eq_true h] at hn
                cases hn
              | some l =>
                have hn : (decide (z.1 ≤ 0) || decide (z.1 * l.2.1 ≤ l.1 * z.2.1)) = false := hn
                rw [decide_eq_true h] at hn
                cases hn
          refine ⟨_, rfl, rfl, _, rfl, iteF ?_⟩
          refine ⟨_, rfl, rz, _, _, _, rfl, rfl, SqT.of ez, atI_nat (j := 0) rfl, _, rfl, rz, _, _, _, rfl, rfl, SqT.of ez, atI_nat (j := 1) rfl, z.1, z.2.1, rfl, by omega, dz, b2.mono (by omega), fun r H3 s3 nr er => ?_⟩
          exact ⟨_, rfl, s3, r, rfl, er, redRt (by omega) dz b1 b2⟩
      rintro σ H3 ⟨vb, rfl, s3, hvb⟩
      refine ⟨_, rfl, _, rfl, len10 (by simp), fun T nT => ?_⟩
      have z := sm_upd (o := .tup [va, vb]) nT
      exact kk _ _ lo up (((s1.trans s2).trans s3).trans z) hlo hup bl bu (.inr ⟨hn, T, va, vb, rfl, upd_same, (hva.sm s3).sm z, hvb.sm z⟩)
end
end Lf
namespace Lf
open PySem PySem.Spec PyProof.Rows L2
section
variable {P : Program} {w : World} {K : PySem.W.Frag} {mg : Str → Option Value} {base : Heap} {C : Addr}
def spTightS : Sp := fun vs H Q _ => ∃ (L : Addr) (kb : Bool) (xs : List V) (ds : List Rec) (k : Nat), vs = [.ref L] ∧ H L = some (sqO kb xs) ∧ Obs rcO H xs ds ∧ ds.length ≤ 1000 ∧ RcB k ds ∧ 0 < k ∧ k ≤ 8000 ∧
  ∀ R H' wl wu lo up, Same H H' → H' R = some (.tup [wl, wu]) → PrV H' wl lo → PrV H' wu up → PB k lo → PB k up → LoOk (SD ds) lo → UpOk (SD ds) up → Q (.ref R) H'
theorem okS_tight_pairs (D : Df K mg "tight_pairs" s_tight_pairs P_tight_pairs) (c_split_records : C8.Cal P w K mg base 1 "split_records" spSplitS []) (c_tighter_pairs : C8.Cal P w K mg base 1 "tighter_pairs" spTP []) : C8.Cal P w K mg base 2 "tight_pairs" spTightS [] := by
  refine cal_of D sc_tight_pairs (fun vs H Q E h => ?_) (fun f cdv A outer s H vs Q E hr h => ?_)
  · obtain ⟨L, kb, xs, ds, k, rfl, _⟩ := h
    rfl
  · obtain ⟨L, kb, xs, ds, k, rfl, eL, hO, hl, bd, k0, k1, kk⟩ := h
    refine ⟨_, (pss_cons (ps_asg (C8.pe_c c_split_records hr (by decide) (by rfl) (pa_cons (pv 0) pa_nil)) (pg_tup rfl (pgs_cons (pg_name (i := 1) sc_tight_pairs.nd rfl (Or.inl rfl)) (pgs_cons (pg_name (i := 2) sc_tight_pairs.nd rfl (Or.inl rfl)) pgs_nil))))
    (pss_one (ps_ret (C8.pe_c c_tighter_pairs hr (by decide) (by rfl) (pa_cons (pe_tup (pa_cons pe_non (pa_cons pe_non pa_nil))) (pa_cons (pv 1) (pa_cons (pv 2) pa_nil))))))), ?_⟩
    refine ⟨_, rfl, L, kb, xs, ds, rfl, eL, hO, hl, fun T H1 A' B' as bs s1 eT eA oA eB oB => ?_⟩
    refine ⟨T, _, rfl, SqT.of eT, rfl, _, _, rfl, _, _, rfl, rfl, ?_⟩
    refine ⟨len10 (by simp), fun N nN => ?_⟩
    have z := sm_upd (o := .tup [.non, .non]) nN
    have nf : ∀ x y : T3, (False ∨ x ∈ sel true 0 ds ∧ y ∈ sel false 0 ds) ↔ SD ds x y := fun x y => ⟨fun h => h.elim False.elim id, .inr⟩
    refine ⟨_, rfl, _, rfl, N, A', B', .non, .non, none, none, as, bs, _, _, fun _ _ => False, k, rfl, upd_same, rfl, rfl, z _ _ eA, oA.same z, z _ _ eB, oB.same z, sel_tb bd, sel_tb bd, fun _ h => (nomatch h), fun _ h => (nomatch h), fun _ _ h => h.elim, fun _ _ h => h.elim, k0, by omega, fun R H2 wl wu lo up s2 eR pl pu bl bu hl hu => ?_⟩
    exact kk R H2 wl wu lo up ((s1.trans z).trans s2) eR pl pu bl bu (hl.congr nf) (hu.congr nf)
def spRateEndsS (m : Nat) : Sp := fun vs H Q _ => ∃ (L : Addr) (kb : Bool) (xs : List V) (ds : List Rec) (k : Nat), vs = [.ref L] ∧ H L = some (sqO kb xs) ∧ Obs rcO H xs ds ∧ ds.length ≤ m ∧ RcB k ds ∧ 0 < k ∧ k ≤ 8000 ∧
  ∀ H' v lo up, Same H H' → LoOk (SD ds) lo → UpOk (SD ds) up → PB k lo → PB k up → RV H' k v lo up → Q v H'
theorem okS_rate_ends (D : Df K mg "rate_ends" s_rate_ends P_rate_ends) (c_tight_pairs : C8.Cal P w K mg base 2 "tight_pairs" spTightS []) (c_leave_no_rate : C8.Cal P w K mg base 1 "leave_no_rate" spLNR []) (c_reduce_rate : C8.Cal P w K mg base 2 "reduce_rate" spRedR []) : C8.Cal P w K mg base 3 "rate_ends" (spRateEndsS 1000) [] := by
  refine cal_of D sc_rate_ends (fun vs H Q E h => ?_) (fun f cdv A outer s H vs Q E hr h => ?_)
  · obtain ⟨L, kb, xs, ds, k, rfl, _⟩ := h
    rfl
  · obtain ⟨L, kb, xs, ds, k, rfl, eL, hO, hl, bd, k0, k1, kk⟩ := h
    refine ⟨_, (pss_cons (ps_set (i := 1) sc_rate_ends.nd rfl (Or.inl rfl) (C8.pe_c c_tight_pairs hr (by decide) (by rfl) (pa_cons (pv 0) pa_nil)))
    (pss_cons (ps_if (pt_val (C8.pe_c c_leave_no_rate hr (by decide) (by rfl) (pa_cons (pv 1) pa_nil)))
      (pss_one (ps_ret pe_non))
      pss_nil)
    (pss_cons (ps_asg (pv 1) (pg_tup rfl (pgs_cons (pg_name (i := 2) sc_rate_ends.nd rfl (Or.inl rfl)) (pgs_cons (pg_name (i := 3) sc_rate_ends.nd rfl (Or.inl rfl)) pgs_nil))))
    (C8.pss_cut (ps_set (i := 4) sc_rate_ends.nd rfl (Or.inl rfl) (pe_ifExp (PW.pt (pw_or (pt_cmpR op_isN (pv 2) pe_non (nomark _)) (pw_or1 (pt_cmpR op_lt (pe_ix (r := rIxT K) ix_tup (pv 2) pe_int (fun _ _ => rfl)) pe_int (nomark _))))) pe_non (C8.pe_c c_reduce_rate hr (by decide) (by rfl) (pa_cons (pe_ix (r := rIxT K) ix_tup (pv 2) pe_int (fun _ _ => rfl)) (pa_cons (pe_ix (r := rIxT K) ix_tup (pv 2) pe_int (fun _ _ => rfl)) pa_nil)))))
    (C8.pss_cut (ps_set (i := 5) sc_rate_ends.nd rfl (Or.inl rfl) (pe_ifExp (pt_cmpR op_isN (pv 3) pe_non (nomark _)) pe_non (C8.pe_c c_reduce_rate hr (by decide) (by rfl) (pa_cons (pe_ix (r := rIxT K) ix_tup (pv 3) pe_int (fun _ _ => rfl)) (pa_cons (pe_ix (r := rIxT K) ix_tup (pv 3) pe_int (fun _ _ => rfl)) pa_nil)))))
    (pss_one (ps_ret (pe_tup (pa_cons (pv 4) (pa_cons (pv 5) pa_nil)))))))))), ?_⟩
    refine ⟨_, rfl, L, kb, xs, ds, k, rfl, eL, hO, hl, bd, k0, k1, fun R H1 wl wu lo up s1 eR pl pu bl bu hlo hup => ?_⟩
    refine ⟨_, rfl, R, wl, wu, lo, up, k, rfl, eR, pl, pu, bl, bu, by omega, ?_⟩
    refine ⟨_, rfl, ?_⟩
    cases hn : nr lo up with
    | true =>
      refine iteT ?_
      exact kk _ _ lo up s1 hlo hup bl bu (.inl ⟨hn, rfl⟩)
    | false =>
      refine iteF ?_
      refine ⟨_, rfl, R, _, rfl, SqT.of eR, rfl, _, _, rfl, _, _, rfl, rfl, ?_⟩
      refine ⟨fun σ' H' => ∃ va, σ' = [some (.ref L), some (.ref R), some wl, some wu, some va, none] ∧ Same H1 H' ∧ EndV H' (k + 2) va (lowE lo), ?_, ?_⟩
      · cases lo with
        | none =>
          have e : wl = .non := pl
          subst e
          refine ⟨_, rfl, rfl, _, rfl, iteT (iteT ?_)⟩
          exact ⟨_, rfl, Same.refl _, rfl⟩
        | some z =>
          obtain ⟨rz, rfl, ez⟩ := pl
          obtain ⟨b1, b2⟩ := bl z rfl
          have dz := hlo.den z rfl
          refine ⟨_, rfl, rfl, _, rfl, iteF ?_⟩
          refine ⟨_, rfl, rz, _, _, _, rfl, rfl, SqT.of ez, atI_nat (j := 0) rfl, _, _, rfl, rfl, _, rfl, ite2 (fun c => ?_) (fun c => ?_)⟩
          · have c : z.1 < 0 := of_decide_eq_true c
            refine ⟨_, rfl, Same.refl _, ?_⟩
            show EndV H1 (k + 2) .non (if z.1 < 0 then none else some (redE z))
            rw [if_pos c]
            rfl
          · have c : ¬ z.1 < 0 := fun h => c (decide_eq_true h)
            refine ⟨_, rfl, rz, _, _, _, rfl, rfl, SqT.of ez, atI_nat (j := 0) rfl, _, rfl, rz, _, _, _, rfl, rfl, SqT.of ez, atI_nat (j := 1) rfl, z.1, z.2.1, rfl, by omega, dz, b2.mono (by omega), fun r H2 s2 nr er => ?_⟩
            refine ⟨_, rfl, s2, ?_⟩
            show EndV H2 (k + 2) (.ref r) (if z.1 < 0 then none else some (redE z))
            rw [if_neg c]
            exact ⟨r, rfl, er, redRt (by omega) dz b1 b2⟩
      rintro σ H2 ⟨va, rfl, s2, hva⟩
      refine ⟨fun σ' H' => ∃ vb, σ' = [some (.ref L), some (.ref R), some wl, some wu, some va, some vb] ∧ Same H2 H' ∧ EndV H' (k + 2) vb (highE up), ?_, ?_⟩
      · cases up with
        | none =>
          have e : wu = .non := pu
          subst e
          refine ⟨_, rfl, rfl, _, rfl, iteT ?_⟩
          exact ⟨_, rfl, Same.refl _, rfl⟩
        | some z =>
          obtain ⟨rz, rfl, ez⟩ := pu
          have ez := s2 _ _ ez
          obtain ⟨b1, b2⟩ := bu z rfl
          have dz := hup.den z rfl
          have pz : 0 < z.1 := by
            rcases Int.lt_or_le 0 z.1 with h | h
            · exact h
            · exfalso
              cases lo with
              | none =>
                have hn : decide (z.1 ≤ 0) = false := hn
                rw [decide_eq_true h] at hn
                cases hn
              | some l =>
                have hn : (decide (z.1 ≤ 0) || decide (z.1 * l.2.1 ≤ l.1 * z.2.1)) = false := hn
                rw [decide_eq_true h] at hn
                cases hn
          refine ⟨_, rfl, rfl, _, rfl, iteF ?_⟩
          refine ⟨_, rfl, rz, _, _, _, rfl, rfl, SqT.of ez, atI_nat (j := 0) rfl, _, rfl, rz, _, _, _, rfl, rfl, SqT.of ez, atI_nat (j := 1) rfl, z.1, z.2.1, rfl, by omega, dz, b2.mono (by omega), fun r H3 s3 nr er => ?_⟩
          exact ⟨_, rfl, s3, r, rfl, er, redRt (by omega) dz b1 b2⟩
      rintro σ H3 ⟨vb, rfl, s3, hvb⟩
      refine ⟨_, rfl, _, rfl, len10 (by simp), fun T nT => ?_⟩
      have z := sm_upd (o := .tup [va, vb]) nT
      exact kk _ _ lo up (((s1.trans s2).trans s3).trans z) hlo hup bl bu (.inr ⟨hn, T, va, vb, rfl, upd_same, (hva.sm s3).sm z, hvb.sm z⟩)
def spRatesX (C : Addr) : Sp := fun vs H _ E => ∃ (v : V) (j : Int), vs = [v] ∧ CkBad H v j ∧ ∀ H', Same H H' → OutY C "index" (.int j) H' E
end
end Lf
namespace Lf
open PySem PySem.Spec PyProof.Rows L2
/-! ### the bounds of the rates are the same however the pairs are listed -/
theorem cop_dvd {a b c d : Int} (g1 : Int.gcd a b = 1) (e : a * d = c * b) : b ∣ d := by
  have n1 : b.natAbs ∣ a.natAbs * d.natAbs := by
    rw [← Int.natAbs_mul, e]
    exact Int.natAbs_dvd_natAbs.mpr (Int.dvd_mul_left c b)
  have n2 : Nat.Coprime b.natAbs a.natAbs := by
    unfold Nat.Coprime
    rw [Nat.gcd_comm]
    exact g1
  exact Int.natAbs_dvd_natAbs.mp (Nat.Coprime.dvd_of_dvd_mul_left n2 n1)
theorem cop_uniq {a b c d : Int} (hb : 1 ≤ b) (hd : 1 ≤ d) (g1 : Int.gcd a b = 1) (g2 : Int.gcd c d = 1) (e : a * d = c * b) : a = c ∧ b = d := by
  have h1 := Int.le_of_dvd (by omega) (cop_dvd g1 e)
  have h2 := Int.le_of_dvd (by omega) (cop_dvd g2 e.symm)
  have h3 : b = d := by omega
  subst h3
  exact ⟨Int.eq_of_mul_eq_mul_right (by omega) e, rfl⟩
theorem red_eq {z z' : T4} (d : 1 ≤ z.2.1) (d' : 1 ≤ z'.2.1) (e : z.1 * z'.2.1 = z'.1 * z.2.1) : redE z = redE z' := by
  have g := gcd_pos (p := z.1) d
  have g' := gcd_pos (p := z'.1) d'
  have e1 : (Int.gcd z.1 z.2.1 : Int) * (z.1 / (Int.gcd z.1 z.2.1 : Int)) = z.1 := Int.mul_ediv_cancel' (Int.gcd_dvd_left ..)
  have e2 : (Int.gcd z.1 z.2.1 : Int) * (z.2.1 / (Int.gcd z.1 z.2.1 : Int)) = z.2.1 := Int.mul_ediv_cancel' (Int.gcd_dvd_right ..)
  have e3 : (Int.gcd z'.1 z'.2.1 : Int) * (z'.1 / (Int.gcd z'.1 z'.2.1 : Int)) = z'.1 := Int.mul_ediv_cancel' (Int.gcd_dvd_left ..)
  have e4 : (Int.gcd z'.1 z'.2.1 : Int) * (z'.2.1 / (Int.gcd z'.1 z'.2.1 : Int)) = z'.2.1 := Int.mul_ediv_cancel' (Int.gcd_dvd_right ..)
  have c1 : Int.gcd (z.1 / (Int.gcd z.1 z.2.1 : Int)) (z.2.1 / (Int.gcd z.1 z.2.1 : Int)) = 1 := Int.gcd_ediv_gcd_ediv_gcd (by omega)
  have c2 : Int.gcd (z'.1 / (Int.gcd z'.1 z'.2.1 : Int)) (z'.2.1 / (Int.gcd z'.1 z'.2.1 : Int)) = 1 := Int.gcd_ediv_gcd_ediv_gcd (by omega)
  show (z.1 / (Int.gcd z.1 z.2.1 : Int), z.2.1 / (Int.gcd z.1 z.2.1 : Int)) = (z'.1 / (Int.gcd z'.1 z'.2.1 : Int), z'.2.1 / (Int.gcd z'.1 z'.2.1 : Int))
  generalize z.1 / (Int.gcd z.1 z.2.1 : Int) = a at *
  generalize z.2.1 / (Int.gcd z.1 z.2.1 : Int) = b at *
  generalize z'.1 / (Int.gcd z'.1 z'.2.1 : Int) = c at *
  generalize z'.2.1 / (Int.gcd z'.1 z'.2.1 : Int) = f at *
  generalize (Int.gcd z.1 z.2.1 : Int) = G at *
  generalize (Int.gcd z'.1 z'.2.1 : Int) = G' at *
  have hb : 1 ≤ b := by
    have : 0 < b * G := by
      rw [Int.mul_comm]
      omega
    have := pos_of_mul this (by omega)
    omega
  have hf : 1 ≤ f := by
    have : 0 < f * G' := by
      rw [Int.mul_comm]
      omega
    have := pos_of_mul this (by omega)
    omega
  have key : a * f = c * b := by
    have h1 : (a * f) * (G * G') = (c * b) * (G * G') := by
      have h2 : (a * f) * (G * G') = (G * a) * (G' * f) := by grind
      have h3 : (c * b) * (G * G') = (G' * c) * (G * b) := by grind
      rw [h2, h3, e1, e2, e3, e4]
      exact e
    exact Int.eq_of_mul_eq_mul_right (by have := Int.mul_pos (show 0 < G by omega) (show 0 < G' by omega); omega) h1
  obtain ⟨h1, h2⟩ := cop_uniq hb hf c1 c2 key
  rw [h1, h2]
def Cov (S S' : T3 → T3 → Prop) : Prop := ∀ x y, S x y → ∃ x' y', S' x' y' ∧ x'.2 = x.2 ∧ y'.2 = y.2
def SameF : Option T4 → Option T4 → Prop
  | none, none => True
  | some z, some z' => z.1 * z'.2.1 = z'.1 * z.2.1 ∧ 1 ≤ z.2.1 ∧ 1 ≤ z'.2.1
  | _, _ => False
theorem bot_congr {x y x' y' : T3} (e1 : x'.2 = x.2) (e2 : y'.2 = y.2) : bot x' y' = bot x y := by
  unfold bot
  rw [e1, e2]
theorem uc_congr {x y x' y' : T3} (e1 : x'.2 = x.2) (e2 : y'.2 = y.2) (h : uc x y) : uc x' y' := by
  unfold uc at *
  rw [e1, e2]
  exact h
theorem lo_same {S S' : T3 → T3 → Prop} {lo lo' : Option T4} (h : LoOk S lo) (h' : LoOk S' lo') (c : Cov S S') (c' : Cov S' S) : SameF lo lo' := by
  cases lo with
  | none =>
    cases lo' with
    | none => trivial
    | some z' =>
      obtain ⟨⟨x, y, s, g, _⟩, _⟩ := h'
      obtain ⟨x', y', s', e1, e2⟩ := c' x y s
      exact absurd (by rw [e1, e2]; exact g) (h x' y' s')
  | some z =>
    cases lo' with
    | none =>
      obtain ⟨⟨x, y, s, g, _⟩, _⟩ := h
      obtain ⟨x', y', s', e1, e2⟩ := c x y s
      exact absurd (by rw [e1, e2]; exact g) (h' x' y' s')
    | some z' =>
      have d := h.den z rfl
      have d' := h'.den z' rfl
      obtain ⟨⟨x, y, s, g, rfl⟩, m⟩ := h
      obtain ⟨⟨u, v, s', g', rfl⟩, m'⟩ := h'
      obtain ⟨x1, y1, s1, e1, e2⟩ := c x y s
      obtain ⟨u1, v1, s2, e3, e4⟩ := c' u v s'
      have q1 := m' x1 y1 s1 (by rw [e1, e2]; exact g)
      have q2 := m u1 v1 s2 (by rw [e3, e4]; exact g')
      rw [e1, e2] at q1
      rw [e3, e4] at q2
      exact ⟨by show (x.2.2 - y.2.2 - 1) * (u.2.1 - v.2.1) = (u.2.2 - v.2.2 - 1) * (x.2.1 - y.2.1); exact Int.le_antisymm q1 q2, d, d'⟩
theorem up_same {S S' : T3 → T3 → Prop} {up up' : Option T4} (h : UpOk S up) (h' : UpOk S' up') (c : Cov S S') (c' : Cov S' S) : SameF up up' := by
  cases up with
  | none =>
    cases up' with
    | none => trivial
    | some z' =>
      obtain ⟨⟨x, y, s, g, _⟩, _⟩ := h'
      obtain ⟨x', y', s', e1, e2⟩ := c' x y s
      exact absurd (uc_congr e1 e2 g) (h x' y' s')
  | some z =>
    cases up' with
    | none =>
      obtain ⟨⟨x, y, s, g, _⟩, _⟩ := h
      obtain ⟨x', y', s', e1, e2⟩ := c x y s
      exact absurd (uc_congr e1 e2 g) (h' x' y' s')
    | some z' =>
      have d := h.den z rfl
      have d' := h'.den z' rfl
      obtain ⟨⟨x, y, s, g, rfl⟩, m⟩ := h
      obtain ⟨⟨u, v, s', g', rfl⟩, m'⟩ := h'
      obtain ⟨x1, y1, s1, e1, e2⟩ := c x y s
      obtain ⟨u1, v1, s2, e3, e4⟩ := c' u v s'
      have q1 := m' x1 y1 s1 (uc_congr e1 e2 g)
      have q2 := m u1 v1 s2 (uc_congr e3 e4 g')
      rw [bot_congr e1 e2, e1, e2] at q1
      rw [bot_congr e3 e4, e3, e4] at q2
      exact ⟨by show (y.2.2 + 1 - x.2.2) * bot u v = (v.2.2 + 1 - u.2.2) * bot x y; exact Int.le_antisymm q2 q1, d, d'⟩
theorem nonneg_iff {a b c d : Int} (hb : 1 ≤ b) (hd : 1 ≤ d) (e : a * d = c * b) : (a < 0 ↔ c < 0) ∧ (a ≤ 0 ↔ c ≤ 0) := by
  have p1 : a < 0 ↔ a * d < 0 := ⟨fun h => Int.mul_neg_of_neg_of_pos h (by omega), fun h => by
    rcases Int.lt_or_le a 0 with z | z
    · exact z
    · have := Int.mul_nonneg z (show 0 ≤ d by omega)
      omega⟩
  have p2 : c < 0 ↔ c * b < 0 := ⟨fun h => Int.mul_neg_of_neg_of_pos h (by omega), fun h => by
    rcases Int.lt_or_le c 0 with z | z
    · exact z
    · have := Int.mul_nonneg z (show 0 ≤ b by omega)
      omega⟩
  have p3 : 0 < a ↔ 0 < a * d := ⟨fun h => Int.mul_pos h (by omega), fun h => pos_of_mul h (by omega)⟩
  have p4 : 0 < c ↔ 0 < c * b := ⟨fun h => Int.mul_pos h (by omega), fun h => pos_of_mul h (by omega)⟩
  omega
theorem lowE_same {lo lo' : Option T4} (h : SameF lo lo') : lowE lo = lowE lo' := by
  cases lo with
  | none =>
    cases lo' with
    | none => rfl
    | some z => exact h.elim
  | some z =>
    cases lo' with
    | none => exact h.elim
    | some z' =>
      obtain ⟨e, d, d'⟩ := h
      have n := (nonneg_iff d d' e).1
      show (if z.1 < 0 then none else some (redE z)) = (if z'.1 < 0 then none else some (redE z'))
      rw [red_eq d d' e]
      by_cases c : z.1 < 0
      · rw [if_pos c, if_pos (n.mp c)]
      · rw [if_neg c, if_neg (fun q => c (n.mpr q))]
theorem highE_same {up up' : Option T4} (h : SameF up up') : highE up = highE up' := by
  cases up with
  | none =>
    cases up' with
    | none => rfl
    | some z => exact h.elim
  | some z =>
    cases up' with
    | none => exact h.elim
    | some z' =>
      obtain ⟨e, d, d'⟩ := h
      show some (redE z) = some (redE z')
      rw [red_eq d d' e]
theorem le_frac {a b c d a' b' c' d' : Int} (hb : 1 ≤ b) (hd : 1 ≤ d) (hb' : 1 ≤ b') (hd' : 1 ≤ d') (e1 : a * b' = a' * b) (e2 : c * d' = c' * d) (h : a * d ≤ c * b) : a' * d' ≤ c' * b' := by
  have h1 := Int.mul_le_mul_of_nonneg_right h (show 0 ≤ b' * d' by have := Int.mul_pos (show 0 < b' by omega) (show 0 < d' by omega); omega)
  have h2 : a * d * (b' * d') = (a' * d') * (b * d) := by
    have : a * d * (b' * d') = (a * b') * (d * d') := by grind
    rw [this, e1]
    grind
  have h3 : c * b * (b' * d') = (c' * b') * (b * d) := by
    have : c * b * (b' * d') = (c * d') * (b * b') := by grind
    rw [this, e2]
    grind
  rw [h2, h3] at h1
  exact Int.le_of_mul_le_mul_right h1 (Int.mul_pos (by omega) (by omega))
theorem nr_same {lo lo' up up' : Option T4} (h : SameF lo lo') (h2 : SameF up up') : nr lo up = nr lo' up' := by
  cases up with
  | none =>
    cases up' with
    | none => cases lo <;> cases lo' <;> rfl
    | some z => exact h2.elim
  | some z =>
    cases up' with
    | none => exact h2.elim
    | some z' =>
      obtain ⟨e, d, d'⟩ := h2
      have n := (nonneg_iff d d' e).2
      have n' : decide (z.1 ≤ 0) = decide (z'.1 ≤ 0) := decide_eq_decide.mpr n
      cases lo with
      | none =>
        cases lo' with
        | none => exact n'
        | some l => exact h.elim
      | some l =>
        cases lo' with
        | none => exact h.elim
        | some l' =>
          obtain ⟨e0, f, f'⟩ := h
          show (decide (z.1 ≤ 0) || decide (z.1 * l.2.1 ≤ l.1 * z.2.1)) = (decide (z'.1 ≤ 0) || decide (z'.1 * l'.2.1 ≤ l'.1 * z'.2.1))
          rw [n', decide_eq_decide.mpr (⟨fun q => le_frac d f d' f' e e0 q, fun q => le_frac d' f' d f e.symm e0.symm q⟩ : z.1 * l.2.1 ≤ l.1 * z.2.1 ↔ z'.1 * l'.2.1 ≤ l'.1 * z'.2.1)]
theorem nr_zero {S : T3 → T3 → Prop} {lo up : Option T4} {x y : T3} (hu : UpOk S up) (s : S x y) (e1 : x.2.1 = y.2.1) (e2 : y.2.2 + 1 - x.2.2 ≤ 0) : nr lo up = true := by
  have u : uc x y := ⟨by omega, .inr (by omega)⟩
  cases up with
  | none => exact absurd u (hu x y s)
  | some z =>
    have d := hu.den z rfl
    have h := hu.2 x y s u
    have b := bot_pos x y
    have h2 := Int.mul_le_mul_of_nonneg_right e2 (show 0 ≤ z.2.1 by omega)
    rw [Int.zero_mul] at h2
    have le : z.1 ≤ 0 := by
      rcases Int.lt_or_le 0 z.1 with g | g
      · have := Int.mul_pos g (show 0 < bot x y by omega)
        omega
      · exact g
    cases lo with
    | none => exact decide_eq_true le
    | some l =>
      show (decide (z.1 ≤ 0) || _) = true
      rw [decide_eq_true le]
      rfl
/-- what rates gives, as data -/
def endD : Option (Int × Int) → PyData
  | none => .none
  | some e => .tuple [.int e.1, .int e.2]
def resD (lo up : Option T4) : PyData := if nr lo up = true then .none else .tuple [endD (lowE lo), endD (highE up)]
theorem end_dv {H : Hp} {k : Nat} {v : V} {e : Option (Int × Int)} (h : EndV H k v e) : Dv H v (endD e) := by
  cases e with
  | none =>
    have h : v = .non := h
    subst h
    exact .non
  | some e =>
    obtain ⟨a, rfl, ea, _⟩ := h
    exact .tup ea (.cons (.int _) (.cons (.int _) .nil))
theorem show_end {H : Hp} {k : Nat} {v : V} {e : Option (Int × Int)} (hk : k ≤ 1900) (h : EndV H k v e) : (endD e).showable = true ∧ (endD e).depth ≤ 1 ∧ (endD e).shown.length ≤ 10000 := by
  cases e with
  | none => exact ⟨rfl, by decide, by decide +kernel⟩
  | some e =>
    obtain ⟨a, _, _, r⟩ := h
    have bp := r.bp
    have bq := r.bq
    have g1 : e.1.natAbs.log2 < 1920 := (bp.mono (show k ≤ 1920 by omega)).log (by decide)
    have g2 : e.2.natAbs.log2 < 1920 := (bq.mono (show k ≤ 1920 by omega)).log (by decide)
    have l1 := PyProof.Rows.int_text_len_1921 g1
    have l2 := PyProof.Rows.int_text_len_1921 g2
    refine ⟨by simp [endD, PyData.showable, PyData.showableAll, g1, g2], by show 1 ≤ 1; decide, ?_⟩
    have := tupleText_len_le (PyData.shownAll [.int e.1, .int e.2])
    show (tupleText (PyData.shownAll [.int e.1, .int e.2])).length ≤ 10000
    have q : ((PyData.shownAll [.int e.1, .int e.2]).map (·.length)).sum = (toString e.1 : Str).length + ((toString e.2 : Str).length + 0) := rfl
    have q2 : (PyData.shownAll [.int e.1, .int e.2]).length = 2 := rfl
    rw [q, q2] at this
    omega
theorem rv_dv {H : Hp} {k : Nat} {v : V} {lo up : Option T4} (hk : k ≤ 1800) (h : RV H k v lo up) : Dv H v (resD lo up) ∧ (resD lo up).showable = true ∧ (resD lo up).depth ≤ 60 ∧ (resD lo up).shown.length ≤ sizeLine := by
  unfold resD
  rcases h with ⟨e, rfl⟩ | ⟨e, T, a, b, rfl, eT, h1, h2⟩
  · rw [if_pos e]
    exact ⟨.non, rfl, by decide, by rw [sizeLine_eq]; decide +kernel⟩
  · rw [if_neg (by rw [e]; exact Bool.false_ne_true)]
    obtain ⟨s1, d1, l1⟩ := show_end (show k + 2 ≤ 1900 by omega) h1
    obtain ⟨s2, d2, l2⟩ := show_end (show k + 2 ≤ 1900 by omega) h2
    refine ⟨.tup eT (.cons (end_dv h1) (.cons (end_dv h2) .nil)), ?_, ?_, ?_⟩
    · simp [PyData.showable, PyData.showableAll, s1, s2]
    · simp only [PyData.depth, PyData.depthAll]
      omega
    · have := tupleText_len_le (PyData.shownAll [endD (lowE lo), endD (highE up)])
      show (tupleText (PyData.shownAll [endD (lowE lo), endD (highE up)])).length ≤ sizeLine
      have q : ((PyData.shownAll [endD (lowE lo), endD (highE up)]).map (·.length)).sum = (endD (lowE lo)).shown.length + ((endD (highE up)).shown.length + 0) := rfl
      have q2 : (PyData.shownAll [endD (lowE lo), endD (highE up)]).length = 2 := rfl
      rw [q, q2] at this
      rw [sizeLine_eq]
      omega
end Lf
namespace Lf
open PySem PySem.Spec PyProof.Rows L2
section
variable {P : Program} {w : World} {K : PySem.W.Frag} {mg : Str → Option Value} {base : Heap} {C : Addr}
/-! ### _law_handed: a copy as a list or as a tuple -/
def spHanded : Sp := fun vs H Q _ => ∃ (a : PA) (n : Nat) (L : Addr) (xs : List V), vs = [.ref a, .ref L] ∧ Pen H a n ∧ n < 2 ^ 38 ∧ H L = some (.lst xs) ∧
  ∀ F kb H', H' F = some (sqO kb xs) → Pen H' a (n + 1) → Fr H H' → Q (.ref F) H'
end
/-! ### what is refused stays so -/
theorem CkBad.kp {H H' : Hp} {v : V} {j : Int} (h : CkBad H v j) (f : Kp H H') : CkBad H' v j := by
  have sq : ∀ {a : Addr} {kb : Bool} {xs : List V}, H a = some (sqO kb xs) → H' a = some (sqO kb xs) := fun {a kb xs} e => by
    cases kb
    · exact f.t _ _ e
    · exact f.l _ _ e
  cases h with
  | kind dv ik => exact .kind (Dv.kp f _ _ dv) ik
  | long e l => exact .long (sq e) l
  | item e l o hx dx rg rb => exact .item (sq e) l (o.keep fun b d eb => f.t _ _ eb) hx (Dv.kp f _ _ dx) rg rb
theorem sq_kp {H H' : Hp} (f : Kp H H') {a : Addr} {kb : Bool} {xs : List V} (e : H a = some (sqO kb xs)) : H' a = some (sqO kb xs) := by
  cases kb
  · exact f.t _ _ e
  · exact f.l _ _ e
end Lf
namespace Lf
open PySem PySem.Spec PyProof.Rows L2
section
variable {P : Program} {w : World} {K : PySem.W.Frag} {mg : Str → Option Value} {base : Heap} {C CV : Addr}
def spPhES : Sp := fun vs H Q _ => ∃ (L rt : Addr) (kb : Bool) (xs : List V) (ds : List Rec) (p q : Int) (k : Nat), vs = [.ref L, .ref rt] ∧ H L = some (sqO kb xs) ∧ Obs rcO H xs ds ∧ ds.length ≤ 1000 ∧ H rt = some (tup2 p q) ∧ RcB k ds ∧ Bd k p ∧ Bd k q ∧ 0 < k ∧ k ≤ 100000 ∧
  ∀ T H' a b, Same H H' → H T = none → H' T = some (.tup [oV a, oV b]) → IsMx (lph p q ds) a → IsMn (hph p q ds) b → Q (.ref T) H'
abbrev s_phase_ends : Stmt := topS 29
abbrev N_phase_ends : List Str := ["records", "rate", "p", "q", "lows", "highs", "least", "greatest", "i", "t", "n", "j", "u", "m"]
abbrev P_phase_ends : List Str := ["records", "rate"]
theorem sc_phase_ends : FnScope N_phase_ends P_phase_ends (defScope s_phase_ends) := ⟨rfl, rfl, rfl, by decide +kernel, rfl, by decide +kernel, by decide +kernel⟩
theorem okS_phase_ends (D : Df K mg "phase_ends" s_phase_ends P_phase_ends) (B : Bi mg) (c_split_records : C8.Cal P w K mg base 1 "split_records" spSplitS []) : C8.Cal P w K mg base 2 "phase_ends" spPhES [] := by
  refine cal_of D sc_phase_ends (fun vs H Q E h => ?_) (fun f cdv A outer s H vs Q E hr h => ?_)
  · obtain ⟨L, rt, kb, xs, ds, p, q, k, rfl, _⟩ := h
    rfl
  · obtain ⟨L, rt, kb, xs, ds, p, q, k, rfl, eL, hO, hl, er, bd, bp, bq, k0, k1, kk⟩ := h
    refine ⟨_, (pss_cons (ps_asg (pv 1) (pg_tup rfl (pgs_cons (pg_name (i := 2) sc_phase_ends.nd rfl (Or.inr rfl)) (pgs_cons (pg_name (i := 3) sc_phase_ends.nd rfl (Or.inr rfl)) pgs_nil))))
    (pss_cons (ps_asg (C8.pe_c c_split_records hr (by decide) (by rfl) (pa_cons (pv 0) pa_nil)) (pg_tup rfl (pgs_cons (pg_name (i := 4) sc_phase_ends.nd rfl (Or.inl rfl)) (pgs_cons (pg_name (i := 5) sc_phase_ends.nd rfl (Or.inl rfl)) pgs_nil))))
    (pss_cons (ps_set (i := 6) sc_phase_ends.nd rfl (Or.inl rfl) (pe_callBK (cr_maxD rfl hr.units) (by rfl) B.max_ bt_max (pa_cons (pe_lc (own := [("i", 8), ("t", 9), ("n", 10)]) (g := (gTup K 3 (gCons (gName 8) (gCons (gName 9) (gCons (gName 10) gNil))))) (by rfl) sc_phase_ends.nd (pi_list (pv 4)) (blkOk_by (own := [("i", 8), ("t", 9), ("n", 10)]) (N := N_phase_ends) (sc := defScope s_phase_ends) (by decide +kernel)) (fun _ _ _ _ _ => (pg_tup rfl (pgs_cons (pg_name (i := 8) sc_phase_ends.nd rfl (Or.inl rfl)) (pgs_cons (pg_name (i := 9) sc_phase_ends.nd rfl (Or.inl rfl)) (pgs_cons (pg_name (i := 10) sc_phase_ends.nd rfl (Or.inl rfl)) pgs_nil))))) (fun _ _ _ _ _ => pts_nil) (fun _ _ _ _ _ => (pe_op op_sub (pe_op op_mulW (pv 10) (pv 3)) (pe_op op_mulW (pv 2) (pv 9))))) pa_nil) (pk_cons pe_non pk_nil)))
    (pss_cons (ps_set (i := 7) sc_phase_ends.nd rfl (Or.inl rfl) (pe_callBK (cr_minD rfl hr.units) (by rfl) B.min_ bt_min (pa_cons (pe_lc (own := [("j", 11), ("u", 12), ("m", 13)]) (g := (gTup K 3 (gCons (gName 11) (gCons (gName 12) (gCons (gName 13) gNil))))) (by rfl) sc_phase_ends.nd (pi_list (pv 5)) (blkOk_by (own := [("j", 11), ("u", 12), ("m", 13)]) (N := N_phase_ends) (sc := defScope s_phase_ends) (by decide +kernel)) (fun _ _ _ _ _ => (pg_tup rfl (pgs_cons (pg_name (i := 11) sc_phase_ends.nd rfl (Or.inl rfl)) (pgs_cons (pg_name (i := 12) sc_phase_ends.nd rfl (Or.inl rfl)) (pgs_cons (pg_name (i := 13) sc_phase_ends.nd rfl (Or.inl rfl)) pgs_nil))))) (fun _ _ _ _ _ => pts_nil) (fun _ _ _ _ _ => (pe_op op_sub (pe_op op_sub (pe_op op_mulW (pe_op op_add (pv 13) pe_int) (pv 3)) (pe_op op_mulW (pv 2) (pv 12))) pe_int))) pa_nil) (pk_cons pe_non pk_nil)))
    (pss_one (ps_ret (pe_tup (pa_cons (pv 6) (pa_cons (pv 7) pa_nil))))))))), ?_⟩
    refine ⟨_, rfl, rt, _, rfl, SqT.of er, rfl, _, _, rfl, _, _, rfl, rfl, ?_⟩
    refine ⟨_, rfl, L, kb, xs, ds, rfl, eL, hO, hl, fun T H1 A' B' as bs s1 eT eA oA eB oB => ?_⟩
    refine ⟨T, _, rfl, SqT.of eT, rfl, _, _, rfl, _, _, rfl, rfl, ?_⟩
    refine ⟨_, rfl, A', rfl, ⟨_, SqL.of eA⟩, fun D1 nD1 => ?_⟩
    refine lc_list (K := K) (a := A') (xs := as) (fun i H' => Same H1 H' ∧ H' D1 = some (.lst ((((sel true 0 ds).take i).map fun x => x.2.2 * q - p * x.2.1).map V.int))) ⟨sm_upd nD1, upd_same⟩ ?_ ?_ ?_
    · rintro i H2 _ ⟨s2, _⟩
      exact SqL.of (s2 _ _ eA)
    · rintro i x H2 hx ⟨s2, e2⟩
      obtain ⟨r, d, rfl, ed, hd⟩ := oA.at hx
      have bb := sel_bd bd (List.mem_of_getElem? hd)
      have hi := (List.getElem?_eq_some_iff.mp hd).1
      have hz := sel_len true 0 ds
      refine ⟨r, _, rfl, SqT.of (s2 _ _ ed), rfl, _, _, rfl, _, _, rfl, _, _, rfl, rfl, ?_⟩
      refine ⟨rfl, _, rfl, _, rfl, _, _, rfl, rfl, mulW bb.2 bq k0 k0 (by omega), _, rfl, _, rfl, _, _, rfl, rfl, mulW bp bb.1 k0 k0 (by omega), _, _, rfl, rfl, _, e2, ?_, ?_, ?_⟩
      · rw [List.length_map, List.length_map, List.length_take]
        exact small1000 (by omega)
      · intro b o eb
        rw [upd_ne (ne_of_none eb nD1)]
        exact s2 _ _ eb
      · rw [upd_same, List.take_add_one, hd, List.map_append, List.map_append]
        rfl
    rintro H2 ⟨s2, e2⟩
    rw [List.take_of_length_le (by rw [oA.len]; exact Nat.le_refl _)] at e2
    refine ⟨D1, _, rfl, rfl, SqL.of e2, fun a ha => ?_⟩
    refine ⟨_, rfl, B', rfl, ⟨_, SqL.of (s2 _ _ eB)⟩, fun D2 nD2 => ?_⟩
    refine lc_list (K := K) (a := B') (xs := bs) (fun i H' => Same H2 H' ∧ H' D2 = some (.lst ((((sel false 0 ds).take i).map fun x => (x.2.2 + 1) * q - p * x.2.1 - 1).map V.int))) ⟨sm_upd nD2, upd_same⟩ ?_ ?_ ?_
    · rintro i H3 _ ⟨s3, _⟩
      exact SqL.of (s3 _ _ (s2 _ _ eB))
    · rintro i x H3 hx ⟨s3, e3⟩
      obtain ⟨r, d, rfl, ed, hd⟩ := oB.at hx
      have bb := sel_bd bd (List.mem_of_getElem? hd)
      have hi := (List.getElem?_eq_some_iff.mp hd).1
      have hz := sel_len false 0 ds
      refine ⟨r, _, rfl, SqT.of (s3 _ _ (s2 _ _ ed)), rfl, _, _, rfl, _, _, rfl, _, _, rfl, rfl, ?_⟩
      have b1 : Bd (k + 1) (d.2.2 + 1) := Bd.add bb.2 (Bd.small 1 (by decide) (by omega))
      refine ⟨rfl, _, rfl, _, _, rfl, rfl, _, rfl, _, _, rfl, rfl, mulW b1 bq (by omega) k0 (by omega), _, rfl, _, rfl, _, _, rfl, rfl, mulW bp bb.1 k0 k0 (by omega), _, _, rfl, rfl, _, _, rfl, rfl, _, e3, ?_, ?_, ?_⟩
      · rw [List.length_map, List.length_map, List.length_take]
        exact small1000 (by omega)
      · intro b o eb
        rw [upd_ne (ne_of_none eb nD2)]
        exact s3 _ _ eb
      · rw [upd_same, List.take_add_one, hd, List.map_append, List.map_append]
        rfl
    rintro H3 ⟨s3, e3⟩
    rw [List.take_of_length_le (by rw [oB.len]; exact Nat.le_refl _)] at e3
    refine ⟨D2, _, rfl, rfl, SqL.of e3, fun b hb => ?_⟩
    refine ⟨_, rfl, _, rfl, len10 (by simp), fun T2 nT2 => ?_⟩
    refine kk T2 _ a b (((s1.trans s2).trans s3).trans (sm_upd nT2)) ?_ upd_same ha hb
    cases z : H T2 with
    | none => rfl
    | some o =>
      rw [((s1.trans s2).trans s3) _ _ z] at nT2
      cases nT2
def spRFS : Sp := fun vs H Q _ => ∃ (L rt : Addr) (kb : Bool) (xs : List V) (ds : List Rec) (p q : Int) (k : Nat), vs = [.ref L, .ref rt] ∧ H L = some (sqO kb xs) ∧ Obs rcO H xs ds ∧ ds.length ≤ 1000 ∧ H rt = some (tup2 p q) ∧ RcB k ds ∧ Bd k p ∧ Bd k q ∧ 0 < k ∧ k ≤ 100000 ∧
  ∀ H' a b, Same H H' → IsMx (lph p q ds) a → IsMn (hph p q ds) b → Q (.bl (okPh a b)) H'
def spPhasesS : Sp := fun vs H Q _ => ∃ (L rt : Addr) (kb : Bool) (xs : List V) (ds : List Rec) (p q : Int) (k : Nat), vs = [.ref L, .ref rt] ∧ H L = some (sqO kb xs) ∧ Obs rcO H xs ds ∧ ds.length ≤ 200 ∧ H rt = some (tup2 p q) ∧ RcB k ds ∧ Rt k p q ∧ 0 < k ∧ k ≤ 100000 ∧
  ∀ H' a b v, Same H H' → IsMx (lph p q ds) a → IsMn (hph p q ds) b → ((okPh a b = false ∧ v = .non) ∨ (okPh a b = true ∧ ∃ T, v = .ref T ∧ H T = none ∧ H' T = some (.tup [oV a, oV b]))) → Q v H'
/-! ### phases, refused -/
def spPhasesX (C CV : Addr) : Sp := fun vs H _ E => ∃ (v rv : V), vs = [v, rv] ∧ ((∃ j, CkBad H v j ∧ ∀ H', Same H H' → OutY C "index" (.int j) H' E) ∨
  ∃ (L : Addr) (kb : Bool) (xs : List V) (ds : List Rec) (d : PyData), v = .ref L ∧ H L = some (sqO kb xs) ∧ Obs rcO H xs ds ∧ ds.length ≤ 200 ∧ Dv H rv d ∧ rateD d = false ∧ ∀ H', Same H H' → OutX CV "value" rv H' E)
end
end Lf
namespace Lf
open PySem PySem.Spec PyProof.Rows L2
/-! ### what the phases say -/
def geO : Option Int → Int → Prop
  | none, _ => True
  | some x, c => x ≤ c
def leO : Option Int → Int → Prop
  | none, _ => True
  | some x, c => c ≤ x
theorem fit_lo {p q c : Int} {d : Rec} (hq : 1 ≤ q) (h : d.lo = true) : fitB p q c d = true ↔ d.n * q - p * d.t ≤ c := by
  unfold fitB
  rw [if_pos h, decide_eq_true_eq, Int.le_ediv_iff_mul_le (by omega)]
  omega
theorem fit_hi {p q c : Int} {d : Rec} (hq : 1 ≤ q) (h : d.lo = false) : fitB p q c d = true ↔ c ≤ (d.n + 1) * q - p * d.t - 1 := by
  unfold fitB
  rw [if_neg (by rw [h]; exact Bool.false_ne_true), decide_eq_true_eq, ← Int.lt_add_one_iff, Int.ediv_lt_iff_lt_mul (by omega)]
  omega
theorem mem_lph {p q x : Int} {ds : List Rec} : x ∈ lph p q ds ↔ ∃ d ∈ ds, d.lo = true ∧ x = d.n * q - p * d.t := by
  unfold lph
  constructor
  · intro h
    obtain ⟨y, hy, rfl⟩ := List.mem_map.mp h
    obtain ⟨i, d, e, hb, rfl⟩ := sel_mem hy
    exact ⟨d, List.mem_of_getElem? e, hb, rfl⟩
  · rintro ⟨d, hd, hb, rfl⟩
    obtain ⟨i, e⟩ := List.mem_iff_getElem?.mp hd
    exact List.mem_map.mpr ⟨_, mem_sel e hb 0, rfl⟩
theorem mem_hph {p q x : Int} {ds : List Rec} : x ∈ hph p q ds ↔ ∃ d ∈ ds, d.lo = false ∧ x = (d.n + 1) * q - p * d.t - 1 := by
  unfold hph
  constructor
  · intro h
    obtain ⟨y, hy, rfl⟩ := List.mem_map.mp h
    obtain ⟨i, d, e, hb, rfl⟩ := sel_mem hy
    exact ⟨d, List.mem_of_getElem? e, hb, rfl⟩
  · rintro ⟨d, hd, hb, rfl⟩
    obtain ⟨i, e⟩ := List.mem_iff_getElem?.mp hd
    exact List.mem_map.mpr ⟨_, mem_sel e hb 0, rfl⟩
theorem fit_iff {p q c : Int} {ds : List Rec} {a b : Option Int} (hq : 1 ≤ q) (ha : IsMx (lph p q ds) a) (hb : IsMn (hph p q ds) b) : ds.all (fitB p q c) = true ↔ geO a c ∧ leO b c := by
  rw [List.all_eq_true]
  constructor
  · intro h
    constructor
    · cases a with
      | none => trivial
      | some x =>
        obtain ⟨d, hd, hl, rfl⟩ := mem_lph.mp ha.1
        exact (fit_lo hq hl).mp (h d hd)
    · cases b with
      | none => trivial
      | some x =>
        obtain ⟨d, hd, hl, rfl⟩ := mem_hph.mp hb.1
        exact (fit_hi hq hl).mp (h d hd)
  · rintro ⟨h1, h2⟩ d hd
    cases hl : d.lo with
    | true =>
      have m : d.n * q - p * d.t ∈ lph p q ds := mem_lph.mpr ⟨d, hd, hl, rfl⟩
      refine (fit_lo hq hl).mpr ?_
      cases a with
      | none =>
        rw [show lph p q ds = [] from ha] at m
        cases m
      | some x =>
        have := ha.2 _ m
        have h1 : x ≤ c := h1
        omega
    | false =>
      have m : (d.n + 1) * q - p * d.t - 1 ∈ hph p q ds := mem_hph.mpr ⟨d, hd, hl, rfl⟩
      refine (fit_hi hq hl).mpr ?_
      cases b with
      | none =>
        rw [show hph p q ds = [] from hb] at m
        cases m
      | some x =>
        have := hb.2 _ m
        have h2 : c ≤ x := h2
        omega
theorem mx_bd {k : Nat} {p q x : Int} {ds : List Rec} (k0 : 0 < k) (bd : RcB k ds) (bp : Bd k p) (bq : Bd k q) (h : IsMx (lph p q ds) (some x)) : Bd (2 * k + 2) x := by
  obtain ⟨d, hd, _, rfl⟩ := mem_lph.mp h.1
  exact (Bd.sub ((Bd.mul (bd d hd).2 bq).mono (by omega : k + k ≤ 2 * k)) ((Bd.mul bp (bd d hd).1).mono (by omega))).mono (by omega)
theorem mn_bd {k : Nat} {p q x : Int} {ds : List Rec} (k0 : 0 < k) (bd : RcB k ds) (bp : Bd k p) (bq : Bd k q) (h : IsMn (hph p q ds) (some x)) : Bd (2 * k + 3) x := by
  obtain ⟨d, hd, _, rfl⟩ := mem_hph.mp h.1
  have b1 : Bd (k + 1) (d.n + 1) := Bd.add (bd d hd).2 (Bd.small 1 (by decide) (by omega))
  exact Bd.sub (Bd.sub ((Bd.mul b1 bq).mono (by omega : k + 1 + k ≤ 2 * k + 1)) ((Bd.mul bp (bd d hd).1).mono (by omega))) (Bd.small 1 (by decide) (by omega))
end Lf
namespace Lf
open PySem PySem.Spec PyProof.Rows L2
/-! ### rules: any value -/
def ruleD : PyData → Bool
  | .tuple [.int p, .int q, .int _] => decide (0 ≤ p) && (decide (1 ≤ q) && decide (V.int (Int.gcd p q : Int) = V.int 1))
  | _ => false
theorem rule_three {ds : List PyData} (h : ds.length ≠ 3) : ruleD (.tuple ds) = false := by
  unfold ruleD
  split
  · rename_i p q c e
    cases e
    exact absurd rfl h
  · rfl
theorem rule_i {d0 d1 d2 : PyData} (h : ([isI d0, isI d1, isI d2].all fun b => b) = false) : ruleD (.tuple [d0, d1, d2]) = false := by
  unfold ruleD
  split
  · rename_i p q c e
    cases e
    cases h
  · rfl
theorem isI_inv3 {H : Hp} {v : V} {d : PyData} (h : Dv H v d) (hi : isI d = true) : ∃ z, v = .int z ∧ d = .int z := by
  cases h with
  | int z => exact ⟨z, rfl, rfl⟩
  | _ => cases hi
section
variable {P : Program} {w : World} {K : PySem.W.Frag} {mg : Str → Option Value} {base : Heap} {C CV : Addr}
def spIsRuleD : Sp := fun vs H Q _ => ∃ (v : V) (d : PyData), vs = [v] ∧ Dv H v d ∧ ∀ H', Same H H' → Q (.bl (ruleD d)) H'
theorem okA_is_rule (D : Df K mg "is_rule" s_is_rule P_is_rule) (B : Bi mg) (cA_is_integer : C8.Cal P w K mg base 1 "is_integer" spIsAny []) (c_gcd : C8.Cal P w K mg base 1 "gcd" spGcd []) : C8.Cal P w K mg base 2 "is_rule" spIsRuleD [] := by
  refine cal_of D sc_is_rule (fun vs H Q E h => ?_) (fun f cdv A outer s H vs Q E hr h => ?_)
  · obtain ⟨v, d, rfl, _⟩ := h
    rfl
  · obtain ⟨v, d, rfl, dv, kk⟩ := h
    have c_is_integer := cA_is_integer
    refine ⟨_, (pss_cons (ps_if (PW.pt (pw_or (pt_not (pt_val (pe_callB (call_isi) (by rfl) B.isinstance_ bt_isinstance (pa_cons (pv 0) (pa_cons (pe_bltn (v := .ty "tuple") (by rfl) B.tuple_ bt_tuple rfl) pa_nil))))) (pw_or1 (pt_cmpR op_ne (pe_callB (call_len_seq) (by rfl) B.len_ bt_len (pa_cons (pv 0) pa_nil)) pe_int (nomark _)))))
      (pss_one (ps_ret pe_bl))
      pss_nil)
    (pss_cons (ps_if (pt_not (pt_val (pe_callB (cr_all rfl) (by rfl) B.all_ bt_all (pa_cons (pe_lc (own := [("item", 1)]) (g := (gName 1)) (by rfl) sc_is_rule.nd (pi_tup (pv 0)) (blkOk_by (own := [("item", 1)]) (N := N_is_rule) (sc := defScope s_is_rule) (by decide +kernel)) (fun _ _ _ _ _ => (pg_name (i := 1) sc_is_rule.nd rfl (Or.inl rfl))) (fun _ _ _ _ _ => pts_nil) (fun _ _ _ _ _ => (C8.pe_c c_is_integer hr (by decide) (by rfl) (pa_cons (pv 1) pa_nil)))) pa_nil))))
      (pss_one (ps_ret pe_bl))
      pss_nil)
    (pss_one (ps_ret (pe_and (pe_cmpR op_ge (pe_ix (r := rIxT K) ix_tup (pv 0) pe_int (fun _ _ => rfl)) pe_int (nomark _)) (pe_and (pe_cmpR op_ge (pe_ix (r := rIxT K) ix_tup (pv 0) pe_int (fun _ _ => rfl)) pe_int (nomark _)) (pe_one (pe_cmpR op_eq (C8.pe_c c_gcd hr (by decide) (by rfl) (pa_cons (pe_ix (r := rIxT K) ix_tup (pv 0) pe_int (fun _ _ => rfl)) (pa_cons (pe_ix (r := rIxT K) ix_tup (pv 0) pe_int (fun _ _ => rfl)) pa_nil))) pe_int (nomark _))))))))), ?_⟩
    refine ⟨_, rfl, _, _, _, _, isT' d, rfl, .ty "tuple", dv.ty, kit_ty (kit_tup' d), isT' d, rfl, ?_⟩
    cases ht : isT' d with
    | false =>
      have e : ruleD d = false := by
        cases d <;> first | rfl | cases ht
      rw [e] at kk
      exact iteT (iteT (kk _ (Same.refl _)))
    | true =>
      cases dv with
      | tup er hs =>
        rename_i r xs ds
        refine iteF ⟨_, rfl, r, _, rfl, .inr (SqT.of er), rfl, _, rfl, ?_⟩
        have hl := dva_length hs
        by_cases h3 : xs.length = 3
        · match xs, ds, hs, h3, hl with
          | [v0, v1, v2], [d0, d1, d2], hs, _, _ =>
            cases hs with
            | cons g0 hs =>
              cases hs with
              | cons g1 hs =>
                cases hs with
                | cons g2 hs =>
                  refine iteNS rfl ?_
                  refine ⟨_, rfl, r, rfl, ⟨_, SqT.of er⟩, fun L nL => ?_⟩
                  refine lc_tup (K := K) (a := r) (xs := [v0, v1, v2]) (fun i H' => Same H H' ∧ H' L = some (.lst ((([isI d0, isI d1, isI d2] : List Bool).take i).map V.bl))) ?_ ?_ ?_ ?_
                  · exact ⟨sm_upd nL, upd_same⟩
                  · rintro i H' hi ⟨s1, _⟩
                    exact SqT.of (s1 _ _ er)
                  · rintro i x H' hx ⟨s1, eL⟩
                    have hi : i < 3 := (List.getElem?_eq_some_iff.mp hx).1
                    have kz := (Fr.same s1).kp
                    obtain ⟨d, gd, e1⟩ : ∃ d, Dv H' x d ∧ (([isI d0, isI d1, isI d2] : List Bool).take (i + 1)) = (([isI d0, isI d1, isI d2] : List Bool).take i) ++ [isI d] := by
                      match i, hi with
                      | 0, _ =>
                        cases (Option.some.inj hx)
                        exact ⟨d0, Dv.kp kz _ _ g0, rfl⟩
                      | 1, _ =>
                        cases (Option.some.inj hx)
                        exact ⟨d1, Dv.kp kz _ _ g1, rfl⟩
                      | 2, _ =>
                        cases (Option.some.inj hx)
                        exact ⟨d2, Dv.kp kz _ _ g2, rfl⟩
                    refine ⟨rfl, _, rfl, x, d, rfl, gd, _, eL, ?_, ?_, ?_⟩
                    · rw [List.length_map, List.length_take]
                      exact small1000 (by omega)
                    · intro b o eb
                      rw [upd_ne (ne_of_none eb nL)]
                      exact s1 _ _ eb
                    · rw [upd_same, e1, List.map_append]
                      rfl
                  · rintro H' ⟨s1, eL⟩
                    have eL' : H' L = some (.lst ([isI d0, isI d1, isI d2].map V.bl)) := eL
                    have er' := s1 _ _ er
                    cases ha : ([isI d0, isI d1, isI d2].all fun b => b) with
                    | false =>
                      rw [rule_i ha] at kk
                      exact ⟨L, _, rfl, SqL.of eL', _, rfl, iteTs (by show (!([isI d0, isI d1, isI d2].all fun b => b)) = true; rw [ha]; rfl) (kk _ s1)⟩
                    | true =>
                      have i3 : isI d0 = true ∧ isI d1 = true ∧ isI d2 = true := by
                        simpa [List.all_cons] using ha
                      obtain ⟨p, rfl, rfl⟩ := isI_inv3 g0 i3.1
                      obtain ⟨q, rfl, rfl⟩ := isI_inv3 g1 i3.2.1
                      obtain ⟨c, rfl, rfl⟩ := isI_inv3 g2 i3.2.2
                      have kk : ∀ H', Same H H' → Q (.bl (decide (0 ≤ p) && (decide (1 ≤ q) && decide (V.int (Int.gcd p q : Int) = V.int 1)))) H' := kk
                      refine ⟨L, _, rfl, SqL.of eL', true, rfl, iteF ?_⟩
                      refine ⟨_, rfl, r, _, _, _, rfl, rfl, SqT.of er', atI_nat (j := 0) rfl, _, _, rfl, rfl, _, rfl, ite2 (fun c1 => ?_) (fun c1 => ?_)⟩
                      · have c1 : p ≥ 0 := of_decide_eq_true c1
                        rw [decide_eq_true (show 0 ≤ p from c1), Bool.true_and] at kk
                        refine ⟨_, rfl, r, _, _, _, rfl, rfl, SqT.of er', atI_nat (j := 1) rfl, _, _, rfl, rfl, _, rfl, ite2 (fun c2 => ?_) (fun c2 => ?_)⟩
                        · have c2 : q ≥ 1 := of_decide_eq_true c2
                          rw [decide_eq_true (show 1 ≤ q from c2), Bool.true_and] at kk
                          exact ⟨_, rfl, r, _, _, _, rfl, rfl, SqT.of er', atI_nat (j := 0) rfl, _, rfl, r, _, _, _, rfl, rfl, SqT.of er', atI_nat (j := 1) rfl, p, q, rfl, c1, by omega, rfl, kk _ s1⟩
                        · have c2 : ¬ q ≥ 1 := fun z => c2 (decide_eq_true z)
                          rw [decide_eq_false (show ¬ 1 ≤ q from c2), Bool.false_and] at kk
                          exact kk _ s1
                      · have c1 : ¬ p ≥ 0 := fun z => c1 (decide_eq_true z)
                        rw [decide_eq_false (show ¬ 0 ≤ p from c1), Bool.false_and] at kk
                        exact kk _ s1
        · rw [rule_three (by omega)] at kk
          exact iteTs (len_ne3 h3) (kk _ (Same.refl _))
      | _ => cases ht
/-- the exception, with the value -/
def OutX3 (C : Addr) (x : Str) (v : V) (H : Hp) (E : XK) : Prop := ∀ dd, H dd = none → E (.ref C) (some dd) (upd H dd (.xd [(x, v)]))
def spCkRuleX (C : Addr) : Sp := fun vs H Q E => ∃ (v : V) (d : PyData), vs = [v] ∧ Dv H v d ∧ (∀ H', Same H H' → ruleD d = true → Q .non H') ∧ ∀ H', Same H H' → ruleD d = false → OutX3 C "value" v H' E
end
end Lf
namespace Lf
open PySem PySem.Spec PyProof.Rows L2
section
variable {P : Program} {w : World} {K : PySem.W.Frag} {mg : Str → Option Value} {base : Heap} {C CV : Addr}
/-! ### fits_record, fits -/
def spFitsRec : Sp := fun vs H Q _ => ∃ (r e : Addr) (p q c : Int) (d : Rec) (k : Nat), vs = [.ref r, .ref e] ∧ H r = some (.tup [.int p, .int q, .int c]) ∧ H e = some (rcO d) ∧ 1 ≤ q ∧ Bd k p ∧ Bd k q ∧ Bd k d.t ∧ 0 < k ∧ k ≤ 9000 ∧ Q (.bl (fitB p q c d)) H
abbrev s_fits_record : Stmt := topS 22
abbrev N_fits_record : List Str := ["rule", "record", "p", "q", "c", "word", "time", "number", "reached"]
abbrev P_fits_record : List Str := ["rule", "record"]
theorem sc_fits_record : FnScope N_fits_record P_fits_record (defScope s_fits_record) := ⟨rfl, rfl, rfl, by decide +kernel, rfl, by decide +kernel, by decide +kernel⟩
theorem ok_fits_record (D : Df K mg "fits_record" s_fits_record P_fits_record) : C8.Cal P w K mg base 1 "fits_record" spFitsRec [] := by
  refine cal_of D sc_fits_record (fun vs H Q E h => ?_) (fun f cdv A outer s H vs Q E hr h => ?_)
  · obtain ⟨r, e, p, q, c, d, k, rfl, _⟩ := h
    rfl
  · obtain ⟨r, e, p, q, c, d, k, rfl, er, ee, q1, bp, bq, bt, k0, k1, kk⟩ := h
    refine ⟨_, (pss_cons (ps_asg (pv 0) (pg_tup rfl (pgs_cons (pg_name (i := 2) sc_fits_record.nd rfl (Or.inl rfl)) (pgs_cons (pg_name (i := 3) sc_fits_record.nd rfl (Or.inl rfl)) (pgs_cons (pg_name (i := 4) sc_fits_record.nd rfl (Or.inl rfl)) pgs_nil)))))
    (pss_cons (ps_asg (pv 1) (pg_tup rfl (pgs_cons (pg_name (i := 5) sc_fits_record.nd rfl (Or.inl rfl)) (pgs_cons (pg_name (i := 6) sc_fits_record.nd rfl (Or.inl rfl)) (pgs_cons (pg_name (i := 7) sc_fits_record.nd rfl (Or.inl rfl)) pgs_nil)))))
    (pss_cons (ps_set (i := 8) sc_fits_record.nd rfl (Or.inl rfl) (pe_op op_fdivW (pe_op op_add (pe_op op_mulW (pv 2) (pv 6)) (pv 4)) (pv 3)))
    (pss_one (ps_ret (pe_ifExp (pt_cmpR op_eq (pv 5) pe_str (nomark _)) (pe_cmpR op_ge (pv 8) (pv 7) (nomark _)) (pe_cmpR op_le (pv 8) (pv 7) (nomark _)))))))), ?_⟩
    refine ⟨_, rfl, r, _, rfl, SqT.of er, rfl, _, _, rfl, _, _, rfl, _, _, rfl, rfl, ?_⟩
    refine ⟨_, rfl, e, _, rfl, SqT.of ee, rfl, _, _, rfl, _, _, rfl, _, _, rfl, rfl, ?_⟩
    refine ⟨_, rfl, _, rfl, _, _, rfl, rfl, mulW bp bt k0 k0 (by omega), _, rfl, _, _, rfl, rfl, _, rfl, _, _, rfl, rfl, divW (by omega) bq (by omega), ?_⟩
    refine ⟨_, rfl, rfl, _, rfl, ?_⟩
    rw [w_lo]
    have kk : Q (.bl (if d.lo = true then decide (d.n ≤ (p * d.t + c) / q) else decide ((p * d.t + c) / q ≤ d.n))) H := kk
    cases hd : d.lo with
    | true =>
      rw [hd] at kk
      refine iteT ?_
      exact ⟨_, rfl, _, rfl, _, _, rfl, rfl, kk⟩
    | false =>
      rw [hd] at kk
      refine iteF ?_
      exact ⟨_, rfl, _, rfl, _, _, rfl, rfl, kk⟩
def spFitsS : Sp := fun vs H Q _ => ∃ (r L : Addr) (p q c : Int) (kb : Bool) (xs : List V) (ds : List Rec) (k : Nat), vs = [.ref r, .ref L] ∧ H r = some (.tup [.int p, .int q, .int c]) ∧ RuleB k p q c ∧ H L = some (sqO kb xs) ∧ Obs rcO H xs ds ∧ ds.length ≤ 200 ∧ RcB k ds ∧ 0 < k ∧ k ≤ 9000 ∧
  ∀ H', Same H H' → Q (.bl (ds.all (fitB p q c))) H'
/-! ### fits, refused -/
def spFitsX (C CV : Addr) : Sp := fun vs H _ E => ∃ (rv v : V), vs = [rv, v] ∧ ((∃ d, Dv H rv d ∧ ruleD d = false ∧ ∀ H', Same H H' → OutX3 CV "value" rv H' E) ∨
  ∃ (r : Addr) (p q c : Int) (k : Nat) (j : Int), rv = .ref r ∧ H r = some (.tup [.int p, .int q, .int c]) ∧ RuleB k p q c ∧ CkBad H v j ∧ ∀ H', Same H H' → OutY C "index" (.int j) H' E)
end
end Lf
namespace Lf
open PySem PySem.Spec PyProof.Rows L2
/-- repr of an int or of None -/
theorem repr_some {X : Cx} : CallR X (.builtin "repr") (fun xs H Q => (∃ i : Int, xs = [.int i] ∧ i.natAbs.log2 < 1920 ∧ Q (.str (toString i)) H) ∨ (xs = [.non] ∧ Q (.str "None") H)) := by
  intro pins s σ H xs us Q I rel h
  rcases h with h | ⟨rfl, hq⟩
  · exact SkE.call_repr_int pins s σ H xs us Q I rel h
  · obtain ⟨u, hu, ru⟩ := vals1 rel
    subst hu
    have eu : u = Value.none := ru
    subst eu
    exact PySem.P.repr_of_none ⟨.str "None", H, I.tok _, ⟨_, rfl⟩, hq⟩
theorem cut_take (xs : List V) (m : Int) (h : 0 ≤ m) : cutV xs none (some m) = xs.take m.toNat := by
  obtain ⟨n, rfl⟩ := Int.eq_ofNat_of_zero_le h
  unfold cutV
  rw [HT.sIx_none, show HT.sIx xs.length xs.length (some ((n : Nat) : Int)) = min n xs.length from HT.sIx_nat _ _ n, List.drop_zero, Nat.sub_zero]
  show xs.take (min n xs.length) = xs.take n
  by_cases hn : n ≤ xs.length
  · rw [Nat.min_eq_left hn]
  · rw [Nat.min_eq_right (by omega), List.take_of_length_le (Nat.le_refl _), List.take_of_length_le (by omega)]
theorem flat_ints (ns : List Int) : (ns.map V.int).all flatV = true := by
  induction ns with
  | nil => rfl
  | cons n r ih => simpa [flatV] using ih
theorem inV_ints (ns : List Int) (k : Int) : inV (V.int k) (ns.map V.int) = decide (k ∈ ns) := by
  induction ns with
  | nil => rfl
  | cons n r ih =>
    have ih' : ((r.map V.int).any fun y => eqV y (V.int k)) = decide (k ∈ r) := ih
    show (eqV (V.int n) (V.int k) || (r.map V.int).any fun y => eqV y (V.int k)) = decide (k ∈ n :: r)
    rw [ih']
    by_cases h : n = k
    · subst h
      simp [eqV]
    · have h' : ¬ k = n := fun z => h z.symm
      simp [eqV, h, h']
end Lf
namespace Lf
open PySem PySem.Spec PyProof.Rows L2
/-! ### tables of code objects, kept -/
theorem tabs_fr {T : List (Addr × Str)} {H H' : Hp} (t : LamX.Tabs T H) (f : Fr H H') : LamX.Tabs T H' := fun p hp => by
  obtain ⟨ps, h1, h2, h3⟩ := t p hp
  refine ⟨ps, f.k _ _ h1 (fun _ z => by cases z), h2, fun pos cv hc => ?_⟩
  obtain ⟨c, e1, e2⟩ := h3 pos cv hc
  exact ⟨c, e1, f.k _ _ e2 fun _ z => by unfold LamX.CodeO at z; cases z⟩
theorem tabs_same {T : List (Addr × Str)} {H H' : Hp} (t : LamX.Tabs T H) (s : Same H H') : LamX.Tabs T H' := tabs_fr t (Fr.same s)
theorem Pen.extN {H H' : Hp} {a : PA} {n : Nat} (p : Pen H a n) (e : LamX.ExtN H H') : Pen H' a n := by
  obtain ⟨cs, t, r, h1, h2, h3⟩ := p.ex
  exact ⟨cs, t, r, e _ _ h1 (fun _ z => by cases z), e _ _ h2 (fun _ z => by cases z), h3⟩
theorem tup_extN {H H' : Hp} {b : Addr} {xs : List V} (e : LamX.ExtN H H') (h : H b = some (.tup xs)) : H' b = some (.tup xs) := e _ _ h fun _ z => by cases z
def spLawT (K : PySem.W.Frag) (PT : Addr) : Sp := fun vs H Q _ => ∃ (a : Addr) (ns : List Int), vs = [.ref a] ∧ SqL K H a (ns.map V.int) ∧ ns.length ≤ 63 ∧ H PT = some (.tbl #[]) ∧ ∀ H', Q (.bl true) H'
theorem iteFs {b : Bool} {A B : Prop} (h : b = false) (hB : B) : if b = true then A else B := by
  rw [h, if_neg Bool.false_ne_true]
  exact hB
theorem notin_of {ns : List Int} {k : Int} (h : k ∈ ns) : (if true = true then !inV (V.int k) (ns.map V.int) else inV (V.int k) (ns.map V.int)) = false := by
  rw [if_pos rfl, inV_ints, decide_eq_true h]
  rfl
/-- two pairs that are the same are not different -/
theorem ne2 {K : PySem.W.Frag} {H : Hp} {r1 r2 : Addr} {p q p' q' : Int} {Q : V → Hp → Prop} (e1 : H r1 = some (.tup [.int p, .int q])) (e2 : H r2 = some (.tup [.int p', .int q'])) (hp : p = p') (hq : q = q') (h : Q (.bl false) H) : rNeD K (.ref r1) (.ref r2) H Q := by
  subst hp hq
  refine ⟨.tuple [.int p, .int q], .tuple [.int p, .int q], Dp.tup (SqT.of e1) (.cons (.int p) (.cons (.int q) .nil)), Dp.tup (SqT.of e2) (.cons (.int p) (.cons (.int q) .nil)), rfl, rfl, ?_⟩
  rw [SeqAt.eqv_refl _ rfl]
  exact h
abbrev qLam : Str := (("law" : Str) ++ (".<locals>." : Str)) ++ ("<lambda>" : Str)
end Lf
namespace Lf
open PySem PySem.Spec PyProof.Rows L2
/-- two rules that are the same are not different -/
theorem ne3 {K : PySem.W.Frag} {H : Hp} {r1 r2 : Addr} {p q c p' q' c' : Int} {Q : V → Hp → Prop} (e1 : H r1 = some (.tup [.int p, .int q, .int c])) (e2 : H r2 = some (.tup [.int p', .int q', .int c'])) (hp : p = p') (hq : q = q') (hc : c = c') (h : Q (.bl false) H) : rNeD K (.ref r1) (.ref r2) H Q := by
  subst hp hq hc
  refine ⟨.tuple [.int p, .int q, .int c], .tuple [.int p, .int q, .int c], Dp.tup (SqT.of e1) (.cons (.int p) (.cons (.int q) (.cons (.int c) .nil))), Dp.tup (SqT.of e2) (.cons (.int p) (.cons (.int q) (.cons (.int c) .nil))), rfl, rfl, ?_⟩
  rw [SeqAt.eqv_refl _ rfl]
  exact h
theorem logR {k : Nat} {i : Int} (h : Bd k i) (hk : k ≤ 1920) : i.natAbs.log2 < 1920 := (h.mono hk).log (by decide)
def spLaw (K : PySem.W.Frag) : Sp := fun vs H Q _ => ∃ (a : Addr) (ns : List Int), vs = [.ref a] ∧ SqL K H a (ns.map V.int) ∧ ns.length ≤ 63 ∧ ∀ H', Q (.bl true) H'
end Lf
namespace Lf
open PySem PySem.Spec PyProof.Rows L2
/-! ### conflicts: no rate fits -/
def FitM (ds : List Rec) (p q : Int) : Prop := ∀ d ∈ ds, ∀ e ∈ ds, d.lo = true → e.lo = false → p * (e.t - d.t) < (e.n + 1 - d.n) * q
def Cf (ds : List Rec) : Prop := ∀ p q : Int, 0 ≤ p → 1 ≤ q → ¬ FitM ds p q
theorem FitM.sub {ds es : List Rec} {p q : Int} (h : FitM ds p q) (s : ∀ d ∈ es, d ∈ ds) : FitM es p q := fun d hd e he => h d (s d hd) e (s e he)
theorem Cf.sub {ds es : List Rec} (h : Cf es) (s : ∀ d ∈ es, d ∈ ds) : Cf ds := fun p q hp hq f => h p q hp hq (f.sub s)
theorem not_cf {ds : List Rec} (h : ¬ Cf ds) : ∃ p q : Int, 0 ≤ p ∧ 1 ≤ q ∧ FitM ds p q := by
  unfold Cf at h
  simp only [Classical.not_forall, Classical.not_not] at h
  obtain ⟨p, q, hp, hq, f⟩ := h
  exact ⟨p, q, hp, hq, f⟩
theorem fitm_sd {ds : List Rec} {p q : Int} : (∀ x y, SD ds x y → p * (y.2.1 - x.2.1) < (y.2.2 + 1 - x.2.2) * q) ↔ FitM ds p q := by
  constructor
  · intro h d hd e he ld le
    obtain ⟨i, ei⟩ := List.mem_iff_getElem?.mp hd
    obtain ⟨j, ej⟩ := List.mem_iff_getElem?.mp he
    exact h _ _ ⟨mem_sel ei ld 0, mem_sel ej le 0⟩
  · rintro h x y ⟨hx, hy⟩
    obtain ⟨i, d, ei, ld, rfl⟩ := sel_mem hx
    obtain ⟨j, e, ej, le, rfl⟩ := sel_mem hy
    exact h d (List.mem_of_getElem? ei) e (List.mem_of_getElem? ej) ld le
/-- where the bounds leave room there is a rate -/
theorem nr_some {S : T3 → T3 → Prop} {lo up : Option T4} (hl : LoOk S lo) (hu : UpOk S up) (h : nr lo up = false) : ∃ p q : Int, 0 ≤ p ∧ 1 ≤ q ∧ RateIn lo up p q := by
  cases up with
  | none =>
    cases lo with
    | none => exact ⟨0, 1, by omega, by omega, fun z e => (nomatch e), fun z e => (nomatch e)⟩
    | some l =>
      have dl := hl.den l rfl
      refine ⟨(if l.1 < 0 then 0 else l.1) + 1, 1, ?_, by omega, fun z e => ?_, fun z e => (nomatch e)⟩
      · by_cases c : l.1 < 0
        · rw [if_pos c]
          omega
        · rw [if_neg c]
          omega
      · cases e
        have key : l.1 < (if l.1 < 0 then 0 else l.1) + 1 ∧ 0 ≤ (if l.1 < 0 then 0 else l.1) + 1 := by
          by_cases c : l.1 < 0
          · rw [if_pos c]
            omega
          · rw [if_neg c]
            omega
        generalize (if l.1 < 0 then 0 else l.1) + 1 = a at key
        have := Int.mul_le_mul_of_nonneg_left dl key.2
        omega
  | some z =>
    have dz := hu.den z rfl
    cases lo with
    | none =>
      have h : decide (z.1 ≤ 0) = false := h
      have h := of_decide_eq_false h
      exact ⟨0, 1, by omega, by omega, fun z e => (nomatch e), fun y e => by cases e; omega⟩
    | some l =>
      have dl := hl.den l rfl
      have h : (decide (z.1 ≤ 0) || decide (z.1 * l.2.1 ≤ l.1 * z.2.1)) = false := h
      rw [Bool.or_eq_false_iff] at h
      have h1 := of_decide_eq_false h.1
      have h2 := of_decide_eq_false h.2
      by_cases c : l.1 < 0
      · refine ⟨0, 1, by omega, by omega, fun y e => ?_, fun y e => ?_⟩
        · cases e
          omega
        · cases e
          omega
      · refine ⟨l.1 + z.1, l.2.1 + z.2.1, by omega, by omega, fun y e => ?_, fun y e => ?_⟩
        · cases e
          rw [Int.mul_add, Int.add_mul]
          omega
        · cases e
          rw [Int.mul_add, Int.add_mul]
          omega
theorem nr_cf {ds : List Rec} {lo up : Option T4} (hl : LoOk (SD ds) lo) (hu : UpOk (SD ds) up) : nr lo up = true ↔ Cf ds := by
  constructor
  · intro h p q hp hq f
    exact nr_none hp hq hl hu h ((rate_iff hp hq hl hu).mp (fitm_sd.mpr f))
  · intro h
    cases e : nr lo up with
    | true => rfl
    | false =>
      obtain ⟨p, q, hp, hq, r⟩ := nr_some hl hu e
      exact absurd (fitm_sd.mp ((rate_iff hp hq hl hu).mpr r)) (h p q hp hq)
/-! ### three of four -/
theorem cf3_a {t1 n1 u1 m1 t2 n2 p q : Int} (hq : 1 ≤ q) (D0 : u1 < t1) (a : u1 ≥ t2) (X : 0 ≤ (n2 - m1 - 1) * (t1 - u1) + (n1 - m1 - 1) * (u1 - t2))
    (h1 : p * (u1 - t1) < (m1 + 1 - n1) * q) (h2 : p * (u1 - t2) < (m1 + 1 - n2) * q) : False := by
  have e1 : (n1 - m1 - 1) * q < p * (t1 - u1) := by
    have a1 : (n1 - m1 - 1) * q = -((m1 + 1 - n1) * q) := by grind
    have a2 : p * (t1 - u1) = -(p * (u1 - t1)) := by grind
    omega
  have g1 := Int.mul_le_mul_of_nonneg_right (Int.le_of_lt e1) (show 0 ≤ u1 - t2 by omega)
  have g2 := Int.mul_lt_mul_of_pos_right h2 (show 0 < t1 - u1 by omega)
  have g3 := Int.mul_nonneg X (show 0 ≤ q by omega)
  have b1 : p * (u1 - t2) * (t1 - u1) = p * (t1 - u1) * (u1 - t2) := by grind
  have b2 : (m1 + 1 - n2) * q * (t1 - u1) = -((n2 - m1 - 1) * (t1 - u1) * q) := by grind
  have b3 : (n1 - m1 - 1) * q * (u1 - t2) = (n1 - m1 - 1) * (u1 - t2) * q := by grind
  rw [Int.add_mul] at g3
  omega
theorem cf3_b {A D u1 m1 t2 n2 u2 m2 p q : Int} (hq : 1 ≤ q) (D0 : 0 < D) (a : u1 < t2) (hu : t2 < u2) (X : 0 ≤ (n2 - m1 - 1) * D + A * (u1 - t2)) (Y : 0 ≤ (n2 - m2 - 1) * D + A * (u2 - t2))
    (h1 : p * (u1 - t2) < (m1 + 1 - n2) * q) (h2 : p * (u2 - t2) < (m2 + 1 - n2) * q) : False := by
  have g1 := Int.mul_lt_mul_of_pos_right h1 D0
  have g2 := Int.mul_nonneg X (show 0 ≤ q by omega)
  have b1 : (m1 + 1 - n2) * q * D = -((n2 - m1 - 1) * D * q) := by grind
  have b2 : p * (u1 - t2) * D = -(p * D * (t2 - u1)) := by grind
  have b3 : A * (u1 - t2) * q = -(A * q * (t2 - u1)) := by grind
  rw [Int.add_mul] at g2
  have g3 : A * q * (t2 - u1) < p * D * (t2 - u1) := by omega
  have g4 : A * q < p * D := Int.lt_of_mul_lt_mul_right g3 (by omega)
  have g5 := Int.mul_lt_mul_of_pos_right g4 (show 0 < u2 - t2 by omega)
  have g6 := Int.mul_lt_mul_of_pos_right h2 D0
  have g7 := Int.mul_nonneg Y (show 0 ≤ q by omega)
  have b4 : (m2 + 1 - n2) * q * D = -((n2 - m2 - 1) * D * q) := by grind
  have b5 : p * (u2 - t2) * D = p * D * (u2 - t2) := by grind
  have b6 : A * (u2 - t2) * q = A * q * (u2 - t2) := by grind
  rw [Int.add_mul] at g7
  omega
theorem cf3_c {t1 n1 u1 m1 u2 m2 p q : Int} (hq : 1 ≤ q) (D0 : u1 < t1) (a : u2 ≥ t1) (X : 0 ≤ (n1 - m2 - 1) * (t1 - u1) + (n1 - m1 - 1) * (u2 - t1))
    (h1 : p * (u1 - t1) < (m1 + 1 - n1) * q) (h2 : p * (u2 - t1) < (m2 + 1 - n1) * q) : False := by
  have e1 : (n1 - m1 - 1) * q < p * (t1 - u1) := by
    have a1 : (n1 - m1 - 1) * q = -((m1 + 1 - n1) * q) := by grind
    have a2 : p * (t1 - u1) = -(p * (u1 - t1)) := by grind
    omega
  have g1 := Int.mul_le_mul_of_nonneg_right (Int.le_of_lt e1) (show 0 ≤ u2 - t1 by omega)
  have g2 := Int.mul_lt_mul_of_pos_right h2 (show 0 < t1 - u1 by omega)
  have g3 := Int.mul_nonneg X (show 0 ≤ q by omega)
  have b1 : p * (u2 - t1) * (t1 - u1) = p * (t1 - u1) * (u2 - t1) := by grind
  have b2 : (m2 + 1 - n1) * q * (t1 - u1) = -((n1 - m2 - 1) * (t1 - u1) * q) := by grind
  have b3 : (n1 - m1 - 1) * q * (u2 - t1) = (n1 - m1 - 1) * (u2 - t1) * q := by grind
  rw [Int.add_mul] at g3
  omega
theorem cf3_d {A D t1 n1 t2 n2 u2 m2 p q : Int} (hq : 1 ≤ q) (D0 : 0 < D) (a : u2 < t1) (hu : t2 < u2) (X : 0 ≤ (n1 - m2 - 1) * D + A * (u2 - t1)) (Y : 0 ≤ (n2 - m2 - 1) * D + A * (u2 - t2))
    (h1 : p * (u2 - t1) < (m2 + 1 - n1) * q) (h2 : p * (u2 - t2) < (m2 + 1 - n2) * q) : False := by
  have g1 := Int.mul_lt_mul_of_pos_right h1 D0
  have g2 := Int.mul_nonneg X (show 0 ≤ q by omega)
  have b1 : (m2 + 1 - n1) * q * D = -((n1 - m2 - 1) * D * q) := by grind
  have b2 : p * (u2 - t1) * D = -(p * D * (t1 - u2)) := by grind
  have b3 : A * (u2 - t1) * q = -(A * q * (t1 - u2)) := by grind
  rw [Int.add_mul] at g2
  have g3 : A * q * (t1 - u2) < p * D * (t1 - u2) := by omega
  have g4 : A * q < p * D := Int.lt_of_mul_lt_mul_right g3 (by omega)
  have g5 := Int.mul_lt_mul_of_pos_right g4 (show 0 < u2 - t2 by omega)
  have g6 := Int.mul_lt_mul_of_pos_right h2 D0
  have g7 := Int.mul_nonneg Y (show 0 ≤ q by omega)
  have b4 : (m2 + 1 - n2) * q * D = -((n2 - m2 - 1) * D * q) := by grind
  have b5 : p * (u2 - t2) * D = p * D * (u2 - t2) := by grind
  have b6 : A * (u2 - t2) * q = A * q * (u2 - t2) := by grind
  rw [Int.add_mul] at g7
  omega
theorem cf_four {d1 e1 d2 e2 : Rec} (ld1 : d1.lo = true) (le1 : e1.lo = false) (ld2 : d2.lo = true) (le2 : e2.lo = false) (h1 : e1.t < d1.t) (h2 : d2.t < e2.t)
    (c : (e2.n + 1 - d2.n) * (d1.t - e1.t) ≤ (d1.n - e1.n - 1) * (e2.t - d2.t)) : Cf [d1, e1, d2] ∨ Cf [d2, e1, e2] ∨ Cf [d1, e1, e2] ∨ Cf [d1, d2, e2] := by
  have Y : 0 ≤ (d2.n - e2.n - 1) * (d1.t - e1.t) + (d1.n - e1.n - 1) * (e2.t - d2.t) := by
    have b1 : (e2.n + 1 - d2.n) * (d1.t - e1.t) = -((d2.n - e2.n - 1) * (d1.t - e1.t)) := by grind
    omega
  have sum : ((d2.n - e1.n - 1) * (d1.t - e1.t) + (d1.n - e1.n - 1) * (e1.t - d2.t)) + ((d1.n - e2.n - 1) * (d1.t - e1.t) + (d1.n - e1.n - 1) * (e2.t - d1.t)) = (d2.n - e2.n - 1) * (d1.t - e1.t) + (d1.n - e1.n - 1) * (e2.t - d2.t) := by grind
  rcases Int.le_total 0 ((d2.n - e1.n - 1) * (d1.t - e1.t) + (d1.n - e1.n - 1) * (e1.t - d2.t)) with X | X
  · by_cases a : e1.t ≥ d2.t
    · refine .inl fun p q hp hq f => ?_
      exact cf3_a hq h1 a X (f d1 (by simp) e1 (by simp) ld1 le1) (f d2 (by simp) e1 (by simp) ld2 le1)
    · refine .inr (.inl fun p q hp hq f => ?_)
      exact cf3_b hq (show 0 < d1.t - e1.t by omega) (by omega) h2 X Y (f d2 (by simp) e1 (by simp) ld2 le1) (f d2 (by simp) e2 (by simp) ld2 le2)
  · have X : 0 ≤ (d1.n - e2.n - 1) * (d1.t - e1.t) + (d1.n - e1.n - 1) * (e2.t - d1.t) := by omega
    by_cases a : e2.t ≥ d1.t
    · refine .inr (.inr (.inl fun p q hp hq f => ?_))
      exact cf3_c hq h1 a X (f d1 (by simp) e1 (by simp) ld1 le1) (f d1 (by simp) e2 (by simp) ld1 le2)
    · refine .inr (.inr (.inr fun p q hp hq f => ?_))
      exact cf3_d hq (show 0 < d1.t - e1.t by omega) (by omega) h2 X Y (f d1 (by simp) e2 (by simp) ld1 le2) (f d2 (by simp) e2 (by simp) ld2 le2)
/-- records picked by their indexes -/
def pk (ds : List Rec) (js : List Nat) : List Rec := js.filterMap fun j => ds[j]?
theorem mem_pk {ds : List Rec} {js : List Nat} {d : Rec} : d ∈ pk ds js ↔ ∃ j, j ∈ js ∧ ds[j]? = some d := List.mem_filterMap
theorem pk_sub {ds : List Rec} {js is : List Nat} (h : ∀ j ∈ js, j ∈ is) : ∀ d ∈ pk ds js, d ∈ pk ds is := fun d hd => by
  obtain ⟨j, hj, e⟩ := mem_pk.mp hd
  exact mem_pk.mpr ⟨j, h j hj, e⟩
theorem pk_all {ds : List Rec} {js : List Nat} : ∀ d ∈ pk ds js, d ∈ ds := fun d hd => by
  obtain ⟨j, hj, e⟩ := mem_pk.mp hd
  exact List.mem_of_getElem? e
theorem pk_len {ds : List Rec} {js : List Nat} (h : ∀ j ∈ js, j < ds.length) : (pk ds js).length = js.length := by
  induction js with
  | nil => rfl
  | cons j r ih =>
    have hj := h j List.mem_cons_self
    have e : ds[j]? = some ds[j] := List.getElem?_eq_getElem hj
    show (List.filterMap _ (j :: r)).length = _
    rw [List.filterMap_cons, e]
    show ((pk ds r).length + 1) = _
    rw [ih fun k hk => h k (List.mem_cons_of_mem _ hk)]
    rfl
theorem pk_app {ds : List Rec} {js is : List Nat} : pk ds (js ++ is) = pk ds js ++ pk ds is := List.filterMap_append
theorem pk_one {ds : List Rec} {j : Nat} {d : Rec} (e : ds[j]? = some d) : pk ds [j] = [d] := by
  show List.filterMap _ [j] = _
  rw [List.filterMap_cons, e]
  rfl
theorem pk_at {ds : List Rec} {js : List Nat} (h : ∀ j ∈ js, j < ds.length) {i j : Nat} (e : js[i]? = some j) : (pk ds js)[i]? = ds[j]? := by
  induction js generalizing i with
  | nil => cases e
  | cons k r ih =>
    have hk := h k List.mem_cons_self
    have ek : ds[k]? = some ds[k] := List.getElem?_eq_getElem hk
    show (List.filterMap _ (k :: r))[i]? = _
    rw [List.filterMap_cons, ek]
    cases i with
    | zero =>
      cases e
      exact ek.symm
    | succ i => exact ih (fun x hx => h x (List.mem_cons_of_mem _ hx)) e
/-- a conflict none of whose records can be left out -/
structure Least (ds : List Rec) (js : List Nat) : Prop where
  up : js.Pairwise (· < ·)
  lt : ∀ j ∈ js, j < ds.length
  cf : Cf (pk ds js)
  mn : ∀ j ∈ js, ¬ Cf (pk ds (js.filter (· ≠ j)))
  le : js.length ≤ 3
theorem cf_two {ds : List Rec} (h : Cf ds) : ∃ d e, d ∈ ds ∧ e ∈ ds ∧ d.lo = true ∧ e.lo = false := by
  refine Classical.byContradiction fun n => h 0 1 (by omega) (by omega) fun d hd e he ld le => ?_
  exact absurd ⟨d, e, hd, he, ld, le⟩ n
theorem cf_len {ds : List Rec} (h : Cf ds) : 2 ≤ ds.length := by
  obtain ⟨d, e, hd, he, ld, le⟩ := cf_two h
  match ds, hd, he with
  | [a], hd, he =>
    rw [List.mem_singleton.mp hd] at ld
    rw [List.mem_singleton.mp he, ld] at le
    cases le
  | a :: b :: r, _, _ =>
    rw [List.length_cons, List.length_cons]
    omega
theorem Least.ge {ds : List Rec} {js : List Nat} (h : Least ds js) : 2 ≤ js.length := by
  have := cf_len h.cf
  rw [pk_len h.lt] at this
  exact this
/-- what conflicts within a least conflict is all of it -/
theorem Least.all {ds : List Rec} {js is : List Nat} (h : Least ds js) (s : ∀ i ∈ is, i ∈ js) (c : Cf (pk ds is)) : ∀ j ∈ js, j ∈ is := fun j hj => by
  refine Classical.byContradiction fun n => h.mn j hj (c.sub (pk_sub fun i hi => ?_))
  rw [List.mem_filter]
  exact ⟨s i hi, decide_eq_true fun e => n (e ▸ hi)⟩
theorem lo_at {ds : List Rec} {z : T4} (h : LoOk (SD ds) (some z)) : ∃ (i j : Nat) (d e : Rec), ds[i]? = some d ∧ ds[j]? = some e ∧ d.lo = true ∧ e.lo = false ∧ e.t < d.t ∧ z = (d.n - e.n - 1, d.t - e.t, (i : Int), (j : Int)) := by
  obtain ⟨⟨x, y, ⟨hx, hy⟩, g, rfl⟩, _⟩ := h
  obtain ⟨i, d, ei, ld, rfl⟩ := sel_mem hx
  obtain ⟨j, e, ej, le, rfl⟩ := sel_mem hy
  rw [Nat.zero_add, Nat.zero_add] at *
  exact ⟨i, j, d, e, ei, ej, ld, le, g, rfl⟩
theorem up_at {ds : List Rec} {z : T4} (h : UpOk (SD ds) (some z)) : ∃ (i j : Nat) (d e : Rec), ds[i]? = some d ∧ ds[j]? = some e ∧ d.lo = true ∧ e.lo = false ∧ ¬ e.t < d.t ∧ (d.t < e.t ∨ d.n > e.n) ∧ z.1 = e.n + 1 - d.n ∧ (d.t < e.t → z.2.1 = e.t - d.t) ∧ z.2.2 = ((i : Int), (j : Int)) := by
  obtain ⟨⟨x, y, ⟨hx, hy⟩, g, rfl⟩, _⟩ := h
  obtain ⟨i, d, ei, ld, rfl⟩ := sel_mem hx
  obtain ⟨j, e, ej, le, rfl⟩ := sel_mem hy
  rw [Nat.zero_add, Nat.zero_add] at *
  exact ⟨i, j, d, e, ei, ej, ld, le, g.1, g.2, rfl, fun c => bot_eq c, rfl⟩
end Lf
namespace Lf
open PySem PySem.Spec PyProof.Rows L2
/-! ### set(list of ints) -/
abbrev setE (w : World) : Obj := { cls := .type "set", dict := none, data := .set #[] 0 (.fresh 0 0 (!w.params.followText "set-order")) }
section
variable {P : Program} {w : World} {A : Around} {E : Value → Shared → Prop} {s : Shared}
set_option maxHeartbeats 4000000 in
theorem set_of_list {l : Addr} {its : Array Value} (ns : List Int) {Q : Value → Shared → Prop} (nh : A.handled = none) (hL : s.heap.IsList l its) (hI : IntsAre its.toList ns) (few : ns.length + 1 < scanBound)
    (q : ∀ (g : Heap) (t c : Nat), SetR w g s.heap.objs.size (fun j => decide (j ∈ ns)) c → c ≤ ns.length → (∀ b o, s.heap.get? b = some o → g.get? b = some o) → Q (.ref s.heap.objs.size) { s with heap := g, toks := t }) :
    wpAny (model P w) A (call (.type "set") [.ref l]) Q E s := by
  have sz : its.size = ns.length := by
    have z := IntsAre.length hI
    rwa [Array.length_toList] at z
  have cs := F.called_set
  obtain ⟨c0, t0, m0⟩ := cs.mro
  have k1 := cs.made
  have k2 := cs.sub
  have k3 := cs.notType
  have k4 := cs.canCreate
  have k5 := F.typeCall_set_1 (.ref l)
  refine wpAny_call (codeAny_of_tree ?_)
  show wpAny _ _ (callAny (.type "set") ⟨[.ref l], []⟩) _ _ _
  refine wpAny_pure ⟨Code.quiet_builtin _ (by decide +kernel), codeAny_builtin F.entry_type_call ?_⟩
  rw [Around.under_plain (weight_type_call_type "set" _ _) rfl]
  repeat (any_goals (first | assumption | wp_step))
  refine codeAny_mono (code_set_led1 (.ref l) (E := E) (Q₁ := fun x s₁ => x = .ref s.heap.objs.size ∧ s₁ = { s with heap := s.heap.push (setE w) }) ⟨rfl, rfl⟩) fun r s₁ e1 => ?_
  match r, e1 with
  | .error _, e1 => exact e1
  | .ok (.ret x), ⟨ex, es⟩ =>
    subst ex es
    have gS : (s.heap.push (setE w)).get? s.heap.objs.size = some (setE w) := Heap.get?_push_size _ rfl
    have tS : Shared.TypeIs { s with heap := s.heap.push (setE w) } (.ref s.heap.objs.size) "set" := ⟨_, gS, rfl⟩
    have k6 := cs.init.lookup
    have k7 := cs.init.bind (.ref s.heap.objs.size)
    repeat (any_goals (first | assumption | wp_step))
    refine codeAny_mono (codeAny_call_builtin (R := wants (fun r s₂ => r = .none ∧ ∃ g t c, s₂ = { s with heap := g, toks := t } ∧ SetR w g s.heap.objs.size (fun j => decide (j ∈ ns)) c ∧ c ≤ ns.length ∧ (∀ b o, s.heap.get? b = some o → g.get? b = some o)) E)
      cs.init.plain F.entry_set_init (check_set_init_1 tS ?_)) fun r2 s2 e2 => ?_
    · obtain ⟨⟨xc, xd, xv, xs⟩, gL, ec, n, ed⟩ := hL
      have ec : xc = _ := ec
      have ed : xv = _ := ed
      subst ec ed
      have gL1 := Heap.get?_push_of_some (setE w) gL
      have j1 := F.sub_list_set
      have j2 := F.sub_list_frozenset
      have j3 : (Value.type "list" == Value.type "dict") = false := by decide
      have hL1 : (s.heap.push (setE w)).IsList l its := ⟨_, gL1, rfl, n, rfl⟩
      unfold Builtin.«set.__init__» noKeywords Builtin.Frozenset.updateFrom
      generalize hPI : pyIter = PI
      wp_walk
      subst hPI
      refine wpAny_pyIter_list hL1 (wpAny_bind (wpAny_runValue ?_))
      have lt0 : l < s.heap.objs.size := Heap.lt_size gL
      have zz : (s.heap.push (setE w)).objs.size = s.heap.objs.size + 1 := Heap.size_push ..
      have nI : l ≠ (s.heap.push (setE w)).objs.size := by
        rw [zz]
        exact Nat.ne_of_lt (Nat.lt_succ_of_lt lt0)
      have out : s.heap.objs.size ∉ [(s.heap.push (setE w)).objs.size, l] := by
        rw [zz]
        intro z
        rcases List.mem_cons.mp z with z | z
        · exact Nat.ne_of_lt (Nat.lt_succ_self _) z
        · exact Nat.ne_of_gt lt0 (List.mem_singleton.mp z)
      have val : ∀ (i : Nat) (v : Value), its[i]? = some v → ∃ k t, ns[i]? = some k ∧ v = .int k t := by
        intro i v hv
        have hi : i < ns.length := by
          rw [← sz]
          exact (Array.getElem?_eq_some_iff.mp hv).1
        obtain ⟨t, e⟩ := IntsAre.int_at hI i v (by rwa [Array.getElem?_toList])
        refine ⟨_, t, List.getElem?_eq_getElem hi, ?_⟩
        rw [e, List.getD_eq_getElem?_getD, List.getElem?_eq_getElem hi]
        rfl
      have nh3 : A.in1.in1.in1.handled = none := by simp [nh]
      refine set_update_ints (Walks.list nh3 _ l nI its).toS s.heap.objs.size out ns sz few val its.size 0 _ rfl (Nat.zero_le _) ⟨⟨_, Heap.get?_push_size _ rfl, rfl, rfl⟩, hL1.push _⟩ ⟨0, Nat.le_refl 0, setR_new_at (Heap.get?_push_of_some _ gS)⟩ ?_
      rintro ⟨g, g2, d2, t2, o2⟩ c hm hc hR
      have a1 : g2 = s.gens := hm.gens
      have a2 : d2 = s.drawn := hm.drawn
      have a3 : o2 = s.os := hm.os
      subst a1 a2 a3
      show wpAny _ _ _ _ _ _
      refine wpAny_pure ?_
      show wpAny _ _ (ret Value.none) _ _ _
      rw [sz] at hc
      refine wpAny_pure ⟨rfl, g, t2, c, rfl, hR, hc, fun b o e => hm.heap b o (fun z => ?_) (Heap.get?_push_of_some _ (Heap.get?_push_of_some _ e))⟩
      have bl := Heap.lt_size e
      rw [zz] at z
      rcases List.mem_cons.mp z with z | z
      · exact Nat.ne_of_lt bl z
      · exact Nat.ne_of_lt (Nat.lt_succ_of_lt bl) (List.mem_singleton.mp z)
    · match r2, e2 with
      | .error _, e2 => exact e2
      | .ok (.ret x), ⟨ex, g, t, c, es, b1, b2, b3⟩ =>
        subst ex es
        repeat (any_goals (first | assumption | wp_step))
        exact q _ _ _ b1 b2 b3
end
def rSetL (K : PySem.W.Frag) (w : World) : List V → Hp → VK → Prop := fun xs H Q => ∃ (a : Addr) (ns : List Int), xs = [.ref a] ∧ SqL K H a (ns.map V.int) ∧ ns.length ≤ 1000 ∧ ∀ p c, H p = none → c ≤ ns.length → Q (.ref p) (upd H p (SetO w p (fun j => decide (j ∈ ns)) c))
theorem cr_setL {X : Cx} (hc : X.calm = true) : CallR X (.type "set") (rSetL X.K X.w) := by
  intro pins s σ H xs us Q I r h
  obtain ⟨a, ns, rfl, hs, hl, q⟩ := h
  rw [Vals.ref1 r]
  obtain ⟨its, rv, pl, hz⟩ := I.list hs
  refine set_of_list ns (I.ok.hd hc) pl.isList (ints_of_vals rv) (by unfold scanBound; omega) fun g t c R cl kp => ?_
  exact ⟨.ref _, _, I.laid (t' := t) kp (Nat.le_refl _) (setO_new R), rfl, q _ c (I.hok.fresh (Nat.le_refl _)) cl⟩
/-! ### two clauses of a comprehension -/
theorem lc2_in {J1 : It} {n : Nat} {G : Hp → Prop} {Y : Nat → Hp → V → Hp → Prop} (w : Walk J1 n G Y) {g1 : TG} {tt1 : TT} {te : TE} {vs1 : List Nat} {σ2 : L2.St} {H4 : Hp} {D : Addr} {Nx : Hp → Prop} (Pv : Nat → Hp → Prop) (h0 : Pv 0 H4) (hG : ∀ i H, i ≤ n → Pv i H → G H)
    (hs : ∀ i x H H', i < n → Pv i H → Y i H x H' → g1 x (wipe σ2 vs1) H' fun σ3 H5 => wipe σ3 vs1 = wipe σ2 vs1 ∧ tt1 σ3 H5 fun b H6 =>
      if b = true then te σ3 H6 fun y H7 => ∃ acc, H7 D = some (.lst acc) ∧ acc.length < sizeLine ∧ Pv (i + 1) (upd H7 D (.lst (acc ++ [y]))) else Pv (i + 1) H6) (hd : ∀ H, Pv n H → Nx H) :
    ∃ W1 : Nat → Nat → Hp → Prop, (∃ m, W1 0 m H4) ∧ ∀ j k H, W1 j k H →
      (J1.stop j H ∧ Nx H) ∨ (J1.go j H ∧ ∃ Nx1 : Hp → Prop, (∀ H', Nx1 H' → ∃ k', k' < k ∧ W1 (j + 1) k' H') ∧ ∀ x H', J1.yld j H x H' → g1 x (wipe σ2 vs1) H' fun σ3 H5 => wipe σ3 vs1 = wipe σ2 vs1 ∧ tt1 σ3 H5 fun b H6 =>
        if b = true then te σ3 H6 fun y H7 => ∃ acc, H7 D = some (.lst acc) ∧ acc.length < sizeLine ∧ Nx1 (upd H7 D (.lst (acc ++ [y]))) else Nx1 H6) := by
  refine ⟨fun i m H => m = n - i ∧ i ≤ n ∧ Pv i H, ⟨n, rfl, Nat.zero_le _, h0⟩, ?_⟩
  rintro i m H ⟨em, hi, p⟩
  have q := hG i H hi p
  rcases Nat.lt_or_ge i n with lt | ge
  · refine .inr ⟨w.goes i H lt q, Pv (i + 1), fun H' p' => ⟨n - (i + 1), by omega, rfl, lt, p'⟩, fun x H' y => hs i x H H' lt p (w.yields i H x H' lt q y)⟩
  · obtain rfl : i = n := by omega
    exact .inl ⟨w.stops H q, hd H p⟩
/-- the outer one: hs gives the inner one's own loop, from which Pv (i + 1) is reached -/
theorem lc2_out {J : It} {n : Nat} {G : Hp → Prop} {Y : Nat → Hp → V → Hp → Prop} (w : Walk J n G Y) {H1 : Hp} {D : Addr} {Qd : Hp → Prop} {B : V → Hp → (Hp → Prop) → Prop} (Pv : Nat → Hp → Prop) (h0 : Pv 0 (upd H1 D (.lst []))) (hG : ∀ i H, i ≤ n → Pv i H → G H)
    (hs : ∀ i x H H', i < n → Pv i H → Y i H x H' → B x H' (Pv (i + 1))) (hd : ∀ H, Pv n H → Qd H) :
    ∃ W : Nat → Nat → Hp → Prop, (∃ m, W 0 m (upd H1 D (.lst []))) ∧ ∀ i m H, W i m H →
      (J.stop i H ∧ Qd H) ∨ (J.go i H ∧ ∃ Nx : Hp → Prop, (∀ H', Nx H' → ∃ m', m' < m ∧ W (i + 1) m' H') ∧ ∀ x H', J.yld i H x H' → B x H' Nx) := by
  refine ⟨fun i m H => m = n - i ∧ i ≤ n ∧ Pv i H, ⟨n, rfl, Nat.zero_le _, h0⟩, ?_⟩
  rintro i m H ⟨em, hi, p⟩
  have q := hG i H hi p
  rcases Nat.lt_or_ge i n with lt | ge
  · refine .inr ⟨w.goes i H lt q, Pv (i + 1), fun H' p' => ⟨n - (i + 1), by omega, rfl, lt, p'⟩, fun x H' y => hs i x H H' lt p (w.yields i H x H' lt q y)⟩
  · obtain rfl : i = n := by omega
    exact .inl ⟨w.stops H q, hd H p⟩
/-! ### an item of a list or a tuple -/
def rIxB (K : PySem.W.Frag) : R2 := fun x y H Q => ∃ p b xs i v, x = .ref p ∧ y = .int i ∧ SqB K b H p xs ∧ atI xs i = some v ∧ Q v H
theorem ix_B {X : Cx} : IxR X (rIxB X.K) := by
  intro value slice pins s σ H x y v u Q I rx ry h hs
  obtain ⟨p, b, xs, i, z, h1, h2, h3, h4, q⟩ := h
  cases b with
  | true => exact ix_list value slice pins s σ H x y v u Q I rx ry ⟨p, xs, i, z, h1, h2, h3, h4, q⟩ hs
  | false => exact ix_tup value slice pins s σ H x y v u Q I rx ry ⟨p, xs, i, z, h1, h2, h3, h4, q⟩ hs
end Lf
namespace Lf
open PySem PySem.Spec PyProof.Rows L2
def ni (js : List Nat) : List Int := js.map fun j => ((j : Nat) : Int)
theorem ni_len (js : List Nat) : (ni js).length = js.length := List.length_map ..
theorem nodup_le {l m : List Nat} (h : l.Nodup) (s : ∀ x ∈ l, x ∈ m) : l.length ≤ m.length := by
  induction l generalizing m with
  | nil => exact Nat.zero_le _
  | cons x r ih =>
    have hx := s x List.mem_cons_self
    have h2 := List.nodup_cons.mp h
    have := ih (m := m.erase x) h2.2 fun y hy => (List.mem_erase_of_ne (a := y) (b := x) fun e => h2.1 (by rw [← e]; exact hy)).mpr (s y (List.mem_cons_of_mem _ hy))
    rw [List.length_erase_of_mem hx] at this
    have := List.length_pos_of_mem hx
    rw [List.length_cons]
    omega
theorem up_nodup {js : List Nat} (h : js.Pairwise (· < ·)) : js.Nodup := h.imp fun z => Nat.ne_of_lt z
/-- three that conflict, beside a fourth: not all four are needed -/
theorem le_three {ds : List Rec} {cur : List Nat} (nd : cur.Nodup) (mn : ∀ j ∈ cur, ¬ Cf (pk ds (cur.filter (· ≠ j)))) {a b c z : Nat} {da db dc : Rec} (ha : ds[a]? = some da) (hb : ds[b]? = some db) (hc : ds[c]? = some dc) (s : ∀ x ∈ cur, x = a ∨ x = b ∨ x = c ∨ x = z) (h : Cf [da, db, dc]) : cur.length ≤ 3 := by
  refine Classical.byContradiction fun n => ?_
  have big : ∀ (u v t : Nat), ¬ ∀ x ∈ cur, x ∈ [u, v, t] := fun u v t g => n (nodup_le nd g)
  have hz : z ∈ cur := Classical.byContradiction fun g => big a b c fun x hx => by
    rcases s x hx with e | e | e | e
    · simp [e]
    · simp [e]
    · simp [e]
    · exact absurd (e ▸ hx) g
  have inn : ∀ y, (∀ x ∈ cur, x = y ∨ x ∈ [a, b, c, z]) → (y = a ∨ y = b ∨ y = c) → y ∈ cur.filter (· ≠ z) := fun y _ hy => by
    rw [List.mem_filter]
    refine ⟨Classical.byContradiction fun g => ?_, decide_eq_true fun e => ?_⟩
    · rcases hy with rfl | rfl | rfl
      · exact big b c z fun x hx => by
          rcases s x hx with e | e | e | e
          · exact absurd (e ▸ hx) g
          · simp [e]
          · simp [e]
          · simp [e]
      · exact big a c z fun x hx => by
          rcases s x hx with e | e | e | e
          · simp [e]
          · exact absurd (e ▸ hx) g
          · simp [e]
          · simp [e]
      · exact big a b z fun x hx => by
          rcases s x hx with e | e | e | e
          · simp [e]
          · simp [e]
          · exact absurd (e ▸ hx) g
          · simp [e]
    · refine big a b c fun x hx => ?_
      rcases s x hx with e' | e' | e' | e'
      · simp [e']
      · simp [e']
      · simp [e']
      · rw [e', ← e]
        rcases hy with rfl | rfl | rfl <;> simp
  have all : ∀ y, (y = a ∨ y = b ∨ y = c) → y ∈ cur.filter (· ≠ z) := fun y hy => inn y (fun x hx => .inr (by rcases s x hx with e | e | e | e <;> simp [e])) hy
  refine mn z hz (h.sub fun d hd => ?_)
  simp only [List.mem_cons, List.not_mem_nil, or_false] at hd
  rcases hd with rfl | rfl | rfl
  · exact mem_pk.mpr ⟨a, all a (.inl rfl), ha⟩
  · exact mem_pk.mpr ⟨b, all b (.inr (.inl rfl)), hb⟩
  · exact mem_pk.mpr ⟨c, all c (.inr (.inr rfl)), hc⟩
/-- the indexes of a pair -/
def cb : Option T4 → List Int
  | none => []
  | some z => [z.2.2.1, z.2.2.2]
theorem cb_nat {ds : List Rec} {lo up : Option T4} (hl : LoOk (SD ds) lo) (hu : UpOk (SD ds) up) : ∀ x ∈ cb lo ++ cb up, ∃ j : Nat, x = (j : Int) ∧ j < ds.length := by
  intro x hx
  rcases List.mem_append.mp hx with h | h
  · cases lo with
    | none => cases h
    | some z =>
      obtain ⟨i, j, d, e, ei, ej, _, _, _, rfl⟩ := lo_at hl
      simp only [cb, List.mem_cons, List.not_mem_nil, or_false] at h
      rcases h with rfl | rfl
      · exact ⟨i, rfl, (List.getElem?_eq_some_iff.mp ei).1⟩
      · exact ⟨j, rfl, (List.getElem?_eq_some_iff.mp ej).1⟩
  · cases up with
    | none => cases h
    | some z =>
      obtain ⟨i, j, d, e, ei, ej, _, _, _, _, _, _, e3⟩ := up_at hu
      simp only [cb, e3, List.mem_cons, List.not_mem_nil, or_false] at h
      rcases h with rfl | rfl
      · exact ⟨i, rfl, (List.getElem?_eq_some_iff.mp ei).1⟩
      · exact ⟨j, rfl, (List.getElem?_eq_some_iff.mp ej).1⟩
/-- the records of the tightest pairs conflict -/
theorem cb_cf {ds : List Rec} {lo up : Option T4} {js : List Nat} (hl : LoOk (SD ds) lo) (hu : UpOk (SD ds) up) (hn : nr lo up = true) (hj : ∀ x ∈ cb lo ++ cb up, ∃ j ∈ js, x = ((j : Nat) : Int)) : Cf (pk ds js) := by
  intro p q hp hq f
  have at_ : ∀ {i : Nat} {d : Rec}, ((i : Nat) : Int) ∈ cb lo ++ cb up → ds[i]? = some d → d ∈ pk ds js := fun {i d} h e => by
    obtain ⟨j, h1, h2⟩ := hj _ h
    have : i = j := by omega
    exact mem_pk.mpr ⟨j, h1, this ▸ e⟩
  refine nr_none hp hq hl hu hn ⟨fun z ez => ?_, fun z ez => ?_⟩
  · subst ez
    obtain ⟨i, j, d, e, ei, ej, ld, le, g, rfl⟩ := lo_at hl
    have := f d (at_ (by simp [cb]) ei) e (at_ (by simp [cb]) ej) ld le
    show (d.n - e.n - 1) * q < p * (d.t - e.t)
    have a1 : (d.n - e.n - 1) * q = -((e.n + 1 - d.n) * q) := by grind
    have a2 : p * (d.t - e.t) = -(p * (e.t - d.t)) := by grind
    omega
  · subst ez
    obtain ⟨i, j, d, e, ei, ej, ld, le, g1, g2, e1, e2, e3⟩ := up_at hu
    have h := f d (at_ (by simp [cb, e3]) ei) e (at_ (by simp [cb, e3]) ej) ld le
    rw [e1]
    by_cases c : d.t < e.t
    · rw [e2 c]
      exact h
    · have e0 : e.t - d.t = 0 := by omega
      rw [e0, Int.mul_zero] at h
      have := pos_of_mul h (by omega)
      omega
theorem cb_le {ds : List Rec} {lo up : Option T4} {cur : List Nat} (hl : LoOk (SD ds) lo) (hu : UpOk (SD ds) up) (hn : nr lo up = true) (nd : cur.Nodup) (mn : ∀ j ∈ cur, ¬ Cf (pk ds (cur.filter (· ≠ j)))) (s : ∀ j ∈ cur, ((j : Nat) : Int) ∈ cb lo ++ cb up) : cur.length ≤ 3 := by
  cases up with
  | none => cases lo <;> cases hn
  | some z =>
    obtain ⟨i2, j2, d2, e2, ei2, ej2, ld2, le2, g1, g2, z1, z2, z3⟩ := up_at hu
    cases lo with
    | none =>
      refine Nat.le_trans (nodup_le (m := [i2, j2]) nd fun x hx => ?_) (by simp)
      have := s x hx
      simp only [cb, z3, List.nil_append, List.mem_cons, List.not_mem_nil, or_false] at this
      simp only [List.mem_cons, List.not_mem_nil, or_false]
      omega
    | some l =>
      obtain ⟨i1, j1, d1, e1, ei1, ej1, ld1, le1, g, rfl⟩ := lo_at hl
      have s' : ∀ x ∈ cur, x = i1 ∨ x = j1 ∨ x = i2 ∨ x = j2 := fun x hx => by
        have := s x hx
        simp only [cb, z3, List.cons_append, List.nil_append, List.mem_cons, List.not_mem_nil, or_false] at this
        omega
      have pair : z.1 ≤ 0 → Cf [d2, e2] := fun c p q hp hq f => by
        have h := f d2 (by simp) e2 (by simp) ld2 le2
        rw [← z1] at h
        have := Int.mul_nonneg hp (show 0 ≤ e2.t - d2.t by omega)
        have := Int.mul_le_mul_of_nonneg_right c (show 0 ≤ q by omega)
        rw [Int.zero_mul] at this
        omega
      have hn : (decide (z.1 ≤ 0) || decide (z.1 * (d1.t - e1.t) ≤ (d1.n - e1.n - 1) * z.2.1)) = true := hn
      by_cases c : z.1 ≤ 0
      · exact le_three nd mn (a := i2) (b := j2) (c := i1) (z := j1) ei2 ej2 ei1 (fun x hx => by have := s' x hx; omega) ((pair c).sub fun d hd => by
          simp only [List.mem_cons, List.not_mem_nil, or_false] at hd ⊢
          rcases hd with rfl | rfl
          · exact .inl rfl
          · exact .inr (.inl rfl))
      · rw [decide_eq_false c, Bool.false_or] at hn
        have hn := of_decide_eq_true hn
        have lt : d2.t < e2.t := by omega
        rw [z2 lt, z1] at hn
        rcases cf_four ld1 le1 ld2 le2 g lt hn with h | h | h | h
        · exact le_three nd mn (a := i1) (b := j1) (c := i2) (z := j2) ei1 ej1 ei2 (fun x hx => by have := s' x hx; omega) h
        · exact le_three nd mn (a := i2) (b := j1) (c := j2) (z := i1) ei2 ej1 ej2 (fun x hx => by have := s' x hx; omega) h
        · exact le_three nd mn (a := i1) (b := j1) (c := j2) (z := i2) ei1 ej1 ej2 (fun x hx => by have := s' x hx; omega) h
        · exact le_three nd mn (a := i1) (b := i2) (c := j2) (z := j1) ei1 ei2 ej2 (fun x hx => by have := s' x hx; omega) h
theorem Same.nf {H H' : Hp} (s : Same H H') {F : Addr} (n : H' F = none) : H F = none := by
  cases e : H F with
  | none => rfl
  | some o =>
    rw [s _ _ e] at n
    cases n
/-- what find_conflict gives -/
inductive FcR (H H' : Hp) (ds : List Rec) : V → Prop
  | no : ¬ Cf ds → FcR H H' ds .non
  | yes {F : Addr} {js : List Nat} : H F = none → H' F = some (.lst ((ni js).map V.int)) → Least ds js → FcR H H' ds (.ref F)
def spFind (m : Nat) : Sp := fun vs H Q _ => ∃ (L : Addr) (kb : Bool) (xs : List V) (ds : List Rec) (k : Nat), vs = [.ref L] ∧ H L = some (sqO kb xs) ∧ Obs rcO H xs ds ∧ ds.length ≤ m ∧ RcB k ds ∧ 0 < k ∧ k ≤ 8000 ∧ ∀ v H', Same H H' → FcR H H' ds v → Q v H'
end Lf
namespace Lf
open PySem PySem.Spec PyProof.Rows L2
theorem ni_mem {js : List Nat} {x : Int} : x ∈ ni js ↔ ∃ j ∈ js, x = ((j : Nat) : Int) := by
  unfold ni
  rw [List.mem_map]
  exact ⟨fun ⟨j, h, e⟩ => ⟨j, h, e.symm⟩, fun ⟨j, h, e⟩ => ⟨j, h, e.symm⟩⟩
/-- ascending ints that are all indexes -/
theorem ni_of {ns : List Int} {n : Nat} (h : ns.Pairwise (· < ·)) (s : ∀ x ∈ ns, ∃ j : Nat, x = (j : Int) ∧ j < n) : ∃ js : List Nat, ns = ni js ∧ js.Pairwise (· < ·) ∧ ∀ j ∈ js, j < n := by
  induction ns with
  | nil => exact ⟨[], rfl, .nil, fun _ z => (nomatch z)⟩
  | cons x r ih =>
    obtain ⟨h1, h2⟩ := List.pairwise_cons.mp h
    obtain ⟨js, e, u, l⟩ := ih h2 fun y hy => s y (List.mem_cons_of_mem _ hy)
    obtain ⟨j, ej, lj⟩ := s x List.mem_cons_self
    refine ⟨j :: js, by rw [e, ej]; rfl, List.pairwise_cons.mpr ⟨fun i hi => ?_, u⟩, fun i hi => ?_⟩
    · have := h1 (i : Int) (by rw [e]; exact ni_mem.mpr ⟨i, hi, rfl⟩)
      omega
    · rcases List.mem_cons.mp hi with rfl | hi
      · exact lj
      · exact l i hi
theorem ni_at {js : List Nat} {i : Nat} {x : V} (h : ((ni js).map V.int)[i]? = some x) : ∃ j, js[i]? = some j ∧ x = .int ((j : Nat) : Int) := by
  unfold ni at h
  rw [List.map_map, List.getElem?_map] at h
  cases e : js[i]? with
  | none =>
    rw [e] at h
    cases h
  | some j =>
    rw [e] at h
    cases h
    exact ⟨j, rfl, rfl⟩
theorem filt_snoc {js : List Nat} {f : Nat → Bool} {i j : Nat} (e : js[i]? = some j) : (js.take (i + 1)).filter f = (js.take i).filter f ++ (if f j = true then [j] else []) := by
  rw [List.take_add_one, e, List.filter_append]
  congr 1
  show List.filter f [j] = _
  cases h : f j with
  | true => simp [h]
  | false => simp [h]
theorem ni_app (a b : List Nat) : ni (a ++ b) = ni a ++ ni b := List.map_append
theorem pk_snoc {ds : List Rec} {js : List Nat} {i j : Nat} {d : Rec} (e : js[i]? = some j) (ed : ds[j]? = some d) : pk ds (js.take (i + 1)) = pk ds (js.take i) ++ [d] := by
  rw [List.take_add_one, e, pk_app]
  congr 1
  exact pk_one ed
theorem pk_le {ds : List Rec} (js : List Nat) : (pk ds js).length ≤ js.length := List.length_filterMap_le ..
theorem pk_bd {k : Nat} {ds : List Rec} (h : RcB k ds) (js : List Nat) : RcB k (pk ds js) := fun d hd => h d (pk_all d hd)
section
variable {P : Program} {w : World} {K : PySem.W.Frag} {mg : Str → Option Value} {base : Heap}
abbrev s_find_conflict : Stmt := topS 32
abbrev N_find_conflict : List Str := ["records", "pairs", "found", "index", "others", "pair", "other"]
abbrev P_find_conflict : List Str := ["records"]
theorem sc_find_conflict : FnScope N_find_conflict P_find_conflict (defScope s_find_conflict) := ⟨rfl, rfl, rfl, by decide +kernel, rfl, by decide +kernel, by decide +kernel⟩
theorem ok_find_conflict (D : Df K mg "find_conflict" s_find_conflict P_find_conflict) (B : Bi mg) (c_tight_pairs : C8.Cal P w K mg base 2 "tight_pairs" spTightS []) (c_leave_no_rate : C8.Cal P w K mg base 1 "leave_no_rate" spLNR []) (c_rate_ends : C8.Cal P w K mg base 3 "rate_ends" (spRateEndsS 1000) []) : C8.Cal P w K mg base 4 "find_conflict" (spFind 1000) [] := by
  refine cal_of D sc_find_conflict (fun vs H Q E h => ?_) (fun f cdv A outer s H vs Q E hr h => ?_)
  · obtain ⟨L, kb, xs, ds, k, rfl, _⟩ := h
    rfl
  · obtain ⟨L, kb, xs, ds, k, rfl, eL, hO, hl, bd, k0, k1, kk⟩ := h
    refine ⟨_, (pss_cons (ps_set (i := 1) sc_find_conflict.nd rfl (Or.inl rfl) (C8.pe_c c_tight_pairs hr (by decide) (by rfl) (pa_cons (pv 0) pa_nil)))
    (pss_cons (ps_if (pt_not (pt_val (C8.pe_c c_leave_no_rate hr (by decide) (by rfl) (pa_cons (pv 1) pa_nil))))
      (pss_one (ps_ret pe_non))
      pss_nil)
    (pss_cons (ps_set (i := 2) sc_find_conflict.nd rfl (Or.inl rfl) (pe_callB ((show CallR _ _ (rSortedSet w) from cr_sortedSet rfl)) (by rfl) B.sorted_ bt_sorted (pa_cons (pe_callTy ((show CallR _ _ (rSetL K w) from cr_setL rfl)) (by rfl) B.set_ bt_set (pa_cons (pe_lc2 (own := [("pair", 5), ("index", 3)]) (vs1 := [3]) (g := (gName 5)) (g1 := (gName 3)) (by rfl) sc_find_conflict.nd (pi_tup (pv 1)) (blkOk_by (own := [("pair", 5), ("index", 3)]) (N := N_find_conflict) (sc := defScope s_find_conflict) (by decide +kernel)) (by decide) (fun _ _ _ _ _ => (pg_name (i := 5) sc_find_conflict.nd rfl (Or.inl rfl))) (fun _ _ _ _ _ => (pts_one (pt_cmpR op_notN (pv 5) pe_non (nomark _)))) (fun _ _ _ _ _ => (show PI _ _ _ (iTup K (tSl (rSlT K) (tVar 5) (tPart (tC (.int 2))) tNoPart)) from (pi_tup (pe_slice sl_tup (pv 5) (po_some pe_int) po_none)))) (fun _ _ _ _ _ => (pg_name (i := 3) sc_find_conflict.nd rfl (Or.inl rfl))) (fun _ _ _ _ _ => pts_nil) (fun _ _ _ _ _ => (pv 3))) pa_nil)) pa_nil)))
    (pss_cons (ps_for PassesOwn.never rfl (pi_list (pe_callTy (call_list_of) (by rfl) B.list_ bt_list (pa_cons (pv 2) pa_nil))) (pg_name (i := 3) sc_find_conflict.nd rfl (Or.inr rfl))
      (pss_cons (ps_setLc (i := 4) (own := [("other", 6)]) (g := (gName 6)) (by rfl) sc_find_conflict.nd rfl rfl (sw_true rfl rfl rfl (by decide +kernel)) (pi_list (pv 2)) (blkOk_by (own := [("other", 6)]) (N := N_find_conflict) (sc := defScope s_find_conflict) (by decide +kernel)) (fun _ _ _ _ _ => (pg_name (i := 6) sc_find_conflict.nd rfl (Or.inl rfl))) (fun _ _ _ _ _ => (pts_one (pt_cmpR op_ne (pv 6) (pv 3) (nomark _)))) (fun _ _ _ _ _ => (pv 6)))
    (pss_one (ps_if (pt_cmpR op_isN (C8.pe_c c_rate_ends hr (by decide) (by rfl) (pa_cons (pe_lc (own := [("other", 6)]) (g := (gName 6)) (by rfl) sc_find_conflict.nd (pi_list (pv 4)) (blkOk_by (own := [("other", 6)]) (N := N_find_conflict) (sc := defScope s_find_conflict) (by decide +kernel)) (fun _ _ _ _ _ => (pg_name (i := 6) sc_find_conflict.nd rfl (Or.inl rfl))) (fun _ _ _ _ _ => pts_nil) (fun _ _ _ _ _ => (pe_ix (r := rIxB K) ix_B (pv 0) (pv 6) (fun _ _ => rfl)))) pa_nil)) pe_non (nomark _))
      (pss_one (ps_set (i := 2) sc_find_conflict.nd rfl (Or.inl rfl) (pv 4)))
      pss_nil))))
    (pss_one (ps_ret (pv 2))))))), ?_⟩
    refine ⟨_, rfl, L, kb, xs, ds, k, rfl, eL, hO, hl, bd, k0, k1, fun R H1 wl wu lo up s1 eR pl pu bl bu hlo hup => ?_⟩
    refine ⟨_, rfl, R, wl, wu, lo, up, k, rfl, eR, pl, pu, bl, bu, by omega, ?_⟩
    refine ⟨_, rfl, ?_⟩
    cases hn : nr lo up with
    | false =>
      refine iteT ?_
      exact kk _ _ s1 (.no fun h => by
        have := (nr_cf hlo hup).mpr h
        rw [hn] at this
        cases this)
    | true =>
      refine iteF ?_
      refine ⟨_, rfl, R, rfl, ⟨_, SqT.of eR⟩, fun D0 nD0 => ?_⟩
      refine lc2_out (walk_tup (K := K) (a := R) (xs := [wl, wu])) (fun i H' => H' D0 = some (.lst ((([lo, up].take i).flatMap cb).map V.int)) ∧ Same H1 H') ⟨upd_same, sm_upd nD0⟩ ?_ ?_ ?_
      · rintro i H2 _ ⟨_, s2⟩
        exact SqT.of (s2 _ _ eR)
      · rintro i x _ H2 hi ⟨eD, s2⟩ ⟨rfl, hx⟩
        obtain ⟨o, px, ho⟩ : ∃ o, PrV H1 x o ∧ [lo, up][i]? = some o := by
          match i, hi, hx with
          | 0, _, hx =>
            cases hx
            exact ⟨lo, pl, rfl⟩
          | 1, _, hx =>
            cases hx
            exact ⟨up, pu, rfl⟩
        have et : ([lo, up].take (i + 1)).flatMap cb = ([lo, up].take i).flatMap cb ++ cb o := by
          rw [List.take_add_one, ho, List.flatMap_append]
          simp
        have small : (([lo, up].take i).flatMap cb).length ≤ 4 := by
          have : ∀ o : Option T4, (cb o).length ≤ 2 := fun o => by cases o <;> simp [cb]
          have h1 := this lo
          have h2 := this up
          match i, hi with
          | 0, _ => simp
          | 1, _ => simp; omega
        rw [et]
        generalize ([lo, up].take i).flatMap cb = acc at eD small ⊢
        refine ⟨rfl, _, rfl, rfl, _, rfl, ?_⟩
        cases o with
        | none =>
          have e : x = .non := px
          subst e
          exact iteF ⟨by rw [show acc ++ cb none = acc from List.append_nil _]; exact eD, s2⟩
        | some z =>
          obtain ⟨r, rfl, er⟩ := px
          refine iteT ⟨_, rfl, 2, rfl, r, _, rfl, SqT.of (s2 _ _ er), fun z => absurd z.1 (by show ¬ HT.sIx 4 0 (some 2) = 0; decide), fun p np => ?_⟩
          have ec : cutV [V.int z.1, .int z.2.1, .int z.2.2.1, .int z.2.2.2] (some 2) none = [.int z.2.2.1, .int z.2.2.2] := rfl
          rw [ec]
          have zp := sm_upd (o := .tup [V.int z.2.2.1, .int z.2.2.2]) np
          have s3 := s2.trans zp
          refine ⟨p, rfl, ⟨_, SqT.of upd_same⟩, ?_⟩
          have ep := upd_same (H := H2) (a := p) (o := .tup [V.int z.2.2.1, .int z.2.2.2])
          have eD := zp _ _ eD
          generalize upd H2 p (.tup [V.int z.2.2.1, .int z.2.2.2]) = H3 at ep eD s3 ⊢
          refine lc2_in (walk_tup (K := K) (a := p) (xs := [V.int z.2.2.1, .int z.2.2.2])) (fun j H' => H' D0 = some (.lst ((acc ++ (cb (some z)).take j).map V.int)) ∧ Same H1 H' ∧ H' p = some (.tup [V.int z.2.2.1, .int z.2.2.2])) ⟨by rw [List.take_zero, List.append_nil]; exact eD, s3, ep⟩ ?_ ?_ ?_
          · rintro j H4 _ ⟨_, _, e4⟩
            exact SqT.of e4
          · rintro j y H4 _ hj ⟨e4, s4, p4⟩ ⟨rfl, hy⟩
            obtain ⟨c, rfl, hc⟩ : ∃ c : Int, y = .int c ∧ (cb (some z)).take (j + 1) = (cb (some z)).take j ++ [c] := by
              match j, hj, hy with
              | 0, _, hy =>
                cases hy
                exact ⟨_, rfl, rfl⟩
              | 1, _, hy =>
                cases hy
                exact ⟨_, rfl, rfl⟩
            have sl : ((acc ++ (cb (some z)).take j).map V.int).length < sizeLine := by
              rw [List.length_map, List.length_append, List.length_take]
              exact small1000 (by simp [cb]; omega)
            refine ⟨rfl, _, rfl, _, e4, sl, ?_, ?_, ?_⟩
            · rw [upd_same, hc]
              simp
            · intro b o e
              have nb : b ≠ D0 := ne_of_none e nD0
              rw [upd_ne nb]
              exact s4 _ _ e
            · rw [upd_ne (ne_of p4 e4 (by intro q; cases q))]
              exact p4
          · rintro H4 ⟨e4, s4, _⟩
            exact ⟨e4, s4⟩
      rintro H2 ⟨eD, s2⟩
      have ecb : (([lo, up].take [wl, wu].length).flatMap cb) = cb lo ++ cb up := by simp
      rw [ecb] at eD
      have cbl : (cb lo ++ cb up).length ≤ 4 := by
        have : ∀ o : Option T4, (cb o).length ≤ 2 := fun o => by cases o <;> simp [cb]
        have h1 := this lo
        have h2 := this up
        rw [List.length_append]
        omega
      refine ⟨D0, _, rfl, SqL.of eD, by omega, fun S c nS hc => ?_⟩
      have zS := sm_upd (o := SetO w S (fun j => decide (j ∈ cb lo ++ cb up)) c) nS
      refine ⟨S, _, c, rfl, upd_same, by omega, fun ns F hs hm hlen nF => ?_⟩
      have zF := sm_upd (o := .lst (ns.map V.int)) nF
      obtain ⟨js, rfl, ups, lts⟩ := ni_of (n := ds.length) hs fun x hx => cb_nat hlo hup x (of_decide_eq_true ((hm x).mp hx))
      have inJ : ∀ x ∈ cb lo ++ cb up, ∃ j ∈ js, x = ((j : Nat) : Int) := fun x hx => ni_mem.mp ((hm x).mpr (decide_eq_true hx))
      have inC : ∀ j ∈ js, ((j : Nat) : Int) ∈ cb lo ++ cb up := fun j hj => of_decide_eq_true ((hm _).mp (ni_mem.mpr ⟨j, hj, rfl⟩))
      have jl : js.length ≤ 4 := by
        rw [ni_len] at hlen
        omega
      have s3 := (s2.trans zS).trans zF
      have eF := upd_same (H := upd H2 S (SetO w S (fun j => decide (j ∈ cb lo ++ cb up)) c)) (a := F) (o := .lst ((ni js).map V.int))
      have nFH : H F = none := Same.nf ((s1.trans s2).trans zS) nF
      generalize upd (upd H2 S (SetO w S (fun j => decide (j ∈ cb lo ++ cb up)) c)) F (.lst ((ni js).map V.int)) = H3 at s3 eF ⊢
      have s13 := s1.trans s3
      clear zS zF eD s2 nS nF nD0 hs hm hlen
      refine ⟨_, rfl, F, _, rfl, .inl (SqL.of eF), fun C nC => ?_⟩
      have zC := sm_upd (o := .lst ((ni js).map V.int)) nC
      refine ⟨C, rfl, ⟨_, SqL.of upd_same⟩, ?_⟩
      have eC := upd_same (H := H3) (a := C) (o := .lst ((ni js).map V.int))
      have eF := zC _ _ eF
      have s14 := s13.trans zC
      generalize upd H3 C (.lst ((ni js).map V.int)) = H4 at eC eF s14 ⊢
      clear zC nC s13 s3
      refine for_list (K := K) (a := C) (xs := (ni js).map V.int) (fun i σ H' => ∃ (cur : List Nat) (G : Addr) (y3 y4 : Option V), σ = [some (.ref L), some (.ref R), some (.ref G), y3, y4, none, none] ∧ Same H4 H' ∧ H G = none ∧ H' G = some (.lst ((ni cur).map V.int)) ∧ cur.Pairwise (· < ·) ∧ (∀ j ∈ cur, j ∈ js) ∧ Cf (pk ds cur) ∧ ∀ j ∈ js.take i, j ∈ cur → ¬ Cf (pk ds (cur.filter (· ≠ j)))) ?_ ?_ ?_ ?_
      · exact ⟨js, F, _, _, rfl, Same.refl _, nFH, eF, ups, fun _ h => h, cb_cf hlo hup hn inJ, fun _ z => (nomatch z)⟩
      · rintro i σ H' _ ⟨_, _, _, _, _, s', _⟩
        exact SqL.of (s' _ _ eC)
      · rintro i v σ H5 hv ⟨cur, G, y3, y4, rfl, s5, nG, eG, cu, cj, cc, cm⟩
        obtain ⟨j, hj, rfl⟩ := ni_at hv
        have cl : cur.length ≤ 4 := Nat.le_trans (nodup_le (up_nodup cu) cj) jl
        refine ⟨_, rfl, G, rfl, ⟨_, SqL.of eG⟩, fun O nO => ?_⟩
        refine lc_it (walk_list (K := K) (a := G) (xs := (ni cur).map V.int)) (fun i H' => H' O = some (.lst ((ni ((cur.take i).filter (· ≠ j))).map V.int)) ∧ Same H5 H') ⟨upd_same, sm_upd nO⟩ ?_ ?_ ?_
        · rintro i H6 _ ⟨_, s6⟩
          exact SqL.of (s6 _ _ eG)
        · rintro i x H6 _ hi ⟨eO, s6⟩ ⟨rfl, hx⟩
          obtain ⟨e, he, rfl⟩ := ni_at hx
          have ft := filt_snoc (f := fun x => decide (x ≠ j)) he
          have al : ((ni ((cur.take i).filter (· ≠ j))).map V.int).length < sizeLine := by
            rw [List.length_map, ni_len]
            have h1 : ((cur.take i).filter (· ≠ j)).length ≤ (cur.take i).length := List.length_filter_le ..
            rw [List.length_take] at h1
            exact small1000 (by omega)
          refine ⟨rfl, _, rfl, _, rfl, rfl, _, rfl, ?_⟩
          by_cases c : e = j
          · refine iteNS (by subst c; simp) ⟨?_, s6⟩
            rw [ft, if_neg (by simp [c]), List.append_nil]
            exact eO
          · refine iteTs (by simp; omega) ⟨_, rfl, _, eO, al, ?_, ?_⟩
            · rw [upd_same, ft, if_pos (by simp [c]), ni_app, List.map_append]
              rfl
            · intro b o eb
              rw [upd_ne (ne_of_none eb nO)]
              exact s6 _ _ eb
        rintro H6 ⟨eO, s6⟩
        rw [List.take_of_length_le (by rw [List.length_map, ni_len]; exact Nat.le_refl _)] at eO
        have nOH : H O = none := Same.nf (s14.trans s5) nO
        have ol : (cur.filter (· ≠ j)).length ≤ 4 := Nat.le_trans (List.length_filter_le ..) cl
        have oj : ∀ x ∈ cur.filter (· ≠ j), x ∈ js := fun x hx => cj x (List.mem_filter.mp hx).1
        have ou : (cur.filter (· ≠ j)).Pairwise (· < ·) := cu.filter _
        have om : ∀ x ∈ js.take i, x ∈ cur.filter (· ≠ j) → ¬ Cf (pk ds ((cur.filter (· ≠ j)).filter (· ≠ x))) := fun x hx hc h => by
          refine cm x hx (List.mem_filter.mp hc).1 (h.sub (pk_sub fun y hy => ?_))
          obtain ⟨h1, h2⟩ := List.mem_filter.mp hy
          exact List.mem_filter.mpr ⟨(List.mem_filter.mp h1).1, h2⟩
        have jn : j ∉ cur.filter (· ≠ j) := fun h => by
          have := (List.mem_filter.mp h).2
          simp at this
        have jtk : ∀ x ∈ js.take (i + 1), x ∈ js.take i ∨ x = j := fun x hx => by
          rw [List.take_add_one, hj] at hx
          rcases List.mem_append.mp hx with h | h
          · exact .inl h
          · exact .inr (List.mem_singleton.mp h)
        generalize hoth : cur.filter (· ≠ j) = oth at eO ol oj ou om jn
        refine ⟨_, rfl, O, rfl, ⟨_, SqL.of eO⟩, fun Y nY => ?_⟩
        have sL := (s14.trans s5).trans s6
        have eL6 : H6 L = some (sqO kb xs) := sL _ _ eL
        have oO6 := hO.same sL
        refine lc_it (walk_list (K := K) (a := O) (xs := (ni oth).map V.int)) (fun i H' => ∃ ys, H' Y = some (.lst ys) ∧ Obs rcO H' ys (pk ds (oth.take i)) ∧ Same H6 H') ⟨_, upd_same, .nil, sm_upd nY⟩ ?_ ?_ ?_
        · rintro i H7 _ ⟨_, _, _, s7⟩
          exact SqL.of (s7 _ _ eO)
        · rintro i x H7 _ hi ⟨ys, eY, oY, s7⟩ ⟨rfl, hx⟩
          obtain ⟨e, he, rfl⟩ := ni_at hx
          have hed : e < ds.length := lts e (oj e (List.mem_of_getElem? he))
          have ed : ds[e]? = some ds[e] := List.getElem?_eq_getElem hed
          obtain ⟨r, hr', er⟩ := oO6.on ed
          have yl : ys.length < sizeLine := by
            have h1 := oY.len
            have h2 := pk_le (ds := ds) (oth.take i)
            rw [List.length_take] at h2
            exact small1000 (by omega)
          refine ⟨rfl, _, rfl, _, rfl, L, kb, xs, _, _, rfl, rfl, SqB.of (s7 _ _ eL6), atI_nat hr', ys, eY, yl, _, upd_same, ?_, ?_⟩
          · rw [pk_snoc he ed]
            refine Obs.keep (oY.snoc (s7 _ _ er)) fun b d' eb => ?_
            rw [upd_ne (ne_of eb eY (by intro q; cases q))]
            exact eb
          · intro b o eb
            rw [upd_ne (ne_of_none eb nY)]
            exact s7 _ _ eb
        rintro H7 ⟨ys, eY, oY, s7⟩
        rw [List.take_of_length_le (by rw [List.length_map, ni_len]; exact Nat.le_refl _)] at oY
        refine ⟨Y, true, ys, pk ds oth, k, rfl, eY, oY, Nat.le_trans (pk_le oth) (by omega), pk_bd bd oth, k0, k1, fun H8 v lo' up' s8 hlo' hup' _ _ rv => ?_⟩
        have s58 := (s6.trans s7).trans s8
        refine ⟨rfl, _, rfl, ?_⟩
        rcases rv with ⟨h1, rfl⟩ | ⟨h1, T, x, y, rfl, _⟩
        · refine iteT ?_
          refine ⟨_, rfl, oth, O, _, _, rfl, s5.trans s58, nOH, s8 _ _ (s7 _ _ eO), ou, oj, (nr_cf hlo' hup').mp h1, fun x hx hc => ?_⟩
          rcases jtk x hx with h | rfl
          · exact om x h hc
          · exact absurd hc jn
        · refine iteF ?_
          refine ⟨cur, G, _, _, rfl, s5.trans s58, nG, s58 _ _ eG, cu, cj, cc, fun x hx hc => ?_⟩
          rcases jtk x hx with h | rfl
          · exact cm x h hc
          · rw [hoth]
            intro h
            rw [(nr_cf hlo' hup').mpr h] at h1
            cases h1
      · rintro σ H5 ⟨cur, G, y3, y4, rfl, s5, nG, eG, cu, cj, cc, cm⟩
        have e : js.take ((ni js).map V.int).length = js := List.take_of_length_le (by rw [List.length_map, ni_len]; exact Nat.le_refl _)
        rw [e] at cm
        have cm := fun j hj => cm j (cj j hj) hj
        exact ⟨_, rfl, kk _ _ (s14.trans s5) (.yes nG eG ⟨cu, fun j hj => lts j (cj j hj), cc, cm, cb_le hlo hup hn (up_nodup cu) cm fun j hj => inC j (cj j hj)⟩)⟩
end
end Lf
namespace Lf
open PySem PySem.Spec PyProof.Rows L2
theorem in23 {n : Nat} (h : 2 ≤ n) (h3 : n ≤ 3) : inV (.int ((n : Nat) : Int)) [.int 2, .int 3] = true := by
  have : n = 2 ∨ n = 3 := by omega
  rcases this with rfl | rfl <;> decide +kernel
section
variable {P : Program} {w : World} {K : PySem.W.Frag} {mg : Str → Option Value} {base : Heap} {C : Addr}
/-! ### indexes -/
def spAreIx : Sp := fun vs H Q _ => ∃ (L : Addr) (js : List Nat) (n : Nat), vs = [.ref L, .int ((n : Nat) : Int)] ∧ H L = some (.lst ((ni js).map V.int)) ∧ js.Pairwise (· < ·) ∧ (∀ j ∈ js, j < n) ∧ ∀ H', Same H H' → Q (.bl true) H'
abbrev s_are_indexes : Stmt := topS 18
abbrev N_are_indexes : List Str := ["value", "number", "last", "index"]
abbrev P_are_indexes : List Str := ["value", "number"]
theorem sc_are_indexes : FnScope N_are_indexes P_are_indexes (defScope s_are_indexes) := ⟨rfl, rfl, rfl, by decide +kernel, rfl, by decide +kernel, by decide +kernel⟩
theorem ok_are_indexes (D : Df K mg "are_indexes" s_are_indexes P_are_indexes) (B : Bi mg) (c_is_integer : C8.Cal P w K mg base 1 "is_integer" spIsInt []) : C8.Cal P w K mg base 2 "are_indexes" spAreIx [] := by
  refine cal_of D sc_are_indexes (fun vs H Q E h => ?_) (fun f cdv A outer s H vs Q E hr h => ?_)
  · obtain ⟨L, js, n, rfl, _⟩ := h
    rfl
  · obtain ⟨L, js, n, rfl, eL, up, lt, kk⟩ := h
    refine ⟨_, (pss_cons (ps_if (pt_not (pt_val (pe_callB (call_isiT) (by rfl) B.isinstance_ bt_isinstance (pa_cons (pv 0) (pa_cons (pe_tup (pa_cons (pe_bltn (v := .ty "list") (by rfl) B.list_ bt_list rfl) (pa_cons (pe_bltn (v := .ty "tuple") (by rfl) B.tuple_ bt_tuple rfl) pa_nil))) pa_nil)))))
      (pss_one (ps_ret pe_bl))
      pss_nil)
    (pss_cons (ps_set (i := 2) sc_are_indexes.nd rfl (Or.inl rfl) (pe_un un_neg pe_int))
    (pss_cons (ps_for PassesOwn.never rfl (pi_list (pv 0)) (pg_name (i := 3) sc_are_indexes.nd rfl (Or.inl rfl))
      (pss_cons (ps_if (PW.pt (pw_or (pt_not (pt_val (C8.pe_c c_is_integer hr (by decide) (by rfl) (pa_cons (pv 3) pa_nil)))) (pw_or1 (pt_not (pt_chain op_lt op_lt (pv 2) (pv 3) (pv 1))))))
      (pss_one (ps_ret pe_bl))
      pss_nil)
    (pss_one (ps_set (i := 2) sc_are_indexes.nd rfl (Or.inl rfl) (pv 3)))))
    (pss_one (ps_ret pe_bl))))), ?_⟩
    refine ⟨_, rfl, len10 (by simp), fun tp ntp => ?_⟩
    have s1 := sm_upd (o := .tup [.ty "list", .ty "tuple"]) ntp
    refine ⟨_, tp, _, _, _, true, rfl, upd_same, .cons (.ty "list") (.cons (.ty "tuple") .nil), .base (.lst (s1 _ _ eL)), kit_lt, true, rfl, iteF ?_⟩
    generalize upd H tp (.tup [.ty "list", .ty "tuple"]) = H1 at s1
    refine ⟨1, rfl, ?_⟩
    refine ⟨_, rfl, L, rfl, ⟨_, SqL.of (s1 _ _ eL)⟩, ?_⟩
    refine for_list (K := K) (a := L) (xs := (ni js).map V.int) (fun i σ H' => ∃ (la : Int) (y : Option V), σ = [some (.ref L), some (.int ((n : Nat) : Int)), some (.int la), y] ∧ Same H H' ∧ ∀ j ∈ js.drop i, la < ((j : Nat) : Int)) ?_ ?_ ?_ ?_
    · exact ⟨-1, _, rfl, s1, fun j _ => by omega⟩
    · rintro i σ H' _ ⟨_, _, _, s', _⟩
      exact SqL.of (s' _ _ eL)
    · rintro i v σ H2 hv ⟨la, y, rfl, s2, hla⟩
      obtain ⟨j, hj, rfl⟩ := ni_at hv
      have hd : js.drop i = j :: js.drop (i + 1) := by
        obtain ⟨h1, h2⟩ := List.getElem?_eq_some_iff.mp hj
        rw [List.drop_eq_getElem_cons h1, h2]
      have pd : (js.drop i).Pairwise (· < ·) := up.sublist (List.drop_sublist i js)
      rw [hd] at hla pd
      have jl : (j : Int) < (n : Int) := by
        have := lt j (List.mem_of_getElem? hj)
        omega
      refine ⟨_, rfl, _, rfl, true, rfl, iteF ?_⟩
      refine ⟨_, rfl, _, rfl, _, _, rfl, rfl, _, rfl, iteD (hla j List.mem_cons_self) ?_⟩
      refine ⟨_, rfl, _, _, rfl, rfl, _, rfl, iteNS (by simp; omega) ?_⟩
      refine ⟨_, rfl, j, _, rfl, s2, fun x hx => ?_⟩
      have := (List.pairwise_cons.mp pd).1 x hx
      omega
    · rintro σ H2 ⟨la, y, rfl, s2, _⟩
      exact kk _ s2
/-! ### shows_conflict, is_conflict -/
def spShows (m : Nat) : Sp := fun vs H Q _ => ∃ (L J : Addr) (kb : Bool) (xs : List V) (ds : List Rec) (js : List Nat) (k : Nat), vs = [.ref L, .ref J] ∧ H L = some (sqO kb xs) ∧ Obs rcO H xs ds ∧ ds.length ≤ m ∧ RcB k ds ∧ 0 < k ∧ k ≤ 8000 ∧ H J = some (.lst ((ni js).map V.int)) ∧ js.Pairwise (· < ·) ∧ (∀ j ∈ js, j < ds.length) ∧ 2 ≤ js.length ∧ js.length ≤ 3 ∧
  ∀ b H', Same H H' → (b = true ↔ Cf (pk ds js)) → Q (.bl b) H'
/-- the records at some indexes, as a list: what the comprehension over them gives -/
abbrev s_shows_conflict : Stmt := topS 33
abbrev N_shows_conflict : List Str := ["records", "value", "index"]
abbrev P_shows_conflict : List Str := ["records", "value"]
theorem sc_shows_conflict : FnScope N_shows_conflict P_shows_conflict (defScope s_shows_conflict) := ⟨rfl, rfl, rfl, by decide +kernel, rfl, by decide +kernel, by decide +kernel⟩
theorem ok_shows_conflict (D : Df K mg "shows_conflict" s_shows_conflict P_shows_conflict) (B : Bi mg) (c_are_indexes : C8.Cal P w K mg base 2 "are_indexes" spAreIx []) (c_rate_ends : C8.Cal P w K mg base 3 "rate_ends" (spRateEndsS 1000) []) : C8.Cal P w K mg base 4 "shows_conflict" (spShows 1000) [] := by
  refine cal_of D sc_shows_conflict (fun vs H Q E h => ?_) (fun f cdv A outer s H vs Q E hr h => ?_)
  · obtain ⟨L, J, kb, xs, ds, js, k, rfl, _⟩ := h
    rfl
  · obtain ⟨L, J, kb, xs, ds, js, k, rfl, eL, hO, hl, bd, k0, k1, eJ, up, lt, g2, g3, kk⟩ := h
    refine ⟨_, (pss_cons (ps_if (PW.pt (pw_or (pt_not (pt_val (C8.pe_c c_are_indexes hr (by decide) (by rfl) (pa_cons (pv 1) (pa_cons (pe_callB (call_len_seq) (by rfl) B.len_ bt_len (pa_cons (pv 0) pa_nil)) pa_nil))))) (pw_or1 (pt_cmpR op_notIn_seq (pe_callB (call_len_seq) (by rfl) B.len_ bt_len (pa_cons (pv 1) pa_nil)) (pe_tup (pa_cons pe_int (pa_cons pe_int pa_nil))) rfl))))
      (pss_one (ps_ret pe_bl))
      pss_nil)
    (pss_one (ps_ret (pe_cmpR op_isN (C8.pe_c c_rate_ends hr (by decide) (by rfl) (pa_cons (pe_lc (own := [("index", 2)]) (g := (gName 2)) (by rfl) sc_shows_conflict.nd (pi_list (pv 1)) (blkOk_by (own := [("index", 2)]) (N := N_shows_conflict) (sc := defScope s_shows_conflict) (by decide +kernel)) (fun _ _ _ _ _ => (pg_name (i := 2) sc_shows_conflict.nd rfl (Or.inl rfl))) (fun _ _ _ _ _ => pts_nil) (fun _ _ _ _ _ => (pe_ix (r := rIxB K) ix_B (pv 0) (pv 2) (fun _ _ => rfl)))) pa_nil)) pe_non (nomark _))))), ?_⟩
    refine ⟨_, rfl, _, rfl, L, _, rfl, (SqB.of eL).or, J, js, ds.length, by rw [hO.len]; rfl, eJ, up, lt, fun H1 s1 => ?_⟩
    refine ⟨true, rfl, iteF ?_⟩
    have eL := s1 _ _ eL
    have eJ := s1 _ _ eJ
    have hO := hO.same s1
    refine ⟨_, rfl, J, _, rfl, .inl (SqL.of eJ), len10 (by simp), fun p np => ?_⟩
    have z1 := sm_upd (o := .tup [.int 2, .int 3]) np
    refine ⟨p, _, rfl, .inr (SqT.of upd_same), rfl, rfl, _, rfl, ?_⟩
    rw [List.length_map, ni_len, in23 g2 g3]
    refine iteF ?_
    have eL := z1 _ _ eL
    have eJ := z1 _ _ eJ
    have hO := hO.same z1
    have s2 := s1.trans z1
    generalize upd H1 p (.tup [.int 2, .int 3]) = H2 at eL eJ hO s2 ⊢
    refine ⟨_, rfl, J, rfl, ⟨_, SqL.of eJ⟩, fun Y nY => ?_⟩
    refine lc_it (walk_list (K := K) (a := J) (xs := (ni js).map V.int)) (fun i H' => ∃ ys, H' Y = some (.lst ys) ∧ Obs rcO H' ys (pk ds (js.take i)) ∧ Same H2 H') ⟨_, upd_same, .nil, sm_upd nY⟩ ?_ ?_ ?_
    · rintro i H7 _ ⟨_, _, _, s7⟩
      exact SqL.of (s7 _ _ eJ)
    · rintro i x H7 _ hi ⟨ys, eY, oY, s7⟩ ⟨rfl, hx⟩
      obtain ⟨e, he, rfl⟩ := ni_at hx
      have hed : e < ds.length := lt e (List.mem_of_getElem? he)
      have ed : ds[e]? = some ds[e] := List.getElem?_eq_getElem hed
      obtain ⟨r, hr', er⟩ := hO.on ed
      have yl : ys.length < sizeLine := by
        have h1 := oY.len
        have h2 := pk_le (ds := ds) (js.take i)
        rw [List.length_take] at h2
        exact small1000 (by omega)
      refine ⟨rfl, _, rfl, _, rfl, L, kb, xs, _, _, rfl, rfl, SqB.of (s7 _ _ eL), atI_nat hr', ys, eY, yl, _, upd_same, ?_, ?_⟩
      · rw [pk_snoc he ed]
        refine Obs.keep (oY.snoc (s7 _ _ er)) fun b d' eb => ?_
        rw [upd_ne (ne_of eb eY (by intro q; cases q))]
        exact eb
      · intro b o eb
        rw [upd_ne (ne_of_none eb nY)]
        exact s7 _ _ eb
    rintro H7 ⟨ys, eY, oY, s7⟩
    rw [List.take_of_length_le (by rw [List.length_map, ni_len]; exact Nat.le_refl _)] at oY
    refine ⟨Y, true, ys, pk ds js, k, rfl, eY, oY, Nat.le_trans (pk_le js) (by omega), pk_bd bd js, k0, k1, fun H8 v lo' up' s8 hlo' hup' _ _ rv => ?_⟩
    refine ⟨rfl, ?_⟩
    rcases rv with ⟨h1, rfl⟩ | ⟨h1, T, x, y, rfl, _⟩
    · exact kk true _ ((s2.trans s7).trans s8) ⟨fun _ => (nr_cf hlo' hup').mp h1, fun _ => rfl⟩
    · refine kk false _ ((s2.trans s7).trans s8) ⟨fun z => (nomatch z), fun h => ?_⟩
      rw [(nr_cf hlo' hup').mpr h] at h1
      cases h1
end
end Lf
namespace Lf
open PySem PySem.Spec PyProof.Rows L2
noncomputable instance cfDec (ds : List Rec) : Decidable (Cf ds) := Classical.propDecidable _
/-- what conflict gave, as it stands -/
inductive FcS (H : Hp) (ds : List Rec) : V → Prop
  | no : ¬ Cf ds → FcS H ds .non
  | yes {F : Addr} {js : List Nat} : H F = some (.lst ((ni js).map V.int)) → Least ds js → FcS H ds (.ref F)
theorem FcS.fr {H H' : Hp} {ds : List Rec} {v : V} (h : FcS H ds v) (f : Fr H H') : FcS H' ds v := by
  cases h with
  | no h => exact .no h
  | yes h1 h2 => exact .yes (f.l _ _ h1) h2
theorem FcS.same {H H' : Hp} {ds : List Rec} {v : V} (h : FcS H ds v) (s : Same H H') : FcS H' ds v := h.fr (Fr.same s)
theorem FcR.st {H H' : Hp} {ds : List Rec} {v : V} (h : FcR H H' ds v) : FcS H' ds v := by
  cases h with
  | no h => exact .no h
  | yes _ h1 h2 => exact .yes h1 h2
theorem FcS.none_iff {H : Hp} {ds : List Rec} {v : V} (h : FcS H ds v) : decide (v = V.non) = decide (¬ Cf ds) := by
  cases h with
  | no h => rw [decide_eq_true (p := ¬ Cf ds) h]; rfl
  | yes _ h => rw [decide_eq_false (p := ¬ Cf ds) (fun z => z (h.cf.sub pk_all))]; rfl
theorem RV.none_iff {H : Hp} {k : Nat} {ds : List Rec} {v : V} {lo up : Option T4} (hl : LoOk (SD ds) lo) (hu : UpOk (SD ds) up) (h : RV H k v lo up) : decide (v = V.non) = decide (Cf ds) := by
  rcases h with ⟨h1, rfl⟩ | ⟨h1, T, x, y, rfl, _⟩
  · rw [decide_eq_true (p := Cf ds) ((nr_cf hl hu).mp h1)]
    rfl
  · rw [decide_eq_false (p := Cf ds) fun z => by rw [(nr_cf hl hu).mpr z] at h1; cases h1]
    rfl
end Lf
namespace Lf
open PySem PySem.Spec PyProof.Rows L2
/-! ### the rule that fits, and what follows -/
theorem opp_opp (d : Rec) : opp (opp d) = d := by
  obtain ⟨lo, t, n⟩ := d
  cases lo
  · show Rec.mk false t (n + 1 - 1) = _
    rw [show n + 1 - 1 = n by omega]
  · show Rec.mk true t (n - 1 + 1) = _
    rw [show n - 1 + 1 = n by omega]
theorem fit_opp {p q c : Int} (d : Rec) : fitB p q c (opp d) = !fitB p q c d := by
  obtain ⟨lo, t, n⟩ := d
  cases lo
  · show decide (n + 1 ≤ (p * t + c) / q) = !decide ((p * t + c) / q ≤ n)
    rw [Bool.eq_iff_iff]
    simp
    omega
  · show decide ((p * t + c) / q ≤ n - 1) = !decide (n ≤ (p * t + c) / q)
    rw [Bool.eq_iff_iff]
    simp
    omega
theorem opp_bd {k : Nat} {d : Rec} (k0 : 0 < k) (h : Bd k d.t ∧ Bd k d.n) : Bd (k + 1) (opp d).t ∧ Bd (k + 1) (opp d).n := by
  refine ⟨h.1.mono (by omega), ?_⟩
  show Bd (k + 1) (if d.lo = true then d.n - 1 else d.n + 1)
  by_cases c : d.lo = true
  · rw [if_pos c]
    exact Bd.sub h.2 (Bd.small 1 (by decide) k0)
  · rw [if_neg c]
    exact Bd.add h.2 (Bd.small 1 (by decide) k0)
/-- a rule that fits shows that there is no conflict -/
theorem fits_m {p q c : Int} {ds : List Rec} (hq : 1 ≤ q) (h : ds.all (fitB p q c) = true) : FitM ds p q := by
  rw [List.all_eq_true] at h
  intro d hd e he ld le
  have h1 := (fit_lo hq ld).mp (h d hd)
  have h2 := (fit_hi hq le).mp (h e he)
  rw [Int.mul_sub, Int.sub_mul (e.n + 1)]
  omega
theorem fits_nc {p q c : Int} {ds : List Rec} (hp : 0 ≤ p) (hq : 1 ≤ q) (h : ds.all (fitB p q c) = true) : ¬ Cf ds := fun z => z p q hp hq (fits_m hq h)
theorem sim_gcd {p q t b N D : Int} (s : Sim p q t b N D) : Int.gcd N D = 1 := by
  obtain ⟨d1, n1, ⟨b1, b2⟩, mi⟩ := s
  have g0 : 0 < (Int.gcd N D : Int) := gcd_pos d1
  have eN : (Int.gcd N D : Int) * (N / (Int.gcd N D : Int)) = N := Int.mul_ediv_cancel' (Int.gcd_dvd_left ..)
  have eD : (Int.gcd N D : Int) * (D / (Int.gcd N D : Int)) = D := Int.mul_ediv_cancel' (Int.gcd_dvd_right ..)
  have key : (Int.gcd N D : Int) = 1 := by
    generalize (Int.gcd N D : Int) = g at *
    generalize N / g = n' at *
    generalize D / g = d' at *
    have hd' : 1 ≤ d' := by
      have : 0 < d' * g := by
        rw [Int.mul_comm]
        omega
      have := pos_of_mul this (by omega)
      omega
    have h := (mi n' d' hd' ⟨?_, ?_⟩).1
    · have e : g * d' ≤ 1 * d' := by omega
      have := Int.le_of_mul_le_mul_right e (by omega)
      omega
    · refine Int.lt_of_mul_lt_mul_left (a := g) ?_ (by omega)
      have e1 : g * (p * d') = p * (g * d') := by grind
      have e2 : g * (n' * q) = g * n' * q := by grind
      rw [e1, e2, eN, eD]
      exact b1
    · refine Int.lt_of_mul_lt_mul_left (a := g) ?_ (by omega)
      have e1 : g * (n' * b) = g * n' * b := by grind
      have e2 : g * (t * d') = t * (g * d') := by grind
      rw [e1, e2, eN, eD]
      exact b2
  omega
theorem ends_ok {S : T3 → T3 → Prop} {lo up : Option T4} (hl : LoOk S lo) (hu : UpOk S up) (h : nr lo up = false) : OkE (lowE lo) (highE up) := by
  cases up with
  | none =>
    show OkE (lowE lo) none
    cases lowE lo <;> trivial
  | some z =>
    have dz := hu.den z rfl
    have pz : 0 < z.1 := by
      rcases Int.lt_or_le 0 z.1 with g | g
      · exact g
      · exfalso
        cases lo with
        | none =>
          have h : decide (z.1 ≤ 0) = false := h
          rw [decide_eq_true g] at h
          cases h
        | some l =>
          have h : (decide (z.1 ≤ 0) || decide (z.1 * l.2.1 ≤ l.1 * z.2.1)) = false := h
          rw [decide_eq_true g] at h
          cases h
    have up0 : 0 < (redE z).1 := by
      have := (red_lt_iff (p := 0) (q := 1) dz).2.mpr (by omega)
      omega
    cases lo with
    | none => exact up0
    | some l =>
      have dl := hl.den l rfl
      show OkE (if l.1 < 0 then none else some (redE l)) (some (redE z))
      by_cases c : l.1 < 0
      · rw [if_pos c]
        exact up0
      · rw [if_neg c]
        have h : (decide (z.1 ≤ 0) || decide (z.1 * l.2.1 ≤ l.1 * z.2.1)) = false := h
        rw [decide_eq_false (show ¬ z.1 ≤ 0 by omega), Bool.false_or] at h
        have h := of_decide_eq_false h
        exact (red_lt_iff (p := (redE z).1) (q := (redE z).2) dl).1.mpr ((red_lt_iff (p := l.1) (q := l.2.1) dz).2.mpr (by omega))
theorem res_ins {e1 e2 : Option (Int × Int)} {N D : Int} (ok : OkE e1 e2) (h : ResE e1 e2 N D) : 0 ≤ N ∧ 1 ≤ D ∧ Int.gcd N D = 1 ∧ Ins e1 e2 N D := by
  match e1, e2, ok, h with
  | none, none, _, ⟨h1, h2⟩ =>
    subst h1 h2
    exact ⟨by omega, by omega, by decide, fun z e => (nomatch e), fun z e => (nomatch e)⟩
  | none, some t, ok, ⟨h1, h2⟩ =>
    subst h1 h2
    have ok : 0 < t.1 := ok
    refine ⟨by omega, by omega, by decide, fun z e => (nomatch e), fun z e => ?_⟩
    cases e
    omega
  | some l, none, _, h =>
    have h : Sim l.1 l.2 1 0 N D := h
    refine ⟨by have := h.n1; omega, h.d1, sim_gcd h, fun z e => ?_, fun z e => (nomatch e)⟩
    cases e
    exact h.bt.1
  | some l, some t, _, h =>
    have h : Sim l.1 l.2 t.1 t.2 N D := h
    refine ⟨by have := h.n1; omega, h.d1, sim_gcd h, fun z e => ?_, fun z e => ?_⟩
    · cases e
      exact h.bt.1
    · cases e
      exact h.bt.2
section
variable {P : Program} {w : World} {K : PySem.W.Frag} {mg : Str → Option Value} {base : Heap}
def spWO : Sp := fun vs H Q _ => ∃ (L r : Addr) (kb : Bool) (xs : List V) (ds : List Rec) (d : Rec), vs = [.ref L, .ref r] ∧ H L = some (sqO kb xs) ∧ Obs rcO H xs ds ∧ ds.length ≤ 200 ∧ H r = some (rcO d) ∧ ∀ D ys H', Same H H' → H' D = some (.lst ys) → Obs rcO H' ys (ds ++ [opp d]) → Q (.ref D) H'
abbrev s_with_opposite : Stmt := topS 38
abbrev N_with_opposite : List Str := ["records", "record"]
abbrev P_with_opposite : List Str := ["records", "record"]
theorem sc_with_opposite : FnScope N_with_opposite P_with_opposite (defScope s_with_opposite) := ⟨rfl, rfl, rfl, by decide +kernel, rfl, by decide +kernel, by decide +kernel⟩
theorem ok_with_opposite (D : Df K mg "with_opposite" s_with_opposite P_with_opposite) (B : Bi mg) (c_check_records : C8.Cal P w K mg base 3 "check_records" spCkS []) (c_is_record : C8.Cal P w K mg base 2 "is_record" spIsRec []) (c_opposite : C8.Cal P w K mg base 3 "opposite" spOpp []) : C8.Cal P w K mg base 4 "with_opposite" spWO [] := by
  refine cal_of D sc_with_opposite (fun vs H Q E h => ?_) (fun f cdv A outer s H vs Q E hr h => ?_)
  · obtain ⟨L, r, kb, xs, ds, d, rfl, _⟩ := h
    rfl
  · obtain ⟨L, r, kb, xs, ds, d, rfl, eL, hO, hl, er, kk⟩ := h
    refine ⟨_, (pss_cons (ps_expr (C8.pe_c c_check_records hr (by decide) (by rfl) (pa_cons (pv 0) pa_nil)))
    (pss_cons (ps_if (pt_not (pt_val (C8.pe_c c_is_record hr (by decide) (by rfl) (pa_cons (pv 1) pa_nil))))
      (pss_one ps_never)
      pss_nil)
    (pss_one (ps_ret (pe_op op_cat (pe_callTy (call_list_of) (by rfl) B.list_ bt_list (pa_cons (pv 0) pa_nil)) (pe_lst (pa_cons (C8.pe_c c_opposite hr (by decide) (by rfl) (pa_cons (pv 1) pa_nil)) pa_nil))))))), ?_⟩
    refine ⟨_, rfl, L, kb, xs, ds, rfl, eL, hO, hl, fun H1 s1 => ?_⟩
    refine ⟨_, rfl, r, d, rfl, s1 _ _ er, fun H2 s2 => ⟨true, rfl, iteF ?_⟩⟩
    have s12 := s1.trans s2
    refine ⟨_, rfl, L, _, rfl, (SqB.of (s12 _ _ eL)).or, fun l1 n1 => ?_⟩
    have z1 := sm_upd (o := .lst xs) n1
    refine ⟨_, rfl, r, d, rfl, z1 _ _ (s12 _ _ er), fun e H3 s3 ee => ?_⟩
    refine ⟨len10 (by simp), fun l2 n2 => ?_⟩
    have z2 := sm_upd (o := .lst [.ref e]) n2
    have lx := hO.len
    refine ⟨l1, l2, _, _, rfl, rfl, z2 _ _ (s3 _ _ upd_same), upd_same, len10 (by show xs.length + 1 ≤ 1000; omega), fun D nD => ?_⟩
    have z3 := sm_upd (o := .lst (xs ++ [.ref e])) nD
    have sa := ((s12.trans z1).trans s3).trans (z2.trans z3)
    exact kk D _ _ sa upd_same ((hO.same sa).snoc ((z2.trans z3) _ _ ee))
def spFitE : Sp := fun vs H Q _ => ∃ (L : Addr) (kb : Bool) (xs : List V) (ds : List Rec) (k : Nat), vs = [.ref L] ∧ H L = some (sqO kb xs) ∧ Obs rcO H xs ds ∧ ds.length ≤ 1000 ∧ RcB k ds ∧ 0 < k ∧ k ≤ 8000 ∧ ¬ Cf ds ∧
  ∀ H' T a b lo up, Same H H' → LoOk (SD ds) lo → UpOk (SD ds) up → nr lo up = false → H' T = some (.tup [a, b]) → EndV H' (k + 2) a (lowE lo) → EndV H' (k + 2) b (highE up) → Q (.ref T) H'
abbrev s_fitting_ends : Stmt := topS 28
abbrev N_fitting_ends : List Str := ["records", "ends"]
abbrev P_fitting_ends : List Str := ["records"]
theorem sc_fitting_ends : FnScope N_fitting_ends P_fitting_ends (defScope s_fitting_ends) := ⟨rfl, rfl, rfl, by decide +kernel, rfl, by decide +kernel, by decide +kernel⟩
theorem ok_fitting_ends (D : Df K mg "fitting_ends" s_fitting_ends P_fitting_ends) (c_rate_ends : C8.Cal P w K mg base 3 "rate_ends" (spRateEndsS 1000) []) : C8.Cal P w K mg base 4 "fitting_ends" spFitE [] := by
  refine cal_of D sc_fitting_ends (fun vs H Q E h => ?_) (fun f cdv A outer s H vs Q E hr h => ?_)
  · obtain ⟨L, kb, xs, ds, k, rfl, _⟩ := h
    rfl
  · obtain ⟨L, kb, xs, ds, k, rfl, eL, hO, hl, bd, k0, k1, nc, kk⟩ := h
    refine ⟨_, (pss_cons (ps_set (i := 1) sc_fitting_ends.nd rfl (Or.inl rfl) (C8.pe_c c_rate_ends hr (by decide) (by rfl) (pa_cons (pv 0) pa_nil)))
    (pss_cons (ps_if (pt_cmpR op_isN (pv 1) pe_non (nomark _))
      (pss_one ps_never)
      pss_nil)
    (pss_one (ps_ret (pv 1))))), ?_⟩
    refine ⟨_, rfl, L, kb, xs, ds, k, rfl, eL, hO, hl, bd, k0, k1, fun H1 v lo up s1 hlo hup _ _ rv => ?_⟩
    rcases rv with ⟨h1, _⟩ | ⟨h1, T, a, b, rfl, eT, g1, g2⟩
    · exact absurd ((nr_cf hlo hup).mp h1) nc
    · refine ⟨_, rfl, rfl, _, rfl, iteF ?_⟩
      exact ⟨_, rfl, kk H1 T a b lo up s1 hlo hup h1 eT g1 g2⟩
def spFitR : Sp := fun vs H Q _ => ∃ (L : Addr) (kb : Bool) (xs : List V) (ds : List Rec) (k : Nat), vs = [.ref L] ∧ H L = some (sqO kb xs) ∧ Obs rcO H xs ds ∧ ds.length ≤ 1000 ∧ RcB k ds ∧ 0 < k ∧ k ≤ 1900 ∧ ¬ Cf ds ∧
  ∀ H' r p q c, Same H H' → H' r = some (.tup [.int p, .int q, .int c]) → RuleB (2 * k + 10) p q c → ds.all (fitB p q c) = true → Q (.ref r) H'
abbrev s_fitting_rule : Stmt := topS 30
abbrev N_fitting_rule : List Str := ["records", "low", "high", "p", "q", "least", "greatest"]
abbrev P_fitting_rule : List Str := ["records"]
theorem sc_fitting_rule : FnScope N_fitting_rule P_fitting_rule (defScope s_fitting_rule) := ⟨rfl, rfl, rfl, by decide +kernel, rfl, by decide +kernel, by decide +kernel⟩
theorem ok_fitting_rule (D : Df K mg "fitting_rule" s_fitting_rule P_fitting_rule) (c_fitting_ends : C8.Cal P w K mg base 4 "fitting_ends" spFitE []) (c_simplest_between : C8.Cal P w K mg base 4 "simplest_between" spSB []) (c_phase_ends : C8.Cal P w K mg base 2 "phase_ends" spPhES []) : C8.Cal P w K mg base 5 "fitting_rule" spFitR [] := by
  refine cal_of D sc_fitting_rule (fun vs H Q E h => ?_) (fun f cdv A outer s H vs Q E hr h => ?_)
  · obtain ⟨L, kb, xs, ds, k, rfl, _⟩ := h
    rfl
  · obtain ⟨L, kb, xs, ds, k, rfl, eL, hO, hl, bd, k0, k1, nc, kk⟩ := h
    refine ⟨_, (pss_cons (ps_asg (C8.pe_c c_fitting_ends hr (by decide) (by rfl) (pa_cons (pv 0) pa_nil)) (pg_tup rfl (pgs_cons (pg_name (i := 1) sc_fitting_rule.nd rfl (Or.inl rfl)) (pgs_cons (pg_name (i := 2) sc_fitting_rule.nd rfl (Or.inl rfl)) pgs_nil))))
    (pss_cons (ps_asg (C8.pe_c c_simplest_between hr (by decide) (by rfl) (pa_cons (pv 1) (pa_cons (pv 2) pa_nil))) (pg_tup rfl (pgs_cons (pg_name (i := 3) sc_fitting_rule.nd rfl (Or.inl rfl)) (pgs_cons (pg_name (i := 4) sc_fitting_rule.nd rfl (Or.inl rfl)) pgs_nil))))
    (pss_cons (ps_asg (C8.pe_c c_phase_ends hr (by decide) (by rfl) (pa_cons (pv 0) (pa_cons (pe_tup (pa_cons (pv 3) (pa_cons (pv 4) pa_nil))) pa_nil))) (pg_tup rfl (pgs_cons (pg_name (i := 5) sc_fitting_rule.nd rfl (Or.inl rfl)) (pgs_cons (pg_name (i := 6) sc_fitting_rule.nd rfl (Or.inl rfl)) pgs_nil))))
    (pss_cons (ps_if (pt_cmpR op_notN (pv 5) pe_non (nomark _))
      (pss_one (ps_ret (pe_tup (pa_cons (pv 3) (pa_cons (pv 4) (pa_cons (pv 5) pa_nil))))))
      pss_nil)
    (pss_one (ps_ret (pe_tup (pa_cons (pv 3) (pa_cons (pv 4) (pa_cons (pe_ifExp (pt_cmpR op_isN (pv 6) pe_non (nomark _)) pe_int (pv 6)) pa_nil)))))))))), ?_⟩
    refine ⟨_, rfl, L, kb, xs, ds, k, rfl, eL, hO, hl, bd, k0, by omega, nc, fun H1 T va vb lo up s1 hlo hup hn eT g1 g2 => ?_⟩
    refine ⟨T, _, rfl, SqT.of eT, rfl, _, _, rfl, _, _, rfl, rfl, ?_⟩
    have ok := ends_ok hlo hup hn
    refine ⟨_, rfl, _, rfl, va, vb, _, _, k + 2, rfl, g1, g2, ok, by omega, by omega, fun r H2 N D s2 nr er res bN bD => ?_⟩
    refine ⟨r, _, rfl, SqT.of er, rfl, _, _, rfl, _, _, rfl, rfl, ?_⟩
    obtain ⟨n0, d1, hg, ins⟩ := res_ins ok res
    have fm := fitm_sd.mp ((rate_iff n0 d1 hlo hup).mpr ((ins_iff n0 d1 hlo hup).mp ins))
    refine ⟨_, rfl, _, rfl, _, rfl, len10 (by simp), fun t nt => ?_⟩
    have z := sm_upd (o := tup2 N D) nt
    have s3 := (s1.trans s2).trans z
    refine ⟨L, t, kb, xs, ds, N, D, k + 3, rfl, s3 _ _ eL, hO.same s3, hl, upd_same, bd.mono (by omega), bN, bD, by omega, by omega, fun T2 H4 a b s4 nT2 eT2 ha hb => ?_⟩
    have s5 := s3.trans s4
    refine ⟨T2, _, rfl, SqT.of eT2, rfl, _, _, rfl, _, _, rfl, rfl, ?_⟩
    have okp := (ph_iff ha hb).mpr (fitm_sd.mpr fm)
    have fin : ∀ c : Int, geO a c → leO b c → Bd (2 * k + 10) c → ∀ r', H4 r' = none → Q (.ref r') (upd H4 r' (.tup [.int N, .int D, .int c])) := fun c h1 h2 bc r' nr' =>
      kk _ r' N D c (s5.trans (sm_upd nr')) upd_same ⟨n0, d1, hg, bN.mono (by omega), bD.mono (by omega), bc⟩ ((fit_iff d1 ha hb).mpr ⟨h1, h2⟩)
    have bd3 := bd.mono (show k ≤ k + 3 by omega)
    match a, b, ha, hb, okp, fin with
    | some x, b, ha, hb, okp, fin =>
      refine ⟨_, rfl, rfl, _, rfl, iteT ?_⟩
      refine ⟨_, rfl, _, rfl, _, rfl, len10 (by simp), fun r' nr' => ?_⟩
      refine fin x (Int.le_refl _) ?_ ((mx_bd (by omega) bd3 bN bD ha).mono (by omega)) r' nr'
      match b, okp with
      | none, _ => trivial
      | some y, okp => exact of_decide_eq_true (p := _ ≤ y) okp
    | none, none, ha, hb, okp, fin =>
      refine ⟨_, rfl, rfl, _, rfl, iteF ?_⟩
      refine ⟨_, rfl, _, rfl, _, rfl, rfl, _, rfl, iteT ?_⟩
      exact ⟨len10 (by simp), fun r' nr' => fin 0 trivial trivial (Bd.small 0 (by decide) (by omega)) r' nr'⟩
    | none, some y, ha, hb, okp, fin =>
      refine ⟨_, rfl, rfl, _, rfl, iteF ?_⟩
      refine ⟨_, rfl, _, rfl, _, rfl, rfl, _, rfl, iteF ?_⟩
      exact ⟨_, rfl, len10 (by simp), fun r' nr' => fin y trivial (Int.le_refl _) ((mn_bd (by omega) bd3 bN bD hb).mono (by omega)) r' nr'⟩
/-- what follows gave, as it stands -/
inductive FlS (H : Hp) (k : Nat) (ds : List Rec) : Addr → Bool → Prop
  | opn {T r : Addr} {p q c : Int} : H T = some (.tup [.str "open", .ref r]) → H r = some (.tup [.int p, .int q, .int c]) → RuleB (2 * k + 10) p q c → ds.all (fitB p q c) = true → FlS H k ds T false
  | fol {T J : Addr} {js : List Nat} : H T = some (.tup [.str "follows", .ref J]) → H J = some (.lst ((ni js).map V.int)) → Least ds js → FlS H k ds T true
theorem FlS.fr {H H' : Hp} {k : Nat} {ds : List Rec} {T : Addr} {b : Bool} (h : FlS H k ds T b) (f : Fr H H') : FlS H' k ds T b := by
  cases h with
  | opn h1 h2 h3 h4 => exact .opn (f.t _ _ h1) (f.t _ _ h2) h3 h4
  | fol h1 h2 h3 => exact .fol (f.t _ _ h1) (f.l _ _ h2) h3
theorem FlS.same {H H' : Hp} {k : Nat} {ds : List Rec} {T : Addr} {b : Bool} (h : FlS H k ds T b) (s : Same H H') : FlS H' k ds T b := h.fr (Fr.same s)
theorem FlS.iff {H : Hp} {k : Nat} {ds : List Rec} {T : Addr} {b : Bool} (h : FlS H k ds T b) : b = true ↔ Cf ds := by
  cases h with
  | opn _ _ h3 h4 => exact ⟨fun z => (nomatch z), fun z => absurd z (fits_nc h3.p0 h3.q1 h4)⟩
  | fol _ _ h3 => exact ⟨fun _ => h3.cf.sub pk_all, fun _ => rfl⟩
def spFollows : Sp := fun vs H Q _ => ∃ (L r : Addr) (kb : Bool) (xs : List V) (ds : List Rec) (d : Rec) (k : Nat), vs = [.ref L, .ref r] ∧ H L = some (sqO kb xs) ∧ Obs rcO H xs ds ∧ ds.length ≤ 200 ∧ H r = some (rcO d) ∧ RcB k ds ∧ (Bd k d.t ∧ Bd k d.n) ∧ 0 < k ∧ k ≤ 1800 ∧
  ∀ T b H', Same H H' → FlS H' (k + 1) (ds ++ [opp d]) T b → Q (.ref T) H'
abbrev s_follows : Stmt := topS 36
abbrev N_follows : List Str := ["records", "record", "doubted", "indexes"]
abbrev P_follows : List Str := ["records", "record"]
theorem sc_follows : FnScope N_follows P_follows (defScope s_follows) := ⟨rfl, rfl, rfl, by decide +kernel, rfl, by decide +kernel, by decide +kernel⟩
theorem ok_follows (D : Df K mg "follows" s_follows P_follows) (c_with_opposite : C8.Cal P w K mg base 4 "with_opposite" spWO []) (c_find_conflict : C8.Cal P w K mg base 4 "find_conflict" (spFind 1000) []) (c_fitting_rule : C8.Cal P w K mg base 5 "fitting_rule" spFitR []) : C8.Cal P w K mg base 6 "follows" spFollows [] := by
  refine cal_of D sc_follows (fun vs H Q E h => ?_) (fun f cdv A outer s H vs Q E hr h => ?_)
  · obtain ⟨L, r, kb, xs, ds, d, k, rfl, _⟩ := h
    rfl
  · obtain ⟨L, r, kb, xs, ds, d, k, rfl, eL, hO, hl, er, bd, bd2, k0, k1, kk⟩ := h
    refine ⟨_, (pss_cons (ps_set (i := 2) sc_follows.nd rfl (Or.inl rfl) (C8.pe_c c_with_opposite hr (by decide) (by rfl) (pa_cons (pv 0) (pa_cons (pv 1) pa_nil))))
    (pss_cons (ps_set (i := 3) sc_follows.nd rfl (Or.inl rfl) (C8.pe_c c_find_conflict hr (by decide) (by rfl) (pa_cons (pv 2) pa_nil)))
    (pss_cons (ps_if (pt_cmpR op_isN (pv 3) pe_non (nomark _))
      (pss_one (ps_ret (pe_tup (pa_cons pe_str (pa_cons (C8.pe_c c_fitting_rule hr (by decide) (by rfl) (pa_cons (pv 2) pa_nil)) pa_nil)))))
      pss_nil)
    (pss_one (ps_ret (pe_tup (pa_cons pe_str (pa_cons (pv 3) pa_nil)))))))), ?_⟩
    refine ⟨_, rfl, _, rfl, L, r, kb, xs, ds, d, rfl, eL, hO, hl, er, fun D ys H1 s1 eD oD => ?_⟩
    have bD : RcB (k + 1) (ds ++ [opp d]) := fun e he => by
      rcases List.mem_append.mp he with g | g
      · exact ⟨(bd e g).1.mono (by omega), (bd e g).2.mono (by omega)⟩
      · rw [List.mem_singleton.mp g]
        exact opp_bd k0 bd2
    have lD : (ds ++ [opp d]).length ≤ 201 := by
      rw [List.length_append]
      show ds.length + 1 ≤ 201
      omega
    refine ⟨_, rfl, D, true, ys, ds ++ [opp d], k + 1, rfl, eD, oD, by omega, bD, by omega, by omega, fun v H2 s2 fc => ?_⟩
    cases fc with
    | no h =>
      refine ⟨_, rfl, rfl, _, rfl, iteT ?_⟩
      refine ⟨_, rfl, D, true, ys, ds ++ [opp d], k + 1, rfl, s2 _ _ eD, oD.same s2, by omega, bD, by omega, by omega, h, fun H3 r' p q c s3 er' R hf => ?_⟩
      refine ⟨len10 (by simp), fun T nT => ?_⟩
      have z := sm_upd (o := .tup [.str "open", .ref r']) nT
      exact kk T false _ (((s1.trans s2).trans s3).trans z) (.opn upd_same (z _ _ er') R hf)
    | @yes J js nJ eJ hJ =>
      refine ⟨_, rfl, rfl, _, rfl, iteF ?_⟩
      refine ⟨_, rfl, len10 (by simp), fun T nT => ?_⟩
      have z := sm_upd (o := .tup [.str "follows", .ref J]) nT
      exact kk T true _ ((s1.trans s2).trans z) (.fol upd_same (z _ _ eJ) hJ)
def spIsAns : Sp := fun vs H Q _ => ∃ (L r T : Addr) (kb : Bool) (xs : List V) (ds : List Rec) (d : Rec) (b : Bool) (k : Nat), vs = [.ref L, .ref r, .ref T] ∧ H L = some (sqO kb xs) ∧ Obs rcO H xs ds ∧ ds.length ≤ 200 ∧ H r = some (rcO d) ∧ RcB k ds ∧ (Bd k d.t ∧ Bd k d.n) ∧ 0 < k ∧ k ≤ 1800 ∧ FlS H (k + 1) (ds ++ [opp d]) T b ∧ ∀ H', Same H H' → Q (.bl true) H'
theorem foOp : V.str "open" ≠ V.str "follows" := fun z => absurd (V.str.inj z) (by decide +kernel)
abbrev s_is_answer : Stmt := topS 37
abbrev N_is_answer : List Str := ["records", "record", "value", "doubted", "item"]
abbrev P_is_answer : List Str := ["records", "record", "value"]
theorem sc_is_answer : FnScope N_is_answer P_is_answer (defScope s_is_answer) := ⟨rfl, rfl, rfl, by decide +kernel, rfl, by decide +kernel, by decide +kernel⟩
theorem ok_is_answer (D : Df K mg "is_answer" s_is_answer P_is_answer) (B : Bi mg) (c_with_opposite : C8.Cal P w K mg base 4 "with_opposite" spWO []) (c_shows_conflict : C8.Cal P w K mg base 4 "shows_conflict" (spShows 1000) []) (c_is_rule : C8.Cal P w K mg base 2 "is_rule" spIsRule []) (c_fits_record : C8.Cal P w K mg base 1 "fits_record" spFitsRec []) : C8.Cal P w K mg base 5 "is_answer" spIsAns [] := by
  refine cal_of D sc_is_answer (fun vs H Q E h => ?_) (fun f cdv A outer s H vs Q E hr h => ?_)
  · obtain ⟨L, r, T, kb, xs, ds, d, b, k, rfl, _⟩ := h
    rfl
  · obtain ⟨L, r, T, kb, xs, ds, d, b, k, rfl, eL, hO, hl, er, bd, bd2, k0, k1, fl, kk⟩ := h
    refine ⟨_, (pss_cons (ps_set (i := 3) sc_is_answer.nd rfl (Or.inl rfl) (C8.pe_c c_with_opposite hr (by decide) (by rfl) (pa_cons (pv 0) (pa_cons (pv 1) pa_nil))))
    (pss_cons (ps_if (PW.pt (pw_or (pt_not (pt_val (pe_callB (call_isi) (by rfl) B.isinstance_ bt_isinstance (pa_cons (pv 2) (pa_cons (pe_bltn (v := .ty "tuple") (by rfl) B.tuple_ bt_tuple rfl) pa_nil))))) (pw_or1 (pt_cmpR op_ne (pe_callB (call_len_seq) (by rfl) B.len_ bt_len (pa_cons (pv 2) pa_nil)) pe_int (nomark _)))))
      (pss_one (ps_ret pe_bl))
      pss_nil)
    (pss_cons (ps_if (pt_cmpR op_eq (pe_ix (r := rIxT K) ix_tup (pv 2) pe_int (fun _ _ => rfl)) pe_str (nomark _))
      (pss_one (ps_ret (C8.pe_c c_shows_conflict hr (by decide) (by rfl) (pa_cons (pv 3) (pa_cons (pe_ix (r := rIxT K) ix_tup (pv 2) pe_int (fun _ _ => rfl)) pa_nil)))))
      pss_nil)
    (pss_cons (ps_if (PW.pt (pw_or (pt_cmpR op_ne (pe_ix (r := rIxT K) ix_tup (pv 2) pe_int (fun _ _ => rfl)) pe_str (nomark _)) (pw_or1 (pt_not (pt_val (C8.pe_c c_is_rule hr (by decide) (by rfl) (pa_cons (pe_ix (r := rIxT K) ix_tup (pv 2) pe_int (fun _ _ => rfl)) pa_nil)))))))
      (pss_one (ps_ret pe_bl))
      pss_nil)
    (pss_one (ps_ret (pe_callB (cr_all rfl) (by rfl) B.all_ bt_all (pa_cons (pe_lc (own := [("item", 4)]) (g := (gName 4)) (by rfl) sc_is_answer.nd (pi_list (pv 3)) (blkOk_by (own := [("item", 4)]) (N := N_is_answer) (sc := defScope s_is_answer) (by decide +kernel)) (fun _ _ _ _ _ => (pg_name (i := 4) sc_is_answer.nd rfl (Or.inl rfl))) (fun _ _ _ _ _ => pts_nil) (fun _ _ _ _ _ => (C8.pe_c c_fits_record hr (by decide) (by rfl) (pa_cons (pe_ix (r := rIxT K) ix_tup (pv 2) pe_int (fun _ _ => rfl)) (pa_cons (pv 4) pa_nil))))) pa_nil)))))))), ?_⟩
    refine ⟨_, rfl, _, rfl, L, r, kb, xs, ds, d, rfl, eL, hO, hl, er, fun D ys H1 s1 eD oD => ?_⟩
    have bD : RcB (k + 1) (ds ++ [opp d]) := fun e he => by
      rcases List.mem_append.mp he with g | g
      · exact ⟨(bd e g).1.mono (by omega), (bd e g).2.mono (by omega)⟩
      · rw [List.mem_singleton.mp g]
        exact opp_bd k0 bd2
    have lD : (ds ++ [opp d]).length ≤ 201 := by
      rw [List.length_append]
      show ds.length + 1 ≤ 201
      omega
    have fl := fl.same s1
    generalize ds ++ [opp d] = es at oD bD lD fl
    cases fl with
    | @opn r' p q c eT er' R hf =>
      refine ⟨_, rfl, _, _, _, _, true, rfl, .ty "tuple", .base (.tup eT), kit_ty ktt, true, rfl, iteF ?_⟩
      refine ⟨_, rfl, T, _, rfl, .inr (SqT.of eT), rfl, _, rfl, iteNS rfl ?_⟩
      refine ⟨_, rfl, T, _, _, _, rfl, rfl, SqT.of eT, atI_nat (j := 0) rfl, rfl, _, rfl, ?_⟩
      rw [decide_eq_false foOp]
      refine iteF ?_
      refine ⟨_, rfl, T, _, _, _, rfl, rfl, SqT.of eT, atI_nat (j := 0) rfl, rfl, _, rfl, iteNS (by simp) ?_⟩
      refine ⟨_, rfl, T, _, _, _, rfl, rfl, SqT.of eT, atI_nat (j := 1) rfl, r', p, q, c, _, rfl, er', R, fun H2 s2 => ⟨true, rfl, iteF ?_⟩⟩
      have eD := s2 _ _ eD
      have oD := oD.same s2
      refine ⟨_, rfl, D, rfl, ⟨_, SqL.of eD⟩, fun Y nY => ?_⟩
      refine lc_it (walk_list (K := K) (a := D) (xs := ys)) (fun i H' => Same H2 H' ∧ H' Y = some (.lst (((es.take i).map (fitB p q c)).map V.bl))) ⟨sm_upd nY, upd_same⟩ ?_ ?_ ?_
      · rintro i H3 _ ⟨s3, _⟩
        exact SqL.of (s3 _ _ eD)
      · rintro i x H3 _ hi0 ⟨s3, e3⟩ ⟨rfl, hx⟩
        obtain ⟨e, d', rfl, ed, hd⟩ := oD.at hx
        have hi := (List.getElem?_eq_some_iff.mp hd).1
        refine ⟨rfl, _, rfl, T, _, _, _, rfl, rfl, SqT.of (s3 _ _ (s2 _ _ eT)), atI_nat (j := 1) rfl, _, rfl, r', e, p, q, c, d', 2 * (k + 1) + 10, rfl, s3 _ _ (s2 _ _ er'), s3 _ _ ed, R.q1, R.bp, R.bq, (bD d' (List.mem_of_getElem? hd)).1.mono (by omega), by omega, by omega, _, e3, ?_, ?_, ?_⟩
        · rw [List.length_map, List.length_map, List.length_take]
          exact small1000 (by omega)
        · intro b o eb
          rw [upd_ne (ne_of_none eb nY)]
          exact s3 _ _ eb
        · rw [upd_same, List.take_add_one, hd, List.map_append, List.map_append]
          rfl
      rintro H3 ⟨s3, e3⟩
      rw [List.take_of_length_le (by rw [oD.len]; exact Nat.le_refl _)] at e3
      refine ⟨Y, _, rfl, SqL.of e3, ?_⟩
      rw [List.all_map]
      have hf : es.all (id ∘ fitB p q c) = true := hf
      rw [hf]
      exact kk _ ((s1.trans s2).trans s3)
    | @fol J js eT eJ hJ =>
      refine ⟨_, rfl, _, _, _, _, true, rfl, .ty "tuple", .base (.tup eT), kit_ty ktt, true, rfl, iteF ?_⟩
      refine ⟨_, rfl, T, _, rfl, .inr (SqT.of eT), rfl, _, rfl, iteNS rfl ?_⟩
      refine ⟨_, rfl, T, _, _, _, rfl, rfl, SqT.of eT, atI_nat (j := 0) rfl, rfl, _, rfl, iteT ?_⟩
      refine ⟨_, rfl, _, rfl, T, _, _, _, rfl, rfl, SqT.of eT, atI_nat (j := 1) rfl, D, J, true, ys, es, js, k + 1, rfl, eD, oD, by omega, bD, by omega, by omega, eJ, hJ.up, hJ.lt, hJ.ge, hJ.le, fun b' H2 s2 hb => ?_⟩
      rw [hb.mpr hJ.cf]
      exact kk _ (s1.trans s2)
end
end Lf
namespace Lf
open PySem PySem.Spec PyProof.Rows L2
/-! ### how a record follows -/
def hd (b : Bool) : Str := if b then "follows" else "open"
theorem hd_f (b : Bool) : decide (V.str (hd b) = V.str "follows") = b := by
  cases b
  · exact decide_eq_false foOp
  · exact decide_eq_true rfl
theorem hd_o (b : Bool) : decide (V.str (hd b) = V.str "open") = !b := by
  cases b
  · exact decide_eq_true rfl
  · exact decide_eq_false fun z => foOp z.symm
theorem hd_hd (b c : Bool) : decide (V.str (hd b) = V.str (hd c)) = (b == c) := by
  cases b <;> cases c
  · exact decide_eq_true rfl
  · exact decide_eq_false foOp
  · exact decide_eq_false fun z => foOp z.symm
  · exact decide_eq_true rfl
theorem FlS.head {H : Hp} {k : Nat} {ds : List Rec} {T : Addr} {b : Bool} (h : FlS H k ds T b) : ∃ y, H T = some (.tup [.str (hd b), y]) := by
  cases h with
  | opn h1 _ _ _ => exact ⟨_, h1⟩
  | fol h1 _ _ => exact ⟨_, h1⟩
theorem bd_snoc {k : Nat} {ds : List Rec} {d : Rec} (h : RcB k ds) (h2 : Bd k d.t ∧ Bd k d.n) : RcB k (ds ++ [d]) := fun e he => by
  rcases List.mem_append.mp he with g | g
  · exact h e g
  · rw [List.mem_singleton.mp g]
    exact h2
end Lf
namespace Lf
open PySem PySem.Spec PyProof.Rows L2
/-! ### the law's interval -/
def PrV2 (H : Hp) (v : V) : Option T4 → Prop
  | none => v = .non
  | some z => ∃ r, v = .ref r ∧ H r = some (tup2 z.1 z.2.1)
theorem PrV2.same {H H' : Hp} {v : V} {o : Option T4} (h : PrV2 H v o) (s : Same H H') : PrV2 H' v o := by
  cases o with
  | none => exact h
  | some z =>
    obtain ⟨r, e, h⟩ := h
    exact ⟨r, e, s _ _ h⟩
def Lt3 (S : T3 → T3 → Prop) : T3 → T3 → Prop := fun x y => S x y ∧ x.2.1 < y.2.1
structure IvI (S : T3 → T3 → Prop) (H : Hp) (k : Nat) (vl vh : V) (lo up : Option T4) (cl : Bool) : Prop where
  pl : PrV2 H vl lo
  pu : PrV2 H vh up
  bl : PB k lo
  bu : PB k up
  hl : LoOk S lo
  hu : UpOk (Lt3 S) up
  hc : cl = true ↔ ∀ x y, S x y → x.2.1 = y.2.1 → 0 < y.2.2 + 1 - x.2.2
section
variable {S S' : T3 → T3 → Prop} {H H' : Hp} {k : Nat} {vl vh : V} {lo up : Option T4} {cl : Bool} {x y : T3}
theorem IvI.congr (h : IvI S H k vl vh lo up cl) (e : ∀ x y, S x y ↔ S' x y) : IvI S' H k vl vh lo up cl := by
  have : S = S' := by
    funext x y
    exact propext (e x y)
  rw [← this]
  exact h
theorem IvI.same (h : IvI S H k vl vh lo up cl) (s : Same H H') : IvI S H' k vl vh lo up cl := ⟨h.pl.same s, h.pu.same s, h.bl, h.bu, h.hl, h.hu, h.hc⟩
theorem lt_add (c : x.2.1 < y.2.1) : ∀ x' y', ad (Lt3 S) x y x' y' ↔ Lt3 (ad S x y) x' y' := fun x' y' => by
  constructor
  · rintro (⟨h, g⟩ | ⟨rfl, rfl⟩)
    · exact ⟨.inl h, g⟩
    · exact ⟨.inr ⟨rfl, rfl⟩, c⟩
  · rintro ⟨h | h, g⟩
    · exact .inl ⟨h, g⟩
    · exact .inr h
theorem lt_not (c : ¬ x.2.1 < y.2.1) : ∀ x' y', Lt3 S x' y' ↔ Lt3 (ad S x y) x' y' := fun x' y' => by
  constructor
  · rintro ⟨h, g⟩
    exact ⟨.inl h, g⟩
  · rintro ⟨h | ⟨rfl, rfl⟩, g⟩
    · exact ⟨h, g⟩
    · exact absurd g c
theorem hc_ne (h : cl = true ↔ ∀ x y, S x y → x.2.1 = y.2.1 → 0 < y.2.2 + 1 - x.2.2) (c : x.2.1 ≠ y.2.1) : cl = true ↔ ∀ x' y', ad S x y x' y' → x'.2.1 = y'.2.1 → 0 < y'.2.2 + 1 - x'.2.2 := by
  rw [h]
  constructor
  · rintro g x' y' (z | ⟨rfl, rfl⟩) e
    · exact g x' y' z e
    · exact absurd e c
  · exact fun g x' y' z e => g x' y' (.inl z) e
theorem IvI.zero (h : IvI S H k vl vh lo up cl) (e : x.2.1 = y.2.1) : IvI (ad S x y) H k vl vh lo up (cl && decide (y.2.2 + 1 - x.2.2 > 0)) := by
  refine ⟨h.pl, h.pu, h.bl, h.bu, h.hl.skip (by omega), h.hu.congr (lt_not (by omega)), ?_⟩
  rw [Bool.and_eq_true, h.hc, decide_eq_true_iff]
  constructor
  · rintro ⟨g, g2⟩ x' y' (z | ⟨rfl, rfl⟩) e
    · exact g x' y' z e
    · exact g2
  · exact fun g => ⟨fun x' y' z e => g x' y' (.inl z) e, g x y (.inr ⟨rfl, rfl⟩) e⟩
theorem IvI.keepU (h : IvI S H k vl vh lo up cl) (c : x.2.1 < y.2.1) (g : ∀ z, up = some z → z.1 * (y.2.1 - x.2.1) ≤ (y.2.2 + 1 - x.2.2) * z.2.1) (nn : up ≠ none) : IvI (ad S x y) H k vl vh lo up cl := by
  refine ⟨h.pl, h.pu, h.bl, h.bu, h.hl.skip (by omega), ?_, hc_ne h.hc (by omega)⟩
  cases up with
  | none => exact absurd rfl nn
  | some z => exact (h.hu.keep (by rw [bot_eq c]; exact g z rfl)).congr (lt_add c)
theorem IvI.newU (h : IvI S H k vl vh lo up cl) (c : x.2.1 < y.2.1) (g : ∀ z, up = some z → (y.2.2 + 1 - x.2.2) * z.2.1 < z.1 * (y.2.1 - x.2.1)) {r : Addr} (hs : Same H H') (er : H' r = some (tup2 (y.2.2 + 1 - x.2.2) (y.2.1 - x.2.1))) (b1 : Bd (k + 2) (y.2.2 + 1 - x.2.2)) (b2 : Bd (k + 2) (y.2.1 - x.2.1)) :
    IvI (ad S x y) H' k vl (.ref r) lo (some (y.2.2 + 1 - x.2.2, bot x y, x.1, y.1)) cl := by
  have u : uc x y := ⟨by omega, .inl c⟩
  refine ⟨h.pl.same hs, ⟨r, rfl, by rw [bot_eq c]; exact er⟩, h.bl, fun z e => by cases e; exact ⟨b1, by rw [bot_eq c]; exact b2⟩, h.hl.skip (by omega), ?_, hc_ne h.hc (by omega)⟩
  cases up with
  | none => exact (h.hu.first u).congr (lt_add c)
  | some z => exact (h.hu.upd u (by rw [bot_eq c]; exact g z rfl)).congr (lt_add c)
theorem IvI.keepL (h : IvI S H k vl vh lo up cl) (g : ∀ z, lo = some z → (x.2.2 - y.2.2 - 1) * z.2.1 ≤ z.1 * (x.2.1 - y.2.1)) (c : y.2.1 < x.2.1) (nn : lo ≠ none) : IvI (ad S x y) H k vl vh lo up cl := by
  refine ⟨h.pl, h.pu, h.bl, h.bu, ?_, h.hu.congr (lt_not (by omega)), hc_ne h.hc (by omega)⟩
  cases lo with
  | none => exact absurd rfl nn
  | some z => exact h.hl.keep (g z rfl)
theorem IvI.newL (h : IvI S H k vl vh lo up cl) (c : y.2.1 < x.2.1) (g : ∀ z, lo = some z → z.1 * (x.2.1 - y.2.1) < (x.2.2 - y.2.2 - 1) * z.2.1) {r : Addr} (hs : Same H H') (er : H' r = some (tup2 (x.2.2 - y.2.2 - 1) (x.2.1 - y.2.1))) (b1 : Bd (k + 2) (x.2.2 - y.2.2 - 1)) (b2 : Bd (k + 2) (x.2.1 - y.2.1)) :
    IvI (ad S x y) H' k (.ref r) vh (some (x.2.2 - y.2.2 - 1, x.2.1 - y.2.1, x.1, y.1)) up cl := by
  refine ⟨⟨r, rfl, er⟩, h.pu.same hs, fun z e => by cases e; exact ⟨b1, b2⟩, h.bu, ?_, h.hu.congr (lt_not (by omega)), hc_ne h.hc (by omega)⟩
  cases lo with
  | none => exact h.hl.first c
  | some z => exact h.hl.upd c (g z rfl)
end
def t3 (d : Rec) : T3 := (0, d.t, d.n)
def loR (ds : List Rec) : List Rec := ds.filter fun d => d.lo
def hiR (ds : List Rec) : List Rec := ds.filter fun d => !d.lo
def S3 (ds : List Rec) : T3 → T3 → Prop := fun x y => x ∈ (loR ds).map t3 ∧ y ∈ (hiR ds).map t3
theorem filt_take {f : Rec → Bool} {ds : List Rec} {i : Nat} {d : Rec} (e : ds[i]? = some d) : (ds.take (i + 1)).filter f = (ds.take i).filter f ++ (if f d = true then [d] else []) := by
  rw [List.take_add_one, e, List.filter_append]
  congr 1
  show List.filter f [d] = _
  cases h : f d with
  | true => simp [h]
  | false => simp [h]
theorem cov1 (ds : List Rec) : Cov (SD ds) (S3 ds) := by
  rintro x y ⟨h1, h2⟩
  obtain ⟨i, d, e, hb, rfl⟩ := sel_mem h1
  obtain ⟨j, d', e', hb', rfl⟩ := sel_mem h2
  refine ⟨t3 d, t3 d', ⟨List.mem_map.mpr ⟨d, List.mem_filter.mpr ⟨List.mem_of_getElem? e, hb⟩, rfl⟩, List.mem_map.mpr ⟨d', List.mem_filter.mpr ⟨List.mem_of_getElem? e', by rw [hb']; rfl⟩, rfl⟩⟩, rfl, rfl⟩
theorem cov2 (ds : List Rec) : Cov (S3 ds) (SD ds) := by
  rintro x y ⟨h1, h2⟩
  obtain ⟨d, hd, rfl⟩ := List.mem_map.mp h1
  obtain ⟨d', hd', rfl⟩ := List.mem_map.mp h2
  obtain ⟨m1, g1⟩ := List.mem_filter.mp hd
  obtain ⟨m2, g2⟩ := List.mem_filter.mp hd'
  obtain ⟨i, e⟩ := List.mem_iff_getElem?.mp m1
  obtain ⟨j, e'⟩ := List.mem_iff_getElem?.mp m2
  have g2 : d'.lo = false := by
    cases h : d'.lo with
    | false => rfl
    | true =>
      rw [h] at g2
      cases g2
  exact ⟨_, _, ⟨mem_sel e g1 0, mem_sel e' g2 0⟩, rfl, rfl⟩
section
variable {P : Program} {w : World} {K : PySem.W.Frag} {mg : Str → Option Value} {base : Heap} {C : Addr}
def spLess29 : Sp := fun vs H Q _ => ∃ (a b : Addr) (x1 y1 x2 y2 : Int) (k : Nat), vs = [.ref a, .ref b] ∧ H a = some (tup2 x1 y1) ∧ H b = some (tup2 x2 y2) ∧ Bd k x1 ∧ Bd k y1 ∧ Bd k x2 ∧ Bd k y2 ∧ 0 < k ∧ k ≤ 10002 ∧ Q (.bl (decide (x1 * y2 < x2 * y1))) H
def spLow29 : Sp := fun vs H Q _ => ∃ (a : Addr) (p q : Int), vs = [.ref a] ∧ H a = some (tup2 p q) ∧ 0 ≤ p ∧ 1 ≤ q ∧ Bd 9000 q ∧
  ∀ r H', Same H H' → H r = none → H' r = some (tup2 (p / (Int.gcd p q : Int)) (q / (Int.gcd p q : Int))) → Q (.ref r) H'
def spIvl : Sp := fun vs H Q _ => ∃ (L : Addr) (xs : List V) (ds : List Rec) (k : Nat), vs = [.ref L] ∧ H L = some (.lst xs) ∧ Obs rcO H xs ds ∧ ds.length ≤ 1000 ∧ RcB k ds ∧ 0 < k ∧ k ≤ 8000 ∧
  ∀ T H' cl vl vh lo up, Same H H' → H' T = some (.tup [.bl cl, vl, vh]) → PrV2 H' vl lo → PrV2 H' vh up → PB k lo → PB k up → (cl = true → LoOk (S3 ds) lo ∧ UpOk (S3 ds) up ∧ nr lo up = false) → (cl = false → ∀ lo up, LoOk (SD ds) lo → UpOk (SD ds) up → nr lo up = true) → Q (.ref T) H'
end
end Lf
namespace Lf
open PySem PySem.Spec PyProof.Rows L2
/-! ### bounds exist; whether some rule fits -/
theorem lo_step {S : T3 → T3 → Prop} (h : ∃ o, LoOk S o) (x y : T3) : ∃ o, LoOk (ad S x y) o := by
  obtain ⟨o, h⟩ := h
  by_cases c : y.2.1 < x.2.1
  · cases o with
    | none => exact ⟨_, h.first c⟩
    | some z =>
      rcases Int.lt_or_le (z.1 * (x.2.1 - y.2.1)) ((x.2.2 - y.2.2 - 1) * z.2.1) with g | g
      · exact ⟨_, h.upd c g⟩
      · exact ⟨_, h.keep g⟩
  · exact ⟨_, h.skip c⟩
theorem up_step {S : T3 → T3 → Prop} (h : ∃ o, UpOk S o) (x y : T3) : ∃ o, UpOk (ad S x y) o := by
  obtain ⟨o, h⟩ := h
  by_cases c : uc x y
  · cases o with
    | none => exact ⟨_, h.first c⟩
    | some z =>
      rcases Int.lt_or_le ((y.2.2 + 1 - x.2.2) * z.2.1) (z.1 * bot x y) with g | g
      · exact ⟨_, h.upd c g⟩
      · exact ⟨_, h.keep g⟩
  · exact ⟨_, h.skip c⟩
theorem ends_list (l : List (T3 × T3)) : (∃ o, LoOk (fun x y => (x, y) ∈ l) o) ∧ ∃ o, UpOk (fun x y => (x, y) ∈ l) o := by
  induction l with
  | nil => exact ⟨⟨none, fun _ _ h => (nomatch h)⟩, ⟨none, fun _ _ h => (nomatch h)⟩⟩
  | cons a r ih =>
    have e : ∀ x y : T3, ad (fun x y => (x, y) ∈ r) a.1 a.2 x y ↔ (x, y) ∈ a :: r := fun x y => by
      rw [List.mem_cons]
      constructor
      · rintro (h | ⟨rfl, rfl⟩)
        · exact .inr h
        · exact .inl rfl
      · rintro (h | h)
        · refine .inr ⟨?_, ?_⟩ <;> rw [← h]
        · exact .inl h
    obtain ⟨o1, h1⟩ := lo_step ih.1 a.1 a.2
    obtain ⟨o2, h2⟩ := up_step ih.2 a.1 a.2
    exact ⟨⟨o1, h1.congr e⟩, ⟨o2, h2.congr e⟩⟩
theorem ends_ex (ds : List Rec) : ∃ lo up, LoOk (SD ds) lo ∧ UpOk (SD ds) up := by
  obtain ⟨⟨lo, h1⟩, ⟨up, h2⟩⟩ := ends_list ((sel true 0 ds).flatMap fun x => (sel false 0 ds).map fun y => (x, y))
  have e : ∀ x y : T3, (x, y) ∈ ((sel true 0 ds).flatMap fun x => (sel false 0 ds).map fun y => (x, y)) ↔ SD ds x y := fun x y => by
    rw [List.mem_flatMap]
    constructor
    · rintro ⟨x', hx, h⟩
      obtain ⟨y', hy, h⟩ := List.mem_map.mp h
      cases h
      exact ⟨hx, hy⟩
    · rintro ⟨hx, hy⟩
      exact ⟨x, hx, List.mem_map.mpr ⟨y, hy, rfl⟩⟩
  exact ⟨lo, up, h1.congr e, h2.congr e⟩
section
variable {P : Program} {w : World} {K : PySem.W.Frag} {mg : Str → Option Value} {base : Heap}
def spClear : Sp := fun vs H Q _ => ∃ (L : Addr) (xs : List V) (ds : List Rec) (k : Nat), vs = [.ref L] ∧ H L = some (.lst xs) ∧ Obs rcO H xs ds ∧ ds.length ≤ 1000 ∧ RcB k ds ∧ 0 < k ∧ k ≤ 8000 ∧
  ∀ b H', Same H H' → (b = true ↔ ¬ Cf ds) → Q (.bl b) H'
def spOppL : Sp := fun vs H Q _ => ∃ (r : Addr) (d : Rec), vs = [.ref r] ∧ H r = some (rcO d) ∧ ∀ e H', Same H H' → H' e = some (rcO (opp d)) → Q (.ref e) H'
abbrev s_l_opposite : Stmt := topS 54
abbrev N_l_opposite : List Str := ["_law_record_here", "_law_bound", "_law_time_here", "_law_number"]
abbrev P_l_opposite : List Str := ["_law_record_here"]
theorem sc_l_opposite : FnScope N_l_opposite P_l_opposite (defScope s_l_opposite) := ⟨rfl, rfl, rfl, by decide +kernel, rfl, by decide +kernel, by decide +kernel⟩
theorem ok_l_opposite (D : Df K mg "_law_opposite" s_l_opposite P_l_opposite) : C8.Cal P w K mg base 1 "_law_opposite" spOppL [] := by
  refine cal_of D sc_l_opposite (fun vs H Q E h => ?_) (fun f cdv A outer s H vs Q E hr h => ?_)
  · obtain ⟨r, d, rfl, _⟩ := h
    rfl
  · obtain ⟨r, d, rfl, er, kk⟩ := h
    refine ⟨_, (pss_cons (ps_asg (pv 0) (pg_tup rfl (pgs_cons (pg_name (i := 1) sc_l_opposite.nd rfl (Or.inl rfl)) (pgs_cons (pg_name (i := 2) sc_l_opposite.nd rfl (Or.inl rfl)) (pgs_cons (pg_name (i := 3) sc_l_opposite.nd rfl (Or.inl rfl)) pgs_nil)))))
    (pss_one (ps_ret (pe_ifExp (pt_cmpR op_eq (pv 1) pe_str (nomark _)) (pe_tup (pa_cons pe_str (pa_cons (pv 2) (pa_cons (pe_op op_sub (pv 3) pe_int) pa_nil)))) (pe_tup (pa_cons pe_str (pa_cons (pv 2) (pa_cons (pe_op op_add (pv 3) pe_int) pa_nil)))))))), ?_⟩
    refine ⟨_, rfl, r, _, rfl, SqT.of er, rfl, _, _, rfl, _, _, rfl, _, _, rfl, rfl, ?_⟩
    refine ⟨_, rfl, rfl, _, rfl, ?_⟩
    rw [w_lo]
    obtain ⟨lo, t, n⟩ := d
    cases lo with
    | true =>
      refine iteT ⟨_, rfl, _, rfl, _, _, rfl, rfl, len10 (by simp), fun e ne => ?_⟩
      exact kk e _ (sm_upd ne) upd_same
    | false =>
      refine iteF ⟨_, rfl, _, rfl, _, _, rfl, rfl, len10 (by simp), fun e ne => ?_⟩
      exact kk e _ (sm_upd ne) upd_same
end
end Lf
namespace Lf
open PySem PySem.Spec PyProof.Rows L2
/-! ### the three forms of conflicts -/
/-- a record at an earlier or the same time asks for more than one that sets a bound from above -/
def PairF (a b : Rec) : Prop := a.lo = true ∧ b.lo = false ∧ a.t ≤ b.t ∧ b.n < a.n
/-- three records, the middle one of the other kind, on the wrong side of the chord -/
def Form3 (l m r : Rec) : Prop := l.lo = r.lo ∧ m.lo ≠ l.lo ∧ l.t < m.t ∧ m.t < r.t ∧
  (if l.lo = true then ((r.t - m.t) + (m.t - l.t)) * (m.n + 1) ≤ (r.t - m.t) * l.n + (m.t - l.t) * r.n
    else (r.t - m.t) * (l.n + 1) + (m.t - l.t) * (r.n + 1) ≤ ((r.t - m.t) + (m.t - l.t)) * m.n)
theorem pairF_cf {ds : List Rec} {a b : Rec} (ha : a ∈ ds) (hb : b ∈ ds) (h : PairF a b) : Cf ds := by
  intro p q hp hq f
  obtain ⟨la, lb, h1, h2⟩ := h
  have := f a ha b hb la lb
  have x := Int.mul_nonneg hp (show 0 ≤ b.t - a.t by omega)
  have y := Int.mul_nonneg (show 0 ≤ -(b.n + 1 - a.n) by omega) (show 0 ≤ q by omega)
  rw [Int.neg_mul] at y
  omega
theorem form3_cf {ds : List Rec} {l m r : Rec} (hl : l ∈ ds) (hm : m ∈ ds) (hr : r ∈ ds) (h : Form3 l m r) : Cf ds := by
  intro p q hp hq f
  obtain ⟨e1, e2, t1, t2, hc⟩ := h
  cases c : l.lo with
  | true =>
    have cm : m.lo = false := by
      cases x : m.lo with
      | false => rfl
      | true => exact absurd (x.trans c.symm) e2
    rw [if_pos c] at hc
    have f1 := f l hl m hm c cm
    have f2 := f r hr m hm (e1 ▸ c) cm
    have a1 := Int.mul_lt_mul_of_pos_left f1 (show 0 < r.t - m.t by omega)
    have a2 := Int.mul_lt_mul_of_pos_left f2 (show 0 < m.t - l.t by omega)
    have a3 := Int.mul_le_mul_of_nonneg_right hc (show 0 ≤ q by omega)
    grind
  | false =>
    have cm : m.lo = true := by
      cases x : m.lo with
      | true => rfl
      | false => exact absurd (x.trans c.symm) e2
    rw [if_neg (by rw [c]; decide)] at hc
    have f1 := f m hm l hl cm c
    have f2 := f m hm r hr cm (e1 ▸ c)
    have a1 := Int.mul_lt_mul_of_pos_left f1 (show 0 < r.t - m.t by omega)
    have a2 := Int.mul_lt_mul_of_pos_left f2 (show 0 < m.t - l.t by omega)
    have a3 := Int.mul_le_mul_of_nonneg_right hc (show 0 ≤ q by omega)
    grind
/-- two bounds leave no rate: one of them leaves none, or they cross -/
theorem no_rate2 {a1 b1 a2 b2 : Int} (h : ∀ p q : Int, 0 ≤ p → 1 ≤ q → p * b1 < a1 * q → p * b2 < a2 * q → False) :
    (a1 ≤ 0 ∧ 0 ≤ b1) ∨ (a2 ≤ 0 ∧ 0 ≤ b2) ∨ (a1 ≤ 0 ∧ b1 < 0 ∧ 0 < a2 ∧ 0 < b2 ∧ a2 * (-b1) ≤ (-a1) * b2) ∨ (a2 ≤ 0 ∧ b2 < 0 ∧ 0 < a1 ∧ 0 < b1 ∧ a1 * (-b2) ≤ (-a2) * b1) := by
  have big : ∀ {a b : Int} (n : Int), b < 0 → 0 ≤ n → -a < n → n * b < a * 1 := fun {a b} n hb hn ha => by
    have := Int.mul_le_mul_of_nonneg_left (show b ≤ -1 by omega) hn
    omega
  have med : ∀ {a1 b1 a2 b2 : Int}, a1 ≤ 0 → b1 < 0 → 0 < a2 → 0 < b2 → (-a1) * b2 < a2 * (-b1) → 0 ≤ a2 - a1 ∧ 1 ≤ b2 - b1 ∧ (a2 - a1) * b1 < a1 * (b2 - b1) ∧ (a2 - a1) * b2 < a2 * (b2 - b1) := fun {a1 b1 a2 b2} h1 h2 h3 h4 h5 => by
    refine ⟨by omega, by omega, ?_, ?_⟩ <;> rw [Int.sub_mul, Int.mul_sub] <;> rw [Int.neg_mul, Int.mul_neg] at h5 <;> omega
  by_cases c1 : a1 ≤ 0
  · by_cases d1 : 0 ≤ b1
    · exact .inl ⟨c1, d1⟩
    · by_cases c2 : a2 ≤ 0
      · by_cases d2 : 0 ≤ b2
        · exact .inr (.inl ⟨c2, d2⟩)
        · exact (h (1 - a1 - a2) 1 (by omega) (by omega) (big _ (by omega) (by omega) (by omega)) (big _ (by omega) (by omega) (by omega))).elim
      · by_cases d2 : 0 < b2
        · rcases Int.lt_or_le ((-a1) * b2) (a2 * (-b1)) with g | g
          · obtain ⟨x1, x2, x3, x4⟩ := med c1 (by omega) (show 0 < a2 by omega) d2 g
            exact (h _ _ x1 x2 x3 x4).elim
          · exact .inr (.inr (.inl ⟨c1, by omega, by omega, d2, g⟩))
        · refine (h (1 - a1) 1 (by omega) (by omega) (big _ (by omega) (by omega) (by omega)) ?_).elim
          have := Int.mul_nonneg (show 0 ≤ 1 - a1 by omega) (show 0 ≤ -b2 by omega)
          rw [Int.mul_neg] at this
          omega
  · by_cases c2 : a2 ≤ 0
    · by_cases d2 : 0 ≤ b2
      · exact .inr (.inl ⟨c2, d2⟩)
      · by_cases d1 : 0 < b1
        · rcases Int.lt_or_le ((-a2) * b1) (a1 * (-b2)) with g | g
          · obtain ⟨x1, x2, x3, x4⟩ := med c2 (by omega) (show 0 < a1 by omega) d1 g
            exact (h _ _ x1 x2 x4 x3).elim
          · exact .inr (.inr (.inr ⟨c2, by omega, by omega, d1, g⟩))
        · refine (h (1 - a2) 1 (by omega) (by omega) ?_ (big _ (by omega) (by omega) (by omega))).elim
          have := Int.mul_nonneg (show 0 ≤ 1 - a2 by omega) (show 0 ≤ -b1 by omega)
          rw [Int.mul_neg] at this
          omega
    · exact (h 0 1 (by omega) (by omega) (by omega) (by omega)).elim
/-- two records in conflict are a pair -/
theorem cf_pair {a b : Rec} (h : Cf [a, b]) : PairF a b ∨ PairF b a := by
  obtain ⟨d, e, hd, he, ld, le⟩ := cf_two h
  have key : PairF d e := by
    have hyp : ∀ p q : Int, 0 ≤ p → 1 ≤ q → p * (e.t - d.t) < (e.n + 1 - d.n) * q → p * 0 < 1 * q → False := by
      intro p q hp hq h1 _
      refine h p q hp hq ?_
      intro d' hd' e' he' ld' le'
      have e1 : d' = d := by
        simp only [List.mem_cons, List.not_mem_nil, or_false] at hd hd' he
        rcases hd with rfl | rfl <;> rcases hd' with rfl | rfl <;> rcases he with rfl | rfl <;> first | rfl | (exfalso; simp_all)
      have e2 : e' = e := by
        simp only [List.mem_cons, List.not_mem_nil, or_false] at hd he he'
        rcases hd with rfl | rfl <;> rcases he' with rfl | rfl <;> rcases he with rfl | rfl <;> first | rfl | (exfalso; simp_all)
      rw [e1, e2]
      exact h1
    rcases no_rate2 hyp with ⟨x, y⟩ | ⟨x, _⟩ | ⟨_, _, _, x, _⟩ | ⟨x, _⟩
    · exact ⟨ld, le, by omega, by omega⟩
    · omega
    · omega
    · omega
  simp only [List.mem_cons, List.not_mem_nil, or_false] at hd he
  rcases hd with rfl | rfl <;> rcases he with rfl | rfl
  · exact absurd (ld.symm.trans le) (by decide)
  · exact .inl key
  · exact .inr key
  · exact absurd (ld.symm.trans le) (by decide)
/-- three records in conflict, by their times, are a pair and one more, or have the third form -/
theorem cf_three {l m r : Rec} (h : Cf [l, m, r]) (t1 : l.t ≤ m.t) (t2 : m.t ≤ r.t) : (∃ a ∈ [l, m, r], ∃ b ∈ [l, m, r], PairF a b) ∨ Form3 l m r := by
  have ml : l ∈ [l, m, r] := by simp
  have mm : m ∈ [l, m, r] := by simp
  have mr : r ∈ [l, m, r] := by simp
  -- the one of its kind, low: two bounds
  have lowF : ∀ {o x y : Rec}, o.lo = true → x.lo = false → y.lo = false → o ∈ [l, m, r] → x ∈ [l, m, r] → y ∈ [l, m, r] → (∀ d ∈ [l, m, r], d = o ∨ d = x ∨ d = y) →
      (∃ a ∈ [l, m, r], ∃ b ∈ [l, m, r], PairF a b) ∨ (x.t < o.t ∧ o.t < y.t ∧ (y.n + 1 - o.n) * (o.t - x.t) ≤ (o.n - x.n - 1) * (y.t - o.t)) ∨ (y.t < o.t ∧ o.t < x.t ∧ (x.n + 1 - o.n) * (o.t - y.t) ≤ (o.n - y.n - 1) * (x.t - o.t)) := by
    intro o x y lo lx ly ho hx hy all
    have hyp : ∀ p q : Int, 0 ≤ p → 1 ≤ q → p * (x.t - o.t) < (x.n + 1 - o.n) * q → p * (y.t - o.t) < (y.n + 1 - o.n) * q → False := by
      intro p q hp hq h1 h2
      refine h p q hp hq ?_
      intro d hd e he ld le
      have e1 : d = o := by
        rcases all d hd with z | z | z
        · exact z
        · rw [z, lx] at ld
          cases ld
        · rw [z, ly] at ld
          cases ld
      rcases all e he with z | z | z
      · rw [z, lo] at le
        cases le
      · rw [e1, z]
        exact h1
      · rw [e1, z]
        exact h2
    rcases no_rate2 hyp with ⟨u, v⟩ | ⟨u, v⟩ | ⟨u, v, u2, v2, w⟩ | ⟨u, v, u2, v2, w⟩
    · exact .inl ⟨o, ho, x, hx, lo, lx, by omega, by omega⟩
    · exact .inl ⟨o, ho, y, hy, lo, ly, by omega, by omega⟩
    · refine .inr (.inl ⟨by omega, by omega, ?_⟩)
      rw [show o.t - x.t = -(x.t - o.t) by omega, show o.n - x.n - 1 = -(x.n + 1 - o.n) by omega]
      exact w
    · refine .inr (.inr ⟨by omega, by omega, ?_⟩)
      rw [show o.t - y.t = -(y.t - o.t) by omega, show o.n - y.n - 1 = -(y.n + 1 - o.n) by omega]
      exact w
  have highF : ∀ {o x y : Rec}, o.lo = false → x.lo = true → y.lo = true → o ∈ [l, m, r] → x ∈ [l, m, r] → y ∈ [l, m, r] → (∀ d ∈ [l, m, r], d = o ∨ d = x ∨ d = y) →
      (∃ a ∈ [l, m, r], ∃ b ∈ [l, m, r], PairF a b) ∨ (o.t < x.t ∧ y.t < o.t ∧ (o.n + 1 - y.n) * (x.t - o.t) ≤ (x.n - o.n - 1) * (o.t - y.t)) ∨ (o.t < y.t ∧ x.t < o.t ∧ (o.n + 1 - x.n) * (y.t - o.t) ≤ (y.n - o.n - 1) * (o.t - x.t)) := by
    intro o x y lo lx ly ho hx hy all
    have hyp : ∀ p q : Int, 0 ≤ p → 1 ≤ q → p * (o.t - x.t) < (o.n + 1 - x.n) * q → p * (o.t - y.t) < (o.n + 1 - y.n) * q → False := by
      intro p q hp hq h1 h2
      refine h p q hp hq ?_
      intro d hd e he ld le
      have e1 : e = o := by
        rcases all e he with z | z | z
        · exact z
        · rw [z, lx] at le
          cases le
        · rw [z, ly] at le
          cases le
      rcases all d hd with z | z | z
      · rw [z, lo] at ld
        cases ld
      · rw [e1, z]
        exact h1
      · rw [e1, z]
        exact h2
    rcases no_rate2 hyp with ⟨u, v⟩ | ⟨u, v⟩ | ⟨u, v, u2, v2, w⟩ | ⟨u, v, u2, v2, w⟩
    · exact .inl ⟨x, hx, o, ho, lx, lo, by omega, by omega⟩
    · exact .inl ⟨y, hy, o, ho, ly, lo, by omega, by omega⟩
    · refine .inr (.inl ⟨by omega, by omega, ?_⟩)
      rw [show x.t - o.t = -(o.t - x.t) by omega, show x.n - o.n - 1 = -(o.n + 1 - x.n) by omega]
      exact w
    · refine .inr (.inr ⟨by omega, by omega, ?_⟩)
      rw [show y.t - o.t = -(o.t - y.t) by omega, show y.n - o.n - 1 = -(o.n + 1 - y.n) by omega]
      exact w
  have al : ∀ d ∈ [l, m, r], d = l ∨ d = m ∨ d = r := fun d hd => by simpa using hd
  cases cl : l.lo <;> cases cm : m.lo <;> cases cr : r.lo
  · obtain ⟨d, _, hd, _, ld, _⟩ := cf_two h
    rcases al d hd with z | z | z <;> rw [z] at ld <;> simp_all
  · rcases lowF cr cl cm mr ml mm (fun d hd => by rcases al d hd with z | z | z <;> simp [z]) with g | ⟨g1, g2, _⟩ | ⟨g1, g2, _⟩
    · exact .inl g
    · omega
    · omega
  · rcases lowF cm cl cr mm ml mr (fun d hd => by rcases al d hd with z | z | z <;> simp [z]) with g | ⟨g1, g2, g3⟩ | ⟨g1, g2, _⟩
    · exact .inl g
    · refine .inr ⟨by rw [cl, cr], by rw [cm, cl]; decide, g1, g2, ?_⟩
      rw [if_neg (by rw [cl]; decide)]
      grind
    · omega
  · rcases highF cl cm cr ml mm mr (fun d hd => by rcases al d hd with z | z | z <;> simp [z]) with g | ⟨g1, g2, _⟩ | ⟨g1, g2, _⟩
    · exact .inl g
    · omega
    · omega
  · rcases lowF cl cm cr ml mm mr (fun d hd => by rcases al d hd with z | z | z <;> simp [z]) with g | ⟨g1, g2, _⟩ | ⟨g1, g2, _⟩
    · exact .inl g
    · omega
    · omega
  · rcases highF cm cl cr mm ml mr (fun d hd => by rcases al d hd with z | z | z <;> simp [z]) with g | ⟨g1, g2, g3⟩ | ⟨g1, g2, g3⟩
    · exact .inl g
    · omega
    · refine .inr ⟨by rw [cl, cr], by rw [cm, cl]; decide, g2, g1, ?_⟩
      rw [if_pos cl]
      grind
  · rcases highF cr cl cm mr ml mm (fun d hd => by rcases al d hd with z | z | z <;> simp [z]) with g | ⟨g1, g2, _⟩ | ⟨g1, g2, _⟩
    · exact .inl g
    · omega
    · omega
  · obtain ⟨_, e, _, he, _, le⟩ := cf_two h
    rcases al e he with z | z | z <;> rw [z] at le <;> simp_all
end Lf
namespace Lf
open PySem PySem.Spec PyProof.Rows L2
abbrev qLam29 : Str := (("law" : Str) ++ (".<locals>." : Str)) ++ ("<lambda>" : Str)
/-! ### _law_index -/
def TRef29 (C : Addr) : (XK → Hp → VK → Prop) → Hp → VK → Prop := fun tl H Q => tl (fun cls d H' => cls = .ref C ∧ ∃ dd j, d = some dd ∧ H' dd = some (.xd [("index", .int j)]) ∧ Q (.int j) H') H (fun _ _ => False)
abbrev s_l_index : Stmt := topS 58
abbrev N_l_index : List Str := ["_law_call", "_law_caught", "e"]
abbrev P_l_index : List Str := ["_law_call"]
theorem sc_l_index : FnScope N_l_index P_l_index (defScope s_l_index) := ⟨rfl, rfl, rfl, by decide +kernel, rfl, by decide +kernel, by decide +kernel⟩
theorem two29 {α : Type} {l : List α} (h : l.length = 3) : ∃ a b c, l = [a, b, c] := by
  match l, h with
  | [a, b, c], _ => exact ⟨a, b, c, rfl⟩
theorem gives_29 {X : Cx} {C g : Addr} {cdg : Value} {q : Str} (T : ValC X.prog X.K X.mg C "InvalidRecord" "index") : LamX.GivesTo X N_l_index "_law_index" (defScope s_l_index) g cdg (defBody s_l_index) "_law_call" q (TRef29 C) := by
  intro f c' s H Q tl act hc h
  have key : ∀ a : Addr × Addr, ∃ t : TS, (∀ (oe : Obj) (pn : List (Addr × Obj)), Zc (.ref C) (some a.2) oe → (∃ vs, oe.data = .fields vs) → PSs ((cxOf C8.CX0 X.prog X.w X.K X.mg X.base N_l_index "_law_index" (defScope s_l_index) g cdg X.A X.stack s H C8.E0).nox.tr ((a.1, oe) :: pn) (fun _ _ => False)) (List.drop 2 (defBody s_l_index)) t) ∧
      ∀ s0 s2 H1 (j : Int), H1 a.2 = some (.xd [("index", .int j)]) → Q (.int j) H1 → t { nx := fun _ H' => Q .non H', rt := Q } [s0, some (.ref a.1), s2] H1 := by
    intro a
    refine ⟨tRet (tIf (tTest (tOp (fun x y H Q => y = V.non ∧ Q (V.bl (decide (x = V.non))) H) (tVar 1) (tC V.non))) (tC V.non) (tXf a.1 (Value.ref C) (some a.2) C "index" (tVar 1))), fun oe pn hz hf => ?p, fun s0 s2 H1 j e3 hh => ?q⟩
    case p => exact pss_one (ps_ret (pe_ifExp (pt_cmpR op_isN (pv 1) pe_non (nomark _)) pe_non (pe_xk (Y := (cxOf C8.CX0 X.prog X.w X.K X.mg X.base N_l_index "_law_index" (defScope s_l_index) g cdg X.A X.stack s H C8.E0).nox.tr ((a.1, oe) :: pn) (fun _ _ => False)) (a := a.1) T.xf T.no hz hf List.mem_cons_self (pv 1))))
    case q => exact ⟨_, rfl, rfl, _, rfl, iteF ⟨_, rfl, rfl, rfl, _, _, .int j, rfl, e3, rfl, hh⟩⟩
  obtain ⟨t, tt⟩ := Classical.axiomOfChoice key
  have ht := fun a => (tt a).1
  have hq := fun a => (tt a).2
  refine ⟨_, pss_cons (ps_set (i := 1) sc_l_index.nd rfl (Or.inl rfl) pe_non)
    (pss_keep (i := 2) (c := .ref C) (ts := fun _ => tAsg (tVar 2) (gName 1)) (tb := fun W D σ H => ∃ Ech : XK, (∀ cls d σ' H', Ech cls d H' → σ'.length = 3 → W cls d σ' H') ∧ σ[0]? = some (some (.ref f)) ∧ H c' = some (LamX.CodeO c' q) ∧ tl Ech H (fun _ H' => D.nx σ H'))
      (tr := fun a cls d D σ H => ∃ dd, cls = .ref C ∧ d = some dd ∧ t (a, dd) D σ H) rfl rfl sc_l_index.nd rfl rfl ⟨rfl, by decide, .inl T.gC⟩ (fun W pn xe tk => ?hb) (fun a oe pn => pss_one (ps_set (i := 1) sc_l_index.nd rfl (Or.inl rfl) (pv 2))) (fun a oe cls d pn hz hf => ⟨fun pins s1 σ1 H1 D I h1 => ?hre⟩)), ?_⟩
  case hb =>
    constructor
    intro pins s1 σ1 H1 D I h1
    obtain ⟨Ech, hW, h2, h3, h4⟩ := h1
    exact (pss_one (ps_expr (act (fun cls d σ' H' => σ'.length = 3 → W cls d σ' H') pn xe Ech _ _ (takes_len tk) hW))).run pins s1 σ1 H1 D I ⟨h2, h3, h4⟩
  case hre =>
    obtain ⟨dd, e1, e2, hh⟩ := h1
    subst e1 e2
    exact (ht (a, dd) oe pn hz hf).run pins s1 σ1 H1 D I hh
  refine ⟨fun cls d H' => cls = .ref C ∧ ∃ dd j, d = some dd ∧ H' dd = some (.xd [("index", .int j)]) ∧ Q (.int j) H', fun cls d σ' H' ⟨e1, dd, j, e2, e3, qq⟩ hl => ?_, rfl, hc, h⟩
  subst e1 e2
  obtain ⟨s0, s1, s2, rfl⟩ := two29 hl
  exact ⟨T.meets, fun a na => ⟨_, rfl, dd, rfl, rfl, hq (a, dd) s0 _ H' j e3 qq⟩⟩
end Lf
namespace Lf
open PySem PySem.Spec PyProof.Rows L2
/-- what the top tells of an own exception that keeps nothing -/
structure OwnE (K : PySem.W.Frag) (mg : Str → Option Value) (nm : Str) (C : Addr) : Prop where
  gC : mg nm = some (.ref C)
  kC : PySem.W.keepIn K (.ref C) = true
  xi : PySem.W.excIn K C [.type "ValueError", .type "Exception", .type "BaseException", .type "object"] "ValueError.__new__" = true
  ex : ExcC K C
  ty : PySem.W.typeIn K (.ref C) = some (.type "type")
  sf : PySem.W.subIn K (.ref C) (.ref C) = some true
theorem OwnE.raises {X : Cx} {C : Addr} {nm : Str} (T : OwnE X.K X.mg nm C) : Raises X (.ref C) := raises_own T.ex.hs T.ty
section
variable {P : Program} {w : World} {K : PySem.W.Frag} {mg : Str → Option Value} {base : Heap} {C CF : Addr}
def spBlame : Sp := fun vs H Q _ => ∃ (L : Addr) (kb : Bool) (xs : List V) (ds : List Rec) (k : Nat), vs = [.ref L] ∧ H L = some (sqO kb xs) ∧ Obs rcO H xs ds ∧ ds.length ≤ 200 ∧ RcB k ds ∧ 0 < k ∧ k ≤ 8000 ∧ Cf ds ∧ ∀ F js H', Same H H' → H F = none → H' F = some (.lst ((ni js).map V.int)) → Least ds js → Q (.ref F) H'
/-- of valid records: a conflict, or Fitting -/
def spBlameB (CF : Addr) : Sp := fun vs H Q E => ∃ (L : Addr) (kb : Bool) (xs : List V) (ds : List Rec) (k : Nat), vs = [.ref L] ∧ H L = some (sqO kb xs) ∧ Obs rcO H xs ds ∧ ds.length ≤ 200 ∧ RcB k ds ∧ 0 < k ∧ k ≤ 8000 ∧ (∀ F js H', Same H H' → H F = none → H' F = some (.lst ((ni js).map V.int)) → Least ds js → Q (.ref F) H') ∧ (¬ Cf ds → ∀ H', Same H H' → E (.ref CF) none H')
end
/-! ### a try that may return, or raise what is kept in a name -/
section
variable {X : Cx} {x n : Str} {c : Value} {i : Nat} {body suite rest : List Stmt} {b0 : Stmt} {np po pq : Pos} {tb : WX → TS} {ts : Addr → TS} {tr : Addr → Value → Option Addr → TS}
theorem pss_keepR (stk : X.stack = X.env :: X.outer) (fr : X.env.frame = some X.env.locals) (nd : X.N.Nodup) (ni : X.N[i]? = some n) (kn : X.env.kindOf n = some .local) (hc : Names X x c)
    (hb : ∀ (W : WX) (pn : List (Addr × Obj)) (xe : Value → Shared → Prop), Takes (X.tr pn xe) W → PSs (X.tr pn xe) body (tb W))
    (hsu : ∀ (a : Addr) (oe : Obj) (pn : List (Addr × Obj)), PSs (X.suite a ((a, oe) :: pn)) (b0 :: suite) (ts a))
    (hre : ∀ (a : Addr) (oe : Obj) (cls : Value) (d : Option Addr) (pn : List (Addr × Obj)), Zc cls d oe → (∃ vs, oe.data = .fields vs) → PSs (X.tr ((a, oe) :: pn) X.xe) rest (tr a cls d)) :
    PSs X (.Try body [.ExceptHandler (some (.Name x np)) (some n) (b0 :: suite) pq] [] [] po :: rest) (fun D σ H => tb (wKeep X.K c i ts (fun a cls d σ' H' => tr a cls d D σ' H')) { nx := fun _ _ => False, rt := D.rt } σ H) := by
  refine ⟨fun pins s σ H D I h => wpAny_execs_cons (wpAny_Try_except ?_)⟩
  have ok := I.ok
  have frm : X.A.frames = some (X.env :: X.outer) := by rw [ok.frames, stk]
  refine wpAny_mono ((hb (wKeep X.K c i ts (fun a cls d σ' H' => tr a cls d D σ' H')) (X.pn ++ pins) _ (fun u s' air => ?_)).run [] s σ H { nx := fun _ _ => False, rt := D.rt } (I.toTry _) h) (fun f s1 z => ?_) (fun e s1 he => he)
  · obtain ⟨a, B, sI, pins', σ1, H1, cls, d, rfl, J0, nb, up, sky, na, os, ag, em, go⟩ := air
    have J : Inv X pins σ1 H1 sI := J0.ofTry ok
    rw [stk] at sky
    refine Sky.land Zc.steady frm fr sky fun h3 f3 u3 => ?_
    have J3 : Inv X pins σ1 H1 { s' with heap := h3 } := J.landed nb f3.1 (up.trans u3) os ag
    obtain ⟨o3, v3, g3, z3, d3⟩ := f3.there
    have nf : a ∉ frs (X.env :: X.outer) := fun hm => by
      obtain ⟨_, o', e', hn⟩ := f3.2.2.1.mem hm
      rw [g3] at e'
      cases e'
      exact hn _ d3
    have n1 : a ≠ X.env.locals := fun z => nf (List.mem_filterMap.mpr ⟨X.env, List.mem_cons_self, by rw [fr, z]⟩)
    have n2 : a ∉ X.fs := fun hm => by
      obtain ⟨e, he, q⟩ := List.mem_filterMap.mp hm
      exact nf (List.mem_filterMap.mpr ⟨e, List.mem_cons_of_mem _ he, q⟩)
    have S3 := J3.suite g3 d3 na n1 n2
    refine wpAny_handleBy_cons (codeAny_handlers_test ?_) (by intro q; cases q)
    have lt : PySem.W.Looks (model X.prog X.w) h3 (typeOf (.ref a)) cls := fun A Q E s k q => wpAny_typeOf_ref (k _ _ g3) (by rw [z3.1]; exact q)
    have lm := PySem.W.exm_one (M := model X.prog X.w) J3.kIn lt em
    have seen : ∀ {Q : Value → Shared → Prop} {E : Value → Shared → Prop}, Q c { s' with heap := h3 } → wpAny (model X.prog X.w) (X.A.mark (some (.ref a))) (eval (.Name x np) X.env) Q E { s' with heap := h3 } := fun {Q E} q => by
      obtain ⟨hg, hd, hm | ⟨hm, hv, hw⟩⟩ := hc
      · exact ld_glob S3 hg hm q hd
      · exact ld_blt S3 hg hm hv q hw hd
    refine seen (lm.here (codeAny_handlers_suite_as (HandSPX.lands_againZ f3 fun h4 f4 u4 => ?_)))
    have J4 : Inv X pins σ1 H1 { s' with heap := h4 } := J.landed nb f4.1 ((up.trans u3).trans u4) os ag
    obtain ⟨o4, v4, g4, z4, d4⟩ := f4.there
    have S4 := J4.suite g4 d4 na n1 n2
    refine store_ok (X := X.suite a ((a, o4) :: (X.pn ++ pins))) (v := .ref a) S4 nd ni (.inl kn) rfl (fun s5 S5 => ?_) (.inr kn)
    refine wpAny_mono ((hsu a o4 (X.pn ++ pins)).run [] s5 _ H1 _ S5 (go a na)) (fun f s6 q => ?_) (fun _ _ z => False.elim z)
    cases f with
    | next =>
      obtain ⟨σ6, H6, S6, q6⟩ := q
      refine gone_ok (X := X.tr ((a, o4) :: (X.pn ++ pins)) X.xe) (out_suite ok S6) nd ni kn fun s7 J7 => ?_
      refine wpAny_mono ((hre a o4 cls d (X.pn ++ pins) z4 ⟨_, d4⟩).run [] s7 _ H6 D J7 q6) (fun f s8 r => ?_) (fun _ _ z => z)
      cases f with
      | next =>
        obtain ⟨σ8, H8, J8, q8⟩ := r
        exact ⟨σ8, H8, pin_out ok J8, q8⟩
      | brk =>
        obtain ⟨σ8, H8, J8, q8⟩ := r
        exact ⟨σ8, H8, pin_out ok J8, q8⟩
      | cont =>
        obtain ⟨σ8, H8, J8, q8⟩ := r
        exact ⟨σ8, H8, pin_out ok J8, q8⟩
      | ret u =>
        obtain ⟨v8, σ8, H8, J8, r8, q8⟩ := r
        exact ⟨v8, σ8, H8, pin_out ok J8, r8, q8⟩
    | brk =>
      obtain ⟨_, _, _, q6⟩ := q
      exact False.elim q6
    | cont =>
      obtain ⟨_, _, _, q6⟩ := q
      exact False.elim q6
    | ret u =>
      obtain ⟨_, _, _, _, _, q6⟩ := q
      exact False.elim q6
  · cases f with
    | next =>
      obtain ⟨_, _, _, q6⟩ := z
      exact False.elim q6
    | brk =>
      obtain ⟨_, _, _, q6⟩ := z
      exact False.elim q6
    | cont =>
      obtain ⟨_, _, _, q6⟩ := z
      exact False.elim q6
    | ret u =>
      obtain ⟨v8, σ8, H8, J8, r8, q8⟩ := z
      exact ⟨v8, σ8, H8, J8.ofTry ok, r8, q8⟩
end
end Lf
namespace Lf
open PySem PySem.Spec PyProof.Rows L2
section
variable {P : Program} {w : World} {K : PySem.W.Frag} {mg : Str → Option Value} {base : Heap} {C CV : Addr}
/-! ### _law_none -/
def spNone31 : Sp := fun vs H Q _ => ∃ (a : PA) (n : Nat), vs = [.ref a] ∧ Pen H a n ∧ n < 2 ^ 39 ∧ ∀ v H', CkBad H' v (-1) → Pen H' a (n + 1) → Fr H H' → Q v H'
abbrev s_l_none : Stmt := topS 59
abbrev N_l_none : List Str := ["_law_pen_here"]
abbrev P_l_none : List Str := ["_law_pen_here"]
theorem sc_l_none : FnScope N_l_none P_l_none (defScope s_l_none) := ⟨rfl, rfl, rfl, by decide +kernel, rfl, by decide +kernel, by decide +kernel⟩
theorem ok_l_none (D : Df K mg "_law_none" s_l_none P_l_none) (c_l_pick : C8.Cal P w K mg base 2 "_law_pick" spPick []) : C8.Cal P w K mg base 3 "_law_none" spNone31 [] := by
  refine cal_of D sc_l_none (fun vs H Q E h => ?_) (fun f cdv A outer s H vs Q E hr h => ?_)
  · obtain ⟨a, n, rfl, _⟩ := h
    rfl
  · obtain ⟨a, n, rfl, hP, hn, kk⟩ := h
    refine ⟨_, (pss_one (ps_ret (C8.pe_c c_l_pick hr (by decide) (by rfl) (pa_cons (pv 0) (pa_cons (pe_lst (pa_cons pe_non (pa_cons pe_int (pa_cons pe_str (pa_cons pe_dnewK (pa_cons pe_bl (pa_cons (pe_op op_rep (pe_lst (pa_cons (pe_tup (pa_cons pe_str (pa_cons pe_int (pa_cons pe_int pa_nil)))) pa_nil)) pe_int) pa_nil))))))) pa_nil))))), ?_⟩
    refine ⟨_, rfl, fun o5 n5 => ?_⟩
    have z5 := sm_upd (o := .dK []) n5
    refine ⟨len10 (by simp), fun tp ntp => ?_⟩
    have z6 := sm_upd (o := .tup [.str "at most", .int 0, .int 0]) ntp
    refine ⟨len10 (by simp), fun l1 nl1 => ?_⟩
    have z7 := sm_upd (o := .lst [.ref tp]) nl1
    refine ⟨l1, 201, _, rfl, rfl, upd_same, by decide, by decide, by rw [sizeLine_eq]; show 1 * 201 ≤ _; decide, fun l2 nl2 => ?_⟩
    have z8 := sm_upd (o := .lst (List.replicate (201 : Int).toNat [V.ref tp]).flatten) nl2
    refine ⟨len10 (by simp), fun O nO => ?_⟩
    have z9 := sm_upd (o := .lst [.non, .int 7, .str "at least", .ref o5, .bl true, .ref l2]) nO
    have z59 := (((z5.trans z6).trans z7).trans z8).trans z9
    have bads : ∀ v ∈ [V.non, .int 7, .str "at least", .ref o5, .bl true, .ref l2], CkBad (upd (upd (upd (upd (upd H o5 (.dK [])) tp (.tup [.str "at most", .int 0, .int 0])) l1 (.lst [.ref tp])) l2 (.lst (List.replicate (201 : Int).toNat [V.ref tp]).flatten)) O (.lst [.non, .int 7, .str "at least", .ref o5, .bl true, .ref l2])) v (-1) := by
      intro v hv
      simp only [List.mem_cons, List.not_mem_nil, or_false] at hv
      rcases hv with rfl | rfl | rfl | rfl | rfl | rfl
      · exact .kind .non rfl
      · exact .kind (.int 7) rfl
      · exact .kind (.str _) rfl
      · exact .kind (.dk0 ((((z6.trans z7).trans z8).trans z9) _ _ upd_same)) rfl
      · exact .kind (.bl true) rfl
      · refine .long (kb := true) (z9 _ _ upd_same) ?_
        rw [show (List.replicate (201 : Int).toNat [V.ref tp]).flatten = List.replicate 201 (V.ref tp) from rfl, List.length_replicate]
        decide
    refine ⟨a, O, _, _, rfl, hP.same z59, by omega, upd_same, by simp, by simp, fun v H13 hv hP13 f13 => ?_⟩
    exact kk v H13 ((bads v hv).kp f13.kp) hP13 ((Fr.same z59).trans f13)
end
/-! ### isinstance of a kept exception that has its dict -/
theorem call_isKV {X : Cx} {a D dd : Addr} {oe : Obj} {pn : List (Addr × Obj)} {xe : Value → Shared → Prop} (C : ExcC X.K D) (hz : Zc (.ref D) (some dd) oe) (hf : ∃ vs, oe.data = .fields vs) : CallR (X.tr ((a, oe) :: pn) xe) (.builtin "isinstance") (rIsV X.K D a dd) := by
  intro pins s σ H xs us Q I r h
  obtain ⟨c, cv, b, fs, rfl, hcv, e, ed, q⟩ := h
  cases r with
  | cons rx rr =>
    cases rr with
    | cons rt rr =>
      cases rr
      cases rx
      obtain ⟨ge, _⟩ := I.pin (a, oe) (List.mem_append.mpr (.inl List.mem_cons_self))
      obtain ⟨vs, hv⟩ := hf
      obtain ⟨mA, hns, _⟩ := (show ObjOk X.prog X.w H s.heap dd (.xd fs) from I.hok dd _ ed)
      obtain ⟨od, _, _, ho, _⟩ := hns
      have J : PySem.W.InstAt s.heap a oe D (some od) := by
        obtain ⟨oc, od', oda, osl⟩ := oe
        obtain ⟨h1, h2⟩ := hz
        dsimp only at h1 h2 hv
        subst h1 h2 hv
        exact ⟨ge, rfl, rfl, ho⟩
      have hcl : (PySem.W.clsIn X.K D).isSome = true := by
        obtain ⟨cd, hc, _⟩ := PySem.W.any_some C.hd
        rw [hc]
        rfl
      have kx := PySem.W.kitx_exc (x := a) (ox := oe) (od := some od) hcl C.hg C.hk C.hs C.ha C.hn C.ht C.hm
      have ec := hcv _ rt
      subst ec
      exact PySem.W.kia_one kx I.kIn J e (fun z => nomatch z) fun tk => ⟨.bl b, H, I.kept (t' := tk) fun _ _ z => z, rfl, q⟩
def tNo1 : TE := fun _ _ _ => False
theorem pe_no {X : Cx} {e : Expr} : PE X e tNo1 := ⟨fun _ _ _ _ _ _ h => h.elim⟩
def tNoS : TS := fun _ _ _ => False
theorem pss_no {X : Cx} {b : List Stmt} : PSs X b tNoS := ⟨fun _ _ _ _ _ _ h => h.elim⟩
end Lf
namespace Lf
open PySem PySem.Spec PyProof.Rows L2
/-! ### follows: the list is new; what is refused -/
inductive WoBad (H : Hp) : V → V → Int → Prop
  | recs {v x : V} {j : Int} : CkBad H v j → WoBad H v x j
  | more {L : Addr} {kb : Bool} {xs : List V} {ds : List Rec} {x : V} {dx : PyData} : H L = some (sqO kb xs) → Obs rcO H xs ds → ds.length ≤ 200 → Dv H x dx → rgB dx = true → recB dx = false → WoBad H (.ref L) x (ds.length : Nat)
theorem WoBad.kp {H H' : Hp} {v x : V} {j : Int} (h : WoBad H v x j) (k : Kp H H') : WoBad H' v x j := by
  cases h with
  | recs h => exact .recs (h.kp k)
  | more h1 h2 h3 h4 h5 h6 => exact .more (sq_kp k h1) (h2.keep fun b d e => k.t _ _ e) h3 (Dv.kp k _ _ h4) h5 h6
section
variable {P : Program} {w : World} {K : PySem.W.Frag} {mg : Str → Option Value} {base : Heap} {C : Addr}
def spWOX (C : Addr) : Sp := fun vs H _ E => ∃ (v x : V) (j : Int), vs = [v, x] ∧ WoBad H v x j ∧ ∀ H', Same H H' → OutY C "index" (.int j) H' E
theorem okx_with_opposite (D : Df K mg "with_opposite" s_with_opposite P_with_opposite) (T : ValC P K mg C "InvalidRecord" "index") (B : Bi mg) (cx_check_records : CalX P w K mg base 3 "check_records" (spCkX C)) (c_check_records : C8.Cal P w K mg base 3 "check_records" spCkS []) (cA_is_record : C8.Cal P w K mg base 2 "is_record" spIsRecD []) : CalX P w K mg base 4 "with_opposite" (spWOX C) := by
  refine calx_of D sc_with_opposite (fun vs H Q E h => ?_) (fun f cdv A outer s H vs Q E hr h => ?_)
  · obtain ⟨v, x, j, rfl, _⟩ := h
    rfl
  · obtain ⟨v, x, j, rfl, hb, he⟩ := h
    cases hb with
    | recs hb =>
      refine ⟨_, pss_cons (ps_expr (pe_cx cx_check_records hr (by decide) (takes_of rfl rfl rfl rfl) (by rfl) (pa_cons (pv 0) pa_nil))) pss_no, ?_⟩
      exact ⟨_, rfl, v, j, rfl, hb, fun H1 s1 => he H1 s1⟩
    | @more L kb xs ds _ dx eL hO hl dx' rg rb =>
      have c_is_record := cA_is_record
      refine ⟨_, (pss_cons (ps_expr (C8.pe_c c_check_records hr (by decide) (by rfl) (pa_cons (pv 0) pa_nil)))
    (pss_cons (ps_if (pt_not (pt_val (C8.pe_c c_is_record hr (by decide) (by rfl) (pa_cons (pv 1) pa_nil))))
      (pss_one (ps_raise rfl (takes_of rfl rfl rfl rfl) (pmk_val T hr (by decide) rfl (pe_callB (call_len_seq) (by rfl) B.len_ bt_len (pa_cons (pv 0) pa_nil)))))
      pss_nil)
    (pss_one (ps_ret pe_no)))), ?_⟩
      refine ⟨_, rfl, L, kb, xs, ds, rfl, eL, hO, hl, fun H1 s1 => ?_⟩
      refine ⟨_, rfl, x, dx, rfl, Dv.kp (Fr.same s1).kp _ _ dx', rg, fun H2 s2 => ⟨recB dx, rfl, ?_⟩⟩
      rw [rb]
      refine iteT ⟨_, rfl, L, _, rfl, (SqB.of ((s1.trans s2) _ _ eL)).or, ?_⟩
      rw [hO.len]
      exact mkv (he H2 (s1.trans s2))
theorem okx_follows (D : Df K mg "follows" s_follows P_follows) (B : Bi mg) (cx_with_opposite : CalX P w K mg base 4 "with_opposite" (spWOX C)) : CalX P w K mg base 5 "follows" (spWOX C) := by
  refine calx_of D sc_follows (fun vs H Q E h => ?_) (fun f cdv A outer s H vs Q E hr h => ?_)
  · obtain ⟨v, x, j, rfl, _⟩ := h
    rfl
  · obtain ⟨v, x, j, rfl, hb, he⟩ := h
    refine ⟨_, pss_cons (ps_set (i := 2) sc_follows.nd rfl (Or.inl rfl) (pe_cx cx_with_opposite hr (by decide) (takes_of rfl rfl rfl rfl) (by rfl) (pa_cons (pv 0) (pa_cons (pv 1) pa_nil)))) pss_no, ?_⟩
    exact ⟨_, rfl, _, rfl, v, x, j, rfl, hb, fun H1 s1 => he H1 s1⟩
/-- the list of indexes is the caller's own -/
def spFollowsN : Sp := fun vs H Q _ => ∃ (L r : Addr) (kb : Bool) (xs : List V) (ds : List Rec) (d : Rec) (k : Nat), vs = [.ref L, .ref r] ∧ H L = some (sqO kb xs) ∧ Obs rcO H xs ds ∧ ds.length ≤ 200 ∧ H r = some (rcO d) ∧ RcB k ds ∧ (Bd k d.t ∧ Bd k d.n) ∧ 0 < k ∧ k ≤ 1800 ∧
  ∀ T b H', Same H H' → FlS H' (k + 1) (ds ++ [opp d]) T b → (∀ J, H' T = some (.tup [.str "follows", .ref J]) → H J = none) → Q (.ref T) H'
theorem okS_follows (D : Df K mg "follows" s_follows P_follows) (c_with_opposite : C8.Cal P w K mg base 4 "with_opposite" spWO []) (c_find_conflict : C8.Cal P w K mg base 4 "find_conflict" (spFind 1000) []) (c_fitting_rule : C8.Cal P w K mg base 5 "fitting_rule" spFitR []) : C8.Cal P w K mg base 6 "follows" spFollowsN [] := by
  refine cal_of D sc_follows (fun vs H Q E h => ?_) (fun f cdv A outer s H vs Q E hr h => ?_)
  · obtain ⟨L, r, kb, xs, ds, d, k, rfl, _⟩ := h
    rfl
  · obtain ⟨L, r, kb, xs, ds, d, k, rfl, eL, hO, hl, er, bd, bd2, k0, k1, kk⟩ := h
    refine ⟨_, (pss_cons (ps_set (i := 2) sc_follows.nd rfl (Or.inl rfl) (C8.pe_c c_with_opposite hr (by decide) (by rfl) (pa_cons (pv 0) (pa_cons (pv 1) pa_nil))))
    (pss_cons (ps_set (i := 3) sc_follows.nd rfl (Or.inl rfl) (C8.pe_c c_find_conflict hr (by decide) (by rfl) (pa_cons (pv 2) pa_nil)))
    (pss_cons (ps_if (pt_cmpR op_isN (pv 3) pe_non (nomark _))
      (pss_one (ps_ret (pe_tup (pa_cons pe_str (pa_cons (C8.pe_c c_fitting_rule hr (by decide) (by rfl) (pa_cons (pv 2) pa_nil)) pa_nil)))))
      pss_nil)
    (pss_one (ps_ret (pe_tup (pa_cons pe_str (pa_cons (pv 3) pa_nil)))))))), ?_⟩
    refine ⟨_, rfl, _, rfl, L, r, kb, xs, ds, d, rfl, eL, hO, hl, er, fun D ys H1 s1 eD oD => ?_⟩
    have bD : RcB (k + 1) (ds ++ [opp d]) := fun e he => by
      rcases List.mem_append.mp he with g | g
      · exact ⟨(bd e g).1.mono (by omega), (bd e g).2.mono (by omega)⟩
      · rw [List.mem_singleton.mp g]
        exact opp_bd k0 bd2
    have lD : (ds ++ [opp d]).length ≤ 201 := by
      rw [List.length_append]
      show ds.length + 1 ≤ 201
      omega
    refine ⟨_, rfl, D, true, ys, ds ++ [opp d], k + 1, rfl, eD, oD, by omega, bD, by omega, by omega, fun v H2 s2 fc => ?_⟩
    cases fc with
    | no h =>
      refine ⟨_, rfl, rfl, _, rfl, iteT ?_⟩
      refine ⟨_, rfl, D, true, ys, ds ++ [opp d], k + 1, rfl, s2 _ _ eD, oD.same s2, by omega, bD, by omega, by omega, h, fun H3 r' p q c s3 er' R hf => ?_⟩
      refine ⟨len10 (by simp), fun T nT => ?_⟩
      have z := sm_upd (o := .tup [.str "open", .ref r']) nT
      exact kk T false _ (((s1.trans s2).trans s3).trans z) (.opn upd_same (z _ _ er') R hf) fun J e => by
        rw [upd_same] at e
        exact absurd (V.str.inj (List.cons.inj (HO.tup.inj (Option.some.inj e))).1) (by decide +kernel)
    | @yes J js nJ eJ hJ =>
      refine ⟨_, rfl, rfl, _, rfl, iteF ?_⟩
      refine ⟨_, rfl, len10 (by simp), fun T nT => ?_⟩
      have z := sm_upd (o := .tup [.str "follows", .ref J]) nT
      exact kk T true _ ((s1.trans s2).trans z) (.fol upd_same (z _ _ eJ) hJ) fun J' e => by
        rw [upd_same] at e
        cases e
        exact Same.nf s1 nJ
end
end Lf
namespace Lf
open PySem PySem.Spec PyProof.Rows L2
section
variable {P : Program} {w : World} {K : PySem.W.Frag} {mg : Str → Option Value} {base : Heap}
/-! ### _law_fits -/
def spFit28 : Sp := fun vs H Q _ => ∃ (r e : Addr) (p q c : Int) (d : Rec) (k : Nat), vs = [.ref r, .ref e] ∧ H r = some (.tup [.int p, .int q, .int c]) ∧ H e = some (rcO d) ∧ RuleB k p q c ∧ Bd k d.t ∧ 0 < k ∧ k ≤ 3000 ∧ Q (.bl (fitB p q c d)) H
abbrev s_l_fits : Stmt := topS 47
abbrev N_l_fits : List Str := ["_law_rule_here", "_law_record_here", "_law_here"]
abbrev P_l_fits : List Str := ["_law_rule_here", "_law_record_here"]
theorem sc_l_fits : FnScope N_l_fits P_l_fits (defScope s_l_fits) := ⟨rfl, rfl, rfl, by decide +kernel, rfl, by decide +kernel, by decide +kernel⟩
theorem ok_l_fits (D : Df K mg "_law_fits" s_l_fits P_l_fits) (c_l_count : C8.Cal P w K mg base 1 "_law_count" spCount30 []) : C8.Cal P w K mg base 2 "_law_fits" spFit28 [] := by
  refine cal_of D sc_l_fits (fun vs H Q E h => ?_) (fun f cdv A outer s H vs Q E hr h => ?_)
  · obtain ⟨r, e, p, q, c, d, k, rfl, _⟩ := h
    rfl
  · obtain ⟨r, e, p, q, c, d, k, rfl, er, ee, R, bt, k0, k1, kk⟩ := h
    refine ⟨_, (pss_cons (ps_set (i := 2) sc_l_fits.nd rfl (Or.inl rfl) (C8.pe_c c_l_count hr (by decide) (by rfl) (pa_cons (pv 0) (pa_cons (pe_ix (r := rIxT K) ix_tup (pv 1) pe_int (fun _ _ => rfl)) pa_nil))))
    (pss_one (ps_ret (pe_ifExp (pt_cmpR op_eq (pe_ix (r := rIxT K) ix_tup (pv 1) pe_int (fun _ _ => rfl)) pe_str (nomark _)) (pe_cmpR op_ge (pv 2) (pe_ix (r := rIxT K) ix_tup (pv 1) pe_int (fun _ _ => rfl)) (nomark _)) (pe_cmpR op_le (pv 2) (pe_ix (r := rIxT K) ix_tup (pv 1) pe_int (fun _ _ => rfl)) (nomark _)))))), ?_⟩
    refine ⟨_, rfl, _, rfl, e, _, _, _, rfl, rfl, SqT.of ee, atI_nat (j := 1) rfl, r, p, q, c, d.t, k, rfl, er, R, bt, k0, k1, ?_⟩
    refine ⟨_, rfl, e, _, _, _, rfl, rfl, SqT.of ee, atI_nat (j := 0) rfl, rfl, _, rfl, ?_⟩
    rw [w_lo]
    have kk : Q (.bl (if d.lo = true then decide (d.n ≤ (p * d.t + c) / q) else decide ((p * d.t + c) / q ≤ d.n))) H := kk
    cases hd : d.lo with
    | true =>
      rw [hd] at kk
      refine iteT ?_
      exact ⟨_, rfl, _, rfl, e, _, _, _, rfl, rfl, SqT.of ee, atI_nat (j := 2) rfl, _, _, rfl, rfl, kk⟩
    | false =>
      rw [hd] at kk
      refine iteF ?_
      exact ⟨_, rfl, _, rfl, e, _, _, _, rfl, rfl, SqT.of ee, atI_nat (j := 2) rfl, _, _, rfl, rfl, kk⟩
end
end Lf
namespace Lf
open PySem PySem.Spec PyProof.Rows L2
/-! ### sorted(xs, key=lambda y: y[1]), a list of records -/
abbrev AR := Addr × Rec
def refR (ts : List AR) : List V := ts.map fun e => V.ref e.1
/-- one parameter, no name captured -/
structure LamK (y : Str) (scope : Scope) : Prop where
  kind : scope.kind = .function
  co : scope.isCoroutine = false
  gen : scope.isGenerator = false
  par : scope.names.lookup y = some .local
  own : ∀ x ∈ scope.names, x.2 ≠ .cell ∧ x.2 ≠ .free
def tSortK (T : List (Addr × Str)) (te : TE) : TE := fun σ H Q => te σ H fun v H1 => ∃ (L : Addr) (xs : List V) (ds : List Rec), v = .ref L ∧ H1 L = some (.lst xs) ∧ Obs rcO H1 xs ds ∧ ds.length ≤ 1000 ∧ LamX.Tabs T H1 ∧
  ∀ H2 us es p, LamX.ExtN H1 H2 → LamX.Tabs T H2 → Obs rcO H2 us es → es.Perm ds → es.Pairwise (fun e e' => e.t ≤ e'.t) → H2 p = none → Q (.ref p) (upd H2 p (.lst us))
theorem obs_refs {H : Hp} : ∀ {xs : List V} {ds : List Rec}, Obs rcO H xs ds → ∃ ts : List AR, xs = refR ts ∧ ds = ts.map (·.2) ∧ ∀ e ∈ ts, H e.1 = some (rcO e.2)
  | _, _, .nil => ⟨[], rfl, rfl, fun _ h => (nomatch h)⟩
  | _, _, .cons (r := r) (d := d) e o => by
    obtain ⟨ts, h1, h2, h3⟩ := obs_refs o
    refine ⟨(r, d) :: ts, by rw [h1]; rfl, by rw [h2]; rfl, fun x hx => ?_⟩
    rcases List.mem_cons.mp hx with rfl | hx
    · exact e
    · exact h3 x hx
theorem refs_obs {H : Hp} : ∀ (ts : List AR), (∀ e ∈ ts, H e.1 = some (rcO e.2)) → Obs rcO H (refR ts) (ts.map (·.2))
  | [], _ => .nil
  | e :: ts, h => .cons (h e List.mem_cons_self) (refs_obs ts fun x hx => h x (List.mem_cons_of_mem _ hx))
theorem each_refR : ∀ {us : List Value} {ts : List AR}, Vals (refR ts) us → PySem.W.EachIs (fun v (e : AR) => v = Value.ref e.1) us ts
  | _, [], .nil => .nil
  | _, _ :: _, .cons r t => .cons r (each_refR t)
theorem vals_refR : ∀ {us : List Value} {ts : List AR}, PySem.W.EachIs (fun v (e : AR) => v = Value.ref e.1) us ts → Vals (refR ts) us
  | _, _, .nil => .nil
  | _, _, .cons r t => .cons r (vals_refR t)
section
variable {X : Cx}
theorem pe_sortK {T : List (Addr × Str)} {c P : Addr} {params : Arguments} {scope : Scope} {e : Expr} {te : TE} {y nm : Str} {j : Nat} {p p1 p2 p3 lpos pos kp : Pos} {k : Nat} (hr : Room k X.A) (hg : Gl X "sorted") (hm : X.mg "sorted" = none) (he0 : PE X e te) (TB : LamX.TabB X.base X.mg c P) (hcode : X.env.code = .ref c)
    (hmT : (P, X.env.qual ++ ("<lambda>" : Str)) ∈ T) (huT : ∀ p ∈ T, p.1 = P → p.2 = X.env.qual ++ ("<lambda>" : Str)) (L : LamK y scope) (hdef : defaultsOf params X.env = ([], []))
    (hbind : ∀ (q : Str) (cl : List (Str × Addr)) (pm cv ctv v : Value), bindArgs (PySem.W.kla_fn "<lambda>" q params (.Subscript (.Name y p1) (.Constant (.int 1) j p2) p3) scope cl pm cv ctv) ⟨[v], []⟩ = pure [(y, v)])
    (hst : starEach [e] X.env = (false, eval e X.env) :: starEach [] X.env) (hnm : nm = Str.ofString "key") (hdb : (y == ("__debug__" : Str)) = false := by decide) :
    PE X (.Call (.Name "sorted" p) [e] [⟨some nm, .Lambda params (.Subscript (.Name y p1) (.Constant (.int 1) j p2) p3) scope lpos, kp⟩] pos) (tSortK T te) := by
  subst hnm
  refine ⟨fun pins s σ H Q I h => ?_⟩
  refine wpAny_Call_Name_kw (ld_blt I hg hm bt_sorted ?_)
  refine PyProof.Rows.callWith_kw ?_ (by rw [hst]; rfl) (by rw [hst]; rfl) rfl rfl
  rw [hst]
  refine Calls.spliced_cons (thn (he0.run pins s σ H _ I h) fun u s1 ⟨v, H1, I1, r1, q1⟩ => ?_)
  refine Calls.spliced_nil ?_
  obtain ⟨La, xs, ds, rfl, eL, hO, hl, hT, kk⟩ := q1
  obtain rfl : u = Value.ref La := r1
  show wpAny _ _ (evalAll ((do let v ← eval (.Lambda params (.Subscript (.Name y p1) (.Constant (.int 1) j p2) p3) scope lpos) X.env; standAt pos; pure v) :: [])) _ _ s1
  refine wpAny_evalAll_cons (wpAny_bind (LamX.lam_make2 I1 TB hcode hmT huT hT hdef (fun z hz e => absurd e (L.own z hz).2) fun f c' pm' ctv H2 s2 I2 eN T2 hf hfn hfr hco => ?_))
  refine wpAny_bind (wpAny_standAt (wpAny_pure (wpAny_evalAll_nil ?_)))
  have eL2 := eN _ _ eL (fun _ z => by cases z)
  have hO2 : Obs rcO H2 xs ds := hO.keep fun b d e => eN _ _ e (fun _ z => by cases z)
  obtain ⟨ts, rfl, rfl, hx⟩ := obs_refs hO2
  obtain ⟨its, rv, hli, hz⟩ := I2.list (SqL.of eL2)
  have er := each_refR rv
  have hco2 : ∃ (oc : Obj) (vs : Array Value) (t : Tok), s2.heap.get? c' = some oc ∧ oc.data = .fields vs ∧ vs[1]? = some (.str (X.env.qual ++ ("<lambda>" : Str)) t) := (I2.hok c' _ hco).1
  obtain ⟨oc, vs, tq, hoc, hdc, hvc⟩ := hco2
  have hlen : ts.length ≤ sizeLine := by
    rw [List.length_map] at hl
    exact len10 hl
  show wpAny _ _ (call (.builtin "sorted") [Value.ref La] [(Str.ofString "key", Value.ref f)]) _ _ s2
  refine PySem.W.sorted_key_data (bs := ts) (b := false) (f := .ref f) (R := fun v (e : AR) => v = Value.ref e.1) (fun e : AR => PyData.int e.2.t) hli.isList er (PySem.W.AllAlike.of fun b b' => by simp only [PySem.W.alike]) (PySem.W.Sortable.others fun b => ⟨nofun, nofun⟩) hlen (fun b _ => ?_) (PyProof.Rows.ksk_s1 _ _) (fun x => PyProof.Rows.ksk_l1 _ _) (fun x => PyProof.Rows.ksk_t1 _ _) (fun v b hv hb h3 tk keep => ?_) fun out ep h3 tk keep fresh hD ol each => ?_
  · show _ + 2 + PyData.depth (.int b.2.t) < _
    have := hr.un
    have : PyData.depth (.int b.2.t) = 0 := rfl
    omega
  · subst hv
    obtain ⟨it3, r3, pl3, _⟩ := I2.tuple (SqT.of (hx b hb))
    have of1 := keep _ _ hf
    refine wpAny_call (PySem.W.kla_callFunE hr.depth of1 rfl L.co L.gen rfl ⟨c', oc, vs, tq, rfl, keep _ _ hoc, hdc, hvc⟩ ?_)
    rw [hbind]
    refine wpAny_pure (wpAny_newFunctionEnv (fun z hz => (L.own z hz).1) (fun z hz => ?_) (fun h₁ hns hsb => ⟨(I2.nolimit.keeps keep).fresh _ hsb, ?_⟩) L.kind)
    · rw [List.mem_singleton.mp hz]
      exact L.par
    have kp4 : ∀ b o, h3.get? b = some o → h₁.get? b = some o := fun b o e => hsb.extBut b o (Nat.ne_of_lt (Heap.lt_size e)) (Heap.get?_push_of_some _ e)
    refine PySem.W.kla_codeExpr (Subscript_ (wpAny_Name (wpAny_loadName_local L.kind L.par hns (v := Value.ref b.1) (by simp) ?_) hdb))
    refine wpAny_Constant_int ?_
    obtain ⟨ot, hot, hoc2, nt, hd3⟩ := pl3
    cases r3 with
    | cons x1 r3 =>
      cases r3 with
      | cons x2 r3 =>
        cases r3 with
        | cons x3 r3 =>
          cases r3
          obtain ⟨t2, rfl⟩ := x2
          refine item_tupleL (j := 1) (x := .int b.2.t t2) ⟨ot, kp4 _ _ (keep _ _ hot), hoc2, nt, hd3⟩ (by decide) (by decide) rfl rfl ?_
          exact ⟨h₁, _, rfl, kp4, .int _ _⟩
  · rw [PySem.W.dataLe_int] at each
    have hp := List.mergeSort_perm ts fun (p q : AR) => decide (p.2.t ≤ q.2.t)
    have hs := List.pairwise_mergeSort (le := fun (p q : AR) => decide (p.2.t ≤ q.2.t)) (fun a b c g1 g2 => decide_eq_true (Int.le_trans (of_decide_eq_true g1) (of_decide_eq_true g2))) (fun a b => by
      rcases Int.le_total a.2.t b.2.t with g | g <;> simp [g]) ts
    generalize ts.mergeSort (fun (p q : AR) => decide (p.2.t ≤ q.2.t)) = us at each hp hs
    have hlen' : (refR us).length ≤ sizeLine := by
      unfold refR
      rw [List.length_map, hp.length_eq]
      exact hlen
    have Ob : Obs rcO H2 (refR us) (us.map (·.2)) := refs_obs us fun e he => hx e (hp.mem_iff.mp he)
    refine ⟨.ref _, upd H2 (s2.heap.objs.size + 1) (.lst (refR us)), I2.laid (t' := tk) keep (Nat.le_succ _) ⟨hlen', out, ep, vals_refR each, hD⟩, rfl, ?_⟩
    exact kk H2 (refR us) (us.map (·.2)) _ eN T2 Ob (hp.map _) (List.pairwise_map.mpr (hs.imp fun g => of_decide_eq_true g)) (I2.hok.fresh (Nat.le_succ _))
end
end Lf
namespace Lf
open PySem PySem.Spec PyProof.Rows L2
/-! ### _law_is_conflict -/
def NoP (ds : List Rec) : Prop := ∀ a ∈ ds, ∀ b ∈ ds, ¬ PairF a b
theorem nop_few {ds : List Rec} (n : NoP ds) (h : ds.length < 3) : ¬ Cf ds := by
  intro c
  have h2 := cf_len c
  match ds, h, h2, c, n with
  | [a, b], _, _, c, n =>
    rcases cf_pair c with z | z
    · exact n a (by simp) b (by simp) z
    · exact n b (by simp) a (by simp) z
  | [], _, h2, _, _ => simp at h2
  | [_], _, h2, _, _ => simp at h2
theorem cf_perm {ds es : List Rec} (h : es.Perm ds) : Cf es ↔ Cf ds := ⟨fun c => c.sub fun _ hd => h.mem_iff.mp hd, fun c => c.sub fun _ hd => h.mem_iff.mpr hd⟩
theorem nop_three {ds : List Rec} {l m r : Rec} (n : NoP ds) (h : [l, m, r].Perm ds) (t1 : l.t ≤ m.t) (t2 : m.t ≤ r.t) : Cf ds ↔ Form3 l m r := by
  constructor
  · intro c
    rcases cf_three ((cf_perm h).mpr c) t1 t2 with ⟨a, ha, b, hb, z⟩ | z
    · exact absurd z (n a (h.mem_iff.mp ha) b (h.mem_iff.mp hb))
    · exact z
  · intro z
    exact form3_cf (h.mem_iff.mp (by simp)) (h.mem_iff.mp (by simp)) (h.mem_iff.mp (by simp)) z
theorem wd_eq (a b : Bool) : decide (V.str (wd a) = V.str (wd b)) = decide (a = b) := by
  cases a <;> cases b <;> first | exact decide_eq_true rfl | exact decide_eq_false (by intro z; exact absurd (V.str.inj z) (by decide +kernel))
abbrev qLamC : Str := (("_law_is_conflict" : Str) ++ (".<locals>." : Str)) ++ ("<lambda>" : Str)
structure TabK (TS : List (Addr × Str)) (PM : Addr) (q : Str) : Prop where
  m : (PM, q) ∈ TS
  u : ∀ p ∈ TS, p.1 = PM → p.2 = q
section
variable {P : Program} {w : World} {K : PySem.W.Frag} {mg : Str → Option Value} {base : Heap} {PM : Addr} {TS : List (Addr × Str)}
def spIsC (TS : List (Addr × Str)) : Sp := fun vs H Q _ => ∃ (L : Addr) (xs : List V) (ds : List Rec) (k : Nat), vs = [.ref L] ∧ H L = some (.lst xs) ∧ Obs rcO H xs ds ∧ ds.length ≤ 3 ∧ RcB k ds ∧ 0 < k ∧ k ≤ 8000 ∧ LamX.Tabs TS H ∧
  ∀ b H', LamX.ExtN H H' → LamX.Tabs TS H' → (b = true ↔ Cf ds) → Q (.bl b) H'
abbrev s_l_is_conflict : Stmt := topS 50
abbrev N_l_is_conflict : List Str := ["_law_some", "_law_one", "_law_other", "_law_left", "_law_middle", "_law_right", "_law_ahead", "_law_behind", "_law_chord"]
abbrev P_l_is_conflict : List Str := ["_law_some"]
theorem sc_l_is_conflict : FnScope N_l_is_conflict P_l_is_conflict (defScope s_l_is_conflict) := ⟨rfl, rfl, rfl, by decide +kernel, rfl, by decide +kernel, by decide +kernel⟩
theorem ok_l_is_conflict (DT : DfT K mg base "_law_is_conflict" s_l_is_conflict P_l_is_conflict PM) (B : Bi mg) (UT : TabK TS PM qLamC) : C8.Cal P w K mg base 1 "_law_is_conflict" (spIsC TS) [] := by
  refine calT_of DT sc_l_is_conflict (fun vs H Q E h => ?_) (fun f cQ A outer s H vs Q E TB hr h => ?_)
  · obtain ⟨L, xs, ds, k, rfl, _⟩ := h
    rfl
  · obtain ⟨L, xs, ds, k, rfl, eL, hO, hl, bd, k0, k1, hT, kk⟩ := h
    refine ⟨_, (pss_cons (ps_for PassesOwn.never rfl (pi_list (pv 0)) (pg_name (i := 1) sc_l_is_conflict.nd rfl (Or.inl rfl))
      (pss_one (ps_for PassesOwn.never rfl (pi_list (pv 0)) (pg_name (i := 2) sc_l_is_conflict.nd rfl (Or.inl rfl))
      (pss_one (ps_if (PW.pt (pw_and (pt_cmpR op_eq (pe_ix (r := rIxT K) ix_tup (pv 1) pe_int (fun _ _ => rfl)) pe_str (nomark _)) (pw_and (pt_cmpR op_eq (pe_ix (r := rIxT K) ix_tup (pv 2) pe_int (fun _ _ => rfl)) pe_str (nomark _)) (pw_and (pt_cmpR op_le (pe_ix (r := rIxT K) ix_tup (pv 1) pe_int (fun _ _ => rfl)) (pe_ix (r := rIxT K) ix_tup (pv 2) pe_int (fun _ _ => rfl)) (nomark _)) (pw_and1 (pt_cmpR op_gt (pe_ix (r := rIxT K) ix_tup (pv 1) pe_int (fun _ _ => rfl)) (pe_ix (r := rIxT K) ix_tup (pv 2) pe_int (fun _ _ => rfl)) (nomark _)))))))
      (pss_one (ps_ret pe_bl))
      pss_nil)))))
    (pss_cons (ps_if (pt_cmpR op_lt (pe_callB (call_len_seq) (by rfl) B.len_ bt_len (pa_cons (pv 0) pa_nil)) pe_int (nomark _))
      (pss_one (ps_ret pe_bl))
      pss_nil)
    (pss_cons (ps_asg (pe_sortK hr (by rfl) B.sorted_ (pv 0) TB rfl UT.m UT.u ⟨rfl, rfl, rfl, rfl, by decide +kernel⟩ rfl (fun _ _ _ _ _ _ => rfl) (by rfl) (by rfl)) (pg_unl rfl (pgs_cons (pg_name (i := 3) sc_l_is_conflict.nd rfl (Or.inl rfl)) (pgs_cons (pg_name (i := 4) sc_l_is_conflict.nd rfl (Or.inl rfl)) (pgs_cons (pg_name (i := 5) sc_l_is_conflict.nd rfl (Or.inl rfl)) pgs_nil)))))
    (pss_cons (ps_if (PW.pt (pw_or (pt_cmpR op_ne (pe_ix (r := rIxT K) ix_tup (pv 3) pe_int (fun _ _ => rfl)) (pe_ix (r := rIxT K) ix_tup (pv 5) pe_int (fun _ _ => rfl)) (nomark _)) (pw_or (pt_cmpR op_eq (pe_ix (r := rIxT K) ix_tup (pv 4) pe_int (fun _ _ => rfl)) (pe_ix (r := rIxT K) ix_tup (pv 3) pe_int (fun _ _ => rfl)) (nomark _)) (pw_or1 (pt_not (pt_chain op_lt op_lt (pe_ix (r := rIxT K) ix_tup (pv 3) pe_int (fun _ _ => rfl)) (pe_ix (r := rIxT K) ix_tup (pv 4) pe_int (fun _ _ => rfl)) (pe_ix (r := rIxT K) ix_tup (pv 5) pe_int (fun _ _ => rfl))))))))
      (pss_one (ps_ret pe_bl))
      pss_nil)
    (pss_cons (ps_par (i := 6) (j := 7) rfl sc_l_is_conflict.nd rfl rfl (by decide) rfl rfl (pa_cons (pe_op op_sub (pe_ix (r := rIxT K) ix_tup (pv 5) pe_int (fun _ _ => rfl)) (pe_ix (r := rIxT K) ix_tup (pv 4) pe_int (fun _ _ => rfl))) (pa_cons (pe_op op_sub (pe_ix (r := rIxT K) ix_tup (pv 4) pe_int (fun _ _ => rfl)) (pe_ix (r := rIxT K) ix_tup (pv 3) pe_int (fun _ _ => rfl))) pa_nil)) rfl)
    (pss_cons (ps_if (pt_cmpR op_eq (pe_ix (r := rIxT K) ix_tup (pv 3) pe_int (fun _ _ => rfl)) pe_str (nomark _))
      (pss_cons (ps_set (i := 8) sc_l_is_conflict.nd rfl (Or.inl rfl) (pe_op op_add (pe_op op_mulW (pv 6) (pe_ix (r := rIxT K) ix_tup (pv 3) pe_int (fun _ _ => rfl))) (pe_op op_mulW (pv 7) (pe_ix (r := rIxT K) ix_tup (pv 5) pe_int (fun _ _ => rfl)))))
    (pss_one (ps_ret (pe_cmpR op_ge (pv 8) (pe_op op_mulW (pe_op op_add (pv 6) (pv 7)) (pe_op op_add (pe_ix (r := rIxT K) ix_tup (pv 4) pe_int (fun _ _ => rfl)) pe_int)) (nomark _)))))
      pss_nil)
    (pss_cons (ps_set (i := 8) sc_l_is_conflict.nd rfl (Or.inl rfl) (pe_op op_add (pe_op op_mulW (pv 6) (pe_op op_add (pe_ix (r := rIxT K) ix_tup (pv 3) pe_int (fun _ _ => rfl)) pe_int)) (pe_op op_mulW (pv 7) (pe_op op_add (pe_ix (r := rIxT K) ix_tup (pv 5) pe_int (fun _ _ => rfl)) pe_int))))
    (pss_one (ps_ret (pe_cmpR op_le (pv 8) (pe_op op_mulW (pe_op op_add (pv 6) (pv 7)) (pe_ix (r := rIxT K) ix_tup (pv 4) pe_int (fun _ _ => rfl))) (nomark _))))))))))), ?_⟩
    have ixT : ∀ {H' : Hp} {r : Addr} {d : Rec}, H' r = some (rcO d) → SqT K H' r [.str (wd d.lo), .int d.t, .int d.n] := fun e => SqT.of e
    refine ⟨_, rfl, L, rfl, ⟨_, SqL.of eL⟩, ?_⟩
    refine for_list (K := K) (a := L) (xs := xs) (fun i σ H' => ∃ (y1 y2 : Option V), σ = [some (.ref L), y1, y2, none, none, none, none, none, none] ∧ H' = H ∧ ∀ a ∈ ds.take i, ∀ b ∈ ds, ¬ PairF a b) ⟨_, _, rfl, rfl, fun a ha => (nomatch ha)⟩ ?_ ?_ ?_
    · rintro i σ H' _ ⟨_, _, _, rfl, _⟩
      exact SqL.of eL
    · rintro i v σ H' hv ⟨y1, y2, rfl, rfl, hn⟩
      obtain ⟨r, d, rfl, er, hd⟩ := hO.at hv
      refine ⟨_, rfl, L, rfl, ⟨_, SqL.of eL⟩, ?_⟩
      refine for_list (K := K) (a := L) (xs := xs) (fun j σ H'' => ∃ (y2 : Option V), σ = [some (.ref L), some (.ref r), y2, none, none, none, none, none, none] ∧ H'' = H' ∧ ∀ b ∈ ds.take j, ¬ PairF d b) ⟨_, rfl, rfl, fun a ha => (nomatch ha)⟩ ?_ ?_ ?_
      · rintro j σ H'' _ ⟨_, _, rfl, _⟩
        exact SqL.of eL
      · rintro j v σ H'' hv ⟨y2, rfl, rfl, hm⟩
        obtain ⟨r2, e, rfl, er2, he⟩ := hO.at hv
        have nx : ¬ PairF d e → ∀ b ∈ ds.take (j + 1), ¬ PairF d b := fun z b hb => by
          rw [List.take_add_one, he] at hb
          rcases List.mem_append.mp hb with hb | hb
          · exact hm b hb
          · rw [List.mem_singleton.mp hb]
            exact z
        refine ⟨_, rfl, r, _, _, _, rfl, rfl, ixT er, atI_nat (j := 0) rfl, rfl, _, rfl, ?_⟩
        rw [w_lo]
        cases hb : d.lo with
        | false => exact iteF (iteF ⟨_, rfl, rfl, nx fun z => by rw [z.1] at hb; cases hb⟩)
        | true =>
          refine iteT ⟨_, rfl, r2, _, _, _, rfl, rfl, ixT er2, atI_nat (j := 0) rfl, rfl, _, rfl, ?_⟩
          rw [w_hi]
          cases hb2 : e.lo with
          | true => exact iteF (iteF ⟨_, rfl, rfl, nx fun z => by rw [z.2.1] at hb2; cases hb2⟩)
          | false =>
            refine iteT ⟨_, rfl, r, _, _, _, rfl, rfl, ixT er, atI_nat (j := 1) rfl, _, rfl, r2, _, _, _, rfl, rfl, ixT er2, atI_nat (j := 1) rfl, _, _, rfl, rfl, _, rfl, ite2 (fun c => ?_) (fun c => ?_)⟩
            · refine ⟨_, rfl, r, _, _, _, rfl, rfl, ixT er, atI_nat (j := 2) rfl, _, rfl, r2, _, _, _, rfl, rfl, ixT er2, atI_nat (j := 2) rfl, _, _, rfl, rfl, _, rfl, ite2 (fun c2 => ?_) (fun c2 => ?_)⟩
              · exact kk true _ (LamX.ExtN.refl _) hT ⟨fun _ => pairF_cf (List.mem_of_getElem? hd) (List.mem_of_getElem? he) ⟨hb, hb2, of_decide_eq_true c, of_decide_eq_true c2⟩, fun _ => rfl⟩
              · exact ⟨_, rfl, rfl, nx fun z => c2 (decide_eq_true z.2.2.2)⟩
            · exact iteF ⟨_, rfl, rfl, nx fun z => c (decide_eq_true z.2.2.1)⟩
      · rintro σ H'' ⟨y2, rfl, rfl, hm⟩
        refine ⟨_, _, rfl, rfl, fun a ha => ?_⟩
        rw [List.take_add_one, hd] at ha
        rcases List.mem_append.mp ha with ha | ha
        · exact hn a ha
        · rw [List.mem_singleton.mp ha]
          intro b hb
          rw [List.take_of_length_le (by rw [hO.len]; exact Nat.le_refl _)] at hm
          exact hm b hb
    · rintro σ H' ⟨y1, y2, rfl, rfl, hn⟩
      rw [List.take_of_length_le (by rw [hO.len]; exact Nat.le_refl _)] at hn
      have np : NoP ds := hn
      refine ⟨_, rfl, L, _, rfl, .inl (SqL.of eL), _, _, rfl, rfl, _, rfl, ite2 (fun c => ?_) (fun c => ?_)⟩
      · have c : ((xs.length : Nat) : Int) < 3 := of_decide_eq_true c
        have lx := hO.len
        exact kk false _ (LamX.ExtN.refl _) hT ⟨fun z => (nomatch z), fun z => absurd z (nop_few np (by omega))⟩
      · have c : ¬ ((xs.length : Nat) : Int) < 3 := fun h => c (decide_eq_true h)
        have lx := hO.len
        refine ⟨_, rfl, L, xs, ds, rfl, eL, hO, by omega, hT, fun H2 us es p x2 t2 oU pm pw np2 => ?_⟩
        have le := pm.length_eq
        obtain ⟨l, m, r, rfl⟩ : ∃ l m r, es = [l, m, r] := by
          match es, (show es.length = 3 by omega) with
          | [l, m, r], _ => exact ⟨l, m, r, rfl⟩
        have z2 := sm_upd (o := .lst us) np2
        have oU := oU.same z2
        have x3 : LamX.ExtN _ (upd H2 p (.lst us)) := x2.trans (LamX.ExtN.of fun b o e => z2 _ _ e)
        have t3 := tabs_same t2 z2
        have eP := upd_same (H := H2) (a := p) (o := .lst us)
        generalize upd H2 p (.lst us) = H3 at oU x3 t3 eP ⊢
        cases oU with
        | cons el oU =>
          cases oU with
          | cons em oU =>
            cases oU with
            | cons er oU =>
              cases oU
              rename_i rl rm rr
              obtain ⟨⟨t1, tt⟩, t2', _⟩ : (l.t ≤ m.t ∧ l.t ≤ r.t) ∧ m.t ≤ r.t ∧ True := by
                have h1 := List.pairwise_cons.mp pw
                have h2 := List.pairwise_cons.mp h1.2
                exact ⟨⟨h1.1 m (by simp), h1.1 r (by simp)⟩, h2.1 r (by simp), trivial⟩
              have iff3 := nop_three np pm t1 t2'
              have bl := bd l (pm.mem_iff.mp (by simp))
              have bm := bd m (pm.mem_iff.mp (by simp))
              have br := bd r (pm.mem_iff.mp (by simp))
              have b1 : Bd k (1 : Int) := Bd.small 1 (by decide) k0
              refine ⟨p, _, rfl, SqL.of eP, rfl, _, _, rfl, _, _, rfl, _, _, rfl, rfl, ?_⟩
              refine ⟨_, rfl, rl, _, _, _, rfl, rfl, ixT el, atI_nat (j := 0) rfl, _, rfl, rr, _, _, _, rfl, rfl, ixT er, atI_nat (j := 0) rfl, rfl, _, rfl, ?_⟩
              rw [wd_eq]
              have nof : (Form3 l m r → False) → Q (.bl false) H3 := fun z => kk false _ x3 t3 ⟨fun z => (nomatch z), fun c => (z (iff3.mp c)).elim⟩
              by_cases g1 : l.lo = r.lo
              · rw [decide_eq_true g1]
                refine iteF ⟨_, rfl, rm, _, _, _, rfl, rfl, ixT em, atI_nat (j := 0) rfl, _, rfl, rl, _, _, _, rfl, rfl, ixT el, atI_nat (j := 0) rfl, rfl, _, rfl, ?_⟩
                rw [wd_eq]
                by_cases g2 : m.lo = l.lo
                · rw [decide_eq_true g2]
                  exact iteT (iteT (nof fun z => z.2.1 g2))
                · rw [decide_eq_false g2]
                  refine iteF ⟨_, rfl, rl, _, _, _, rfl, rfl, ixT el, atI_nat (j := 1) rfl, _, rfl, rm, _, _, _, rfl, rfl, ixT em, atI_nat (j := 1) rfl, _, _, rfl, rfl, _, rfl, ite2 (fun c1 => ?_) (fun c1 => ?_)⟩
                  · have c1 : l.t < m.t := of_decide_eq_true c1
                    refine ⟨_, rfl, rr, _, _, _, rfl, rfl, ixT er, atI_nat (j := 1) rfl, _, _, rfl, rfl, _, rfl, ?_⟩
                    by_cases c2 : m.t < r.t
                    · refine iteFz (by rw [decide_eq_true c2]; rfl) ?_
                      refine ⟨_, rfl, rr, _, _, _, rfl, rfl, ixT er, atI_nat (j := 1) rfl, _, rfl, rm, _, _, _, rfl, rfl, ixT em, atI_nat (j := 1) rfl, _, _, rfl, rfl, _, rfl, rm, _, _, _, rfl, rfl, ixT em, atI_nat (j := 1) rfl, _, rfl, rl, _, _, _, rfl, rfl, ixT el, atI_nat (j := 1) rfl, _, _, rfl, rfl, _, _, rfl, ?_⟩
                      refine ⟨_, rfl, rl, _, _, _, rfl, rfl, ixT el, atI_nat (j := 0) rfl, rfl, _, rfl, ?_⟩
                      rw [w_lo]
                      have ah : Bd (k + 1) (r.t - m.t) := Bd.sub br.1 bm.1
                      have be : Bd (k + 1) (m.t - l.t) := Bd.sub bm.1 bl.1
                      have sm : Bd (k + 2) ((r.t - m.t) + (m.t - l.t)) := Bd.add ah be
                      have l1 : Bd (k + 1) (l.n + 1) := Bd.add bl.2 b1
                      have m1 : Bd (k + 1) (m.n + 1) := Bd.add bm.2 b1
                      have r1 : Bd (k + 1) (r.n + 1) := Bd.add br.2 b1
                      cases hb : l.lo with
                      | true =>
                        refine iteT ⟨_, rfl, _, rfl, rl, _, _, _, rfl, rfl, ixT el, atI_nat (j := 2) rfl, _, _, rfl, rfl, mulW ah bl.2 (by omega) (by omega) (by omega), _, rfl, _, rfl, rr, _, _, _, rfl, rfl, ixT er, atI_nat (j := 2) rfl, _, _, rfl, rfl, mulW be br.2 (by omega) (by omega) (by omega), _, _, rfl, rfl, ?_⟩
                        refine ⟨_, rfl, _, rfl, _, rfl, _, _, rfl, rfl, _, rfl, rm, _, _, _, rfl, rfl, ixT em, atI_nat (j := 2) rfl, _, _, rfl, rfl, _, _, rfl, rfl, mulW sm m1 (by omega) (by omega) (by omega), _, _, rfl, rfl, ?_⟩
                        refine kk _ _ x3 t3 ?_
                        rw [iff3, decide_eq_true_iff]
                        constructor
                        · exact fun z => ⟨g1, g2, c1, c2, by rw [if_pos hb]; exact z⟩
                        · intro z
                          have z := z.2.2.2.2
                          rw [if_pos hb] at z
                          exact z
                      | false =>
                        refine iteF ⟨_, rfl, _, rfl, rl, _, _, _, rfl, rfl, ixT el, atI_nat (j := 2) rfl, _, _, rfl, rfl, _, _, rfl, rfl, mulW ah l1 (by omega) (by omega) (by omega), _, rfl, _, rfl, rr, _, _, _, rfl, rfl, ixT er, atI_nat (j := 2) rfl, _, _, rfl, rfl, _, _, rfl, rfl, mulW be r1 (by omega) (by omega) (by omega), _, _, rfl, rfl, ?_⟩
                        refine ⟨_, rfl, _, rfl, _, rfl, _, _, rfl, rfl, _, rfl, rm, _, _, _, rfl, rfl, ixT em, atI_nat (j := 2) rfl, _, _, rfl, rfl, mulW sm bm.2 (by omega) (by omega) (by omega), _, _, rfl, rfl, ?_⟩
                        refine kk _ _ x3 t3 ?_
                        rw [iff3, decide_eq_true_iff]
                        constructor
                        · exact fun z => ⟨g1, g2, c1, c2, by rw [if_neg (by rw [hb]; decide)]; exact z⟩
                        · intro z
                          have z := z.2.2.2.2
                          rw [if_neg (by rw [hb]; decide)] at z
                          exact z
                    · exact iteTs (by rw [decide_eq_false c2]; rfl) (nof fun z => c2 z.2.2.2.1)
                  · exact ⟨_, rfl, iteT (nof fun z => c1 (decide_eq_true z.2.2.1))⟩
              · rw [decide_eq_false g1]
                exact iteT (iteT (nof fun z => g1 z.1))
end
end Lf
namespace Lf
open PySem PySem.Spec PyProof.Rows L2
/-! ### a value that may be a list of indexes -/
theorem kll : kitB "list" "list" = some true := by decide +kernel
/-- plain items -/
inductive Sm : V → PyData → Prop
  | non : Sm .non .none
  | bl (b : Bool) : Sm (.bl b) (.bool b)
  | int (i : Int) : Sm (.int i) (.int i)
  | str (x : Str) : PyData.strOk x = true → Sm (.str x) (.str x)
theorem Sm.dv {H : Hp} {v : V} {d : PyData} (h : Sm v d) : Dv H v d := by
  cases h
  · exact .non
  · exact .bl _
  · exact .int _
  · exact .str _
inductive SmAll : List V → List PyData → Prop
  | nil : SmAll [] []
  | cons {v : V} {vs : List V} {d : PyData} {ds : List PyData} : Sm v d → SmAll vs ds → SmAll (v :: vs) (d :: ds)
theorem SmAll.len {vs : List V} {ds : List PyData} (h : SmAll vs ds) : vs.length = ds.length := by
  induction h with
  | nil => rfl
  | cons _ _ ih => rw [List.length_cons, List.length_cons, ih]
theorem SmAll.at {vs : List V} {ds : List PyData} (h : SmAll vs ds) : ∀ {i : Nat} {x : V}, vs[i]? = some x → ∃ d, ds[i]? = some d ∧ Sm x d := by
  induction h with
  | nil =>
    intro i x e
    cases e
  | cons h0 _ ih =>
    intro i x e
    cases i with
    | zero =>
      cases e
      exact ⟨_, rfl, h0⟩
    | succ i => exact ih e
theorem SmAll.snoc {vs : List V} {ds : List PyData} {v : V} {d : PyData} (h : SmAll vs ds) (g : Sm v d) : SmAll (vs ++ [v]) (ds ++ [d]) := by
  induction h with
  | nil => exact .cons g .nil
  | cons h0 _ ih => exact .cons h0 ih
theorem SmAll.ints : ∀ ns : List Int, SmAll (ns.map V.int) (ns.map PyData.int)
  | [] => .nil
  | _ :: r => .cons (.int _) (SmAll.ints r)
theorem SmAll.dp {K : PySem.W.Frag} {H : Hp} {vs : List V} {ds : List PyData} (h : SmAll vs ds) : DpAll K H vs ds := by
  induction h with
  | nil => exact .nil
  | cons h0 _ ih =>
    refine .cons ?_ ih
    cases h0
    · exact .non
    · exact .bl _
    · exact .int _
    · exact .str _
theorem SmAll.dvF {H : Hp} {vs : List V} {ds : List PyData} (h : SmAll vs ds) : DvFAll H vs ds := by
  induction h with
  | nil => exact .nil
  | cons h0 _ ih =>
    refine .cons ?_ ih
    cases h0
    · exact .non
    · exact .bl _
    · exact .int _
    · exact .str _
/-- of ints, the values are ints -/
theorem SmAll.of_ints {vs : List V} : ∀ {ns : List Int}, SmAll vs (ns.map PyData.int) → vs = ns.map V.int := by
  induction vs with
  | nil =>
    intro ns h
    cases ns with
    | nil => rfl
    | cons n r => cases h
  | cons v vs ih =>
    intro ns h
    cases ns with
    | nil => cases h
    | cons n r =>
      cases h with
      | cons h0 h1 =>
        cases h0
        rw [ih h1]
        rfl
abbrev dI : List (Key × V) := [(Sum.inl 0, .int 1), (Sum.inl 1, .int 2)]
def sqD : Bool → List PyData → PyData
  | true, ds => .list ds
  | false, ds => .tuple ds
inductive IxV (H : Hp) : V → PyData → Prop
  | sm {v : V} {d : PyData} : Sm v d → IxV H v d
  | dk0 {a : Addr} : H a = some (.dK []) → IxV H (.ref a) (.dict [])
  | dk2 {a : Addr} : H a = some (.dK dI) → IxV H (.ref a) (.dict [(.int 0, .int 1), (.int 1, .int 2)])
  | sq {a : Addr} {kb : Bool} {xs : List V} {ds : List PyData} : H a = some (sqO kb xs) → SmAll xs ds → ds.length ≤ 60 → IxV H (.ref a) (sqD kb ds)
/-- what such values lean on stays -/
structure Kq (H H' : Hp) : Prop where
  k : Kp H H'
  d : ∀ a, H a = some (.dK dI) → H' a = some (.dK dI)
theorem Kq.fr {H H' : Hp} (f : Fr H H') : Kq H H' := ⟨f.kp, fun a h => f.k _ _ h fun x z => by
  have := HO.dK.inj z
  simp [penD] at this⟩
theorem Kq.same {H H' : Hp} (s : Same H H') : Kq H H' := Kq.fr (Fr.same s)
theorem Kq.ext {H H' : Hp} (x : LamX.ExtN H H') : Kq H H' := ⟨ext_kp x, fun a h => x _ _ h (fun _ z => by cases z)⟩
theorem IxV.kp {H H' : Hp} {v : V} {d : PyData} (h : IxV H v d) (k : Kq H H') : IxV H' v d := by
  cases h with
  | sm h => exact .sm h
  | dk0 h => exact .dk0 (k.k.d0 _ h)
  | dk2 h => exact .dk2 (k.d _ h)
  | sq h g l => exact .sq (sq_kp k.k h) g l
theorem IxV.ty {K : PySem.W.Frag} {H : Hp} {v : V} {d : PyData} (h : IxV H v d) : TyX K H v (.type (tyN d)) := by
  cases h with
  | sm h => exact h.dv.ty
  | dk0 h => exact .base (.dK h)
  | dk2 h => exact .base (.dK h)
  | @sq a kb xs ds h g =>
    cases kb
    · exact .base (.tup h)
    · exact .base (.lst h)
/-- ints above l, ascending, below n -/
def asc (l n : Int) : List PyData → Bool
  | [] => true
  | .int i :: r => decide (l < i) && decide (i < n) && asc i n r
  | _ :: _ => false
theorem asc_iff {n : Int} : ∀ {ds : List PyData} {l : Int}, asc l n ds = true ↔ ∃ is : List Int, ds = is.map PyData.int ∧ is.Pairwise (· < ·) ∧ ∀ i ∈ is, l < i ∧ i < n
  | [], l => ⟨fun _ => ⟨[], rfl, .nil, fun _ h => (nomatch h)⟩, fun _ => rfl⟩
  | .int i :: r, l => by
    show (decide (l < i) && decide (i < n) && asc i n r) = true ↔ _
    rw [Bool.and_eq_true, Bool.and_eq_true, decide_eq_true_iff, decide_eq_true_iff, asc_iff (ds := r) (l := i)]
    constructor
    · rintro ⟨⟨h1, h2⟩, is, rfl, p, b⟩
      refine ⟨i :: is, rfl, List.pairwise_cons.mpr ⟨fun x hx => (b x hx).1, p⟩, fun x hx => ?_⟩
      rcases List.mem_cons.mp hx with rfl | hx
      · exact ⟨h1, h2⟩
      · have := b x hx
        exact ⟨by omega, this.2⟩
    · rintro ⟨is, e, p, b⟩
      cases is with
      | nil => cases e
      | cons j js =>
        have e := List.cons.inj e
        cases e.1
        obtain ⟨p1, p2⟩ := List.pairwise_cons.mp p
        have := b i List.mem_cons_self
        exact ⟨this, js, e.2, p2, fun x hx => ⟨p1 x hx, (b x (List.mem_cons_of_mem _ hx)).2⟩⟩
  | .none :: r, l => ⟨fun h => (by cases h), fun ⟨is, e, _⟩ => (by cases is <;> cases e)⟩
  | .bool _ :: r, l => ⟨fun h => (by cases h), fun ⟨is, e, _⟩ => (by cases is <;> cases e)⟩
  | .str _ :: r, l => ⟨fun h => (by cases h), fun ⟨is, e, _⟩ => (by cases is <;> cases e)⟩
  | .list _ :: r, l => ⟨fun h => (by cases h), fun ⟨is, e, _⟩ => (by cases is <;> cases e)⟩
  | .tuple _ :: r, l => ⟨fun h => (by cases h), fun ⟨is, e, _⟩ => (by cases is <;> cases e)⟩
  | .dict _ :: r, l => ⟨fun h => (by cases h), fun ⟨is, e, _⟩ => (by cases is <;> cases e)⟩
/-- ascending indexes below n -/
def ixP (n : Nat) (d : PyData) : Prop := ∃ (kb : Bool) (js : List Nat), d = sqD kb ((ni js).map PyData.int) ∧ js.Pairwise (· < ·) ∧ ∀ j ∈ js, j < n
theorem sqD_inj {kb kc : Bool} {ds es : List PyData} (h : sqD kb ds = sqD kc es) : ds = es := by
  cases kb <;> cases kc
  · exact PyData.tuple.inj h
  · cases h
  · cases h
  · exact PyData.list.inj h
theorem ix_asc {n : Nat} {kb : Bool} {ds : List PyData} : asc (-1) n ds = true ↔ ixP n (sqD kb ds) := by
  rw [asc_iff]
  constructor
  · rintro ⟨is, rfl, p, b⟩
    obtain ⟨js, rfl, up, lt⟩ := ni_of (n := n) p fun x hx => by
      have := b x hx
      exact ⟨x.toNat, by omega, by omega⟩
    exact ⟨kb, js, rfl, up, lt⟩
  · rintro ⟨kc, js, e, up, lt⟩
    have e := sqD_inj e
    refine ⟨ni js, e, ?_, fun i hi => ?_⟩
    · unfold ni
      rw [List.pairwise_map]
      exact up.imp fun h => by omega
    · obtain ⟨j, hj, rfl⟩ := ni_mem.mp hi
      have := lt j hj
      omega
/-- they show a conflict -/
def cfP (ds : List Rec) (d : PyData) : Prop := ∃ (kb : Bool) (js : List Nat), d = sqD kb ((ni js).map PyData.int) ∧ js.Pairwise (· < ·) ∧ (∀ j ∈ js, j < ds.length) ∧ 2 ≤ js.length ∧ js.length ≤ 3 ∧ Cf (pk ds js)
theorem not_lt_ix {n : Nat} {d : PyData} (h : isLT d = false) : ¬ ixP n d := by
  rintro ⟨kb, js, rfl, _⟩
  cases kb <;> cases h
theorem cf_ix {ds : List Rec} {d : PyData} (h : cfP ds d) : ixP ds.length d := by
  obtain ⟨kb, js, e, up, lt, _⟩ := h
  exact ⟨kb, js, e, up, lt⟩
theorem ints_inj {is js : List Int} (h : is.map PyData.int = js.map PyData.int) : is = js := by
  induction is generalizing js with
  | nil =>
    cases js with
    | nil => rfl
    | cons _ _ => cases h
  | cons i r ih =>
    cases js with
    | nil => cases h
    | cons j q =>
      have h := List.cons.inj h
      cases h.1
      rw [ih h.2]
theorem ni_inj {is js : List Nat} (h : ni is = ni js) : is = js := by
  unfold ni at h
  induction is generalizing js with
  | nil =>
    cases js with
    | nil => rfl
    | cons _ _ => cases h
  | cons i r ih =>
    cases js with
    | nil => cases h
    | cons j q =>
      have h := List.cons.inj h
      have hh : (i : Int) = (j : Int) := h.1
      rw [ih h.2, show i = j by omega]
theorem nin23 {n : Nat} (h : ¬ (2 ≤ n ∧ n ≤ 3)) : inV (.int ((n : Nat) : Int)) [.int 2, .int 3] = false := by
  show inV (V.int (n : Int)) (([2, 3] : List Int).map V.int) = false
  rw [inV_ints]
  refine decide_eq_false fun z => ?_
  simp only [List.mem_cons, List.not_mem_nil, or_false] at z
  omega
theorem ixv_sq {H : Hp} {v : V} {kc : Bool} {is : List Int} (h : IxV H v (sqD kc (is.map PyData.int))) : ∃ J, v = .ref J ∧ H J = some (sqO kc (is.map V.int)) := by
  generalize e : sqD kc (is.map PyData.int) = d at h
  cases h with
  | sm h => cases kc <;> cases h <;> cases e
  | dk0 _ => cases kc <;> cases e
  | dk2 _ => cases kc <;> cases e
  | @sq a kb xs ds ea sm _ =>
    have ek : kc = kb := by cases kc <;> cases kb <;> first | rfl | cases e
    subst ek
    have e := sqD_inj e
    subst e
    rw [sm.of_ints] at ea
    exact ⟨a, rfl, ea⟩
/-! ### set of a list or a tuple of ints -/
def rSetB (K : PySem.W.Frag) (w : World) : List V → Hp → VK → Prop := fun xs H Q => ∃ (a : Addr) (kb : Bool) (ns : List Int), xs = [.ref a] ∧ SqB K kb H a (ns.map V.int) ∧ ns.length ≤ 1000 ∧ ∀ p c, H p = none → c ≤ ns.length → Q (.ref p) (upd H p (SetO w p (fun j => decide (j ∈ ns)) c))
theorem cr_setB {X : Cx} (hc : X.calm = true) : CallR X (.type "set") (rSetB X.K X.w) := by
  intro pins s σ H xs us Q I r h
  obtain ⟨a, kb, ns, e, hs, hl, q⟩ := h
  cases kb with
  | true => exact cr_setL hc pins s σ H xs us Q I r ⟨a, ns, e, hs, hl, q⟩
  | false =>
    subst e
    rw [Vals.ref1 r]
    obtain ⟨its, rv, pl, hz⟩ := I.tuple hs
    refine call_set_tupI ns (I.ok.hd hc) pl (ints_of_vals rv) (by unfold scanBound; omega) fun g t c R cl kp => ?_
    exact ⟨.ref _, _, I.laid (t' := t) kp (Nat.le_refl _) (setO_new R), rfl, q _ c (I.hok.fresh (Nat.le_refl _)) cl⟩
end Lf
namespace Lf
open PySem PySem.Spec PyProof.Rows L2
/-- lists of ints, equal or not -/
theorem eqv_ints : ∀ (ns ms : List Int), PyData.eqvAll (ns.map PyData.int) (ms.map PyData.int) = decide (ns = ms)
  | [], [] => rfl
  | [], _ :: _ => rfl
  | _ :: _, [] => rfl
  | n :: ns, m :: ms => by
    show PyData.eqvAll (PyData.int n :: ns.map PyData.int) (PyData.int m :: ms.map PyData.int) = _
    rw [PyData.eqvAll, eqv_ints ns ms]
    have e : PyData.eqv (.int n) (.int m) = decide (n = m) := by
      by_cases h : n = m <;> simp [PyData.eqv, h]
    rw [e]
    by_cases h1 : n = m <;> by_cases h2 : ns = ms <;> simp [h1, h2]
theorem eqv_lists (ns ms : List Int) : PyData.eqv (.list (ns.map PyData.int)) (.list (ms.map PyData.int)) = decide (ns = ms) := by
  rw [← eqv_ints]
  simp [PyData.eqv]
/-! ### repr -/
def Sho (d : PyData) : Prop := d.showable = true ∧ d.depth ≤ 60 ∧ d.shown.length ≤ sizeLine
theorem filtG {α : Type} {f : α → Bool} {ds : List α} {i : Nat} {d : α} (e : ds[i]? = some d) : (ds.take (i + 1)).filter f = (ds.take i).filter f ++ (if f d = true then [d] else []) := by
  rw [List.take_add_one, e, List.filter_append]
  congr 1
  show List.filter f [d] = _
  rw [List.filter_cons]
  rfl
theorem srt_ext {a b : List Int} (ha : a.Pairwise (· < ·)) (hb : b.Pairwise (· < ·)) (h : ∀ x, x ∈ b ↔ x ∈ a) : a = b := by
  have na : a.Nodup := ha.imp fun z => Int.ne_of_lt z
  have nb : b.Nodup := hb.imp fun z => Int.ne_of_lt z
  have p : a.Perm b := (List.perm_ext_iff_of_nodup na nb).mpr fun x => (h x).symm
  exact List.Perm.eq_of_pairwise (fun _ _ _ _ h1 h2 => absurd (Int.lt_trans h1 h2) (Int.lt_irrefl _)) ha hb p
def goodI (n : Nat) : PyData → Bool
  | .int i => decide (0 ≤ i) && decide (i < (n : Int))
  | _ => false
theorem good_ints {n : Nat} : ∀ {ds : List PyData}, ds.filter (fun d => !goodI n d) = [] → ∃ is : List Int, ds = is.map PyData.int ∧ ∀ i ∈ is, 0 ≤ i ∧ i < (n : Int)
  | [], _ => ⟨[], rfl, fun _ h => (nomatch h)⟩
  | d :: r, h => by
    rw [List.filter_cons] at h
    cases g : goodI n d with
    | false =>
      rw [g] at h
      simp at h
    | true =>
      rw [g] at h
      obtain ⟨is, e, b⟩ := good_ints (n := n) (ds := r) (by simpa using h)
      cases d with
      | int i =>
        have g : (decide (0 ≤ i) && decide (i < (n : Int))) = true := g
        rw [Bool.and_eq_true, decide_eq_true_iff, decide_eq_true_iff] at g
        refine ⟨i :: is, by rw [e]; rfl, fun x hx => ?_⟩
        rcases List.mem_cons.mp hx with rfl | hx
        · exact g
        · exact b x hx
      | _ => cases g
theorem bad_ix {n : Nat} {kb : Bool} {ds : List PyData} (h : ds.filter (fun d => !goodI n d) ≠ []) : ¬ ixP n (sqD kb ds) := by
  rintro ⟨kc, js, e, up, lt⟩
  have e := sqD_inj e
  apply h
  rw [List.filter_eq_nil_iff]
  intro d hd
  rw [e] at hd
  obtain ⟨i, hi, rfl⟩ := List.mem_map.mp hd
  obtain ⟨j, hj, rfl⟩ := ni_mem.mp hi
  have := lt j hj
  show ¬ (!(decide (0 ≤ ((j : Nat) : Int)) && decide (((j : Nat) : Int) < (n : Int)))) = true
  simp
  omega
end Lf
namespace Lf
open PySem PySem.Spec PyProof.Rows L2
/-! ### the program's look at any value -/
theorem dva_at {H : Hp} {vs : List V} {ds : List PyData} (h : DvAll H vs ds) : ∀ {i : Nat} {x : V}, vs[i]? = some x → ∃ d, ds[i]? = some d ∧ Dv H x d := by
  intro i x hx
  induction i generalizing vs ds with
  | zero =>
    cases h with
    | nil => cases hx
    | cons g _ =>
      cases hx
      exact ⟨_, rfl, g⟩
  | succ i ih =>
    cases h with
    | nil => cases hx
    | cons _ g => exact ih g hx
theorem dva_len9 {H : Hp} {vs : List V} {ds : List PyData} (h : DvAll H vs ds) : vs.length = ds.length := by
  induction vs generalizing ds with
  | nil =>
    cases h
    rfl
  | cons v vs ih =>
    cases h with
    | cons _ g => rw [List.length_cons, List.length_cons, ih g]
theorem dv_sq {H : Hp} {v : V} {d : PyData} (h : Dv H v d) (e : isLT d = true) : ∃ (a : Addr) (kb : Bool) (xs : List V) (es : List PyData), v = .ref a ∧ d = sqD kb es ∧ H a = some (sqO kb xs) ∧ DvAll H xs es := by
  cases h with
  | lst _ g hs => exact ⟨_, true, _, _, rfl, rfl, g, hs⟩
  | tup g hs => exact ⟨_, false, _, _, rfl, rfl, g, hs⟩
  | _ => cases e
theorem dva_ints {H : Hp} : ∀ {ns : List Int} {vs : List V}, DvAll H vs (ns.map PyData.int) → vs = ns.map V.int
  | [], _, h => by
    cases h
    rfl
  | n :: r, _, h => by
    cases h with
    | cons h0 h1 =>
      cases h0
      rw [dva_ints h1]
      rfl
theorem dv_ints {H : Hp} {v : V} {kc : Bool} {is : List Int} (h : Dv H v (sqD kc (is.map PyData.int))) : ∃ J, v = .ref J ∧ H J = some (sqO kc (is.map V.int)) := by
  obtain ⟨a, kb, xs, es, rfl, e, ea, hs⟩ := dv_sq h (by cases kc <;> rfl)
  have ek : kc = kb := by cases kc <;> cases kb <;> first | rfl | cases e
  subst ek
  have e := sqD_inj e
  subst e
  rw [dva_ints hs] at ea
  exact ⟨a, rfl, ea⟩
section
variable {P : Program} {w : World} {K : PySem.W.Frag} {mg : Str → Option Value} {base : Heap} {TS : List (Addr × Str)}
def spAreIxD : Sp := fun vs H Q _ => ∃ (v : V) (d : PyData) (n : Nat), vs = [v, .int ((n : Nat) : Int)] ∧ Dv H v d ∧ ∀ b H', Same H H' → (b = true ↔ ixP n d) → Q (.bl b) H'
theorem okA_are_indexes (D : Df K mg "are_indexes" s_are_indexes P_are_indexes) (B : Bi mg) (cA_is_integer : C8.Cal P w K mg base 1 "is_integer" spIsAny []) : C8.Cal P w K mg base 2 "are_indexes" spAreIxD [] := by
  refine cal_of D sc_are_indexes (fun vs H Q E h => ?_) (fun f cdv A outer s H vs Q E hr h => ?_)
  · obtain ⟨v, d, n, rfl, _⟩ := h
    rfl
  · obtain ⟨v, d, n, rfl, hv, kk⟩ := h
    have c_is_integer := cA_is_integer
    refine ⟨_, (pss_cons (ps_if (pt_not (pt_val (pe_callB (call_isiT) (by rfl) B.isinstance_ bt_isinstance (pa_cons (pv 0) (pa_cons (pe_tup (pa_cons (pe_bltn (v := .ty "list") (by rfl) B.list_ bt_list rfl) (pa_cons (pe_bltn (v := .ty "tuple") (by rfl) B.tuple_ bt_tuple rfl) pa_nil))) pa_nil)))))
      (pss_one (ps_ret pe_bl))
      pss_nil)
    (pss_cons (ps_set (i := 2) sc_are_indexes.nd rfl (Or.inl rfl) (pe_un un_neg pe_int))
    (pss_cons (ps_for PassesOwn.never rfl (pi_seq (pv 0)) (pg_name (i := 3) sc_are_indexes.nd rfl (Or.inl rfl))
      (pss_cons (ps_if (PW.pt (pw_or (pt_not (pt_val (C8.pe_c c_is_integer hr (by decide) (by rfl) (pa_cons (pv 3) pa_nil)))) (pw_or1 (pt_not (pt_chain op_lt op_lt (pv 2) (pv 3) (pv 1))))))
      (pss_one (ps_ret pe_bl))
      pss_nil)
    (pss_one (ps_set (i := 2) sc_are_indexes.nd rfl (Or.inl rfl) (pv 3)))))
    (pss_one (ps_ret pe_bl))))), ?_⟩
    refine ⟨_, rfl, len10 (by simp), fun tp ntp => ?_⟩
    have s1 := sm_upd (o := .tup [.ty "list", .ty "tuple"]) ntp
    have hv1 := Dv.kp (Fr.same s1).kp _ _ hv
    refine ⟨_, tp, _, _, _, isLT d, rfl, upd_same, .cons (.ty "list") (.cons (.ty "tuple") .nil), hv1.ty, kit_ltD d, isLT d, rfl, ?_⟩
    generalize upd H tp (.tup [.ty "list", .ty "tuple"]) = H1 at s1 hv1 ⊢
    cases hlt : isLT d with
    | false => exact iteT (kk false _ s1 ⟨fun z => (nomatch z), fun z => absurd z (not_lt_ix hlt)⟩)
    | true =>
      refine iteF ⟨1, rfl, ?_⟩
      obtain ⟨a, kb, xs, ds, rfl, rfl, ea, sm⟩ := dv_sq hv1 hlt
      refine ⟨_, rfl, a, kb, xs, rfl, SqB.of ea, ?_⟩
      refine for_it (walk_seq (K := K) (b := kb) (a := a) (xs := xs)) (fun i σ H' => ∃ (la : Int) (y : Option V), σ = [some (.ref a), some (.int ((n : Nat) : Int)), some (.int la), y] ∧ Same H1 H' ∧ asc (-1) n ds = asc la n (ds.drop i)) ⟨-1, _, rfl, Same.refl _, rfl⟩ ?_ ?_ ?_
      · rintro i σ H' _ ⟨_, _, _, s', _⟩
        exact SqB.of (sq_kp (Fr.same s').kp (ea))
      · rintro i v σ H2 H3 hi ⟨la, y, rfl, s2, ha⟩ ⟨rfl, hx⟩
        obtain ⟨dd, hd, hs⟩ := dva_at sm hx
        have hs := Dv.kp (Fr.same s2).kp _ _ hs
        have hdrop : ds.drop i = dd :: ds.drop (i + 1) := by
          obtain ⟨h1, h2⟩ := List.getElem?_eq_some_iff.mp hd
          rw [List.drop_eq_getElem_cons h1, h2]
        refine ⟨_, rfl, v, dd, rfl, hs, isI dd, rfl, ?_⟩
        cases hs with
        | int z =>
          refine iteF ?_
          refine ⟨_, rfl, _, rfl, _, _, rfl, rfl, _, rfl, ite2 (fun c => ?_) (fun c => ?_)⟩
          · have c : la < z := of_decide_eq_true c
            refine ⟨_, rfl, _, _, rfl, rfl, _, rfl, ?_⟩
            by_cases c2 : z < (n : Int)
            · refine iteNS c2 ⟨_, rfl, z, _, rfl, s2, ?_⟩
              rw [ha, hdrop]
              show (decide (la < z) && decide (z < (n : Int)) && asc z n (ds.drop (i + 1))) = _
              rw [decide_eq_true c, decide_eq_true c2]
              rfl
            · refine iteTs (by rw [decide_eq_false c2]; rfl) (kk false _ (s1.trans s2) ⟨fun z => (nomatch z), fun z => ?_⟩)
              have z := ix_asc.mpr z
              rw [ha, hdrop] at z
              have z : (decide (la < _) && decide (_ < (n : Int)) && asc _ n (ds.drop (i + 1))) = true := z
              rw [decide_eq_false c2, Bool.and_false, Bool.false_and] at z
              cases z
          · refine ⟨_, rfl, iteT (kk false _ (s1.trans s2) ⟨fun z => (nomatch z), fun z => ?_⟩)⟩
            have z := ix_asc.mpr z
            rw [ha, hdrop] at z
            have z : (decide (la < _) && decide (_ < (n : Int)) && asc _ n (ds.drop (i + 1))) = true := z
            rw [Bool.and_eq_true, Bool.and_eq_true] at z
            exact absurd z.1.1 c
        | _ =>
          refine iteT (iteT (kk false _ (s1.trans s2) ⟨fun z => (nomatch z), fun z => ?_⟩))
          have z := ix_asc.mpr z
          rw [ha, hdrop] at z
          cases z
      · rintro σ H2 ⟨la, y, rfl, s2, ha⟩
        refine kk true _ (s1.trans s2) ⟨fun _ => ix_asc.mp ?_, fun _ => rfl⟩
        rw [ha, List.drop_eq_nil_of_le (by rw [dva_len9 sm]; exact Nat.le_refl _)]
        rfl
/-! ### shows_conflict -/
def spShowsD (m : Nat) : Sp := fun vs H Q _ => ∃ (L : Addr) (v : V) (d : PyData) (kb : Bool) (xs : List V) (ds : List Rec) (k : Nat), vs = [.ref L, v] ∧ H L = some (sqO kb xs) ∧ Obs rcO H xs ds ∧ ds.length ≤ m ∧ RcB k ds ∧ 0 < k ∧ k ≤ 8000 ∧ Dv H v d ∧
  ∀ b H', Same H H' → (b = true ↔ cfP ds d) → Q (.bl b) H'
theorem okA_shows_conflict (D : Df K mg "shows_conflict" s_shows_conflict P_shows_conflict) (B : Bi mg) (cA_are_indexes : C8.Cal P w K mg base 2 "are_indexes" spAreIxD []) (c_rate_ends : C8.Cal P w K mg base 3 "rate_ends" (spRateEndsS 1000) []) : C8.Cal P w K mg base 4 "shows_conflict" (spShowsD 1000) [] := by
  refine cal_of D sc_shows_conflict (fun vs H Q E h => ?_) (fun f cdv A outer s H vs Q E hr h => ?_)
  · obtain ⟨L, v, d, kb, xs, ds, k, rfl, _⟩ := h
    rfl
  · obtain ⟨L, v, d, kb, xs, ds, k, rfl, eL, hO, hl, bd, k0, k1, hv, kk⟩ := h
    have c_are_indexes := cA_are_indexes
    refine ⟨_, (pss_cons (ps_if (PW.pt (pw_or (pt_not (pt_val (C8.pe_c c_are_indexes hr (by decide) (by rfl) (pa_cons (pv 1) (pa_cons (pe_callB (call_len_seq) (by rfl) B.len_ bt_len (pa_cons (pv 0) pa_nil)) pa_nil))))) (pw_or1 (pt_cmpR op_notIn_seq (pe_callB (call_len_seq) (by rfl) B.len_ bt_len (pa_cons (pv 1) pa_nil)) (pe_tup (pa_cons pe_int (pa_cons pe_int pa_nil))) rfl))))
      (pss_one (ps_ret pe_bl))
      pss_nil)
    (pss_one (ps_ret (pe_cmpR op_isN (C8.pe_c c_rate_ends hr (by decide) (by rfl) (pa_cons (pe_lc (own := [("index", 2)]) (g := (gName 2)) (by rfl) sc_shows_conflict.nd (pi_seq (pv 1)) (blkOk_by (own := [("index", 2)]) (N := N_shows_conflict) (sc := defScope s_shows_conflict) (by decide +kernel)) (fun _ _ _ _ _ => (pg_name (i := 2) sc_shows_conflict.nd rfl (Or.inl rfl))) (fun _ _ _ _ _ => pts_nil) (fun _ _ _ _ _ => (pe_ix (r := rIxB K) ix_B (pv 0) (pv 2) (fun _ _ => rfl)))) pa_nil)) pe_non (nomark _))))), ?_⟩
    refine ⟨_, rfl, _, rfl, L, _, rfl, (SqB.of eL).or, v, d, ds.length, by rw [hO.len]; rfl, hv, fun b H1 s1 hb => ⟨b, rfl, ?_⟩⟩
    cases b with
    | false => exact iteT (iteT (kk false _ s1 ⟨fun z => (nomatch z), fun z => Bool.noConfusion (hb.mpr (cf_ix z))⟩))
    | true =>
      refine iteF ?_
      obtain ⟨kc, js, rfl, up, lt⟩ := hb.mp rfl
      have hv1 := Dv.kp (Fr.same s1).kp _ _ hv
      have eL := s1 _ _ eL
      have hO := hO.same s1
      obtain ⟨J, rfl, eJ⟩ : ∃ J, v = .ref J ∧ H1 J = some (sqO kc ((ni js).map V.int)) := dv_ints hv1
      have uniq : ∀ {P : Prop}, (cfP ds (sqD kc ((ni js).map PyData.int)) → P) ↔ (2 ≤ js.length → js.length ≤ 3 → Cf (pk ds js) → P) := fun {P} => ⟨fun h a b c => h ⟨kc, js, rfl, up, lt, a, b, c⟩, fun h ⟨kb', js', e, _, _, a, b, c⟩ => by
        have e := ni_inj (ints_inj (sqD_inj e))
        subst e
        exact h a b c⟩
      have lj : ((ni js).map V.int).length = js.length := by rw [List.length_map, ni_len]
      refine ⟨_, rfl, J, _, rfl, (SqB.of eJ).or, len10 (by simp), fun p np => ?_⟩
      have z1 := sm_upd (o := .tup [.int 2, .int 3]) np
      refine ⟨p, _, rfl, .inr (SqT.of upd_same), rfl, rfl, _, rfl, ?_⟩
      have eL := z1 _ _ eL
      have eJ := sq_kp (Fr.same z1).kp eJ
      have hO := hO.same z1
      have s2 := s1.trans z1
      generalize upd H1 p (.tup [.int 2, .int 3]) = H2 at eL eJ hO s2 ⊢
      rw [lj]
      by_cases c23 : 2 ≤ js.length ∧ js.length ≤ 3
      · rw [in23 c23.1 c23.2]
        refine iteF ?_
        refine ⟨_, rfl, J, kc, _, rfl, SqB.of eJ, fun Y nY => ?_⟩
        refine lc_it (walk_seq (K := K) (b := kc) (a := J) (xs := (ni js).map V.int)) (fun i H' => ∃ ys, H' Y = some (.lst ys) ∧ Obs rcO H' ys (pk ds (js.take i)) ∧ Same H2 H') ⟨_, upd_same, .nil, sm_upd nY⟩ ?_ ?_ ?_
        · rintro i H7 _ ⟨_, _, _, s7⟩
          exact SqB.of (sq_kp (Fr.same s7).kp eJ)
        · rintro i x H7 _ hi ⟨ys, eY, oY, s7⟩ ⟨rfl, hx⟩
          obtain ⟨e, he, rfl⟩ := ni_at hx
          have hed : e < ds.length := lt e (List.mem_of_getElem? he)
          have ed : ds[e]? = some ds[e] := List.getElem?_eq_getElem hed
          obtain ⟨r, hr', er⟩ := hO.on ed
          have yl : ys.length < sizeLine := by
            have h1 := oY.len
            have h2 := pk_le (ds := ds) (js.take i)
            rw [List.length_take] at h2
            exact small1000 (by omega)
          refine ⟨rfl, _, rfl, _, rfl, L, kb, xs, _, _, rfl, rfl, SqB.of (s7 _ _ eL), atI_nat hr', ys, eY, yl, _, upd_same, ?_, ?_⟩
          · rw [pk_snoc he ed]
            refine Obs.keep (oY.snoc (s7 _ _ er)) fun b d' eb => ?_
            rw [upd_ne (ne_of eb eY (by intro q; cases q))]
            exact eb
          · intro b o eb
            rw [upd_ne (ne_of_none eb nY)]
            exact s7 _ _ eb
        rintro H7 ⟨ys, eY, oY, s7⟩
        rw [List.take_of_length_le (by rw [List.length_map, ni_len]; exact Nat.le_refl _)] at oY
        refine ⟨Y, true, ys, pk ds js, k, rfl, eY, oY, Nat.le_trans (pk_le js) (by omega), pk_bd bd js, k0, k1, fun H8 v lo' up' s8 hlo' hup' _ _ rv => ?_⟩
        refine ⟨rfl, ?_⟩
        rcases rv with ⟨h1, rfl⟩ | ⟨h1, T, x, y, rfl, _⟩
        · exact kk true _ ((s2.trans s7).trans s8) ⟨fun _ => ⟨kc, js, rfl, up, lt, c23.1, c23.2, (nr_cf hlo' hup').mp h1⟩, fun _ => rfl⟩
        · refine kk false _ ((s2.trans s7).trans s8) ⟨fun z => (nomatch z), uniq.mpr fun _ _ h => ?_⟩
          rw [(nr_cf hlo' hup').mpr h] at h1
          cases h1
      · have e : inV (.int ((js.length : Nat) : Int)) [.int 2, .int 3] = false := nin23 c23
        rw [e]
        exact iteT (kk false _ s2 ⟨fun z => (nomatch z), uniq.mpr fun a b _ => (c23 ⟨a, b⟩).elim⟩)
end
end Lf
namespace Lf
open PySem PySem.Spec PyProof.Rows L2
/-! ### the law's look at any value -/
/-- plain enough to be compared -/
def Pl (d : PyData) : Prop := d.hasDict = false ∧ d.canLay0 = true ∧ d.depth ≤ 5
theorem pl_all {es : List PyData} (h : ∀ e ∈ es, Pl e) : PyData.hasDictAll es = false ∧ PyData.canLayAll0 es = true ∧ PyData.depthAll es ≤ 5 := by
  induction es with
  | nil => exact ⟨rfl, rfl, Nat.zero_le _⟩
  | cons e r ih =>
    obtain ⟨h1, h2, h3⟩ := h e List.mem_cons_self
    obtain ⟨i1, i2, i3⟩ := ih fun x hx => h x (List.mem_cons_of_mem _ hx)
    refine ⟨by simp [PyData.hasDictAll, h1, i1], by simp [PyData.canLayAll0, h2, i2], ?_⟩
    simp only [PyData.depthAll]
    omega
theorem pl_shaped {es : List PyData} (h : ∀ e ∈ es, Pl e) : SeqAt.shaped (.list es) = true := by
  obtain ⟨_, h2, h3⟩ := pl_all h
  have h4 : (PyData.list es).depth ≤ 64 := by
    simp only [PyData.depth]
    omega
  show (PyData.canLay0 _ && decide _) = true
  rw [Bool.and_eq_true]
  exact ⟨by simpa [PyData.canLay0] using h2, decide_eq_true h4⟩
theorem pl_sh {d : PyData} (h : Pl d) : SeqAt.shaped d = true := by
  show (PyData.canLay0 _ && decide _) = true
  rw [Bool.and_eq_true]
  exact ⟨h.2.1, decide_eq_true (by have := h.2.2; omega)⟩
theorem pl_int (i : Int) : Pl (.int i) := ⟨rfl, rfl, Nat.zero_le _⟩
/-- a list or tuple of few plain values -/
def Lt9 (d : PyData) : Prop := ∀ kb es, d = sqD kb es → es.length ≤ 60 ∧ ∀ e ∈ es, Pl e
theorem dva_snoc {H : Hp} {vs : List V} {ds : List PyData} {v : V} {d : PyData} (h : DvAll H vs ds) (g : Dv H v d) : DvAll H (vs ++ [v]) (ds ++ [d]) := by
  induction vs generalizing ds with
  | nil =>
    cases h
    exact .cons g .nil
  | cons x r ih =>
    cases h with
    | cons h1 h2 => exact .cons h1 (ih h2)
section
variable {P : Program} {w : World} {K : PySem.W.Frag} {mg : Str → Option Value} {base : Heap} {TS : List (Addr × Str)}
def spAreLD : Sp := fun vs H Q _ => ∃ (v : V) (d : PyData) (n : Nat), vs = [v, .int ((n : Nat) : Int)] ∧ Dv H v d ∧ Lt9 d ∧ ∀ b H', Same H H' → (b = true ↔ ixP n d) → Q (.bl b) H'
abbrev s_l_are_indexes : Stmt := topS 51
abbrev N_l_are_indexes : List Str := ["_law_value", "_law_total", "_law_one"]
abbrev P_l_are_indexes : List Str := ["_law_value", "_law_total"]
theorem sc_l_are_indexes : FnScope N_l_are_indexes P_l_are_indexes (defScope s_l_are_indexes) := ⟨rfl, rfl, rfl, by decide +kernel, rfl, by decide +kernel, by decide +kernel⟩
theorem ok_l_are_indexes (D : Df K mg "_law_are_indexes" s_l_are_indexes P_l_are_indexes) (B : Bi mg) : C8.Cal P w K mg base 1 "_law_are_indexes" spAreLD [] := by
  refine cal_of D sc_l_are_indexes (fun vs H Q E h => ?_) (fun f cdv A outer s H vs Q E hr h => ?_)
  · obtain ⟨v, d, n, rfl, _⟩ := h
    rfl
  · obtain ⟨v, d, n, rfl, hv, hl9, kk⟩ := h
    refine ⟨_, (pss_cons (ps_if (pt_not (pt_val (pe_callB (call_isiT) (by rfl) B.isinstance_ bt_isinstance (pa_cons (pv 0) (pa_cons (pe_tup (pa_cons (pe_bltn (v := .ty "list") (by rfl) B.list_ bt_list rfl) (pa_cons (pe_bltn (v := .ty "tuple") (by rfl) B.tuple_ bt_tuple rfl) pa_nil))) pa_nil)))))
      (pss_one (ps_ret pe_bl))
      pss_nil)
    (pss_cons (ps_if (pt_cmpR (op_neD hr.units) (pe_lc (own := [("_law_one", 2)]) (g := (gName 2)) (by rfl) sc_l_are_indexes.nd (pi_seq (pv 0)) (blkOk_by (own := [("_law_one", 2)]) (N := N_l_are_indexes) (sc := defScope s_l_are_indexes) (by decide +kernel)) (fun _ _ _ _ _ => (pg_name (i := 2) sc_l_are_indexes.nd rfl (Or.inl rfl))) (fun _ _ _ _ _ => (pts_one (PW.pt (pw_or (pt_not (pt_val (pe_callB ((show CallR _ _ (rIsi K) from call_isi)) (by rfl) B.isinstance_ bt_isinstance (pa_cons (pv 2) (pa_cons (pe_bltn (v := .ty "int") (by rfl) B.int_ bt_int rfl) pa_nil))))) (pw_or (pt_val (pe_callB ((show CallR _ _ (rIsi K) from call_isi)) (by rfl) B.isinstance_ bt_isinstance (pa_cons (pv 2) (pa_cons (pe_bltn (v := .ty "bool") (by rfl) B.bool_ bt_bool rfl) pa_nil)))) (pw_or1 (pt_not (pt_chain op_le op_lt pe_int (pv 2) (pv 1))))))))) (fun _ _ _ _ _ => (pv 2))) (pe_lst pa_nil) (nomark _))
      (pss_one (ps_ret pe_bl))
      pss_nil)
    (pss_one (ps_ret (pe_cmpR (op_eqD hr.units) (pe_callTy (call_list_of) (by rfl) B.list_ bt_list (pa_cons (pv 0) pa_nil)) (pe_callB ((show CallR _ _ (rSortedSet w) from cr_sortedSet rfl)) (by rfl) B.sorted_ bt_sorted (pa_cons (pe_callTy ((show CallR _ _ (rSetB K w) from cr_setB rfl)) (by rfl) B.set_ bt_set (pa_cons (pv 0) pa_nil)) pa_nil)) (nomark _)))))), ?_⟩
    refine ⟨_, rfl, len10 (by simp), fun tp ntp => ?_⟩
    have s1 := sm_upd (o := .tup [.ty "list", .ty "tuple"]) ntp
    have hv1 := Dv.kp (Fr.same s1).kp _ _ hv
    refine ⟨_, tp, _, _, _, isLT d, rfl, upd_same, .cons (.ty "list") (.cons (.ty "tuple") .nil), hv1.ty, kit_ltD d, isLT d, rfl, ?_⟩
    generalize upd H tp (.tup [.ty "list", .ty "tuple"]) = H1 at s1 hv1 ⊢
    cases hlt : isLT d with
    | false => exact iteT (kk false _ s1 ⟨fun z => (nomatch z), fun z => absurd z (not_lt_ix hlt)⟩)
    | true =>
      refine iteF ?_
      obtain ⟨a, kb, xs, ds, rfl, rfl, ea, sm⟩ := dv_sq hv1 hlt
      obtain ⟨ln, pla⟩ := hl9 _ _ rfl
      have lsm := dva_len9 sm
      refine ⟨_, rfl, a, kb, xs, rfl, SqB.of ea, fun Y nY => ?_⟩
      refine lc_it (walk_seq (K := K) (b := kb) (a := a) (xs := xs)) (fun i H' => ∃ ys, H' Y = some (.lst ys) ∧ DvAll H1 ys ((ds.take i).filter fun d => !goodI n d) ∧ Same H1 H') ⟨_, upd_same, .nil, sm_upd nY⟩ ?_ ?_ ?_
      · rintro i H7 _ ⟨_, _, _, s7⟩
        exact SqB.of (sq_kp (Fr.same s7).kp ea)
      · rintro i x _ H7 hi ⟨ys, eY, sY, s7⟩ ⟨rfl, hx⟩
        obtain ⟨dd, hd, hs0⟩ := dva_at sm hx
        have hs := Dv.kp (Fr.same s7).kp _ _ hs0
        have ft := filtG (f := fun d => !goodI n d) hd
        have yl : ys.length < sizeLine := by
          have h1 := dva_len9 sY
          have h2 := List.length_filter_le (fun d => !goodI n d) (ds.take i)
          rw [List.length_take] at h2
          exact small1000 (by omega)
        have bad : goodI n dd = false → ∃ acc, H7 Y = some (.lst acc) ∧ acc.length < sizeLine ∧ (fun i H' => ∃ ys, H' Y = some (.lst ys) ∧ DvAll H1 ys ((ds.take i).filter fun d => !goodI n d) ∧ Same H1 H') (i + 1) (upd H7 Y (.lst (acc ++ [x]))) := fun g => by
          refine ⟨ys, eY, yl, ys ++ [x], upd_same, ?_, fun b o eb => ?_⟩
          · rw [ft, if_pos (by rw [g]; rfl)]
            exact dva_snoc sY hs0
          · rw [upd_ne (ne_of_none eb nY)]
            exact s7 _ _ eb
        refine ⟨rfl, ⟨_, rfl, _, _, _, _, isIB dd, rfl, .ty "int", hs.ty, kit_ty (kit_int dd), isIB dd, rfl, ?_⟩⟩
        cases hs with
        | int z =>
          refine iteF ⟨_, rfl, _, _, _, _, false, rfl, .ty "bool", (Dv.int _).ty, kit_ty (kit_bool (.int _)), false, rfl, iteF ?_⟩
          refine ⟨_, rfl, _, _, rfl, rfl, _, rfl, ?_⟩
          by_cases c : 0 ≤ z
          · refine iteD c ⟨_, rfl, _, _, rfl, rfl, _, rfl, ?_⟩
            by_cases c2 : z < (n : Int)
            · refine iteFz (by rw [decide_eq_true c2]; rfl) ⟨ys, eY, ?_, s7⟩
              rw [ft, if_neg (by show ¬ (!(decide (0 ≤ z) && decide (z < (n : Int)))) = true; rw [decide_eq_true c, decide_eq_true c2]; decide), List.append_nil]
              exact sY
            · exact iteTs (by rw [decide_eq_false c2]; rfl) ⟨_, rfl, bad (by show (decide (0 ≤ z) && decide (z < (n : Int))) = false; rw [decide_eq_false c2, Bool.and_false])⟩
          · exact iteDn c ⟨_, rfl, iteT ⟨_, rfl, bad (by show (decide (0 ≤ z) && decide (z < (n : Int))) = false; rw [decide_eq_false c, Bool.false_and])⟩⟩
        | bl b => exact iteF ⟨_, rfl, _, _, _, _, true, rfl, .ty "bool", (Dv.bl _).ty, kit_ty (kit_bool (.bool _)), true, rfl, iteT (iteT ⟨_, rfl, bad rfl⟩)⟩
        | _ => exact iteT (iteT ⟨_, rfl, bad rfl⟩)
      rintro H7 ⟨ys, eY, sY, s7⟩
      rw [List.take_of_length_le (by rw [lsm]; exact Nat.le_refl _)] at sY
      refine ⟨Nat.zero_le _, fun W nW => ?_⟩
      have zW := sm_upd (o := .lst []) nW
      have plf : ∀ e ∈ (ds.filter fun d => !goodI n d), Pl e := fun e he => pla e (List.mem_filter.mp he).1
      have sY8 := Dv.kpAll (Fr.same (s7.trans zW)).kp _ _ sY
      refine ⟨.list (ds.filter fun d => !goodI n d), .list [], Dp.lst (SqL.of (zW _ _ eY)) (Dv.dpAll _ _ sY8 (pl_all plf).1), Dp.lst (SqL.of upd_same) .nil, pl_shaped plf, rfl, _, rfl, ?_⟩
      have s8 := (s1.trans s7).trans zW
      have ea8 := sq_kp (Fr.same (s7.trans zW)).kp ea
      generalize upd H7 W (.lst []) = H8 at s8 ea8 ⊢
      cases hf : ds.filter (fun d => !goodI n d) with
      | cons z zs => exact iteT (kk false _ s8 ⟨fun z => (nomatch z), fun q => absurd q (bad_ix (by rw [hf]; exact fun z => (nomatch z)))⟩)
      | nil =>
        refine iteFz rfl ?_
        obtain ⟨is, rfl, ib⟩ := good_ints hf
        obtain rfl := dva_ints sm
        have il : is.length ≤ 60 := by rw [List.length_map] at ln; exact ln
        refine ⟨_, rfl, a, _, rfl, (SqB.of ea8).or, fun c nc => ?_⟩
        have zc := sm_upd (o := .lst (is.map V.int)) nc
        refine ⟨_, rfl, a, kb, is, rfl, SqB.of (sq_kp (Fr.same zc).kp ea8), by omega, fun S cnt nS hc => ?_⟩
        have zS := sm_upd (o := SetO w S (fun j => decide (j ∈ is)) cnt) nS
        refine ⟨S, _, cnt, rfl, upd_same, by omega, fun ns F hs hm hlen nF => ?_⟩
        have zF := sm_upd (o := .lst (ns.map V.int)) nF
        refine ⟨.list (is.map PyData.int), .list (ns.map PyData.int), Dp.lst (SqL.of ((zS.trans zF) _ _ upd_same)) (dp_ints _), Dp.lst (SqL.of upd_same) (dp_ints _), sh_ints _, sh_ints _, ?_⟩
        rw [eqv_lists]
        refine kk _ _ (((s8.trans zc).trans zS).trans zF) ?_
        rw [decide_eq_true_iff, ← ix_asc, asc_iff]
        constructor
        · rintro rfl
          exact ⟨_, rfl, hs, fun i hi => ⟨by have := ib i hi; omega, (ib i hi).2⟩⟩
        · rintro ⟨is', e, p, _⟩
          obtain rfl := ints_inj e
          exact srt_ext p hs fun x => by rw [hm x, decide_eq_true_iff]
end
/-! ### is_answer of any value -/
def opA (ds : List Rec) (x : PyData) : Prop := ruleD x = true ∧ ∀ p q c, x = .tuple [.int p, .int q, .int c] → ∀ e ∈ ds, fitB p q c e = true
def ansP (ds : List Rec) (d : PyData) : Prop := (∃ x, d = .tuple [.str "open", x] ∧ opA ds x) ∨ (∃ x, d = .tuple [.str "follows", x] ∧ cfP ds x)
theorem ruleD_inv {x : PyData} (h : ruleD x = true) : ∃ p q c, x = .tuple [.int p, .int q, .int c] ∧ 0 ≤ p ∧ 1 ≤ q ∧ Int.gcd p q = 1 := by
  unfold ruleD at h
  split at h
  · rename_i p q c
    rw [Bool.and_eq_true, Bool.and_eq_true, decide_eq_true_iff, decide_eq_true_iff, decide_eq_true_iff] at h
    refine ⟨p, q, c, rfl, h.1, h.2.1, ?_⟩
    have := V.int.inj h.2.2
    omega
  · cases h
/-- what may stand as a value here -/
structure Gd39 (k : Nat) (d : PyData) : Prop where
  w : ∀ w x, d = .tuple [w, x] → Pl w ∧ Lt9 x ∧ ∀ p q c, x = .tuple [.int p, .int q, .int c] → Bd k p ∧ Bd k q ∧ Bd k c
theorem ans_two {ds : List Rec} {es : List PyData} (h : es.length ≠ 2) : ¬ ansP ds (.tuple es) := by
  rintro (⟨x, e, _⟩ | ⟨x, e, _⟩) <;> cases e <;> exact h rfl
theorem ans_nt {ds : List Rec} {d : PyData} (h : isT' d = false) : ¬ ansP ds d := by
  rintro (⟨x, rfl, _⟩ | ⟨x, rfl, _⟩) <;> cases h
theorem eqv_str {w : PyData} {x : Str} : PyData.eqv w (.str x) = true ↔ w = .str x := by
  cases w <;> simp [PyData.eqv]
theorem opn_fo : ("open" : Str) ≠ "follows" := by decide +kernel
theorem fo_opn : ("follows" : Str) ≠ "open" := by decide +kernel
section
variable {P : Program} {w : World} {K : PySem.W.Frag} {mg : Str → Option Value} {base : Heap} {TS : List (Addr × Str)}
def spAnsD : Sp := fun vs H Q _ => ∃ (L r : Addr) (v : V) (dv : PyData) (kb : Bool) (xs : List V) (ds : List Rec) (d : Rec) (k : Nat), vs = [.ref L, .ref r, v] ∧ H L = some (sqO kb xs) ∧ Obs rcO H xs ds ∧ ds.length ≤ 200 ∧ H r = some (rcO d) ∧ RcB k ds ∧ (Bd k d.t ∧ Bd k d.n) ∧ 0 < k ∧ k ≤ 1800 ∧ Dv H v dv ∧ Gd39 1900 dv ∧
  ∀ b H', Same H H' → (b = true ↔ ansP (ds ++ [opp d]) dv) → Q (.bl b) H'
theorem okA_is_answer (D : Df K mg "is_answer" s_is_answer P_is_answer) (B : Bi mg) (c_with_opposite : C8.Cal P w K mg base 4 "with_opposite" spWO []) (cA_shows_conflict : C8.Cal P w K mg base 4 "shows_conflict" (spShowsD 1000) []) (cA_is_rule : C8.Cal P w K mg base 2 "is_rule" spIsRuleD []) (c_fits_record : C8.Cal P w K mg base 1 "fits_record" spFitsRec []) : C8.Cal P w K mg base 5 "is_answer" spAnsD [] := by
  refine cal_of D sc_is_answer (fun vs H Q E h => ?_) (fun f cdv A outer s H vs Q E hr h => ?_)
  · obtain ⟨L, r, v, dv, kb, xs, ds, d, k, rfl, _⟩ := h
    rfl
  · obtain ⟨L, r, v, dv, kb, xs, ds, d, k, rfl, eL, hO, hl, er, bd, bd2, k0, k1, hv, gd, kk⟩ := h
    have c_shows_conflict := cA_shows_conflict
    have c_is_rule := cA_is_rule
    refine ⟨_, (pss_cons (ps_set (i := 3) sc_is_answer.nd rfl (Or.inl rfl) (C8.pe_c c_with_opposite hr (by decide) (by rfl) (pa_cons (pv 0) (pa_cons (pv 1) pa_nil))))
    (pss_cons (ps_if (PW.pt (pw_or (pt_not (pt_val (pe_callB (call_isi) (by rfl) B.isinstance_ bt_isinstance (pa_cons (pv 2) (pa_cons (pe_bltn (v := .ty "tuple") (by rfl) B.tuple_ bt_tuple rfl) pa_nil))))) (pw_or1 (pt_cmpR op_ne (pe_callB (call_len_seq) (by rfl) B.len_ bt_len (pa_cons (pv 2) pa_nil)) pe_int (nomark _)))))
      (pss_one (ps_ret pe_bl))
      pss_nil)
    (pss_cons (ps_if (pt_cmpR (op_eqD hr.units) (pe_ix (r := rIxT K) ix_tup (pv 2) pe_int (fun _ _ => rfl)) pe_str (nomark _))
      (pss_one (ps_ret (C8.pe_c c_shows_conflict hr (by decide) (by rfl) (pa_cons (pv 3) (pa_cons (pe_ix (r := rIxT K) ix_tup (pv 2) pe_int (fun _ _ => rfl)) pa_nil)))))
      pss_nil)
    (pss_cons (ps_if (PW.pt (pw_or (pt_cmpR (op_neD hr.units) (pe_ix (r := rIxT K) ix_tup (pv 2) pe_int (fun _ _ => rfl)) pe_str (nomark _)) (pw_or1 (pt_not (pt_val (C8.pe_c c_is_rule hr (by decide) (by rfl) (pa_cons (pe_ix (r := rIxT K) ix_tup (pv 2) pe_int (fun _ _ => rfl)) pa_nil)))))))
      (pss_one (ps_ret pe_bl))
      pss_nil)
    (pss_one (ps_ret (pe_callB (cr_all rfl) (by rfl) B.all_ bt_all (pa_cons (pe_lc (own := [("item", 4)]) (g := (gName 4)) (by rfl) sc_is_answer.nd (pi_list (pv 3)) (blkOk_by (own := [("item", 4)]) (N := N_is_answer) (sc := defScope s_is_answer) (by decide +kernel)) (fun _ _ _ _ _ => (pg_name (i := 4) sc_is_answer.nd rfl (Or.inl rfl))) (fun _ _ _ _ _ => pts_nil) (fun _ _ _ _ _ => (C8.pe_c c_fits_record hr (by decide) (by rfl) (pa_cons (pe_ix (r := rIxT K) ix_tup (pv 2) pe_int (fun _ _ => rfl)) (pa_cons (pv 4) pa_nil))))) pa_nil)))))))), ?_⟩
    refine ⟨_, rfl, _, rfl, L, r, kb, xs, ds, d, rfl, eL, hO, hl, er, fun D ys H1 s1 eD oD => ?_⟩
    have bD : RcB (k + 1) (ds ++ [opp d]) := fun e he => by
      rcases List.mem_append.mp he with g | g
      · exact ⟨(bd e g).1.mono (by omega), (bd e g).2.mono (by omega)⟩
      · rw [List.mem_singleton.mp g]
        exact opp_bd k0 bd2
    have lD : (ds ++ [opp d]).length ≤ 201 := by
      rw [List.length_append]
      show ds.length + 1 ≤ 201
      omega
    generalize ds ++ [opp d] = es at oD bD lD kk
    have hv1 := Dv.kp (Fr.same s1).kp _ _ hv
    refine ⟨_, rfl, _, _, _, _, isT' dv, rfl, .ty "tuple", hv1.ty, kit_ty (kit_tup' dv), isT' dv, rfl, ?_⟩
    cases ht : isT' dv with
    | false => exact iteT (iteT (kk false _ s1 ⟨fun z => (nomatch z), fun z => absurd z (ans_nt ht)⟩))
    | true =>
      cases hv1 with
      | tup eT hs =>
        rename_i T vs ws
        have hl2 := dva_len9 hs
        refine iteF ⟨_, rfl, T, _, rfl, .inr (SqT.of eT), rfl, _, rfl, ?_⟩
        by_cases h2 : vs.length = 2
        · match vs, ws, hs, h2, hl2 with
          | [v0, v1], [d0, d1], hs, _, _ =>
            cases hs with
            | cons g0 hs =>
              cases hs with
              | cons g1 hs =>
                cases hs
                obtain ⟨pw, lx, bx⟩ := gd.w d0 d1 rfl
                have no : (∀ x : Str, d0 = .str x → x ≠ "open" ∧ x ≠ "follows") → ¬ ansP es (.tuple [d0, d1]) := fun h => by
                  rintro (⟨x, e, _⟩ | ⟨x, e, _⟩) <;> cases e
                  · exact (h _ rfl).1 rfl
                  · exact (h _ rfl).2 rfl
                refine iteNS rfl ?_
                refine ⟨_, rfl, T, _, _, _, rfl, rfl, SqT.of eT, atI_nat (j := 0) rfl, d0, .str "follows", Dv.dp _ _ g0 pw.1, .str _, pl_sh pw, (by decide +kernel), _, rfl, ?_⟩
                by_cases c1 : d0 = .str "follows"
                · refine iteTs (eqv_str.mpr c1) ?_
                  refine ⟨_, rfl, _, rfl, T, _, _, _, rfl, rfl, SqT.of eT, atI_nat (j := 1) rfl, D, v1, d1, true, ys, es, k + 1, rfl, eD, oD, by omega, bD, by omega, by omega, g1, fun b H2 s2 hb => kk b _ (s1.trans s2) ?_⟩
                  rw [hb, c1]
                  constructor
                  · exact fun z => .inr ⟨d1, rfl, z⟩
                  · rintro (⟨x, e, _⟩ | ⟨x, e, h⟩)
                    · have e1 := (List.cons.inj (PyData.tuple.inj e)).1
                      exact absurd (PyData.str.inj e1) fo_opn
                    · cases e
                      exact h
                · refine iteFz (by
                    cases hq : PyData.eqv d0 (.str "follows") with
                    | false => rfl
                    | true => exact absurd (eqv_str.mp hq) c1) ?_
                  refine ⟨_, rfl, T, _, _, _, rfl, rfl, SqT.of eT, atI_nat (j := 0) rfl, d0, .str "open", Dv.dp _ _ g0 pw.1, .str _, pl_sh pw, (by decide +kernel), _, rfl, ?_⟩
                  by_cases c2 : d0 = .str "open"
                  · refine iteFs (by rw [eqv_str.mpr c2]; rfl) ?_
                    subst c2
                    have iff2 : ansP es (.tuple [.str "open", d1]) ↔ opA es d1 := by
                      constructor
                      · rintro (⟨x, e, h⟩ | ⟨x, e, _⟩)
                        · cases e
                          exact h
                        · have e1 := (List.cons.inj (PyData.tuple.inj e)).1
                          exact absurd (PyData.str.inj e1) opn_fo
                      · exact fun z => .inl ⟨d1, rfl, z⟩
                    refine ⟨_, rfl, T, _, _, _, rfl, rfl, SqT.of eT, atI_nat (j := 1) rfl, v1, d1, rfl, g1, fun H2 s2 => ⟨ruleD d1, rfl, ?_⟩⟩
                    cases hr1 : ruleD d1 with
                    | false => exact iteT (kk false _ (s1.trans s2) ⟨fun z => (nomatch z), fun z => absurd (hr1.symm.trans (iff2.mp z).1) (by decide)⟩)
                    | true =>
                      refine iteF ?_
                      obtain ⟨p, q, c, rfl, p0, q1, gg⟩ := ruleD_inv hr1
                      obtain ⟨bp, bq, bc⟩ := bx p q c rfl
                      have g1 := Dv.kp (Fr.same s2).kp _ _ g1
                      obtain ⟨r', rfl, er'⟩ : ∃ r', v1 = .ref r' ∧ H2 r' = some (.tup [.int p, .int q, .int c]) := dv_ints (kc := false) (is := [p, q, c]) g1
                      have eD := s2 _ _ eD
                      have oD := oD.same s2
                      refine ⟨_, rfl, D, rfl, ⟨_, SqL.of eD⟩, fun Y nY => ?_⟩
                      refine lc_it (walk_list (K := K) (a := D) (xs := ys)) (fun i H' => Same H2 H' ∧ H' Y = some (.lst (((es.take i).map (fitB p q c)).map V.bl))) ⟨sm_upd nY, upd_same⟩ ?_ ?_ ?_
                      · rintro i H3 _ ⟨s3, _⟩
                        exact SqL.of (s3 _ _ eD)
                      · rintro i x H3 _ hi0 ⟨s3, e3⟩ ⟨rfl, hx⟩
                        obtain ⟨e, d', rfl, ed, hd⟩ := oD.at hx
                        have hi := (List.getElem?_eq_some_iff.mp hd).1
                        refine ⟨rfl, _, rfl, T, _, _, _, rfl, rfl, SqT.of (s3 _ _ (s2 _ _ eT)), atI_nat (j := 1) rfl, _, rfl, r', e, p, q, c, d', 2 * (k + 1) + 1900, rfl, s3 _ _ er', s3 _ _ ed, q1, bp.mono (by omega), bq.mono (by omega), (bD d' (List.mem_of_getElem? hd)).1.mono (by omega), by omega, by omega, _, e3, ?_, ?_, ?_⟩
                        · rw [List.length_map, List.length_map, List.length_take]
                          exact small1000 (by omega)
                        · intro b o eb
                          rw [upd_ne (ne_of_none eb nY)]
                          exact s3 _ _ eb
                        · rw [upd_same, List.take_add_one, hd, List.map_append, List.map_append]
                          rfl
                      rintro H3 ⟨s3, e3⟩
                      rw [List.take_of_length_le (by rw [oD.len]; exact Nat.le_refl _)] at e3
                      refine ⟨Y, _, rfl, SqL.of e3, ?_⟩
                      rw [List.all_map]
                      refine kk _ _ ((s1.trans s2).trans s3) ?_
                      rw [iff2]
                      unfold opA
                      rw [List.all_eq_true]
                      constructor
                      · exact fun z => ⟨hr1, fun p' q' c' e => by cases e; exact fun x hx => z x hx⟩
                      · exact fun z x hx => z.2 p q c rfl x hx
                  · refine iteTs (by
                      cases hq : PyData.eqv d0 (.str "open") with
                      | false => rfl
                      | true => exact absurd (eqv_str.mp hq) c2) (kk false _ s1 ⟨fun z => (nomatch z), fun z => absurd z (no fun x e => ⟨fun z => c2 (by rw [e, z]), fun z => c1 (by rw [e, z])⟩)⟩)
        · refine iteTs (by
            rw [decide_eq_false (fun z => h2 (by have := V.int.inj z; omega))]
            rfl) (kk false _ s1 ⟨fun z => (nomatch z), fun z => absurd z (ans_two (by omega))⟩)
      | _ => cases ht
end
end Lf
namespace Lf
open PySem PySem.Spec PyProof.Rows L2
/-! ### t[::-1] of a tuple -/
section
variable {prog : Program} {w : World} {A : Around} {E : Value → Shared → Prop} {s : Shared}
theorem places_rev (n : Nat) : Builtin.Slice.slicePlaces ((n : Int) - 1) (-1) (-1) = n := by
  unfold Builtin.Slice.slicePlaces
  rw [if_neg (by decide)]
  by_cases h : (n : Int) - 1 > -1
  · rw [if_pos h, show (-(-1) : Int) = 1 by decide, Int.ediv_one]
    omega
  · rw [if_neg h]
    omega
theorem slice_rev {sl : Addr} {vl vu vs : Value} {n : Nat} {Q : Int × Int × Nat → Shared → Prop} (hs : s.heap.IsSliceOf sl vl vu vs) (pl : IsPart vl none) (pu : IsPart vu none) (ps : IsPart vs (some (-1)))
    (h : Q ((n : Int) - 1, -1, n) s) : wpAny (model prog w) A (Builtin.Slice.sliceApplied (.ref sl) (pure (n : Int))) Q E s := by
  obtain ⟨os, hos, hcs, hds⟩ := id hs
  unfold Builtin.Slice.sliceApplied Builtin.Slice.sliceFields
  refine wpAny_bind (wpAny_bind (wpAny_field hos hds (x := vl) rfl (wpAny_bind (wpAny_field hos hds (x := vu) rfl (wpAny_bind (wpAny_field hos hds (x := vs) rfl (wpAny_pure ?_)))))))
  refine wpAny_bind (HT.slicePart_ ps ?_)
  show wpAny _ _ (if ((-1 : Int) == 0) = true then _ else _) _ _ s
  rw [if_neg (by decide)]
  refine wpAny_bind (HT.slicePart_ pl (wpAny_bind (HT.slicePart_ pu (wpAny_bind (wpAny_pure ?_)))))
  show wpAny _ _ (pure ((n : Int) - 1, (-1 : Int), Builtin.Slice.slicePlaces ((n : Int) - 1) (-1) (-1))) _ _ s
  rw [places_rev]
  exact wpAny_pure h
theorem fmap_congr {α β : Type} {f g : α → Option β} : ∀ {l : List α}, (∀ k ∈ l, f k = g k) → l.filterMap f = l.filterMap g
  | [], _ => rfl
  | a :: r, h => by
    rw [List.filterMap_cons, List.filterMap_cons, h a List.mem_cons_self, fmap_congr fun k hk => h k (List.mem_cons_of_mem _ hk)]
theorem pick_rev (xs : Array Value) : ((List.range xs.size).filterMap fun (k : Nat) => xs[(((xs.size : Nat) : Int) - 1 + (k : Int) * (-1)).toNat]?).toArray = xs.toList.reverse.toArray := by
  have e : (List.range xs.size).filterMap (fun (k : Nat) => xs[(((xs.size : Nat) : Int) - 1 + (k : Int) * (-1)).toNat]?) = (((List.range xs.size).map fun k => xs.size - 1 - k).filterMap (xs[·]?)) := by
    rw [List.filterMap_map]
    refine fmap_congr fun k hk => ?_
    have := List.mem_range.mp hk
    have e2 : (((xs.size : Nat) : Int) - 1 + (k : Int) * (-1)).toNat = xs.size - 1 - k := by omega
    rw [e2]
    rfl
  rw [e, PySem.W.krv_range, List.filterMap_reverse, PySem.W.krv_all]
theorem getItem_tuple_rev {t sl : Addr} {items : Array Value} {vl vu vs : Value} {Q : Value → Shared → Prop} (ht : IsTup s.heap t items) (hs : s.heap.IsSliceOf sl vl vu vs) (pl : IsPart vl none) (pu : IsPart vu none) (ps : IsPart vs (some (-1)))
    (h : Q (.ref s.heap.objs.size) { s with heap := s.heap.push { cls := .type "tuple", data := .seq items.toList.reverse.toArray } })
    (hsz : items.size ≤ sizeLine) : wpAny (model prog w) A (getItem (.ref t) (.ref sl)) Q E s := by
  have htake : sizeOk (.seq items.toList.reverse.toArray) := by
    show items.toList.reverse.toArray.size ≤ sizeLine
    rw [List.size_toArray, List.length_reverse, Array.length_toList]
    exact hsz
  obtain ⟨os, hos, hcs, hds⟩ := id hs
  have hTs : s.TypeIs (.ref sl) "slice" := ⟨os, hos, hcs⟩
  unfold getItem
  try with_reducible refine wpAny_holding ?_
  first | refine wpAny_bind (wpAny_pure ?_) | skip
  refine wpAny_bind (wpAny_sequenceKey ht.typeIs (by decide) ?_)
  refine wpAny_bind (wpAny_callSpecial?_slot (name := Str.ofString "__getitem__") ht.typeIs PyProof.Rows.slot_tuple_getitem
    (wpAny_call_entry PyProof.Rows.slot_tuple_getitem ht.typeIs entry_tuple_getitem ?_ (args_tuple_getitem _ _)))
  show wpAny _ _ (Builtin.Tuple.tupleItemsOf (.ref t) >>= _) _ _ s
  refine wpAny_bind (tupleItemsOf_ ht ?_)
  refine wpAny_bind (wpAny_typeOf hTs ?_)
  rw [if_pos (by decide)]
  refine wpAny_bind (slice_rev hs pl pu ps ?_)
  have hno : ¬ ((((items.size : Nat) : Int) - 1 == 0 && (-1 : Int) == 1 && items.size == items.size) = true) := by
    intro q
    rw [Bool.and_eq_true, Bool.and_eq_true] at q
    exact absurd q.1.2 (by decide)
  show wpAny _ _ (if (((items.size : Nat) : Int) - 1 == 0 && (-1 : Int) == 1 && items.size == items.size) = true then _ else _) _ _ s
  rw [if_neg hno, pick_rev]
  first
    | exact wpAny_bind (m := Builtin.Tuple.tupleExact _) (wpAny_newObj_type (wpAny_pure ⟨_, rfl, wpAny_pure h⟩) htake)
    | exact wpAny_bind (m := Builtin.Tuple.tupleExact _) (wpAny_newObj_type (wpAny_bind (wpAny_pure (wpAny_pure ⟨_, rfl, wpAny_pure h⟩))) htake)
    | exact wpAny_bind (wpAny_bind (m := Builtin.Tuple.tupleExact _) (wpAny_newObj_type (wpAny_pure (wpAny_pure ⟨_, rfl, wpAny_pure h⟩)) htake))
    | exact wpAny_bind (wpAny_bind (m := Builtin.Tuple.tupleExact _) (wpAny_newObj_type (wpAny_pure ⟨_, rfl, wpAny_pure h⟩) htake))
end
def tRevT (K : PySem.W.Frag) (te : TE) : TE := fun σ H Q => te σ H fun x H1 => ∃ a xs, x = .ref a ∧ SqT K H1 a xs ∧ ∀ p, H1 p = none → Q (.ref p) (upd H1 p (.tup xs.reverse))
theorem pe_revT {X : Cx} {e : Expr} {te : TE} {k : Nat} {p1 p2 p3 pos : Pos} (he : PE X e te) : PE X (.Subscript e (.Slice none none (some (.UnaryOp .USub (.Constant (.int 1) k p1) p2)) p3) pos) (tRevT X.K te) := by
  refine ⟨fun pins s σ H Q I h => ?_⟩
  refine Subscript_ (thn (he.run pins s σ H _ I h) fun v s1 ⟨x, H1, I1, r1, q1⟩ => ?_)
  obtain ⟨a, xs, ex, hx, q⟩ := q1
  subst ex
  cases r1
  have hst : PO X (some (.UnaryOp .USub (.Constant (.int 1) k p1) p2)) (tPart (tUn (rU fun i => .int (-i)) (tC (.int 1)))) := po_some (pe_un un_neg pe_int)
  refine wpAny_Slice (thn (po_none.run pins s1 σ H1 (fun o H2 => o = none ∧ H2 = H1) I1 ⟨rfl, rfl⟩) fun vl s2 ⟨l, H2, I2, pl, el, e2⟩ => ?_)
  subst el e2
  refine thn (po_none.run pins s2 σ H2 (fun o H3 => o = none ∧ H3 = H2) I2 ⟨rfl, rfl⟩) fun vu s3 ⟨u, H3, I3, pu, eu, e3⟩ => ?_
  subst eu e3
  refine thn (hst.run pins s3 σ H3 (fun o H4 => o = some (-1) ∧ H4 = H3) I3 ⟨1, rfl, -1, rfl, rfl, rfl⟩) fun vs s4 ⟨o, H4, I4, ps, eo, e4⟩ => ?_
  subst eo e4
  have I5 : Inv X pins σ H4 { s4 with heap := s4.heap.push { cls := .type "slice", data := .fields #[vl, vu, vs] } } := I4.kept (t' := s4.toks) fun b ob q => Heap.get?_push_of_some _ q
  obtain ⟨its, r, ht, hz⟩ := I5.tuple hx
  have hlen := r.length
  show wpAny (model X.prog X.w) X.A (subscriptTail e (.Slice none none (some (.UnaryOp .USub (.Constant (.int 1) k p1) p2)) p3) (.ref a) (.ref s4.heap.objs.size)) (EP X pins σ Q) X.xe { s4 with heap := s4.heap.push { cls := .type "slice", data := .fields #[vl, vu, vs] } }
  refine tail_any (ops := [.ref a, .ref s4.heap.objs.size]) ht.typeIs (PyProof.Rows.slot_tuple_getitem.lookup) ?_ (by with_unfolding_all rfl)
  refine getItem_tuple_rev ht (Heap.IsSliceOf.new _ vl vu vs) pl pu ps ?_ (by rw [List.size_toArray]; omega)
  refine ⟨.ref _, _, I5.laid (t' := s4.toks) (o := .tup xs.reverse) (fun b ob q => Heap.get?_push_of_some _ q) (Nat.le_refl _) ?_, rfl, q _ (I5.hok.fresh (Nat.le_refl _))⟩
  exact ⟨by rw [List.length_reverse]; exact hz, _, r.reverse, IsTup.new _ _⟩
end Lf
namespace Lf
open PySem PySem.Spec PyProof.Rows L2
/-! ### values that may be answers -/
mutual
theorem DvF.kp {H H' : Hp} (f : Kp H H') : ∀ (d : PyData) (v : V), DvF H v d → DvF H' v d
  | .none, _, .non => .non
  | .bool _, _, .bl b => .bl b
  | .int _, _, .int i => .int i
  | .str _, _, .str x => .str x
  | .list ds, _, .lst h hs => .lst (f.l _ _ h) (DvF.kpAll f ds _ hs)
  | .tuple ds, _, .tup h hs => .tup (f.t _ _ h) (DvF.kpAll f ds _ hs)
  | .dict [], _, .dk0 h => .dk0 (f.d0 _ h)
  | .dict [(.str _, d)], _, .dk1 h h2 => .dk1 (f.d1 _ _ _ h) (DvF.kp f d _ h2)
theorem DvF.kpAll {H H' : Hp} (f : Kp H H') : ∀ (ds : List PyData) (vs : List V), DvFAll H vs ds → DvFAll H' vs ds
  | [], _, .nil => .nil
  | d :: ds, _, .cons h hs => .cons (DvF.kp f d _ h) (DvF.kpAll f ds _ hs)
end
mutual
theorem Dv.dvf {H : Hp} : ∀ (d : PyData) (v : V), Dv H v d → DvF H v d
  | .none, _, .non => .non
  | .bool _, _, .bl b => .bl b
  | .int _, _, .int i => .int i
  | .str _, _, .str x => .str x
  | .list ds, _, .lst _ h hs => .lst h (Dv.dvfAll ds _ hs)
  | .tuple ds, _, .tup h hs => .tup h (Dv.dvfAll ds _ hs)
  | .dict [], _, .dk0 h => .dk0 h
  | .dict [(.str _, d)], _, .dk1 h h2 => .dk1 h (Dv.dvf d _ h2)
theorem Dv.dvfAll {H : Hp} : ∀ (ds : List PyData) (vs : List V), DvAll H vs ds → DvFAll H vs ds
  | [], _, .nil => .nil
  | d :: ds, _, .cons h hs => .cons (Dv.dvf d _ h) (Dv.dvfAll ds _ hs)
end
/-- the heap without what stands at F -/
def erH (F : Addr) (H : Hp) : Hp := fun a => if a = F then none else H a
theorem erH_kp {F : Addr} {H : Hp} : Kp (erH F H) H := by
  have h : ∀ b (o : HO), erH F H b = some o → H b = some o := fun b o e => by
    unfold erH at e
    by_cases z : b = F
    · rw [if_pos z] at e
      cases e
    · rw [if_neg z] at e
      exact e
  exact ⟨fun b _ e => h b _ e, fun b _ e => h b _ e, fun b e => h b _ e, fun b _ _ e => h b _ e⟩
theorem erH_upd {F : Addr} {H : Hp} {o : HO} : erH F (upd H F o) = erH F H := by
  funext a
  unfold erH
  by_cases z : a = F
  · rw [if_pos z, if_pos z]
  · rw [if_neg z, if_neg z, upd_ne z]
theorem erH_new {F : Addr} {H : Hp} (n : H F = none) : Kp H (erH F H) := by
  have h : ∀ b (o : HO), H b = some o → erH F H b = some o := fun b o e => by
    unfold erH
    rw [if_neg (ne_of_none e n)]
    exact e
  exact ⟨fun b _ e => h b _ e, fun b _ e => h b _ e, fun b e => h b _ e, fun b _ _ e => h b _ e⟩
theorem erH_mono {F : Addr} {H H' : Hp} (k : Kp H H') : Kp (erH F H) (erH F H') := by
  have h : ∀ b (o : HO), erH F H b = some o → b ≠ F ∧ H b = some o := fun b o e => by
    unfold erH at e
    by_cases z : b = F
    · rw [if_pos z] at e
      cases e
    · rw [if_neg z] at e
      exact ⟨z, e⟩
  have g : ∀ b (o : HO), b ≠ F → H' b = some o → erH F H' b = some o := fun b o z e => by
    unfold erH
    rw [if_neg z]
    exact e
  exact ⟨fun b _ e => let ⟨z, e⟩ := h b _ e; g b _ z (k.l _ _ e), fun b _ e => let ⟨z, e⟩ := h b _ e; g b _ z (k.t _ _ e), fun b e => let ⟨z, e⟩ := h b _ e; g b _ z (k.d0 _ e), fun b _ _ e => let ⟨z, e⟩ := h b _ e; g b _ z (k.d1 _ _ _ e)⟩
theorem Kp.refl (H : Hp) : Kp H H := ⟨fun _ _ h => h, fun _ _ h => h, fun _ h => h, fun _ _ _ h => h⟩
theorem Sho.mk {kb : Bool} {ds : List PyData} (h : ∀ d ∈ ds, d.showable = true ∧ d.depth ≤ 6 ∧ d.shown.length ≤ 20000) (hl : ds.length ≤ 10) : Sho (sqD kb ds) := by
  have key : ∀ l : List PyData, (∀ d ∈ l, d.showable = true ∧ d.depth ≤ 6 ∧ d.shown.length ≤ 20000) → PyData.showableAll l = true ∧ PyData.depthAll l ≤ 6 ∧ ((PyData.shownAll l).map (·.length)).sum ≤ 20000 * l.length ∧ (PyData.shownAll l).length = l.length := by
    intro l
    induction l with
    | nil => intro _; exact ⟨rfl, Nat.zero_le _, by simp [PyData.shownAll], rfl⟩
    | cons z r ih =>
      intro h
      obtain ⟨i1, i3, i4, i5⟩ := ih fun y hy => h y (List.mem_cons_of_mem _ hy)
      obtain ⟨z1, z2, z3⟩ := h z (List.mem_cons_self ..)
      refine ⟨?_, ?_, ?_, ?_⟩
      · simp [PyData.showableAll, z1, i1]
      · simp only [PyData.depthAll]
        omega
      · simp only [List.map_cons, PyData.shownAll, List.sum_cons, List.length_cons]
        omega
      · simp [PyData.shownAll, i5]
  obtain ⟨k1, k3, k4, k5⟩ := key ds h
  cases kb with
  | true =>
    refine ⟨by simpa [sqD, PyData.showable] using k1, by simp only [sqD, PyData.depth]; omega, ?_⟩
    have := listText_len_le (PyData.shownAll ds)
    rw [k5] at this
    show (listText (PyData.shownAll ds)).length ≤ sizeLine
    rw [sizeLine_eq]
    omega
  | false =>
    refine ⟨by simpa [sqD, PyData.showable] using k1, by simp only [sqD, PyData.depth]; omega, ?_⟩
    have := tupleText_len_le (PyData.shownAll ds)
    rw [k5] at this
    show (tupleText (PyData.shownAll ds)).length ≤ sizeLine
    rw [sizeLine_eq]
    omega
def ShM (d : PyData) : Prop := d.showable = true ∧ d.depth ≤ 6 ∧ d.shown.length ≤ 20000
/-- a second part -/
structure Xg (d : PyData) : Prop where
  l : Lt9 d
  b : ∀ p q c, d = .tuple [.int p, .int q, .int c] → Bd 1900 p ∧ Bd 1900 q ∧ Bd 1900 c
  s : ShM d
structure Ang (d : PyData) : Prop where
  g : Gd39 1900 d
  s : Sho d
def An (H : Hp) (x : V) : Prop := ∃ d, DvF H x d ∧ Ang d
def AnL (H : Hp) (xs : List V) : Prop := ∀ x ∈ xs, An H x
theorem An.kp {H H' : Hp} {x : V} (h : An H x) (f : Kp H H') : An H' x := let ⟨d, a, b⟩ := h; ⟨d, DvF.kp f _ _ a, b⟩
section
variable {H H' : Hp} {xs ys : List V}
theorem AnL.kp (h : AnL H xs) (f : Kp H H') : AnL H' xs := fun x hx => (h x hx).kp f
theorem AnL.same (h : AnL H xs) (s : Same H H') : AnL H' xs := h.kp (Fr.same s).kp
theorem AnL.snoc {x : V} (h : AnL H xs) (o : An H x) : AnL H (xs ++ [x]) := fun y hy => by
  rcases List.mem_append.mp hy with hy | hy
  · exact h y hy
  · rw [List.mem_singleton.mp hy]
    exact o
theorem AnL.app (h : AnL H xs) (h2 : AnL H ys) : AnL H (xs ++ ys) := fun y hy => (List.mem_append.mp hy).elim (h y) (h2 y)
theorem AnL.nil : AnL H [] := fun _ z => (nomatch z)
theorem AnL.cons {x : V} (o : An H x) (h : AnL H xs) : AnL H (x :: xs) := fun y hy => by
  rcases List.mem_cons.mp hy with rfl | hy
  · exact o
  · exact h y hy
end
theorem gd_nt {k : Nat} {d : PyData} (h : ∀ w x, d ≠ .tuple [w, x]) : Gd39 k d := ⟨fun w x e => absurd e (h w x)⟩
theorem shM_int {i : Int} (h : Bd 1900 i) : ShM (.int i) := by
  have hz : i.natAbs.log2 < 1920 := (h.mono (show 1900 ≤ 1920 by decide)).log (by decide)
  refine ⟨by simpa [PyData.showable] using hz, Nat.zero_le _, ?_⟩
  have := PyProof.Rows.int_text_len_1921 hz
  show (toString i : Str).length ≤ 20000
  omega
theorem shM_ints {kb : Bool} {is : List Int} (h : ∀ i ∈ is, Bd 1900 i) (hl : is.length ≤ 6) : ShM (sqD kb (is.map PyData.int)) := by
  have key : ∀ l : List Int, (∀ i ∈ l, Bd 1900 i) → PyData.showableAll (l.map PyData.int) = true ∧ PyData.depthAll (l.map PyData.int) = 0 ∧ ((PyData.shownAll (l.map PyData.int)).map (·.length)).sum ≤ 2000 * l.length ∧ (PyData.shownAll (l.map PyData.int)).length = l.length := by
    intro l
    induction l with
    | nil => intro _; exact ⟨rfl, rfl, by simp [PyData.shownAll], rfl⟩
    | cons z r ih =>
      intro h
      obtain ⟨i1, i3, i4, i5⟩ := ih fun y hy => h y (List.mem_cons_of_mem _ hy)
      have hz : z.natAbs.log2 < 1920 := ((h z List.mem_cons_self).mono (show 1900 ≤ 1920 by decide)).log (by decide)
      have tl := PyProof.Rows.int_text_len_1921 hz
      have zs : (PyData.int z).showable = true := by simpa [PyData.showable] using hz
      refine ⟨?_, ?_, ?_, ?_⟩
      · simp [PyData.showableAll, zs, i1]
      · simp [PyData.depthAll, PyData.depth, i3]
      · simp only [List.map_cons, PyData.shownAll, List.sum_cons, List.length_cons]
        have : (PyData.int z).shown.length = (toString z : Str).length := rfl
        omega
      · simp [PyData.shownAll, i5]
  obtain ⟨k1, k3, k4, k5⟩ := key is h
  cases kb with
  | true =>
    refine ⟨by simpa [sqD, PyData.showable] using k1, by simp [sqD, PyData.depth, k3], ?_⟩
    have := listText_len_le (PyData.shownAll (is.map PyData.int))
    rw [k5] at this
    show (listText (PyData.shownAll (is.map PyData.int))).length ≤ 20000
    omega
  | false =>
    refine ⟨by simpa [sqD, PyData.showable] using k1, by simp [sqD, PyData.depth, k3], ?_⟩
    have := tupleText_len_le (PyData.shownAll (is.map PyData.int))
    rw [k5] at this
    show (tupleText (PyData.shownAll (is.map PyData.int))).length ≤ 20000
    omega
theorem pl_ints (is : List Int) : ∀ e ∈ is.map PyData.int, Pl e := fun e he => by
  obtain ⟨i, _, rfl⟩ := List.mem_map.mp he
  exact pl_int i
theorem pl_sq {kb : Bool} {is : List Int} : Pl (sqD kb (is.map PyData.int)) := by
  obtain ⟨h1, h2, h3⟩ := pl_all (pl_ints is)
  have h4 : PyData.depthAll (is.map PyData.int) = 0 := by
    induction is with
    | nil => rfl
    | cons i r ih =>
      have := ih (pl_all (pl_ints r)).1 (pl_all (pl_ints r)).2.1 (pl_all (pl_ints r)).2.2
      simp [PyData.depthAll, PyData.depth, this]
  cases kb with
  | true => exact ⟨by simpa [sqD, PyData.hasDict] using h1, by simpa [sqD, PyData.canLay0] using h2, by simp [sqD, PyData.depth, h4]⟩
  | false => exact ⟨by simpa [sqD, PyData.hasDict] using h1, by simpa [sqD, PyData.canLay0] using h2, by simp [sqD, PyData.depth, h4]⟩
theorem lt9_ints {kb : Bool} {is : List Int} (hl : is.length ≤ 60) : Lt9 (sqD kb (is.map PyData.int)) := fun kc es e => by
  have e := sqD_inj e
  subst e
  exact ⟨by rw [List.length_map]; exact hl, pl_ints is⟩
theorem lt9_nt {d : PyData} (h : isLT d = false) : Lt9 d := fun kb es e => by
  subst e
  cases kb <;> cases h
theorem xg_ints {kb : Bool} {is : List Int} (h : ∀ i ∈ is, Bd 1900 i) (hl : is.length ≤ 6) : Xg (sqD kb (is.map PyData.int)) :=
  ⟨lt9_ints (by omega), fun p q c e => by
    have e : sqD kb (is.map PyData.int) = sqD false ([p, q, c].map PyData.int) := e
    have := ints_inj (sqD_inj e)
    subst this
    exact ⟨h p (by simp), h q (by simp), h c (by simp)⟩, shM_ints h hl⟩
/-- a word and a part -/
theorem ang2 {w : Str} {x : PyData} (hw : PyData.strOk w = true) (hl : (PyData.str w).shown.length ≤ 2000) (hx : Xg x) : Ang (.tuple [.str w, x]) :=
  ⟨⟨fun w' x' e => by
    cases e
    exact ⟨⟨rfl, hw, Nat.zero_le _⟩, hx.l, hx.b⟩⟩, Sho.mk (kb := false) (ds := [.str w, x]) (fun d hd => by
    simp only [List.mem_cons, List.not_mem_nil, or_false] at hd
    rcases hd with rfl | rfl
    · exact ⟨rfl, Nat.zero_le _, by omega⟩
    · exact hx.s) (by simp)⟩
end Lf
namespace Lf
open PySem PySem.Spec PyProof.Rows L2
def plB (d : PyData) : Bool := !d.hasDict && (d.canLay0 && decide (d.depth ≤ 5))
def ltB : PyData → Bool
  | .list es => decide (es.length ≤ 60) && es.all plB
  | .tuple es => decide (es.length ≤ 60) && es.all plB
  | _ => true
def b3B : PyData → Bool
  | .tuple [.int p, .int q, .int c] => decide (p.natAbs < 1000) && (decide (q.natAbs < 1000) && decide (c.natAbs < 1000))
  | _ => true
def smB (d : PyData) : Bool := d.showable && (decide (d.depth ≤ 6) && decide (d.shown.length ≤ 2000))
def gdB : PyData → Bool
  | .tuple [w, x] => plB w && (ltB x && b3B x)
  | _ => true
def odB (d : PyData) : Bool := ltB d && (b3B d && (smB d && gdB d))
theorem plB_of {d : PyData} (h : plB d = true) : Pl d := by
  unfold plB at h
  rw [Bool.and_eq_true, Bool.and_eq_true, decide_eq_true_iff] at h
  exact ⟨by simpa using h.1, h.2.1, h.2.2⟩
theorem ltB_of {d : PyData} (h : ltB d = true) : Lt9 d := fun kb es e => by
  subst e
  have h : (decide (es.length ≤ 60) && es.all plB) = true := by cases kb <;> exact h
  rw [Bool.and_eq_true, decide_eq_true_iff, List.all_eq_true] at h
  exact ⟨h.1, fun e he => plB_of (h.2 e he)⟩
theorem b3B_of {d : PyData} (h : b3B d = true) : ∀ p q c, d = .tuple [.int p, .int q, .int c] → Bd 1900 p ∧ Bd 1900 q ∧ Bd 1900 c := fun p q c e => by
  subst e
  have h : (decide (p.natAbs < 1000) && (decide (q.natAbs < 1000) && decide (c.natAbs < 1000))) = true := h
  rw [Bool.and_eq_true, Bool.and_eq_true, decide_eq_true_iff, decide_eq_true_iff, decide_eq_true_iff] at h
  exact ⟨Bd.small 20 (by omega) (by decide), Bd.small 20 (by omega) (by decide), Bd.small 20 (by omega) (by decide)⟩
def Pd39 (d : PyData) : Prop := Xg d ∧ Ang d
theorem odd_by39 {d : PyData} (h : odB d = true) : Pd39 d := by
  unfold odB at h
  rw [Bool.and_eq_true, Bool.and_eq_true, Bool.and_eq_true] at h
  obtain ⟨h1, h2, h3, h4⟩ := h
  unfold smB at h3
  rw [Bool.and_eq_true, Bool.and_eq_true, decide_eq_true_iff, decide_eq_true_iff] at h3
  refine ⟨⟨ltB_of h1, b3B_of h2, h3.1, h3.2.1, by omega⟩, ⟨⟨fun w x e => ?_⟩, h3.1, by omega, by rw [sizeLine_eq]; omega⟩⟩
  subst e
  have h4 : (plB w && (ltB x && b3B x)) = true := h4
  rw [Bool.and_eq_true, Bool.and_eq_true] at h4
  exact ⟨plB_of h4.1, ltB_of h4.2.1, b3B_of h4.2.2⟩
section
variable {P : Program} {w : World} {K : PySem.W.Frag} {mg : Str → Option Value} {base : Heap}
def spOdd39 : Sp := fun vs H Q _ => ∃ (a : PA) (n : Nat), vs = [.ref a] ∧ Pen H a n ∧ n < 2 ^ 39 ∧ ∀ x H', Odp Pd39 H' x → Pen H' a (n + 1) → Fr H H' → Q x H'
abbrev s_l_odd : Stmt := topS 52
abbrev N_l_odd : List Str := ["_law_pen_here", "_law_some"]
abbrev P_l_odd : List Str := ["_law_pen_here"]
theorem sc_l_odd : FnScope N_l_odd P_l_odd (defScope s_l_odd) := ⟨rfl, rfl, rfl, by decide +kernel, rfl, by decide +kernel, by decide +kernel⟩
theorem ok_l_odd (D : Df K mg "_law_odd" s_l_odd P_l_odd) (c_l_pick : C8.Cal P w K mg base 2 "_law_pick" spPick []) : C8.Cal P w K mg base 3 "_law_odd" spOdd39 [] := by
  refine cal_of D sc_l_odd (fun vs H Q E h => ?_) (fun f cdv A outer s H vs Q E hr h => ?_)
  · obtain ⟨a, n, rfl, _⟩ := h
    rfl
  · obtain ⟨a, n, rfl, hP, hn, kk⟩ := h
    refine ⟨_, (C8.pss_cut (ps_set (i := 1) sc_l_odd.nd rfl (Or.inl rfl) (pe_lst1 (pa_cons pe_non (pa_cons pe_bl (pa_cons pe_int (pa_cons (pe_un un_neg pe_int) (pa_cons pe_str (pa_cons pe_str (pa_cons pe_str (pa_cons (pe_tup (pa_cons pe_int pa_nil)) (pa_cons (pe_tup (pa_cons pe_int (pa_cons pe_int (pa_cons pe_int (pa_cons pe_int pa_nil))))) (pa_cons (pe_lst1 (pa_cons pe_int (pa_cons pe_int pa_nil))) (pa_cons (pe_lst1 (pa_cons pe_int (pa_cons pe_int (pa_cons pe_int pa_nil)))) (pa_cons (pe_tup (pa_cons pe_int (pa_cons pe_int pa_nil))) (pa_cons (pe_tup (pa_cons pe_int (pa_cons pe_int (pa_cons pe_int pa_nil)))) pa_nil)))))))))))))))
    (C8.pss_cut (ps_set (i := 1) sc_l_odd.nd rfl (Or.inl rfl) (pe_op op_cat (pv 1) (pe_lst1 (pa_cons (pe_tup (pa_cons pe_int (pa_cons pe_int pa_nil))) (pa_cons (pe_tup (pa_cons (pe_un un_neg pe_int) (pa_cons pe_int pa_nil))) (pa_cons (pe_tup (pa_cons pe_int (pa_cons pe_int (pa_cons pe_int pa_nil)))) (pa_cons (pe_tup (pa_cons (pe_un un_neg pe_int) (pa_cons pe_int (pa_cons pe_int pa_nil)))) (pa_cons (pe_tup (pa_cons pe_bl (pa_cons pe_int pa_nil))) (pa_cons (pe_tup (pa_cons pe_int (pa_cons pe_bl pa_nil))) (pa_cons (pe_tup (pa_cons pe_bl (pa_cons pe_int (pa_cons pe_int pa_nil)))) (pa_cons (pe_tup (pa_cons pe_int (pa_cons pe_int (pa_cons pe_non pa_nil)))) (pa_cons pe_dnewK (pa_cons (pe_tup (pa_cons (pe_tup pa_nil) pa_nil)) pa_nil)))))))))))))
    (pss_one (ps_ret (C8.pe_c c_l_pick hr (by decide) (by rfl) (pa_cons (pv 0) (pa_cons (pe_op op_cat (pv 1) (pe_lst1 (pa_cons (pe_tup (pa_cons pe_int (pa_cons pe_int pa_nil))) (pa_cons (pe_tup (pa_cons pe_int (pa_cons pe_int (pa_cons pe_int pa_nil)))) (pa_cons (pe_tup (pa_cons pe_str (pa_cons pe_int pa_nil))) (pa_cons (pe_tup (pa_cons pe_non (pa_cons pe_int pa_nil))) (pa_cons (pe_tup (pa_cons pe_int (pa_cons pe_int (pa_cons pe_str pa_nil)))) (pa_cons (pe_disp (pps_cons pe_str pe_int pps_nil) (by rfl) (by rfl) (fun z => by cases z) (by decide)) (pa_cons (pe_op op_pow pe_int pe_int) pa_nil))))))))) pa_nil))))))), ?_⟩
    refine ⟨fun σ' H' => ∃ (O : Addr) (xs : List V), σ' = [some (.ref a), some (.ref O)] ∧ H' O = some (.lst xs) ∧ OdpL Pd39 H' xs ∧ xs.length = 13 ∧ Same H H', ?_, ?_⟩
    · have s0 := Same.refl H
      have l0 := OdpL.nil (Pd := Pd39) (H := H)
      have l0 := l0.snoc (x := .non) ⟨_, .non, odd_by39 (by decide +kernel)⟩
      have l0 := l0.snoc (x := .bl true) ⟨_, .bl true, odd_by39 (by decide +kernel)⟩
      have l0 := l0.snoc (x := .int 0) ⟨_, .int 0, odd_by39 (by decide +kernel)⟩
      refine ⟨1, rfl, ?_⟩
      have l0 := l0.snoc (x := .int (-1)) ⟨_, .int (-1), odd_by39 (by decide +kernel)⟩
      have l0 := l0.snoc (x := .str "") ⟨_, .str "", odd_by39 (by decide +kernel)⟩
      have l0 := l0.snoc (x := .str "at least") ⟨_, .str "at least", odd_by39 (by decide +kernel)⟩
      have l0 := l0.snoc (x := .str "at most 3") ⟨_, .str "at most 3", odd_by39 (by decide +kernel)⟩
      refine ⟨len10 (by simp), fun o1 n1 => ?_⟩
      have z1 := sm_upd (o := .tup [.int 1]) n1
      have s1 := s0.trans z1
      have l1 := (l0.same z1).snoc (x := .ref o1) ⟨_, .tup upd_same (.cons (.int 1) (.nil)), odd_by39 (by decide +kernel)⟩
      refine ⟨len10 (by simp), fun o2 n2 => ?_⟩
      have z2 := sm_upd (o := .tup [.int 1, .int 2, .int 3, .int 4]) n2
      have s2 := s1.trans z2
      have l2 := (l1.same z2).snoc (x := .ref o2) ⟨_, .tup upd_same (.cons (.int 1) (.cons (.int 2) (.cons (.int 3) (.cons (.int 4) (.nil))))), odd_by39 (by decide +kernel)⟩
      refine ⟨len10 (by simp), fun o3 n3 m3 => ?_⟩
      have z3 := sm_upd (o := .lst [.int 1, .int 2]) n3
      have s3 := s2.trans z3
      have l3 := (l2.same z3).snoc (x := .ref o3) ⟨_, .lst m3 upd_same (.cons (.int 1) (.cons (.int 2) (.nil))), odd_by39 (by decide +kernel)⟩
      refine ⟨len10 (by simp), fun o4 n4 m4 => ?_⟩
      have z4 := sm_upd (o := .lst [.int 1, .int 2, .int 3]) n4
      have s4 := s3.trans z4
      have l4 := (l3.same z4).snoc (x := .ref o4) ⟨_, .lst m4 upd_same (.cons (.int 1) (.cons (.int 2) (.cons (.int 3) (.nil)))), odd_by39 (by decide +kernel)⟩
      refine ⟨len10 (by simp), fun o5 n5 => ?_⟩
      have z5 := sm_upd (o := .tup [.int 2, .int 4]) n5
      have s5 := s4.trans z5
      have l5 := (l4.same z5).snoc (x := .ref o5) ⟨_, .tup upd_same (.cons (.int 2) (.cons (.int 4) (.nil))), odd_by39 (by decide +kernel)⟩
      refine ⟨len10 (by simp), fun o6 n6 => ?_⟩
      have z6 := sm_upd (o := .tup [.int 2, .int 4, .int 1]) n6
      have s6 := s5.trans z6
      have l6 := (l5.same z6).snoc (x := .ref o6) ⟨_, .tup upd_same (.cons (.int 2) (.cons (.int 4) (.cons (.int 1) (.nil)))), odd_by39 (by decide +kernel)⟩
      refine ⟨len10 (by simp), fun O N M => ?_⟩
      have z := sm_upd (o := .lst [.non, .bl true, .int 0, .int (-1), .str "", .str "at least", .str "at most 3", .ref o1, .ref o2, .ref o3, .ref o4, .ref o5, .ref o6]) N
      exact ⟨O, _, rfl, upd_same, l6.same z, rfl, s6.trans z⟩
    rintro σ' G1 ⟨O1, xs1, rfl, e1, ol1, ln1, sH1⟩
    refine ⟨fun σ' H' => ∃ (O : Addr) (xs : List V), σ' = [some (.ref a), some (.ref O)] ∧ H' O = some (.lst xs) ∧ OdpL Pd39 H' xs ∧ xs.length = 23 ∧ Same H H', ?_, ?_⟩
    · have s0 := Same.refl G1
      have l0 := OdpL.nil (Pd := Pd39) (H := G1)
      refine ⟨_, rfl, ?_⟩
      refine ⟨len10 (by simp), fun o1 n1 => ?_⟩
      have z1 := sm_upd (o := .tup [.int 1, .int 0]) n1
      have s1 := s0.trans z1
      have l1 := (l0.same z1).snoc (x := .ref o1) ⟨_, .tup upd_same (.cons (.int 1) (.cons (.int 0) (.nil))), odd_by39 (by decide +kernel)⟩
      refine ⟨1, rfl, len10 (by simp), fun o2 n2 => ?_⟩
      have z2 := sm_upd (o := .tup [.int (-1), .int 2]) n2
      have s2 := s1.trans z2
      have l2 := (l1.same z2).snoc (x := .ref o2) ⟨_, .tup upd_same (.cons (.int (-1)) (.cons (.int 2) (.nil))), odd_by39 (by decide +kernel)⟩
      refine ⟨len10 (by simp), fun o3 n3 => ?_⟩
      have z3 := sm_upd (o := .tup [.int 1, .int 0, .int 3]) n3
      have s3 := s2.trans z3
      have l3 := (l2.same z3).snoc (x := .ref o3) ⟨_, .tup upd_same (.cons (.int 1) (.cons (.int 0) (.cons (.int 3) (.nil)))), odd_by39 (by decide +kernel)⟩
      refine ⟨1, rfl, len10 (by simp), fun o4 n4 => ?_⟩
      have z4 := sm_upd (o := .tup [.int (-1), .int 2, .int 0]) n4
      have s4 := s3.trans z4
      have l4 := (l3.same z4).snoc (x := .ref o4) ⟨_, .tup upd_same (.cons (.int (-1)) (.cons (.int 2) (.cons (.int 0) (.nil)))), odd_by39 (by decide +kernel)⟩
      refine ⟨len10 (by simp), fun o5 n5 => ?_⟩
      have z5 := sm_upd (o := .tup [.bl true, .int 1]) n5
      have s5 := s4.trans z5
      have l5 := (l4.same z5).snoc (x := .ref o5) ⟨_, .tup upd_same (.cons (.bl true) (.cons (.int 1) (.nil))), odd_by39 (by decide +kernel)⟩
      refine ⟨len10 (by simp), fun o6 n6 => ?_⟩
      have z6 := sm_upd (o := .tup [.int 1, .bl true]) n6
      have s6 := s5.trans z6
      have l6 := (l5.same z6).snoc (x := .ref o6) ⟨_, .tup upd_same (.cons (.int 1) (.cons (.bl true) (.nil))), odd_by39 (by decide +kernel)⟩
      refine ⟨len10 (by simp), fun o7 n7 => ?_⟩
      have z7 := sm_upd (o := .tup [.bl true, .int 2, .int 1]) n7
      have s7 := s6.trans z7
      have l7 := (l6.same z7).snoc (x := .ref o7) ⟨_, .tup upd_same (.cons (.bl true) (.cons (.int 2) (.cons (.int 1) (.nil)))), odd_by39 (by decide +kernel)⟩
      refine ⟨len10 (by simp), fun o8 n8 => ?_⟩
      have z8 := sm_upd (o := .tup [.int 1, .int 2, .non]) n8
      have s8 := s7.trans z8
      have l8 := (l7.same z8).snoc (x := .ref o8) ⟨_, .tup upd_same (.cons (.int 1) (.cons (.int 2) (.cons (.non) (.nil)))), odd_by39 (by decide +kernel)⟩
      refine fun o9 n9 => ?_
      have z9 := sm_upd (o := .dK []) n9
      have s9 := s8.trans z9
      have l9 := (l8.same z9).snoc (x := .ref o9) ⟨_, .dk0 upd_same, odd_by39 (by decide +kernel)⟩
      refine ⟨Nat.zero_le _, fun o10 n10 => ?_⟩
      have z10 := sm_upd (o := .tup []) n10
      have s10 := s9.trans z10
      have l10 := l9.same z10
      refine ⟨len10 (by simp), fun o11 n11 => ?_⟩
      have z11 := sm_upd (o := .tup [.ref o10]) n11
      have s11 := s10.trans z11
      have l11 := (l10.same z11).snoc (x := .ref o11) ⟨_, .tup upd_same (.cons (.tup (z11 _ _ upd_same) .nil) (.nil)), odd_by39 (by decide +kernel)⟩
      refine ⟨len10 (by simp), fun O N M => ?_⟩
      have z := sm_upd (o := .lst [.ref o1, .ref o2, .ref o3, .ref o4, .ref o5, .ref o6, .ref o7, .ref o8, .ref o9, .ref o11]) N
      have s := s11.trans z
      refine ⟨O1, O, _, _, rfl, rfl, s _ _ e1, upd_same, len10 (by rw [ln1]; show 13 + 10 ≤ 1000; decide), fun O2 N2 => ?_⟩
      have z2 := sm_upd (o := .lst (xs1 ++ [.ref o1, .ref o2, .ref o3, .ref o4, .ref o5, .ref o6, .ref o7, .ref o8, .ref o9, .ref o11])) N2
      refine ⟨O2, _, rfl, upd_same, ?_, by rw [List.length_append, ln1]; rfl, sH1.trans (s.trans z2)⟩
      intro x hx
      rcases List.mem_append.mp hx with hx | hx
      · exact ((ol1.same s).same z2) x hx
      · exact ((l11.same z).same z2) x hx
    rintro σ' G2 ⟨O2, xs2, rfl, e2, ol2, ln2, sH2⟩
    have s0 := Same.refl G2
    have l0 := OdpL.nil (Pd := Pd39) (H := G2)
    refine ⟨_, rfl, _, rfl, ?_⟩
    refine ⟨len10 (by simp), fun o1 n1 => ?_⟩
    have z1 := sm_upd (o := .tup [.int 0, .int 2]) n1
    have s1 := s0.trans z1
    have l1 := (l0.same z1).snoc (x := .ref o1) ⟨_, .tup upd_same (.cons (.int 0) (.cons (.int 2) (.nil))), odd_by39 (by decide +kernel)⟩
    refine ⟨len10 (by simp), fun o2 n2 => ?_⟩
    have z2 := sm_upd (o := .tup [.int 0, .int 2, .int 0]) n2
    have s2 := s1.trans z2
    have l2 := (l1.same z2).snoc (x := .ref o2) ⟨_, .tup upd_same (.cons (.int 0) (.cons (.int 2) (.cons (.int 0) (.nil)))), odd_by39 (by decide +kernel)⟩
    refine ⟨len10 (by simp), fun o3 n3 => ?_⟩
    have z3 := sm_upd (o := .tup [.str "1", .int 2]) n3
    have s3 := s2.trans z3
    have l3 := (l2.same z3).snoc (x := .ref o3) ⟨_, .tup upd_same (.cons (.str "1") (.cons (.int 2) (.nil))), odd_by39 (by decide +kernel)⟩
    refine ⟨len10 (by simp), fun o4 n4 => ?_⟩
    have z4 := sm_upd (o := .tup [.non, .int 1]) n4
    have s4 := s3.trans z4
    have l4 := (l3.same z4).snoc (x := .ref o4) ⟨_, .tup upd_same (.cons (.non) (.cons (.int 1) (.nil))), odd_by39 (by decide +kernel)⟩
    refine ⟨len10 (by simp), fun o5 n5 => ?_⟩
    have z5 := sm_upd (o := .tup [.int 1, .int 2, .str "3"]) n5
    have s5 := s4.trans z5
    have l5 := (l4.same z5).snoc (x := .ref o5) ⟨_, .tup upd_same (.cons (.int 1) (.cons (.int 2) (.cons (.str "3") (.nil)))), odd_by39 (by decide +kernel)⟩
    refine fun o6 n6 => ⟨upd_same, [(Sum.inr "at least", .int 1)], rfl, by show 1 ≤ 15; decide, ?_⟩
    rw [upd_upd, mergeK1]
    have z6 := sm_upd (o := .dK [(Sum.inr "at least", .int 1)]) n6
    have s6 := s5.trans z6
    have l6 := (l5.same z6).snoc (x := .ref o6) ⟨_, .dk1 upd_same (.int 1), odd_by39 (by decide +kernel)⟩
    refine ⟨_, _, rfl, rfl, ⟨by decide, by decide, by decide⟩, ?_⟩
    have l6 := l6.snoc (x := .int (10 ^ (30 : Int).toNat)) ⟨_, .int _, odd_by39 (by decide +kernel)⟩
    refine ⟨len10 (by simp), fun O N M => ?_⟩
    have z := sm_upd (o := .lst [.ref o1, .ref o2, .ref o3, .ref o4, .ref o5, .ref o6, .int (10 ^ (30 : Int).toNat)]) N
    have s := s6.trans z
    refine ⟨O2, O, _, _, rfl, rfl, s _ _ e2, upd_same, len10 (by rw [ln2]; show 23 + 7 ≤ 1000; decide), fun O2 N2 => ?_⟩
    have z2 := sm_upd (o := .lst (xs2 ++ [.ref o1, .ref o2, .ref o3, .ref o4, .ref o5, .ref o6, .int (10 ^ (30 : Int).toNat)])) N2
    have ol : OdpL Pd39 _ (xs2 ++ [.ref o1, .ref o2, .ref o3, .ref o4, .ref o5, .ref o6, .int (10 ^ (30 : Int).toNat)]) := ((ol2.same s).same z2).app ((l6.same z).same z2)
    have sF := sH2.trans (s.trans z2)
    refine ⟨a, O2, _, _, rfl, hP.same sF, by omega, upd_same, (fun e => by have := congrArg List.length e; rw [List.length_append, ln2] at this; cases this), by rw [List.length_append, ln2]; show 23 + 7 ≤ 1000; decide, fun x H' hx hP' f' => ?_⟩
    exact kk x H' ((ol.kp f'.kp) x hx) hP' ((Fr.same sF).trans f')
end
end Lf
namespace Lf
open PySem PySem.Spec PyProof.Rows L2
theorem filt_nil3 {ds : List PyData} (h : ds.filter (fun d => !isI d) = []) : ∀ d ∈ ds, isI d = true := fun d hd => by
  have := List.filter_eq_nil_iff.mp h d hd
  simpa using this
theorem ruleD_three {ds : List PyData} (h : ruleD (.tuple ds) = true) : ∀ d ∈ ds, isI d = true := by
  obtain ⟨p, q, c, e, _⟩ := ruleD_inv h
  cases e
  intro d hd
  simp only [List.mem_cons, List.not_mem_nil, or_false] at hd
  rcases hd with rfl | rfl | rfl <;> rfl
section
variable {P : Program} {w : World} {K : PySem.W.Frag} {mg : Str → Option Value} {base : Heap} {TS : List (Addr × Str)}
/-! ### _law_is_rule, of any value -/
def spIsRuLD : Sp := fun vs H Q _ => ∃ (v : V) (d : PyData), vs = [v] ∧ Dv H v d ∧ Lt9 d ∧ ∀ H', Same H H' → Q (.bl (ruleD d)) H'
abbrev s_l_is_rule : Stmt := topS 55
abbrev N_l_is_rule : List Str := ["_law_value", "_law_part"]
abbrev P_l_is_rule : List Str := ["_law_value"]
theorem sc_l_is_rule : FnScope N_l_is_rule P_l_is_rule (defScope s_l_is_rule) := ⟨rfl, rfl, rfl, by decide +kernel, rfl, by decide +kernel, by decide +kernel⟩
theorem ok_l_is_rule (D : Df K mg "_law_is_rule" s_l_is_rule P_l_is_rule) (B : Bi mg) (c_l_gcd : C8.Cal P w K mg base 1 "_law_gcd" spGcd []) : C8.Cal P w K mg base 2 "_law_is_rule" spIsRuLD [] := by
  refine cal_of D sc_l_is_rule (fun vs H Q E h => ?_) (fun f cdv A outer s H vs Q E hr h => ?_)
  · obtain ⟨v, d, rfl, _⟩ := h
    rfl
  · obtain ⟨v, d, rfl, hv, hl9, kk⟩ := h
    refine ⟨_, (pss_cons (ps_if (PW.pt (pw_or (pt_not (pt_val (pe_callB (call_isi) (by rfl) B.isinstance_ bt_isinstance (pa_cons (pv 0) (pa_cons (pe_bltn (v := .ty "tuple") (by rfl) B.tuple_ bt_tuple rfl) pa_nil))))) (pw_or1 (pt_cmpR op_ne (pe_callB (call_len_seq) (by rfl) B.len_ bt_len (pa_cons (pv 0) pa_nil)) pe_int (nomark _)))))
      (pss_one (ps_ret pe_bl))
      pss_nil)
    (pss_cons (ps_if (pt_cmpR (op_neD hr.units) (pe_lc (own := [("_law_part", 1)]) (g := (gName 1)) (by rfl) sc_l_is_rule.nd (pi_tup (pv 0)) (blkOk_by (own := [("_law_part", 1)]) (N := N_l_is_rule) (sc := defScope s_l_is_rule) (by decide +kernel)) (fun _ _ _ _ _ => (pg_name (i := 1) sc_l_is_rule.nd rfl (Or.inl rfl))) (fun _ _ _ _ _ => (pts_one (PW.pt (pw_or (pt_not (pt_val (pe_callB ((show CallR _ _ (rIsi K) from call_isi)) (by rfl) B.isinstance_ bt_isinstance (pa_cons (pv 1) (pa_cons (pe_bltn (v := .ty "int") (by rfl) B.int_ bt_int rfl) pa_nil))))) (pw_or1 (pt_val (pe_callB ((show CallR _ _ (rIsi K) from call_isi)) (by rfl) B.isinstance_ bt_isinstance (pa_cons (pv 1) (pa_cons (pe_bltn (v := .ty "bool") (by rfl) B.bool_ bt_bool rfl) pa_nil))))))))) (fun _ _ _ _ _ => (pv 1))) (pe_lst pa_nil) (nomark _))
      (pss_one (ps_ret pe_bl))
      pss_nil)
    (pss_one (ps_ret (pe_and (pe_cmpR op_ge (pe_ix (r := rIxT K) ix_tup (pv 0) pe_int (fun _ _ => rfl)) pe_int (nomark _)) (pe_and (pe_cmpR op_ge (pe_ix (r := rIxT K) ix_tup (pv 0) pe_int (fun _ _ => rfl)) pe_int (nomark _)) (pe_one (pe_cmpR op_eq (C8.pe_c c_l_gcd hr (by decide) (by rfl) (pa_cons (pe_ix (r := rIxT K) ix_tup (pv 0) pe_int (fun _ _ => rfl)) (pa_cons (pe_ix (r := rIxT K) ix_tup (pv 0) pe_int (fun _ _ => rfl)) pa_nil))) pe_int (nomark _))))))))), ?_⟩
    refine ⟨_, rfl, _, _, _, _, isT' d, rfl, .ty "tuple", hv.ty, kit_ty (kit_tup' d), isT' d, rfl, ?_⟩
    cases ht : isT' d with
    | false =>
      have e : ruleD d = false := by
        cases d <;> first | rfl | cases ht
      rw [e] at kk
      exact iteT (iteT (kk _ (Same.refl _)))
    | true =>
      cases hv with
      | tup er hs =>
        rename_i r xs ds
        refine iteF ⟨_, rfl, r, _, rfl, .inr (SqT.of er), rfl, _, rfl, ?_⟩
        have hl := dva_len9 hs
        obtain ⟨_, pla⟩ := hl9 false ds rfl
        by_cases h3 : xs.length = 3
        · refine iteNS (by rw [h3]; rfl) ?_
          refine ⟨_, rfl, r, rfl, ⟨_, SqT.of er⟩, fun Y nY => ?_⟩
          refine lc_it (walk_tup (K := K) (a := r) (xs := xs)) (fun i H' => ∃ ys, H' Y = some (.lst ys) ∧ DvAll H ys ((ds.take i).filter fun d => !isI d) ∧ Same H H') ⟨_, upd_same, .nil, sm_upd nY⟩ ?_ ?_ ?_
          · rintro i H7 _ ⟨_, _, _, s7⟩
            exact SqT.of (s7 _ _ er)
          · rintro i x _ H7 hi ⟨ys, eY, sY, s7⟩ ⟨rfl, hx⟩
            obtain ⟨dd, hd, hs0⟩ := dva_at hs hx
            have hs7 := Dv.kp (Fr.same s7).kp _ _ hs0
            have ft := filtG (f := fun d => !isI d) hd
            have yl : ys.length < sizeLine := by
              have h1 := dva_len9 sY
              have h2 := List.length_filter_le (fun d => !isI d) (ds.take i)
              rw [List.length_take] at h2
              exact small1000 (by omega)
            have bad : isI dd = false → ∃ acc, H7 Y = some (.lst acc) ∧ acc.length < sizeLine ∧ (fun i H' => ∃ ys, H' Y = some (.lst ys) ∧ DvAll H ys ((ds.take i).filter fun d => !isI d) ∧ Same H H') (i + 1) (upd H7 Y (.lst (acc ++ [x]))) := fun g => by
              refine ⟨ys, eY, yl, ys ++ [x], upd_same, ?_, fun b o eb => ?_⟩
              · rw [ft, if_pos (by rw [g]; rfl)]
                exact dva_snoc sY hs0
              · rw [upd_ne (ne_of_none eb nY)]
                exact s7 _ _ eb
            refine ⟨rfl, ⟨_, rfl, _, _, _, _, isIB dd, rfl, .ty "int", hs7.ty, kit_ty (kit_int dd), isIB dd, rfl, ?_⟩⟩
            cases hs7 with
            | int z =>
              refine iteF ⟨_, rfl, _, _, _, _, false, rfl, .ty "bool", (Dv.int _).ty, kit_ty (kit_bool (.int _)), false, rfl, iteF ⟨ys, eY, ?_, s7⟩⟩
              rw [ft, if_neg (by show ¬ (!true) = true; decide), List.append_nil]
              exact sY
            | bl b => exact iteF ⟨_, rfl, _, _, _, _, true, rfl, .ty "bool", (Dv.bl _).ty, kit_ty (kit_bool (.bool _)), true, rfl, iteT ⟨_, rfl, bad rfl⟩⟩
            | _ => exact iteT (iteT ⟨_, rfl, bad rfl⟩)
          rintro H7 ⟨ys, eY, sY, s7⟩
          rw [List.take_of_length_le (by rw [hl]; exact Nat.le_refl _)] at sY
          refine ⟨Nat.zero_le _, fun W nW => ?_⟩
          have zW := sm_upd (o := .lst []) nW
          have plf : ∀ e ∈ (ds.filter fun d => !isI d), Pl e := fun e he => pla e (List.mem_filter.mp he).1
          have sY8 := Dv.kpAll (Fr.same (s7.trans zW)).kp _ _ sY
          refine ⟨.list (ds.filter fun d => !isI d), .list [], Dp.lst (SqL.of (zW _ _ eY)) (Dv.dpAll _ _ sY8 (pl_all plf).1), Dp.lst (SqL.of upd_same) .nil, pl_shaped plf, rfl, _, rfl, ?_⟩
          have s8 := s7.trans zW
          generalize upd H7 W (.lst []) = H8 at s8 ⊢
          cases hf : ds.filter (fun d => !isI d) with
          | cons z zs =>
            have e : ruleD (.tuple ds) = false := by
              cases e : ruleD (.tuple ds) with
              | false => rfl
              | true =>
                have hz : z ∈ ds.filter (fun d => !isI d) := by rw [hf]; exact List.mem_cons_self
                obtain ⟨h1, h2⟩ := List.mem_filter.mp hz
                rw [ruleD_three e z h1] at h2
                cases h2
            rw [e] at kk
            exact iteT (kk _ s8)
          | nil =>
            refine iteFz rfl ?_
            have all := filt_nil3 hf
            have er8 := s8 _ _ er
            match xs, ds, hs, h3, hl, all with
            | [v0, v1, v2], [d0, d1, d2], hs, _, _, all =>
              cases hs with
              | cons g0 hs =>
                cases hs with
                | cons g1 hs =>
                  cases hs with
                  | cons g2 hs =>
                    cases hs
                    obtain ⟨p, rfl, rfl⟩ := isI_inv3 g0 (all _ (by simp))
                    obtain ⟨q, rfl, rfl⟩ := isI_inv3 g1 (all _ (by simp))
                    obtain ⟨c, rfl, rfl⟩ := isI_inv3 g2 (all _ (by simp))
                    have kk : ∀ H', Same H H' → Q (.bl (decide (0 ≤ p) && (decide (1 ≤ q) && decide (V.int (Int.gcd p q : Int) = V.int 1)))) H' := kk
                    refine ⟨_, rfl, r, _, _, _, rfl, rfl, SqT.of er8, atI_nat (j := 0) rfl, _, _, rfl, rfl, _, rfl, ite2 (fun c1 => ?_) (fun c1 => ?_)⟩
                    · have c1 : p ≥ 0 := of_decide_eq_true c1
                      rw [decide_eq_true (show 0 ≤ p from c1), Bool.true_and] at kk
                      refine ⟨_, rfl, r, _, _, _, rfl, rfl, SqT.of er8, atI_nat (j := 1) rfl, _, _, rfl, rfl, _, rfl, ite2 (fun c2 => ?_) (fun c2 => ?_)⟩
                      · have c2 : q ≥ 1 := of_decide_eq_true c2
                        rw [decide_eq_true (show 1 ≤ q from c2), Bool.true_and] at kk
                        exact ⟨_, rfl, r, _, _, _, rfl, rfl, SqT.of er8, atI_nat (j := 0) rfl, _, rfl, r, _, _, _, rfl, rfl, SqT.of er8, atI_nat (j := 1) rfl, p, q, rfl, c1, by omega, rfl, kk _ s8⟩
                      · have c2 : ¬ q ≥ 1 := fun z => c2 (decide_eq_true z)
                        rw [decide_eq_false (show ¬ 1 ≤ q from c2), Bool.false_and] at kk
                        exact kk _ s8
                    · have c1 : ¬ p ≥ 0 := fun z => c1 (decide_eq_true z)
                      rw [decide_eq_false (show ¬ 0 ≤ p from c1), Bool.false_and] at kk
                      exact kk _ s8
        · rw [rule_three (by omega)] at kk
          exact iteTs (len_ne3 h3) (kk _ (Same.refl _))
      | _ => cases ht
/-! ### _law_due -/
def spDue39 (TS : List (Addr × Str)) : Sp := fun vs H Q _ => ∃ (L : Addr) (v : V) (d : PyData) (xs : List V) (ds : List Rec) (k : Nat), vs = [.ref L, v] ∧ H L = some (.lst xs) ∧ Obs rcO H xs ds ∧ ds.length ≤ 201 ∧ RcB k ds ∧ 0 < k ∧ k ≤ 1900 ∧ Dv H v d ∧ Gd39 1900 d ∧ LamX.Tabs TS H ∧
  ∀ b H', LamX.ExtN H H' → LamX.Tabs TS H' → (b = true ↔ ansP ds d) → Q (.bl b) H'
def isSt : PyData → Bool
  | .str _ => true
  | _ => false
theorem kit_st (d : PyData) : kitB (tyN d) "str" = some (isSt d) := by
  cases d
  · show kitB "NoneType" "str" = some false; decide +kernel
  · show kitB "bool" "str" = some false; decide +kernel
  · show kitB "int" "str" = some false; decide +kernel
  · show kitB "str" "str" = some true; decide +kernel
  · show kitB "list" "str" = some false; decide +kernel
  · show kitB "tuple" "str" = some false; decide +kernel
  · show kitB "dict" "str" = some false; decide +kernel
abbrev s_l_due : Stmt := topS 56
abbrev N_l_due : List Str := ["_law_longer", "_law_value", "_law_one", "_law_index_here"]
abbrev P_l_due : List Str := ["_law_longer", "_law_value"]
theorem sc_l_due : FnScope N_l_due P_l_due (defScope s_l_due) := ⟨rfl, rfl, rfl, by decide +kernel, rfl, by decide +kernel, by decide +kernel⟩
theorem ok_l_due (D : Df K mg "_law_due" s_l_due P_l_due) (B : Bi mg) (c_l_is_rule : C8.Cal P w K mg base 2 "_law_is_rule" spIsRuLD []) (c_l_fits : C8.Cal P w K mg base 2 "_law_fits" spFit28 []) (c_l_are_indexes : C8.Cal P w K mg base 1 "_law_are_indexes" spAreLD []) (c_l_is_conflict : C8.Cal P w K mg base 1 "_law_is_conflict" (spIsC TS) []) : C8.Cal P w K mg base 3 "_law_due" (spDue39 TS) [] := by
  refine cal_of D sc_l_due (fun vs H Q E h => ?_) (fun f cdv A outer s H vs Q E hr h => ?_)
  · obtain ⟨L, v, d, xs, ds, k, rfl, _⟩ := h
    rfl
  · obtain ⟨L, v, d, xs, ds, k, rfl, eL, hO, hl, bd, k0, k1, hv, gd, hT, kk⟩ := h
    refine ⟨_, (pss_cons (ps_if (PW.pt (pw_or (pt_not (pt_val (pe_callB (call_isi) (by rfl) B.isinstance_ bt_isinstance (pa_cons (pv 1) (pa_cons (pe_bltn (v := .ty "tuple") (by rfl) B.tuple_ bt_tuple rfl) pa_nil))))) (pw_or (pt_cmpR op_ne (pe_callB (call_len_seq) (by rfl) B.len_ bt_len (pa_cons (pv 1) pa_nil)) pe_int (nomark _)) (pw_or1 (pt_not (pt_val (pe_callB (call_isi) (by rfl) B.isinstance_ bt_isinstance (pa_cons (pe_ix (r := rIxT K) ix_tup (pv 1) pe_int (fun _ _ => rfl)) (pa_cons (pe_bltn (v := .ty "str") (by rfl) B.str_ bt_str rfl) pa_nil)))))))))
      (pss_one (ps_ret pe_bl))
      pss_nil)
    (pss_cons (ps_if (pt_cmpR op_eq (pe_ix (r := rIxT K) ix_tup (pv 1) pe_int (fun _ _ => rfl)) pe_str (nomark _))
      (pss_one (ps_ret (pe_and (C8.pe_c c_l_is_rule hr (by decide) (by rfl) (pa_cons (pe_ix (r := rIxT K) ix_tup (pv 1) pe_int (fun _ _ => rfl)) pa_nil)) (pe_one (pe_cmpR (op_eqD hr.units) (pe_lc (own := [("_law_one", 2)]) (g := (gName 2)) (by rfl) sc_l_due.nd (pi_list (pv 0)) (blkOk_by (own := [("_law_one", 2)]) (N := N_l_due) (sc := defScope s_l_due) (by decide +kernel)) (fun _ _ _ _ _ => (pg_name (i := 2) sc_l_due.nd rfl (Or.inl rfl))) (fun _ _ _ _ _ => (pts_one (pt_not (pt_val (C8.pe_c c_l_fits hr (by decide) (by rfl) (pa_cons (pe_ix (r := rIxT K) ix_tup (pv 1) pe_int (fun _ _ => rfl)) (pa_cons (pv 2) pa_nil))))))) (fun _ _ _ _ _ => (pv 2))) (pe_lst pa_nil) (nomark _))))))
      pss_nil)
    (pss_cons (ps_if (PW.pt (pw_or (pt_cmpR op_ne (pe_ix (r := rIxT K) ix_tup (pv 1) pe_int (fun _ _ => rfl)) pe_str (nomark _)) (pw_or (pt_not (pt_val (C8.pe_c c_l_are_indexes hr (by decide) (by rfl) (pa_cons (pe_ix (r := rIxT K) ix_tup (pv 1) pe_int (fun _ _ => rfl)) (pa_cons (pe_callB (call_len_seq) (by rfl) B.len_ bt_len (pa_cons (pv 0) pa_nil)) pa_nil))))) (pw_or1 (pt_not (pt_chain op_le op_le pe_int (pe_callB (call_len_seq) (by rfl) B.len_ bt_len (pa_cons (pe_ix (r := rIxT K) ix_tup (pv 1) pe_int (fun _ _ => rfl)) pa_nil)) pe_int))))))
      (pss_one (ps_ret pe_bl))
      pss_nil)
    (pss_one (ps_ret (C8.pe_c c_l_is_conflict hr (by decide) (by rfl) (pa_cons (pe_lc (own := [("_law_index_here", 3)]) (g := (gName 3)) (by rfl) sc_l_due.nd (pi_seq (pe_ix (r := rIxT K) ix_tup (pv 1) pe_int (fun _ _ => rfl))) (blkOk_by (own := [("_law_index_here", 3)]) (N := N_l_due) (sc := defScope s_l_due) (by decide +kernel)) (fun _ _ _ _ _ => (pg_name (i := 3) sc_l_due.nd rfl (Or.inl rfl))) (fun _ _ _ _ _ => pts_nil) (fun _ _ _ _ _ => (pe_ix (r := rIxL K) ix_list (pv 0) (pv 3) (fun _ _ => rfl)))) pa_nil))))))), ?_⟩
    have x0 := LamX.ExtN.refl H
    refine ⟨_, rfl, _, _, _, _, isT' d, rfl, .ty "tuple", hv.ty, kit_ty (kit_tup' d), isT' d, rfl, ?_⟩
    cases ht : isT' d with
    | false => exact iteT (iteT (kk false _ x0 hT ⟨fun z => (nomatch z), fun z => absurd z (ans_nt ht)⟩))
    | true =>
      cases hv with
      | tup eT hs =>
        rename_i T vs ws
        have hl2 := dva_len9 hs
        refine iteF ⟨_, rfl, T, _, rfl, .inr (SqT.of eT), rfl, _, rfl, ?_⟩
        by_cases h2 : vs.length = 2
        · match vs, ws, hs, h2, hl2 with
          | [v0, v1], [d0, d1], hs, _, _ =>
            cases hs with
            | cons g0 hs =>
              cases hs with
              | cons g1 hs =>
                cases hs
                obtain ⟨pw, lx, bx⟩ := gd.w d0 d1 rfl
                have no : (∀ x : Str, d0 = .str x → x ≠ "open" ∧ x ≠ "follows") → ¬ ansP ds (.tuple [d0, d1]) := fun h => by
                  rintro (⟨x, e, _⟩ | ⟨x, e, _⟩) <;> cases e
                  · exact (h _ rfl).1 rfl
                  · exact (h _ rfl).2 rfl
                refine iteNS rfl ?_
                refine ⟨_, rfl, T, _, _, _, rfl, rfl, SqT.of eT, atI_nat (j := 0) rfl, _, _, _, _, isSt d0, rfl, .ty "str", g0.ty, kit_ty (kit_st d0), isSt d0, rfl, ?_⟩
                cases g0 with
                | str x =>
                  refine iteF ⟨_, rfl, T, _, _, _, rfl, rfl, SqT.of eT, atI_nat (j := 0) rfl, rfl, _, rfl, ?_⟩
                  by_cases c1 : x = "open"
                  · subst c1
                    refine iteTs (decide_eq_true rfl) ?_
                    have iff2 : ansP ds (.tuple [.str "open", d1]) ↔ opA ds d1 := by
                      constructor
                      · rintro (⟨x, e, h⟩ | ⟨x, e, _⟩)
                        · cases e
                          exact h
                        · have e1 := (List.cons.inj (PyData.tuple.inj e)).1
                          exact absurd (PyData.str.inj e1) opn_fo
                      · exact fun z => .inl ⟨d1, rfl, z⟩
                    refine ⟨_, rfl, T, _, _, _, rfl, rfl, SqT.of eT, atI_nat (j := 1) rfl, v1, d1, rfl, g1, lx, fun H1 s1 => ?_⟩
                    refine ⟨ruleD d1, rfl, ?_⟩
                    have x1 : LamX.ExtN H H1 := LamX.ExtN.of fun b o e => s1 b o e
                    have hT1 := tabs_same hT s1
                    cases hr1 : ruleD d1 with
                    | false => exact iteF (kk false _ x1 hT1 ⟨fun z => (nomatch z), fun z => absurd (hr1.symm.trans (iff2.mp z).1) (by decide)⟩)
                    | true =>
                      refine iteT ?_
                      obtain ⟨p, q, c, rfl, p0, q1, gg⟩ := ruleD_inv hr1
                      obtain ⟨bp, bq, bc⟩ := bx p q c rfl
                      have R : RuleB 1900 p q c := ⟨p0, q1, gg, bp, bq, bc⟩
                      have g1 := Dv.kp (Fr.same s1).kp _ _ g1
                      obtain ⟨r', rfl, er'⟩ : ∃ r', v1 = .ref r' ∧ H1 r' = some (.tup [.int p, .int q, .int c]) := dv_ints (kc := false) (is := [p, q, c]) g1
                      have eL := s1 _ _ eL
                      have hO := hO.same s1
                      have eT := s1 _ _ eT
                      refine ⟨_, rfl, L, rfl, ⟨_, SqL.of eL⟩, fun Y nY => ?_⟩
                      refine lc_it (walk_list (K := K) (a := L) (xs := xs)) (fun i H' => ∃ ys, H' Y = some (.lst ys) ∧ Obs rcO H' ys ((ds.take i).filter fun e => !fitB p q c e) ∧ Same H1 H') ⟨_, upd_same, .nil, sm_upd nY⟩ ?_ ?_ ?_
                      · rintro i H7 _ ⟨_, _, _, s7⟩
                        exact SqL.of (s7 _ _ eL)
                      · rintro i x H7 _ hi ⟨ys, eY, oY, s7⟩ ⟨rfl, hx⟩
                        obtain ⟨e, d', rfl, ed, hd⟩ := hO.at hx
                        have dm := List.mem_of_getElem? hd
                        have ft := filtG (f := fun e => !fitB p q c e) hd
                        have yl : ys.length < sizeLine := by
                          have h1 := oY.len
                          have h2 := List.length_filter_le (fun e => !fitB p q c e) (ds.take i)
                          rw [List.length_take] at h2
                          exact small1000 (by omega)
                        refine ⟨rfl, _, rfl, T, _, _, _, rfl, rfl, SqT.of (s7 _ _ eT), atI_nat (j := 1) rfl, _, rfl, r', e, p, q, c, d', 1900, rfl, s7 _ _ er', s7 _ _ ed, R, (bd d' dm).1.mono (by omega), by omega, by omega, ⟨_, rfl, ?_⟩⟩
                        cases hf : fitB p q c d' with
                        | true =>
                          refine iteF ⟨ys, eY, ?_, s7⟩
                          rw [ft, hf, if_neg (by decide), List.append_nil]
                          exact oY
                        | false =>
                          refine iteT ⟨_, rfl, ys, eY, yl, ys ++ [.ref e], upd_same, ?_, fun b o eb => ?_⟩
                          · rw [ft, hf, if_pos (by decide)]
                            refine Obs.keep (oY.snoc (s7 _ _ ed)) fun b d' eb => ?_
                            rw [upd_ne (ne_of eb eY (by intro q; cases q))]
                            exact eb
                          · rw [upd_ne (ne_of_none eb nY)]
                            exact s7 _ _ eb
                      rintro H7 ⟨ys, eY, oY, s7⟩
                      rw [List.take_of_length_le (by rw [hO.len]; exact Nat.le_refl _)] at oY
                      refine ⟨Nat.zero_le _, fun W nW => ?_⟩
                      have zW := sm_upd (o := .lst []) nW
                      refine ⟨.list ((ds.filter fun e => !fitB p q c e).map rcD), .list [], Dp.lst (SqL.of (zW _ _ eY)) (dp_recs (oY.same zW)), Dp.lst (SqL.of upd_same) .nil, sh_recs _, rfl, ?_⟩
                      refine kk _ _ (x1.trans (LamX.ExtN.of fun b o e => (s7.trans zW) b o e)) (tabs_same hT1 (s7.trans zW)) ?_
                      rw [iff2]
                      have e0 : PyData.eqv (.list ((ds.filter fun e => !fitB p q c e).map rcD)) (.list []) = true ↔ (ds.filter fun e => !fitB p q c e) = [] := by
                        cases ds.filter fun e => !fitB p q c e with
                        | nil => exact ⟨fun _ => rfl, fun _ => rfl⟩
                        | cons a b => exact ⟨fun z => (by simp [PyData.eqv, PyData.eqvAll] at z), fun z => (nomatch z)⟩
                      rw [e0, List.filter_eq_nil_iff]
                      unfold opA
                      constructor
                      · exact fun z => ⟨hr1, fun p' q' c' e => by cases e; exact fun x hx => by have := z x hx; simpa using this⟩
                      · exact fun z x hx => by rw [z.2 p q c rfl x hx]; decide
                  · refine iteFz (decide_eq_false fun z => c1 (V.str.inj z)) ?_
                    refine ⟨_, rfl, T, _, _, _, rfl, rfl, SqT.of eT, atI_nat (j := 0) rfl, rfl, _, rfl, ?_⟩
                    by_cases c2 : x = "follows"
                    · subst c2
                      refine iteFs (by rw [decide_eq_true rfl]; rfl) ?_
                      have iff2 : ansP ds (.tuple [.str "follows", d1]) ↔ cfP ds d1 := by
                        constructor
                        · rintro (⟨x, e, _⟩ | ⟨x, e, h⟩)
                          · have e1 := (List.cons.inj (PyData.tuple.inj e)).1
                            exact absurd (PyData.str.inj e1) fo_opn
                          · cases e
                            exact h
                        · exact fun z => .inr ⟨d1, rfl, z⟩
                      refine ⟨_, rfl, T, _, _, _, rfl, rfl, SqT.of eT, atI_nat (j := 1) rfl, _, rfl, L, _, rfl, .inl (SqL.of eL), v1, d1, ds.length, by rw [hO.len]; rfl, g1, lx, fun b H1 s1 hb => ⟨b, rfl, ?_⟩⟩
                      have x1 : LamX.ExtN H H1 := LamX.ExtN.of fun b o e => s1 b o e
                      have hT1 := tabs_same hT s1
                      cases b with
                      | false => exact iteT (iteT (kk false _ x1 hT1 ⟨fun z => (nomatch z), fun z => Bool.noConfusion (hb.mpr (cf_ix (iff2.mp z)))⟩))
                      | true =>
                        refine iteF ?_
                        obtain ⟨kc, js, rfl, up, lt⟩ := hb.mp rfl
                        have g1 := Dv.kp (Fr.same s1).kp _ _ g1
                        obtain ⟨J, rfl, eJ⟩ := dv_ints g1
                        have eL := s1 _ _ eL
                        have hO := hO.same s1
                        have eT := s1 _ _ eT
                        have lj : ((ni js).map V.int).length = js.length := by rw [List.length_map, ni_len]
                        have uniq : ∀ {P : Prop}, (cfP ds (sqD kc ((ni js).map PyData.int)) → P) ↔ (2 ≤ js.length → js.length ≤ 3 → Cf (pk ds js) → P) := fun {P} => ⟨fun h a b c => h ⟨kc, js, rfl, up, lt, a, b, c⟩, fun h ⟨kb', js', e, _, _, a, b, c⟩ => by
                          have e := ni_inj (ints_inj (sqD_inj e))
                          subst e
                          exact h a b c⟩
                        refine ⟨_, rfl, T, _, _, _, rfl, rfl, SqT.of eT, atI_nat (j := 1) rfl, J, _, rfl, (SqB.of eJ).or, _, _, rfl, rfl, _, rfl, ?_⟩
                        rw [lj]
                        by_cases c2 : (2 : Int) ≤ ((js.length : Nat) : Int)
                        · refine iteD c2 ⟨_, _, rfl, rfl, _, rfl, ?_⟩
                          by_cases c3 : ((js.length : Nat) : Int) ≤ 3
                          · refine iteFz (by rw [decide_eq_true c3]; rfl) ?_
                            refine ⟨_, rfl, T, _, _, _, rfl, rfl, SqT.of eT, atI_nat (j := 1) rfl, J, kc, _, rfl, SqB.of eJ, fun Y nY => ?_⟩
                            refine lc_it (walk_seq (K := K) (b := kc) (a := J) (xs := (ni js).map V.int)) (fun i H' => ∃ ys, H' Y = some (.lst ys) ∧ Obs rcO H' ys (pk ds (js.take i)) ∧ Same H1 H') ⟨_, upd_same, .nil, sm_upd nY⟩ ?_ ?_ ?_
                            · rintro i H7 _ ⟨_, _, _, s7⟩
                              exact SqB.of (sq_kp (Fr.same s7).kp eJ)
                            · rintro i x _ H7 hi ⟨ys, eY, oY, s7⟩ ⟨rfl, hx⟩
                              obtain ⟨e, he, rfl⟩ := ni_at hx
                              have hed : e < ds.length := lt e (List.mem_of_getElem? he)
                              have ed : ds[e]? = some ds[e] := List.getElem?_eq_getElem hed
                              obtain ⟨r, hr', er⟩ := hO.on ed
                              have yl : ys.length < sizeLine := by
                                have h1 := oY.len
                                have h2 := pk_le (ds := ds) (js.take i)
                                rw [List.length_take] at h2
                                exact small1000 (by omega)
                              refine ⟨rfl, _, rfl, _, rfl, L, xs, _, _, rfl, rfl, SqL.of (s7 _ _ eL), atI_nat hr', ys, eY, yl, _, upd_same, ?_, ?_⟩
                              · rw [pk_snoc he ed]
                                refine Obs.keep (oY.snoc (s7 _ _ er)) fun b d' eb => ?_
                                rw [upd_ne (ne_of eb eY (by intro q; cases q))]
                                exact eb
                              · intro b o eb
                                rw [upd_ne (ne_of_none eb nY)]
                                exact s7 _ _ eb
                            rintro H7 ⟨ys, eY, oY, s7⟩
                            rw [List.take_of_length_le (by rw [List.length_map, ni_len]; exact Nat.le_refl _)] at oY
                            have pl := pk_len lt
                            refine ⟨Y, ys, _, k, rfl, eY, oY, by omega, pk_bd bd js, k0, by omega, tabs_same hT1 s7, fun b H8 x8 t8 hb => ?_⟩
                            refine kk b _ ((x1.trans (LamX.ExtN.of fun b o e => s7 b o e)).trans x8) t8 ?_
                            rw [iff2]
                            exact ⟨fun z => ⟨kc, js, rfl, up, lt, by omega, by omega, hb.mp z⟩, uniq.mpr fun _ _ z => hb.mpr z⟩
                          · exact iteTs (by rw [decide_eq_false c3]; rfl) (kk false _ x1 hT1 ⟨fun z => (nomatch z), fun z => uniq.mpr (fun _ b _ => (c3 (by omega)).elim) (iff2.mp z)⟩)
                        · exact iteDn c2 ⟨_, rfl, iteT (kk false _ x1 hT1 ⟨fun z => (nomatch z), fun z => uniq.mpr (fun a _ _ => (c2 (by omega)).elim) (iff2.mp z)⟩)⟩
                    · exact iteTs (by rw [decide_eq_false fun z => c2 (V.str.inj z)]; rfl) (kk false _ x0 hT ⟨fun z => (nomatch z), fun z => absurd z (no fun y e => by cases e; exact ⟨c1, c2⟩)⟩)
                | _ => exact iteT (kk false _ x0 hT ⟨fun z => (nomatch z), fun z => absurd z (no fun y e => by cases e)⟩)
        · refine iteTs (by
            rw [decide_eq_false (fun z => h2 (by have := V.int.inj z; omega))]
            rfl) (kk false _ x0 hT ⟨fun z => (nomatch z), fun z => absurd z (ans_two (by omega))⟩)
      | _ => cases ht
end
end Lf
namespace Lf
open PySem PySem.Spec PyProof.Rows L2
theorem sm_updA {H : Hp} {p : Addr} {o u : HO} (h : H p = none) : Same H (upd (upd H p o) p u) := fun b x e => by
  rw [upd_ne (ne_of_none e h), upd_ne (ne_of_none e h)]
  exact e
/-- what follows gave: a word and ints -/
structure Told (H : Hp) (T X : Addr) (wd : Str) (kb : Bool) (is : List Int) : Prop where
  t : H T = some (.tup [.str wd, .ref X])
  x : H X = some (sqO kb (is.map V.int))
  b : ∀ i ∈ is, Bd 1900 i
  l : is.length ≤ 6
  w : wd = "open" ∨ wd = "follows"
theorem Told.kp {H H' : Hp} {T X : Addr} {wd : Str} {kb : Bool} {is : List Int} (h : Told H T X wd kb is) (k : Kp H H') : Told H' T X wd kb is := ⟨k.t _ _ h.t, sq_kp k h.x, h.b, h.l, h.w⟩
theorem Told.same {H H' : Hp} {T X : Addr} {wd : Str} {kb : Bool} {is : List Int} (h : Told H T X wd kb is) (s : Same H H') : Told H' T X wd kb is := h.kp (Fr.same s).kp
theorem FlS.told {H : Hp} {k : Nat} {ds : List Rec} {T : Addr} {b : Bool} (h : FlS H k ds T b) (hk : k ≤ 900) (hl : ds.length ≤ 1000) : ∃ X wd kb is, Told H T X wd kb is := by
  cases h with
  | @opn r p q c h1 h2 R _ => exact ⟨r, "open", false, [p, q, c], h1, h2, fun i hi => by
      simp only [List.mem_cons, List.not_mem_nil, or_false] at hi
      rcases hi with rfl | rfl | rfl
      · exact R.bp.mono (by omega)
      · exact R.bq.mono (by omega)
      · exact R.bc.mono (by omega), by simp, .inl rfl⟩
  | @fol J js h1 h2 ls => exact ⟨J, "follows", true, ni js, h1, h2, fun i hi => by
      obtain ⟨j, hj, rfl⟩ := ni_mem.mp hi
      have := ls.lt j hj
      exact Bd.small 20 (by omega) (by decide), by
      have := ls.le
      rw [ni_len]
      omega, .inr rfl⟩
theorem dvf_sq {H : Hp} {X : Addr} {kb : Bool} {is : List Int} (h : H X = some (sqO kb (is.map V.int))) : DvF H (.ref X) (sqD kb (is.map PyData.int)) := by
  cases kb with
  | true => exact .lst h (dvf_ints is)
  | false => exact .tup h (dvf_ints is)
theorem xg_non : Xg .none := ⟨lt9_nt rfl, fun p q c e => (by cases e), rfl, by decide, by decide +kernel⟩
theorem An.two {H : Hp} {p : Addr} {w : Str} {v : V} {d : PyData} (e : H p = some (.tup [.str w, v])) (h : DvF H v d) (hw : PyData.strOk w = true) (hl : (PyData.str w).shown.length ≤ 2000) (hx : Xg d) : An H (.ref p) :=
  ⟨_, .tup e (.cons (.str w) (.cons h .nil)), ang2 hw hl hx⟩
theorem ok_fo : PyData.strOk "follows" = true := by decide +kernel
theorem ok_op : PyData.strOk "open" = true := by decide +kernel
theorem sl_fo : (PyData.str "follows").shown.length ≤ 2000 := by decide +kernel
theorem sl_op : (PyData.str "open").shown.length ≤ 2000 := by decide +kernel
theorem wd_ok {wd : Str} (h : wd = "open" ∨ wd = "follows") : (PyData.strOk wd = true ∧ (PyData.str wd).shown.length ≤ 2000) ∧ (PyData.strOk (Txt.upper wd) = true ∧ (PyData.str (Txt.upper wd)).shown.length ≤ 2000) ∧ wd.length ≤ 10 := by
  rcases h with rfl | rfl
  · exact ⟨⟨ok_op, sl_op⟩, ⟨by decide +kernel, by decide +kernel⟩, by decide +kernel⟩
  · exact ⟨⟨ok_fo, sl_fo⟩, ⟨by decide +kernel, by decide +kernel⟩, by decide +kernel⟩
theorem ShM.mk {ds : List PyData} (h : ∀ d ∈ ds, d.showable = true ∧ d.depth = 0 ∧ d.shown.length ≤ 2000) (hl : ds.length ≤ 6) : ShM (.tuple ds) := by
  have key : ∀ l : List PyData, (∀ d ∈ l, d.showable = true ∧ d.depth = 0 ∧ d.shown.length ≤ 2000) → PyData.showableAll l = true ∧ PyData.depthAll l = 0 ∧ ((PyData.shownAll l).map (·.length)).sum ≤ 2000 * l.length ∧ (PyData.shownAll l).length = l.length := by
    intro l
    induction l with
    | nil => intro _; exact ⟨rfl, rfl, by simp [PyData.shownAll], rfl⟩
    | cons z r ih =>
      intro h
      obtain ⟨i1, i3, i4, i5⟩ := ih fun y hy => h y (List.mem_cons_of_mem _ hy)
      obtain ⟨z1, z2, z3⟩ := h z (List.mem_cons_self ..)
      refine ⟨?_, ?_, ?_, ?_⟩
      · simp [PyData.showableAll, z1, i1]
      · simp [PyData.depthAll, z2, i3]
      · simp only [List.map_cons, PyData.shownAll, List.sum_cons, List.length_cons]
        omega
      · simp [PyData.shownAll, i5]
  obtain ⟨k1, k3, k4, k5⟩ := key ds h
  refine ⟨by simpa [PyData.showable] using k1, by simp [PyData.depth, k3], ?_⟩
  have := tupleText_len_le (PyData.shownAll ds)
  rw [k5] at this
  show (tupleText (PyData.shownAll ds)).length ≤ 20000
  omega
def XgV (H : Hp) (v : V) : Prop := ∃ d, DvF H v d ∧ Xg d
def XgL (H : Hp) (xs : List V) : Prop := ∀ x ∈ xs, XgV H x
theorem XgL.kp {H H' : Hp} {xs : List V} (h : XgL H xs) (k : Kp H H') : XgL H' xs := fun x hx => let ⟨d, a, b⟩ := h x hx; ⟨d, DvF.kp k _ _ a, b⟩
theorem XgL.snoc {H : Hp} {xs : List V} {x : V} (h : XgL H xs) (o : XgV H x) : XgL H (xs ++ [x]) := fun y hy => by
  rcases List.mem_append.mp hy with hy | hy
  · exact h y hy
  · rw [List.mem_singleton.mp hy]
    exact o
theorem XgV.ints {H : Hp} {X : Addr} {kb : Bool} {is : List Int} (h : H X = some (sqO kb (is.map V.int))) (b : ∀ i ∈ is, Bd 1900 i) (l : is.length ≤ 6) : XgV H (.ref X) := ⟨_, dvf_sq h, xg_ints b l⟩
theorem shI {i : Int} (h : Bd 1900 i) : (PyData.int i).showable = true ∧ (PyData.int i).depth = 0 ∧ (PyData.int i).shown.length ≤ 2000 := by
  have hz : i.natAbs.log2 < 1920 := (h.mono (show 1900 ≤ 1920 by decide)).log (by decide)
  refine ⟨by simpa [PyData.showable] using hz, rfl, ?_⟩
  have := PyProof.Rows.int_text_len_1921 hz
  show (toString i : Str).length ≤ 2000
  omega
theorem xg_t1 {c : Int} (h : Bd 1900 c) : Xg (.tuple [.bool true, .int 1, .int c]) := by
  refine ⟨fun kb es e => ?_, fun p q c e => (by cases e), ShM.mk (fun d hd => ?_) (by simp)⟩
  · have e : sqD kb es = sqD false [.bool true, .int 1, .int c] := e.symm
    have e := sqD_inj e
    subst e
    refine ⟨by simp, fun d hd => ?_⟩
    simp only [List.mem_cons, List.not_mem_nil, or_false] at hd
    rcases hd with rfl | rfl | rfl
    · exact ⟨rfl, rfl, Nat.zero_le _⟩
    · exact pl_int _
    · exact pl_int _
  · simp only [List.mem_cons, List.not_mem_nil, or_false] at hd
    rcases hd with rfl | rfl | rfl
    · exact ⟨rfl, rfl, by decide +kernel⟩
    · exact shI (Bd.small 20 (by decide) (by decide))
    · exact shI h
section
variable {P : Program} {w : World} {K : PySem.W.Frag} {mg : Str → Option Value} {base : Heap}
/-! ### _law_values -/
def spVals39 : Sp := fun vs H Q _ => ∃ (a : PA) (m n : Nat) (r T X : Addr) (p q c : Int) (wd : Str) (kb : Bool) (is : List Int), vs = [.ref a, .ref r, .ref T, .int ((n : Nat) : Int)] ∧ Pen H a m ∧ m < 2 ^ 35 ∧ n ≤ 20 ∧ H r = some (.tup [.int p, .int q, .int c]) ∧ RuleB 300 p q c ∧ Told H T X wd kb is ∧
  ∀ F H' xs, H' F = some (.lst xs) → AnL H' xs → xs.length ≤ 100 → Pen H' a (m + 400) → Fr H H' → Q (.ref F) H'
abbrev s_l_values : Stmt := topS 57
abbrev N_l_values : List Str := ["_law_pen_here", "_law_rule_here", "_law_told", "_law_total", "_law_p", "_law_q", "_law_c", "_law_found", "_law_other", "_law_k", "_law_some", "_law_j"]
abbrev P_l_values : List Str := ["_law_pen_here", "_law_rule_here", "_law_told", "_law_total"]
theorem sc_l_values : FnScope N_l_values P_l_values (defScope s_l_values) := ⟨rfl, rfl, rfl, by decide +kernel, rfl, by decide +kernel, by decide +kernel⟩
theorem ok_l_values (D : Df K mg "_law_values" s_l_values P_l_values) (B : Bi mg) (c_l_draw : C8.Cal P w K mg base 1 "_law_draw" spDraw []) (c_l_rule : C8.Cal P w K mg base 3 "_law_rule" spRule30 []) (c_l_odd : C8.Cal P w K mg base 3 "_law_odd" spOdd39 []) : C8.Cal P w K mg base 4 "_law_values" spVals39 [] := by
  refine cal_of D sc_l_values (fun vs H Q E h => ?_) (fun f cdv A outer s H vs Q E hr h => ?_)
  · obtain ⟨a, m, n, r, T, X, p, q, c, wd, kb, is, rfl, _⟩ := h
    rfl
  · obtain ⟨a, m, n, r, T, X, p, q, c, wd, kb, is, rfl, hP, hm, hn, er, R, td, kk⟩ := h
    refine ⟨_, (pss_cons (ps_asg (pv 1) (pg_tup rfl (pgs_cons (pg_name (i := 4) sc_l_values.nd rfl (Or.inl rfl)) (pgs_cons (pg_name (i := 5) sc_l_values.nd rfl (Or.inl rfl)) (pgs_cons (pg_name (i := 6) sc_l_values.nd rfl (Or.inl rfl)) pgs_nil)))))
    (C8.pss_cut (ps_set (i := 7) sc_l_values.nd rfl (Or.inl rfl) (pe_lst (pa_cons (pv 2) (pa_cons (pe_callTy (call_list_of) (by rfl) B.list_ bt_list (pa_cons (pv 2) pa_nil)) (pa_cons (pe_slice sl_tup (pv 2) po_none (po_some pe_int)) (pa_cons (pe_op op_catT (pv 2) (pe_tup (pa_cons pe_int pa_nil))) (pa_cons (pe_revT (pv 2)) (pa_cons (pe_tup (pa_cons pe_non (pa_cons (pe_ix (r := rIxT K) ix_tup (pv 2) pe_int (fun _ _ => rfl)) pa_nil))) (pa_cons (pe_tup (pa_cons (pe_upper (pe_ix (r := rIxT K) ix_tup (pv 2) pe_int (fun _ _ => rfl))) (pa_cons (pe_ix (r := rIxT K) ix_tup (pv 2) pe_int (fun _ _ => rfl)) pa_nil))) (pa_cons pe_non pa_nil))))))))))
    (C8.pss_cut (ps_set (i := 7) sc_l_values.nd rfl (Or.inl rfl) (pe_op op_cat (pv 7) (pe_lst (pa_cons (pe_tup (pa_cons pe_str (pa_cons (pe_ix (r := rIxT K) ix_tup (pv 2) pe_int (fun _ _ => rfl)) pa_nil))) (pa_cons (pe_tup (pa_cons pe_str (pa_cons (pe_ix (r := rIxT K) ix_tup (pv 2) pe_int (fun _ _ => rfl)) pa_nil))) (pa_cons pe_dnewK (pa_cons pe_str (pa_cons (pe_tup (pa_cons pe_str pa_nil)) (pa_cons (pe_tup (pa_cons pe_str (pa_cons pe_non pa_nil))) (pa_cons (pe_tup (pa_cons pe_str (pa_cons (pe_lst pa_nil) pa_nil))) pa_nil))))))))))
    (pss_cons (ps_for PassesOwn.never rfl (pi_tup (pe_tup (pa_cons (pe_tup (pa_cons (pv 4) (pa_cons (pv 5) (pa_cons (pv 6) pa_nil)))) (pa_cons (pe_tup (pa_cons (pv 4) (pa_cons (pv 5) (pa_cons (pe_op op_add (pv 6) pe_int) pa_nil)))) (pa_cons (pe_tup (pa_cons (pv 4) (pa_cons (pv 5) (pa_cons (pe_op op_sub (pv 6) pe_int) pa_nil)))) (pa_cons (pe_tup (pa_cons (pe_op op_mul pe_int (pv 4)) (pa_cons (pe_op op_mul pe_int (pv 5)) (pa_cons (pe_op op_mul pe_int (pv 6)) pa_nil)))) (pa_cons (pe_lst (pa_cons (pv 4) (pa_cons (pv 5) (pa_cons (pv 6) pa_nil)))) (pa_cons (pe_tup (pa_cons (pv 4) (pa_cons (pv 5) pa_nil))) (pa_cons (pe_tup (pa_cons pe_bl (pa_cons pe_int (pa_cons (pv 6) pa_nil)))) pa_nil))))))))) (pg_name (i := 8) sc_l_values.nd rfl (Or.inl rfl))
      (pss_one (ps_expr (pe_bm PySem.F.plainAttrs_list PySem.F.slot_list_append PySem.F.type_list_append mt_append (pv 7) (pa_cons (pe_tup (pa_cons pe_str (pa_cons (pv 8) pa_nil))) pa_nil)))))
    (pss_cons (ps_for PassesOwn.never rfl (pi_range1 rfl B.range_ (pa_cons pe_int pa_nil)) (pg_name (i := 9) sc_l_values.nd rfl (Or.inl rfl))
      (pss_cons (ps_setLc (i := 10) (own := [("_law_j", 11)]) (g := (gName 11)) (by rfl) sc_l_values.nd rfl rfl (sw_true rfl rfl rfl (by decide +kernel)) (pi_range1 rfl B.range_ (pa_cons (pe_op op_add pe_int (C8.pe_c c_l_draw hr (by decide) (by rfl) (pa_cons (pv 0) (pa_cons pe_int pa_nil)))) pa_nil)) (blkOk_by (own := [("_law_j", 11)]) (N := N_l_values) (sc := defScope s_l_values) (by decide +kernel)) (fun _ _ _ _ _ => (pg_name (i := 11) sc_l_values.nd rfl (Or.inl rfl))) (fun _ _ _ _ _ => pts_nil) (fun _ _ _ _ _ => (C8.pe_c c_l_draw hr (by decide) (by rfl) (pa_cons (pv 0) (pa_cons (pe_op op_add (pv 3) pe_int) pa_nil)))))
    (pss_one (ps_set (i := 7) sc_l_values.nd rfl (Or.inl rfl) (pe_op op_cat (pv 7) (pe_lst (pa_cons (pe_tup (pa_cons pe_str (pa_cons (pe_callB ((show CallR _ _ (rSortedSet w) from cr_sortedSet rfl)) (by rfl) B.sorted_ bt_sorted (pa_cons (pe_callTy ((show CallR _ _ (rSetL K w) from cr_setL rfl)) (by rfl) B.set_ bt_set (pa_cons (pv 10) pa_nil)) pa_nil)) pa_nil))) (pa_cons (pe_tup (pa_cons pe_str (pa_cons (pe_callTy (call_tuple_of) (by rfl) B.tuple_ bt_tuple (pa_cons (pe_callB ((show CallR _ _ (rSortedSet w) from cr_sortedSet rfl)) (by rfl) B.sorted_ bt_sorted (pa_cons (pe_callTy ((show CallR _ _ (rSetL K w) from cr_setL rfl)) (by rfl) B.set_ bt_set (pa_cons (pv 10) pa_nil)) pa_nil)) pa_nil)) pa_nil))) (pa_cons (pe_tup (pa_cons pe_str (pa_cons (pv 10) pa_nil))) pa_nil)))))))))
    (pss_one (ps_ret (pe_op op_cat (pv 7) (pe_lst (pa_cons (pe_tup (pa_cons pe_str (pa_cons (C8.pe_c c_l_rule hr (by decide) (by rfl) (pa_cons (pv 0) (pa_cons pe_int pa_nil))) pa_nil))) (pa_cons (C8.pe_c c_l_odd hr (by decide) (by rfl) (pa_cons (pv 0) pa_nil)) (pa_cons (pe_tup (pa_cons pe_str (pa_cons (C8.pe_c c_l_odd hr (by decide) (by rfl) (pa_cons (pv 0) pa_nil)) pa_nil))) (pa_cons (pe_tup (pa_cons pe_str (pa_cons (C8.pe_c c_l_odd hr (by decide) (by rfl) (pa_cons (pv 0) pa_nil)) pa_nil))) pa_nil))))))))))))), ?_⟩
    refine ⟨_, rfl, r, _, rfl, SqT.of er, rfl, _, _, rfl, _, _, rfl, _, _, rfl, rfl, ?_⟩
    obtain ⟨⟨w1, w2⟩, ⟨w3, w4⟩, w5⟩ := wd_ok td.w
    have xgX : Xg (sqD kb (is.map PyData.int)) := xg_ints td.b td.l
    refine ⟨fun σ' H' => ∃ (F : Addr) (xs : List V), σ' = [some (.ref a), some (.ref r), some (.ref T), some (.int ((n : Nat) : Int)), some (.int p), some (.int q), some (.int c), some (.ref F), none, none, none, none] ∧ H' F = some (.lst xs) ∧ AnL H' xs ∧ xs.length = 8 ∧ Same H H', ?_, ?_⟩
    · have anT : ∀ {H' : Hp}, Same H H' → An H' (.ref T) := fun s => .two (s _ _ td.t) (dvf_sq (td.same s).x) w1 w2 xgX
      have dx : ∀ {H' : Hp}, Same H H' → DvF H' (.ref X) (sqD kb (is.map PyData.int)) := fun s => dvf_sq (td.same s).x
      have shW : ShM (.str wd) := ⟨rfl, Nat.zero_le _, by omega⟩
      refine ⟨_, rfl, _, rfl, T, _, rfl, .inr (SqT.of td.t), fun l1 n1 => ?_⟩
      have z1 := sm_upd (o := .lst [.str wd, .ref X]) n1
      have a1 : An (upd H l1 (.lst [.str wd, .ref X])) (.ref l1) := ⟨.list [.str wd, sqD kb (is.map PyData.int)], .lst upd_same (.cons (.str _) (.cons (dx z1) .nil)), gd_nt fun _ _ e => (by cases e), Sho.mk (kb := true) (ds := [.str wd, sqD kb (is.map PyData.int)]) (fun d hd => by
        simp only [List.mem_cons, List.not_mem_nil, or_false] at hd
        rcases hd with rfl | rfl
        · exact shW
        · exact xgX.s) (by simp)⟩
      have l0 := (AnL.nil (H := upd H l1 (.lst [.str wd, .ref X]))).snoc (anT z1) |>.snoc a1
      refine ⟨_, rfl, 1, rfl, T, _, rfl, SqT.of (z1 _ _ td.t), ?_, fun l2 n2 => ?_⟩
      · show ¬ (HT.sIx 2 0 none = 0 ∧ HT.sIx 2 2 (some 1) = 2)
        decide
      have ec : cutV [V.str wd, .ref X] none (some 1) = [.str wd] := rfl
      rw [ec]
      have z2 := sm_upd (o := .tup [.str wd]) n2
      have a2 : An (upd (upd H l1 (.lst [.str wd, .ref X])) l2 (.tup [.str wd])) (.ref l2) := ⟨.tuple [.str wd], .tup upd_same (.cons (.str _) .nil), gd_nt fun _ _ e => (by cases e), Sho.mk (kb := false) (ds := [.str wd]) (fun d hd => by
        rw [List.mem_singleton.mp hd]
        exact shW) (by simp)⟩
      have l0 := (l0.same z2).snoc a2
      have s2 := z1.trans z2
      generalize upd (upd H l1 (.lst [.str wd, .ref X])) l2 (.tup [.str wd]) = H2 at l0 s2 ⊢
      refine ⟨_, rfl, len10 (by simp), fun q0 m0 => ?_⟩
      have z3 := sm_upd (o := .tup [.int 0]) m0
      refine ⟨T, q0, _, _, rfl, rfl, SqT.of (z3 _ _ (s2 _ _ td.t)), SqT.of upd_same, by simp, len10 (by simp), fun z => (nomatch z), fun _ l3 n3 => ?_⟩
      have z4 := sm_upd (o := .tup ([V.str wd, .ref X] ++ [.int 0])) n3
      have s3 := s2.trans (z3.trans z4)
      have a3 : An _ (.ref l3) := ⟨.tuple [.str wd, sqD kb (is.map PyData.int), .int 0], .tup (upd_same (H := upd H2 q0 (.tup [.int 0])) (o := .tup ([V.str wd, .ref X] ++ [.int 0]))) (.cons (.str _) (.cons (dx s3) (.cons (.int 0) .nil))), gd_nt fun _ _ e => (by cases e), Sho.mk (kb := false) (ds := [.str wd, sqD kb (is.map PyData.int), .int 0]) (fun d hd => by
        simp only [List.mem_cons, List.not_mem_nil, or_false] at hd
        rcases hd with rfl | rfl | rfl
        · exact shW
        · exact xgX.s
        · exact ⟨rfl, Nat.zero_le _, by decide +kernel⟩) (by simp)⟩
      have l0 := (l0.same (z3.trans z4)).snoc a3
      generalize upd (upd H2 q0 (.tup [.int 0])) l3 (.tup ([V.str wd, .ref X] ++ [.int 0])) = H3 at l0 s3 ⊢
      clear z1 z2 z3 z4 s2 a1 a2 a3
      refine ⟨_, rfl, T, _, rfl, SqT.of (s3 _ _ td.t), fun l4 n4 => ?_⟩
      have z5 := sm_upd (o := .tup [V.str wd, .ref X].reverse) n4
      have s4 := s3.trans z5
      have a4 : An _ (.ref l4) := ⟨.tuple [sqD kb (is.map PyData.int), .str wd], .tup (upd_same (H := H3) (o := .tup [V.str wd, .ref X].reverse)) (.cons (dx s4) (.cons (.str _) .nil)), ⟨fun w x e => by
        cases e
        exact ⟨pl_sq, lt9_nt rfl, fun p q c e => (by cases e)⟩⟩, Sho.mk (kb := false) (ds := [sqD kb (is.map PyData.int), .str wd]) (fun d hd => by
        simp only [List.mem_cons, List.not_mem_nil, or_false] at hd
        rcases hd with rfl | rfl
        · exact xgX.s
        · exact shW) (by simp)⟩
      have l0 := (l0.same z5).snoc a4
      generalize upd H3 l4 (.tup [V.str wd, .ref X].reverse) = H4 at l0 s4 ⊢
      refine ⟨_, rfl, T, _, _, _, rfl, rfl, SqT.of (s4 _ _ td.t), atI_nat (j := 1) rfl, len10 (by simp), fun l5 n5 => ?_⟩
      have z6 := sm_upd (o := .tup [.non, .ref X]) n5
      have s5 := s4.trans z6
      have a5 : An _ (.ref l5) := ⟨.tuple [.none, sqD kb (is.map PyData.int)], .tup (upd_same (H := H4) (o := .tup [.non, .ref X])) (.cons .non (.cons (dx s5) .nil)), ⟨fun w x e => by
        cases e
        exact ⟨⟨rfl, rfl, Nat.zero_le _⟩, xgX.l, xgX.b⟩⟩, Sho.mk (kb := false) (ds := [.none, sqD kb (is.map PyData.int)]) (fun d hd => by
        simp only [List.mem_cons, List.not_mem_nil, or_false] at hd
        rcases hd with rfl | rfl
        · exact xg_non.s
        · exact xgX.s) (by simp)⟩
      have l0 := (l0.same z6).snoc a5
      generalize upd H4 l5 (.tup [.non, .ref X]) = H5 at l0 s5 ⊢
      refine ⟨_, rfl, T, _, _, _, rfl, rfl, SqT.of (s5 _ _ td.t), atI_nat (j := 0) rfl, ⟨wd, rfl⟩, wd, rfl, rfl, by omega, _, rfl, T, _, _, _, rfl, rfl, SqT.of (s5 _ _ td.t), atI_nat (j := 1) rfl, len10 (by simp), fun l6 n6 => ?_⟩
      have z7 := sm_upd (o := .tup [.str (Txt.upper wd), .ref X]) n6
      have s6 := s5.trans z7
      have a6 : An _ (.ref l6) := .two (upd_same (H := H5) (o := .tup [.str (Txt.upper wd), .ref X])) (dx s6) w3 w4 xgX
      have l0 := (l0.same z7).snoc a6
      generalize upd H5 l6 (.tup [.str (Txt.upper wd), .ref X]) = H6 at l0 s6 ⊢
      have l0 := l0.snoc (x := .non) ⟨.none, .non, gd_nt fun _ _ e => (by cases e), rfl, by decide, by decide +kernel⟩
      refine ⟨len10 (by simp), fun F nF => ?_⟩
      have zF := sm_upd (o := .lst [.ref T, .ref l1, .ref l2, .ref l3, .ref l4, .ref l5, .ref l6, .non]) nF
      exact ⟨F, _, rfl, upd_same, l0.same zF, rfl, s6.trans zF⟩
    rintro σ' H1 ⟨F1, xs1, rfl, eF1, an1, ln1, s1⟩
    have dx : ∀ {H' : Hp}, Same H H' → DvF H' (.ref X) (sqD kb (is.map PyData.int)) := fun s => dvf_sq (td.same s).x
    refine ⟨fun σ' H' => ∃ (F : Addr) (xs : List V), σ' = [some (.ref a), some (.ref r), some (.ref T), some (.int ((n : Nat) : Int)), some (.int p), some (.int q), some (.int c), some (.ref F), none, none, none, none] ∧ H' F = some (.lst xs) ∧ AnL (erH F H') xs ∧ xs.length = 15 ∧ Same H H' ∧ H F = none, ?_, ?_⟩
    · refine ⟨_, rfl, _, rfl, T, _, _, _, rfl, rfl, SqT.of (s1 _ _ td.t), atI_nat (j := 1) rfl, len10 (by simp), fun l1 n1 => ?_⟩
      have z1 := sm_upd (o := .tup [.str "follows", .ref X]) n1
      have s2 := s1.trans z1
      have a1 : An _ (.ref l1) := .two (upd_same (H := H1) (o := .tup [.str "follows", .ref X])) (dx s2) ok_fo sl_fo xgX
      have l0 := (an1.same z1).snoc a1
      have eF1 := z1 _ _ eF1
      generalize upd H1 l1 (.tup [.str "follows", .ref X]) = H2 at l0 s2 eF1 ⊢
      refine ⟨_, rfl, T, _, _, _, rfl, rfl, SqT.of (s2 _ _ td.t), atI_nat (j := 1) rfl, len10 (by simp), fun l2 n2 => ?_⟩
      have z2 := sm_upd (o := .tup [.str "open", .ref X]) n2
      have s3 := s2.trans z2
      have a2 : An _ (.ref l2) := .two (upd_same (H := H2) (o := .tup [.str "open", .ref X])) (dx s3) ok_op sl_op xgX
      have l0 := (l0.same z2).snoc a2
      have eF1 := z2 _ _ eF1
      generalize upd H2 l2 (.tup [.str "open", .ref X]) = H3 at l0 s3 eF1 ⊢
      refine fun l3 n3 => ?_
      have z3 := sm_upd (o := .dK []) n3
      have a3 : An _ (.ref l3) := ⟨.dict [], .dk0 (upd_same (H := H3) (o := .dK [])), gd_nt fun _ _ e => (by cases e), rfl, by decide, by decide +kernel⟩
      have l0 := ((l0.same z3).snoc a3).snoc (x := .str "open") ⟨.str "open", .str _, gd_nt fun _ _ e => (by cases e), rfl, by decide, by decide +kernel⟩
      refine ⟨len10 (by simp), fun l4 n4 => ?_⟩
      have z4 := sm_upd (o := .tup [.str "open"]) n4
      have a4 : An _ (.ref l4) := ⟨.tuple [.str "open"], .tup (upd_same (H := upd H3 l3 (.dK [])) (o := .tup [.str "open"])) (.cons (.str _) .nil), gd_nt fun _ _ e => (by cases e), by decide +kernel, by decide +kernel, by decide +kernel⟩
      have l0 := (l0.same z4).snoc a4
      refine ⟨len10 (by simp), fun l5 n5 => ?_⟩
      have z5 := sm_upd (o := .tup [.str "open", .non]) n5
      have a5 : An _ (.ref l5) := .two (upd_same (H := upd (upd H3 l3 (.dK [])) l4 (.tup [.str "open"])) (o := .tup [.str "open", .non])) .non ok_op sl_op xg_non
      have l0 := (l0.same z5).snoc a5
      refine ⟨len10 (by simp), fun q0 m0 => ?_⟩
      have z6 := sm_upd (o := .lst []) m0
      refine ⟨len10 (by simp), fun l6 n6 => ?_⟩
      have z7 := sm_upd (o := .tup [.str "follows", .ref q0]) n6
      have a6 : An _ (.ref l6) := .two (upd_same (H := upd (upd (upd (upd H3 l3 (.dK [])) l4 (.tup [.str "open"])) l5 (.tup [.str "open", .non])) q0 (.lst [])) (o := .tup [.str "follows", .ref q0])) (dvf_sq (kb := true) (is := []) (z7 _ _ upd_same)) ok_fo sl_fo (xg_ints (kb := true) (is := []) (fun _ z => (nomatch z)) (by simp))
      have l0 := (l0.same (z6.trans z7)).snoc a6
      refine ⟨len10 (by simp), fun G nG => ?_⟩
      have zG := sm_upd (o := .lst [.ref l1, .ref l2, .ref l3, .str "open", .ref l4, .ref l5, .ref l6]) nG
      have zz := z3.trans (z4.trans (z5.trans (z6.trans (z7.trans zG))))
      refine ⟨F1, G, xs1, _, rfl, rfl, zz _ _ eF1, upd_same, len10 (by rw [ln1]; show 8 + 7 ≤ 1000; decide), fun F nF => ?_⟩
      have zF := sm_upd (o := .lst (xs1 ++ [.ref l1, .ref l2, .ref l3, .str "open", .ref l4, .ref l5, .ref l6])) nF
      have l1' := (l0.same zG).kp (erH_new nF)
      refine ⟨F, _, rfl, upd_same, ?_, by rw [List.length_append, ln1]; rfl, s3.trans (zz.trans zF), Same.nf (s3.trans zz) nF⟩
      rw [erH_upd]
      simpa [List.append_assoc] using l1'
    rintro σ' H2 ⟨F2, xs2, rfl, eF2, an2, ln2, s2, nF2⟩
    have bp := R.bp.mono (show 300 ≤ 1900 by decide)
    have bq := R.bq.mono (show 300 ≤ 1900 by decide)
    have bc := R.bc.mono (show 300 ≤ 1900 by decide)
    have b1 : Bd 300 (1 : Int) := Bd.small 1 (by decide) (by decide)
    have b2 : Bd 2 (2 : Int) := Bd.small 2 (by decide) (by decide)
    have b3 : ∀ {x y z : Int}, Bd 1900 x → Bd 1900 y → Bd 1900 z → ∀ i ∈ [x, y, z], Bd 1900 i := fun hx hy hz i hi => by
      simp only [List.mem_cons, List.not_mem_nil, or_false] at hi
      rcases hi with rfl | rfl | rfl <;> assumption
    have mk : ∀ {Hc : Hp} {o : Addr} {u : HO}, Hc F2 = some (.lst xs2) → Hc o = none → erH F2 (upd Hc o u) o = some u := fun {Hc o u} e n => by
      unfold erH
      rw [if_neg (fun z => by rw [z, e] at n; cases n), upd_same]
    refine ⟨_, rfl, _, rfl, _, rfl, len10 (by simp), fun o1 n1 => ?_⟩
    have z1 := sm_upd (o := .tup [.int p, .int q, .int c]) n1
    have eG1 := z1 _ _ eF2
    have x1 := (show XgL (erH F2 _) [] from fun _ z => (nomatch z)).snoc (XgV.ints (kb := false) (is := [p, q, c]) (mk eF2 n1) (b3 bp bq bc) (by simp))
    refine ⟨_, rfl, _, rfl, _, rfl, _, _, rfl, rfl, len10 (by simp), fun o2 n2 => ?_⟩
    have z2 := sm_upd (o := .tup [.int p, .int q, .int (c + 1)]) n2
    have eG2 := z2 _ _ eG1
    have x2 := (x1.kp (erH_mono (Fr.same z2).kp)).snoc (XgV.ints (kb := false) (is := [p, q, c + 1]) (mk eG1 n2) (b3 bp bq ((Bd.add R.bc b1).mono (by decide))) (by simp))
    refine ⟨_, rfl, _, rfl, _, rfl, _, _, rfl, rfl, len10 (by simp), fun o3 n3 => ?_⟩
    have z3 := sm_upd (o := .tup [.int p, .int q, .int (c - 1)]) n3
    have eG3 := z3 _ _ eG2
    have x3 := (x2.kp (erH_mono (Fr.same z3).kp)).snoc (XgV.ints (kb := false) (is := [p, q, c - 1]) (mk eG2 n3) (b3 bp bq ((Bd.sub R.bc b1).mono (by decide))) (by simp))
    refine ⟨_, rfl, _, _, rfl, rfl, .inl ⟨by decide, by decide⟩, _, rfl, _, _, rfl, rfl, .inl ⟨by decide, by decide⟩, _, rfl, _, _, rfl, rfl, .inl ⟨by decide, by decide⟩, len10 (by simp), fun o4 n4 => ?_⟩
    have z4 := sm_upd (o := .tup [.int (2 * p), .int (2 * q), .int (2 * c)]) n4
    have eG4 := z4 _ _ eG3
    have x4 := (x3.kp (erH_mono (Fr.same z4).kp)).snoc (XgV.ints (kb := false) (is := [2 * p, 2 * q, 2 * c]) (mk eG3 n4) (b3 ((Bd.mul b2 R.bp).mono (by decide)) ((Bd.mul b2 R.bq).mono (by decide)) ((Bd.mul b2 R.bc).mono (by decide))) (by simp))
    refine ⟨_, rfl, _, rfl, _, rfl, len10 (by simp), fun o5 n5 => ?_⟩
    have z5 := sm_upd (o := .lst [.int p, .int q, .int c]) n5
    have eG5 := z5 _ _ eG4
    have x5 := (x4.kp (erH_mono (Fr.same z5).kp)).snoc (XgV.ints (kb := true) (is := [p, q, c]) (mk eG4 n5) (b3 bp bq bc) (by simp))
    refine ⟨_, rfl, _, rfl, len10 (by simp), fun o6 n6 => ?_⟩
    have z6 := sm_upd (o := .tup [.int p, .int q]) n6
    have eG6 := z6 _ _ eG5
    have x6 := (x5.kp (erH_mono (Fr.same z6).kp)).snoc (XgV.ints (kb := false) (is := [p, q]) (mk eG5 n6) (fun i hi => b3 bp bq bc i (by simp at hi ⊢; omega)) (by simp))
    refine ⟨_, rfl, len10 (by simp), fun o7 n7 => ?_⟩
    have z7 := sm_upd (o := .tup [.bl true, .int 1, .int c]) n7
    have eG7 := z7 _ _ eG6
    have x7 := (x6.kp (erH_mono (Fr.same z7).kp)).snoc (x := .ref o7) ⟨.tuple [.bool true, .int 1, .int c], .tup (mk eG6 n7) (.cons (.bl _) (.cons (.int _) (.cons (.int _) .nil))), xg_t1 bc⟩
    have s7 := z1.trans (z2.trans (z3.trans (z4.trans (z5.trans (z6.trans z7)))))
    refine ⟨len10 (by simp), fun tp ntp => ?_⟩
    have z8 := sm_upd (o := .tup [.ref o1, .ref o2, .ref o3, .ref o4, .ref o5, .ref o6, .ref o7]) ntp
    have x8 := x7.kp (erH_mono (Fr.same z8).kp)
    have et := upd_same (H := upd (upd (upd (upd (upd (upd (upd H2 o1 (.tup [.int p, .int q, .int c])) o2 (.tup [.int p, .int q, .int (c + 1)])) o3 (.tup [.int p, .int q, .int (c - 1)])) o4 (.tup [.int (2 * p), .int (2 * q), .int (2 * c)])) o5 (.lst [.int p, .int q, .int c])) o6 (.tup [.int p, .int q])) o7 (.tup [.bl true, .int 1, .int c])) (a := tp) (o := .tup [.ref o1, .ref o2, .ref o3, .ref o4, .ref o5, .ref o6, .ref o7])
    have s8 := s7.trans z8
    have eF3 := s8 _ _ eF2
    have an3 := an2.kp (erH_mono (Fr.same s8).kp)
    have s3 := s2.trans s8
    generalize upd (upd (upd (upd (upd (upd (upd (upd H2 o1 (.tup [.int p, .int q, .int c])) o2 (.tup [.int p, .int q, .int (c + 1)])) o3 (.tup [.int p, .int q, .int (c - 1)])) o4 (.tup [.int (2 * p), .int (2 * q), .int (2 * c)])) o5 (.lst [.int p, .int q, .int c])) o6 (.tup [.int p, .int q])) o7 (.tup [.bl true, .int 1, .int c])) tp (.tup [.ref o1, .ref o2, .ref o3, .ref o4, .ref o5, .ref o6, .ref o7]) = H3 at x8 et eF3 an3 s3 ⊢
    have xl : XgL (erH F2 H3) [.ref o1, .ref o2, .ref o3, .ref o4, .ref o5, .ref o6, .ref o7] := x8
    clear mk eG1 eG2 eG3 eG4 eG5 eG6 eG7 x1 x2 x3 x4 x5 x6 x7 x8 z1 z2 z3 z4 z5 z6 z7 z8 s7 s8 n1 n2 n3 n4 n5 n6 n7 eF2 an2 s2 eF1 an1 s1
    generalize hos : [V.ref o1, .ref o2, .ref o3, .ref o4, .ref o5, .ref o6, .ref o7] = os at et xl ⊢
    have lo : os.length = 7 := by rw [← hos]; rfl
    clear hos
    have et' : erH F2 H3 tp = some (.tup os) := by
      unfold erH
      rw [if_neg (ne_of et eF3 (fun z => by cases z))]
      exact et
    refine ⟨tp, rfl, ⟨_, SqT.of et⟩, ?_⟩
    refine for_it (walk_tup (K := K) (a := tp) (xs := os)) (fun i σ H' => ∃ (xs : List V) (y8 : Option V), σ = [some (.ref a), some (.ref r), some (.ref T), some (.int ((n : Nat) : Int)), some (.int p), some (.int q), some (.int c), some (.ref F2), y8, none, none, none] ∧ H' F2 = some (.lst xs) ∧ AnL (erH F2 H') xs ∧ xs.length = 15 + i ∧ Kp (erH F2 H3) (erH F2 H') ∧ Fr H H' ∧ Pen H' a m) ⟨xs2, _, rfl, eF3, an3, ln2, Kp.refl _, Fr.same s3, hP.same s3⟩ ?_ ?_ ?_
    · rintro i σ H' _ ⟨_, _, _, _, _, _, k', _, _⟩
      exact SqT.of (erH_kp.t _ _ (k'.t _ _ et'))
    · rintro i x σ _ H4 hi ⟨xs, y8, rfl, eF, an, lx, k4, f4, hP4⟩ ⟨rfl, hx⟩
      obtain ⟨dd, dv, xg⟩ := (xl.kp k4) x (List.mem_of_getElem? hx)
      have hi7 : i < 7 := by
        have := (List.getElem?_eq_some_iff.mp hx).1
        omega
      refine ⟨_, rfl, .inl ⟨rfl, _, SqL.of eF⟩, _, rfl, len10 (by simp), fun p1 np1 => ?_⟩
      have zp := sm_upd (o := .tup [.str "open", x]) np1
      have ap : An (erH F2 (upd H4 p1 (.tup [.str "open", x]))) (.ref p1) := .two (w := "open") (by
        unfold erH
        rw [if_neg (fun z => by rw [z, eF] at np1; cases np1), upd_same]) (DvF.kp (erH_mono (Fr.same zp).kp) _ _ dv) ok_op sl_op xg
      refine ⟨F2, _, _, rfl, rfl, zp _ _ eF, ltS (by omega), ?_⟩
      refine ⟨_, _, rfl, upd_same, ?_, by rw [List.length_append, lx]; rfl, ?_, (f4.trans (Fr.same zp)).over nF2, hP.over nF2 (hP4.same zp)⟩
      · rw [erH_upd]
        exact (an.kp (erH_mono (Fr.same zp).kp)).snoc ap
      · rw [erH_upd]
        have := erH_mono (F := F2) (Fr.same zp).kp
        exact ⟨fun b y e => this.l _ _ (k4.l _ _ e), fun b y e => this.t _ _ (k4.t _ _ e), fun b e => this.d0 _ (k4.d0 _ e), fun b y v e => this.d1 _ _ _ (k4.d1 _ _ _ e)⟩
    rintro σ H4 ⟨xs, y8, rfl, eF4, an4, lx4, _, f4, hP4⟩
    have an4 := an4.kp erH_kp
    rw [lo] at lx4
    clear et et' xl an3 eF3 s3
    refine ⟨8, rfl, by decide, by decide, ?_⟩
    refine for_range (lo := 0) (n := 8) (fun i σ H' => ∃ (F : Addr) (xs : List V) (y9 y10 : Option V), σ = [some (.ref a), some (.ref r), some (.ref T), some (.int ((n : Nat) : Int)), some (.int p), some (.int q), some (.int c), some (.ref F), y8, y9, y10, none] ∧ H' F = some (.lst xs) ∧ AnL H' xs ∧ xs.length = 22 + 3 * i ∧ Pen H' a (m + 10 * i) ∧ Fr H H') ⟨F2, xs, _, _, rfl, eF4, an4, lx4, hP4, f4⟩ ?_ ?_
    · clear eF4 an4 lx4 hP4 f4
      rintro i σ H3 hi ⟨F, xs, y9, y10, rfl, eF, an, lx, hP3, f3⟩
      refine ⟨_, rfl, a, _, _, rfl, hP3, by omega, by decide, Bd.small 20 (by decide) (by decide), fun g H4 g0 g1 hP4 f4 => ⟨_, _, rfl, rfl, _, rfl, by omega, by omega, fun G nG => ?_⟩⟩
      refine lc_range (lo := 0) (n := (1 + g).toNat) (fun j H' => ∃ ns : List Int, H' G = some (.lst (ns.map V.int)) ∧ ns.length = j ∧ (∀ z ∈ ns, 0 ≤ z ∧ z ≤ (n : Int)) ∧ Pen H' a (m + 10 * i + 1 + j) ∧ Fr H4 H') ⟨[], upd_same, rfl, fun _ z => (nomatch z), hP4.new nG, Fr.new nG⟩ ?_ ?_
      · rintro j H5 hj ⟨ns, eG, ln, bn, hP5, f5⟩
        refine ⟨rfl, _, rfl, _, rfl, _, _, rfl, rfl, a, _, _, rfl, hP5, by omega, by omega, Bd.small 20 (by omega) (by decide), fun z H6 z0 z1 hP6 f6 => ?_⟩
        have eG6 := f6.l _ _ eG
        refine ⟨ns.map V.int, eG6, ltS (by rw [List.length_map]; omega), ns ++ [z], ?_, ?_, ?_, ?_, ?_⟩
        · rw [upd_same, List.map_append]
          rfl
        · rw [List.length_append, ln]
          rfl
        · intro y hy
          rcases List.mem_append.mp hy with hy | hy
          · exact bn y hy
          · rw [List.mem_singleton.mp hy]
            exact ⟨z0, by omega⟩
        · exact (hP4.over nG hP6).mono (by omega)
        · exact (f5.trans f6).over nG
      rintro H5 ⟨ns, eG, ln, bn, hP5, f5⟩
      have f45 := f4.trans f5
      have eF := f45.l _ _ eF
      have an := an.kp f45.kp
      have f5 := f3.trans f45
      have bns : ∀ z ∈ ns, Bd 1900 z := fun z hz => by
        have := bn z hz
        exact Bd.small 20 (by omega) (by decide)
      have l4 : ns.length ≤ 4 := by omega
      clear hP3 hP4 f3 f4 f45
      refine ⟨_, rfl, _, rfl, G, ns, rfl, SqL.of eG, by omega, fun S1 c1 nS1 hc1 => ?_⟩
      have z1 := sm_upd (o := SetO w S1 (fun j => decide (j ∈ ns)) c1) nS1
      refine ⟨S1, _, c1, rfl, upd_same, by omega, fun na pa hsa hma hla na0 => ?_⟩
      have z2 := sm_upd (o := .lst (na.map V.int)) na0
      refine ⟨len10 (by simp), fun t1 m1 => ?_⟩
      have z3 := sm_upd (o := .tup [.str "follows", .ref pa]) m1
      refine ⟨_, rfl, G, ns, rfl, SqL.of ((z1.trans (z2.trans z3)) _ _ eG), by omega, fun S2 c2 nS2 hc2 => ?_⟩
      have z4 := sm_upd (o := SetO w S2 (fun j => decide (j ∈ ns)) c2) nS2
      refine ⟨S2, _, c2, rfl, upd_same, by omega, fun nb pb hsb hmb hlb nb0 => ?_⟩
      have z5 := sm_upd (o := .lst (nb.map V.int)) nb0
      refine ⟨pb, _, rfl, .inl ⟨SqL.of upd_same, fun pd nd0 => ?_⟩⟩
      have z6 := sm_upd (o := .tup (nb.map V.int)) nd0
      refine ⟨len10 (by simp), fun t2 m2 => ?_⟩
      have z7 := sm_upd (o := .tup [.str "follows", .ref pd]) m2
      refine ⟨_, rfl, len10 (by simp), fun t3 m3 => ?_⟩
      have z8 := sm_upd (o := .tup [.str "follows", .ref G]) m3
      refine ⟨len10 (by simp), fun W nW => ?_⟩
      have z9 := sm_upd (o := .lst [.ref t1, .ref t2, .ref t3]) nW
      have y8 := z8.trans z9
      have y7 := z7.trans y8
      have y6 := z6.trans y7
      have y5 := z5.trans y6
      have y4 := z4.trans y5
      have y3 := z3.trans y4
      have y2 := z2.trans y3
      have y1 := z1.trans y2
      have ea : ∀ x, x ∈ na → x ∈ ns := fun x hx => of_decide_eq_true ((hma x).mp hx)
      have eb : ∀ x, x ∈ nb → x ∈ ns := fun x hx => of_decide_eq_true ((hmb x).mp hx)
      refine ⟨F, W, xs, _, rfl, rfl, y1 _ _ eF, upd_same, len10 (by show xs.length + 3 ≤ 1000; omega), fun F3 nF3 => ?_⟩
      have zF := sm_upd (o := .lst (xs ++ [.ref t1, .ref t2, .ref t3])) nF3
      have xa : Xg (sqD true (na.map PyData.int)) := xg_ints (fun i hi => bns i (ea i hi)) (by omega)
      have xb : Xg (sqD false (nb.map PyData.int)) := xg_ints (fun i hi => bns i (eb i hi)) (by omega)
      have xc : Xg (sqD true (ns.map PyData.int)) := xg_ints bns (by omega)
      have e1 := (y4.trans zF) _ _ (upd_same (a := t1) (o := .tup [.str "follows", .ref pa]))
      have e2 := (y8.trans zF) _ _ (upd_same (a := t2) (o := .tup [.str "follows", .ref pd]))
      have e3 := (z9.trans zF) _ _ (upd_same (a := t3) (o := .tup [.str "follows", .ref G]))
      have da := dvf_sq (kb := true) (is := na) ((y3.trans zF) _ _ (upd_same (a := pa) (o := .lst (na.map V.int))))
      have db := dvf_sq (kb := false) (is := nb) ((y7.trans zF) _ _ (upd_same (a := pd) (o := .tup (nb.map V.int))))
      have dc := dvf_sq (kb := true) (is := ns) ((y1.trans zF) _ _ eG)
      have an := (an.same (y1.trans zF)).app (AnL.cons (An.two e1 da ok_fo sl_fo xa) (AnL.cons (An.two e2 db ok_fo sl_fo xb) (AnL.cons (An.two e3 dc ok_fo sl_fo xc) AnL.nil)))
      exact ⟨F3, _, _, _, rfl, upd_same, an, by rw [List.length_append, lx]; show 22 + 3 * i + 3 = _; omega, (hP5.same (y1.trans zF)).mono (by omega), f5.trans (Fr.same (y1.trans zF))⟩
    clear eF4 an4 lx4 hP4 f4
    rintro σ H5 ⟨F, xs, y9, y10, rfl, eF, an, lx, hP5, f5⟩
    refine ⟨_, rfl, _, rfl, a, _, 30, 5, rfl, hP5, by omega, by decide, by decide, by decide, fun r5 H6 p5 q5 c5 R5 er5 hP6 f6 => ?_⟩
    refine ⟨len10 (by simp), fun t1 m1 => ?_⟩
    have z1 := sm_upd (o := .tup [.str "open", .ref r5]) m1
    have a1 : An _ (.ref t1) := .two (upd_same (H := H6) (o := .tup [.str "open", .ref r5])) (dvf_sq (kb := false) (is := [p5, q5, c5]) (z1 _ _ er5)) ok_op sl_op (xg_ints (b3 (R5.bp.mono (by decide)) (R5.bq.mono (by decide)) (R5.bc.mono (by decide))) (by simp))
    refine ⟨_, rfl, a, _, rfl, hP6.same z1, by omega, fun x2 H7 ox2 hP7 f7 => ?_⟩
    refine ⟨_, rfl, a, _, rfl, hP7, by omega, fun x3 H8 ox3 hP8 f8 => ?_⟩
    refine ⟨len10 (by simp), fun t3 m3 => ?_⟩
    have z3 := sm_upd (o := .tup [.str "follows", x3]) m3
    refine ⟨_, rfl, a, _, rfl, hP8.same z3, by omega, fun x4 H9 ox4 hP9 f9 => ?_⟩
    refine ⟨len10 (by simp), fun t4 m4 => ?_⟩
    have z4 := sm_upd (o := .tup [.str "open", x4]) m4
    refine ⟨len10 (by simp), fun W nW => ?_⟩
    have zW := sm_upd (o := .lst [.ref t1, x2, .ref t3, .ref t4]) nW
    have g9 := Fr.same (z4.trans zW)
    have g8 := (Fr.same z3).trans (f9.trans g9)
    have g7 := f8.trans g8
    have g6 := (Fr.same z1).trans (f7.trans g7)
    have g5 := f6.trans g6
    refine ⟨F, W, xs, _, rfl, rfl, g5.l _ _ eF, upd_same, len10 (by show xs.length + 4 ≤ 1000; omega), fun F3 nF3 => ?_⟩
    have zF := sm_upd (o := .lst (xs ++ [.ref t1, x2, .ref t3, .ref t4])) nF3
    have gF := Fr.same zF
    obtain ⟨d2, v2, p2⟩ := ox2
    obtain ⟨d3, v3, p3⟩ := ox3
    obtain ⟨d4, v4, p4⟩ := ox4
    have e3 := (f9.trans (g9.trans gF)).t _ _ (upd_same (H := H8) (a := t3) (o := .tup [.str "follows", x3]))
    have e4 := ((Fr.same zW).trans gF).t _ _ (upd_same (H := H9) (a := t4) (o := .tup [.str "open", x4]))
    have a3 : An _ (.ref t3) := .two e3 (DvF.kp (g8.trans gF).kp _ _ (Dv.dvf _ _ v3)) ok_fo sl_fo p3.1
    have a4 : An _ (.ref t4) := .two e4 (DvF.kp (g9.trans gF).kp _ _ (Dv.dvf _ _ v4)) ok_op sl_op p4.1
    have a2 : An _ x2 := ⟨d2, DvF.kp (g7.trans gF).kp _ _ (Dv.dvf _ _ v2), p2.2⟩
    have a1 := a1.kp ((f7.trans g7).trans gF).kp
    exact kk F3 _ _ upd_same ((an.kp (g5.trans gF).kp).app (AnL.cons a1 (AnL.cons a2 (AnL.cons a3 (AnL.cons a4 AnL.nil))))) (by rw [List.length_append, lx]; show 22 + 3 * 8 + 4 ≤ 100; decide) ((((hP9.same (z4.trans zW)).same zF)).mono (by omega)) (f5.trans (g5.trans gF))
end
end Lf
namespace Lf
open PySem PySem.Spec PyProof.Rows L2
/-- where the base has the table of modules, nothing tracked stands there -/
theorem ps_n1 {X : Cx} {st : Stmt} {t : TS} (h1 : ∃ o, X.base.get? 1 = some o) (h : PS X st t) : PS X st (fun D σ H => H 1 = none → t D σ H) :=
  ⟨fun pins s σ H D I ht => h.run pins s σ H D I (ht (let ⟨o, ho⟩ := h1; (I.bs 1 o ho).2))⟩
theorem mn3 (x : Int) (h : 0 ≤ x) : 0 ≤ (if x < 3 then x else 3) ∧ (if x < 3 then x else 3) ≤ 3 := by
  by_cases z : x < 3
  · rw [if_pos z]
    omega
  · rw [if_neg z]
    omega
theorem sho_bl (b : Bool) : Sho (.bool b) := by cases b <;> exact ⟨rfl, by decide, by decide +kernel⟩
def spLawTT (K : PySem.W.Frag) (PT PM : Addr) : Sp := fun vs H Q _ => ∃ (a : Addr) (ns : List Int), vs = [.ref a] ∧ SqL K H a (ns.map V.int) ∧ ns.length ≤ 63 ∧ H PT = some (.tbl #[]) ∧ H PM = some (.tbl #[]) ∧ ∀ H', Q (.bl true) H'
structure Fx39 (F r e L : Addr) (a : PA) (xs ys : List V) (ds : List Rec) (d : Rec) (p q c : Int) (n : Nat) (TS : List (Addr × Str)) (H : Hp) : Prop where
  eF : H F = some (.lst xs)
  oF : Obs rcO H xs ds
  eR : H r = some (.tup [.int p, .int q, .int c])
  ee : H e = some (rcO d)
  eL : H L = some (.lst ys)
  oL : Obs rcO H ys (ds ++ [opp d])
  pn : Pen H a n
  tb : LamX.Tabs TS H
section
variable {F r e L : Addr} {a : PA} {xs ys : List V} {ds : List Rec} {d : Rec} {p q c : Int} {n m : Nat} {TS : List (Addr × Str)} {H H' : Hp}
theorem Fx39.kp (h : Fx39 F r e L a xs ys ds d p q c n TS H) (k : Kp H H') (g : Pen H' a m) (t : LamX.Tabs TS H') : Fx39 F r e L a xs ys ds d p q c m TS H' :=
  ⟨k.l _ _ h.eF, h.oF.keep fun b d e => k.t _ _ e, k.t _ _ h.eR, k.t _ _ h.ee, k.l _ _ h.eL, h.oL.keep fun b d e => k.t _ _ e, g, t⟩
theorem Fx39.ext (h : Fx39 F r e L a xs ys ds d p q c n TS H) (x : LamX.ExtN H H') (t : LamX.Tabs TS H') : Fx39 F r e L a xs ys ds d p q c n TS H' := h.kp (ext_kp x) (h.pn.extN x) t
theorem Fx39.same (h : Fx39 F r e L a xs ys ds d p q c n TS H) (s : Same H H') : Fx39 F r e L a xs ys ds d p q c n TS H' := h.kp (Fr.same s).kp (h.pn.same s) (tabs_same h.tb s)
theorem Fx39.fr (h : Fx39 F r e L a xs ys ds d p q c n TS H) (f : Fr H H') (g : Pen H' a m) : Fx39 F r e L a xs ys ds d p q c m TS H' := h.kp f.kp g (tabs_fr h.tb f)
theorem Fx39.mono (h : Fx39 F r e L a xs ys ds d p q c n TS H) (le : n ≤ m) : Fx39 F r e L a xs ys ds d p q c m TS H := ⟨h.eF, h.oF, h.eR, h.ee, h.eL, h.oL, h.pn.mono le, h.tb⟩
end
section
variable {P : Program} {w : World} {K : PySem.W.Frag} {mg : Str → Option Value} {base : Heap} {C cE PT PM : Addr}
def spAnsX (C : Addr) : Sp := fun vs H _ E => ∃ (v x y : V) (j : Int), vs = [v, x, y] ∧ WoBad H v x j ∧ ∀ H', Same H H' → OutY C "index" (.int j) H' E
theorem okx_is_answer (D : Df K mg "is_answer" s_is_answer P_is_answer) (B : Bi mg) (cx_with_opposite : CalX P w K mg base 4 "with_opposite" (spWOX C)) : CalX P w K mg base 5 "is_answer" (spAnsX C) := by
  refine calx_of D sc_is_answer (fun vs H Q E h => ?_) (fun f cdv A outer s H vs Q E hr h => ?_)
  · obtain ⟨v, x, y, j, rfl, _⟩ := h
    rfl
  · obtain ⟨v, x, y, j, rfl, hb, he⟩ := h
    refine ⟨_, pss_cons (ps_set (i := 3) sc_is_answer.nd rfl (Or.inl rfl) (pe_cx cx_with_opposite hr (by decide) (takes_of rfl rfl rfl rfl) (by rfl) (pa_cons (pv 0) (pa_cons (pv 1) pa_nil)))) pss_no, ?_⟩
    exact ⟨_, rfl, _, rfl, v, x, j, rfl, hb, fun H1 s1 => he H1 s1⟩
abbrev s_law : Stmt := topS 60
abbrev N_law : List Str := ["_law_script", "_law_pen_here", "_law_turn", "_law_rule_here", "_law_records", "_law_record_here", "_law_longer", "_law_total", "_law_values_here", "_law_i", "_law_value", "_law_kept", "_law_told", "_law_odd_here", "_law_none_here", "_law_k", "_law_j"]
abbrev P_law : List Str := ["_law_script"]
theorem sc_law : FnScope N_law P_law (defScope s_law) := ⟨rfl, rfl, rfl, by decide +kernel, rfl, by decide +kernel, by decide +kernel⟩
theorem ok_law {f : Addr} {oc kV doc pm ct : Value} {od an : Option Addr} {osl : Array (Option Value)} (lkQ : K.lookup f = some ⟨oc, od, .func (PySem.W.fnOf "law" "law" (defArgs s_law) (defBody s_law) (defScope s_law) .none kV doc pm an (.ref cE) ct), osl⟩) (hcQ : PySem.W.codeIn K (.ref cE) "law" = true) (TB : LamX.TabB base mg cE PT) (hne : PM ≠ PT) (o1 : ∃ o, base.get? 1 = some o)
    (T : ValC P K mg C "InvalidRecord" "index") (B : Bi mg) (D_l_index : Df K mg "_law_index" s_l_index P_l_index) (c_l_pen : C8.Cal P w K mg base 1 "_law_pen" (spPen K) []) (c_l_draw : C8.Cal P w K mg base 1 "_law_draw" spDraw []) (c_l_rule : C8.Cal P w K mg base 3 "_law_rule" spRule30 []) (c_l_record : C8.Cal P w K mg base 4 "_law_record" spRec30 []) (c_l_opposite : C8.Cal P w K mg base 1 "_law_opposite" spOppL []) (c_l_none : C8.Cal P w K mg base 3 "_law_none" spNone31 [])
    (c_l_values : C8.Cal P w K mg base 4 "_law_values" spVals39 []) (c_l_due : C8.Cal P w K mg base 3 "_law_due" (spDue39 [(PT, qLam29), (PM, qLamC)]) []) (c_follows : C8.Cal P w K mg base 6 "follows" spFollowsN []) (cA_is_answer : C8.Cal P w K mg base 5 "is_answer" spAnsD []) (c_l_odd_record : C8.Cal P w K mg base 3 "_law_odd_record" spOddR37 []) (cx_is_answer : CalX P w K mg base 5 "is_answer" (spAnsX C)) : FnG P w K mg base 8 f (PySem.W.fnOf "law" "law" (defArgs s_law) (defBody s_law) (defScope s_law) .none kV doc pm an (.ref cE) ct) P_law (spLawTT K PT PM) := by
  refine fnG_lk lkQ hcQ sc_law (fun vs H Q E h => ?_) (fun A outer s H vs Q E hr gd h => ?_)
  · obtain ⟨a, ns, rfl, _⟩ := h
    rfl
  · obtain ⟨sc, ns, rfl, hS, hlen, hPT, hPM, kk⟩ := h
    obtain ⟨g, fdN, FN, hmN, bN⟩ := D_l_index
    have kpN := FN.kp
    obtain ⟨ocN, odN, kVN, dcN, pmN, anN, cdN, ctN, slN, rfl, lkN, hcN⟩ := FN.ex
    have c_is_answer := cA_is_answer
    have hT1 : (PT, (cxOf CX0 P w K mg base N_law "law" (defScope s_law) f (.ref cE) A outer s H E).nox.env.qual ++ ("<lambda>" : Str)) ∈ [(PT, qLam29), (PM, qLamC)] := List.mem_cons_self
    have hT2 : ∀ p ∈ [(PT, qLam29), (PM, qLamC)], p.1 = PT → p.2 = (cxOf CX0 P w K mg base N_law "law" (defScope s_law) f (.ref cE) A outer s H E).nox.env.qual ++ ("<lambda>" : Str) := fun p hp e => by
      rcases List.mem_cons.mp hp with rfl | hp
      · rfl
      · rw [List.mem_singleton.mp hp] at e
        exact absurd e hne
    have hu0 : (A.deeper (envOfC "law" (defScope s_law) s.heap.objs.size f (.ref cE))).units + 70 < cLine := by
      have := hr.un
      omega
    refine ⟨_, (pss_cons (ps_set (i := 1) sc_law.nd rfl (Or.inr rfl) (C8.pe_c c_l_pen hr (by decide) (by rfl) (pa_cons (pv 0) pa_nil)))
    (pss_cons (ps_for PassesOwn.never rfl (pi_range1 rfl B.range_ (pa_cons (pe_op op_add pe_int (pe_callB (call_min2 rfl) (by rfl) B.min_ bt_min (pa_cons pe_int (pa_cons (pe_callB (call_len_seq) (by rfl) B.len_ bt_len (pa_cons (pv 0) pa_nil)) pa_nil)))) pa_nil)) (pg_name (i := 2) sc_law.nd rfl (Or.inl rfl))
      (pss_cons (ps_set (i := 3) sc_law.nd rfl (Or.inr rfl) (C8.pe_c c_l_rule hr (by decide) (by rfl) (pa_cons (pv 1) (pa_cons pe_int pa_nil))))
    (pss_cons (ps_set (i := 4) sc_law.nd rfl (Or.inr rfl) (pe_lc (own := [("_law_k", 15)]) (g := (gName 15)) (by rfl) sc_law.nd (pi_range1 rfl B.range_ (pa_cons (C8.pe_c c_l_draw hr (by decide) (by rfl) (pa_cons (pv 1) (pa_cons pe_int pa_nil))) pa_nil)) (blkOk_by (own := [("_law_k", 15)]) (N := N_law) (sc := defScope s_law) (by decide +kernel)) (fun _ _ _ _ _ => (pg_name (i := 15) sc_law.nd rfl (Or.inl rfl))) (fun _ _ _ _ _ => pts_nil) (fun _ _ _ _ _ => (C8.pe_c c_l_record hr (by decide) (by rfl) (pa_cons (pv 1) (pa_cons (pv 3) (pa_cons (pe_lst (pa_cons pe_int (pa_cons pe_int (pa_cons pe_int (pa_cons (pe_un un_neg pe_int) (pa_cons pe_int pa_nil)))))) (pa_cons pe_int pa_nil))))))))
    (pss_cons (ps_set (i := 5) sc_law.nd rfl (Or.inl rfl) (C8.pe_c c_l_record hr (by decide) (by rfl) (pa_cons (pv 1) (pa_cons (pv 3) (pa_cons (pe_lst (pa_cons pe_int (pa_cons pe_int (pa_cons (pe_un un_neg pe_int) (pa_cons (pe_un un_neg pe_int) pa_nil))))) (pa_cons pe_int pa_nil))))))
    (pss_cons (ps_par (i := 6) (j := 7) rfl sc_law.nd rfl rfl (by decide) rfl rfl (pa_cons (pe_op op_cat (pv 4) (pe_lst (pa_cons (C8.pe_c c_l_opposite hr (by decide) (by rfl) (pa_cons (pv 5) pa_nil)) pa_nil))) (pa_cons (pe_op op_add (pe_callB (call_len_seq) (by rfl) B.len_ bt_len (pa_cons (pv 4) pa_nil)) pe_int) pa_nil)) rfl)
    (pss_cons (ps_set (i := 8) sc_law.nd rfl (Or.inl rfl) (C8.pe_c c_l_values hr (by decide) (by rfl) (pa_cons (pv 1) (pa_cons (pv 3) (pa_cons (C8.pe_c c_follows hr (by decide) (by rfl) (pa_cons (pv 4) (pa_cons (pv 5) pa_nil))) (pa_cons (pv 7) pa_nil))))))
    (C8.pss_cut (ps_for PassesOwn.never rfl (pi_range1 rfl B.range_ (pa_cons (pv 7) pa_nil)) (pg_name (i := 9) sc_law.nd rfl (Or.inr rfl))
      (pss_one (ps_set (i := 8) sc_law.nd rfl (Or.inl rfl) (pe_op op_cat (pv 8) (pe_lc (own := [("_law_j", 16)]) (g := (gName 16)) (by rfl) sc_law.nd (pi_range2 rfl B.range_ (pa_cons (pe_op op_add (pv 9) pe_int) (pa_cons (pv 7) pa_nil))) (blkOk_by (own := [("_law_j", 16)]) (N := N_law) (sc := defScope s_law) (by decide +kernel)) (fun _ _ _ _ _ => (pg_name (i := 16) sc_law.nd rfl (Or.inl rfl))) (fun _ _ _ _ _ => pts_nil) (fun _ _ _ _ _ => (pe_tup (pa_cons pe_str (pa_cons (pe_lst (pa_cons (pv 9) (pa_cons (pv 16) pa_nil))) pa_nil)))))))))
    (C8.pss_cut (ps_for PassesOwn.never rfl (pi_list (pv 8)) (pg_name (i := 10) sc_law.nd rfl (Or.inl rfl))
      (pss_cons (ps_set (i := 11) sc_law.nd rfl (Or.inl rfl) (pe_callB ((repr_any1 o1 gd hu0)) (by rfl) B.repr_ bt_repr (pa_cons (pv 10) pa_nil)))
    (pss_cons (ps_n1 o1 (ps_set (i := 12) sc_law.nd rfl (Or.inl rfl) (C8.pe_c c_is_answer hr (by decide) (by rfl) (pa_cons (pv 4) (pa_cons (pv 5) (pa_cons (pv 10) pa_nil))))))
    (pss_one (ps_if (PW.pt (pw_or (pt_cmpR op_ne (pe_callB ((repr_any1 o1 gd hu0)) (by rfl) B.repr_ bt_repr (pa_cons (pv 12) pa_nil)) (pe_callB ((repr_any1 o1 gd hu0)) (by rfl) B.repr_ bt_repr (pa_cons (C8.pe_c c_l_due hr (by decide) (by rfl) (pa_cons (pv 6) (pa_cons (pv 10) pa_nil))) pa_nil)) (nomark _)) (pw_or1 (pt_cmpR op_ne (pe_callB ((repr_any1 o1 gd hu0)) (by rfl) B.repr_ bt_repr (pa_cons (pv 10) pa_nil)) (pv 11) (nomark _)))))
      (pss_one (ps_ret pe_bl))
      pss_nil)))))
    (pss_cons (ps_set (i := 13) sc_law.nd rfl (Or.inr rfl) (C8.pe_c c_l_odd_record hr (by decide) (by rfl) (pa_cons (pv 1) (pa_cons (pe_tup (pa_cons pe_str (pa_cons pe_int (pa_cons pe_int pa_nil)))) pa_nil))))
    (pss_cons (ps_if (pt_cmpR op_ne (LamX.pe_lamcall (T := [(PT, qLam29), (PM, qLamC)]) (k := 5) (by rfl) hmN kpN lkN hcN bN sc_l_index rfl (Or.inl rfl) (gives_29 T) TB rfl hT1 hT2 (hr.mono (by decide)) (LamX.lamS_by (sc := defScope s_law) (by decide +kernel)) rfl (fun _ _ _ _ _ => rfl) (fun A outer s H E f c' hr2 => pe_cx cx_is_answer hr2 (by decide) (takes_of rfl rfl rfl rfl) (by rfl) (pa_cons (pe_var (i := 4) rfl (Or.inr (Or.inr rfl))) (pa_cons (pe_var (i := 13) rfl (Or.inr (Or.inr rfl))) (pa_cons pe_non pa_nil))))) (pe_callB (call_len_seq) (by rfl) B.len_ bt_len (pa_cons (pv 4) pa_nil)) (nomark _))
      (pss_one (ps_ret pe_bl))
      pss_nil)
    (pss_cons (ps_if (pt_cmpR op_ne (LamX.pe_lamcall (T := [(PT, qLam29), (PM, qLamC)]) (k := 5) (by rfl) hmN kpN lkN hcN bN sc_l_index rfl (Or.inl rfl) (gives_29 T) TB rfl hT1 hT2 (hr.mono (by decide)) (LamX.lamS_by (sc := defScope s_law) (by decide +kernel)) rfl (fun _ _ _ _ _ => rfl) (fun A outer s H E f c' hr2 => pe_cx cx_is_answer hr2 (by decide) (takes_of rfl rfl rfl rfl) (by rfl) (pa_cons (pe_op op_cat (pe_lst (pa_cons (pe_var (i := 13) rfl (Or.inr (Or.inr rfl))) pa_nil)) (pe_var (i := 4) rfl (Or.inr (Or.inr rfl)))) (pa_cons (pe_var (i := 13) rfl (Or.inr (Or.inr rfl))) (pa_cons pe_non pa_nil))))) pe_int (nomark _))
      (pss_one (ps_ret pe_bl))
      pss_nil)
    (pss_cons (ps_set (i := 14) sc_law.nd rfl (Or.inr rfl) (C8.pe_c c_l_none hr (by decide) (by rfl) (pa_cons (pv 1) pa_nil)))
    (pss_one (ps_if (pt_cmpR op_ne (LamX.pe_lamcall (T := [(PT, qLam29), (PM, qLamC)]) (k := 5) (by rfl) hmN kpN lkN hcN bN sc_l_index rfl (Or.inl rfl) (gives_29 T) TB rfl hT1 hT2 (hr.mono (by decide)) (LamX.lamS_by (sc := defScope s_law) (by decide +kernel)) rfl (fun _ _ _ _ _ => rfl) (fun A outer s H E f c' hr2 => pe_cx cx_is_answer hr2 (by decide) (takes_of rfl rfl rfl rfl) (by rfl) (pa_cons (pe_var (i := 14) rfl (Or.inr (Or.inr rfl))) (pa_cons (pe_var (i := 13) rfl (Or.inr (Or.inr rfl))) (pa_cons pe_non pa_nil))))) (pe_un un_neg pe_int) (nomark _))
      (pss_one (ps_ret pe_bl))
      pss_nil))))))))))))))
    (pss_one (ps_ret pe_bl)))), ?_⟩
    refine ⟨_, rfl, sc, ns, rfl, hS, fun a H0 hP0 s0 => ?_⟩
    have t0 : LamX.Tabs [(PT, qLam29), (PM, qLamC)] H0 := fun p hp => by
      rcases List.mem_cons.mp hp with rfl | hp
      · exact LamX.TabS.nil (s0 _ _ hPT)
      · rw [List.mem_singleton.mp hp]
        exact LamX.TabS.nil (s0 _ _ hPM)
    refine ⟨_, rfl, sc, _, rfl, .inl (s0.seq hS), _, _, rfl, _, _, rfl, rfl, _, rfl, ?_⟩
    obtain ⟨m0, m1⟩ := mn3 ((ns.map V.int).length : Int) (by omega)
    refine ⟨by omega, by omega, ?_⟩
    generalize hnn : (3 + (if ((ns.map V.int).length : Int) < 3 then ((ns.map V.int).length : Int) else 3)) = nn
    refine for_range (lo := 0) (n := nn.toNat) (fun i σ H1 => ∃ (y2 y3 y4 y5 y6 y7 y8 y9 y10 y11 y12 y13 y14 : Option V), σ = [some (.ref sc), some (.ref a), y2, y3, y4, y5, y6, y7, y8, y9, y10, y11, y12, y13, y14, none, none] ∧ Pen H1 a (20000 * i) ∧ LamX.Tabs [(PT, qLam29), (PM, qLamC)] H1) ⟨_, _, _, _, _, _, _, _, _, _, _, _, _, rfl, hP0, t0⟩ ?_ ?_
    · rintro i σ H1 hi ⟨y2, y3, y4, y5, y6, y7, y8, y9, y10, y11, y12, y13, y14, rfl, hP1, t1⟩
      have hi7 : i < 8 := by omega
      refine ⟨_, rfl, a, _, 30, 5, rfl, hP1, by omega, by decide, by decide, by decide, fun r H2 p q c R er hP2 f2 => ?_⟩
      have t2 := tabs_fr t1 f2
      have R : RuleB 200 p q c := R.mono (by decide)
      refine ⟨_, rfl, a, _, _, rfl, hP2, by omega, by decide, Bd.small 20 (by decide) (by decide), fun mm H3 mm0 mm1 hP3 f3 => ?_⟩
      have er := f3.t _ _ er
      have t3 := tabs_fr t2 f3
      refine ⟨_, rfl, by omega, by omega, fun F nF => ?_⟩
      refine lc_range (lo := 0) (n := mm.toNat) (fun j H' => ∃ (xs : List V) (ds : List Rec), H' F = some (.lst xs) ∧ Obs rcO H' xs ds ∧ ds.length = j ∧ RcB 402 ds ∧ Pen H' a (20000 * i + 200 + 40 * j) ∧ Fr H3 H') ⟨[], [], upd_same, .nil, rfl, fun _ z => (nomatch z), (hP3.new nF).mono (by omega), Fr.new nF⟩ ?_ ?_
      · rintro j H7 hj ⟨xs, ds, eL, oD, ld, bD, hP7, f7⟩
        refine ⟨rfl, _, rfl, _, rfl, 1, rfl, len10 (by simp), fun O nO => ?_⟩
        have zO := sm_upd (o := .lst [.int 0, .int 0, .int 0, .int (-1), .int 1]) nO
        refine ⟨a, _, r, O, p, q, c, [0, 0, 0, -1, 1], 30, 5, 200, rfl, hP7.same zO, by omega, zO _ _ (f7.t _ _ er), R, upd_same, by simp, by simp, fun z hz => ?_, by decide, by decide, by decide, by decide, by decide, by decide, fun e H8 d o ed bt bn _ _ hP8 f8 => ?_⟩
        · simp only [List.mem_cons, List.not_mem_nil, or_false] at hz
          rcases hz with rfl | rfl | rfl | rfl | rfl <;> exact Bd.small 10 (by decide) (by decide)
        have f8 := (Fr.same zO).trans f8
        have eL8 := f8.l _ _ eL
        refine ⟨xs, eL8, ?_, xs ++ [.ref e], ds ++ [d], upd_same, ?_, ?_, ?_, ?_, ?_⟩
        · have := oD.len
          exact ltS (by omega)
        · refine Obs.keep ((oD.fr f8).snoc ed) fun b d' eb => ?_
          rw [upd_ne (ne_of eb eL8 (by intro q; cases q))]
          exact eb
        · rw [List.length_append, ld]
          rfl
        · intro d' hd'
          rcases List.mem_append.mp hd' with h | h
          · exact bD d' h
          · rw [List.mem_singleton.mp h]
            exact ⟨bt.mono (by omega), bn.mono (by omega)⟩
        · exact ((hP3.over nF hP8)).mono (by omega)
        · exact (f7.trans f8).over nF
      rintro H7 ⟨xs, ds, eF, oF, ld, bF, hP7, f7⟩
      have er := f7.t _ _ er
      have t7 := tabs_fr t3 f7
      have hP7 := hP7.mono (show _ ≤ 20000 * i + 800 by omega)
      have lF : ds.length ≤ 8 := by omega
      have lx := oF.len
      clear hP3 f3 f2 t2 t1 hP2 hP1 t3 f7
      -- the further record
      refine ⟨_, rfl, _, rfl, 1, rfl, 3, rfl, len10 (by simp), fun O nO => ?_⟩
      have zO := sm_upd (o := .lst [.int 0, .int 1, .int (-1), .int (-3)]) nO
      refine ⟨a, _, r, O, p, q, c, [0, 1, -1, -3], 30, 5, 200, rfl, hP7.same zO, by omega, zO _ _ er, R, upd_same, by simp, by simp, fun z hz => ?_, by decide, by decide, by decide, by decide, by decide, by decide, fun e H8 d o ed bt bn _ _ hP8 f8 => ?_⟩
      · simp only [List.mem_cons, List.not_mem_nil, or_false] at hz
        rcases hz with rfl | rfl | rfl | rfl <;> exact Bd.small 10 (by decide) (by decide)
      have f8 := (Fr.same zO).trans f8
      have er := f8.t _ _ er
      have eF := f8.l _ _ eF
      have oF := oF.fr f8
      have t8 := tabs_fr t7 f8
      have bt : Bd 402 d.t := bt.mono (by omega)
      have bn : Bd 402 d.n := bn.mono (by omega)
      clear zO hP7 t7 f8
      have bD : RcB 403 (ds ++ [opp d]) := fun e he => by
        rcases List.mem_append.mp he with g | g
        · exact ⟨(bF e g).1.mono (by decide), (bF e g).2.mono (by decide)⟩
        · rw [List.mem_singleton.mp g]
          exact opp_bd (by decide) ⟨bt, bn⟩
      -- with the opposite
      refine ⟨_, rfl, _, rfl, e, d, rfl, ed, fun e' H9 s9 ee' => ?_⟩
      refine ⟨len10 (by simp), fun l1 n1 => ?_⟩
      have z1 := sm_upd (o := .lst [.ref e']) n1
      refine ⟨F, l1, xs, [.ref e'], rfl, rfl, z1 _ _ (s9 _ _ eF), upd_same, len10 (by show xs.length + 1 ≤ 1000; omega), fun L nL => ?_⟩
      have z2 := sm_upd (o := .lst (xs ++ [.ref e'])) nL
      have s3 := s9.trans (z1.trans z2)
      have fx : Fx39 F r e L a xs (xs ++ [.ref e']) ds d p q c (20000 * i + 900) [(PT, qLam29), (PM, qLamC)] (upd (upd H9 l1 (.lst [.ref e'])) L (.lst (xs ++ [.ref e']))) :=
        ⟨s3 _ _ eF, oF.same s3, s3 _ _ er, s3 _ _ ed, upd_same, (oF.same s3).snoc ((z1.trans z2) _ _ ee'), (hP8.same s3).mono (by omega), tabs_same t8 s3⟩
      generalize upd (upd H9 l1 (.lst [.ref e'])) L (.lst (xs ++ [.ref e'])) = H10 at fx ⊢
      generalize xs ++ [V.ref e'] = ys at fx ⊢
      clear z1 z2 s3 s9 ee' hP8 t8 eF oF er ed
      refine ⟨_, rfl, F, _, rfl, .inl (SqL.of fx.eF), _, _, rfl, rfl, ?_⟩
      rw [lx]
      refine ⟨_, _, rfl, ?_⟩
      refine ⟨_, rfl, _, rfl, _, rfl, _, rfl, F, e, true, xs, ds, d, 402, rfl, fx.eF, fx.oF, by omega, fx.ee, bF, ⟨bt, bn⟩, by decide, by decide, fun T b H11 s11 fl _ => ?_⟩
      have fx := fx.same s11
      obtain ⟨X, wd, kb, is, td⟩ := fl.told (by decide) (by rw [List.length_append]; show ds.length + 1 ≤ 1000; omega)
      refine ⟨_, rfl, a, _, ds.length + 1, r, T, X, p, q, c, wd, kb, is, rfl, fx.pn, by omega, by omega, fx.eR, R.mono (by decide), td, fun A0 H12 vs eA an lv hP12 f12 => ?_⟩
      have fx := (fx.fr f12 hP12).mono (m := 20000 * i + 1400) (by omega)
      clear td fl s11 f12 hP12
      refine ⟨fun σ' H' => ∃ (A1 : Addr) (vs : List V) (y9 : Option V), σ' = [some (.ref sc), some (.ref a), some (.int ((0 : Int) + i)), some (.ref r), some (.ref F), some (.ref e), some (.ref L), some (.int (((ds.length : Nat) : Int) + 1)), some (.ref A1), y9, y10, y11, y12, y13, y14, none, none] ∧ Fx39 F r e L a xs ys ds d p q c (20000 * i + 1400) [(PT, qLam29), (PM, qLamC)] H' ∧ H' A1 = some (.lst vs) ∧ AnL H' vs ∧ vs.length ≤ 200, ?_, ?_⟩
      · refine ⟨_, rfl, _, rfl, by omega, by omega, ?_⟩
        refine for_range (lo := 0) (n := (((ds.length : Nat) : Int) + 1).toNat) (fun m σ H' => ∃ (A1 : Addr) (vs : List V) (y9 : Option V), σ = [some (.ref sc), some (.ref a), some (.int ((0 : Int) + i)), some (.ref r), some (.ref F), some (.ref e), some (.ref L), some (.int (((ds.length : Nat) : Int) + 1)), some (.ref A1), y9, y10, y11, y12, y13, y14, none, none] ∧ Fx39 F r e L a xs ys ds d p q c (20000 * i + 1400) [(PT, qLam29), (PM, qLamC)] H' ∧ H' A1 = some (.lst vs) ∧ AnL H' vs ∧ vs.length ≤ 100 + 9 * m) ⟨A0, vs, _, rfl, fx, eA, an, by omega⟩ ?_ ?_
        · clear fx eA an lv
          rintro m σ H4 hm ⟨A1, vs, y9, rfl, fx, eA, an, lv⟩
          have hm9 : (m : Int) < 9 := by omega
          refine ⟨_, rfl, _, rfl, _, _, rfl, rfl, _, rfl, _, _, rfl, by omega, fun Y nY => ?_⟩
          refine lc_range (lo := 0 + (m : Int) + 1) (n := ((((ds.length : Nat) : Int) + 1) - (0 + (m : Int) + 1)).toNat) (fun t H' => ∃ zs, H' Y = some (.lst zs) ∧ AnL (erH Y H') zs ∧ zs.length = t ∧ Same H4 H') ⟨[], upd_same, .nil, rfl, sm_upd nY⟩ ?_ ?_
          · rintro t H7 ht ⟨zs, eY, vY, lY, s7⟩
            have ht9 : (t : Int) < 9 := by omega
            refine ⟨rfl, _, rfl, _, rfl, len10 (by simp), fun q0 nq => ?_⟩
            have zq := sm_upd (o := .lst [.int ((0 : Int) + m), .int (0 + (m : Int) + 1 + t)]) nq
            refine ⟨len10 (by simp), fun t1 nt1 => ?_⟩
            have zt := sm_upd (o := .tup [.str "follows", .ref q0]) nt1
            have eY1 := zq _ _ eY
            have eq0 : erH Y (upd (upd H7 q0 (.lst [.int ((0 : Int) + m), .int (0 + (m : Int) + 1 + t)])) t1 (.tup [.str "follows", .ref q0])) q0 = some (.lst [.int ((0 : Int) + m), .int (0 + (m : Int) + 1 + t)]) := by
              unfold erH
              rw [if_neg (fun z => by rw [z, eY] at nq; cases nq)]
              exact zt _ _ upd_same
            have et1 : erH Y (upd (upd H7 q0 (.lst [.int ((0 : Int) + m), .int (0 + (m : Int) + 1 + t)])) t1 (.tup [.str "follows", .ref q0])) t1 = some (.tup [.str "follows", .ref q0]) := by
              unfold erH
              rw [if_neg (fun z => by rw [z, eY1] at nt1; cases nt1)]
              exact upd_same
            have at1 : An _ (.ref t1) := .two et1 (dvf_sq (kb := true) (is := [(0 : Int) + m, 0 + (m : Int) + 1 + t]) eq0) ok_fo sl_fo (xg_ints (fun z hz => by
              simp only [List.mem_cons, List.not_mem_nil, or_false] at hz
              rcases hz with rfl | rfl <;> exact Bd.small 20 (by omega) (by decide)) (by simp))
            refine ⟨zs, zt _ _ eY1, ltS (by omega), zs ++ [.ref t1], upd_same, ?_, by rw [List.length_append, lY]; rfl, fun b o eb => ?_⟩
            · rw [erH_upd]
              exact (vY.kp (erH_mono (Fr.same (zq.trans zt)).kp)).snoc at1
            · rw [upd_ne (ne_of_none eb nY)]
              exact zt _ _ (zq _ _ (s7 _ _ eb))
          rintro H7 ⟨zs, eY, vY, lY, s7⟩
          refine ⟨A1, Y, _, zs, rfl, rfl, s7 _ _ eA, eY, len10 (by show vs.length + zs.length ≤ 1000; omega), fun A3 nA3 => ?_⟩
          have z9 := sm_upd (o := .lst (vs ++ zs)) nA3
          refine ⟨A3, _, _, rfl, (fx.same s7).same z9, upd_same, ((an.same s7).app (vY.kp erH_kp)).same z9, ?_⟩
          rw [List.length_append, lY]
          omega
        · rintro σ H4 ⟨A1, vs, y9, rfl, fx, eA, an, lv⟩
          exact ⟨A1, vs, _, rfl, fx, eA, an, by omega⟩
      clear fx eA an lv
      rintro σ H4 ⟨A1, vs, y9, rfl, fx, eA, an, lv⟩
      refine ⟨fun σ' H' => ∃ (y10 y11 y12 : Option V), σ' = [some (.ref sc), some (.ref a), some (.int ((0 : Int) + i)), some (.ref r), some (.ref F), some (.ref e), some (.ref L), some (.int (((ds.length : Nat) : Int) + 1)), some (.ref A1), y9, y10, y11, y12, y13, y14, none, none] ∧ Fx39 F r e L a xs ys ds d p q c (20000 * i + 1400) [(PT, qLam29), (PM, qLamC)] H', ?_, ?_⟩
      · refine ⟨_, rfl, A1, rfl, ⟨_, SqL.of eA⟩, ?_⟩
        refine for_it (walk_list (K := K) (a := A1) (xs := vs)) (fun k σ H' => ∃ (y10 y11 y12 : Option V), σ = [some (.ref sc), some (.ref a), some (.int ((0 : Int) + i)), some (.ref r), some (.ref F), some (.ref e), some (.ref L), some (.int (((ds.length : Nat) : Int) + 1)), some (.ref A1), y9, y10, y11, y12, y13, y14, none, none] ∧ Fx39 F r e L a xs ys ds d p q c (20000 * i + 1400) [(PT, qLam29), (PM, qLamC)] H' ∧ H' A1 = some (.lst vs) ∧ AnL H' vs) ⟨_, _, _, rfl, fx, eA, an⟩ ?_ ?_ ?_
        · rintro k σ H' _ ⟨_, _, _, _, _, eA', _⟩
          exact SqL.of eA'
        · clear fx eA an
          rintro k x σ _ H6 hk ⟨y10, y11, y12, rfl, fx, eA, an⟩ ⟨rfl, hx⟩
          obtain ⟨dv, ix, ag⟩ := an x (List.mem_of_getElem? hx)
          have sh := ag.s
          refine ⟨_, rfl, x, dv, rfl, ix, sh.1, sh.2.1, sh.2.2, ?_⟩
          refine fun h1n => ?_
          have ixD := DvF.dv h1n _ _ ix
          refine ⟨_, rfl, _, rfl, _, rfl, F, e, x, dv, true, xs, ds, d, 402, rfl, fx.eF, fx.oF, by omega, fx.ee, bF, ⟨bt, bn⟩, by decide, by decide, ixD, ag.g, fun b H8 s8 hb => ?_⟩
          have fx8 := fx.same s8
          have ix8 := Dv.kp (Fr.same s8).kp _ _ ixD
          refine ⟨_, rfl, .bl b, .bool b, rfl, .bl b, (sho_bl b).1, (sho_bl b).2.1, (sho_bl b).2.2, ?_⟩
          refine ⟨_, rfl, _, rfl, L, x, dv, ys, _, 403, rfl, fx8.eL, fx8.oL, by rw [List.length_append]; show ds.length + 1 ≤ 201; omega, bD, by decide, by decide, ix8, ag.g, fx8.tb, fun b2 H9 x9 t9 hb2 => ?_⟩
          refine ⟨.bl b2, .bool b2, rfl, .bl b2, (sho_bl b2).1, (sho_bl b2).2.1, (sho_bl b2).2.2, ?_⟩
          obtain rfl : b = b2 := by
            rw [Bool.eq_iff_iff, hb, hb2]
          have kk9 : Kp H6 H9 := by
            have k1 := (Fr.same s8).kp
            have k2 := ext_kp x9
            exact ⟨fun b y e => k2.l _ _ (k1.l _ _ e), fun b y e => k2.t _ _ (k1.t _ _ e), fun b e => k2.d0 _ (k1.d0 _ e), fun b y v e => k2.d1 _ _ _ (k1.d1 _ _ _ e)⟩
          refine ⟨rfl, _, rfl, iteFs (by rw [decide_eq_true rfl]; rfl) ?_⟩
          refine ⟨_, rfl, x, dv, rfl, DvF.kp kk9 _ _ ix, sh.1, sh.2.1, sh.2.2, _, rfl, rfl, _, rfl, iteFs (by rw [decide_eq_true rfl]; rfl) ?_⟩
          exact ⟨_, _, _, rfl, fx8.ext x9 t9, kk9.l _ _ eA, an.kp kk9⟩
        · rintro σ H5 ⟨y10, y11, y12, rfl, fx, _, _⟩
          exact ⟨_, _, _, rfl, fx⟩
      clear fx eA an
      rintro σ H5 ⟨y10, y11, y12, rfl, fx⟩
      refine ⟨_, rfl, len10 (by simp), fun rr nrr => ?_⟩
      have z1 := sm_upd (o := rcO ⟨false, 0, 3⟩) nrr
      refine ⟨a, _, rr, ⟨false, 0, 3⟩, rfl, fx.pn.same z1, by omega, upd_same, Bd.small 10 (by decide) (by decide), fun x H10 ox hP10 f10 => ?_⟩
      have fx10 := ((fx.same z1).fr f10 hP10).mono (m := 20000 * i + 1500) (by omega)
      obtain ⟨dx, gx, rg, rb⟩ := ox
      clear fx z1 f10 hP10
      refine ⟨fx10.tb, fun H11 x11 t11 => ?_⟩
      have fx11 := fx10.ext x11 t11
      have gx11 := Dv.kp (ext_kp x11) _ _ gx
      refine ⟨_, rfl, _, rfl, .ref F, x, .non, (ds.length : Nat), rfl, .more (kb := true) fx11.eF fx11.oF (by omega) gx11 rg rb, fun H12 s12 dd ndd => ?_⟩
      have zd := sm_upd (o := .xd [("index", .int (ds.length : Nat))]) ndd
      have fx12 := fx11.same (s12.trans zd)
      have gx12 := Dv.kp (Fr.same (s12.trans zd)).kp _ _ gx11
      refine ⟨rfl, dd, _, rfl, upd_same, _, rfl, F, _, rfl, .inl (SqL.of fx12.eF), rfl, _, rfl, iteNS (by simp [lx]) ?_⟩
      generalize upd H12 dd (.xd [("index", .int (ds.length : Nat))]) = H13 at fx12 gx12 ⊢
      clear fx10 gx fx11 gx11 zd s12 x11 t11
      refine ⟨fx12.tb, fun H14 x14 t14 => ?_⟩
      have fx14 := fx12.ext x14 t14
      have gx14 := Dv.kp (ext_kp x14) _ _ gx12
      refine ⟨_, rfl, len10 (by simp), fun p1 np1 => ?_⟩
      have z1 := sm_upd (o := .lst [x]) np1
      refine ⟨_, rfl, p1, F, [x], xs, rfl, rfl, upd_same, z1 _ _ fx14.eF, len10 (by show 1 + xs.length ≤ 1000; omega), fun p2 np2 => ?_⟩
      have z2 := sm_upd (o := .lst ([x] ++ xs)) np2
      have gx15 := Dv.kp (Fr.same (z1.trans z2)).kp _ _ gx14
      have fx15 := fx14.same (z1.trans z2)
      have bad1 : CkBad (upd (upd H14 p1 (.lst [x])) p2 (.lst ([x] ++ xs))) (.ref p2) ((0 : Nat) : Int) :=
        .item (kb := true) (xs := [x] ++ xs) (ds := []) (x := x) (i := 0) upd_same (by rw [List.length_append]; show 1 + xs.length ≤ 200; omega) .nil rfl gx15 rg rb
      generalize upd (upd H14 p1 (.lst [x])) p2 (.lst ([x] ++ xs)) = H15 at bad1 fx15 gx15 ⊢
      clear z1 z2 fx14 gx14
      refine ⟨_, rfl, .ref p2, x, .non, 0, rfl, .recs bad1, fun H16 s16 d2 nd2 => ?_⟩
      have zd := sm_upd (o := .xd [("index", .int 0)]) nd2
      have fx16 := fx15.same (s16.trans zd)
      have gx16 := Dv.kp (Fr.same (s16.trans zd)).kp _ _ gx15
      refine ⟨rfl, d2, _, rfl, upd_same, rfl, _, rfl, iteNS rfl ?_⟩
      generalize upd H16 d2 (.xd [("index", .int 0)]) = H17 at fx16 gx16 ⊢
      clear fx15 gx15 zd s16 x14 t14 bad1
      refine ⟨_, rfl, a, _, rfl, fx16.pn, by omega, fun nv H20 bad2 hP20 f20 => ?_⟩
      have fx20 := fx16.fr f20 hP20
      refine ⟨fx20.tb, fun H21 x21 t21 => ?_⟩
      refine ⟨_, rfl, _, rfl, nv, x, .non, -1, rfl, .recs (bad2.kp (ext_kp x21)), fun H22 s22 d2 nd2 => ?_⟩
      refine ⟨rfl, d2, _, rfl, upd_same, 1, rfl, rfl, _, rfl, iteNS rfl ?_⟩
      have zd2 := sm_upd (o := .xd [("index", .int (-1))]) nd2
      have fx22 := (fx20.ext x21 t21).same (s22.trans zd2)
      exact ⟨_, _, _, _, _, _, _, _, _, _, _, _, _, rfl, fx22.pn.mono (by omega), fx22.tb⟩
    · rintro σ H1 ⟨y2, y3, y4, y5, y6, y7, y8, y9, y10, y11, y12, y13, y14, rfl, hP1, t1⟩
      exact kk _
end
/-! ### what the top has written -/
abbrev sI_InvalidRecord : Stmt := (C8.clsBody (topS 3)).getD 0 (.Pass ⟨0, 0, 0, 0⟩)
theorem iniT_InvalidRecord : IniT "index" (defArgs sI_InvalidRecord) (defBody sI_InvalidRecord) (defScope sI_InvalidRecord) := ⟨⟨_, rfl, rfl⟩, ⟨_, _, _, _, _, _, _, _, _, _, _, _, rfl, _, fun env => rfl⟩, rfl, rfl, rfl, rfl, by decide +kernel, by decide +kernel, rfl, rfl, rfl, by decide +kernel, by decide +kernel, by decide +kernel⟩
theorem all_mk {l : PySem.W.OpenLaw} {w : World} {K : PySem.W.Frag} {h : Heap} {mg : Str → Option Value} {fa : Addr} (X : K.In h) (G : h.Ns mainGlobals mg) (hfa : mg "law" = some (.ref fa))
    {f0 f1 f2 f3 f4 f5 f6 f7 f8 f9 f10 f11 f12 f13 f14 f15 f16 f17 f18 f19 f20 f21 f22 f23 f24 f25 f26 f27 f28 f29 f30 f31 f32 f33 f34 f35 f36 f37 f38 f39 f40 f41 f42 f43 f44 f45 f46 : Addr} {od0 an0 od1 an1 od2 an2 od3 an3 od4 an4 od5 an5 od6 an6 od7 an7 od8 an8 od9 an9 od10 an10 od11 an11 od12 an12 od13 an13 od14 an14 od15 an15 od16 an16 od17 an17 od18 an18 od19 an19 od20 an20 od21 an21 od22 an22 od23 an23 od24 an24 od25 an25 od26 an26 od27 an27 od28 an28 od29 an29 od30 an30 od31 an31 od32 an32 od33 an33 od34 an34 od35 an35 od36 an36 od37 an37 od38 an38 od39 an39 od40 an40 od41 an41 od42 an42 od43 an43 od44 an44 od45 an45 od46 an46 : Option Addr} {sl0 sl1 sl2 sl3 sl4 sl5 sl6 sl7 sl8 sl9 sl10 sl11 sl12 sl13 sl14 sl15 sl16 sl17 sl18 sl19 sl20 sl21 sl22 sl23 sl24 sl25 sl26 sl27 sl28 sl29 sl30 sl31 sl32 sl33 sl34 sl35 sl36 sl37 sl38 sl39 sl40 sl41 sl42 sl43 sl44 sl45 sl46 : Array (Option Value)} {oc0 kV0 dc0 pm0 cd0 ct0 oc1 kV1 dc1 pm1 cd1 ct1 oc2 kV2 dc2 pm2 cd2 ct2 oc3 kV3 dc3 pm3 cd3 ct3 oc4 kV4 dc4 pm4 cd4 ct4 oc5 kV5 dc5 pm5 cd5 ct5 oc6 kV6 dc6 pm6 cd6 ct6 oc7 kV7 dc7 pm7 cd7 ct7 oc8 kV8 dc8 pm8 cd8 ct8 oc9 kV9 dc9 pm9 cd9 ct9 oc10 kV10 dc10 pm10 cd10 ct10 oc11 kV11 dc11 pm11 cd11 ct11 oc12 kV12 dc12 pm12 cd12 ct12 oc13 kV13 dc13 pm13 cd13 ct13 oc14 kV14 dc14 pm14 cd14 ct14 oc15 kV15 dc15 pm15 cd15 ct15 oc16 kV16 dc16 pm16 cd16 ct16 oc17 kV17 dc17 pm17 cd17 ct17 oc18 kV18 dc18 pm18 cd18 ct18 oc19 kV19 dc19 pm19 cd19 ct19 oc20 kV20 dc20 pm20 cd20 ct20 oc21 kV21 dc21 pm21 cd21 ct21 oc22 kV22 dc22 pm22 cd22 ct22 oc23 kV23 dc23 pm23 cd23 ct23 oc24 kV24 dc24 pm24 cd24 ct24 oc25 kV25 dc25 pm25 cd25 ct25 oc26 kV26 dc26 pm26 cd26 ct26 oc27 kV27 dc27 pm27 cd27 ct27 oc28 kV28 dc28 pm28 cd28 ct28 oc29 kV29 dc29 pm29 cd29 ct29 oc30 kV30 dc30 pm30 cd30 ct30 oc31 kV31 dc31 pm31 cd31 ct31 oc32 kV32 dc32 pm32 cd32 ct32 oc33 kV33 dc33 pm33 cd33 ct33 oc34 kV34 dc34 pm34 cd34 ct34 oc35 kV35 dc35 pm35 cd35 ct35 oc36 kV36 dc36 pm36 cd36 ct36 oc37 kV37 dc37 pm37 cd37 ct37 oc38 kV38 dc38 pm38 cd38 ct38 oc39 kV39 dc39 pm39 cd39 ct39 oc40 kV40 dc40 pm40 cd40 ct40 oc41 kV41 dc41 pm41 cd41 ct41 oc42 kV42 dc42 pm42 cd42 ct42 oc43 kV43 dc43 pm43 cd43 ct43 oc44 kV44 dc44 pm44 cd44 ct44 oc45 kV45 dc45 pm45 cd45 ct45 oc46 kV46 dc46 pm46 cd46 ct46 : Value}
    (a0 : PySem.W.nsIn K mainGlobals "_law_pen" = some (some (.ref f0))) (l0 : K.lookup f0 = some ⟨oc0, od0, .func (PySem.W.fnOf "_law_pen" "_law_pen" (defArgs s_l_pen) (defBody s_l_pen) (defScope s_l_pen) .none kV0 dc0 pm0 an0 cd0 ct0), sl0⟩) (c0 : PySem.W.codeIn K cd0 "_law_pen" = true) (k0 : PySem.W.keepIn K (.ref f0) = true)
    (a1 : PySem.W.nsIn K mainGlobals "_law_draw" = some (some (.ref f1))) (l1 : K.lookup f1 = some ⟨oc1, od1, .func (PySem.W.fnOf "_law_draw" "_law_draw" (defArgs s_l_draw) (defBody s_l_draw) (defScope s_l_draw) .none kV1 dc1 pm1 an1 cd1 ct1), sl1⟩) (c1 : PySem.W.codeIn K cd1 "_law_draw" = true) (k1 : PySem.W.keepIn K (.ref f1) = true)
    (a2 : PySem.W.nsIn K mainGlobals "_law_pick" = some (some (.ref f2))) (l2 : K.lookup f2 = some ⟨oc2, od2, .func (PySem.W.fnOf "_law_pick" "_law_pick" (defArgs s_l_pick) (defBody s_l_pick) (defScope s_l_pick) .none kV2 dc2 pm2 an2 cd2 ct2), sl2⟩) (c2 : PySem.W.codeIn K cd2 "_law_pick" = true) (k2 : PySem.W.keepIn K (.ref f2) = true)
    (a3 : PySem.W.nsIn K mainGlobals "_law_gcd" = some (some (.ref f3))) (l3 : K.lookup f3 = some ⟨oc3, od3, .func (PySem.W.fnOf "_law_gcd" "_law_gcd" (defArgs s_l_gcd) (defBody s_l_gcd) (defScope s_l_gcd) .none kV3 dc3 pm3 an3 cd3 ct3), sl3⟩) (c3 : PySem.W.codeIn K cd3 "_law_gcd" = true) (k3 : PySem.W.keepIn K (.ref f3) = true)
    (a4 : PySem.W.nsIn K mainGlobals "is_integer" = some (some (.ref f4))) (l4 : K.lookup f4 = some ⟨oc4, od4, .func (PySem.W.fnOf "is_integer" "is_integer" (defArgs s_is_integer) (defBody s_is_integer) (defScope s_is_integer) .none kV4 dc4 pm4 an4 cd4 ct4), sl4⟩) (c4 : PySem.W.codeIn K cd4 "is_integer" = true) (k4 : PySem.W.keepIn K (.ref f4) = true)
    (a5 : PySem.W.nsIn K mainGlobals "gcd" = some (some (.ref f5))) (l5 : K.lookup f5 = some ⟨oc5, od5, .func (PySem.W.fnOf "gcd" "gcd" (defArgs s_gcd) (defBody s_gcd) (defScope s_gcd) .none kV5 dc5 pm5 an5 cd5 ct5), sl5⟩) (c5 : PySem.W.codeIn K cd5 "gcd" = true) (k5 : PySem.W.keepIn K (.ref f5) = true)
    (a6 : PySem.W.nsIn K mainGlobals "is_rule" = some (some (.ref f6))) (l6 : K.lookup f6 = some ⟨oc6, od6, .func (PySem.W.fnOf "is_rule" "is_rule" (defArgs s_is_rule) (defBody s_is_rule) (defScope s_is_rule) .none kV6 dc6 pm6 an6 cd6 ct6), sl6⟩) (c6 : PySem.W.codeIn K cd6 "is_rule" = true) (k6 : PySem.W.keepIn K (.ref f6) = true)
    (a7 : PySem.W.nsIn K mainGlobals "is_rate" = some (some (.ref f7))) (l7 : K.lookup f7 = some ⟨oc7, od7, .func (PySem.W.fnOf "is_rate" "is_rate" (defArgs s_is_rate) (defBody s_is_rate) (defScope s_is_rate) .none kV7 dc7 pm7 an7 cd7 ct7), sl7⟩) (c7 : PySem.W.codeIn K cd7 "is_rate" = true) (k7 : PySem.W.keepIn K (.ref f7) = true)
    (a8 : PySem.W.nsIn K mainGlobals "check_rate" = some (some (.ref f8))) (l8 : K.lookup f8 = some ⟨oc8, od8, .func (PySem.W.fnOf "check_rate" "check_rate" (defArgs s_check_rate) (defBody s_check_rate) (defScope s_check_rate) .none kV8 dc8 pm8 an8 cd8 ct8), sl8⟩) (c8 : PySem.W.codeIn K cd8 "check_rate" = true) (k8 : PySem.W.keepIn K (.ref f8) = true)
    (a9 : PySem.W.nsIn K mainGlobals "simplest_inside" = some (some (.ref f9))) (l9 : K.lookup f9 = some ⟨oc9, od9, .func (PySem.W.fnOf "simplest_inside" "simplest_inside" (defArgs s_simplest_inside) (defBody s_simplest_inside) (defScope s_simplest_inside) .none kV9 dc9 pm9 an9 cd9 ct9), sl9⟩) (c9 : PySem.W.codeIn K cd9 "simplest_inside" = true) (k9 : PySem.W.keepIn K (.ref f9) = true)
    (a10 : PySem.W.nsIn K mainGlobals "is_record" = some (some (.ref f10))) (l10 : K.lookup f10 = some ⟨oc10, od10, .func (PySem.W.fnOf "is_record" "is_record" (defArgs s_is_record) (defBody s_is_record) (defScope s_is_record) .none kV10 dc10 pm10 an10 cd10 ct10), sl10⟩) (c10 : PySem.W.codeIn K cd10 "is_record" = true) (k10 : PySem.W.keepIn K (.ref f10) = true)
    (a11 : PySem.W.nsIn K mainGlobals "check_records" = some (some (.ref f11))) (l11 : K.lookup f11 = some ⟨oc11, od11, .func (PySem.W.fnOf "check_records" "check_records" (defArgs s_check_records) (defBody s_check_records) (defScope s_check_records) .none kV11 dc11 pm11 an11 cd11 ct11), sl11⟩) (c11 : PySem.W.codeIn K cd11 "check_records" = true) (k11 : PySem.W.keepIn K (.ref f11) = true)
    (a12 : PySem.W.nsIn K mainGlobals "split_records" = some (some (.ref f12))) (l12 : K.lookup f12 = some ⟨oc12, od12, .func (PySem.W.fnOf "split_records" "split_records" (defArgs s_split_records) (defBody s_split_records) (defScope s_split_records) .none kV12 dc12 pm12 an12 cd12 ct12), sl12⟩) (c12 : PySem.W.codeIn K cd12 "split_records" = true) (k12 : PySem.W.keepIn K (.ref f12) = true)
    (a13 : PySem.W.nsIn K mainGlobals "opposite" = some (some (.ref f13))) (l13 : K.lookup f13 = some ⟨oc13, od13, .func (PySem.W.fnOf "opposite" "opposite" (defArgs s_opposite) (defBody s_opposite) (defScope s_opposite) .none kV13 dc13 pm13 an13 cd13 ct13), sl13⟩) (c13 : PySem.W.codeIn K cd13 "opposite" = true) (k13 : PySem.W.keepIn K (.ref f13) = true)
    (a14 : PySem.W.nsIn K mainGlobals "_law_odd_record" = some (some (.ref f14))) (l14 : K.lookup f14 = some ⟨oc14, od14, .func (PySem.W.fnOf "_law_odd_record" "_law_odd_record" (defArgs s_l_odd_record) (defBody s_l_odd_record) (defScope s_l_odd_record) .none kV14 dc14 pm14 an14 cd14 ct14), sl14⟩) (c14 : PySem.W.codeIn K cd14 "_law_odd_record" = true) (k14 : PySem.W.keepIn K (.ref f14) = true)
    (a15 : PySem.W.nsIn K mainGlobals "_law_far" = some (some (.ref f15))) (l15 : K.lookup f15 = some ⟨oc15, od15, .func (PySem.W.fnOf "_law_far" "_law_far" (defArgs s_l_far) (defBody s_l_far) (defScope s_l_far) .none kV15 dc15 pm15 an15 cd15 ct15), sl15⟩) (c15 : PySem.W.codeIn K cd15 "_law_far" = true) (k15 : PySem.W.keepIn K (.ref f15) = true)
    (a16 : PySem.W.nsIn K mainGlobals "_law_rule" = some (some (.ref f16))) (l16 : K.lookup f16 = some ⟨oc16, od16, .func (PySem.W.fnOf "_law_rule" "_law_rule" (defArgs s_l_rule) (defBody s_l_rule) (defScope s_l_rule) .none kV16 dc16 pm16 an16 cd16 ct16), sl16⟩) (c16 : PySem.W.codeIn K cd16 "_law_rule" = true) (k16 : PySem.W.keepIn K (.ref f16) = true)
    (a17 : PySem.W.nsIn K mainGlobals "_law_count" = some (some (.ref f17))) (l17 : K.lookup f17 = some ⟨oc17, od17, .func (PySem.W.fnOf "_law_count" "_law_count" (defArgs s_l_count) (defBody s_l_count) (defScope s_l_count) .none kV17 dc17 pm17 an17 cd17 ct17), sl17⟩) (c17 : PySem.W.codeIn K cd17 "_law_count" = true) (k17 : PySem.W.keepIn K (.ref f17) = true)
    (a18 : PySem.W.nsIn K mainGlobals "_law_time" = some (some (.ref f18))) (l18 : K.lookup f18 = some ⟨oc18, od18, .func (PySem.W.fnOf "_law_time" "_law_time" (defArgs s_l_time) (defBody s_l_time) (defScope s_l_time) .none kV18 dc18 pm18 an18 cd18 ct18), sl18⟩) (c18 : PySem.W.codeIn K cd18 "_law_time" = true) (k18 : PySem.W.keepIn K (.ref f18) = true)
    (a19 : PySem.W.nsIn K mainGlobals "_law_record" = some (some (.ref f19))) (l19 : K.lookup f19 = some ⟨oc19, od19, .func (PySem.W.fnOf "_law_record" "_law_record" (defArgs s_l_record) (defBody s_l_record) (defScope s_l_record) .none kV19 dc19 pm19 an19 cd19 ct19), sl19⟩) (c19 : PySem.W.codeIn K cd19 "_law_record" = true) (k19 : PySem.W.keepIn K (.ref f19) = true)
    (a20 : PySem.W.nsIn K mainGlobals "tighter_pairs" = some (some (.ref f20))) (l20 : K.lookup f20 = some ⟨oc20, od20, .func (PySem.W.fnOf "tighter_pairs" "tighter_pairs" (defArgs s_tighter_pairs) (defBody s_tighter_pairs) (defScope s_tighter_pairs) .none kV20 dc20 pm20 an20 cd20 ct20), sl20⟩) (c20 : PySem.W.codeIn K cd20 "tighter_pairs" = true) (k20 : PySem.W.keepIn K (.ref f20) = true)
    (a21 : PySem.W.nsIn K mainGlobals "simplest_between" = some (some (.ref f21))) (l21 : K.lookup f21 = some ⟨oc21, od21, .func (PySem.W.fnOf "simplest_between" "simplest_between" (defArgs s_simplest_between) (defBody s_simplest_between) (defScope s_simplest_between) .none kV21 dc21 pm21 an21 cd21 ct21), sl21⟩) (c21 : PySem.W.codeIn K cd21 "simplest_between" = true) (k21 : PySem.W.keepIn K (.ref f21) = true)
    (a22 : PySem.W.nsIn K mainGlobals "reduce_rate" = some (some (.ref f22))) (l22 : K.lookup f22 = some ⟨oc22, od22, .func (PySem.W.fnOf "reduce_rate" "reduce_rate" (defArgs s_reduce_rate) (defBody s_reduce_rate) (defScope s_reduce_rate) .none kV22 dc22 pm22 an22 cd22 ct22), sl22⟩) (c22 : PySem.W.codeIn K cd22 "reduce_rate" = true) (k22 : PySem.W.keepIn K (.ref f22) = true)
    (a23 : PySem.W.nsIn K mainGlobals "tight_pairs" = some (some (.ref f23))) (l23 : K.lookup f23 = some ⟨oc23, od23, .func (PySem.W.fnOf "tight_pairs" "tight_pairs" (defArgs s_tight_pairs) (defBody s_tight_pairs) (defScope s_tight_pairs) .none kV23 dc23 pm23 an23 cd23 ct23), sl23⟩) (c23 : PySem.W.codeIn K cd23 "tight_pairs" = true) (k23 : PySem.W.keepIn K (.ref f23) = true)
    (a24 : PySem.W.nsIn K mainGlobals "leave_no_rate" = some (some (.ref f24))) (l24 : K.lookup f24 = some ⟨oc24, od24, .func (PySem.W.fnOf "leave_no_rate" "leave_no_rate" (defArgs s_leave_no_rate) (defBody s_leave_no_rate) (defScope s_leave_no_rate) .none kV24 dc24 pm24 an24 cd24 ct24), sl24⟩) (c24 : PySem.W.codeIn K cd24 "leave_no_rate" = true) (k24 : PySem.W.keepIn K (.ref f24) = true)
    (a25 : PySem.W.nsIn K mainGlobals "rate_ends" = some (some (.ref f25))) (l25 : K.lookup f25 = some ⟨oc25, od25, .func (PySem.W.fnOf "rate_ends" "rate_ends" (defArgs s_rate_ends) (defBody s_rate_ends) (defScope s_rate_ends) .none kV25 dc25 pm25 an25 cd25 ct25), sl25⟩) (c25 : PySem.W.codeIn K cd25 "rate_ends" = true) (k25 : PySem.W.keepIn K (.ref f25) = true)
    (a26 : PySem.W.nsIn K mainGlobals "phase_ends" = some (some (.ref f26))) (l26 : K.lookup f26 = some ⟨oc26, od26, .func (PySem.W.fnOf "phase_ends" "phase_ends" (defArgs s_phase_ends) (defBody s_phase_ends) (defScope s_phase_ends) .none kV26 dc26 pm26 an26 cd26 ct26), sl26⟩) (c26 : PySem.W.codeIn K cd26 "phase_ends" = true) (k26 : PySem.W.keepIn K (.ref f26) = true)
    (a27 : PySem.W.nsIn K mainGlobals "fits_record" = some (some (.ref f27))) (l27 : K.lookup f27 = some ⟨oc27, od27, .func (PySem.W.fnOf "fits_record" "fits_record" (defArgs s_fits_record) (defBody s_fits_record) (defScope s_fits_record) .none kV27 dc27 pm27 an27 cd27 ct27), sl27⟩) (c27 : PySem.W.codeIn K cd27 "fits_record" = true) (k27 : PySem.W.keepIn K (.ref f27) = true)
    (a28 : PySem.W.nsIn K mainGlobals "find_conflict" = some (some (.ref f28))) (l28 : K.lookup f28 = some ⟨oc28, od28, .func (PySem.W.fnOf "find_conflict" "find_conflict" (defArgs s_find_conflict) (defBody s_find_conflict) (defScope s_find_conflict) .none kV28 dc28 pm28 an28 cd28 ct28), sl28⟩) (c28 : PySem.W.codeIn K cd28 "find_conflict" = true) (k28 : PySem.W.keepIn K (.ref f28) = true)
    (a29 : PySem.W.nsIn K mainGlobals "are_indexes" = some (some (.ref f29))) (l29 : K.lookup f29 = some ⟨oc29, od29, .func (PySem.W.fnOf "are_indexes" "are_indexes" (defArgs s_are_indexes) (defBody s_are_indexes) (defScope s_are_indexes) .none kV29 dc29 pm29 an29 cd29 ct29), sl29⟩) (c29 : PySem.W.codeIn K cd29 "are_indexes" = true) (k29 : PySem.W.keepIn K (.ref f29) = true)
    (a30 : PySem.W.nsIn K mainGlobals "shows_conflict" = some (some (.ref f30))) (l30 : K.lookup f30 = some ⟨oc30, od30, .func (PySem.W.fnOf "shows_conflict" "shows_conflict" (defArgs s_shows_conflict) (defBody s_shows_conflict) (defScope s_shows_conflict) .none kV30 dc30 pm30 an30 cd30 ct30), sl30⟩) (c30 : PySem.W.codeIn K cd30 "shows_conflict" = true) (k30 : PySem.W.keepIn K (.ref f30) = true)
    (a31 : PySem.W.nsIn K mainGlobals "with_opposite" = some (some (.ref f31))) (l31 : K.lookup f31 = some ⟨oc31, od31, .func (PySem.W.fnOf "with_opposite" "with_opposite" (defArgs s_with_opposite) (defBody s_with_opposite) (defScope s_with_opposite) .none kV31 dc31 pm31 an31 cd31 ct31), sl31⟩) (c31 : PySem.W.codeIn K cd31 "with_opposite" = true) (k31 : PySem.W.keepIn K (.ref f31) = true)
    (a32 : PySem.W.nsIn K mainGlobals "fitting_ends" = some (some (.ref f32))) (l32 : K.lookup f32 = some ⟨oc32, od32, .func (PySem.W.fnOf "fitting_ends" "fitting_ends" (defArgs s_fitting_ends) (defBody s_fitting_ends) (defScope s_fitting_ends) .none kV32 dc32 pm32 an32 cd32 ct32), sl32⟩) (c32 : PySem.W.codeIn K cd32 "fitting_ends" = true) (k32 : PySem.W.keepIn K (.ref f32) = true)
    (a33 : PySem.W.nsIn K mainGlobals "fitting_rule" = some (some (.ref f33))) (l33 : K.lookup f33 = some ⟨oc33, od33, .func (PySem.W.fnOf "fitting_rule" "fitting_rule" (defArgs s_fitting_rule) (defBody s_fitting_rule) (defScope s_fitting_rule) .none kV33 dc33 pm33 an33 cd33 ct33), sl33⟩) (c33 : PySem.W.codeIn K cd33 "fitting_rule" = true) (k33 : PySem.W.keepIn K (.ref f33) = true)
    (a34 : PySem.W.nsIn K mainGlobals "follows" = some (some (.ref f34))) (l34 : K.lookup f34 = some ⟨oc34, od34, .func (PySem.W.fnOf "follows" "follows" (defArgs s_follows) (defBody s_follows) (defScope s_follows) .none kV34 dc34 pm34 an34 cd34 ct34), sl34⟩) (c34 : PySem.W.codeIn K cd34 "follows" = true) (k34 : PySem.W.keepIn K (.ref f34) = true)
    (a35 : PySem.W.nsIn K mainGlobals "is_answer" = some (some (.ref f35))) (l35 : K.lookup f35 = some ⟨oc35, od35, .func (PySem.W.fnOf "is_answer" "is_answer" (defArgs s_is_answer) (defBody s_is_answer) (defScope s_is_answer) .none kV35 dc35 pm35 an35 cd35 ct35), sl35⟩) (c35 : PySem.W.codeIn K cd35 "is_answer" = true) (k35 : PySem.W.keepIn K (.ref f35) = true)
    (a36 : PySem.W.nsIn K mainGlobals "_law_opposite" = some (some (.ref f36))) (l36 : K.lookup f36 = some ⟨oc36, od36, .func (PySem.W.fnOf "_law_opposite" "_law_opposite" (defArgs s_l_opposite) (defBody s_l_opposite) (defScope s_l_opposite) .none kV36 dc36 pm36 an36 cd36 ct36), sl36⟩) (c36 : PySem.W.codeIn K cd36 "_law_opposite" = true) (k36 : PySem.W.keepIn K (.ref f36) = true)
    (a37 : PySem.W.nsIn K mainGlobals "_law_index" = some (some (.ref f37))) (l37 : K.lookup f37 = some ⟨oc37, od37, .func (PySem.W.fnOf "_law_index" "_law_index" (defArgs s_l_index) (defBody s_l_index) (defScope s_l_index) .none kV37 dc37 pm37 an37 cd37 ct37), sl37⟩) (c37 : PySem.W.codeIn K cd37 "_law_index" = true) (k37 : PySem.W.keepIn K (.ref f37) = true)
    (a38 : PySem.W.nsIn K mainGlobals "_law_none" = some (some (.ref f38))) (l38 : K.lookup f38 = some ⟨oc38, od38, .func (PySem.W.fnOf "_law_none" "_law_none" (defArgs s_l_none) (defBody s_l_none) (defScope s_l_none) .none kV38 dc38 pm38 an38 cd38 ct38), sl38⟩) (c38 : PySem.W.codeIn K cd38 "_law_none" = true) (k38 : PySem.W.keepIn K (.ref f38) = true)
    (a39 : PySem.W.nsIn K mainGlobals "_law_fits" = some (some (.ref f39))) (l39 : K.lookup f39 = some ⟨oc39, od39, .func (PySem.W.fnOf "_law_fits" "_law_fits" (defArgs s_l_fits) (defBody s_l_fits) (defScope s_l_fits) .none kV39 dc39 pm39 an39 cd39 ct39), sl39⟩) (c39 : PySem.W.codeIn K cd39 "_law_fits" = true) (k39 : PySem.W.keepIn K (.ref f39) = true)
    (a40 : PySem.W.nsIn K mainGlobals "_law_is_conflict" = some (some (.ref f40))) (l40 : K.lookup f40 = some ⟨oc40, od40, .func (PySem.W.fnOf "_law_is_conflict" "_law_is_conflict" (defArgs s_l_is_conflict) (defBody s_l_is_conflict) (defScope s_l_is_conflict) .none kV40 dc40 pm40 an40 cd40 ct40), sl40⟩) (c40 : PySem.W.codeIn K cd40 "_law_is_conflict" = true) (k40 : PySem.W.keepIn K (.ref f40) = true)
    (a41 : PySem.W.nsIn K mainGlobals "_law_are_indexes" = some (some (.ref f41))) (l41 : K.lookup f41 = some ⟨oc41, od41, .func (PySem.W.fnOf "_law_are_indexes" "_law_are_indexes" (defArgs s_l_are_indexes) (defBody s_l_are_indexes) (defScope s_l_are_indexes) .none kV41 dc41 pm41 an41 cd41 ct41), sl41⟩) (c41 : PySem.W.codeIn K cd41 "_law_are_indexes" = true) (k41 : PySem.W.keepIn K (.ref f41) = true)
    (a42 : PySem.W.nsIn K mainGlobals "_law_odd" = some (some (.ref f42))) (l42 : K.lookup f42 = some ⟨oc42, od42, .func (PySem.W.fnOf "_law_odd" "_law_odd" (defArgs s_l_odd) (defBody s_l_odd) (defScope s_l_odd) .none kV42 dc42 pm42 an42 cd42 ct42), sl42⟩) (c42 : PySem.W.codeIn K cd42 "_law_odd" = true) (k42 : PySem.W.keepIn K (.ref f42) = true)
    (a43 : PySem.W.nsIn K mainGlobals "_law_is_rule" = some (some (.ref f43))) (l43 : K.lookup f43 = some ⟨oc43, od43, .func (PySem.W.fnOf "_law_is_rule" "_law_is_rule" (defArgs s_l_is_rule) (defBody s_l_is_rule) (defScope s_l_is_rule) .none kV43 dc43 pm43 an43 cd43 ct43), sl43⟩) (c43 : PySem.W.codeIn K cd43 "_law_is_rule" = true) (k43 : PySem.W.keepIn K (.ref f43) = true)
    (a44 : PySem.W.nsIn K mainGlobals "_law_due" = some (some (.ref f44))) (l44 : K.lookup f44 = some ⟨oc44, od44, .func (PySem.W.fnOf "_law_due" "_law_due" (defArgs s_l_due) (defBody s_l_due) (defScope s_l_due) .none kV44 dc44 pm44 an44 cd44 ct44), sl44⟩) (c44 : PySem.W.codeIn K cd44 "_law_due" = true) (k44 : PySem.W.keepIn K (.ref f44) = true)
    (a45 : PySem.W.nsIn K mainGlobals "_law_values" = some (some (.ref f45))) (l45 : K.lookup f45 = some ⟨oc45, od45, .func (PySem.W.fnOf "_law_values" "_law_values" (defArgs s_l_values) (defBody s_l_values) (defScope s_l_values) .none kV45 dc45 pm45 an45 cd45 ct45), sl45⟩) (c45 : PySem.W.codeIn K cd45 "_law_values" = true) (k45 : PySem.W.keepIn K (.ref f45) = true)
    (a46 : PySem.W.nsIn K mainGlobals "law" = some (some (.ref f46))) (l46 : K.lookup f46 = some ⟨oc46, od46, .func (PySem.W.fnOf "law" "law" (defArgs s_law) (defBody s_law) (defScope s_law) .none kV46 dc46 pm46 an46 cd46 ct46), sl46⟩) (c46 : PySem.W.codeIn K cd46 "law" = true) (k46 : PySem.W.keepIn K (.ref f46) = true)
    (z0 : PySem.W.nsIn K mainGlobals "len" = some none) (z1 : PySem.W.nsIn K mainGlobals "abs" = some none) (z2 : PySem.W.nsIn K mainGlobals "list" = some none) (z3 : PySem.W.nsIn K mainGlobals "range" = some none) (z4 : PySem.W.nsIn K mainGlobals "sum" = some none) (z5 : PySem.W.nsIn K mainGlobals "repr" = some none) (z6 : PySem.W.nsIn K mainGlobals "max" = some none) (z7 : PySem.W.nsIn K mainGlobals "min" = some none) (z8 : PySem.W.nsIn K mainGlobals "reversed" = some none) (z9 : PySem.W.nsIn K mainGlobals "divmod" = some none) (z10 : PySem.W.nsIn K mainGlobals "isinstance" = some none) (z11 : PySem.W.nsIn K mainGlobals "all" = some none) (z12 : PySem.W.nsIn K mainGlobals "int" = some none) (z13 : PySem.W.nsIn K mainGlobals "bool" = some none) (z14 : PySem.W.nsIn K mainGlobals "tuple" = some none) (z15 : PySem.W.nsIn K mainGlobals "sorted" = some none) (z16 : PySem.W.nsIn K mainGlobals "zip" = some none) (z17 : PySem.W.nsIn K mainGlobals "enumerate" = some none) (z18 : PySem.W.nsIn K mainGlobals "set" = some none) (z19 : PySem.W.nsIn K mainGlobals "str" = some none)
    {vC0 vI0 vD0 vX0 vN0 : Addr} {vnm0 vqn0 : Str} {vbs0 vbm0 vsb0 : List Value} {vsn0 : List Str} {vab0 : Bool} {vcl0 : Option Bool} {vdd0 von0 vcd0 vce0 van0 : Option Addr} {vk00 vk10 vk20 vk30 vk50 : Option Value} {voc0 vkV0 vdc0 vpm0 vct0 vcc0 vce20 : Value} {vsl0 vcs0 vcs20 : Array (Option Value)} {vvs0 : Array Value} {vfl0 : Str} {vtf0 : Tok} (v0_0 : PySem.W.nsIn K mainGlobals "InvalidRecord" = some (some (.ref vC0))) (v0_1 : K.lookup vC0 = some (excClassObj vnm0 vqn0 vC0 vN0 vbs0 vbm0 true vsn0 vsb0 vab0 vcl0 vdd0 vk00 vk10 vk20 vk30 vk50 "ValueError.__new__")) (v0_2 : PySem.HandSPX.refsVE vbm0 = true) (v0_3 : PySem.W.findIn K (.ref vC0) "__setattr__" = some (some (.builtin "object.__setattr__"))) (v0_4 : PySem.W.subIn K (.ref vC0) (.type "BaseException") = some true) (v0_5 : PySem.W.typeIn K (.ref vC0) = some (.type "type")) (v0_6 : PySem.W.keepIn K (.ref vC0) = true) (v0_7 : PySem.W.findIn K (.ref vC0) "__init__" = some (some (.ref vI0))) (v0_8 : K.lookup vI0 = some ⟨voc0, von0, .func (PySem.W.ksFn "__init__" "InvalidRecord.__init__" (defArgs sI_InvalidRecord) (defBody sI_InvalidRecord) (defScope sI_InvalidRecord) .none vkV0 vdc0 vpm0 van0 (.ref vD0) vct0 vX0), vsl0⟩) (v0_9 : PySem.W.codeIn K (.ref vD0) "InvalidRecord.__init__" = true) (v0_10 : K.lookup vD0 = some ⟨vcc0, vcd0, .fields vvs0, vcs0⟩) (v0_11 : vvs0[2]? = some (.str vfl0 vtf0)) (v0_12 : ((l.prog.main.file : Str) == vfl0) = true) (v0_13 : K.lookup vX0 = some ⟨vce20, vce0, .cell (some (.ref vC0)), vcs20⟩) (v0_14 : PySem.W.mroIn K vC0 (.ref vC0) = some true) (v0_15 : PySem.W.ks_superIn K vC0 vC0 "__init__" = some (some (.builtin "ValueError.__init__"))) (v0_16 : PySem.W.subIn K (.ref vC0) (.type "ValueError") = some true) (v0_17 : PySem.W.findIn K (.ref vC0) "index" = some none) (v0_18 : PySem.W.typeIn K (.ref vI0) = some (.type "function")) (v0_19 : PySem.W.findIn K (.ref vC0) "__getattribute__" = some (some (.builtin "BaseException.__getattribute__"))) (v0_20 : PySem.W.findIn K (.ref vC0) "__getattr__" = some none) (v0_21 : PySem.W.hasDictIn K vC0 = true) (v0_22 : PySem.W.findIn K (.ref vC0) "__class__" = some (some (.builtin "object.__class__"))) (v0_23 : PySem.W.mroIn K vC0 (.type "object") = some true) (v0_24 : PySem.W.subIn K (.ref vC0) (.ref vC0) = some true) (vu0 : PySem.W.nsIn K cStatics "thirdparty.any" = some none) (vu1 : PySem.W.specialIn K (.builtin "object.__class__") "__get__" = some (some (.builtin "getset_descriptor.__get__"))) (vu2 : PySem.W.takesIn K (.builtin "object.__class__") = some true) (vu3 : (l.prog.main.scope.names.lookup ("super" : Str)).isSome = false) (vu4 : PySem.W.nsIn K mainGlobals "super" = some none)
    {cL PT cM PM : Addr} {eL eM : Value} {dL dM : Option Addr} {vL vM : Array Value} {sL sM : Array (Option Value)}
    {tM : Tok} (xM : PySem.W.nsIn K mainGlobals "MOST_RECORDS" = some (some (.int 200 tM)))
    (v0 : cd46 = .ref cL) (v1 : K.lookup cL = some ⟨eL, dL, .fields vL, sL⟩) (v2 : vL[11]? = some (.ref PT)) (v3 : K.lookup PT = none) (v4 : PySem.W.codeHdIn K cL PT = true) (v5 : h.get? PT = some { cls := .none, data := .fields #[] })
    (u0 : cd40 = .ref cM) (u1 : K.lookup cM = some ⟨eM, dM, .fields vM, sM⟩) (u2 : vM[11]? = some (.ref PM)) (u3 : K.lookup PM = none) (u4 : PySem.W.codeHdIn K cM PM = true) (u5 : h.get? PM = some { cls := .none, data := .fields #[] }) (u6 : PM ≠ PT) :
    LawGTn l w K 8 "_law_script" mg fa h := by
  have e := hfa.symm.trans (PySem.W.mg_of X G a46)
  cases e
  subst v0 u0
  have B : Bi mg := ⟨PySem.W.mg_none_of X G z0, PySem.W.mg_none_of X G z1, PySem.W.mg_none_of X G z2, PySem.W.mg_none_of X G z3, PySem.W.mg_none_of X G z4, PySem.W.mg_none_of X G z5, PySem.W.mg_none_of X G z6, PySem.W.mg_none_of X G z7, PySem.W.mg_none_of X G z8, PySem.W.mg_none_of X G z9, PySem.W.mg_none_of X G z10, PySem.W.mg_none_of X G z11, PySem.W.mg_none_of X G z12, PySem.W.mg_none_of X G z13, PySem.W.mg_none_of X G z14, PySem.W.mg_none_of X G z15, PySem.W.mg_none_of X G z16, PySem.W.mg_none_of X G z17, PySem.W.mg_none_of X G z18, PySem.W.mg_none_of X G z19⟩
  have U : Bc mg := ⟨⟨tM, PySem.W.mg_of X G xM⟩⟩
  have V_InvalidRecord : ValC l.prog K mg vC0 "InvalidRecord" "index" := ⟨PySem.W.mg_of X G v0_0, ⟨vI0, vD0, vX0, "InvalidRecord.__init__", defArgs sI_InvalidRecord, defBody sI_InvalidRecord, defScope sI_InvalidRecord, vkV0, vdc0, vpm0, vct0, voc0, van0, von0, vsl0, v0_8, v0_9, iniT_InvalidRecord, ⟨⟨⟨vnm0, vqn0, vN0, vbs0, vbm0, vsn0, vsb0, vab0, vcl0, vdd0, vk00, vk10, vk20, vk30, vk50, v0_1, v0_2⟩, v0_3, v0_4, v0_5, v0_6⟩, ⟨_, _, _, _, _, _, v0_10, v0_11, v0_12⟩, ⟨_, _, _, v0_13⟩, v0_14, vu0, v0_15, v0_16, v0_17, vu3⟩, v0_7, v0_18, .all fun us hl => match us, hl with | [_, _], _ => rfl⟩, PySem.W.mg_none_of X G vu4, ⟨v0_19, v0_20, v0_4, v0_21, v0_22, vu1, vu2, v0_23⟩, v0_24⟩
  have F0 := fun_mk (st := s_l_pen) l0 c0 k0
  have D_l_pen : Df K mg "_law_pen" s_l_pen P_l_pen := ⟨f0, _, F0, PySem.W.mg_of X G a0, F0.binds fun _ _ _ _ _ _ us hl => match us, hl with | [_], _ => rfl⟩
  have F1 := fun_mk (st := s_l_draw) l1 c1 k1
  have D_l_draw : Df K mg "_law_draw" s_l_draw P_l_draw := ⟨f1, _, F1, PySem.W.mg_of X G a1, F1.binds fun _ _ _ _ _ _ us hl => match us, hl with | [_, _], _ => rfl⟩
  have F2 := fun_mk (st := s_l_pick) l2 c2 k2
  have D_l_pick : Df K mg "_law_pick" s_l_pick P_l_pick := ⟨f2, _, F2, PySem.W.mg_of X G a2, F2.binds fun _ _ _ _ _ _ us hl => match us, hl with | [_, _], _ => rfl⟩
  have F3 := fun_mk (st := s_l_gcd) l3 c3 k3
  have D_l_gcd : Df K mg "_law_gcd" s_l_gcd P_l_gcd := ⟨f3, _, F3, PySem.W.mg_of X G a3, F3.binds fun _ _ _ _ _ _ us hl => match us, hl with | [_, _], _ => rfl⟩
  have F4 := fun_mk (st := s_is_integer) l4 c4 k4
  have D_is_integer : Df K mg "is_integer" s_is_integer P_is_integer := ⟨f4, _, F4, PySem.W.mg_of X G a4, F4.binds fun _ _ _ _ _ _ us hl => match us, hl with | [_], _ => rfl⟩
  have F5 := fun_mk (st := s_gcd) l5 c5 k5
  have D_gcd : Df K mg "gcd" s_gcd P_gcd := ⟨f5, _, F5, PySem.W.mg_of X G a5, F5.binds fun _ _ _ _ _ _ us hl => match us, hl with | [_, _], _ => rfl⟩
  have F6 := fun_mk (st := s_is_rule) l6 c6 k6
  have D_is_rule : Df K mg "is_rule" s_is_rule P_is_rule := ⟨f6, _, F6, PySem.W.mg_of X G a6, F6.binds fun _ _ _ _ _ _ us hl => match us, hl with | [_], _ => rfl⟩
  have F7 := fun_mk (st := s_is_rate) l7 c7 k7
  have D_is_rate : Df K mg "is_rate" s_is_rate P_is_rate := ⟨f7, _, F7, PySem.W.mg_of X G a7, F7.binds fun _ _ _ _ _ _ us hl => match us, hl with | [_], _ => rfl⟩
  have F8 := fun_mk (st := s_check_rate) l8 c8 k8
  have D_check_rate : Df K mg "check_rate" s_check_rate P_check_rate := ⟨f8, _, F8, PySem.W.mg_of X G a8, F8.binds fun _ _ _ _ _ _ us hl => match us, hl with | [_], _ => rfl⟩
  have F9 := fun_mk (st := s_simplest_inside) l9 c9 k9
  have D_simplest_inside : Df K mg "simplest_inside" s_simplest_inside P_simplest_inside := ⟨f9, _, F9, PySem.W.mg_of X G a9, F9.binds fun _ _ _ _ _ _ us hl => match us, hl with | [_, _], _ => rfl⟩
  have F10 := fun_mk (st := s_is_record) l10 c10 k10
  have D_is_record : Df K mg "is_record" s_is_record P_is_record := ⟨f10, _, F10, PySem.W.mg_of X G a10, F10.binds fun _ _ _ _ _ _ us hl => match us, hl with | [_], _ => rfl⟩
  have F11 := fun_mk (st := s_check_records) l11 c11 k11
  have D_check_records : Df K mg "check_records" s_check_records P_check_records := ⟨f11, _, F11, PySem.W.mg_of X G a11, F11.binds fun _ _ _ _ _ _ us hl => match us, hl with | [_], _ => rfl⟩
  have F12 := fun_mk (st := s_split_records) l12 c12 k12
  have D_split_records : Df K mg "split_records" s_split_records P_split_records := ⟨f12, _, F12, PySem.W.mg_of X G a12, F12.binds fun _ _ _ _ _ _ us hl => match us, hl with | [_], _ => rfl⟩
  have F13 := fun_mk (st := s_opposite) l13 c13 k13
  have D_opposite : Df K mg "opposite" s_opposite P_opposite := ⟨f13, _, F13, PySem.W.mg_of X G a13, F13.binds fun _ _ _ _ _ _ us hl => match us, hl with | [_], _ => rfl⟩
  have F14 := fun_mk (st := s_l_odd_record) l14 c14 k14
  have D_l_odd_record : Df K mg "_law_odd_record" s_l_odd_record P_l_odd_record := ⟨f14, _, F14, PySem.W.mg_of X G a14, F14.binds fun _ _ _ _ _ _ us hl => match us, hl with | [_, _], _ => rfl⟩
  have F15 := fun_mk (st := s_l_far) l15 c15 k15
  have D_l_far : Df K mg "_law_far" s_l_far P_l_far := ⟨f15, _, F15, PySem.W.mg_of X G a15, F15.binds fun _ _ _ _ _ _ us hl => match us, hl with | [_, _], _ => rfl⟩
  have F16 := fun_mk (st := s_l_rule) l16 c16 k16
  have D_l_rule : Df K mg "_law_rule" s_l_rule P_l_rule := ⟨f16, _, F16, PySem.W.mg_of X G a16, F16.binds fun _ _ _ _ _ _ us hl => match us, hl with | [_, _], _ => rfl⟩
  have F17 := fun_mk (st := s_l_count) l17 c17 k17
  have D_l_count : Df K mg "_law_count" s_l_count P_l_count := ⟨f17, _, F17, PySem.W.mg_of X G a17, F17.binds fun _ _ _ _ _ _ us hl => match us, hl with | [_, _], _ => rfl⟩
  have F18 := fun_mk (st := s_l_time) l18 c18 k18
  have D_l_time : Df K mg "_law_time" s_l_time P_l_time := ⟨f18, _, F18, PySem.W.mg_of X G a18, F18.binds fun _ _ _ _ _ _ us hl => match us, hl with | [_, _], _ => rfl⟩
  have F19 := fun_mk (st := s_l_record) l19 c19 k19
  have D_l_record : Df K mg "_law_record" s_l_record P_l_record := ⟨f19, _, F19, PySem.W.mg_of X G a19, F19.binds fun _ _ _ _ _ _ us hl => match us, hl with | [_, _, _, _], _ => rfl⟩
  have F20 := fun_mk (st := s_tighter_pairs) l20 c20 k20
  have D_tighter_pairs : Df K mg "tighter_pairs" s_tighter_pairs P_tighter_pairs := ⟨f20, _, F20, PySem.W.mg_of X G a20, F20.binds fun _ _ _ _ _ _ us hl => match us, hl with | [_, _, _], _ => rfl⟩
  have F21 := fun_mk (st := s_simplest_between) l21 c21 k21
  have D_simplest_between : Df K mg "simplest_between" s_simplest_between P_simplest_between := ⟨f21, _, F21, PySem.W.mg_of X G a21, F21.binds fun _ _ _ _ _ _ us hl => match us, hl with | [_, _], _ => rfl⟩
  have F22 := fun_mk (st := s_reduce_rate) l22 c22 k22
  have D_reduce_rate : Df K mg "reduce_rate" s_reduce_rate P_reduce_rate := ⟨f22, _, F22, PySem.W.mg_of X G a22, F22.binds fun _ _ _ _ _ _ us hl => match us, hl with | [_, _], _ => rfl⟩
  have F23 := fun_mk (st := s_tight_pairs) l23 c23 k23
  have D_tight_pairs : Df K mg "tight_pairs" s_tight_pairs P_tight_pairs := ⟨f23, _, F23, PySem.W.mg_of X G a23, F23.binds fun _ _ _ _ _ _ us hl => match us, hl with | [_], _ => rfl⟩
  have F24 := fun_mk (st := s_leave_no_rate) l24 c24 k24
  have D_leave_no_rate : Df K mg "leave_no_rate" s_leave_no_rate P_leave_no_rate := ⟨f24, _, F24, PySem.W.mg_of X G a24, F24.binds fun _ _ _ _ _ _ us hl => match us, hl with | [_], _ => rfl⟩
  have F25 := fun_mk (st := s_rate_ends) l25 c25 k25
  have D_rate_ends : Df K mg "rate_ends" s_rate_ends P_rate_ends := ⟨f25, _, F25, PySem.W.mg_of X G a25, F25.binds fun _ _ _ _ _ _ us hl => match us, hl with | [_], _ => rfl⟩
  have F26 := fun_mk (st := s_phase_ends) l26 c26 k26
  have D_phase_ends : Df K mg "phase_ends" s_phase_ends P_phase_ends := ⟨f26, _, F26, PySem.W.mg_of X G a26, F26.binds fun _ _ _ _ _ _ us hl => match us, hl with | [_, _], _ => rfl⟩
  have F27 := fun_mk (st := s_fits_record) l27 c27 k27
  have D_fits_record : Df K mg "fits_record" s_fits_record P_fits_record := ⟨f27, _, F27, PySem.W.mg_of X G a27, F27.binds fun _ _ _ _ _ _ us hl => match us, hl with | [_, _], _ => rfl⟩
  have F28 := fun_mk (st := s_find_conflict) l28 c28 k28
  have D_find_conflict : Df K mg "find_conflict" s_find_conflict P_find_conflict := ⟨f28, _, F28, PySem.W.mg_of X G a28, F28.binds fun _ _ _ _ _ _ us hl => match us, hl with | [_], _ => rfl⟩
  have F29 := fun_mk (st := s_are_indexes) l29 c29 k29
  have D_are_indexes : Df K mg "are_indexes" s_are_indexes P_are_indexes := ⟨f29, _, F29, PySem.W.mg_of X G a29, F29.binds fun _ _ _ _ _ _ us hl => match us, hl with | [_, _], _ => rfl⟩
  have F30 := fun_mk (st := s_shows_conflict) l30 c30 k30
  have D_shows_conflict : Df K mg "shows_conflict" s_shows_conflict P_shows_conflict := ⟨f30, _, F30, PySem.W.mg_of X G a30, F30.binds fun _ _ _ _ _ _ us hl => match us, hl with | [_, _], _ => rfl⟩
  have F31 := fun_mk (st := s_with_opposite) l31 c31 k31
  have D_with_opposite : Df K mg "with_opposite" s_with_opposite P_with_opposite := ⟨f31, _, F31, PySem.W.mg_of X G a31, F31.binds fun _ _ _ _ _ _ us hl => match us, hl with | [_, _], _ => rfl⟩
  have F32 := fun_mk (st := s_fitting_ends) l32 c32 k32
  have D_fitting_ends : Df K mg "fitting_ends" s_fitting_ends P_fitting_ends := ⟨f32, _, F32, PySem.W.mg_of X G a32, F32.binds fun _ _ _ _ _ _ us hl => match us, hl with | [_], _ => rfl⟩
  have F33 := fun_mk (st := s_fitting_rule) l33 c33 k33
  have D_fitting_rule : Df K mg "fitting_rule" s_fitting_rule P_fitting_rule := ⟨f33, _, F33, PySem.W.mg_of X G a33, F33.binds fun _ _ _ _ _ _ us hl => match us, hl with | [_], _ => rfl⟩
  have F34 := fun_mk (st := s_follows) l34 c34 k34
  have D_follows : Df K mg "follows" s_follows P_follows := ⟨f34, _, F34, PySem.W.mg_of X G a34, F34.binds fun _ _ _ _ _ _ us hl => match us, hl with | [_, _], _ => rfl⟩
  have F35 := fun_mk (st := s_is_answer) l35 c35 k35
  have D_is_answer : Df K mg "is_answer" s_is_answer P_is_answer := ⟨f35, _, F35, PySem.W.mg_of X G a35, F35.binds fun _ _ _ _ _ _ us hl => match us, hl with | [_, _, _], _ => rfl⟩
  have F36 := fun_mk (st := s_l_opposite) l36 c36 k36
  have D_l_opposite : Df K mg "_law_opposite" s_l_opposite P_l_opposite := ⟨f36, _, F36, PySem.W.mg_of X G a36, F36.binds fun _ _ _ _ _ _ us hl => match us, hl with | [_], _ => rfl⟩
  have F37 := fun_mk (st := s_l_index) l37 c37 k37
  have D_l_index : Df K mg "_law_index" s_l_index P_l_index := ⟨f37, _, F37, PySem.W.mg_of X G a37, F37.binds fun _ _ _ _ _ _ us hl => match us, hl with | [_], _ => rfl⟩
  have F38 := fun_mk (st := s_l_none) l38 c38 k38
  have D_l_none : Df K mg "_law_none" s_l_none P_l_none := ⟨f38, _, F38, PySem.W.mg_of X G a38, F38.binds fun _ _ _ _ _ _ us hl => match us, hl with | [_], _ => rfl⟩
  have F39 := fun_mk (st := s_l_fits) l39 c39 k39
  have D_l_fits : Df K mg "_law_fits" s_l_fits P_l_fits := ⟨f39, _, F39, PySem.W.mg_of X G a39, F39.binds fun _ _ _ _ _ _ us hl => match us, hl with | [_, _], _ => rfl⟩
  have F40 := fun_mk (st := s_l_is_conflict) l40 c40 k40
  have D_l_is_conflict : Df K mg "_law_is_conflict" s_l_is_conflict P_l_is_conflict := ⟨f40, _, F40, PySem.W.mg_of X G a40, F40.binds fun _ _ _ _ _ _ us hl => match us, hl with | [_], _ => rfl⟩
  have F41 := fun_mk (st := s_l_are_indexes) l41 c41 k41
  have D_l_are_indexes : Df K mg "_law_are_indexes" s_l_are_indexes P_l_are_indexes := ⟨f41, _, F41, PySem.W.mg_of X G a41, F41.binds fun _ _ _ _ _ _ us hl => match us, hl with | [_, _], _ => rfl⟩
  have F42 := fun_mk (st := s_l_odd) l42 c42 k42
  have D_l_odd : Df K mg "_law_odd" s_l_odd P_l_odd := ⟨f42, _, F42, PySem.W.mg_of X G a42, F42.binds fun _ _ _ _ _ _ us hl => match us, hl with | [_], _ => rfl⟩
  have F43 := fun_mk (st := s_l_is_rule) l43 c43 k43
  have D_l_is_rule : Df K mg "_law_is_rule" s_l_is_rule P_l_is_rule := ⟨f43, _, F43, PySem.W.mg_of X G a43, F43.binds fun _ _ _ _ _ _ us hl => match us, hl with | [_], _ => rfl⟩
  have F44 := fun_mk (st := s_l_due) l44 c44 k44
  have D_l_due : Df K mg "_law_due" s_l_due P_l_due := ⟨f44, _, F44, PySem.W.mg_of X G a44, F44.binds fun _ _ _ _ _ _ us hl => match us, hl with | [_, _], _ => rfl⟩
  have F45 := fun_mk (st := s_l_values) l45 c45 k45
  have D_l_values : Df K mg "_law_values" s_l_values P_l_values := ⟨f45, _, F45, PySem.W.mg_of X G a45, F45.binds fun _ _ _ _ _ _ us hl => match us, hl with | [_, _, _, _], _ => rfl⟩
  have F46 := fun_mk (st := s_law) l46 c46 k46
  have al : ∀ {p : Addr × Addr → Prop}, p (cL, PT) → p (cM, PM) → ∀ q ∈ [(cL, PT), (cM, PM)], p q := fun h1 h2 q hq => by
    rcases List.mem_cons.mp hq with rfl | hq
    · exact h1
    · rw [List.mem_singleton.mp hq]
      exact h2
  refine ⟨PySem.W.fnOf "law" "law" (defArgs s_law) (defBody s_law) (defScope s_law) .none kV46 dc46 pm46 an46 (.ref cL) ct46, [(cL, PT), (cM, PM)], spLawTT K PT PM, al v5 u5, al v3 u3, al (PySem.W.codeHd_of_K X v4) (PySem.W.codeHd_of_K X u4), fun s v => .of_eq rfl, fun H a ns hl ht hS => ⟨a, ns, rfl, hS, hl, ht _ List.mem_cons_self, ht _ (List.mem_cons_of_mem _ List.mem_cons_self), fun _ => rfl⟩, fun base _ _ o1 TBs => ?_⟩
  have TB := TBs _ List.mem_cons_self
  have DT_l_is_conflict : DfT K mg base "_law_is_conflict" s_l_is_conflict P_l_is_conflict PM := ⟨_, cM, _, _, _, _, _, _, _, _, l40, c40, k40, PySem.W.mg_of X G a40, F40.binds fun _ _ _ _ _ _ us hl => match us, hl with | [_], _ => rfl, TBs _ (List.mem_cons_of_mem _ List.mem_cons_self)⟩
  have T := V_InvalidRecord
  have UT : TabK [(PT, qLam29), (PM, qLamC)] PM qLamC := ⟨List.mem_cons_of_mem _ List.mem_cons_self, fun p hp e => by
    rcases List.mem_cons.mp hp with rfl | hp
    · exact absurd e.symm u6
    · rw [List.mem_singleton.mp hp]⟩
  have c_l_pen := ok_l_pen (P := l.prog) (w := w) (base := base) D_l_pen B
  have c_l_draw := ok_l_draw (P := l.prog) (w := w) (base := base) D_l_draw B
  have c_l_pick := ok_l_pick (P := l.prog) (w := w) (base := base) D_l_pick B c_l_draw
  have c_l_gcd := ok_l_gcd (P := l.prog) (w := w) (base := base) D_l_gcd
  have cA_is_integer := okA_is_integer (P := l.prog) (w := w) (base := base) D_is_integer B
  have c_is_integer := ok_is_integer (P := l.prog) (w := w) (base := base) D_is_integer B
  have c_gcd := ok_gcd (P := l.prog) (w := w) (base := base) D_gcd
  have cA_is_rule := okA_is_rule (P := l.prog) (w := w) (base := base) D_is_rule B cA_is_integer c_gcd
  have c_is_rule := ok_is_rule (P := l.prog) (w := w) (base := base) D_is_rule B c_is_integer c_gcd
  have cA_is_rate := okA_is_rate (P := l.prog) (w := w) (base := base) D_is_rate B cA_is_integer c_gcd
  have c_is_rate := ok_is_rate (P := l.prog) (w := w) (base := base) D_is_rate B c_is_integer c_gcd
  have c_check_rate := ok_check_rate (P := l.prog) (w := w) (base := base) D_check_rate c_is_rate
  have c_simplest_inside := ok_simplest_inside (P := l.prog) (w := w) (base := base) D_simplest_inside B
  have cA_is_record := okA_is_record (P := l.prog) (w := w) (base := base) D_is_record B cA_is_integer
  have c_is_record := ok_is_record (P := l.prog) (w := w) (base := base) D_is_record B c_is_integer
  have cx_check_records := okx_check_records (P := l.prog) (w := w) (base := base) D_check_records V_InvalidRecord B U cA_is_record
  have c_check_records := okS_check_records (P := l.prog) (w := w) (base := base) D_check_records B U c_is_record
  have c_split_records := okS_split_records (P := l.prog) (w := w) (base := base) D_split_records B
  have cx_opposite := okx_opposite (P := l.prog) (w := w) (base := base) D_opposite V_InvalidRecord cA_is_record
  have c_opposite := ok_opposite (P := l.prog) (w := w) (base := base) D_opposite c_is_record
  have c_l_odd_record := ok_l_odd_record (P := l.prog) (w := w) (base := base) D_l_odd_record B c_l_pick
  have c_l_far := ok_l_far (P := l.prog) (w := w) (base := base) D_l_far B c_l_draw
  have c_l_rule := ok_l_rule (P := l.prog) (w := w) (base := base) D_l_rule B c_l_draw c_l_far c_l_gcd
  have c_l_count := ok_l_count (P := l.prog) (w := w) (base := base) D_l_count
  have c_l_time := ok_l_time (P := l.prog) (w := w) (base := base) D_l_time B c_l_draw c_l_far
  have c_l_record := ok_l_record (P := l.prog) (w := w) (base := base) D_l_record B c_l_draw c_l_pick c_l_count c_l_time
  have c_tighter_pairs := ok_tighter_pairs (P := l.prog) (w := w) (base := base) D_tighter_pairs B
  have cA_simplest_between := okA_simplest_between (P := l.prog) (w := w) (base := base) D_simplest_between c_check_rate c_simplest_inside
  have c_simplest_between := ok_simplest_between (P := l.prog) (w := w) (base := base) cA_simplest_between
  have c_reduce_rate := ok_reduce_rate (P := l.prog) (w := w) (base := base) D_reduce_rate c_gcd
  have c_tight_pairs := okS_tight_pairs (P := l.prog) (w := w) (base := base) D_tight_pairs c_split_records c_tighter_pairs
  have c_leave_no_rate := ok_leave_no_rate (P := l.prog) (w := w) (base := base) D_leave_no_rate
  have c_rate_ends := okS_rate_ends (P := l.prog) (w := w) (base := base) D_rate_ends c_tight_pairs c_leave_no_rate c_reduce_rate
  have c_phase_ends := okS_phase_ends (P := l.prog) (w := w) (base := base) D_phase_ends B c_split_records
  have c_fits_record := ok_fits_record (P := l.prog) (w := w) (base := base) D_fits_record
  have c_find_conflict := ok_find_conflict (P := l.prog) (w := w) (base := base) D_find_conflict B c_tight_pairs c_leave_no_rate c_rate_ends
  have cA_are_indexes := okA_are_indexes (P := l.prog) (w := w) (base := base) D_are_indexes B cA_is_integer
  have c_are_indexes := ok_are_indexes (P := l.prog) (w := w) (base := base) D_are_indexes B c_is_integer
  have cA_shows_conflict := okA_shows_conflict (P := l.prog) (w := w) (base := base) D_shows_conflict B cA_are_indexes c_rate_ends
  have c_shows_conflict := ok_shows_conflict (P := l.prog) (w := w) (base := base) D_shows_conflict B c_are_indexes c_rate_ends
  have cx_with_opposite := okx_with_opposite (P := l.prog) (w := w) (base := base) D_with_opposite V_InvalidRecord B cx_check_records c_check_records cA_is_record
  have c_with_opposite := ok_with_opposite (P := l.prog) (w := w) (base := base) D_with_opposite B c_check_records c_is_record c_opposite
  have c_fitting_ends := ok_fitting_ends (P := l.prog) (w := w) (base := base) D_fitting_ends c_rate_ends
  have c_fitting_rule := ok_fitting_rule (P := l.prog) (w := w) (base := base) D_fitting_rule c_fitting_ends c_simplest_between c_phase_ends
  have cx_follows := okx_follows (P := l.prog) (w := w) (base := base) D_follows B cx_with_opposite
  have c_follows := okS_follows (P := l.prog) (w := w) (base := base) D_follows c_with_opposite c_find_conflict c_fitting_rule
  have cA_is_answer := okA_is_answer (P := l.prog) (w := w) (base := base) D_is_answer B c_with_opposite cA_shows_conflict cA_is_rule c_fits_record
  have cx_is_answer := okx_is_answer (P := l.prog) (w := w) (base := base) D_is_answer B cx_with_opposite
  have c_is_answer := ok_is_answer (P := l.prog) (w := w) (base := base) D_is_answer B c_with_opposite c_shows_conflict c_is_rule c_fits_record
  have c_l_opposite := ok_l_opposite (P := l.prog) (w := w) (base := base) D_l_opposite
  have c_l_none := ok_l_none (P := l.prog) (w := w) (base := base) D_l_none c_l_pick
  have c_l_fits := ok_l_fits (P := l.prog) (w := w) (base := base) D_l_fits c_l_count
  have c_l_is_conflict := ok_l_is_conflict (P := l.prog) (w := w) (base := base) DT_l_is_conflict B UT
  have c_l_are_indexes := ok_l_are_indexes (P := l.prog) (w := w) (base := base) D_l_are_indexes B
  have c_l_odd := ok_l_odd (P := l.prog) (w := w) (base := base) D_l_odd c_l_pick
  have c_l_is_rule := ok_l_is_rule (P := l.prog) (w := w) (base := base) D_l_is_rule B c_l_gcd
  have c_l_due := ok_l_due (P := l.prog) (w := w) (base := base) D_l_due B c_l_is_rule c_l_fits c_l_are_indexes c_l_is_conflict
  have c_l_values := ok_l_values (P := l.prog) (w := w) (base := base) D_l_values B c_l_draw c_l_rule c_l_odd
  exact ok_law (P := l.prog) (w := w) (base := base) l46 c46 TB u6 o1 V_InvalidRecord B D_l_index c_l_pen c_l_draw c_l_rule c_l_record c_l_opposite c_l_none c_l_values c_l_due c_follows cA_is_answer c_l_odd_record cx_is_answer
end Lf
open PySem PySem.W PyProof.Rows
set_option maxRecDepth 100000 in
set_option maxHeartbeats 0 in
theorem PySem.Challenge.cw_leapfit_k39_answers_checked_holds : PySem.Challenge.rw_leapfit_k39_answers_checked.Holds := by
  w_on; o_law; k_head; (case hw => w_witness2)
  k_fill
  refine Lf.walkGTn (l := PySem.Challenge.rw_leapfit_k39_answers_checked) (k := 8) (x := "_law_script") rfl rfl rfl ⟨rfl, by decide, by decide⟩ (fun w h Y => PySem.W.km_in_of Y) ?F
  case F =>
    intro w mg fa h Y KX G hmg
    refine' Lf.all_mk KX G hmg ?a0 ?l0 ?c0 ?k0 ?a1 ?l1 ?c1 ?k1 ?a2 ?l2 ?c2 ?k2 ?a3 ?l3 ?c3 ?k3 ?a4 ?l4 ?c4 ?k4 ?a5 ?l5 ?c5 ?k5 ?a6 ?l6 ?c6 ?k6 ?a7 ?l7 ?c7 ?k7 ?a8 ?l8 ?c8 ?k8 ?a9 ?l9 ?c9 ?k9 ?a10 ?l10 ?c10 ?k10 ?a11 ?l11 ?c11 ?k11 ?a12 ?l12 ?c12 ?k12 ?a13 ?l13 ?c13 ?k13 ?a14 ?l14 ?c14 ?k14 ?a15 ?l15 ?c15 ?k15 ?a16 ?l16 ?c16 ?k16 ?a17 ?l17 ?c17 ?k17 ?a18 ?l18 ?c18 ?k18 ?a19 ?l19 ?c19 ?k19 ?a20 ?l20 ?c20 ?k20 ?a21 ?l21 ?c21 ?k21 ?a22 ?l22 ?c22 ?k22 ?a23 ?l23 ?c23 ?k23 ?a24 ?l24 ?c24 ?k24 ?a25 ?l25 ?c25 ?k25 ?a26 ?l26 ?c26 ?k26 ?a27 ?l27 ?c27 ?k27 ?a28 ?l28 ?c28 ?k28 ?a29 ?l29 ?c29 ?k29 ?a30 ?l30 ?c30 ?k30 ?a31 ?l31 ?c31 ?k31 ?a32 ?l32 ?c32 ?k32 ?a33 ?l33 ?c33 ?k33 ?a34 ?l34 ?c34 ?k34 ?a35 ?l35 ?c35 ?k35 ?a36 ?l36 ?c36 ?k36 ?a37 ?l37 ?c37 ?k37 ?a38 ?l38 ?c38 ?k38 ?a39 ?l39 ?c39 ?k39 ?a40 ?l40 ?c40 ?k40 ?a41 ?l41 ?c41 ?k41 ?a42 ?l42 ?c42 ?k42 ?a43 ?l43 ?c43 ?k43 ?a44 ?l44 ?c44 ?k44 ?a45 ?l45 ?c45 ?k45 ?a46 ?l46 ?c46 ?k46 ?z0 ?z1 ?z2 ?z3 ?z4 ?z5 ?z6 ?z7 ?z8 ?z9 ?z10 ?z11 ?z12 ?z13 ?z14 ?z15 ?z16 ?z17 ?z18 ?z19 ?v0_0 ?v0_1 ?v0_2 ?v0_3 ?v0_4 ?v0_5 ?v0_6 ?v0_7 ?v0_8 ?v0_9 ?v0_10 ?v0_11 ?v0_12 ?v0_13 ?v0_14 ?v0_15 ?v0_16 ?v0_17 ?v0_18 ?v0_19 ?v0_20 ?v0_21 ?v0_22 ?v0_23 ?v0_24 ?vu0 ?vu1 ?vu2 ?vu3 ?vu4 ?xM ?v0 ?v1 ?v2 ?v3 ?v4 ?v5 ?u0 ?u1 ?u2 ?u3 ?u4 ?u5 ?u6
    (case a0 => k_is); (case l0 => k_is); (case c0 => k_is); (case k0 => k_is)
    (case a1 => k_is); (case l1 => k_is); (case c1 => k_is); (case k1 => k_is)
    (case a2 => k_is); (case l2 => k_is); (case c2 => k_is); (case k2 => k_is)
    (case a3 => k_is); (case l3 => k_is); (case c3 => k_is); (case k3 => k_is)
    (case a4 => k_is); (case l4 => k_is); (case c4 => k_is); (case k4 => k_is)
    (case a5 => k_is); (case l5 => k_is); (case c5 => k_is); (case k5 => k_is)
    (case a6 => k_is); (case l6 => k_is); (case c6 => k_is); (case k6 => k_is)
    (case a7 => k_is); (case l7 => k_is); (case c7 => k_is); (case k7 => k_is)
    (case a8 => k_is); (case l8 => k_is); (case c8 => k_is); (case k8 => k_is)
    (case a9 => k_is); (case l9 => k_is); (case c9 => k_is); (case k9 => k_is)
    (case a10 => k_is); (case l10 => k_is); (case c10 => k_is); (case k10 => k_is)
    (case a11 => k_is); (case l11 => k_is); (case c11 => k_is); (case k11 => k_is)
    (case a12 => k_is); (case l12 => k_is); (case c12 => k_is); (case k12 => k_is)
    (case a13 => k_is); (case l13 => k_is); (case c13 => k_is); (case k13 => k_is)
    (case a14 => k_is); (case l14 => k_is); (case c14 => k_is); (case k14 => k_is)
    (case a15 => k_is); (case l15 => k_is); (case c15 => k_is); (case k15 => k_is)
    (case a16 => k_is); (case l16 => k_is); (case c16 => k_is); (case k16 => k_is)
    (case a17 => k_is); (case l17 => k_is); (case c17 => k_is); (case k17 => k_is)
    (case a18 => k_is); (case l18 => k_is); (case c18 => k_is); (case k18 => k_is)
    (case a19 => k_is); (case l19 => k_is); (case c19 => k_is); (case k19 => k_is)
    (case a20 => k_is); (case l20 => k_is); (case c20 => k_is); (case k20 => k_is)
    (case a21 => k_is); (case l21 => k_is); (case c21 => k_is); (case k21 => k_is)
    (case a22 => k_is); (case l22 => k_is); (case c22 => k_is); (case k22 => k_is)
    (case a23 => k_is); (case l23 => k_is); (case c23 => k_is); (case k23 => k_is)
    (case a24 => k_is); (case l24 => k_is); (case c24 => k_is); (case k24 => k_is)
    (case a25 => k_is); (case l25 => k_is); (case c25 => k_is); (case k25 => k_is)
    (case a26 => k_is); (case l26 => k_is); (case c26 => k_is); (case k26 => k_is)
    (case a27 => k_is); (case l27 => k_is); (case c27 => k_is); (case k27 => k_is)
    (case a28 => k_is); (case l28 => k_is); (case c28 => k_is); (case k28 => k_is)
    (case a29 => k_is); (case l29 => k_is); (case c29 => k_is); (case k29 => k_is)
    (case a30 => k_is); (case l30 => k_is); (case c30 => k_is); (case k30 => k_is)
    (case a31 => k_is); (case l31 => k_is); (case c31 => k_is); (case k31 => k_is)
    (case a32 => k_is); (case l32 => k_is); (case c32 => k_is); (case k32 => k_is)
    (case a33 => k_is); (case l33 => k_is); (case c33 => k_is); (case k33 => k_is)
    (case a34 => k_is); (case l34 => k_is); (case c34 => k_is); (case k34 => k_is)
    (case a35 => k_is); (case l35 => k_is); (case c35 => k_is); (case k35 => k_is)
    (case a36 => k_is); (case l36 => k_is); (case c36 => k_is); (case k36 => k_is)
    (case a37 => k_is); (case l37 => k_is); (case c37 => k_is); (case k37 => k_is)
    (case a38 => k_is); (case l38 => k_is); (case c38 => k_is); (case k38 => k_is)
    (case a39 => k_is); (case l39 => k_is); (case c39 => k_is); (case k39 => k_is)
    (case a40 => k_is); (case l40 => k_is); (case c40 => k_is); (case k40 => k_is)
    (case a41 => k_is); (case l41 => k_is); (case c41 => k_is); (case k41 => k_is)
    (case a42 => k_is); (case l42 => k_is); (case c42 => k_is); (case k42 => k_is)
    (case a43 => k_is); (case l43 => k_is); (case c43 => k_is); (case k43 => k_is)
    (case a44 => k_is); (case l44 => k_is); (case c44 => k_is); (case k44 => k_is)
    (case a45 => k_is); (case l45 => k_is); (case c45 => k_is); (case k45 => k_is)
    (case a46 => k_is); (case l46 => k_is); (case c46 => k_is); (case k46 => k_is)
    (case z0 => k_is); (case z1 => k_is); (case z2 => k_is); (case z3 => k_is); (case z4 => k_is); (case z5 => k_is); (case z6 => k_is); (case z7 => k_is); (case z8 => k_is); (case z9 => k_is); (case z10 => k_is); (case z11 => k_is); (case z12 => k_is); (case z13 => k_is); (case z14 => k_is); (case z15 => k_is); (case z16 => k_is); (case z17 => k_is); (case z18 => k_is); (case z19 => k_is)
    (case v0_0 => k_is)
    (case v0_1 => k_is)
    (case v0_2 => first | rfl | decide +kernel)
    (case v0_3 => k_is)
    (case v0_4 => k_is)
    (case v0_5 => k_is)
    (case v0_6 => k_is)
    (case v0_7 => k_is)
    (case v0_8 => k_is)
    (case v0_9 => k_is)
    (case v0_10 => k_is)
    (case v0_11 => first | rfl | k_is)
    (case v0_12 => first | rfl | decide +kernel)
    (case v0_13 => k_is)
    (case v0_14 => first | k_is | kernel_rfl)
    (case v0_15 => kernel_rfl)
    (case v0_16 => k_is)
    (case v0_17 => k_is)
    (case v0_18 => k_is)
    (case v0_19 => k_is)
    (case v0_20 => k_is)
    (case v0_21 => k_is)
    (case v0_22 => k_is)
    (case v0_23 => k_is)
    (case v0_24 => first | rfl | k_is)
    (case vu0 => k_is)
    (case vu1 => k_is)
    (case vu2 => k_is)
    (case vu3 => first | rfl | decide +kernel)
    (case vu4 => k_is)
    (case xM => k_is)
    (case v0 => first | rfl | k_is); (case v1 => k_is); (case v2 => first | rfl | k_is); (case v3 => kernel_rfl); (case v4 => kernel_rfl); (case v5 => exact PySem.W.km_tabs_of Y _ (by decide))
    (case u0 => first | rfl | k_is); (case u1 => k_is); (case u2 => first | rfl | k_is); (case u3 => kernel_rfl); (case u4 => kernel_rfl); (case u5 => exact PySem.W.km_tabs_of Y _ (by decide)); (case u6 => decide)
