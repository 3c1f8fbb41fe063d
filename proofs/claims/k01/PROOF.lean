import PyProof.Rows.All
import Wide.All
import OpenK.AllK
import Wide.FinOn
import HandS.ForMost
import HandS.Codes
import HandS.Wide
import HandS.WideBits
import HandS.IsInst
import HandS.RaiseMore
import HandS.Style
import HandS.NoneIn
import HandS.Walk
import HandS.SetFor
import HandS.Strs
import KE.LtSeq
import HandS.Conv
import HandS.Exc
import HandS.TryOnly
import HandS.ExcOwn
import HandS.ExcIs
import HandS.WordsExc
import HandS.Lambda
import HandS.EndTab
import HandS.EndOwn
import KE.KNestM
import HandS.ExcInit
import HandS.ExcField
import KE.KExcSuper
import KE.KExcIs
import HandS.Defaults
import KE.DatumOrd
import KE.SortData
import KE.SortKeyHeap
import KE.KSortKey
import KE.GoesMore
import HandS.SortInts
import HandS.Deep
import HandS.Evl
import HandS.SortKw
import HandS.RevRange
import HandS.TupLe
import PySem.Challenge.RW_leapfit_k01_records
set_option Elab.async false
set_option linter.all false
set_option maxRecDepth 100000
set_option maxHeartbeats 4000000
set_option linter.all false
namespace Lf
/-! ### sums of rounded quotients -/
def fs : Nat → Int → Int → Int → Int
  | 0, _, _, _ => 0
  | n + 1, a, b, m => fs n a b m + (a * n + b) / m
def tri (n : Int) : Int := n * (n - 1) / 2
theorem tri_succ (n : Int) : tri (n + 1) = tri n + n := by
  unfold tri
  rw [show (n + 1) * (n + 1 - 1) = n * (n - 1) + n * 2 by
    rw [Int.add_sub_cancel, Int.mul_sub, Int.add_mul]; omega]
  rw [Int.add_mul_ediv_right _ _ (by decide)]
theorem tri_zero : tri 0 = 0 := rfl
theorem div_shift (x k m : Int) (h : 0 < m) : (x + m * k) / m = x / m + k := by
  rw [Int.add_mul_ediv_left _ _ (by omega)]
theorem fs_red (n : Nat) (a b m : Int) (h : 0 < m) : fs n a b m = fs n (a % m) b m + a / m * tri n := by
  induction n with
  | zero => simp [fs, tri_zero]
  | succ n ih =>
    show fs n a b m + (a * n + b) / m = fs n (a % m) b m + (a % m * n + b) / m + a / m * tri ((n + 1 : Nat) : Int)
    have e : a * n + b = (a % m * n + b) + m * (a / m * n) := by
      have q := Int.emod_add_mul_ediv a m
      have q2 : a * n = (a % m + m * (a / m)) * n := by rw [q]
      rw [q2, Int.add_mul, Int.mul_assoc]; omega
    rw [e, div_shift _ _ _ h, ih, Int.natCast_add, Int.natCast_one, tri_succ, Int.mul_add]
    omega
theorem fs_redb (n : Nat) (a b m : Int) (h : 0 < m) : fs n a b m = fs n a (b % m) m + b / m * n := by
  induction n with
  | zero => simp [fs]
  | succ n ih =>
    show fs n a b m + (a * n + b) / m = fs n a (b % m) m + (a * n + b % m) / m + b / m * ((n + 1 : Nat) : Int)
    have e : a * n + b = (a * n + b % m) + m * (b / m) := by
      have q := Int.emod_add_mul_ediv b m
      omega
    rw [e, div_shift _ _ _ h, ih, Int.natCast_add, Int.natCast_one, Int.mul_add, Int.mul_one]
    omega
/-- each term of the second sum grows by one when its offset grows by its divisor -/
theorem fs_up (n : Nat) (a b m : Int) (h : 0 < m) : fs n a (b + m) m = fs n a b m + n := by
  induction n with
  | zero => simp [fs]
  | succ n ih =>
    show fs n a (b + m) m + (a * n + (b + m)) / m = fs n a b m + (a * n + b) / m + ((n + 1 : Nat) : Int)
    rw [show a * n + (b + m) = (a * n + b) + m * 1 by omega, div_shift _ _ _ h, ih]
    omega
/-- the first term apart -/
theorem fs_first (n : Nat) (a b m : Int) : fs (n + 1) a b m = b / m + fs n a (b + a) m := by
  induction n with
  | zero => show 0 + (a * ((0 : Nat) : Int) + b) / m = b / m + 0; simp
  | succ n ih =>
    show fs (n + 1) a b m + (a * ((n + 1 : Nat) : Int) + b) / m = b / m + (fs n a (b + a) m + (a * n + (b + a)) / m)
    rw [ih, show a * ((n + 1 : Nat) : Int) + b = a * n + (b + a) by
      rw [Int.natCast_add, Int.natCast_one, Int.mul_add]; omega]
    omega
theorem fs_swap (n : Nat) (a b m : Int) (ha : 0 < a) (ham : a < m) (hb : 0 ≤ b) (hbm : b < m) :
    fs n a b m = fs ((a * n + b) / m).toNat m ((a * n + b) % m) a := by
  induction n with
  | zero =>
    have e : (a * ((0 : Nat) : Int) + b) / m = 0 := by
      rw [show a * ((0 : Nat) : Int) + b = b by simp]
      exact Int.ediv_eq_zero_of_lt hb hbm
    rw [e]; rfl
  | succ n ih =>
    show fs n a b m + (a * n + b) / m = fs ((a * ((n + 1 : Nat) : Int) + b) / m).toNat m ((a * ((n + 1 : Nat) : Int) + b) % m) a
    rw [ih]
    have hm : 0 < m := by omega
    have hy : 0 ≤ a * n + b := by
      have := Int.mul_nonneg (Int.le_of_lt ha) (Int.natCast_nonneg n); omega
    generalize hyd : a * (n : Int) + b = y at hy
    have e : a * ((n + 1 : Nat) : Int) + b = y + a := by
      rw [Int.natCast_add, Int.natCast_one, Int.mul_add]; omega
    rw [e]
    have hq : 0 ≤ y / m := Int.ediv_nonneg hy (by omega)
    have hr0 : 0 ≤ y % m := Int.emod_nonneg _ (by omega)
    have hr1 : y % m < m := Int.emod_lt_of_pos _ hm
    have hd := Int.emod_add_mul_ediv y m
    generalize y / m = q at *
    generalize y % m = r at *
    by_cases hc : r + a < m
    · have e1 : (y + a) / m = q := by
        rw [show y + a = (r + a) + m * q by omega, div_shift _ _ _ hm, Int.ediv_eq_zero_of_lt (by omega) hc]
        omega
      have e2 : (y + a) % m = r + a := by
        have := Int.emod_add_mul_ediv (y + a) m
        rw [e1] at this
        omega
      rw [e1, e2, fs_up _ _ _ _ ha]
      omega
    · have e1 : (y + a) / m = q + 1 := by
        rw [show y + a = (r + a - m) + m * (q + 1) by rw [Int.mul_add]; omega, div_shift _ _ _ hm, Int.ediv_eq_zero_of_lt (by omega) (by omega)]
        omega
      have e2 : (y + a) % m = r + a - m := by
        have := Int.emod_add_mul_ediv (y + a) m
        rw [e1, Int.mul_add] at this
        omega
      rw [e1, e2, show (q + 1).toNat = q.toNat + 1 by omega, fs_first, Int.ediv_eq_zero_of_lt (by omega) (by omega), show r + a - m + m = r + a by omega, fs_up _ _ _ _ ha]
      omega
/-- a whole turn of the loop -/
theorem fs_turn (n a b m : Int) (hn : 0 ≤ n) (hm : 0 < m) :
    fs n.toNat a b m = a / m * tri n + b / m * n + fs ((a % m * n + b % m) / m).toNat m ((a % m * n + b % m) % m) (a % m) := by
  have h1 := fs_red n.toNat a b m hm
  have h2 := fs_redb n.toNat (a % m) b m hm
  have en : ((n.toNat : Nat) : Int) = n := by omega
  rw [en] at h1 h2
  have ha0 : 0 ≤ a % m := Int.emod_nonneg _ (by omega)
  have ha1 : a % m < m := Int.emod_lt_of_pos _ hm
  have hb0 : 0 ≤ b % m := Int.emod_nonneg _ (by omega)
  have hb1 : b % m < m := Int.emod_lt_of_pos _ hm
  by_cases hz : a % m = 0
  · have e0 : (a % m * n + b % m) / m = 0 := by
      rw [hz, Int.zero_mul, Int.zero_add]
      exact Int.ediv_eq_zero_of_lt hb0 hb1
    have z : fs n.toNat (a % m) (b % m) m = 0 := by
      rw [hz]
      have : ∀ k : Nat, fs k 0 (b % m) m = 0 := fun k => by
        induction k with
        | zero => rfl
        | succ k ih =>
          show fs k 0 (b % m) m + (0 * (k : Int) + b % m) / m = 0
          rw [ih, Int.zero_mul, Int.zero_add, Int.zero_add]
          exact Int.ediv_eq_zero_of_lt hb0 hb1
      exact this _
    rw [e0]
    show _ = _ + fs 0 m _ _
    have e3 : fs 0 m ((a % m * n + b % m) % m) (a % m) = 0 := rfl
    have e4 : (0 : Int).toNat = 0 := rfl
    rw [e3, h1, h2, z]
    omega
  · have h3 := fs_swap n.toNat (a % m) (b % m) m (by omega) ha1 hb0 hb1
    rw [en] at h3
    rw [h1, h2, h3]
    omega
theorem turn_le (n a b m : Int) (hn : 0 < n) (hm : 0 < m) : (a % m * n + b % m) / m ≤ n ∧ 0 ≤ (a % m * n + b % m) / m := by
  have ha0 : 0 ≤ a % m := Int.emod_nonneg _ (by omega)
  have ha1 : a % m < m := Int.emod_lt_of_pos _ hm
  have hb0 : 0 ≤ b % m := Int.emod_nonneg _ (by omega)
  have hb1 : b % m < m := Int.emod_lt_of_pos _ hm
  have h0 : 0 ≤ a % m * n := Int.mul_nonneg ha0 (by omega)
  refine ⟨?_, Int.ediv_nonneg (by omega) (by omega)⟩
  have h1 : a % m * n ≤ (m - 1) * n := Int.mul_le_mul_of_nonneg_right (by omega) (by omega)
  rw [Int.sub_mul, Int.one_mul] at h1
  have h2 : (a % m * n + b % m) / m < n + 1 := by
    apply Int.ediv_lt_of_lt_mul hm
    rw [Int.add_mul, Int.one_mul, Int.mul_comm n m]
    omega
  omega
theorem turn_zero (n a b m : Int) (hm : 0 < m) (hz : a % m = 0) : (a % m * n + b % m) / m = 0 := by
  rw [hz, Int.zero_mul, Int.zero_add]
  exact Int.ediv_eq_zero_of_lt (Int.emod_nonneg _ (by omega)) (Int.emod_lt_of_pos _ hm)
/-! ### sizes -/
def Bd (k : Nat) (i : Int) : Prop := i.natAbs < 2 ^ k
theorem Bd.mono {k j : Nat} {i : Int} (h : Bd k i) (e : k ≤ j) : Bd j i := Nat.lt_of_lt_of_le h (Nat.pow_le_pow_right (by decide) e)
theorem Bd.le {k : Nat} {i j : Int} (h : Bd k j) (e : i.natAbs ≤ j.natAbs) : Bd k i := Nat.lt_of_le_of_lt e h
theorem Bd.mul {k j : Nat} {x y : Int} (h : Bd k x) (h2 : Bd j y) : Bd (k + j) (x * y) := by
  unfold Bd
  rw [Int.natAbs_mul, Nat.pow_add]
  exact Nat.mul_lt_mul'' h h2
theorem Bd.add {k : Nat} {x y : Int} (h : Bd k x) (h2 : Bd k y) : Bd (k + 1) (x + y) := by
  unfold Bd at *
  rw [Nat.pow_succ]
  omega
theorem Bd.sub {k : Nat} {x y : Int} (h : Bd k x) (h2 : Bd k y) : Bd (k + 1) (x - y) := by
  unfold Bd at *
  rw [Nat.pow_succ]
  omega
theorem Bd.neg {k : Nat} {x : Int} (h : Bd k x) : Bd k (-x) := by
  unfold Bd at *
  omega
theorem Bd.ediv {k : Nat} {x m : Int} (h : Bd k x) (hm : 0 < m) : Bd k (x / m) := by
  refine h.le ?_
  rcases Int.lt_or_le x 0 with hx | hx
  · have h1 : x / m < 0 := Int.ediv_neg_of_neg_of_pos hx hm
    have h2 : x ≤ x / m := by
      apply Int.le_ediv_of_mul_le hm
      have : (-x) * 1 ≤ (-x) * m := Int.mul_le_mul_of_nonneg_left (by omega) (by omega)
      rw [Int.neg_mul, Int.neg_mul, Int.mul_one] at this
      omega
    omega
  · have h1 : 0 ≤ x / m := Int.ediv_nonneg hx (by omega)
    have h2 : x / m ≤ x := Int.ediv_le_self _ hx
    omega
theorem Bd.emod {k : Nat} {x m : Int} (h : Bd k m) (hm : 0 < m) : Bd k (x % m) := by
  refine h.le ?_
  have := Int.emod_nonneg x (show m ≠ 0 by omega)
  have := Int.emod_lt_of_pos x hm
  omega
theorem Bd.log {k : Nat} {i : Int} (h : Bd k i) (hk : 0 < k) : i.natAbs.log2 < k := by
  by_cases e : i.natAbs = 0
  · rw [e]; exact hk
  · exact (Nat.log2_lt e).mpr h
theorem Bd.small {k : Nat} {i : Int} (c : Nat) (h : i.natAbs < 2 ^ c) (e : c ≤ k) : Bd k i := Bd.mono (k := c) h e
theorem Bd.between {k : Nat} {x y : Int} (h : Bd k y) (h0 : 0 ≤ x) (h1 : x ≤ y) : Bd k x := h.le (by omega)
/-! ### the greatest common divisor -/
theorem gcd_turn (x y : Int) (hx : 0 ≤ x) (hy : 0 < y) : Int.gcd y (x % y) = Int.gcd x y := by
  unfold Int.gcd
  rw [show (x % y).natAbs = x.natAbs % y.natAbs by
    obtain ⟨a, rfl⟩ := Int.eq_ofNat_of_zero_le hx
    obtain ⟨b, rfl⟩ := Int.eq_ofNat_of_zero_le (Int.le_of_lt hy)
    rfl]
  rw [Nat.gcd_comm, ← Nat.gcd_rec, Nat.gcd_comm]
end Lf
namespace Lf
theorem nab_ediv {x m : Int} (hm : 0 < m) : (x / m).natAbs ≤ x.natAbs := by
  rcases Int.lt_or_le x 0 with hx | hx
  · have h1 : x / m < 0 := Int.ediv_neg_of_neg_of_pos hx hm
    have h2 : x ≤ x / m := by
      apply Int.le_ediv_of_mul_le hm
      have : (-x) * 1 ≤ (-x) * m := Int.mul_le_mul_of_nonneg_left (by omega) (by omega)
      rw [Int.neg_mul, Int.neg_mul, Int.mul_one] at this
      omega
    omega
  · have h1 : 0 ≤ x / m := Int.ediv_nonneg hx (by omega)
    have h2 : x / m ≤ x := Int.ediv_le_self _ hx
    omega
theorem fs_nab (n : Nat) (a b m : Int) (hm : 0 < m) : (fs n a b m).natAbs ≤ n * (a.natAbs * n + b.natAbs) := by
  induction n with
  | zero => show (0 : Int).natAbs ≤ _; simp
  | succ n ih =>
    show (fs n a b m + (a * n + b) / m).natAbs ≤ (n + 1) * (a.natAbs * (n + 1) + b.natAbs)
    have h1 := nab_ediv (x := a * n + b) hm
    have h2 := Int.natAbs_add_le (a * n) b
    have h3 := Int.natAbs_add_le (fs n a b m) ((a * n + b) / m)
    have h4 : (a * (n : Int)).natAbs = a.natAbs * n := by rw [Int.natAbs_mul]; rfl
    rw [h4] at h2
    have h5 : n * (a.natAbs * n + b.natAbs) ≤ n * (a.natAbs * (n + 1) + b.natAbs) := Nat.mul_le_mul_left _ (Nat.add_le_add_right (Nat.mul_le_mul_left _ (by omega)) _)
    have h6 : a.natAbs * n ≤ a.natAbs * (n + 1) := Nat.mul_le_mul_left _ (by omega)
    rw [Nat.add_mul, Nat.one_mul]
    omega
theorem fs_bd {n k j : Nat} {a b m : Int} (hm : 0 < m) (hn : n < 2 ^ j) (ha : Bd k a) (hb : Bd k b) : Bd (j + (k + j + 1)) (fs n a b m) := by
  unfold Bd at *
  have h := fs_nab n a b m hm
  refine Nat.lt_of_le_of_lt h ?_
  rw [Nat.pow_add 2 j]
  have h1 : a.natAbs * n + b.natAbs < 2 ^ (k + j + 1) := by
    have e : a.natAbs * n ≤ 2 ^ k * 2 ^ j := Nat.mul_le_mul (Nat.le_of_lt ha) (Nat.le_of_lt hn)
    have e2 : 2 ^ k ≤ 2 ^ k * 2 ^ j := Nat.le_mul_of_pos_right _ (Nat.pow_pos (by decide))
    rw [Nat.pow_succ, Nat.pow_add]
    omega
  exact Nat.mul_lt_mul'' hn h1
def trm (p q c s : Int) (i : Nat) : Int := (p * (s + i) + c) / q
theorem trm_sum (p q c s : Int) (n : Nat) : ((List.range n).map (trm p q c s)).sum = fs n p (p * s + c) q := by
  induction n with
  | zero => rfl
  | succ n ih =>
    rw [List.range_succ, List.map_append, List.sum_append, ih]
    show _ + (trm p q c s n + 0) = fs n p (p * s + c) q + (p * n + (p * s + c)) / q
    unfold trm
    rw [show p * (s + (n : Int)) + c = p * n + (p * s + c) by rw [Int.mul_add]; omega]
    omega
end Lf
namespace Lf
/-! ### triples in lowest terms -/
def gg (p q : Int) : Int := (Int.gcd p q : Int)
theorem gg_pos {p q : Int} (h : 1 ≤ q) : 0 < gg p q := by
  have : 0 < Int.gcd p q := Int.gcd_pos_of_ne_zero_right _ (by omega)
  unfold gg
  omega
theorem gg_p (p q : Int) : p = gg p q * (p / gg p q) := (Int.mul_ediv_cancel' (Int.gcd_dvd_left ..)).symm
theorem gg_q (p q : Int) : q = gg p q * (q / gg p q) := (Int.mul_ediv_cancel' (Int.gcd_dvd_right ..)).symm
theorem gg_mul (g x y : Int) (h : 0 ≤ g) : gg (g * x) (g * y) = g * gg x y := by
  unfold gg
  rw [Int.gcd_mul_left, Int.natCast_mul, Int.natAbs_of_nonneg h]
/-- reduced, multiplied, reduced again -/
theorem gg_twice (p q u v : Int) (h : 1 ≤ q) : gg (u * p) (v * q) = gg p q * gg (u * (p / gg p q)) (v * (q / gg p q)) := by
  have hg := gg_pos (p := p) h
  rw [← gg_mul _ _ _ (Int.le_of_lt hg)]
  congr 1
  · rw [Int.mul_left_comm, ← gg_p]
  · rw [Int.mul_left_comm, ← gg_q]
theorem red_p (p q u v : Int) (h : 1 ≤ q) (hv : 1 ≤ v) : u * (p / gg p q) / gg (u * (p / gg p q)) (v * (q / gg p q)) = u * p / gg (u * p) (v * q) := by
  have hg := gg_pos (p := p) h
  have e := gg_twice p q u v h
  rw [e]
  have e2 : u * p = gg p q * (u * (p / gg p q)) := by rw [Int.mul_left_comm, ← gg_p]
  rw [e2, Int.mul_ediv_mul_of_pos _ _ hg]
theorem red_q (p q u v : Int) (h : 1 ≤ q) (hv : 1 ≤ v) : v * (q / gg p q) / gg (u * (p / gg p q)) (v * (q / gg p q)) = v * q / gg (u * p) (v * q) := by
  have hg := gg_pos (p := p) h
  have e := gg_twice p q u v h
  rw [e]
  have e2 : v * q = gg p q * (v * (q / gg p q)) := by rw [Int.mul_left_comm, ← gg_q]
  rw [e2, Int.mul_ediv_mul_of_pos _ _ hg]
theorem red_c (p q u v c : Int) (h : 1 ≤ q) (hv : 1 ≤ v) : c / gg p q / gg (u * (p / gg p q)) (v * (q / gg p q)) = c / gg (u * p) (v * q) := by
  have hg := gg_pos (p := p) h
  rw [gg_twice p q u v h, Int.ediv_ediv_of_nonneg (Int.le_of_lt hg)]
theorem red_shift (p q a b c : Int) (h : 1 ≤ q) : (p * a + q * b + c) / gg p q = p / gg p q * a + q / gg p q * b + c / gg p q := by
  have hg := gg_pos (p := p) h
  have e : p * a + q * b + c = c + gg p q * (p / gg p q * a + q / gg p q * b) := by
    rw [Int.mul_add, ← Int.mul_assoc, ← Int.mul_assoc, ← gg_p, ← gg_q]
    omega
  rw [e, div_shift _ _ _ hg]
  omega
theorem div_neg1 (c g : Int) (hg : 0 < g) : (-1 - c) / g = -1 - c / g := by
  have e := Int.emod_add_mul_ediv c g
  have h0 := Int.emod_nonneg c (show g ≠ 0 by omega)
  have h1 := Int.emod_lt_of_pos c hg
  have e2 : -1 - c = (g - 1 - c % g) + g * (-1 - c / g) := by
    rw [Int.mul_sub]
    omega
  rw [e2, div_shift _ _ _ hg, Int.ediv_eq_zero_of_lt (by omega) (by omega)]
  omega
theorem red_mirror (p q c : Int) (h : 1 ≤ q) : (q - 1 - c) / gg p q = q / gg p q - 1 - c / gg p q := by
  have hg := gg_pos (p := p) h
  have e : q - 1 - c = (-1 - c) + gg p q * (q / gg p q) := by
    rw [← gg_q]
    omega
  rw [e, div_shift _ _ _ hg, div_neg1 _ _ hg]
  omega
end Lf
namespace Lf
theorem gg1 {p q : Int} (h : Int.gcd p q = 1) : gg p q = 1 := by
  unfold gg
  rw [h]
  rfl
theorem thin2 (p q c j k : Int) (h : 1 ≤ q * j) (hk : 1 ≤ k) :
    p / gg p (q * j) / gg (p / gg p (q * j)) (q * j / gg p (q * j) * k) = p / gg p (q * (j * k)) ∧
    q * j / gg p (q * j) * k / gg (p / gg p (q * j)) (q * j / gg p (q * j) * k) = q * (j * k) / gg p (q * (j * k)) ∧
    c / gg p (q * j) / gg (p / gg p (q * j)) (q * j / gg p (q * j) * k) = c / gg p (q * (j * k)) := by
  have e : q * (j * k) = k * (q * j) := by rw [← Int.mul_assoc, Int.mul_comm]
  have h1 := red_p p (q * j) 1 k h hk
  have h2 := red_q p (q * j) 1 k h hk
  have h3 := red_c p (q * j) 1 k c h hk
  simp only [Int.one_mul] at h1 h2 h3
  rw [Int.mul_comm (q * j / gg p (q * j)) k, e]
  exact ⟨h1, h2, h3⟩
theorem sample2 (p q c j k : Int) (h : 1 ≤ q) :
    p * j / gg (p * j) q * k / gg (p * j / gg (p * j) q * k) (q / gg (p * j) q) = p * (j * k) / gg (p * (j * k)) q ∧
    q / gg (p * j) q / gg (p * j / gg (p * j) q * k) (q / gg (p * j) q) = q / gg (p * (j * k)) q ∧
    c / gg (p * j) q / gg (p * j / gg (p * j) q * k) (q / gg (p * j) q) = c / gg (p * (j * k)) q := by
  have e : p * (j * k) = k * (p * j) := by rw [← Int.mul_assoc, Int.mul_comm]
  have h1 := red_p (p * j) q k 1 h (by decide)
  have h2 := red_q (p * j) q k 1 h (by decide)
  have h3 := red_c (p * j) q k 1 c h (by decide)
  simp only [Int.one_mul] at h1 h2 h3
  rw [Int.mul_comm (p * j / gg (p * j) q) k, e]
  exact ⟨h1, h2, h3⟩
theorem both2 (p q c k : Int) (h : 1 ≤ q) (hk : 1 ≤ k) :
    p * k / gg (p * k) q / gg (p * k / gg (p * k) q) (q / gg (p * k) q * k) = k * p / gg (k * p) (k * q) ∧
    q / gg (p * k) q * k / gg (p * k / gg (p * k) q) (q / gg (p * k) q * k) = k * q / gg (k * p) (k * q) ∧
    c / gg (p * k) q / gg (p * k / gg (p * k) q) (q / gg (p * k) q * k) = c / gg (k * p) (k * q) := by
  have h1 := red_p (p * k) q 1 k h hk
  have h2 := red_q (p * k) q 1 k h hk
  have h3 := red_c (p * k) q 1 k c h hk
  simp only [Int.one_mul] at h1 h2 h3
  rw [Int.mul_comm (q / gg (p * k) q) k, Int.mul_comm k p]
  exact ⟨h1, h2, h3⟩
theorem one_le_mul {x y : Int} (h : 1 ≤ x) (h2 : 1 ≤ y) : 1 ≤ x * y := by
  have := Int.mul_le_mul h h2 (by decide) (by omega)
  omega
end Lf
namespace Lf
/-! ### sums over ranges -/
theorem fs_add (n m : Nat) (a b q : Int) : fs (n + m) a b q = fs n a b q + fs m a (a * n + b) q := by
  induction m with
  | zero => show fs n a b q = fs n a b q + 0; omega
  | succ m ih =>
    show fs (n + m) a b q + (a * ((n + m : Nat) : Int) + b) / q = fs n a b q + (fs m a (a * n + b) q + (a * m + (a * n + b)) / q)
    rw [ih, show a * ((n + m : Nat) : Int) + b = a * m + (a * n + b) by rw [Int.natCast_add, Int.mul_add]; omega]
    omega
/-- two neighbouring ranges -/
theorem fs_split (p q c s m e : Int) (h1 : s ≤ m) (h2 : m ≤ e) : fs (m - s).toNat p (p * s + c) q + fs (e - m).toNat p (p * m + c) q = fs (e - s).toNat p (p * s + c) q := by
  have e1 : (e - s).toNat = (m - s).toNat + (e - m).toNat := by omega
  rw [e1, fs_add, show ((m - s).toNat : Int) = m - s by omega, show p * (m - s) + (p * s + c) = p * m + c by rw [Int.mul_sub]; omega]
theorem fs_one (p b q : Int) : fs 1 p b q = b / q := by
  show 0 + (p * ((0 : Nat) : Int) + b) / q = b / q
  simp
/-- one step of the offset: a term grows by one exactly where the divisor divides -/
theorem step_div (x q : Int) (h : 0 < q) : (x + 1) / q = x / q + (if (x + 1) % q = 0 then 1 else 0) := by
  have e := Int.emod_add_mul_ediv x q
  have h0 := Int.emod_nonneg x (show q ≠ 0 by omega)
  have h1 := Int.emod_lt_of_pos x h
  by_cases hc : x % q + 1 = q
  · have e2 : x + 1 = 0 + q * (x / q + 1) := by rw [Int.mul_add]; omega
    have e3 : (x + 1) % q = 0 := by rw [e2, Int.zero_add, Int.mul_emod_right]
    rw [if_pos e3, e2, div_shift _ _ _ h, Int.zero_ediv]
    omega
  · have e2 : x + 1 = (x % q + 1) + q * (x / q) := by omega
    have e3 : (x + 1) % q = x % q + 1 := by
      rw [e2, Int.add_mul_emod_self_left]
      exact Int.emod_eq_of_lt (by omega) (by omega)
    rw [if_neg (by omega)]
    rw [e2, div_shift _ _ _ h, Int.ediv_eq_zero_of_lt (by omega) (by omega)]
    omega
theorem hit_once (p q b : Int) (hg : Int.gcd p q = 1) (i j : Int) (hi : 0 ≤ i) (hij : i < j) (hj : j < q) (h1 : (p * i + b) % q = 0) (h2 : (p * j + b) % q = 0) : False := by
  have d1 := Int.dvd_of_emod_eq_zero h1
  have d2 := Int.dvd_of_emod_eq_zero h2
  have d3 : q ∣ p * (j - i) := by
    have := Int.dvd_sub d2 d1
    rw [show p * j + b - (p * i + b) = p * (j - i) by rw [Int.mul_sub]; omega] at this
    exact this
  have d4 : q ∣ j - i := by
    have n1 : q.natAbs ∣ p.natAbs * (j - i).natAbs := by
      rw [← Int.natAbs_mul]
      exact Int.natAbs_dvd_natAbs.mpr d3
    have n2 : Nat.Coprime q.natAbs p.natAbs := by
      unfold Nat.Coprime
      rw [Nat.gcd_comm]
      exact hg
    exact Int.natAbs_dvd_natAbs.mp (Nat.Coprime.dvd_of_dvd_mul_left n2 n1)
  have := Int.le_of_dvd (by omega) d4
  omega
theorem fs_step_le (p q b : Int) (hq : 0 < q) (hg : Int.gcd p q = 1) (n : Nat) (hn : (n : Int) ≤ q) :
    fs n p (b + 1) q - fs n p b q = 0 ∧ (∀ i : Nat, i < n → (p * i + (b + 1)) % q ≠ 0) ∨ fs n p (b + 1) q - fs n p b q = 1 ∧ (∃ i : Nat, i < n ∧ (p * i + (b + 1)) % q = 0) := by
  induction n with
  | zero => exact .inl ⟨rfl, fun i h => absurd h (by omega)⟩
  | succ n ih =>
    have e : fs (n + 1) p (b + 1) q - fs (n + 1) p b q = (fs n p (b + 1) q - fs n p b q) + ((p * n + (b + 1)) / q - (p * n + b) / q) := by
      show fs n p (b + 1) q + (p * n + (b + 1)) / q - (fs n p b q + (p * n + b) / q) = _
      omega
    have s := step_div (p * n + b) q hq
    rw [show p * (n : Int) + b + 1 = p * n + (b + 1) by omega] at s
    rw [e]
    rcases ih (by omega) with ⟨h1, h2⟩ | ⟨h1, i, hi, h2⟩
    · by_cases hc : (p * (n : Int) + (b + 1)) % q = 0
      · rw [if_pos hc] at s
        exact .inr ⟨by omega, n, by omega, hc⟩
      · rw [if_neg hc] at s
        refine .inl ⟨by omega, fun i hi => ?_⟩
        by_cases hin : i = n
        · subst hin; exact hc
        · exact h2 i (by omega)
    · have hc : ¬ (p * (n : Int) + (b + 1)) % q = 0 := fun z => hit_once p q (b + 1) hg i n (by omega) (by omega) (by omega) h2 z
      rw [if_neg hc] at s
      exact .inr ⟨by omega, i, by omega, h2⟩
theorem fs_step (p q b : Int) (hq : 0 < q) (hg : Int.gcd p q = 1) : fs q.toNat p (b + 1) q = fs q.toNat p b q + 1 := by
  have hle : ∀ b, fs q.toNat p (b + 1) q - fs q.toNat p b q ≤ 1 := fun b => by
    rcases fs_step_le p q b hq hg q.toNat (by omega) with ⟨h, _⟩ | ⟨h, _⟩ <;> omega
  have many : ∀ (k : Nat) (b : Int), fs q.toNat p (b + k) q - fs q.toNat p b q ≤ k := fun k => by
    induction k with
    | zero => intro b; simp
    | succ k ih =>
      intro b
      have h1 := ih b
      have h2 := hle (b + k)
      rw [show b + ((k + 1 : Nat) : Int) = b + k + 1 by omega]
      omega
  have up := fs_up q.toNat p b q hq
  have h1 := many (q.toNat - 1) (b + 1)
  rw [show b + 1 + ((q.toNat - 1 : Nat) : Int) = b + q by omega] at h1
  have h2 := hle b
  omega
theorem fs_from (p q : Int) (hq : 0 < q) (hg : Int.gcd p q = 1) (k : Nat) (b : Int) : fs q.toNat p (b + k) q = fs q.toNat p b q + k := by
  induction k with
  | zero => simp
  | succ k ih =>
    rw [show b + ((k + 1 : Nat) : Int) = b + k + 1 by omega, fs_step p q _ hq hg, ih]
    omega
theorem fs_any (p q b : Int) (hq : 0 < q) (hg : Int.gcd p q = 1) : fs q.toNat p b q = fs q.toNat p 0 q + b := by
  rcases Int.lt_or_le b 0 with h | h
  · have := fs_from p q hq hg (-b).toNat b
    rw [show b + ((-b).toNat : Int) = 0 by omega] at this
    omega
  · have := fs_from p q hq hg b.toNat 0
    rw [show 0 + (b.toNat : Int) = b by omega] at this
    omega
/-- terms in reverse order -/
theorem fs_rev (n : Nat) (a b q : Int) : fs n a b q = fs n (-a) (a * (n - 1) + b) q := by
  induction n with
  | zero => rfl
  | succ n ih =>
    rw [fs_first n (-a)]
    show fs n a b q + (a * n + b) / q = _
    rw [ih, show a * (((n + 1 : Nat) : Int) - 1) + b = a * n + b by rw [show ((n + 1 : Nat) : Int) - 1 = n by omega],
      show a * (n : Int) + b + -a = a * (n - 1) + b by rw [Int.mul_sub]; omega]
    omega
/-- negated terms -/
theorem fs_neg (n : Nat) (a b q : Int) (hq : 0 < q) : fs n (-a) (-b) q = - fs n a (b + q - 1) q := by
  induction n with
  | zero => rfl
  | succ n ih =>
    show fs n (-a) (-b) q + (-a * n + -b) / q = - (fs n a (b + q - 1) q + (a * n + (b + q - 1)) / q)
    rw [ih]
    have h1 := div_neg1 (a * n + (b - 1)) q hq
    have h2 := div_shift (a * n + (b - 1)) 1 q hq
    rw [show -1 - (a * (n : Int) + (b - 1)) = -a * n + -b by rw [Int.neg_mul]; omega] at h1
    rw [show a * (n : Int) + (b - 1) + q * 1 = a * n + (b + q - 1) by omega] at h2
    omega
theorem fs_cycle (p q b : Int) (hq : 0 < q) (hg : Int.gcd p q = 1) : fs q.toNat p b q = b + (p - 1) * (q - 1) / 2 := by
  have h0 := fs_any p q b hq hg
  have r := fs_rev q.toNat p 0 q
  have ng := fs_neg q.toNat p (-(p * (q - 1))) q hq
  rw [show ((q.toNat : Nat) : Int) = q by omega, Int.add_zero] at r
  rw [Int.neg_neg] at ng
  have h2 := fs_any p q (-(p * (q - 1)) + q - 1) hq hg
  have key : 2 * fs q.toNat p 0 q = (p - 1) * (q - 1) := by
    have e : (p - 1) * (q - 1) = p * (q - 1) - (q - 1) := by rw [Int.sub_mul, Int.one_mul]
    omega
  have : (p - 1) * (q - 1) / 2 = fs q.toNat p 0 q := by
    rw [← key, Int.mul_ediv_cancel_left _ (by decide)]
  omega
/-- Hermite's identity -/
theorem fs_hermite (k y : Int) (hk : 0 < k) : fs k.toNat 1 y k = y := by
  have := fs_cycle 1 k y hk (by simp [Int.gcd])
  rw [this]
  simp
/-- mirrored -/
theorem fs_mirror (n : Nat) (p q c s : Int) (hq : 0 < q) : fs n p (p * (1 - (s + n)) + (q - 1 - c)) q = - fs n p (p * s + c) q := by
  induction n with
  | zero => rfl
  | succ n ih =>
    rw [fs_first]
    show _ = -(fs n p (p * s + c) q + (p * n + (p * s + c)) / q)
    have e1 : p * (1 - (s + ((n + 1 : Nat) : Int))) + (q - 1 - c) + p = p * (1 - (s + n)) + (q - 1 - c) := by
      rw [show (1 - (s + ((n + 1 : Nat) : Int))) = (1 - (s + n)) - 1 by omega, Int.mul_sub p _ 1]
      omega
    rw [e1, ih]
    have h1 := div_neg1 (p * n + (p * s + c)) q hq
    have h2 := div_shift (-1 - (p * n + (p * s + c))) 1 q hq
    rw [show -1 - (p * (n : Int) + (p * s + c)) + q * 1 = p * (1 - (s + ((n + 1 : Nat) : Int))) + (q - 1 - c) by
      rw [show (1 - (s + ((n + 1 : Nat) : Int))) = -(n : Int) - s by omega, Int.mul_sub, Int.mul_neg]; omega] at h2
    omega
theorem fs_lowest (n : Nat) (p q c s : Int) (hq : 1 ≤ q) : fs n (p / gg p q) (p / gg p q * s + c / gg p q) (q / gg p q) = fs n p (p * s + c) q := by
  have hg := gg_pos (p := p) hq
  induction n with
  | zero => rfl
  | succ n ih =>
    show fs n (p / gg p q) (p / gg p q * s + c / gg p q) (q / gg p q) + (p / gg p q * n + (p / gg p q * s + c / gg p q)) / (q / gg p q) = fs n p (p * s + c) q + (p * n + (p * s + c)) / q
    rw [ih]
    have e1 : p / gg p q * n + (p / gg p q * s + c / gg p q) = (p * n + (p * s + c)) / gg p q := by
      have : p * n + (p * s + c) = c + gg p q * (p / gg p q * n + p / gg p q * s) := by
        rw [Int.mul_add, ← Int.mul_assoc, ← Int.mul_assoc, ← gg_p]
        omega
      rw [this, div_shift _ _ _ hg]
      omega
    have e2 : (p * n + (p * s + c)) / gg p q / (q / gg p q) = (p * n + (p * s + c)) / q := by
      rw [Int.ediv_ediv_of_nonneg (Int.le_of_lt hg), ← gg_q]
    rw [e1, e2]
theorem sum_map_add {α : Type} (l : List α) (f g : α → Int) : (l.map fun x => f x + g x).sum = (l.map f).sum + (l.map g).sum := by
  induction l with
  | nil => rfl
  | cons x r ih => simp only [List.map_cons, List.sum_cons, ih]; omega
theorem range_fs (k : Nat) (a b q : Int) : ((List.range k).map fun (j : Nat) => (a * j + b) / q).sum = fs k a b q := by
  induction k with
  | zero => rfl
  | succ k ih =>
    rw [List.range_succ, List.map_append, List.sum_append, ih]
    show _ + ((a * k + b) / q + 0) = fs k a b q + (a * k + b) / q
    omega
theorem fs_thin (n : Nat) (p q b k : Int) (hq : 0 < q) (hk : 0 < k) : ((List.range k.toNat).map fun (j : Nat) => fs n p (b + q * j) (q * k)).sum = fs n p b q := by
  induction n with
  | zero =>
    show ((List.range k.toNat).map fun _ => (0 : Int)).sum = 0
    induction k.toNat with
    | zero => rfl
    | succ m ih => rw [List.range_succ, List.map_append, List.sum_append, ih]; rfl
  | succ n ih =>
    have e : (List.range k.toNat).map (fun (j : Nat) => fs (n + 1) p (b + q * j) (q * k)) = (List.range k.toNat).map (fun (j : Nat) => fs n p (b + q * j) (q * k) + (1 * (j : Int) + (p * n + b) / q) / k) := by
      apply List.map_congr_left
      intro j _
      show fs n p (b + q * j) (q * k) + (p * n + (b + q * j)) / (q * k) = _
      rw [← Int.ediv_ediv_of_nonneg (Int.le_of_lt hq), show p * (n : Int) + (b + q * j) = (p * n + b) + q * j by omega, div_shift _ _ _ hq, Int.one_mul, Int.add_comm]
      rw [Int.add_comm (j : Int)]
      omega
    rw [e, sum_map_add, ih, range_fs, fs_hermite _ _ hk]
    rfl
theorem fs_sample (n : Nat) (p q b k : Int) (hk : 0 ≤ k) : ((List.range k.toNat).map fun (j : Nat) => fs n (p * k) (b + p * j) q).sum = fs (k.toNat * n) p b q := by
  induction n with
  | zero =>
    show ((List.range k.toNat).map fun _ => (0 : Int)).sum = 0
    induction k.toNat with
    | zero => rfl
    | succ m ih => rw [List.range_succ, List.map_append, List.sum_append, ih]; rfl
  | succ n ih =>
    have e : (List.range k.toNat).map (fun (j : Nat) => fs (n + 1) (p * k) (b + p * j) q) = (List.range k.toNat).map (fun (j : Nat) => fs n (p * k) (b + p * j) q + (p * (j : Int) + (p * ((k.toNat * n : Nat) : Int) + b)) / q) := by
      apply List.map_congr_left
      intro j _
      show fs n (p * k) (b + p * j) q + (p * k * n + (b + p * j)) / q = _
      rw [Int.natCast_mul, show ((k.toNat : Nat) : Int) = k by omega, ← Int.mul_assoc]
      rw [show p * k * (n : Int) + (b + p * j) = p * j + (p * k * n + b) by omega]
    rw [e, sum_map_add, ih, range_fs, Nat.mul_succ, fs_add]
end Lf
namespace Lf
theorem fs_lin (n : Nat) (a b m i j : Int) (hm : 0 < m) : fs n (a + i * m) (b + j * m) m = fs n a b m + i * tri n + j * n := by
  induction n with
  | zero => simp [fs, tri_zero]
  | succ n ih =>
    show fs n (a + i * m) (b + j * m) m + ((a + i * m) * n + (b + j * m)) / m = fs n a b m + (a * n + b) / m + i * tri ((n + 1 : Nat) : Int) + j * ((n + 1 : Nat) : Int)
    rw [ih, show (a + i * m) * (n : Int) + (b + j * m) = (a * n + b) + m * (i * n + j) by
      rw [Int.add_mul, Int.mul_add, Int.mul_comm i m, Int.mul_assoc, Int.mul_comm j m]; omega, div_shift _ _ _ hm, Int.natCast_add, Int.natCast_one, tri_succ, Int.mul_add, Int.mul_add]
    omega
theorem fs_scale (n : Nat) (a b m k : Int) (hk : 0 < k) : fs n (a * k) (b * k) (m * k) = fs n a b m := by
  induction n with
  | zero => rfl
  | succ n ih =>
    show fs n (a * k) (b * k) (m * k) + (a * k * n + b * k) / (m * k) = fs n a b m + (a * n + b) / m
    rw [ih, show a * k * (n : Int) + b * k = (a * n + b) * k by rw [Int.add_mul, Int.mul_right_comm], Int.mul_ediv_mul_of_pos_left _ _ hk]
theorem fs_last (n a b m : Int) (hn : 0 < n) : fs n.toNat a b m - fs (n - 1).toNat a b m = (a * (n - 1) + b) / m := by
  have e : n.toNat = (n - 1).toNat + 1 := by omega
  rw [e]
  show fs (n - 1).toNat a b m + (a * ((n - 1).toNat : Int) + b) / m - fs (n - 1).toNat a b m = _
  rw [show ((n - 1).toNat : Int) = n - 1 by omega]
  omega
theorem fs_part (n k a b m : Int) (h0 : 0 ≤ k) (h1 : k ≤ n) : fs k.toNat a b m + fs (n - k).toNat a (a * k + b) m = fs n.toNat a b m := by
  rw [show n.toNat = k.toNat + (n - k).toNat by omega, fs_add, show ((k.toNat : Nat) : Int) = k by omega]
theorem Bd.grow3 {k : Nat} {r d : Int} (h0 : 0 ≤ r) (h : Bd k r) (d0 : 0 ≤ d) (d1 : d < 1000) : Bd (k + 10) (1000 * r + d) := by
  unfold Bd at *
  have e : (2 : Nat) ^ (k + 10) = 2 ^ k * 1024 := by rw [Nat.pow_add]
  rw [e]
  generalize (2 : Nat) ^ k = m at h
  omega
theorem Bd.grow1 {k : Nat} {r d : Int} (h0 : 0 ≤ r) (h : Bd k r) (d0 : 0 ≤ d) (d1 : d < 10) : Bd (k + 4) (10 * r + d) := by
  unfold Bd at *
  have e : (2 : Nat) ^ (k + 4) = 2 ^ k * 16 := by rw [Nat.pow_add]
  rw [e]
  generalize (2 : Nat) ^ k = m at h
  omega
end Lf
namespace Lf
/-! ### events -/
theorem gal {p q : Int} (c m t : Int) (hp : 1 ≤ p) (hq : 1 ≤ q) : m ≤ (p * t + c) / q ↔ (q * m + (p - 1 - c)) / p ≤ t := by
  rw [Int.le_ediv_iff_mul_le (by omega), ← Int.lt_add_one_iff (a := (q * m + (p - 1 - c)) / p), Int.ediv_lt_iff_lt_mul (by omega), Int.mul_comm m q, Int.add_mul, Int.one_mul, Int.mul_comm t p]
  omega
theorem ct_mono {p q c s t : Int} (hp : 0 ≤ p) (hq : 1 ≤ q) (h : s ≤ t) : (p * s + c) / q ≤ (p * t + c) / q := by
  apply Int.ediv_le_ediv (by omega)
  have := Int.mul_le_mul_of_nonneg_left h hp
  omega
theorem ev_at {p q c m t : Int} (hp : 1 ≤ p) (hq : 1 ≤ q) (h1 : (p * (t - 1) + c) / q < m) (h2 : m ≤ (p * t + c) / q) : (q * m + (p - 1 - c)) / p = t := by
  have a := (gal c m t hp hq).mp h2
  have b : ¬ (q * m + (p - 1 - c)) / p ≤ t - 1 := fun h => by
    have := (gal c m (t - 1) hp hq).mpr h
    omega
  omega
theorem fs_const (k : Nat) (a b m v : Int) (h : ∀ i : Nat, i < k → (a * i + b) / m = v) : fs k a b m = k * v := by
  induction k with
  | zero => simp [fs]
  | succ k ih =>
    show fs k a b m + (a * k + b) / m = ((k + 1 : Nat) : Int) * v
    rw [ih (fun i hi => h i (by omega)), h k (by omega), Int.natCast_add, Int.natCast_one, Int.add_mul]
    omega
/-- the sum of the counts of a range by the times of its events -/
theorem fs_dual (p q c s : Int) (hp : 1 ≤ p) (hq : 1 ≤ q) (n : Nat) :
    fs n p (p * s + c) q = n * ((p * (s - 1) + c) / q) + ((p * (s + n - 1) + c) / q - (p * (s - 1) + c) / q) * (s + n) - fs ((p * (s + n - 1) + c) / q - (p * (s - 1) + c) / q).toNat q (q * ((p * (s - 1) + c) / q + 1) + (p - 1 - c)) p := by
  induction n with
  | zero =>
    rw [show s + ((0 : Nat) : Int) - 1 = s - 1 by omega, Int.sub_self]
    simp [fs]
  | succ n ih =>
    show fs n p (p * s + c) q + (p * n + (p * s + c)) / q = _
    rw [ih]
    have e0 : p * (n : Int) + (p * s + c) = p * (s + ((n + 1 : Nat) : Int) - 1) + c := by
      rw [show s + ((n + 1 : Nat) : Int) - 1 = s + n by omega, Int.mul_add]
      omega
    rw [e0]
    have m1 : (p * (s - 1) + c) / q ≤ (p * (s + n - 1) + c) / q := ct_mono (by omega) hq (by omega)
    have m2 : (p * (s + n - 1) + c) / q ≤ (p * (s + ((n + 1 : Nat) : Int) - 1) + c) / q := ct_mono (by omega) hq (by omega)
    have key : ∀ i : Nat, (i : Int) < (p * (s + ((n + 1 : Nat) : Int) - 1) + c) / q - (p * (s + n - 1) + c) / q → (q * ((p * (s + n - 1) + c) / q + 1 + i) + (p - 1 - c)) / p = s + n := fun i hi => by
      apply ev_at hp hq
      · show (p * (s + n - 1) + c) / q < _
        omega
      · rw [show s + (n : Int) = s + ((n + 1 : Nat) : Int) - 1 by omega] at *
        omega
    generalize hl : (p * (s - 1) + c) / q = low at *
    generalize hh : (p * (s + n - 1) + c) / q = hi at *
    generalize hh2 : (p * (s + ((n + 1 : Nat) : Int) - 1) + c) / q = hi2 at *
    rw [show (hi2 - low).toNat = (hi - low).toNat + (hi2 - hi).toNat by omega, fs_add, show ((hi - low).toNat : Int) = hi - low by omega]
    have fc := fs_const (hi2 - hi).toNat q (q * (hi - low) + (q * (low + 1) + (p - 1 - c))) p (s + n) (fun i h => by
      have := key i (by omega)
      rw [show q * (i : Int) + (q * (hi - low) + (q * (low + 1) + (p - 1 - c))) = q * (hi + 1 + i) + (p - 1 - c) by
        have : q * (hi + 1 + i) = q * i + q * (hi - low) + q * (low + 1) := by rw [← Int.mul_add, ← Int.mul_add]; congr 1; omega
        omega]
      exact this)
    rw [fc, show ((hi2 - hi).toNat : Int) = hi2 - hi by omega]
    rw [show s + ((n + 1 : Nat) : Int) = s + n + 1 by omega, show ((n + 1 : Nat) : Int) = n + 1 by omega]
    generalize s + (n : Int) = x
    have e3 : (hi2 - low) * (x + 1) = hi2 * x - low * x + hi2 - low := by rw [Int.mul_add, Int.sub_mul]; omega
    have e4 : (hi - low) * x = hi * x - low * x := by rw [Int.sub_mul]
    have e5 : (hi2 - hi) * x = hi2 * x - hi * x := by rw [Int.sub_mul]
    have e6 : ((n : Int) + 1) * low = n * low + low := by rw [Int.add_mul, Int.one_mul]
    rw [e3, e4, e5, e6]
    omega
theorem ct_fast {p q c s : Int} (hq : 1 ≤ q) (h : q ≤ p) (n : Nat) : (n : Int) ≤ (p * (s + n) + c) / q - (p * s + c) / q := by
  induction n with
  | zero => simp
  | succ n ih =>
    have : (p * (s + n) + c) / q + 1 ≤ (p * (s + ((n + 1 : Nat) : Int)) + c) / q := by
      have e := div_shift (p * (s + n) + c) 1 q (by omega)
      rw [← e]
      apply Int.ediv_le_ediv (by omega)
      rw [show s + ((n + 1 : Nat) : Int) = s + n + 1 by omega, Int.mul_add p (s + n) 1]
      omega
    omega
theorem ct_slow {p q c s : Int} (hq : 1 ≤ q) (h : p ≤ q) (n : Nat) : (p * (s + n) + c) / q - (p * s + c) / q ≤ n := by
  induction n with
  | zero => simp
  | succ n ih =>
    have : (p * (s + ((n + 1 : Nat) : Int)) + c) / q ≤ (p * (s + n) + c) / q + 1 := by
      have e := div_shift (p * (s + n) + c) 1 q (by omega)
      rw [← e]
      apply Int.ediv_le_ediv (by omega)
      rw [show s + ((n + 1 : Nat) : Int) = s + n + 1 by omega, Int.mul_add p (s + n) 1]
      omega
    omega
end Lf

namespace Lf
open PySem PySem.Spec PyProof.Rows L2
def topS (i : Nat) : Stmt := PySem.Challenge.pw_leapfit_k01_records.main.body.getD i (.Pass ⟨0, 0, 0, 0⟩)
/-! ### heaps -/
theorem len10 {n : Nat} (h : n ≤ 1000) : n ≤ sizeLine := Nat.le_of_lt (small1000 h)
def penD (l : Addr) (t r : Int) : List (Key × V) := [(Sum.inr "cells", .ref l), (Sum.inr "at", .int t), (Sum.inr "left", .int r)]
/-- all but the source's own dict stays -/
structure Fr (H H' : Hp) : Prop where
  k : ∀ b o, H b = some o → (∀ x : Addr × Int × Int, o ≠ .dK (penD x.1 x.2.1 x.2.2)) → H' b = some o
theorem Fr.t {H H' : Hp} (f : Fr H H') (b : Addr) (xs : List V) (h : H b = some (.tup xs)) : H' b = some (.tup xs) := f.k b _ h fun _ z => by cases z
theorem Fr.l {H H' : Hp} (f : Fr H H') (b : Addr) (xs : List V) (h : H b = some (.lst xs)) : H' b = some (.lst xs) := f.k b _ h fun _ z => by cases z
theorem Fr.refl (H : Hp) : Fr H H := ⟨fun _ _ h _ => h⟩
theorem Fr.trans {H H1 H2 : Hp} (a : Fr H H1) (b : Fr H1 H2) : Fr H H2 := ⟨fun c o h n => b.k c o (a.k c o h n) n⟩
theorem Fr.same {H H1 : Hp} (a : Same H H1) : Fr H H1 := ⟨fun c o h _ => a c _ h⟩
theorem sm_upd {H : Hp} {p : Addr} {o : HO} (h : H p = none) : Same H (upd H p o) := fun b x e => by
  rw [upd_ne (ne_of_none e h)]
  exact e
theorem Fr.new {H : Hp} {p : Addr} {o : HO} (h : H p = none) : Fr H (upd H p o) := Fr.same (sm_upd h)
theorem Fr.dict {H : Hp} {p l : Addr} {t r : Int} {o : HO} (h : H p = some (.dK (penD l t r))) : Fr H (upd H p o) :=
  ⟨fun b o e n => by rw [upd_ne (ne_of e h (n (l, t, r)))]; exact e⟩
theorem Fr.d0 {H H' : Hp} (f : Fr H H') (b : Addr) (h : H b = some (.dK [])) : H' b = some (.dK []) := f.k b _ h fun _ z => by cases z
/-! ### the source of numbers -/
theorem sct : ¬ ("cells" : Str) = "at" := by decide +kernel
theorem scr : ¬ ("cells" : Str) = "left" := by decide +kernel
theorem str_ : ¬ ("at" : Str) = "left" := by decide +kernel
theorem srt : ¬ ("left" : Str) = "at" := by decide +kernel
theorem kct : ¬ (Sum.inr ("cells" : Str) : Key) = Sum.inr ("at" : Str) := fun h => sct (Sum.inr.inj h)
theorem kcr : ¬ (Sum.inr ("cells" : Str) : Key) = Sum.inr ("left" : Str) := fun h => scr (Sum.inr.inj h)
theorem ktr : ¬ (Sum.inr ("at" : Str) : Key) = Sum.inr ("left" : Str) := fun h => str_ (Sum.inr.inj h)
theorem krt : ¬ (Sum.inr ("left" : Str) : Key) = Sum.inr ("at" : Str) := fun h => srt (Sum.inr.inj h)
theorem dg_rest {H : Hp} {a l : Addr} {t r : Int} (h : H a = some (.dK (penD l t r))) : DGet H a (.str "left") (some (.int r)) := by
  have e : valV (penD l t r) (Sum.inr "left" : Key) = some (.int r) := by
    unfold penD
    rw [valV_neg kcr, valV_neg ktr, valV_pos rfl]
  rw [← e]
  exact DGet.k (k := Sum.inr "left") h
theorem dg_turn {H : Hp} {a l : Addr} {t r : Int} (h : H a = some (.dK (penD l t r))) : DGet H a (.str "at") (some (.int t)) := by
  have e : valV (penD l t r) (Sum.inr "at" : Key) = some (.int t) := by
    unfold penD
    rw [valV_neg kct, valV_pos rfl]
  rw [← e]
  exact DGet.k (k := Sum.inr "at") h
theorem dg_cells {H : Hp} {a l : Addr} {t r : Int} (h : H a = some (.dK (penD l t r))) : DGet H a (.str "cells") (some (.ref l)) := by
  have e : valV (penD l t r) (Sum.inr "cells" : Key) = some (.ref l) := by
    unfold penD
    rw [valV_pos rfl]
  rw [← e]
  exact DGet.k (k := Sum.inr "cells") h
theorem dp_rest {H : Hp} {a l : Addr} {t r y : Int} (h : H a = some (.dK (penD l t r))) : DPut H a (.str "left") (.int y) (upd H a (.dK (penD l t y))) := by
  have e : putK (penD l t r) (Sum.inr "left" : Key) (.int y) = penD l t y := by
    simp [putK, penD, scr, str_]
  rw [← e]
  exact DPut.k (k := Sum.inr "left") h (by show 3 < sizeLine; exact small1000 (by decide))
theorem dp_turn {H : Hp} {a l : Addr} {t r y : Int} (h : H a = some (.dK (penD l t r))) : DPut H a (.str "at") (.int y) (upd H a (.dK (penD l y r))) := by
  have e : putK (penD l t r) (Sum.inr "at" : Key) (.int y) = penD l y r := by
    simp [putK, penD, sct, srt]
  rw [← e]
  exact DPut.k (k := Sum.inr "at") h (by show 3 < sizeLine; exact small1000 (by decide))
/-- where the source stands: its dict, its list of cells -/
structure PA where
  d : Addr
  l : Addr
instance : Coe PA Addr := ⟨PA.d⟩
structure Pen (H : Hp) (a : PA) (n : Nat) : Prop where
  ex : ∃ (cs : List Int) (t r : Int), H a.d = some (.dK (penD a.l t r)) ∧ H a.l = some (.lst (cs.map V.int)) ∧ cs.length ≤ 63 ∧ 0 ≤ t ∧ t ≤ n ∧ 0 ≤ r
theorem Pen.same {H H' : Hp} {a : PA} {n : Nat} (p : Pen H a n) (s : Same H H') : Pen H' a n := by
  obtain ⟨cs, t, r, h1, h2, h3⟩ := p.ex
  exact ⟨cs, t, r, s _ _ h1, s _ _ h2, h3⟩
theorem Pen.new {H : Hp} {a : PA} {p : Addr} {n : Nat} {o : HO} (q : Pen H a n) (h : H p = none) : Pen (upd H p o) a n := q.same (sm_upd h)
theorem Pen.mono {H : Hp} {a : PA} {n m : Nat} (p : Pen H a n) (h : n ≤ m) : Pen H a m := by
  obtain ⟨cs, t, r, h1, h2, h3, h4, h5, h6⟩ := p.ex
  exact ⟨cs, t, r, h1, h2, h3, h4, by omega, h6⟩
theorem Pen.put {H : Hp} {a l : Addr} {cs : List Int} {t r : Int} {n : Nat} {kvs : List (Key × V)} (ha : H a = some (.dK kvs)) (hl : H l = some (.lst (cs.map V.int))) (h1 : cs.length ≤ 63) (h2 : 0 ≤ t) (h3 : t ≤ n) (h4 : 0 ≤ r) :
    Pen (upd H a (.dK (penD l t r))) ⟨a, l⟩ n :=
  ⟨cs, t, r, upd_same, by show upd H a _ l = _; rw [upd_ne (ne_of hl ha (by intro z; cases z))]; exact hl, h1, h2, h3, h4⟩
/-- an address that was free when the source stood already -/
theorem Pen.over {H H' : Hp} {a : PA} {L : Addr} {n m : Nat} {o : HO} (p0 : Pen H a m) (hL : H L = none) (p : Pen H' a n) : Pen (upd H' L o) a n := by
  obtain ⟨_, _, _, g1, g2, _⟩ := p0.ex
  obtain ⟨cs, t, r, h1, h2, h3⟩ := p.ex
  exact ⟨cs, t, r, by rw [upd_ne (ne_of_none g1 hL)]; exact h1, by rw [upd_ne (ne_of_none g2 hL)]; exact h2, h3⟩
theorem Fr.over {H H' : Hp} {L : Addr} {o : HO} (f : Fr H H') (hL : H L = none) : Fr H (upd H' L o) :=
  ⟨fun b o e n => by rw [upd_ne (ne_of_none e hL)]; exact f.k _ _ e n⟩
/-! ### defs by their names -/
def Df (K : PySem.W.Frag) (mg : Str → Option Value) (x : Str) (st : Stmt) (ps : List Str) : Prop := ∃ f fd, Fun K x x st f fd ∧ mg x = some (.ref f) ∧ Binds K fd ps []
structure Bi (mg : Str → Option Value) : Prop where
  len_ : mg "len" = none
  abs_ : mg "abs" = none
  list_ : mg "list" = none
  range_ : mg "range" = none
  sum_ : mg "sum" = none
  repr_ : mg "repr" = none
  max_ : mg "max" = none
  min_ : mg "min" = none
  reversed_ : mg "reversed" = none
  divmod_ : mg "divmod" = none
  isinstance_ : mg "isinstance" = none
  all_ : mg "all" = none
  int_ : mg "int" = none
  bool_ : mg "bool" = none
  tuple_ : mg "tuple" = none
  sorted_ : mg "sorted" = none
  zip_ : mg "zip" = none
  enumerate_ : mg "enumerate" = none
  set_ : mg "set" = none
  str_ : mg "str" = none
theorem bt_len : bootBuiltins ("len" : Str) = Option.some (Value.builtin "len") := by decide +kernel
theorem bt_abs : bootBuiltins ("abs" : Str) = Option.some (Value.builtin "abs") := by decide +kernel
theorem bt_sum : bootBuiltins ("sum" : Str) = Option.some (Value.builtin "sum") := by decide +kernel
theorem bt_repr : bootBuiltins ("repr" : Str) = Option.some (Value.builtin "repr") := by decide +kernel
theorem bt_max : bootBuiltins ("max" : Str) = Option.some (Value.builtin "max") := by decide +kernel
theorem bt_min : bootBuiltins ("min" : Str) = Option.some (Value.builtin "min") := by decide +kernel
theorem bt_divmod : bootBuiltins ("divmod" : Str) = Option.some (Value.builtin "divmod") := by decide +kernel
theorem bt_isinstance : bootBuiltins ("isinstance" : Str) = Option.some (Value.builtin "isinstance") := by decide +kernel
theorem bt_all : bootBuiltins ("all" : Str) = Option.some (Value.builtin "all") := by decide +kernel
theorem bt_set : bootBuiltins ("set" : Str) = Option.some (Value.type "set") := by decide +kernel
theorem bt_str : bootBuiltins ("str" : Str) = Option.some (Value.type "str") := by decide +kernel
theorem bt_sorted : bootBuiltins ("sorted" : Str) = Option.some (Value.builtin "sorted") := by decide +kernel
theorem bt_list : bootBuiltins ("list" : Str) = Option.some (Value.type "list") := by decide +kernel
theorem bt_int : bootBuiltins ("int" : Str) = Option.some (Value.type "int") := by decide +kernel
theorem bt_bool : bootBuiltins ("bool" : Str) = Option.some (Value.type "bool") := by decide +kernel
theorem bt_tuple : bootBuiltins ("tuple" : Str) = Option.some (Value.type "tuple") := by decide +kernel
section
variable {P : Program} {w : World} {K : PySem.W.Frag} {mg : Str → Option Value} {base : Heap}
theorem cal_of {x : Str} {st : Stmt} {N ps : List Str} {k : Nat} {sp : Sp} (D : Df K mg x st ps) (S : FnScope N ps (defScope st)) (len : ∀ vs H Q E, sp vs H Q E → vs.length = ps.length)
    (hb : ∀ (f : Addr) (cdv : Value) (A : Around) (outer : List Env) (s : Shared) (H : Hp) (vs : List V) (Q : VK) (E : XK), Room k (A.deeper (envOfC x (defScope st) s.heap.objs.size f cdv)) → sp vs H Q E →
      ∃ t, PSs (cxOf CX0 P w K mg base N x (defScope st) f cdv A outer s H E).nox (defBody st) t ∧ t { nx := fun _ H' => Q .non H', rt := Q } (start N vs) H) : C8.Cal P w K mg base (k + 1) x sp [] := by
  obtain ⟨f, fd, F, hm, b⟩ := D
  exact ⟨⟨f, fd, ps, [], F.ok S len (fun cdv A outer s H vs Q E hr h => hb f cdv A outer s H vs Q E hr h), hm, F.kp, b, .nil⟩⟩
/-- the same, its own row known (for calls with keywords) -/
def CalF (P : Program) (w : World) (K : PySem.W.Frag) (mg : Str → Option Value) (base : Heap) (k : Nat) (x : Str) (st : Stmt) (ps : List Str) (sp : Sp) : Prop :=
  ∃ f fd, Fun K x x st f fd ∧ mg x = some (.ref f) ∧ FnOk P w K mg base CX0 k f fd ps sp ∧ Binds K fd ps []
theorem calF_of {x : Str} {st : Stmt} {N ps : List Str} {k : Nat} {sp : Sp} (D : Df K mg x st ps) (S : FnScope N ps (defScope st)) (len : ∀ vs H Q E, sp vs H Q E → vs.length = ps.length)
    (hb : ∀ (f : Addr) (cdv : Value) (A : Around) (outer : List Env) (s : Shared) (H : Hp) (vs : List V) (Q : VK) (E : XK), Room k (A.deeper (envOfC x (defScope st) s.heap.objs.size f cdv)) → sp vs H Q E →
      ∃ t, PSs (cxOf CX0 P w K mg base N x (defScope st) f cdv A outer s H E).nox (defBody st) t ∧ t { nx := fun _ H' => Q .non H', rt := Q } (start N vs) H) : CalF P w K mg base (k + 1) x st ps sp := by
  obtain ⟨f, fd, F, hm, b⟩ := D
  exact ⟨f, fd, F, hm, F.ok S len (fun cdv A outer s H vs Q E hr h => hb f cdv A outer s H vs Q E hr h), b⟩
theorem CalF.cal {x : Str} {st : Stmt} {ps : List Str} {k : Nat} {sp : Sp} (c : CalF P w K mg base k x st ps sp) : C8.Cal P w K mg base k x sp [] := by
  obtain ⟨f, fd, F, hm, G, b⟩ := c
  exact ⟨⟨f, fd, ps, [], G, hm, F.kp, b, .nil⟩⟩
/-! ### _law_pen -/
theorem cut_ints (ns : List Int) : ∃ cs : List Int, cutV (ns.map V.int) none (some 63) = cs.map V.int ∧ cs.length ≤ 63 := by
  refine ⟨ns.take 63, ?_, by rw [List.length_take]; omega⟩
  unfold cutV
  rw [HT.sIx_none, show HT.sIx (ns.map V.int).length (ns.map V.int).length (some 63) = min 63 (ns.map V.int).length from HT.sIx_nat _ _ 63]
  rw [List.drop_zero, Nat.sub_zero, List.map_take, List.length_map]
  by_cases h : 63 ≤ ns.length
  · rw [Nat.min_eq_left h]
  · rw [Nat.min_eq_right (by omega), List.take_of_length_le (by rw [List.length_map]; omega), List.take_of_length_le (by rw [List.length_map]; omega)]
def spPen (K : PySem.W.Frag) : Sp := fun vs H Q _ => ∃ (s : Addr) (ns : List Int), vs = [.ref s] ∧ SqL K H s (ns.map V.int) ∧ ∀ (a : PA) H', Pen H' a 0 → Same H H' → Q (.ref a) H'
end
end Lf
namespace Lf
open PySem PySem.Spec PyProof.Rows L2
/-! ### a try that catches, and keeps the exception in a name -/
abbrev dead : Ends := { nx := fun _ _ => False, rt := fun _ _ => False }
/-- the wish: the clause's class; then the suite; then, with the exception known, what follows -/
def wKeep (K : PySem.W.Frag) (c : Value) (i : Nat) (ts : Addr → TS) (go : Addr → Value → Option Addr → L2.St → Hp → Prop) : WX := fun cls d σ H =>
  PySem.W.exmOne K cls c = some true ∧ ∀ a, H a = none → ts a { nx := fun σ' H' => go a cls d (σ'.set i none) H', rt := fun _ _ => False } (σ.set i (some (.ref a))) H
/-- slots are as many as names -/
theorem takes_len {X : Cx} {W : WX} (t : Takes X W) : Takes X (fun cls d σ H => σ.length = X.N.length → W cls d σ H) := fun u s' ⟨a, B, sI, pins, σ, H, cls, d, e, I, nb, up, sky, na, os, ag, ww⟩ =>
  t u s' ⟨a, B, sI, pins, σ, H, cls, d, e, I, nb, up, sky, na, os, ag, ww I.len⟩
section
variable {X : Cx} {pins : List (Addr × Obj)} {σ : L2.St} {H : Hp} {s : Shared}
/-- an exception's object, known from now on -/
theorem pin_in (J : Inv X pins σ H s) {a : Addr} {oe : Obj} {vs : Array Value} (ge : s.heap.get? a = some oe) (dt : oe.data = .fields vs) (na : H a = none) (n1 : a ≠ X.env.locals) (n2 : a ∉ X.fs) : Inv (X.tr ((a, oe) :: (X.pn ++ pins)) X.xe) [] σ H s := by
  refine ⟨J.ok.toTry _ _, J.os, J.bare, J.base, J.loc, J.cell, J.free, J.freeC, fun p hp => ?_, J.hok, J.len⟩
  rw [List.append_nil] at hp
  rcases List.mem_cons.mp hp with rfl | hp
  · refine ⟨ge, na, n1, n2, fun v z => ?_⟩
    have z : oe.data = .cell v := z
    rw [dt] at z
    cases z
  · exact J.pin p hp
theorem pin_out {a : Addr} {oe : Obj} {pn : List (Addr × Obj)} (ok : X.Ok) (J : Inv (X.tr ((a, oe) :: (X.pn ++ pins)) X.xe) pn σ H s) : Inv X pins σ H s :=
  ⟨ok, J.os, J.bare, J.base, J.loc, J.cell, J.free, J.freeC, fun p hp => J.pin p (List.mem_append.mpr (.inl (List.mem_cons_of_mem _ hp))), J.hok, J.len⟩
theorem out_suite {a : Addr} {oe : Obj} {pn : List (Addr × Obj)} (ok : X.Ok) (J : Inv (X.suite a ((a, oe) :: (X.pn ++ pins))) pn σ H s) : Inv (X.tr ((a, oe) :: (X.pn ++ pins)) X.xe) [] σ H s :=
  ⟨ok.toTry _ _, J.os, J.bare, J.base, J.loc, J.cell, J.free, J.freeC, fun p hp => J.pin p (List.mem_append.mpr (.inl (by rw [List.append_nil] at hp; exact hp))), J.hok, J.len⟩
end
section
variable {X : Cx} {x n : Str} {c : Value} {i : Nat} {body suite rest : List Stmt} {b0 : Stmt} {np po pq : Pos} {tb : WX → TS} {ts : Addr → TS} {tr : Addr → Value → Option Addr → TS}
theorem pss_keep (stk : X.stack = X.env :: X.outer) (fr : X.env.frame = some X.env.locals) (nd : X.N.Nodup) (ni : X.N[i]? = some n) (kn : X.env.kindOf n = some .local) (hc : Names X x c)
    (hb : ∀ (W : WX) (pn : List (Addr × Obj)) (xe : Value → Shared → Prop), Takes (X.tr pn xe) W → PSs (X.tr pn xe) body (tb W))
    (hsu : ∀ (a : Addr) (oe : Obj) (pn : List (Addr × Obj)), PSs (X.suite a ((a, oe) :: pn)) (b0 :: suite) (ts a))
    (hre : ∀ (a : Addr) (oe : Obj) (cls : Value) (d : Option Addr) (pn : List (Addr × Obj)), Zc cls d oe → (∃ vs, oe.data = .fields vs) → PSs (X.tr ((a, oe) :: pn) X.xe) rest (tr a cls d)) :
    PSs X (.Try body [.ExceptHandler (some (.Name x np)) (some n) (b0 :: suite) pq] [] [] po :: rest) (fun D σ H => tb (wKeep X.K c i ts (fun a cls d σ' H' => tr a cls d D σ' H')) dead σ H) := by
  refine ⟨fun pins s σ H D I h => wpAny_execs_cons (wpAny_Try_except ?_)⟩
  have ok := I.ok
  have frm : X.A.frames = some (X.env :: X.outer) := by rw [ok.frames, stk]
  refine wpAny_mono ((hb (wKeep X.K c i ts (fun a cls d σ' H' => tr a cls d D σ' H')) (X.pn ++ pins) _ (fun u s' air => ?_)).run [] s σ H dead (I.toTry _) h) (fun f s1 z => ?_) (fun e s1 he => he)
  · obtain ⟨a, B, sI, pins', σ1, H1, cls, d, rfl, J0, nb, up, sky, na, os, ag, em, go⟩ := air
    have J : Inv X pins σ1 H1 sI := J0.ofTry ok
    rw [stk] at sky
    refine Sky.land Zc.steady frm fr sky fun h3 f3 u3 => ?_
    have J3 : Inv X pins σ1 H1 { s' with heap := h3 } := J.landed nb f3.1 (up.trans u3) os ag
    obtain ⟨o3, v3, g3, z3, d3⟩ := f3.there
    have nf : a ∉ frs (X.env :: X.outer) := fun hm => by
      obtain ⟨_, o', e', hn⟩ := f3.2.2.1.mem hm
      rw [g3] at e'
      cases e'
      exact hn _ d3
    have n1 : a ≠ X.env.locals := fun z => nf (List.mem_filterMap.mpr ⟨X.env, List.mem_cons_self, by rw [fr, z]⟩)
    have n2 : a ∉ X.fs := fun hm => by
      obtain ⟨e, he, q⟩ := List.mem_filterMap.mp hm
      exact nf (List.mem_filterMap.mpr ⟨e, List.mem_cons_of_mem _ he, q⟩)
    have S3 := J3.suite g3 d3 na n1 n2
    refine wpAny_handleBy_cons (codeAny_handlers_test ?_) (by intro q; cases q)
    have lt : PySem.W.Looks (model X.prog X.w) h3 (typeOf (.ref a)) cls := fun A Q E s k q => wpAny_typeOf_ref (k _ _ g3) (by rw [z3.1]; exact q)
    have lm := PySem.W.exm_one (M := model X.prog X.w) J3.kIn lt em
    have seen : ∀ {Q : Value → Shared → Prop} {E : Value → Shared → Prop}, Q c { s' with heap := h3 } → wpAny (model X.prog X.w) (X.A.mark (some (.ref a))) (eval (.Name x np) X.env) Q E { s' with heap := h3 } := fun {Q E} q => by
      obtain ⟨hg, hd, hm | ⟨hm, hv, hw⟩⟩ := hc
      · exact ld_glob S3 hg hm q hd
      · exact ld_blt S3 hg hm hv q hw hd
    refine seen (lm.here (codeAny_handlers_suite_as (HandSPX.lands_againZ f3 fun h4 f4 u4 => ?_)))
    have J4 : Inv X pins σ1 H1 { s' with heap := h4 } := J.landed nb f4.1 ((up.trans u3).trans u4) os ag
    obtain ⟨o4, v4, g4, z4, d4⟩ := f4.there
    have S4 := J4.suite g4 d4 na n1 n2
    refine store_ok (X := X.suite a ((a, o4) :: (X.pn ++ pins))) (v := .ref a) S4 nd ni (.inl kn) rfl (fun s5 S5 => ?_) (.inr kn)
    refine wpAny_mono ((hsu a o4 (X.pn ++ pins)).run [] s5 _ H1 _ S5 (go a na)) (fun f s6 q => ?_) (fun _ _ z => False.elim z)
    cases f with
    | next =>
      obtain ⟨σ6, H6, S6, q6⟩ := q
      refine gone_ok (X := X.tr ((a, o4) :: (X.pn ++ pins)) X.xe) (out_suite ok S6) nd ni kn fun s7 J7 => ?_
      refine wpAny_mono ((hre a o4 cls d (X.pn ++ pins) z4 ⟨_, d4⟩).run [] s7 _ H6 D J7 q6) (fun f s8 r => ?_) (fun _ _ z => z)
      cases f with
      | next =>
        obtain ⟨σ8, H8, J8, q8⟩ := r
        exact ⟨σ8, H8, pin_out ok J8, q8⟩
      | brk =>
        obtain ⟨σ8, H8, J8, q8⟩ := r
        exact ⟨σ8, H8, pin_out ok J8, q8⟩
      | cont =>
        obtain ⟨σ8, H8, J8, q8⟩ := r
        exact ⟨σ8, H8, pin_out ok J8, q8⟩
      | ret u =>
        obtain ⟨v8, σ8, H8, J8, r8, q8⟩ := r
        exact ⟨v8, σ8, H8, pin_out ok J8, r8, q8⟩
    | brk =>
      obtain ⟨_, _, _, q6⟩ := q
      exact False.elim q6
    | cont =>
      obtain ⟨_, _, _, q6⟩ := q
      exact False.elim q6
    | ret u =>
      obtain ⟨_, _, _, _, _, q6⟩ := q
      exact False.elim q6
  · cases f with
    | next =>
      obtain ⟨_, _, _, q6⟩ := z
      exact False.elim q6
    | brk =>
      obtain ⟨_, _, _, q6⟩ := z
      exact False.elim q6
    | cont =>
      obtain ⟨_, _, _, q6⟩ := z
      exact False.elim q6
    | ret u =>
      obtain ⟨_, _, _, _, _, q6⟩ := z
      exact False.elim q6
end
/-! ### isinstance of a known exception -/
/-- by one class, or by a tuple of classes -/
def rIsK (K : PySem.W.Frag) (D a : Addr) : List V → Hp → VK → Prop := fun xs H Q => ∃ (y : V) (b : Bool), xs = [.ref a, y] ∧ Q (.bl b) H ∧
  ((∃ cv, (∀ u, RelV y u → u = cv) ∧ PySem.W.kitOne K (.ref D) cv = some b) ∨ ∃ (tp : Addr) (cs : List Addr), y = .ref tp ∧ SqT K H tp (cs.map V.ref) ∧ PySem.W.kitAny K (.ref D) (cs.map Value.ref) = some b)
theorem vals_refs : ∀ {cs : List Addr} {us : List Value}, Vals (cs.map V.ref) us → us = cs.map Value.ref
  | [], _, r => by cases r; rfl
  | c :: cs, _, r => by
    cases r with
    | cons r1 r2 =>
      rw [vals_refs r2]
      cases r1
      rfl
theorem call_isK {X : Cx} {a D : Addr} {oe : Obj} {pn : List (Addr × Obj)} {xe : Value → Shared → Prop} (C : ExcC X.K D) (hz : Zc (.ref D) none oe) (hf : ∃ vs, oe.data = .fields vs) : CallR (X.tr ((a, oe) :: pn) xe) (.builtin "isinstance") (rIsK X.K D a) := by
  intro pins s σ H xs us Q I r h
  obtain ⟨y, b, rfl, q, h⟩ := h
  cases r with
  | cons rx rr =>
    cases rr with
    | cons rt rr =>
      cases rr
      cases rx
      obtain ⟨ge, _⟩ := I.pin (a, oe) (List.mem_append.mpr (.inl List.mem_cons_self))
      obtain ⟨vs, hv⟩ := hf
      have J : PySem.W.InstAt s.heap a oe D none := by
        obtain ⟨oc, od, oda, osl⟩ := oe
        obtain ⟨h1, h2⟩ := hz
        dsimp only at h1 h2 hv
        subst h1 h2 hv
        exact ⟨ge, rfl, rfl, trivial⟩
      have kx := PySem.W.handS_kitx_exc (x := a) (ox := oe) C.hg C.hk C.hs C.hd C.ha C.hn C.ht C.hm
      rcases h with ⟨cv, hcv, e⟩ | ⟨tp, cs, rfl, hT, e⟩
      · have ec := hcv _ rt
        subst ec
        exact PySem.W.kia_one kx I.kIn J e (fun z => nomatch z) fun tk => ⟨.bl b, H, I.kept (t' := tk) fun _ _ z => z, rfl, q⟩
      · obtain ⟨its, rv, ⟨o, e1, e2, nn, e3⟩, _⟩ := I.tuple hT
        have ei := vals_refs rv
        subst ei
        cases rt
        obtain ⟨oc, od, oda, osl⟩ := o
        dsimp only at e2 e3
        subst e2 e3
        exact PySem.W.kia_tup kx I.kIn J e1 e (fun z => nomatch z) fun tk => ⟨.bl b, H, I.kept (t' := tk) fun _ _ z => z, rfl, q⟩
/-! ### an own exception without arguments, made -/
theorem pmk_none {X : Cx} {C : Addr} {bmB : List Value} {B newId initId : String} {x : Str} {p po : Pos} (F : ExcBaseFacts B newId initId bmB) (q : PySem.W.excIn X.K C bmB newId = true) (gC : X.mg x = some (.ref C)) (kC : PySem.W.keepIn X.K (.ref C) = true) (r : Raises X (.ref C)) (hg : Gl X x)
    (hdb : (x == ("__debug__" : Str)) = false := by decide) : PMk X (.Call (.Name x p) [] [] po) (fun _ H Q => Q (.ref C) none H) := by
  intro pins s σ H Q I h
  refine wpAny_Call_Name_kw (ld_glob I hg gC ?_ hdb)
  refine PySem.W.callWith_K0 I.kIn kC ?_
  show wpAny _ _ (call (.ref C) []) _ _ _
  obtain ⟨bm, N, nm, qn, bs, hdct, sn, sub, ab, col, dd, k0, k1, k2, k3, k5, mN, hC, hN, hni, T⟩ := exc_obj I.kIn q
  refine wpAny_call_exc_subT F T hC hN hni (fun h' e hm => ?_) (by show 0 ≤ sizeLine; omega)
  exact mk_of I hm r h (I.hok.gone hm.new)
/-! ### what the top tells of the class NoEvents, at C, and of the classes beside it -/
structure NoEv (K : PySem.W.Frag) (mg : Str → Option Value) (C : Addr) : Prop where
  gC : mg "NoEvents" = some (.ref C)
  kC : PySem.W.keepIn K (.ref C) = true
  xi : PySem.W.excIn K C [.type "ValueError", .type "Exception", .type "BaseException", .type "object"] "ValueError.__new__" = true
  ex : ExcC K C
  ty : PySem.W.typeIn K (.ref C) = some (.type "type")
  sf : PySem.W.subIn K (.ref C) (.ref C) = some true
structure NoEvB (K : PySem.W.Frag) (mg : Str → Option Value) (C L N R E I : Addr) : Prop where
  gL : mg "LeapfitError" = some (.ref L)
  gN : mg "InvalidNumber" = some (.ref N)
  gR : mg "InvalidRule" = some (.ref R)
  gE : mg "NoRule" = some (.ref E)
  gI : mg "InvalidCounts" = some (.ref I)
  bV : mg "ValueError" = none
  oL : PySem.W.kitOne K (.ref C) (.ref L) = some true
  oV : PySem.W.kitOne K (.ref C) (.type "ValueError") = some true
  oN : PySem.W.kitAny K (.ref C) [.ref N, .ref R, .ref E, .ref I] = some false
theorem NoEv.raises {X : Cx} {C : Addr} (T : NoEv X.K X.mg C) : Raises X (.ref C) := raises_own T.ex.hs T.ty
theorem NoEv.meets {K : PySem.W.Frag} {mg : Str → Option Value} {C : Addr} (T : NoEv K mg C) : PySem.W.exmOne K (.ref C) (.ref C) = some true := PySem.W.exm_ref T.ex.hs T.ex.hd T.ty T.sf
/-- a def that raises, by its name -/
def CalX (P : Program) (w : World) (K : PySem.W.Frag) (mg : Str → Option Value) (base : Heap) (k : Nat) (x : Str) (sp : Sp) : Prop :=
  ∃ f fd ps, FnOk P w K mg base (L2.CX P w) k f fd ps sp ∧ mg x = some (.ref f) ∧ PySem.W.keepIn K (.ref f) = true ∧ Binds K fd ps []
theorem calx_of {P : Program} {w : World} {K : PySem.W.Frag} {mg : Str → Option Value} {base : Heap} {x : Str} {st : Stmt} {N ps : List Str} {k : Nat} {sp : Sp} (D : Df K mg x st ps) (S : FnScope N ps (defScope st)) (len : ∀ vs H Q E, sp vs H Q E → vs.length = ps.length)
    (hb : ∀ (f : Addr) (cdv : Value) (A : Around) (outer : List Env) (s : Shared) (H : Hp) (vs : List V) (Q : VK) (E : XK), Room k (A.deeper (envOfC x (defScope st) s.heap.objs.size f cdv)) → sp vs H Q E →
      ∃ t, PSs (cxOf (L2.CX P w) P w K mg base N x (defScope st) f cdv A outer s H E) (defBody st) t ∧ t { nx := fun _ H' => Q .non H', rt := Q } (start N vs) H) : CalX P w K mg base (k + 1) x sp := by
  obtain ⟨f, fd, F, hm, b⟩ := D
  exact ⟨f, fd, ps, F.okX S len (fun cdv A outer s H vs Q E hr h => hb f cdv A outer s H vs Q E hr h), hm, F.kp, b⟩
section
variable {X : Cx} {x : Str} {sp : Sp} {W : WX} {j k : Nat} {e : Expr} {es : List Expr} {t : TA} {p po : Pos}
/-- it is called where what it raises is taken -/
theorem pe_cx (c : CalX X.prog X.w X.K X.mg X.base k x sp) (hr : Room j X.A) (hk : k ≤ j) (tk : Takes X W) (hg : Gl X x) (ha : L2.PA X (e :: es) t)
    (hdb : (x == ("__debug__" : Str)) = false := by decide) (he : starEach (e :: es) X.env = (false, eval e X.env) :: starEach es X.env := by rfl) (hpl : (backTo po (starEach es X.env)).any (·.1) = false := by rfl) :
    PE X (.Call (.Name x p) (e :: es) [] po) (tCallS sp (WE W) t) := by
  obtain ⟨f, fd, ps, F, hm, kp, b⟩ := c
  exact pe_callS F (hr.mono hk) hg hm kp b (fun σ => passAt tk σ) ha hdb he hpl
end
end Lf
namespace Lf
open PySem PySem.Spec PyProof.Rows L2
/-! ### a def called where no repr is under way -/
structure FnG (P : Program) (w : World) (K : PySem.W.Frag) (mg : Str → Option Value) (base : Heap) (k : Nat) (f : Addr) (fd : FuncData) (ps : List Str) (sp : Sp) : Prop where
  lenG : ∀ vs H Q E, sp vs H Q E → vs.length = ps.length
  runG : ∀ (A : Around) (out : List Env) (sh : Shared) (H : Hp) (ar : Args) (us : List Value) (vs : List V) (Q : VK) (E : XK), Room k A → A.guards = some [] → Env0 P w K mg base A out sh H → BindsTo sh fd ar (ps.zip us) → Vals vs us → sp vs H Q E →
    codeAny (model P w) A (.call (.ref f) ar) (CR CX0 out P w H sh Q E) sh
theorem fnG_of {P : Program} {w : World} {K : PySem.W.Frag} {mg : Str → Option Value} {base : Heap} {x qual : Str} {st : Stmt} {f : Addr} {fd : FuncData} {N ps : List Str} {k : Nat} {sp : Sp} (F : Fun K x qual st f fd) (S : FnScope N ps (defScope st)) (ln : ∀ vs H Q E, sp vs H Q E → vs.length = ps.length)
    (bd : ∀ (cdv : Value) (A : Around) (out : List Env) (sh : Shared) (H : Hp) (vs : List V) (Q : VK) (E : XK), Room k (A.deeper (envOfC qual (defScope st) sh.heap.objs.size f cdv)) → A.guards = some [] → sp vs H Q E →
      ∃ t, PSs (cxOf CX0 P w K mg base N qual (defScope st) f cdv A out sh H E).nox (defBody st) t ∧ t { nx := fun _ H' => Q .non H', rt := Q } (start N vs) H) : FnG P w K mg base (k + 1) f fd ps sp := by
  obtain ⟨oc, od, kV, doc, pm, an, cdv, ct, osl, rfl, lkp, cin⟩ := F.ex
  refine ⟨ln, fun A out sh H ar us vs Q E rm gd en bnd rel pr => ?_⟩
  have lv := ln _ _ _ _ pr
  have inK : K.In sh.heap := en.mod.kin.keeps fun b o e => (en.bs b o e).1
  have nol : sh.heap.NoLimit := en.mod.nolimit.keeps fun b o e => (en.bs b o e).1
  have knd : ∀ y ∈ ps.zip us, (defScope st).names.lookup y.1 = some .local ∨ ((defScope st).names.lookup y.1 = some .cell ∧ ((cellsFrom (sh.heap.objs.size + 1) (defScope st).names []).lookup y.1).isSome = true) := fun ⟨n, v⟩ hy => by
    rcases S.par n (List.of_mem_zip hy).1 with z | z
    · exact .inl z
    · exact .inr ⟨z, PySem.W.cellsFrom_some _ _ _ (.inl z)⟩
  refine codeAny_call_function rm.depth (inK _ _ lkp) rfl S.co S.gen rfl (PySem.W.codeRec_of inK cin) (bnd _ _ _ _ ?_)
  refine wpAny_newFunctionEnv_cells S.kind knd fun env he sh1 x1 => ?_
  subst he
  refine ⟨nol.keeps x1.toInCall.keep, codeAny_func ?_⟩
  obtain ⟨t, ht, hq⟩ := bd cdv A out sh H vs Q E (rm.deeper _) gd pr
  have inv := inv_start (CX := CX0) (P := P) (w := w) (K := K) (mg := mg) (base := base) (E := E) (f := f) (cd := cdv) (qual := qual) S rm.hd en lv rel x1
  refine wpAny_mono (ht.nox.run [] sh1 (start N vs) H _ inv hq) (fun fl sh' hs => ?_) fun e sh' hs => hs
  cases fl with
  | ret u =>
    obtain ⟨v, σ', H', J, rv, z⟩ := hs
    exact ⟨v, H', J.os, J.bare, J.base, J.hok, rv, z⟩
  | next =>
    obtain ⟨σ', H', J, z⟩ := hs
    exact ⟨V.non, H', J.os, J.bare, J.base, J.hok, rfl, z⟩
  | brk =>
    obtain ⟨_, _, _, z⟩ := hs
    exact False.elim z
  | cont =>
    obtain ⟨_, _, _, z⟩ := hs
    exact False.elim z
/-- the law called, at the heap behind the top -/
theorem lawG {P : Program} {w : World} {K : PySem.W.Frag} {mg mb : Str → Option Value} {k : Nat} {fa ad : Addr} {fd : FuncData} {x : Str} {sp : Sp} {sh : Shared} {vs : List Value} {ns : List Int}
    (inK : K.In sh.heap) (nsm : sh.heap.Ns mainGlobals mg) (nsb : sh.heap.Ns builtinsNs mb) (bb : ∀ x : Str, x ≠ "__name__" → mb x = bootBuiltins x) (nol : sh.heap.NoLimit) (gn : sh.gens = #[])
    (ga : sh.heap.get? ad = some { cls := .type "list", data := .seq vs.toArray }) (isI : IntsAre vs ns) (len : ns.length ≤ sizeLine) (rm : Room k callerA)
    (F : ∀ base : Heap, K.In base → base.Ns mainGlobals mg → FnG P w K mg base k fa fd [x] sp) (bnd : ∀ (s : Shared) (u : Value), BindsTo s fd ⟨[u], []⟩ [(x, u)])
    (pr : ∀ H : Hp, SqL K H ad (ns.map V.int) → sp [.ref ad] H (fun v _ => v = .bl true) fun _ _ _ => False) :
    codeAny (model P w) callerA (.call (.ref fa) ⟨[.ref ad], []⟩) (fun r sh' => r = .ok (.ret (.bool true)) ∧ OldK sh.heap sh'.heap ∧ sh'.os = sh.os ∧ AllBare sh'.gens) sh := by
  have rel := vals_ints isI
  have lnv := isI.length
  have main : ∀ H : Hp, Only H → SqL K H ad (ns.map V.int) → HOk P w H sh.heap → (∀ b, H b ≠ none → b = ad) → (H ad ≠ none → K.lookup ad = none) →
      codeAny (model P w) callerA (.call (.ref fa) ⟨[.ref ad], []⟩) (fun r sh' => r = .ok (.ret (.bool true)) ∧ OldK sh.heap sh'.heap ∧ sh'.os = sh.os ∧ AllBare sh'.gens) sh := by
    intro H only seq hok one nk
    have lay : ∀ {b : Addr} {o : Obj}, sh.heap.get? b = some o → H b = none → (hidT sh.heap H).get? b = some o := fun e n => hidT_get e n
    have nod : ∀ {b : Addr} {o : Obj} {es : Array DictEntry} {ep : Nat}, sh.heap.get? b = some o → o.data = .dict es ep → H b = none := fun {b o es ep} e d => by
      cases z : H b with
      | none => rfl
      | some u =>
        have eb : b = ad := one b (by rw [z]; simp)
        subst eb
        rw [ga] at e
        cases e
        exact (nomatch (show Data.seq vs.toArray _ = Data.dict es ep from d))
    have nsL : ∀ {b : Addr} {m : Str → Option Value}, sh.heap.Ns b m → (hidT sh.heap H).Ns b m := fun {b m} ⟨o, es, ep, e, d, r⟩ => ⟨o, es, ep, lay e (nod e d), d, r⟩
    have inB : K.In (hidT sh.heap H) := fun b o e => lay (inK b o e) (by
      cases z : H b with
      | none => rfl
      | some u =>
        have eb : b = ad := one b (by rw [z]; simp)
        subst eb
        rw [nk (by rw [z]; simp)] at e
        cases e)
    have md : Mod K mg (hidT sh.heap H) := ⟨inB, nsL nsm, ⟨mb, nsL nsb, bb⟩, let ⟨mc, h1, h2⟩ := nol; ⟨mc, nsL h1, h2⟩⟩
    have en : Env0 P w K mg (hidT sh.heap H) callerA [] sh H := ⟨rfl, md, fun b o e => of_hidT e, Nat.le_of_eq (hidT_size _ _), trivial, fun b hb => absurd (show b ∈ ([] : List Addr) from hb) (by simp), hok, .of_eq gn⟩
    refine codeAny_mono ((F _ inB (nsL nsm)).runG callerA [] sh H ⟨[.ref ad], []⟩ [.ref ad] [.ref ad] _ _ rm rfl en (bnd sh (.ref ad)) (.cons rfl .nil) (pr H seq)) fun r sh' h => ?_
    match r, h with
    | .error e, h => exact (show False from h).elim
    | .ok .next, h => exact False.elim h
    | .ok .brk, h => exact False.elim h
    | .ok .cont, h => exact False.elim h
    | .ok (.ret u), h =>
      obtain ⟨v, H', os, bare, un, hok', rv, z⟩ := h
      have z' : v = .bl true := z
      subst z'
      have eu : u = Value.bool true := rv
      subst eu
      refine ⟨rfl, OldK.of_keep (fun b o e => ?_), os, bare⟩
      cases zb : H b with
      | none => exact un.keep b o e zb (fun z => absurd (show b ∈ ([] : List Addr) from z) (by simp)) (by simp)
      | some u =>
        rcases only b with z | ⟨ob, xs, z⟩
        · rw [zb] at z
          cases z
        · have e1 := (hok b _ z).1
          have e2 := (hok' b _ (un.frzs b ob _ z)).1
          rw [e] at e1
          cases e1
          exact e2
  cases hk : K.lookup ad with
  | some o =>
    have e := inK ad o hk
    rw [ga] at e
    cases e
    exact main (fun _ => none) (fun _ => .inl rfl) (.inr ⟨_, vs.toArray, _, hk, rfl, rfl, rfl, by rw [List.size_toArray, lnv]; exact len, by simpa using rel⟩) (fun b u z => nomatch (show (none : Option HO) = some u from z)) (fun b z => absurd rfl z) (fun z => absurd rfl z)
  | none =>
    refine main (fun b => if b = ad then some (.frz { cls := .type "list", data := .seq vs.toArray } (.lst (ns.map V.int))) else none) (fun b => ?_) (.inl (.inr ⟨{ cls := .type "list", data := .seq vs.toArray }, if_pos rfl⟩)) (fun b u z => ?_) (fun b z => ?_) (fun _ => hk)
    · by_cases eb : b = ad
      · exact .inr ⟨_, _, if_pos eb⟩
      · exact .inl (if_neg eb)
    · by_cases eb : b = ad
      · subst eb
        have z' := (if_pos rfl).symm.trans z
        cases z'
        exact ⟨ga, by rw [List.length_map]; exact len, vs, _, rel, ga⟩
      · exact (nomatch (if_neg eb).symm.trans z)
    · by_cases eb : b = ad
      · exact eb
      · exact absurd (if_neg eb) z
theorem walkG {l : PySem.W.OpenLaw} {n k : Nat} {q : Program} {loose : List Str} {XP : (Str → Option Value) → Heap → Prop} {YP : World → Heap → Prop} {d : DefRec} {K : Params → PySem.W.Frag} {sp : World → Sp} {x : Str}
    (most : l.most = some n) (nsz : n ≤ sizeLine) (nodf : d.params.defaults = []) (rm : Room k callerA) (inY : ∀ (w : World) (h : Heap), YP w h → (K w.params).In h)
    (F : ∀ (w : World) (mg : Str → Option Value) (fa : Addr) (h : Heap), (K w.params).In h → h.Ns mainGlobals mg → mg d.name = some (.ref fa) → ∃ fd : FuncData, (∀ (s : Shared) (u : Value), BindsTo s fd ⟨[u], []⟩ [(x, u)]) ∧ ∀ base : Heap, (K w.params).In base → base.Ns mainGlobals mg → FnG l.prog w (K w.params) mg base k fa fd [x] (sp w))
    (pr : ∀ (w : World) (H : Hp) (a : Addr) (ns : List Int), ns.length ≤ n → SqL (K w.params) H a (ns.map V.int) → sp w [.ref a] H (fun v _ => v = .bl true) fun _ _ _ => False) : PySem.W.WalkO q loose XP YP l.row.toRowW d [] (fun f vs => PySem.call f vs) := by
  refine Att.attach_call most nodf fun w s₀ sh mg mb fa o pm cd doc a vs ns G Y ho hd hcd hmg hobj hints hlen hg => ?_
  have inK := inY w _ Y
  obtain ⟨fd, hb, hF⟩ := F w mg fa _ inK G.T.g hmg
  exact lawG inK G.T.g G.T.b G.T.builtins G.T.nolimit hg hobj hints (Nat.le_trans hlen nsz) rm hF hb (fun H hS => pr w H a ns hlen hS)
/-! ### repr of data -/
theorem repr_data {X : Cx} (gd : X.A.guards = some []) (hu : X.A.units + 70 < cLine) : CallR X (.builtin "repr") (fun xs H Q => ∃ (a : Addr) (d : PyData), xs = [.ref a] ∧ Dp X.K H (.ref a) d ∧ d.showable = true ∧ d.hasDict = false ∧ d.depth ≤ 60 ∧ d.shown.length ≤ sizeLine ∧ Q (.str d.shown) H) := by
  intro pins s σ H xs us Q I rel h
  obtain ⟨a, d, rfl, dp, sw, nd, dd, sz, hq⟩ := h
  obtain ⟨u, hu1, ru⟩ := vals1 rel
  subst hu1
  obtain ⟨as, rd⟩ := Dp.reads I d (.ref a) u dp ru
  have eu : u = Value.ref a := ru
  subst eu
  refine repr_of_reads' rd sw (fun z => by rw [nd] at z; cases z) gd (by omega) (fun _ _ e => e) (fun h' u tk hk => ?_) sz
  exact ⟨.str d.shown, H, I.kept hk, ⟨u, rfl⟩, hq⟩
theorem show_fits (ds : List Int) (hb : ∀ z ∈ ds, Bd 1900 z) (hl : ds.length ≤ 100) : (PyData.tuple (ds.map PyData.int)).showable = true ∧ (PyData.tuple (ds.map PyData.int)).hasDict = false ∧ (PyData.tuple (ds.map PyData.int)).depth ≤ 60 ∧ (PyData.tuple (ds.map PyData.int)).shown.length ≤ sizeLine := by
  have lg : ∀ z ∈ ds, z.natAbs.log2 < 1920 := fun z hz => ((hb z hz).mono (show 1900 ≤ 1920 by decide)).log (by decide)
  have key : ∀ l : List Int, (∀ z ∈ l, z.natAbs.log2 < 1920) → PyData.showableAll (l.map PyData.int) = true ∧ PyData.hasDictAll (l.map PyData.int) = false ∧ PyData.depthAll (l.map PyData.int) = 0 ∧ ((PyData.shownAll (l.map PyData.int)).map (·.length)).sum ≤ 1921 * l.length ∧ (PyData.shownAll (l.map PyData.int)).length = l.length := by
    intro l
    induction l with
    | nil => intro _; exact ⟨rfl, rfl, rfl, by simp [PyData.shownAll], rfl⟩
    | cons z r ih =>
      intro h
      obtain ⟨i1, i2, i3, i4, i5⟩ := ih fun y hy => h y (List.mem_cons_of_mem _ hy)
      have hz := h z (List.mem_cons_self ..)
      refine ⟨?_, ?_, ?_, ?_, ?_⟩
      · simp [PyData.showableAll, PyData.showable, hz, i1]
      · simp [PyData.hasDictAll, PyData.hasDict, i2]
      · simp [PyData.depthAll, PyData.depth, i3]
      · have := PyProof.Rows.int_text_len_1921 hz
        simp only [List.map_cons, PyData.shownAll, PyData.shown, List.sum_cons, List.length_cons]
        omega
      · simp [PyData.shownAll, i5]
  obtain ⟨k1, k2, k3, k4, k5⟩ := key ds lg
  refine ⟨by simpa [PyData.showable] using k1, by simpa [PyData.hasDict] using k2, by simp [PyData.depth, k3], ?_⟩
  have := tupleText_len_le (PyData.shownAll (ds.map PyData.int))
  rw [k5] at this
  show (tupleText (PyData.shownAll (ds.map PyData.int))).length ≤ sizeLine
  rw [sizeLine_eq]
  omega
theorem dpAll_ints {K : PySem.W.Frag} {H : Hp} : ∀ ds : List Int, DpAll K H (ds.map V.int) (ds.map PyData.int)
  | [] => .nil
  | c :: r => .cons (.int c) (dpAll_ints r)
/-- repr of a tuple of ints -/
theorem rp_ints {K : PySem.W.Frag} {H : Hp} {a : Addr} {Q : VK} (ds : List Int) (e : H a = some (.tup (ds.map V.int))) (hb : ∀ z ∈ ds, Bd 1900 z) (hl : ds.length ≤ 100) (h : Q (.str (PyData.tuple (ds.map PyData.int)).shown) H) :
    ∃ (a' : Addr) (d : PyData), [V.ref a] = [.ref a'] ∧ Dp K H (.ref a') d ∧ d.showable = true ∧ d.hasDict = false ∧ d.depth ≤ 60 ∧ d.shown.length ≤ sizeLine ∧ Q (.str d.shown) H := by
  obtain ⟨f1, f2, f3, f4⟩ := show_fits ds hb hl
  exact ⟨a, _, rfl, Dp.tup (SqT.of e) (dpAll_ints ds), f1, f2, f3, f4, h⟩
end Lf
namespace Lf
open PySem PySem.Spec PyProof.Rows L2
/-! ### guards and a table of code objects together -/
theorem lawGT {P : Program} {w : World} {K : PySem.W.Frag} {mg mb : Str → Option Value} {k : Nat} {fa ad cT PT : Addr} {fd : FuncData} {x : Str} {sp : Sp} {sh : Shared} {vs : List Value} {ns : List Int}
    (inK : K.In sh.heap) (nsm : sh.heap.Ns mainGlobals mg) (nsb : sh.heap.Ns builtinsNs mb) (bb : ∀ x : Str, x ≠ "__name__" → mb x = bootBuiltins x) (nol : sh.heap.NoLimit) (gn : sh.gens = #[])
    (tP : sh.heap.get? PT = some { cls := .none, data := .fields #[] }) (nP : K.lookup PT = none) (hC : PySem.W.CodeHd sh.heap cT PT)
    (bM : ∃ (bm : Addr) (ob : Obj), mg "__builtins__" = some (.ref bm) ∧ bm ≠ builtinsNs ∧ sh.heap.get? bm = some ob ∧ ob.cls = .type "module" ∧ ob.dict = some builtinsNs ∧ ob.data = .plain)
    (ga : sh.heap.get? ad = some { cls := .type "list", data := .seq vs.toArray }) (isI : IntsAre vs ns) (len : ns.length ≤ sizeLine) (rm : Room k callerA)
    (F : ∀ base : Heap, K.In base → base.Ns mainGlobals mg → LamX.TabB base mg cT PT → FnG P w K mg base k fa fd [x] sp) (bnd : ∀ (s : Shared) (u : Value), BindsTo s fd ⟨[u], []⟩ [(x, u)])
    (pr : ∀ H : Hp, H PT = some (.tbl #[]) → SqL K H ad (ns.map V.int) → sp [.ref ad] H (fun v _ => v = .bl true) fun _ _ _ => False) :
    codeAny (model P w) callerA (.call (.ref fa) ⟨[.ref ad], []⟩) (fun r sh' => r = .ok (.ret (.bool true)) ∧ OldK sh.heap sh'.heap ∧ sh'.os = sh.os ∧ AllBare sh'.gens) sh := by
  have rel := vals_ints isI
  have lnv := isI.length
  have nab : ¬ ad = PT := fun z => by
    rw [z, tP] at ga
    cases ga
  have main : ∀ H : Hp, H PT = some (.tbl #[]) → (∀ b, H b = none ∨ b = PT ∨ ∃ o xs, H b = some (.frz o (.lst xs))) → SqL K H ad (ns.map V.int) → HOk P w H sh.heap → (∀ b, H b ≠ none → b = ad ∨ b = PT) → (H ad ≠ none → K.lookup ad = none) →
      codeAny (model P w) callerA (.call (.ref fa) ⟨[.ref ad], []⟩) (fun r sh' => r = .ok (.ret (.bool true)) ∧ OldK sh.heap sh'.heap ∧ sh'.os = sh.os ∧ AllBare sh'.gens) sh := by
    intro H hT only seq hok one nk
    have lay : ∀ {b : Addr} {o : Obj}, sh.heap.get? b = some o → H b = none → (hidT sh.heap H).get? b = some o := fun e n => hidT_get e n
    -- what is no list and no empty record is not tracked
    have off : ∀ {b : Addr} {o : Obj}, sh.heap.get? b = some o → (∀ zs m, o.data ≠ .seq zs m) → o.data ≠ .fields #[] → H b = none := fun {b o} e n1 n2 => by
      cases z : H b with
      | none => rfl
      | some u =>
        rcases one b (by rw [z]; simp) with eb | eb
        · rw [eb, ga] at e
          cases e
          exact absurd rfl (n1 _ _)
        · rw [eb, tP] at e
          cases e
          exact absurd rfl n2
    have nsL : ∀ {b : Addr} {m : Str → Option Value}, sh.heap.Ns b m → (hidT sh.heap H).Ns b m := fun {b m} ⟨o, es, ep, e, d, r⟩ =>
      ⟨o, es, ep, lay e (off e (fun zs m z => by rw [d] at z; cases z) (fun z => by rw [d] at z; cases z)), d, r⟩
    have inB : K.In (hidT sh.heap H) := fun b o e => lay (inK b o e) (by
      cases z : H b with
      | none => rfl
      | some u =>
        rcases one b (by rw [z]; simp) with eb | eb
        · subst eb
          rw [nk (by rw [z]; simp)] at e
          cases e
        · rw [eb, nP] at e
          cases e)
    have md : Mod K mg (hidT sh.heap H) := ⟨inB, nsL nsm, ⟨mb, nsL nsb, bb⟩, let ⟨mc, h1, h2⟩ := nol; ⟨mc, nsL h1, h2⟩⟩
    have gP : ¬ mainGlobals = PT := fun z => by
      obtain ⟨o, es, ep, e, d, _⟩ := nsm
      rw [z, tP] at e
      cases e
      cases d
    have tb : LamX.TabB (hidT sh.heap H) mg cT PT := by
      refine ⟨?_, ?_, gP⟩
      · obtain ⟨o, us, fi, tf, fl, tg, iF, tx, tt, e1, r1, r2, r3, rr⟩ := hC
        refine ⟨o, us, fi, tf, fl, tg, iF, tx, tt, lay e1 (off e1 (fun zs m z => by rw [r2] at z; cases z) (fun z => ?_)), r1, r2, r3, rr⟩
        rw [r2] at z
        cases z
        simp at r3
      · obtain ⟨bm, ob, b1, b2, b3, b4, b5, b6⟩ := bM
        refine ⟨bm, ob, b1, b2, fun z => ?_, fun z => ?_, lay b3 (off b3 (fun zs m z => by rw [b6] at z; cases z) (fun z => by rw [b6] at z; cases z)), b4, b5, b6⟩
        · obtain ⟨o, es, ep, e, d, _⟩ := nsm
          rw [z, e] at b3
          cases b3
          rw [d] at b6
          cases b6
        · rw [z, tP] at b3
          cases b3
          cases b6
    have en : Env0 P w K mg (hidT sh.heap H) callerA [] sh H := ⟨rfl, md, fun b o e => of_hidT e, Nat.le_of_eq (hidT_size _ _), trivial, fun b hb => absurd (show b ∈ ([] : List Addr) from hb) (by simp), hok, .of_eq gn⟩
    refine codeAny_mono ((F _ inB (nsL nsm) tb).runG callerA [] sh H ⟨[.ref ad], []⟩ [.ref ad] [.ref ad] _ _ rm rfl en (bnd sh (.ref ad)) (.cons rfl .nil) (pr H hT seq)) fun r sh' h => ?_
    match r, h with
    | .error e, h => exact (show False from h).elim
    | .ok .next, h => exact False.elim h
    | .ok .brk, h => exact False.elim h
    | .ok .cont, h => exact False.elim h
    | .ok (.ret u), h =>
      obtain ⟨v, H', os, bare, un, hok', rv, z⟩ := h
      have z' : v = .bl true := z
      subst z'
      have eu : u = Value.bool true := rv
      subst eu
      have old : ∀ b o, ¬ b = PT → sh.heap.get? b = some o → sh'.heap.get? b = some o := fun b o nb e => by
        cases zb : H b with
        | none => exact un.keep b o e zb (fun z => absurd (show b ∈ ([] : List Addr) from z) (by simp)) (by simp)
        | some u =>
          rcases only b with z | z | ⟨ob, xs, z⟩
          · rw [zb] at z
            cases z
          · exact absurd z nb
          · have e1 := (hok b _ z).1
            have e2 := (hok' b _ (un.frzs b ob _ z)).1
            rw [e] at e1
            cases e1
            exact e2
      obtain ⟨more, zm⟩ := un.tbls PT #[] hT
      have grown : sh'.heap.get? PT = some { cls := .none, data := .fields (#[] ++ more) } := hok' PT _ zm
      refine ⟨rfl, ⟨fun b o e => ?_, fun b o e => ?_⟩, os, bare⟩
      · by_cases hb : b = PT
        · rw [hb] at e ⊢
          rw [tP] at e
          cases e
          exact .inr (.inl ⟨(hC.tab tP).isCodeTable, rfl, #[], more, rfl, grown⟩)
        · exact .inl (old b o hb e)
      · by_cases hb : b = PT
        · rw [hb]
          exact ⟨_, grown⟩
        · exact ⟨o, old b o hb e⟩
  cases hk : K.lookup ad with
  | some o =>
    have e := inK ad o hk
    rw [ga] at e
    cases e
    refine main (fun b => if b = PT then some (.tbl #[]) else none) (if_pos rfl) (fun b => ?_) (.inr ⟨_, vs.toArray, _, hk, rfl, rfl, rfl, by rw [List.size_toArray, lnv]; exact len, by simpa using rel⟩) (fun b u z => ?_) (fun b z => ?_) (fun z => absurd (if_neg nab) z)
    · by_cases hb : b = PT
      · exact .inr (.inl hb)
      · exact .inl (if_neg hb)
    · by_cases hb : b = PT
      · rw [hb] at z ⊢
        have z' := (if_pos rfl).symm.trans z
        cases z'
        exact tP
      · exact (nomatch (if_neg hb).symm.trans z)
    · by_cases hb : b = PT
      · exact .inr hb
      · exact absurd (if_neg hb) z
  | none =>
    refine main (fun b => if b = ad then some (.frz { cls := .type "list", data := .seq vs.toArray } (.lst (ns.map V.int))) else if b = PT then some (.tbl #[]) else none) ((if_neg (fun z => nab z.symm)).trans (if_pos rfl)) (fun b => ?_) (.inl (.inr ⟨{ cls := .type "list", data := .seq vs.toArray }, if_pos rfl⟩)) (fun b u z => ?_) (fun b z => ?_) (fun _ => hk)
    · by_cases eb : b = ad
      · exact .inr (.inr ⟨_, _, if_pos eb⟩)
      · by_cases hb : b = PT
        · exact .inr (.inl hb)
        · exact .inl ((if_neg eb).trans (if_neg hb))
    · by_cases eb : b = ad
      · subst eb
        have z' := (if_pos rfl).symm.trans z
        cases z'
        exact ⟨ga, by rw [List.length_map]; exact len, vs, _, rel, ga⟩
      · have z1 := (if_neg eb).symm.trans z
        by_cases hb : b = PT
        · rw [hb] at z1 ⊢
          have z' := (if_pos rfl).symm.trans z1
          cases z'
          exact tP
        · exact (nomatch (if_neg hb).symm.trans z1)
    · by_cases eb : b = ad
      · exact .inl eb
      · by_cases hb : b = PT
        · exact .inr hb
        · exact absurd ((if_neg eb).trans (if_neg hb)) z
/-- what the head tells of the law, of the table PT of the code object cT -/
structure LawGT (l : PySem.W.OpenLaw) (w : World) (K : PySem.W.Frag) (k : Nat) (x : Str) (mg : Str → Option Value) (fa : Addr) (h : Heap) : Prop where
  ex : ∃ (fd : FuncData) (cT PT : Addr) (sp : Sp), h.get? PT = some { cls := .none, data := .fields #[] } ∧ K.lookup PT = none ∧ PySem.W.CodeHd h cT PT ∧ (∀ (s : Shared) (u : Value), BindsTo s fd ⟨[u], []⟩ [(x, u)]) ∧
    (∀ (H : Hp) (a : Addr) (ns : List Int), ns.length ≤ 63 → H PT = some (.tbl #[]) → SqL K H a (ns.map V.int) → sp [.ref a] H (fun v _ => v = .bl true) fun _ _ _ => False) ∧
    ∀ base : Heap, K.In base → base.Ns mainGlobals mg → LamX.TabB base mg cT PT → FnG l.prog w K mg base k fa fd [x] sp
theorem walkGT {l : PySem.W.OpenLaw} {k : Nat} {q : Program} {loose : List Str} {XP : (Str → Option Value) → Heap → Prop} {YP : World → Heap → Prop} {d : DefRec} {K : Params → PySem.W.Frag} {x : Str}
    (most : l.most = some 63) (nodf : d.params.defaults = []) (rm : Room k callerA) (inY : ∀ (w : World) (h : Heap), YP w h → (K w.params).In h)
    (F : ∀ (w : World) (mg : Str → Option Value) (fa : Addr) (h : Heap), YP w h → (K w.params).In h → h.Ns mainGlobals mg → mg d.name = some (.ref fa) → LawGT l w (K w.params) k x mg fa h) : PySem.W.WalkO q loose XP YP l.row.toRowW d [] (fun f vs => PySem.call f vs) := by
  refine Att.attach_call most nodf fun w s₀ sh mg mb fa o pm cd doc a vs ns G Y ho hd hcd hmg hobj hints hlen hg => ?_
  have inK := inY w _ Y
  obtain ⟨fd, cT, PT, sp, tP, nP, hC, hb, hp, hF⟩ := (F w mg fa _ Y inK G.T.g hmg).ex
  exact lawGT inK G.T.g G.T.b G.T.builtins G.T.nolimit hg tP nP hC G.T.bmain hobj hints (Nat.le_trans hlen (by decide)) rm hF hb (fun H hH hS => hp H a ns hlen hH hS)
/-! ### a def by its row, called where no repr is under way -/
theorem fnG_lk {P : Program} {w : World} {K : PySem.W.Frag} {mg : Str → Option Value} {base : Heap} {x : Str} {st : Stmt} {f : Addr} {N ps : List Str} {k : Nat} {sp : Sp} {oc kV doc pm cdv ct : Value} {od an : Option Addr} {osl : Array (Option Value)}
    (lkp : K.lookup f = some ⟨oc, od, .func (PySem.W.fnOf x x (defArgs st) (defBody st) (defScope st) .none kV doc pm an cdv ct), osl⟩) (cin : PySem.W.codeIn K cdv x = true) (S : FnScope N ps (defScope st)) (ln : ∀ vs H Q E, sp vs H Q E → vs.length = ps.length)
    (bd : ∀ (A : Around) (out : List Env) (sh : Shared) (H : Hp) (vs : List V) (Q : VK) (E : XK), Room k (A.deeper (envOfC x (defScope st) sh.heap.objs.size f cdv)) → A.guards = some [] → sp vs H Q E →
      ∃ t, PSs (cxOf CX0 P w K mg base N x (defScope st) f cdv A out sh H E).nox (defBody st) t ∧ t { nx := fun _ H' => Q .non H', rt := Q } (start N vs) H) : FnG P w K mg base (k + 1) f (PySem.W.fnOf x x (defArgs st) (defBody st) (defScope st) .none kV doc pm an cdv ct) ps sp := by
  refine ⟨ln, fun A out sh H ar us vs Q E rm gd en bnd rel pr => ?_⟩
  have lv := ln _ _ _ _ pr
  have kIn : K.In sh.heap := en.mod.kin.keeps fun b o e => (en.bs b o e).1
  have nol : sh.heap.NoLimit := en.mod.nolimit.keeps fun b o e => (en.bs b o e).1
  have knd : ∀ y ∈ ps.zip us, (defScope st).names.lookup y.1 = some .local ∨ ((defScope st).names.lookup y.1 = some .cell ∧ ((cellsFrom (sh.heap.objs.size + 1) (defScope st).names []).lookup y.1).isSome = true) := fun ⟨n, v⟩ hy => by
    rcases S.par n (List.of_mem_zip hy).1 with z | z
    · exact .inl z
    · exact .inr ⟨z, PySem.W.cellsFrom_some _ _ _ (.inl z)⟩
  refine codeAny_call_function rm.depth (kIn _ _ lkp) rfl S.co S.gen rfl (PySem.W.codeRec_of kIn cin) (bnd _ _ _ _ ?_)
  refine wpAny_newFunctionEnv_cells S.kind knd fun env he sh1 x1 => ?_
  subst he
  refine ⟨nol.keeps x1.toInCall.keep, codeAny_func ?_⟩
  obtain ⟨t, ht, hq⟩ := bd A out sh H vs Q E (rm.deeper _) gd pr
  have inv := inv_start (CX := CX0) (P := P) (w := w) (K := K) (mg := mg) (base := base) (E := E) (f := f) (cd := cdv) (qual := x) S rm.hd en lv rel x1
  refine wpAny_mono (ht.nox.run [] sh1 (start N vs) H _ inv hq) (fun fl sh' hs => ?_) fun e sh' hs => hs
  cases fl with
  | ret u =>
    obtain ⟨v, σ', H', J, rv, z⟩ := hs
    exact ⟨v, H', J.os, J.bare, J.base, J.hok, rv, z⟩
  | next =>
    obtain ⟨σ', H', J, z⟩ := hs
    exact ⟨V.non, H', J.os, J.bare, J.base, J.hok, rfl, z⟩
  | brk =>
    obtain ⟨_, _, _, z⟩ := hs
    exact False.elim z
  | cont =>
    obtain ⟨_, _, _, z⟩ := hs
    exact False.elim z
section
variable {X : Cx} {x : Str} {sp : Sp} {W : WX} {j k i : Nat} {f : Addr} {fd : FuncData} {ps : List Str} {e : Expr} {es : List Expr} {t : TA} {p po : Pos}
/-- such a def, called by its name -/
theorem pe_g (F : FnG X.prog X.w X.K X.mg X.base k f fd ps sp) (gd : X.A.guards = some []) (hr : Room j X.A) (hk : k ≤ j) (hg : Gl X x) (hm : X.mg x = some (.ref f)) (kp : PySem.W.keepIn X.K (.ref f) = true) (hb : Binds X.K fd ps []) (ha : L2.PA X (e :: es) t)
    (hdb : (x == ("__debug__" : Str)) = false := by decide) (he : starEach (e :: es) X.env = (false, eval e X.env) :: starEach es X.env := by rfl) (hpl : (backTo po (starEach es X.env)).any (·.1) = false := by rfl) :
    PE X (.Call (.Name x p) (e :: es) [] po) (fun σ H Q => t σ H fun vs H1 => sp vs H1 Q (fun _ _ _ => False)) := by
  refine ⟨fun pins s σ H Q I h => wpAny_Call_Name_kw (ld_glob I hg hm ?_ hdb)⟩
  refine PySem.W.callWith_K (h₀ := X.base) I.ok.mod.kin kp (thn (ha.run po pins s σ H _ I h) fun us s1 ⟨vs, H1, I1, rv, q⟩ => ⟨I1.kIn, ?_⟩) he hpl
  have hl : us.length = ps.length := by rw [← rv.length]; exact F.lenG _ _ _ _ q
  have b := hb s1 us I1.kIn (by rw [List.append_nil]; exact hl)
  rw [List.append_nil] at b
  refine wpAny_call (codeAny_mono (F.runG X.A X.stack s1 H1 ⟨us, []⟩ us vs Q _ (hr.mono hk) gd I1.env0 b rv q) fun r s' hq => ?_)
  cases r with
  | error e => exact (show False from hq).elim
  | ok fl =>
    cases fl with
    | ret u => exact I1.after hq
    | next => exact False.elim hq
    | brk => exact False.elim hq
    | cont => exact False.elim hq
/-- a name that holds one of some defs that raise -/
theorem pe_vx (S : Addr → Prop) (hS : ∀ f, S f → ∃ fd ps, FnOk X.prog X.w X.K X.mg X.base (L2.CX X.prog X.w) k f fd ps sp ∧ PySem.W.keepIn X.K (.ref f) = true ∧ Binds X.K fd ps []) (hr : Room j X.A) (hk : k ≤ j) (tk : Takes X W) (hN : X.N[i]? = some x) (hv : Vis X.env.scope x) (ha : L2.PA X (e :: es) t)
    (hd : (x == ("__debug__" : Str)) = false := by decide) (hcd : (x == ("__classdict__" : Str)) = false := by decide) (he : starEach (e :: es) X.env = (false, eval e X.env) :: starEach es X.env := by rfl) (hpl : (backTo po (starEach es X.env)).any (·.1) = false := by rfl) :
    PE X (.Call (.Name x p) (e :: es) [] po) (fun σ H Q => ∃ f, σ[i]? = some (some (.ref f)) ∧ S f ∧ t σ H fun vs H1 => sp vs H1 Q (WE W σ)) := by
  refine ⟨fun pins s σ H Q I h => ?_⟩
  obtain ⟨f, hs, hf, h⟩ := h
  obtain ⟨fd, ps, F, kp, b⟩ := hS f hf
  refine wpAny_Call_Name_kw (thn ((pe_var (pos := p) (i := i) hN hv hd hcd).run pins s σ H (fun v H1 => v = .ref f ∧ H1 = H) I ⟨.ref f, hs, rfl, rfl⟩) fun u s1 ⟨v, H1, I1, r1, q1, q2⟩ => ?_)
  subst q1
  rw [q2] at I1
  cases r1
  refine PySem.W.callWith_K (h₀ := X.base) I1.ok.mod.kin kp (thn (ha.run po pins s1 σ H _ I1 h) fun us s2 ⟨vs, H2, I2, rv, q⟩ => ⟨I2.kIn, ?_⟩) he hpl
  exact run_fnS F (hr.mono hk) b (passAt tk σ) I2 rv q
end
end Lf
namespace Lf
open PySem PySem.Spec PyProof.Rows L2
/-! ### an own exception class over ValueError whose __init__ says super().__init__(text), self.x = x -/
/-- the context of such an __init__ at its entry -/
def cxSup (P : Program) (w : World) (K : PySem.W.Frag) (mg : Str → Option Value) (base : Heap) (N : List Str) (env : Env) (A : Around) (outer : List Env) (s : Shared) (H : Hp) : Cx where
  prog := P
  w := w
  K := K
  mg := mg
  base := base
  A := A.deeper env
  N := N
  s_0 := s
  H_0 := H
  env := env
  outer := outer
  stack := env :: outer
  ex := []
  calm := true
  fn := fun _ => false
  pn := []
  xe := fun _ _ => False
/-- what it promises -/
def spIni (C : Addr) (x : Str) : Sp := fun vs H Q _ => ∃ (a : Addr) (v : V), vs = [.ref a, v] ∧ H a = some (exo a C none) ∧
  ∀ dx, H dx = none → dx ≠ a → Q .non (upd (upd H dx (exd dx [(x, v)])) a (exo a C (some dx)))
/-- its text -/
structure IniT (x : Str) (params : Arguments) (body : List Stmt) (scope : Scope) : Prop where
  pa : ∃ ar, (params.posonlyargs ++ params.args).head? = some ar ∧ ar.arg = "self"
  bd : ∃ txt p0 p1 p2 p3 p4 p5 p6 p7 p8 p9 j, body = [.Expr (.Call (.Attribute (.Call (.Name "super" p0) [] [] p1) "__init__" p2) [.Constant (.str txt) j p3] [] p4) p5, .Assign [.Attribute (.Name "self" p6) x p7] (.Name x p8) p9] ∧
    ∃ pl : Env → Sem Bool, ∀ env : Env, eval (.Call (.Attribute (.Call (.Name "super" p0) [] [] p1) "__init__" p2) [.Constant (.str txt) j p3] [] p4) env = (do
      let ov ← attributeBase (.Call (.Name "super" p0) [] [] p1) "__init__" env (eval (.Call (.Name "super" p0) [] [] p1) env)
      standAt p2.atName
      let (f, first) ← holding [ov] (getMethod ov "__init__" (pl env))
      callWith p4 f first (backTo p4 (starEach [.Constant (.str txt) j p3] env)) [])
  ls : scope.names.lookup ("self" : Str) = some .local
  lx : scope.names.lookup x = some .local
  lc : scope.names.lookup ("__class__" : Str) = some .free
  lu : scope.names.lookup ("super" : Str) = some .globalImplicit
  nc : ∀ y ∈ scope.names, y.2 ≠ .cell
  nf : ∀ y ∈ scope.names, y.2 = .free → y.1 = "__class__"
  co : scope.isCoroutine = false
  ge : scope.isGenerator = false
  kd : scope.kind = .function
  ne : x ≠ "self"
  dx : (x == ("__debug__" : Str)) = false
  dc : (x == ("__classdict__" : Str)) = false
/-- what the written part tells of it -/
structure SupC (P : Program) (K : PySem.W.Frag) (C cda cc : Addr) (x : Str) : Prop where
  cls : OexC K C
  code : ∃ ccl cdd vs ccs file tf, K.lookup cda = some ⟨ccl, cdd, .fields vs, ccs⟩ ∧ vs[2]? = some (.str file tf) ∧ ((P.main.file : Str) == file) = true
  cell : ∃ cl cld csl, K.lookup cc = some ⟨cl, cld, .cell (some (.ref C)), csl⟩
  sub : PySem.W.mroIn K C (.ref C) = some true
  st : PySem.W.nsIn K cStatics "thirdparty.any" = some none
  sup : PySem.W.ks_superIn K C C "__init__" = some (some (.builtin "ValueError.__init__"))
  ve : PySem.W.subIn K (.ref C) (.type "ValueError") = some true
  no : PySem.W.findIn K (.ref C) x = some none
  top : (P.main.scope.names.lookup ("super" : Str)).isSome = false
theorem bt_super : bootBuiltins ("super" : Str) = Option.some (Value.type "super") := by decide +kernel
section
variable {P : Program} {w : World} {K : PySem.W.Frag} {mg : Str → Option Value} {base : Heap}
theorem fn_sup {CX : CXT} {C f cda cc : Addr} {name qual x : Str} {params : Arguments} {body : List Stmt} {scope : Scope} {dV kV doc pm ct oc : Value} {an od : Option Addr} {osl : Array (Option Value)}
    (lk : K.lookup f = some ⟨oc, od, .func (PySem.W.ksFn name qual params body scope dV kV doc pm an (.ref cda) ct cc), osl⟩) (hcd : PySem.W.codeIn K (.ref cda) qual = true) (T : IniT x params body scope) (S : SupC P K C cda cc x) (ms : mg "super" = none) :
    FnOk P w K mg base CX 1 f (PySem.W.ksFn name qual params body scope dV kV doc pm an (.ref cda) ct cc) ["self", x] (spIni C x) := by
  refine ⟨fun vs H Q E h => ?_, fun A outer s H args us vs Q E hr e0 hb r hsp => ?_⟩
  · obtain ⟨a, v, rfl, _⟩ := h
    rfl
  obtain ⟨a, v, rfl, ea, q⟩ := hsp
  obtain ⟨u, rfl, ru⟩ : ∃ u, us = [.ref a, u] ∧ RelV v u := by
    cases r with
    | cons ra r =>
      cases r with
      | cons rv r =>
        cases r
        cases ra
        exact ⟨_, rfl, rv⟩
  have KX : K.In s.heap := e0.mod.kin.keeps fun b o e => (e0.bs b o e).1
  have lim : s.heap.NoLimit := e0.mod.nolimit.keeps fun b o e => (e0.bs b o e).1
  refine ks_codeAny_call_defAt (fd := PySem.W.ksFn name qual params body scope dV kV doc pm an (.ref cda) ct cc) (body := body) hr.depth (KX _ _ lk) rfl lim (PySem.W.codeRec_of KX hcd) rfl hb T.nc (fun y hy => ?_) (fun h₀ hns hk => ?_) T.co T.ge T.kd
  · have : y = (("self" : Str), Value.ref a) ∨ y = (x, u) := by simpa using hy
    rcases this with rfl | rfl
    · exact T.ls
    · exact T.lx
  obtain ⟨txt, p0, p1, p2, p3, p4, p5, p6, p7, p8, p9, j, rfl, pl, hpl⟩ := T.bd
  obtain ⟨ar, har, ear⟩ := T.pa
  obtain ⟨cl, cld, csl, hcell⟩ := S.cell
  obtain ⟨ccl, cdd, fvs, ccs, file, tf, hcode, hvs, hfile⟩ := S.code
  show _root_.PySem.wpAt _ (A.deeper (PySem.W.ksEnv qual scope s.heap.objs.size f (.ref cda) cc)) (.func _ (PySem.W.ksEnv qual scope s.heap.objs.size f (.ref cda) cc)) (execs _ (PySem.W.ksEnv qual scope s.heap.objs.size f (.ref cda) cc)) _ _ _
  generalize hX : cxSup P w K mg base ["self", x] (PySem.W.ksEnv qual scope s.heap.objs.size f (.ref cda) cc) A outer s H = X
  have bcell : base.get? cc = some ⟨cl, cld, .cell (some (.ref C)), csl⟩ := e0.mod.kin _ _ hcell
  have luc : ∀ y c, List.lookup y [(("__class__" : Str), cc)] = some c → y = "__class__" ∧ c = cc := fun y c h => by
    rw [List.lookup_cons] at h
    by_cases hy : (y == ("__class__" : Str)) = true
    · rw [hy] at h
      exact ⟨by simpa using hy, (Option.some.inj h).symm⟩
    · rw [Bool.not_eq_true] at hy
      rw [hy] at h
      cases h
  have noA : ∀ b : Addr, b ∉ ([] : List Addr) := fun b z => nomatch z
  have I : Inv X [] [some (.ref a), some v] H { s with heap := h₀, toks := s.toks + [(("self" : Str), Value.ref a), (x, u)].length } := by
    subst hX
    refine ⟨⟨e0.mod, T.kd, rfl, rfl, Nat.le_refl _, fun y z c h1 h2 => ?_, fun y hy => ?_, fun y c z _ => (nomatch z), fun _ => hr.hd, Around.frames_deeper e0.frames, .inr ⟨rfl, rfl⟩, fun b z => absurd z (noA b), e0.bs, e0.bsz, fun b _ _ => noA b, fun b z => absurd z (noA b), e0.funs, e0.frf⟩,
      rfl, e0.bare, Un.kept hk, ⟨_, hns, fun i y v' h1 h2 h3 => ?_⟩, fun y c h => ?_, e0.hok.fresh (Nat.le_refl _), fun y c h => ?_, fun p hp => absurd (show p ∈ ([] : List (Addr × Obj)) from hp) (by simp), e0.hok.kept hk, rfl⟩
    · rw [(luc y c h1).1, (luc z c h2).1]
    · have hy : scope.names.lookup y = some .cell ∨ scope.names.lookup y = some .free := hy
      rcases hy with hy | hy
      · exact absurd rfl (T.nc _ (PySem.mem_of_lookup hy))
      · have := T.nf _ (PySem.mem_of_lookup hy) rfl
        dsimp only at this
        subst this
        exact ⟨cc, rfl⟩
    · match i, h1, h2 with
      | 0, h1, h2 =>
        cases h1
        cases h2
        refine ⟨.ref a, rfl, .inl ⟨T.ls, ?_⟩⟩
        show List.lookup _ [(x, u), ("self", .ref a)] = _
        rw [List.lookup_cons, show (("self" : Str) == x) = false by simpa using fun z => T.ne z.symm]
        rfl
      | 1, h1, h2 =>
        cases h1
        cases h2
        refine ⟨u, ru, .inl ⟨T.lx, ?_⟩⟩
        show List.lookup _ [(x, u), ("self", .ref a)] = _
        rw [List.lookup_cons, beq_self_eq_true]
    · obtain ⟨_, rfl⟩ := luc y c h
      exact ⟨_, _, hk _ _ ((e0.bs _ _ bcell).1), rfl⟩
    · obtain ⟨_, rfl⟩ := luc y c h
      exact (e0.bs _ _ bcell).2
  have eE : X.env = PySem.W.ksEnv qual scope s.heap.objs.size f (.ref cda) cc := by subst hX; rfl
  have eA : X.A = A.deeper (PySem.W.ksEnv qual scope s.heap.objs.size f (.ref cda) cc) := by subst hX; rfl
  have eP : X.prog = P ∧ X.w = w ∧ X.K = K ∧ X.mg = mg ∧ X.base = base ∧ X.N = [("self" : Str), x] ∧ X.stack = PySem.W.ksEnv qual scope s.heap.objs.size f (.ref cda) cc :: outer ∧ X.s_0 = s ∧ X.H_0 = H ∧ X.outer = outer ∧ X.ex = [] := by subst hX; exact ⟨rfl, rfl, rfl, rfl, rfl, rfl, rfl, rfl, rfl, rfl, rfl⟩
  have Z : ∀ s', (∃ σ' H', Inv X [] σ' H' s' ∧ Q .non H') → CR CX outer P w H s Q E (.ok (.ret .none)) s' := fun s' ⟨σ', H', J, q'⟩ => by
    subst hX
    exact ⟨.non, H', J.os, J.bare, J.base, J.hok, rfl, q'⟩
  have hxe : ∀ e s', X.xe e s' → False := by subst hX; exact fun _ _ z => z
  have hprog : X.prog = P := by subst hX; rfl
  have hw : X.w = w := by subst hX; rfl
  have hK : X.K = K := by subst hX; rfl
  have hmg : X.mg = mg := by subst hX; rfl
  have hN : X.N = [("self" : Str), x] := by subst hX; rfl
  subst hprog hw hK hmg
  rw [← eA, ← eE]
  obtain ⟨nm, qn, N, bs, bm, sn, sub, ab, col, dd, k0, k1, k2, k3, k5, hC, hbm⟩ := S.cls.cls
  obtain ⟨t1, ho⟩ := exo_at I.hok ea
  obtain ⟨cdD, hcl⟩ : ∃ cdD, PySem.W.clsIn X.K C = some cdD := ⟨_, by unfold PySem.W.clsIn; rw [hC] <;> rfl⟩
  have hne : ¬ (("__init__" : Str) == ("__class__" : Str)) = true := by decide
  have hbase : ∀ s', Inv X [] [some (.ref a), some v] H s' → (∃ m, s'.heap.Ns X.env.locals m ∧ m "self" = some (.ref a)) := fun s' J => by
    obtain ⟨m, hn, hl⟩ := J.loc
    obtain ⟨u', ru', lk'⟩ := hl 0 "self" (.ref a) (by rw [hN]; rfl) rfl (by rw [eE]; exact .inl T.ls)
    cases ru'
    rcases lk' with ⟨_, e⟩ | ⟨z, _⟩
    · exact ⟨m, hn, e⟩
    · rw [eE] at z
      have z : scope.names.lookup ("self" : Str) = some .cell ∨ scope.names.lookup ("self" : Str) = some .free := z
      rw [T.ls] at z
      rcases z with z | z <;> cases z
  obtain ⟨m, hn, hself⟩ := hbase _ I
  obtain ⟨mb, hb1, hb2⟩ := I.mod.blt
  have hfr : ∀ {s'} , Inv X [] [some (.ref a), some v] H s' → ∃ o, s'.heap.get? a = some o ∧ o.cls = .ref C ∧ ∀ c, o.data ≠ .cls c := fun {s'} J => by
    obtain ⟨t1, h1⟩ := exo_at J.hok ea
    exact ⟨_, h1, rfl, fun c z => by cases z⟩
  obtain ⟨oD, hD1, hD2⟩ : ∃ oD, h₀.get? C = some oD ∧ oD.data = .cls cdD := by
    unfold PySem.W.clsIn at hcl
    split at hcl
    · rename_i c d cd' sl hoo
      cases hcl
      exact ⟨_, I.kIn _ _ hoo, rfl⟩
    · cases hcl
  refine ks_wpAt_execs_cons (ks_wpAt_Expr_any (ks_wpAt_MethodCall (pl := pl X.env) ?_ (hpl X.env)) ?hi ?hs)
  case hi => exact I.quiet
  case hs => rfl
  refine ks_wpAt_super_base (env := X.env) (attr := "__init__") (f := f) (cc := cda) (fd := PySem.W.ksFn name qual params _ scope dV kV doc pm an (.ref cda) ct cc) (ar := ar) (by rw [eE]; exact T.lu) (by rw [eE]; exact T.lc) (by decide) (by rw [eE]) (I.kIn _ _ lk) rfl har (by rw [eE]) (I.kIn _ _ hcode) rfl hvs hfile S.top ?_
  refine PySem.W.ks_loadName_global I.ok.kind (by rw [eE]; exact T.lu) (Calls.loadGlobal_builtin (by rw [I.ok.glob]; exact I.mod.glob.keeps I.bk) ms (by rw [I.ok.blt]; exact hb1.keeps I.bk) ((hb2 _ (by decide)).trans bt_super) ⟨rfl, ?_⟩)
  refine wpAny_loadName_free I.ok.kind (by rw [eE]; exact T.lc) (by rw [eE]; rfl) ⟨_, I.kIn _ _ hcell, rfl⟩ ?_
  rw [ear]
  refine wpAny_loadName_local I.ok.kind (by rw [eE]; exact T.ls) hn hself ?_
  refine ks_wpAny_isType_cls hD1 hD2 ⟨rfl, ?_⟩
  refine ks_wpAny_call_super hD1 hD2 ho rfl (fun c z => by cases z) (PySem.W.looks_mroIn I.kIn S.sub) (fun h1 e1 kk1 => ?_)
  have I1 := I.kept (t' := s.toks + [(("self" : Str), Value.ref a), (x, u)].length) kk1
  have hm : PySem.W.alongIn X.K "__init__" ((cdD.mro.dropWhile (· != .ref C)).drop 1) = some (some (.builtin "ValueError.__init__")) := by
    have z := S.sup
    unfold PySem.W.ks_superIn at z
    rw [hcl, Option.bind_some] at z
    exact z
  obtain ⟨t2, ho1⟩ := exo_at I1.hok ea
  have IA : PySem.W.InstAt h1 a { cls := .ref C, dict := none, data := .fields #[.ref t2, .none, .none, .none, .bool false, .none] } C none := ⟨ho1, rfl, rfl, trivial⟩
  refine PySem.W.kxs_getMethod PySem.W.kxs_ValueError e1 (PySem.W.looks_opaque I1.kIn S.st) (l₀ := cdD.mro) (fun A Q E s k q => wpAny_bind ((PySem.W.looks_clsIn I1.kIn hcl) A _ E s k (wpAny_pure q))) rfl I1.kIn hm (IA.type.andThen (PySem.W.looks_subIn I1.kIn S.ve)) (PySem.W.ks_ne I1.kIn IA hcl) (by decide) ?_
  have I2 := I1.kept (h' := h1.push (PySem.W.kxs_mw "ValueError.__init__" a)) (t' := s.toks + [(("self" : Str), Value.ref a), (x, u)].length + 1) (fun b o e => Heap.get?_push_of_some _ e)
  have hmw : (h1.push (PySem.W.kxs_mw "ValueError.__init__" a)).get? h1.objs.size = some (PySem.W.kxs_mw "ValueError.__init__" a) := Heap.get?_push_at rfl rfl
  have I3 : Inv X [(h1.objs.size, PySem.W.kxs_mw "ValueError.__init__" a)] [some (.ref a), some v] H _ := I2.pins_of (fun p hp => by
    have hp : p = (h1.objs.size, PySem.W.kxs_mw "ValueError.__init__" a) := by simpa using hp
    subst hp
    exact ⟨hmw, I1.hok.fresh (Nat.le_refl _), fun z => absurd I1.lt (by rw [← z]; exact Nat.lt_irrefl _), I1.nofs (Nat.le_refl _), fun v z => by cases z⟩)
  have hst : starEach [Expr.Constant (Const.str txt) j p3] X.env = (false, eval (Expr.Constant (Const.str txt) j p3) X.env) :: starEach [] X.env := rfl
  refine PySem.W.kxs_callWith (i := "ValueError.__init__") (x := a) (by rfl) ?_
  show wpAny _ _ (evalArgs _ true ((false, eval (Expr.Constant (Const.str txt) j p3) X.env) :: _) []) _ _ _
  refine Calls.evalArgs_plain ?_
  have hpa : L2.PA X [Expr.Constant (Const.str txt) j p3] (tCons (tC (.str txt)) tNil) := pa_cons pe_str pa_nil
  refine thn (hpa.run p4 _ _ _ H (fun vs H' => H' = H ∧ vs = [.str txt]) I3 ⟨rfl, rfl⟩) fun us s4 ⟨vs, H4, I4, r4, eH, ev⟩ => ?_
  subst eH ev
  have hu4 := (I4.pin (h1.objs.size, PySem.W.kxs_mw "ValueError.__init__" a) (by simp)).1
  refine ⟨hu4, ?_⟩
  obtain ⟨t3, ho4⟩ := exo_at I4.hok ea
  have hlen : us.length ≤ sizeLine := by
    rw [← r4.length]
    rw [sizeLine_eq]; exact (by show 1 ≤ _; omega)
  obtain ⟨h4, g4, d4, t4, os4⟩ := s4
  refine wpAny_call (codeAny_of_tree ?_)
  show wpAny _ _ (callAny (.ref h1.objs.size) ⟨us, []⟩) _ _ _
  simp only [callAny]
  refine wpAny_bind (wpAny_load hu4 ?_)
  simp only [PySem.W.kxs_mw, show (Value.type "method-wrapper" == Value.type "method" || Value.type "method-wrapper" == Value.type "builtin_function_or_method" || Value.type "method-wrapper" == Value.type "method-wrapper") = true by decide, if_true]
  refine PySem.W.KFB.if_so (by decide) ?_
  refine wpAny_bind (PySem.W.check_bound_init F.excBase_ValueError.toExcCallFacts (I4.kIn _ _ hC) ho4 rfl ?_)
  refine wpAny_bind (wpAny_pure (wpAny_pure ?_))
  refine ⟨plainId_quiet F.excBase_ValueError.init.plain _, codeAny_builtin F.excBase_ValueError.initEntry ?_⟩
  refine PySem.W.exc_init_tree (cls := .ref C) (t0 := t3) (dv := none) (c2 := .none) (c3 := .none) (b4 := .bool false) ho4 hlen (fun h5 k5 e5 _ => ?_)
  have J5 := I4.write (t' := t4) (x := a) (e := a) (o := exo a C none) (by rw [ea]; exact True.intro) (.inl rfl) k5 ⟨_, e5⟩ (exo_ok e5)
  have eu : upd H4 a (exo a C none) = H4 := by
    funext b
    by_cases hb : b = a
    · rw [hb, upd_same, ea]
    · rw [upd_ne hb]
  rw [eu] at J5
  have J6 : Inv X [] [some (.ref a), some v] H4 _ := J5.pins_of (fun p hp => nomatch hp)
  have hps : PSs X [Stmt.Assign [(Expr.Name "self" p6).Attribute x p7] (Expr.Name x p8) p9] (tOst X.K x (tVar 0) (tVar 1)) :=
    pss_one (ps_ost (pe_var (by rw [hN]; rfl) (by rw [eE]; exact .inl T.ls) (by decide) (by decide)) (pe_var (by rw [hN]; rfl) (by rw [eE]; exact .inl T.lx) T.dx T.dc))
  show _root_.PySem.wpAt _ _ _ _ _ _ _
  refine wpAt_of_wpAny (wpAny_mono (hps.run [] _ _ H4 { nx := fun _ H' => Q .non H', rt := fun _ _ => False } J6 ?_) (fun fl s' hs => ?_) fun e s' hs => ?_)
  · exact ⟨_, rfl, _, rfl, a, C, rfl, S.cls, S.no, .inl ⟨ea, fun dx n ne => q dx n ne⟩⟩
  · cases fl with
    | ret u =>
      obtain ⟨v, σ', H', J, rv, q⟩ := hs
      exact False.elim q
    | next =>
      obtain ⟨σ', H', J, q⟩ := hs
      exact Z s' ⟨σ', H', J, q⟩
    | brk =>
      obtain ⟨_, _, _, q⟩ := hs
      exact False.elim q
    | cont =>
      obtain ⟨_, _, _, q⟩ := hs
      exact False.elim q
  · exact (hxe _ _ hs).elim
end

section
variable {P : Program} {w : World} {K : PySem.W.Frag} {mg : Str → Option Value} {base : Heap}
/-- what the top tells of such a class: at C, its __init__ at fI, its name nm, its field x -/
structure ValC (P : Program) (K : PySem.W.Frag) (mg : Str → Option Value) (C : Addr) (nm x : Str) : Prop where
  gC : mg nm = some (.ref C)
  ini : ∃ (fI cda cc : Addr) (qual : Str) (params : Arguments) (body : List Stmt) (scope : Scope) (kV doc pm ct oc : Value) (an od : Option Addr) (osl : Array (Option Value)),
    K.lookup fI = some ⟨oc, od, .func (PySem.W.ksFn "__init__" qual params body scope .none kV doc pm an (.ref cda) ct cc), osl⟩ ∧ PySem.W.codeIn K (.ref cda) qual = true ∧ IniT x params body scope ∧ SupC P K C cda cc x ∧
    PySem.W.findIn K (.ref C) "__init__" = some (some (.ref fI)) ∧ PySem.W.typeIn K (.ref fI) = some (.type "function") ∧ Binds K (PySem.W.ksFn "__init__" qual params body scope .none kV doc pm an (.ref cda) ct cc) ["self", x] []
  ms : mg "super" = none
  ex : ExcC K C
  sf : PySem.W.subIn K (.ref C) (.ref C) = some true
theorem ValC.oex {C : Addr} {nm x : Str} (T : ValC P K mg C nm x) : OexC K C := by
  obtain ⟨fI, cda, cc, qual, params, body, scope, kV, doc, pm, ct, oc, an, od, osl, _, _, _, S, _⟩ := T.ini
  exact S.cls
theorem ValC.raises {X : Cx} {C : Addr} {nm x : Str} (T : ValC P X.K X.mg C nm x) : Raises X (.ref C) := raises_own T.oex.exC T.oex.tyC
theorem ValC.meets {C : Addr} {nm x : Str} (T : ValC P K mg C nm x) : PySem.W.exmOne K (.ref C) (.ref C) = some true := PySem.W.exm_ref T.ex.hs T.ex.hd T.oex.tyC T.sf
theorem ValC.no {C : Addr} {nm x : Str} (T : ValC P K mg C nm x) : PySem.W.findIn K (.ref C) x = some none := by
  obtain ⟨fI, cda, cc, qual, params, body, scope, kV, doc, pm, ct, oc, an, od, osl, _, _, _, S, _⟩ := T.ini
  exact S.no
theorem ValC.xf {C : Addr} {nm x : Str} (T : ValC P K mg C nm x) : XfC K C := ⟨T.ex.hg, T.ex.hk, T.ex.hs, T.ex.hd⟩
theorem back_to {H1 : Hp} {a d C : Addr} {fs : List (Str × V)} (ha : H1 a = none) (hd : d ≠ a) :
    upd (del (upd (upd (upd H1 a (exo a C none)) d (exd d fs)) a (exo a C (some d))) a) d (.xd fs) = upd H1 d (.xd fs) := by
  funext b
  by_cases h1 : b = d
  · subst h1
    rw [upd_same, upd_same]
  · rw [upd_ne h1, upd_ne h1]
    by_cases h2 : b = a
    · subst h2
      rw [del_same, ha]
    · rw [del_ne h2, upd_ne h2, upd_ne h1, upd_ne h2]
/-- nm(e): the exception, its value -/
theorem pmk_val {X : Cx} {C : Addr} {nm x : Str} {e : Expr} {te : TE} {p pos : Pos} {j : Nat} (T : ValC X.prog X.K X.mg C nm x) (hr : Room j X.A) (hj : 2 ≤ j) (hg : Gl X nm) (he : PE X e te)
    (hdb : (nm == ("__debug__" : Str)) = false := by decide) (hs : starEach [e] X.env = (false, eval e X.env) :: starEach [] X.env := by rfl) :
    PMk X (.Call (.Name nm p) [e] [] pos) (tMkO C (spIni C x) [] (tCons te tNil)) := by
  obtain ⟨fI, cda, cc, qual, params, body, scope, kV, doc, pm, ct, oc, an, od, osl, lk, hcd, iT, S, fi, ti, bi⟩ := T.ini
  have F := fn_sup (P := X.prog) (w := X.w) (base := X.base) (CX := CX0) lk hcd iT S T.ms
  exact pmk_oex (X := X) (p := p) (pos := pos) (x := nm) S.cls fi ti F (hr.mono hj) bi .nil (fun _ _ _ _ _ _ _ z => z.elim) hg T.gC (pa_cons he pa_nil hs) hdb hs
theorem mkv {C : Addr} {x : Str} {v : V} {H1 : Hp} {Q : XK} (h : ∀ d, H1 d = none → Q (.ref C) (some d) (upd H1 d (.xd [(x, v)]))) : [v].length ≤ 1000 ∧ ∀ a, H1 a = none → spIni C x (.ref a :: ([v] ++ [])) (upd H1 a (exo a C none))
    (fun v H2 => v = .non ∧ ∃ (d : Addr) (fs : List (Str × V)), H2 a = some (exo a C (some d)) ∧ H2 d = some (exd d fs) ∧ H1 d = none ∧ Q (.ref C) (some d) (upd (del H2 a) d (.xd fs))) (fun _ _ _ => False) := by
  refine ⟨by show 1 ≤ 1000; decide, fun a ha => ⟨a, v, rfl, upd_same, fun dx hx hne => ⟨rfl, dx, [(x, v)], upd_same, ?_, ?_, ?_⟩⟩⟩
  · rw [upd_ne hne, upd_same]
  · rw [upd_ne hne] at hx
    exact hx
  · rw [back_to ha hne]
    rw [upd_ne hne] at hx
    exact h dx hx
/-! ### isinstance of a caught exception that has its dict -/
/-- in the suite -/
def rIsV (K : PySem.W.Frag) (D a dd : Addr) : List V → Hp → VK → Prop := fun xs H Q => ∃ (c : V) (cv : Value) (b : Bool) (fs : List (Str × V)), xs = [.ref a, c] ∧ (∀ u, RelV c u → u = cv) ∧ PySem.W.kitOne K (.ref D) cv = some b ∧ H dd = some (.xd fs) ∧ Q (.bl b) H
theorem call_isV {X : Cx} {a D dd : Addr} {oe : Obj} {pn : List (Addr × Obj)} (C : ExcC X.K D) (hz : Zc (.ref D) (some dd) oe) (hf : ∃ vs, oe.data = .fields vs) : CallR (X.suite a ((a, oe) :: pn)) (.builtin "isinstance") (rIsV X.K D a dd) := by
  intro pins s σ H xs us Q I r h
  obtain ⟨c, cv, b, fs, rfl, hcv, e, ed, q⟩ := h
  cases r with
  | cons rx rr =>
    cases rr with
    | cons rt rr =>
      cases rr
      cases rx
      obtain ⟨ge, _⟩ := I.pin (a, oe) (List.mem_append.mpr (.inl List.mem_cons_self))
      obtain ⟨vs, hv⟩ := hf
      obtain ⟨mA, hns, _⟩ := (show ObjOk X.prog X.w H s.heap dd (.xd fs) from I.hok dd _ ed)
      obtain ⟨od, _, _, ho, _⟩ := hns
      have J : PySem.W.InstAt s.heap a oe D (some od) := by
        obtain ⟨oc, od', oda, osl⟩ := oe
        obtain ⟨h1, h2⟩ := hz
        dsimp only at h1 h2 hv
        subst h1 h2 hv
        exact ⟨ge, rfl, rfl, ho⟩
      have hcl : (PySem.W.clsIn X.K D).isSome = true := by
        obtain ⟨cd, hc, _⟩ := PySem.W.any_some C.hd
        rw [hc]
        rfl
      have kx := PySem.W.kitx_exc (x := a) (ox := oe) (od := some od) hcl C.hg C.hk C.hs C.ha C.hn C.ht C.hm
      have ec := hcv _ rt
      subst ec
      exact PySem.W.kia_one kx I.kIn J e (fun z => nomatch z) fun tk => ⟨.bl b, H, I.kept (t' := tk) fun _ _ z => z, rfl, q⟩
end
end Lf
namespace Lf
open PySem PySem.Spec PyProof.Rows L2
/-! ### data of any kind -/
mutual
inductive Dv (H : Hp) : V → PyData → Prop
  | non : Dv H .non .none
  | bl (b : Bool) : Dv H (.bl b) (.bool b)
  | int (i : Int) : Dv H (.int i) (.int i)
  | str (x : Str) : Dv H (.str x) (.str x)
  | lst {a : Addr} {xs : List V} {ds : List PyData} : a ≠ 1 → H a = some (.lst xs) → DvAll H xs ds → Dv H (.ref a) (.list ds)
  | tup {a : Addr} {xs : List V} {ds : List PyData} : H a = some (.tup xs) → DvAll H xs ds → Dv H (.ref a) (.tuple ds)
  | dk0 {a : Addr} : H a = some (.dK []) → Dv H (.ref a) (.dict [])
  | dk1 {a : Addr} {x : Str} {v : V} {d : PyData} : H a = some (.dK [(Sum.inr x, v)]) → Dv H v d → Dv H (.ref a) (.dict [(.str x, d)])
inductive DvAll (H : Hp) : List V → List PyData → Prop
  | nil : DvAll H [] []
  | cons {v : V} {vs : List V} {d : PyData} {ds : List PyData} : Dv H v d → DvAll H vs ds → DvAll H (v :: vs) (d :: ds)
end
/-- what such data leans on stays -/
structure Kp (H H' : Hp) : Prop where
  l : ∀ b xs, H b = some (.lst xs) → H' b = some (.lst xs)
  t : ∀ b xs, H b = some (.tup xs) → H' b = some (.tup xs)
  d0 : ∀ b, H b = some (.dK []) → H' b = some (.dK [])
  d1 : ∀ b x v, H b = some (.dK [(Sum.inr x, v)]) → H' b = some (.dK [(Sum.inr x, v)])
theorem Fr.kp {H H' : Hp} (f : Fr H H') : Kp H H' := ⟨f.l, f.t, f.d0, fun b x v h => f.k _ _ h fun _ z => by cases z⟩
theorem ext_kp {H H' : Hp} (e : LamX.ExtN H H') : Kp H H' := ⟨fun _ _ h => e _ _ h (fun _ z => by cases z), fun _ _ h => e _ _ h (fun _ z => by cases z), fun _ h => e _ _ h (fun _ z => by cases z), fun _ _ _ h => e _ _ h (fun _ z => by cases z)⟩
mutual
theorem Dv.kp {H H' : Hp} (f : Kp H H') : ∀ (d : PyData) (v : V), Dv H v d → Dv H' v d
  | .none, _, .non => .non
  | .bool _, _, .bl b => .bl b
  | .int _, _, .int i => .int i
  | .str _, _, .str x => .str x
  | .list ds, _, .lst n h hs => .lst n (f.l _ _ h) (Dv.kpAll f ds _ hs)
  | .tuple ds, _, .tup h hs => .tup (f.t _ _ h) (Dv.kpAll f ds _ hs)
  | .dict [], _, .dk0 h => .dk0 (f.d0 _ h)
  | .dict [(.str _, d)], _, .dk1 h h2 => .dk1 (f.d1 _ _ _ h) (Dv.kp f d _ h2)
theorem Dv.kpAll {H H' : Hp} (f : Kp H H') : ∀ (ds : List PyData) (vs : List V), DvAll H vs ds → DvAll H' vs ds
  | [], _, .nil => .nil
  | d :: ds, _, .cons h hs => .cons (Dv.kp f d _ h) (Dv.kpAll f ds _ hs)
end
theorem Dv.fr {H H' : Hp} (f : Fr H H') (d : PyData) (v : V) (h : Dv H v d) : Dv H' v d := Dv.kp f.kp d v h
section
variable {X : Cx} {pins : List (Addr × Obj)} {σ : L2.St} {H : Hp} {s : Shared}
mutual
theorem Dv.reads (I : Inv X pins σ H s) : ∀ (d : PyData) (v : V) (u : Value), Dv H v d → RelV v u → ∃ as, Reads s.heap u d as ∧ sysModules ∉ as
  | .none, _, _, .non, r => by
    cases r
    exact ⟨_, Reads.none, by simp⟩
  | .bool b, _, _, .bl _, r => by
    cases r
    exact ⟨_, Reads.bool b, by simp⟩
  | .int i, _, _, .int _, r => by
    obtain ⟨t, rfl⟩ := r
    exact ⟨_, Reads.int i t, by simp⟩
  | .str x, _, _, .str _, r => by
    obtain ⟨t, rfl⟩ := r
    exact ⟨_, Reads.str x t, by simp⟩
  | .list ds, _, _, .lst n1 h hs, r => by
    cases r
    obtain ⟨its, rv, ⟨o, n, ho, hc, _, hd⟩, _⟩ := I.list (SqL.of h)
    obtain ⟨as, hr, ns⟩ := Dv.readsAll I ds _ its hs rv
    exact ⟨_, Reads.list ho hc hd hr, fun z => (List.mem_cons.mp z).elim (fun e => n1 e.symm) ns⟩
  | .tuple ds, _, _, .tup h hs, r => by
    cases r
    obtain ⟨its, rv, ⟨o, ho, hc, n, hd⟩, _⟩ := I.tuple (SqT.of h)
    obtain ⟨as, hr, ns⟩ := Dv.readsAll I ds _ its hs rv
    exact ⟨_, Reads.tuple ho hc hd hr, ns⟩
  | .dict [], _, _, .dk0 (a := a) h, r => by
    cases r
    obtain ⟨_, hne, vs, kv, o, es, ep, ho, hx, hd, hk, hp, hn⟩ := (show ObjOk X.prog X.w H s.heap a (.dK []) from I.hok a _ h)
    cases kv
    have he : es.toList = [] := by
      cases hE : es.toList with
      | nil => rfl
      | cons x y => rw [hE] at hp; cases hp
    refine ⟨_, Reads.dict (kvs := []) ho hx.1 hd (by rw [he]; exact .nil) (by rw [he]; exact .nil), ?_⟩
    intro z
    have z' : sysModules = a := by simpa using z
    rw [z'] at hne
    simp at hne
  | .dict [(.str x, d)], _, _, .dk1 (a := a) (v := v) h h2, r => by
    cases r
    obtain ⟨_, hne, vs, kv, o, es, ep, ho, hx, hd, hk, hp, hn⟩ := (show ObjOk X.prog X.w H s.heap a (.dK [(Sum.inr x, v)]) from I.hok a _ h)
    cases kv with
    | @cons _ q _ _ k1 k2 =>
      cases k2
      obtain ⟨qk, qv⟩ := q
      obtain ⟨ek, rv⟩ := k1
      dsimp only at ek rv
      subst ek
      obtain ⟨as, hr, ns⟩ := Dv.reads I d v qv h2 rv
      have hE : ∃ e t, es.toList = [e] ∧ e.key = .str x t ∧ e.val = qv := by
        generalize es.toList = l at hp
        cases hp with
        | @cons e _ es' _ hi hv hr =>
          cases hr
          rcases keyIs_shape (show keyIs (Sum.inr x) e.key = true from hi) with ⟨i, t, z, _⟩ | ⟨y, t, z, ev⟩
          · cases z
          · cases z
            exact ⟨e, t, rfl, ev, hv⟩
      obtain ⟨e, t, hE1, hE2, hE3⟩ := hE
      have q1 : ReadsAll s.heap (es.toList.map (·.key)) [PyData.str x] ([] ++ []) := by
        rw [hE1]
        simp only [List.map_cons, List.map_nil]
        rw [hE2]
        exact .cons (Reads.str x t) .nil
      have q2 : ReadsAll s.heap (es.toList.map (·.val)) [d] (as ++ []) := by
        rw [hE1]
        simp only [List.map_cons, List.map_nil]
        rw [hE3]
        exact .cons hr .nil
      refine ⟨_, Reads.dict (kvs := [(.str x, d)]) ho hx.1 hd q1 q2, fun z => ?_⟩
      have z' : sysModules = a ∨ sysModules ∈ as := by simpa using z
      rcases z' with z' | z'
      · rw [z'] at hne
        simp at hne
      · exact ns z'
theorem Dv.readsAll (I : Inv X pins σ H s) : ∀ (ds : List PyData) (vs : List V) (us : List Value), DvAll H vs ds → Vals vs us → ∃ as, ReadsAll s.heap us ds as ∧ sysModules ∉ as
  | [], _, _, .nil, r => by
    cases r
    exact ⟨_, ReadsAll.nil, by simp⟩
  | d :: ds, _, _, .cons h1 h2, r => by
    cases r with
    | cons r1 r2 =>
      obtain ⟨as, q1, n1⟩ := Dv.reads I d _ _ h1 r1
      obtain ⟨bs, q2, n2⟩ := Dv.readsAll I ds _ _ h2 r2
      exact ⟨_, ReadsAll.cons q1 q2, fun z => (List.mem_append.mp z).elim n1 n2⟩
end
end
/-- repr of such data -/
theorem repr_any {X : Cx} (gd : X.A.guards = some []) (hu : X.A.units + 70 < cLine) : CallR X (.builtin "repr") (fun xs H Q => ∃ (v : V) (d : PyData), xs = [v] ∧ Dv H v d ∧ d.showable = true ∧ d.depth ≤ 60 ∧ d.shown.length ≤ sizeLine ∧ Q (.str d.shown) H) := by
  intro pins s σ H xs us Q I rel h
  obtain ⟨v, d, rfl, dp, sw, dd, sz, hq⟩ := h
  obtain ⟨u, hu1, ru⟩ := vals1 rel
  subst hu1
  obtain ⟨as, rd, hsm⟩ := Dv.reads I d v u dp ru
  have big : ∀ a, u = Value.ref a → wpAny (model X.prog X.w) X.A (call (.builtin "repr") [u]) (EP X pins σ Q) X.xe s := fun a ea => by
    subst ea
    refine repr_of_reads' rd sw (fun _ => hsm) gd (by omega) (fun _ _ e => e) (fun h' u tk hk => ?_) sz
    exact ⟨.str d.shown, H, I.kept hk, ⟨u, rfl⟩, hq⟩
  cases dp with
  | non =>
    have eu : u = Value.none := ru
    subst eu
    exact PySem.P.repr_of_none ⟨.str "None", H, I.tok _, ⟨_, rfl⟩, hq⟩
  | bl b =>
    have eu : u = Value.bool b := ru
    subst eu
    refine PySem.P.repr_of_bool ⟨.str (if b then "True" else "False"), H, I.tok _, ⟨_, rfl⟩, ?_⟩
    cases b <;> exact hq
  | int i =>
    obtain ⟨t, rfl⟩ := ru
    refine PySem.P.repr_of_int (by simpa [PyData.showable] using sw) ⟨.str (toString i), H, I.tok _, ⟨_, rfl⟩, hq⟩
  | str x =>
    obtain ⟨t, rfl⟩ := ru
    exact PySem.P.repr_of_str ⟨.str (reprText x), H, I.tok _, ⟨_, rfl⟩, hq⟩ sz
  | lst _ h hs => exact big _ ru
  | tup h hs => exact big _ ru
  | dk0 h => exact big _ ru
  | dk1 h h2 => exact big _ ru
/-- the name of its type -/
def tyN : PyData → String
  | .none => "NoneType"
  | .bool _ => "bool"
  | .int _ => "int"
  | .str _ => "str"
  | .list _ => "list"
  | .tuple _ => "tuple"
  | .dict _ => "dict"
def isB : PyData → Bool
  | .bool _ => true
  | _ => false
def isIB : PyData → Bool
  | .bool _ => true
  | .int _ => true
  | _ => false
/-- an integer, not a bool -/
def isI : PyData → Bool
  | .int _ => true
  | _ => false
theorem Dv.ty {K : PySem.W.Frag} {H : Hp} {v : V} {d : PyData} (h : Dv H v d) : TyX K H v (.type (tyN d)) := by
  cases h with
  | non => exact .base .non
  | bl b => exact .base (.bl b)
  | int i => exact .base (.int i)
  | str x => exact .base (.str x)
  | lst _ h _ => exact .base (.lst h)
  | tup h _ => exact .base (.tup h)
  | dk0 h => exact .base (.dK h)
  | dk1 h _ => exact .base (.dK h)
theorem kit_int (d : PyData) : kitB (tyN d) "int" = some (isIB d) := by
  cases d
  · show kitB "NoneType" "int" = some false; decide +kernel
  · show kitB "bool" "int" = some true; decide +kernel
  · show kitB "int" "int" = some true; decide +kernel
  · show kitB "str" "int" = some false; decide +kernel
  · show kitB "list" "int" = some false; decide +kernel
  · show kitB "tuple" "int" = some false; decide +kernel
  · show kitB "dict" "int" = some false; decide +kernel
theorem kit_bool (d : PyData) : kitB (tyN d) "bool" = some (isB d) := by
  cases d
  · show kitB "NoneType" "bool" = some false; decide +kernel
  · show kitB "bool" "bool" = some true; decide +kernel
  · show kitB "int" "bool" = some false; decide +kernel
  · show kitB "str" "bool" = some false; decide +kernel
  · show kitB "list" "bool" = some false; decide +kernel
  · show kitB "tuple" "bool" = some false; decide +kernel
  · show kitB "dict" "bool" = some false; decide +kernel
/-- a new list is not where the modules are -/
def tLst1 (t : TA) : TE := fun σ H Q => t σ H fun xs H1 => xs.length ≤ sizeLine ∧ ∀ l, H1 l = none → l ≠ 1 → Q (.ref l) (upd H1 l (.lst xs))
theorem pe_lst1 {X : Cx} {es : List Expr} {t : TA} {pos : Pos} (h : L2.PA X es t) : PE X (.List es pos) (tLst1 t) := by
  constructor
  intro pins s σ H Q I hq
  refine wpAny_List_spliced (thn (h.run pos pins s σ H _ I hq) fun us s1 ⟨xs, H1, J, r, z, q⟩ => ?_)
  refine ⟨r.length ▸ z, ?_⟩
  have fresh := J.hok.fresh (Nat.le_refl s1.heap.objs.size)
  have n1 : s1.heap.objs.size ≠ 1 := by
    obtain ⟨o, _, _, e, _⟩ := J.mod.glob
    have lt := Heap.lt_size (J.bk _ _ e)
    intro c
    rw [c] at lt
    exact absurd lt (by decide)
  refine ⟨.ref s1.heap.objs.size, upd H1 s1.heap.objs.size (.lst xs), ?_, rfl, q _ fresh n1⟩
  exact J.laid (t' := s1.toks) (fun b u e => Heap.get?_push_of_some _ e) (Nat.le_refl _) ⟨z, us, 0, r, Heap.get?_push_size _ rfl⟩
end Lf
namespace Lf
open PySem PySem.Spec PyProof.Rows L2
/-! ### enumerate of a tuple; of a list or a tuple -/
set_option maxHeartbeats 4000000 in
theorem meets_enum1 {v : Value} {o : Obj} {G : Heap → Prop} (B : Begins v o G) :
    Meets (Builtin.«enumerate.__new__» ⟨[.type "enumerate", v], []⟩) (fun _ R s => G s.heap ∧
      R (.ok (.ret (.ref (s.heap.push o).objs.size))) { s with heap := (s.heap.push o).push { cls := .type "enumerate", data := .fields #[.none, .bool false, .ref s.heap.objs.size, rawInt 0, .none, .none] } }) :=
  .of_wp fun prog w A R s h => by
    obtain ⟨hp, g, d, tk, os⟩ := s
    obtain ⟨h1, h⟩ := h
    have hsub := sub_enumerate
    have q1 : ∀ {A' : Around} {E : Value → Shared → Prop} {Q : Value → Shared → Prop}, Q (.ref hp.objs.size) ⟨hp.push o, g, d, tk, os⟩ → wpAny (model prog w) A' (pyIter v) Q E ⟨hp, g, d, tk, os⟩ :=
      fun q => B.iter prog w _ _ ⟨hp, g, d, tk, os⟩ _ h1 q
    wp_walk using q1
    refine wpAny_stack_any fun st => wpAny_pure ?_
    split
    · rename_i c _ _ _ _ _
      cases (c == Value.type "enumerate")
      · wp_walk using q1
        exact ⟨_, rfl, h⟩
      · wp_walk using q1
        exact ⟨_, rfl, h⟩
    · wp_walk using q1
      exact ⟨_, rfl, h⟩
theorem enum_begins1 {prog : Program} {w : World} {A : Around} {E : Value → Shared → Prop} {s : Shared} {v : Value} {o : Obj} {G : Heap → Prop} {Q : Value → Shared → Prop} (B : Begins v o G) (h1 : G s.heap)
    (h : ∀ h', IsEnum h' (s.heap.objs.size + 1) s.heap.objs.size 0 .none → h'.get? s.heap.objs.size = some o → h'.objs.size = s.heap.objs.size + 2 →
      (∀ b o, s.heap.get? b = some o → h'.get? b = some o) → Q (.ref (s.heap.objs.size + 1)) { s with heap := h' }) :
    wpAny (model prog w) A (call (.type "enumerate") [v]) Q E s := by
  refine callType_new F.called_enumerate (by decide) (F.typeCall_enumerate_1 _) (F.newCall_enumerate_1 _) (fun obj => F.args_object_init_2 obj _) F.entry_enumerate_new
    (meets_enum1 B) ⟨h1, ?_⟩
  have hz : (s.heap.push o).objs.size = s.heap.objs.size + 1 := Heap.size_push ..
  show _ ∧ _
  rw [hz]
  have he : IsEnum ((s.heap.push o).push { cls := .type "enumerate", data := .fields #[.none, .bool false, .ref s.heap.objs.size, rawInt 0, .none, .none] }) (s.heap.objs.size + 1) s.heap.objs.size 0 .none := by
    have := Heap.get?_push_size (s.heap.push o) (o := { cls := .type "enumerate", data := .fields #[.none, .bool false, .ref s.heap.objs.size, rawInt 0, .none, .none] }) rfl
    rw [hz] at this
    exact this
  exact ⟨⟨_, he, rfl⟩, h _ he (Heap.get?_push_of_some _ (Heap.get?_push_size _ B.free)) (by rw [Heap.size_push, hz]) fun b o x => Heap.get?_push_of_some _ (Heap.get?_push_of_some _ x)⟩
def IteT (K : PySem.W.Frag) (a : Addr) : It :=
  ⟨fun i H => ∃ (xs : List V) (x : V), SqT K H a xs ∧ xs[i]? = some x, fun i H v H' => ∃ T x, v = .ref T ∧ H T = none ∧ H' = upd H T (.tup [.int (i : Nat), x]) ∧ ∀ xs, SqT K H a xs → xs[i]? = some x, fun i H => ∃ xs : List V, SqT K H a xs ∧ xs.length = i⟩
theorem turn_enumT {P : Program} {w : World} {K : PySem.W.Frag} {elts : List Expr} {kk : Nat} {tpos : Pos} (a e it : Addr) (ne1 : e ≠ it) (ne2 : a ≠ it) (ne3 : e ≠ a) :
    Turn P w K (.Tuple elts kk tpos) (IteT K a) [e, it] e (fun i h => (∃ old, IsEnum h e it ((i : Nat) : Int) old) ∧ h.IsTupleIter it a i) where
  mem := by simp
  obj := fun i h st b hb => by
    obtain ⟨⟨old, he⟩, ⟨o, ho, hc, hd⟩⟩ := st
    have e' : b = e ∨ b = it := by simpa using hb
    rcases e' with z | z
    · rw [z]; exact ⟨_, he, fun v q => nomatch q⟩
    · rw [z]; exact ⟨o, ho, fun v q => by rw [hd] at q; cases q⟩
  keep := fun i h h' st k => let ⟨⟨old, he⟩, hi⟩ := st; ⟨⟨old, k e (by simp) _ he⟩, hi.at fun o q => k it (by simp) o q⟩
  item := by
    intro X hP hw hK hc i pins s σ H E I hf st hg
    subst hP hw hK
    obtain ⟨⟨old, he⟩, hit⟩ := st
    obtain ⟨xs, x, hq, hx⟩ := hg
    obtain ⟨its, rv, p, hz⟩ := I.tuple hq
    obtain ⟨u, hu, ru⟩ := rv.get hx
    have hel : e < s.heap.objs.size := Heap.lt_size he
    have hil : it < s.heap.objs.size := by obtain ⟨_, q, _⟩ := hit; exact Heap.lt_size q
    have hlt : i < its.toArray.size := by
      have := (List.getElem?_eq_some_iff.mp hu).1
      simpa using this
    have D := Draws.tuple (prog := X.prog) (w := X.w) (A := X.A.in1) (I.ok.hd hc) it a ne2 its.toArray
    refine wpAny_pyNext_enum_itemD D he ⟨hit, p⟩ hlt ne1 (by simp [ne1, ne3]) fun x' h' tk hP ho hit' hT hsz hk => ?_
    have eu : x' = u := by
      have hP : its.toArray[i]? = some x' := hP
      rw [show its.toArray[i]? = some u by simpa using hu] at hP
      exact (Option.some.inj hP).symm
    subst eu
    refine ⟨_, rfl, wpAny_letOwnedTupleGo_enum (s := { s with heap := h', toks := tk + 1 }) ho fun h'' he' sb => ?_⟩
    have hT2 : h''.get? s.heap.objs.size = some { cls := .type "tuple", data := .seq #[.int i tk, x'] } := (sb.2 _ (Nat.ne_of_gt hel)).trans hT
    have new : ObjOk X.prog X.w (upd H s.heap.objs.size (.tup [.int (i : Nat), x])) h'' s.heap.objs.size (.tup [.int (i : Nat), x]) :=
      ⟨by show 2 ≤ sizeLine; decide, [.int i tk, x'], .cons ⟨_, rfl⟩ (.cons ru .nil), ⟨_, hT2, rfl, _, rfl⟩⟩
    have I1 : Inv X pins σ (upd H s.heap.objs.size (.tup [.int (i : Nat), x])) { s with heap := h'', toks := tk + 1 } :=
      I.turnedNew (ch := [e, it]) (fun b ob hb q => (sb.2 b (fun z => hb (by simp [z]))).trans (hk b ob (fun z => hb (by simp [z])) (fun z => hb (by simp [z])) q)) hf (Nat.le_refl _) new
    refine ⟨.ref s.heap.objs.size, _, I1, rfl, ⟨_, x, rfl, I.hok.fresh (Nat.le_refl _), rfl, fun ys hy => by rw [I.tuple_inj hy hq]; exact hx⟩, ⟨⟨x', ?_⟩, hit'.1.at fun o q => (sb.2 it (Ne.symm ne1)).trans q⟩, fun b hb => ?_⟩
    · have e1 : ((i + 1 : Nat) : Int) = (i : Int) + 1 := by omega
      rw [e1]; exact he'
    · have hb' : b < s.heap.objs.size := by
        have e' : b = e ∨ b = it := by simpa using hb
        rcases e' with z | z
        · rw [z]; exact hel
        · rw [z]; exact hil
      rw [upd_ne (Nat.ne_of_lt hb')]
      exact (hf b hb).1
  done := by
    intro X hP hw hK hc i pins s σ H E I hf st hg
    subst hP hw hK
    obtain ⟨⟨old, he⟩, hit⟩ := st
    obtain ⟨xs, hq, hx⟩ := hg
    obtain ⟨its, rv, p, hz⟩ := I.tuple hq
    obtain ⟨f0, f1, f2, f3, f4, f5⟩ := hf it (by simp)
    have hl := rv.length
    have ei : i = its.toArray.size := by
      simp
      omega
    have D := Draws.tuple (prog := X.prog) (w := X.w) (A := X.A.in1) (I.ok.hd hc) it a ne2 its.toArray
    refine wpAny_pyNext_enum_endD D he ⟨ei ▸ hit, p⟩ fun h' eb => ⟨rfl, I.turned (t' := s.toks) (fun b o hb q => eb b o hb q) f0 f1 f3 f4 f5⟩
  self := fun A i s Q E st h => let ⟨⟨_, he⟩, _⟩ := st; wpAny_pyIter_enum he h
/-! ### a list or a tuple -/
def SqB (K : PySem.W.Frag) : Bool → Hp → Addr → List V → Prop
  | true => SqL K
  | false => SqT K
def sqO : Bool → List V → HO
  | true, xs => .lst xs
  | false, xs => .tup xs
theorem SqB.of {K : PySem.W.Frag} {b : Bool} {H : Hp} {a : Addr} {xs : List V} (h : H a = some (sqO b xs)) : SqB K b H a xs := by
  cases b
  · exact SqT.of h
  · exact SqL.of h
def Itb (K : PySem.W.Frag) : Bool → Addr → It
  | true => Itl K
  | false => Itt K
def IteB (K : PySem.W.Frag) : Bool → Addr → It
  | true => Ite K
  | false => IteT K
theorem walk_seq {K : PySem.W.Frag} {b : Bool} {a : Addr} {xs : List V} : Walk (Itb K b a) xs.length (fun H => SqB K b H a xs) (YAt xs) := by
  cases b
  · exact walk_tup
  · exact walk_list
theorem walk_enumT {K : PySem.W.Frag} {a : Addr} {xs : List V} : Walk (IteT K a) xs.length (fun H => SqT K H a xs) (YPair (fun i => some (.int (i : Nat))) (fun i => xs[i]?)) := by
  refine ⟨fun i _ hi q => ⟨xs, xs[i], q, by simp [hi]⟩, fun _ q => ⟨xs, q, rfl⟩, fun i H v H' _ q y => ?_⟩
  obtain ⟨T, x, h1, h2, h3, h4⟩ := y
  exact ⟨T, .int (i : Nat), x, h1, h2, h3, rfl, h4 xs q⟩
theorem walk_enumB {K : PySem.W.Frag} {b : Bool} {a : Addr} {xs : List V} : Walk (IteB K b a) xs.length (fun H => SqB K b H a xs) (YPair (fun i => some (.int (i : Nat))) (fun i => xs[i]?)) := by
  cases b
  · exact walk_enumT
  · exact walk_enum
def iSeq (K : PySem.W.Frag) (tl : TE) : TI := fun σ H R => tl σ H fun x H1 => ∃ a b xs, x = .ref a ∧ SqB K b H1 a xs ∧ R (Itb K b a) H1
theorem pi_seq {X : Cx} {tg l : Expr} {tl : TE} (hl : PE X l tl) : PI X tg l (iSeq X.K tl) := by
  refine ⟨fun pins s σ H R I h => ?_⟩
  refine thn (hl.run pins s σ H _ I h) fun v s1 ⟨x, H1, I1, r1, q1⟩ => ?_
  obtain ⟨a, b, xs, e, hq, q⟩ := q1
  subst e
  cases r1
  cases b with
  | true =>
    obtain ⟨its, rv, p, hz⟩ := I1.list hq
    refine wpAny_pyIter_list p.isList ?_
    refine ⟨s1.heap.objs.size, [s1.heap.objs.size], _, _, H1, rfl, I1.kept (t' := s1.toks) fun b o e => Heap.get?_push_of_some _ e, turn_list a _, ⟨_, Heap.get?_push_size _ rfl, rfl, rfl⟩, fun b hb => ?_, q⟩
    have e : b = s1.heap.objs.size := by simpa using hb
    subst e
    exact I1.fpOk (Nat.le_refl _) (I1.hok.fresh (Nat.le_refl _))
  | false =>
    obtain ⟨its, rv, p, hz⟩ := I1.tuple hq
    refine wpAny_pyIter_tuple (show s1.heap.IsTuple a its.toArray from p) ?_
    refine ⟨s1.heap.objs.size, [s1.heap.objs.size], _, _, H1, rfl, I1.kept (t' := s1.toks) fun b o e => Heap.get?_push_of_some _ e, turn_tuple a _, ⟨_, Heap.get?_push_size _ rfl, rfl, rfl⟩, fun b hb => ?_, q⟩
    have e : b = s1.heap.objs.size := by simpa using hb
    subst e
    exact I1.fpOk (Nat.le_refl _) (I1.hok.fresh (Nat.le_refl _))
def iEnumB (K : PySem.W.Frag) (ta : TA) : TI := fun σ H R => ta σ H fun vs H1 => ∃ a b xs, vs = [.ref a] ∧ SqB K b H1 a xs ∧ R (IteB K b a) H1
theorem pi_enumB {X : Cx} {e : Expr} {ta : TA} {p pos tpos : Pos} {elts : List Expr} {kk : Nat} (hg : Gl X "enumerate") (hm : X.mg "enumerate" = none) (ha : L2.PA X [e] ta) (hs : starEach [e] X.env = [(false, eval e X.env)] := by rfl) :
    PI X (.Tuple elts kk tpos) (.Call (.Name "enumerate" p) [e] [] pos) (iEnumB X.K ta) := by
  refine ⟨fun pins s σ H R I h => ?_⟩
  refine Call_ (ld_blt I hg hm boot_enumerate (PyProof.Rows.callWith_type1 (thn (ha.run pos pins s σ H _ I h) fun us s1 ⟨vs, H1, I1, r1, q1⟩ => ?_) hs rfl))
  obtain ⟨a, b, xs, ex, hq, q⟩ := q1
  subst ex
  cases r1 with
  | cons r rr =>
    cases rr
    cases r
    cases b with
    | true =>
      obtain ⟨its, rv, p', hz⟩ := I1.list hq
      refine call_enumerate_list p'.isList fun h' he hit hsz hk => wpAny_pyIter_enum he ?_
      have I2 : Inv X pins σ H1 { s1 with heap := h' } := I1.kept (t' := s1.toks) hk
      refine ⟨s1.heap.objs.size + 1, [s1.heap.objs.size + 1, s1.heap.objs.size], _, _, H1, rfl, I2, turn_enum a (s1.heap.objs.size + 1) s1.heap.objs.size, ⟨⟨.none, he⟩, hit, Nat.succ_ne_self _⟩, fun b hb => ?_, q⟩
      have e' : b = s1.heap.objs.size + 1 ∨ b = s1.heap.objs.size := by simpa using hb
      have hle : s1.heap.objs.size ≤ b := by
        rcases e' with z | z
        · rw [z]; exact Nat.le_add_right _ _
        · rw [z]; exact Nat.le_refl _
      exact I1.fpOk hle (I1.hok.fresh hle)
    | false =>
      obtain ⟨its, rv, p', hz⟩ := I1.tuple hq
      have hal : a < s1.heap.objs.size := by
        obtain ⟨_, q, _⟩ := p'
        exact Heap.lt_size q
      refine enum_begins1 (begins_tuple a its.toArray) p' fun h' he hit hsz hk => wpAny_pyIter_enum he ?_
      have I2 : Inv X pins σ H1 { s1 with heap := h' } := I1.kept (t' := s1.toks) hk
      refine ⟨s1.heap.objs.size + 1, [s1.heap.objs.size + 1, s1.heap.objs.size], _, _, H1, rfl, I2, turn_enumT a (s1.heap.objs.size + 1) s1.heap.objs.size (Nat.succ_ne_self _) (Nat.ne_of_lt hal) (Nat.ne_of_gt (Nat.lt_succ_of_lt hal)), ⟨⟨.none, he⟩, ⟨_, hit, rfl, rfl⟩⟩, fun b hb => ?_, q⟩
      have e' : b = s1.heap.objs.size + 1 ∨ b = s1.heap.objs.size := by simpa using hb
      have hle : s1.heap.objs.size ≤ b := by
        rcases e' with z | z
        · rw [z]; exact Nat.le_add_right _ _
        · rw [z]; exact Nat.le_refl _
      exact I1.fpOk hle (I1.hok.fresh hle)
end Lf
namespace Lf
open PySem PySem.Spec PyProof.Rows L2
section
variable {P : Program} {w : World} {K : PySem.W.Frag} {mg : Str → Option Value} {base : Heap}
/-! ### _law_draw -/
theorem at_mod (cs : List Int) (t : Int) (h : cs ≠ []) : ∃ c, atI (cs.map V.int) (t % ((cs.map V.int).length : Int)) = some (.int c) := by
  have hl : 0 < cs.length := List.length_pos_iff.mpr h
  rw [List.length_map]
  have h0 := Int.emod_nonneg t (show (cs.length : Int) ≠ 0 by omega)
  have h1 := Int.emod_lt_of_pos t (show (0 : Int) < cs.length by omega)
  generalize t % (cs.length : Int) = i at h0 h1
  obtain ⟨j, rfl⟩ := Int.eq_ofNat_of_zero_le h0
  have hj : j < cs.length := by omega
  refine ⟨cs[j], atI_nat ?_⟩
  rw [List.getElem?_map, List.getElem?_eq_getElem hj]
  rfl
theorem dp_ints {K : PySem.W.Frag} {H : Hp} : ∀ cs : List Int, DpAll K H (cs.map V.int) (cs.map PyData.int)
  | [] => .nil
  | c :: r => .cons (.int c) (dp_ints r)
theorem sh_ints (cs : List Int) : SeqAt.shaped (.list (cs.map PyData.int)) = true := by
  have h : ∀ cs : List Int, PyData.canLayAll0 (cs.map PyData.int) = true ∧ PyData.depthAll (cs.map PyData.int) = 0 := by
    intro cs
    induction cs with
    | nil => exact ⟨rfl, rfl⟩
    | cons c r ih => exact ⟨by simpa [PyData.canLayAll0, PyData.canLay0] using ih.1, by simpa [PyData.depthAll, PyData.depth] using ih.2⟩
  simp [SeqAt.shaped, PyData.canLay0, PyData.depth, (h cs).1, (h cs).2]
def spDraw : Sp := fun vs H Q _ => ∃ (a : PA) (n : Nat) (many : Int), vs = [.ref a, .int many] ∧ Pen H a n ∧ n < 2 ^ 40 ∧ 0 < many ∧ Bd 9000 many ∧
  ∀ d H', 0 ≤ d → d < many → Pen H' a (n + 1) → Fr H H' → Q (.int d) H'
end
end Lf
namespace Lf
open PySem PySem.Spec PyProof.Rows L2
/-! ### powers of any size that fits -/
def CPowW (i j : Int) : Prop := 0 ≤ j ∧ (Builtin.Int.intBits i : Int) * j ≤ 2 ^ 27
theorem op_powW {X : Cx} : OpR X (binaryOp .Pow) (rI CPowW fun i j => .int (i ^ j.toNat)) := opI fun _ _ _ _ _ _ _ hc q => pow_int hc.1 hc.2 q
section
variable {P : Program} {w : World} {K : PySem.W.Frag} {mg : Str → Option Value} {base : Heap}
/-! ### _law_start -/
def spStart (K : PySem.W.Frag) : Sp := fun vs H Q _ => ∃ (s : Addr) (ns : List Int), vs = [.ref s] ∧ SqL K H s (ns.map V.int) ∧ ∀ (a : PA) H', Pen H' a 0 → Same H H' → Q (.ref a) H'
abbrev s_l_start : Stmt := topS 22
abbrev N_l_start : List Str := ["_law_script", "_law_limit", "_law_cell"]
abbrev P_l_start : List Str := ["_law_script"]
theorem sc_l_start : FnScope N_l_start P_l_start (defScope s_l_start) := ⟨rfl, rfl, rfl, by decide +kernel, rfl, by decide +kernel, by decide +kernel⟩
theorem ok_l_start (D : Df K mg "_law_start" s_l_start P_l_start) (B : Bi mg) : C8.Cal P w K mg base 1 "_law_start" (spStart K) [] := by
  refine cal_of D sc_l_start (fun vs H Q E h => ?_) (fun f cdv A outer s H vs Q E hr h => ?_)
  · obtain ⟨a, ns, rfl, _⟩ := h
    rfl
  · obtain ⟨a, ns, rfl, hS, q⟩ := h
    refine ⟨_, (C8.pss_cut (ps_set (i := 1) sc_l_start.nd rfl (Or.inr rfl) (pe_op op_powW (pe_op op_pow pe_int pe_int) pe_int))
    (pss_one (ps_ret (pe_disp (pps_cons pe_str (pe_lc (own := [("_law_cell", 2)]) (g := (gName 2)) (by rfl) sc_l_start.nd (pi_list (pe_slice sl_list (pv 0) po_none (po_some pe_int))) (blkOk_by (own := [("_law_cell", 2)]) (N := N_l_start) (sc := defScope s_l_start) (by decide +kernel)) (fun _ _ _ _ _ => (pg_name (i := 2) sc_l_start.nd rfl (Or.inl rfl))) (fun _ _ _ _ _ => pts_nil) (fun _ _ _ _ _ => (pe_ifExp (pt_cmpR op_ge (pe_callB (call_abs) (by rfl) B.abs_ bt_abs (pa_cons (pv 2) pa_nil)) (pe_op op_pow pe_int pe_int) (nomark _)) (pe_op op_mod (pe_callB (call_abs) (by rfl) B.abs_ bt_abs (pa_cons (pv 2) pa_nil)) (pv 1)) (pv 2)))) (pps_cons pe_str pe_int (pps_cons pe_str pe_int pps_nil))) (by rfl) (by rfl) (fun z => by cases z) (by decide))))), ?_⟩
    refine ⟨fun σ' H' => ∃ lim : Int, 0 < lim ∧ σ' = [some (.ref a), some (.int lim), none] ∧ H' = H, ?_, ?_⟩
    · refine ⟨_, _, rfl, rfl, ⟨by decide, by decide, by decide⟩, _, _, rfl, rfl, ⟨by decide, by decide +kernel⟩, ?_⟩
      exact ⟨_, Int.pow_pos (Int.pow_pos (by decide)), rfl, rfl⟩
    rintro σ' H1 ⟨lim, l0, rfl, rfl⟩
    refine fun p np => ?_
    have s1 : Same H1 (upd H1 p (.dK [])) := sm_upd np
    have ep := upd_same (H := H1) (a := p) (o := .dK [])
    refine ⟨_, rfl, 63, rfl, a, _, rfl, s1.seq hS, fun c nc => ?_⟩
    obtain ⟨cs, ec, hc⟩ := cut_ints ns
    rw [ec]
    have s2 := sm_upd (o := .lst (cs.map V.int)) nc
    have ec2 := upd_same (H := upd H1 p (.dK [])) (a := c) (o := .lst (cs.map V.int))
    have ep := s2 _ _ ep
    have s12 := s1.trans s2
    generalize upd (upd H1 p (.dK [])) c (.lst (cs.map V.int)) = H2 at ep ec2 s12 ⊢
    refine ⟨c, rfl, ⟨_, SqL.of ec2⟩, fun Y nY => ?_⟩
    have npY : p ≠ Y := ne_of_none ep nY
    refine lc_it (walk_list (K := K) (a := c) (xs := cs.map V.int)) (fun i H' => ∃ zs : List Int, H' Y = some (.lst (zs.map V.int)) ∧ zs.length ≤ i ∧ Same H2 H') ⟨[], upd_same, Nat.le_refl _, sm_upd nY⟩ ?_ ?_ ?_
    · rintro i H7 _ ⟨_, _, _, s7⟩
      exact SqL.of (s7 _ _ ec2)
    · rintro i x _ H7 hi ⟨zs, eY, lz, s7⟩ ⟨rfl, hx⟩
      have hi6 : i < cs.length := by
        have := (List.getElem?_eq_some_iff.mp hx).1
        rwa [List.length_map] at this
      obtain ⟨z, rfl⟩ : ∃ z, x = V.int z := by
        obtain ⟨z, _, e⟩ := List.mem_map.mp (List.mem_of_getElem? hx)
        exact ⟨z, e.symm⟩
      have fin : ∀ y : Int, ∃ acc, H7 Y = some (.lst acc) ∧ acc.length < sizeLine ∧ (fun i H' => ∃ zs : List Int, H' Y = some (.lst (zs.map V.int)) ∧ zs.length ≤ i ∧ Same H2 H') (i + 1) (upd H7 Y (.lst (acc ++ [.int y]))) := fun y => by
        refine ⟨zs.map V.int, eY, small1000 (by rw [List.length_map]; omega), zs ++ [y], ?_, by rw [List.length_append]; show zs.length + 1 ≤ _; omega, fun b o eb => ?_⟩
        · rw [upd_same, List.map_append]
          rfl
        · rw [upd_ne (ne_of_none eb nY)]
          exact s7 _ _ eb
      refine ⟨rfl, _, rfl, z, rfl, _, _, rfl, rfl, ⟨by decide, by decide, by decide⟩, _, _, rfl, rfl, _, rfl, ite2 (fun _ => ?_) (fun _ => ?_)⟩
      · refine ⟨_, rfl, z, rfl, _, rfl, _, _, rfl, rfl, l0, ?_⟩
        exact fin _
      · exact ⟨_, rfl, fin _⟩
    rintro H7 ⟨zs, eY, lz, s7⟩
    have lz : zs.length ≤ 63 := by rw [List.length_map] at lz; omega
    refine ⟨s7 _ _ ep, penD Y 0 0, rfl, by show 3 ≤ 15; decide, ?_⟩
    have e : mergeK [] (penD Y 0 0) = penD Y 0 0 := by
      simp [mergeK, penD, putK, sct, scr, str_]
    rw [e]
    refine q ⟨p, Y⟩ _ ⟨zs, 0, 0, upd_same, ?_, lz, by omega, by omega, by omega⟩ ?_
    · show upd _ p _ Y = _
      rw [upd_ne npY.symm]
      exact eY
    · intro b o eb
      rw [upd_ne (ne_of_none eb np)]
      exact s7 _ _ (s12 _ _ eb)
/-! ### _law_draw -/
abbrev s_l_draw : Stmt := topS 23
abbrev N_l_draw : List Str := ["_law_state", "_law_size", "_law_digit", "_law_at", "_law_cell", "_law_mixed", "_law_step"]
abbrev P_l_draw : List Str := ["_law_state", "_law_size"]
theorem sc_l_draw : FnScope N_l_draw P_l_draw (defScope s_l_draw) := ⟨rfl, rfl, rfl, by decide +kernel, rfl, by decide +kernel, by decide +kernel⟩
theorem ok_l_draw (D : Df K mg "_law_draw" s_l_draw P_l_draw) (B : Bi mg) : C8.Cal P w K mg base 1 "_law_draw" spDraw [] := by
  refine cal_of D sc_l_draw (fun vs H Q E h => ?_) (fun f cdv A outer s H vs Q E hr h => ?_)
  · obtain ⟨a, n, many, rfl, _⟩ := h
    rfl
  · obtain ⟨⟨a, l⟩, n, many, rfl, hP, hn, h0, hb, q⟩ := h
    have hu := hu_of hr
    have hd : CDivW 0 many := ⟨h0, hb.log (by decide)⟩
    obtain ⟨cs, t, r, ea, el, hl, ht0, htn, hr0⟩ := hP.ex
    have ea : H a = some (.dK (penD l t r)) := ea
    have el : H l = some (.lst (cs.map V.int)) := el
    refine ⟨_, (pss_cons (ps_if (pt_cmpR op_gt (pe_dget hu (pv 0) pe_str (fun _ _ => rfl)) pe_int (nomark _))
      (pss_cons (ps_set (i := 2) sc_l_draw.nd rfl (Or.inl rfl) (pe_op op_mod (pe_dget hu (pv 0) pe_str (fun _ _ => rfl)) (pv 1)))
    (pss_cons (ps_dput hu (pv 0) pe_str (pe_op op_fdivW (pe_dget hu (pv 0) pe_str (fun _ _ => rfl)) (pv 1)) rfl)
    (pss_one (ps_ret (pv 2)))))
      pss_nil)
    (pss_cons (ps_set (i := 3) sc_l_draw.nd rfl (Or.inl rfl) (pe_dget hu (pv 0) pe_str (fun _ _ => rfl)))
    (pss_cons (ps_dput hu (pv 0) pe_str (pe_op op_add (pv 3) pe_int) rfl)
    (C8.pss_cut (ps_set (i := 4) sc_l_draw.nd rfl (Or.inl rfl) (pe_op op_add (pe_op op_mul (pv 3) (pv 3)) pe_int))
    (C8.pss_cut (ps_if (pt_cmpR (op_neD hr.units) (pe_dget hu (pv 0) pe_str (fun _ _ => rfl)) (pe_lst pa_nil) (nomark _))
      (pss_one (ps_set (i := 4) sc_l_draw.nd rfl (Or.inl rfl) (pe_ix (r := rIxL K) ix_list (pe_dget hu (pv 0) pe_str (fun _ _ => rfl)) (pe_op op_mod (pv 3) (pe_callB (call_len_seq) (by rfl) B.len_ bt_len (pa_cons (pe_dget hu (pv 0) pe_str (fun _ _ => rfl)) pa_nil))) (fun _ _ => rfl))))
      pss_nil)
    (C8.pss_cut (ps_if (PW.pt (pw_and (pt_cmpR op_lt (pv 3) (pe_callB (call_len_seq) (by rfl) B.len_ bt_len (pa_cons (pe_dget hu (pv 0) pe_str (fun _ _ => rfl)) pa_nil)) (nomark _)) (pw_and1 (pt_cmpR op_ge (pv 4) (pe_op op_pow pe_int pe_int) (nomark _)))))
      (pss_cons (ps_dput hu (pv 0) pe_str (pe_op op_fdivW (pv 4) (pv 1)) rfl)
    (pss_one (ps_ret (pe_op op_mod (pv 4) (pv 1)))))
      pss_nil)
    (C8.pss_cut (ps_set (i := 5) sc_l_draw.nd rfl (Or.inl rfl) (pe_op op_mod (pe_op op_mul (pe_op op_add (pe_op op_add (pe_op op_mod (pv 4) pe_int) (pe_op op_mul pe_int (pv 3))) pe_int) pe_int) pe_int))
    (C8.pss_cut (ps_for PassesOwn.never rfl (pi_range1 rfl B.range_ (pa_cons pe_int pa_nil)) (pg_name (i := 6) sc_l_draw.nd rfl (Or.inl rfl))
      (pss_cons (ps_set (i := 5) sc_l_draw.nd rfl (Or.inl rfl) (pe_op op_add (pe_op op_add (pe_op op_add (pe_op op_mul (pv 5) (pv 5)) (pe_op op_mul pe_int (pv 5))) (pv 3)) (pv 6)))
    (pss_one (ps_set (i := 5) sc_l_draw.nd rfl (Or.inl rfl) (pe_op op_mod (pv 5) pe_int)))))
    (pss_one (ps_ret (pe_op op_mod (pe_op op_fdiv (pv 5) pe_int) (pv 1)))))))))))), ?_⟩
    refine ⟨_, rfl, a, _, rfl, dg_rest ea, _, _, rfl, rfl, _, rfl, ite2 (fun e => ?_) (fun e => ?_)⟩
    · refine ⟨_, rfl, a, _, rfl, dg_rest ea, _, rfl, _, _, rfl, rfl, h0, ?_⟩
      refine ⟨_, rfl, a, _, rfl, dg_rest ea, _, rfl, _, _, rfl, rfl, hd, _, rfl, a, _, rfl, dp_rest ea, ?_⟩
      refine ⟨_, rfl, ?_⟩
      exact q _ _ (Int.emod_nonneg _ (by omega)) (Int.emod_lt_of_pos _ h0) (Pen.put ea el hl ht0 (by omega) (Int.ediv_nonneg hr0 (by omega))) (Fr.dict ea)
    · refine ⟨_, rfl, a, _, rfl, dg_turn ea, ?_⟩
      refine ⟨_, rfl, _, _, rfl, rfl, _, rfl, a, _, rfl, dp_turn ea, ?_⟩
      have ea1 : upd H a (.dK (penD l (t + 1) r)) a = some (.dK (penD l (t + 1) r)) := upd_same
      have nla : l ≠ a := ne_of el ea (by intro z; cases z)
      have el1 : upd H a (.dK (penD l (t + 1) r)) l = some (.lst (cs.map V.int)) := by rw [upd_ne nla]; exact el
      have f1 : Fr H (upd H a (.dK (penD l (t + 1) r))) := Fr.dict ea
      generalize upd H a (.dK (penD l (t + 1) r)) = H1 at ea1 el1 f1
      refine ⟨fun σ' H' => ∃ c : Int, σ' = [some (.ref a), some (.int many), none, some (.int t), some (.int c), none, none] ∧ H1 = H', ?_, ?_⟩
      · exact ⟨_, rfl, _, rfl, _, _, rfl, rfl, .inl ⟨by omega, by omega⟩, _, _, rfl, rfl, _, rfl, rfl⟩
      rintro σ' H' ⟨c0, rfl, rfl⟩
      refine ⟨fun σ' H' => ∃ c : Int, σ' = [some (.ref a), some (.int many), none, some (.int t), some (.int c), none, none] ∧ Same H1 H', ?_, ?_⟩
      · refine ⟨_, rfl, a, _, rfl, dg_cells ea1, Nat.zero_le _, fun p np => ?_⟩
        have s1 : Same H1 (upd H1 p (.lst [])) := sm_upd np
        refine ⟨.list (cs.map PyData.int), .list [], Dp.lst (SqL.of (s1 _ _ el1)) (dp_ints cs), Dp.lst (SqL.of upd_same) .nil, sh_ints cs, rfl, _, rfl, ?_⟩
        by_cases hc : cs = []
        · subst hc
          exact iteF ⟨_, rfl, s1⟩
        · obtain ⟨c, r', rfl⟩ : ∃ c r', cs = c :: r' := by
            cases cs with
            | nil => exact absurd rfl hc
            | cons c r' => exact ⟨c, r', rfl⟩
          refine iteT ?_
          obtain ⟨v, hv⟩ := at_mod (c :: r') t hc
          refine ⟨_, rfl, a, _, rfl, dg_cells (s1 _ _ ea1), _, rfl, _, rfl, a, _, rfl, dg_cells (s1 _ _ ea1), l, _, rfl, .inl (SqL.of (s1 _ _ el1)), _, _, rfl, rfl, ?_, l, _, _, _, rfl, rfl, SqL.of (s1 _ _ el1), hv, ?_⟩
          · show (0 : Int) < (((c :: r').map V.int).length : Int)
            rw [List.length_map, List.length_cons]
            omega
          · exact ⟨v, rfl, s1⟩
      rintro σ' H2 ⟨c, rfl, s2⟩
      have ea2 := s2 _ _ ea1
      have el2 := s2 _ _ el1
      have f2 : Fr H H2 := f1.trans (Fr.same s2)
      refine ⟨fun σ' H' => σ' = [some (.ref a), some (.int many), none, some (.int t), some (.int c), none, none] ∧ H2 = H', ?_, ?_⟩
      · refine ⟨_, rfl, _, rfl, a, _, rfl, dg_cells ea2, l, _, rfl, .inl (SqL.of el2), _, _, rfl, rfl, _, rfl, ite2 (fun e1 => ?_) (fun e1 => ?_)⟩
        · refine ⟨_, rfl, _, _, rfl, rfl, ⟨by decide, by decide, by decide⟩, _, _, rfl, rfl, _, rfl, ite2 (fun e2 => ?_) (fun e2 => ?_)⟩
          · have e3 := of_decide_eq_true e2
            have p18 : (0 : Int) ≤ 10 ^ (18 : Int).toNat := by decide
            have c0' : 0 ≤ c := Int.le_trans p18 e3
            refine ⟨_, rfl, _, rfl, _, _, rfl, rfl, hd, _, rfl, a, _, rfl, dp_rest ea2, ?_⟩
            refine ⟨_, rfl, _, rfl, _, _, rfl, rfl, h0, ?_⟩
            exact q _ _ (Int.emod_nonneg _ (by omega)) (Int.emod_lt_of_pos _ h0) (Pen.put ea2 el2 hl (by omega) (by omega) (Int.ediv_nonneg (by omega) (by omega))) (f2.trans (Fr.dict ea2))
          · exact ⟨rfl, rfl⟩
        · exact iteF ⟨rfl, rfl⟩
      rintro σ' H' ⟨rfl, rfl⟩
      have mlt : (0 : Int) < 4294967311 := by decide
      have md : ∀ x : Int, 0 ≤ x % 4294967311 ∧ x % 4294967311 < 4294967311 := fun x => ⟨Int.emod_nonneg _ (by decide), Int.emod_lt_of_pos _ mlt⟩
      refine ⟨fun σ' H' => ∃ m : Int, 0 ≤ m ∧ m < 4294967311 ∧ σ' = [some (.ref a), some (.int many), none, some (.int t), some (.int c), some (.int m), none] ∧ H2 = H', ?_, ?_⟩
      · refine ⟨_, rfl, _, _, rfl, rfl, mlt, _, rfl, _, _, rfl, rfl, .inl ⟨by decide, by decide⟩, _, _, rfl, rfl, _, _, rfl, rfl, _, _, rfl, rfl, .inr ⟨by decide, by decide⟩, _, _, rfl, rfl, mlt, ?_⟩
        exact ⟨_, (md _).1, (md _).2, rfl, rfl⟩
      rintro σ' H' ⟨m, m0, m1, rfl, rfl⟩
      refine ⟨fun σ' H' => ∃ (m : Int) (y : Option V), 0 ≤ m ∧ m < 4294967311 ∧ σ' = [some (.ref a), some (.int many), none, some (.int t), some (.int c), some (.int m), y] ∧ H2 = H', ?_, ?_⟩
      · refine ⟨3, rfl, by decide, by decide, ?_⟩
        refine for_range (lo := 0) (n := 3) (fun i σ H' => ∃ (m : Int) (y : Option V), 0 ≤ m ∧ m < 4294967311 ∧ σ = [some (.ref a), some (.int many), none, some (.int t), some (.int c), some (.int m), y] ∧ H2 = H') ⟨m, _, m0, m1, rfl, rfl⟩ ?_ ?_
        · rintro i σ H' hi ⟨m, y, m0, m1, rfl, rfl⟩
          refine ⟨_, rfl, _, rfl, _, _, rfl, rfl, .inl ⟨by omega, by omega⟩, _, rfl, _, _, rfl, rfl, .inl ⟨by decide, by decide⟩, _, _, rfl, rfl, _, rfl, _, _, rfl, rfl, _, rfl, _, _, rfl, rfl, ?_⟩
          refine ⟨_, rfl, _, _, rfl, rfl, mlt, ?_⟩
          exact ⟨_, _, (md _).1, (md _).2, rfl, rfl⟩
        · rintro σ H' ⟨m, y, m0, m1, rfl, rfl⟩
          exact ⟨m, y, m0, m1, rfl, rfl⟩
      rintro σ' H' ⟨m, y, m0, m1, rfl, rfl⟩
      refine ⟨_, rfl, _, _, rfl, rfl, ⟨by decide, by decide⟩, _, rfl, _, _, rfl, rfl, h0, ?_⟩
      exact q _ _ (Int.emod_nonneg _ (by omega)) (Int.emod_lt_of_pos _ h0) ⟨cs, t + 1, r, ea2, el2, hl, by omega, by omega, hr0⟩ f2
end
end Lf
namespace Lf
open PySem PySem.Spec PyProof.Rows L2
section
variable {P : Program} {w : World} {K : PySem.W.Frag} {mg : Str → Option Value} {base : Heap}
/-! ### _law_pick -/
def spPick : Sp := fun vs H Q _ => ∃ (a : PA) (l : Addr) (n : Nat) (xs : List V), vs = [.ref a, .ref l] ∧ Pen H a n ∧ n < 2 ^ 40 ∧ H l = some (.lst xs) ∧ xs ≠ [] ∧ xs.length ≤ 1000 ∧
  ∀ x H', x ∈ xs → Pen H' a (n + 1) → Fr H H' → Q x H'
end
end Lf
namespace Lf
open PySem PySem.Spec PyProof.Rows L2
theorem Bd.grow {k : Nat} {r d : Int} (h0 : 0 ≤ r) (h : Bd k r) (d0 : 0 ≤ d) (d1 : d < 10 ^ 6) : Bd (k + 20) (r * 10 ^ 6 + d) := by
  unfold Bd at *
  have e : (2 : Nat) ^ (k + 20) = 2 ^ k * 1048576 := by rw [Nat.pow_add]
  rw [e]
  generalize (2 : Nat) ^ k = m at h
  omega
/-- a rule, its numbers within k bits -/
structure RuleB (k : Nat) (p q c : Int) : Prop where
  p0 : 0 ≤ p
  q1 : 1 ≤ q
  g : Int.gcd p q = 1
  bp : Bd k p
  bq : Bd k q
  bc : Bd k c
theorem RuleB.mono {k j : Nat} {p q c : Int} (h : RuleB k p q c) (e : k ≤ j) : RuleB j p q c := ⟨h.p0, h.q1, h.g, h.bp.mono e, h.bq.mono e, h.bc.mono e⟩
theorem gcd_pos {p q : Int} (h : 1 ≤ q) : 0 < (Int.gcd p q : Int) := by
  have : 0 < Int.gcd p q := Int.gcd_pos_of_ne_zero_right _ (by omega)
  omega
theorem gcd_le {p q : Int} (h : 1 ≤ q) : (Int.gcd p q : Int) ≤ q := Int.le_of_dvd (by omega) (Int.gcd_dvd_right ..)
theorem low_rule {k : Nat} {p q c : Int} (h0 : 0 ≤ p) (h1 : 1 ≤ q) (bp : Bd k p) (bq : Bd k q) (bc : Bd k c) : RuleB k (p / (Int.gcd p q : Int)) (q / (Int.gcd p q : Int)) (c / (Int.gcd p q : Int)) := by
  have hg := gcd_pos (p := p) h1
  refine ⟨Int.ediv_nonneg h0 (by omega), ?_, ?_, bp.ediv hg, bq.ediv hg, bc.ediv hg⟩
  · exact Int.le_ediv_of_mul_le hg (by rw [Int.one_mul]; exact gcd_le h1)
  · have : 0 < Int.gcd p q := by omega
    exact Int.gcd_ediv_gcd_ediv_gcd this
/-- a new rule stands at r -/
abbrev tup3 (p q c : Int) : HO := .tup [.int p, .int q, .int c]
theorem low_rule' {k : Nat} {p q c : Int} (h0 : 0 ≤ p) (h1 : 1 ≤ q) (bp : Bd k p) (bq : Bd k q) (bc : Bd k c) : RuleB k (p / gg p q) (q / gg p q) (c / gg p q) := low_rule h0 h1 bp bq bc
theorem low_le {p q : Int} (h1 : 1 ≤ q) : q / (Int.gcd p q : Int) ≤ q := Int.ediv_le_self _ (by omega)
section
variable {P : Program} {w : World} {K : PySem.W.Frag} {mg : Str → Option Value} {base : Heap}
/-! ### _law_gcd, _law_lowest -/
def spGcd : Sp := fun vs H Q _ => ∃ (x y : Int), vs = [.int x, .int y] ∧ 0 ≤ x ∧ 0 ≤ y ∧ Q (.int (Int.gcd x y : Int)) H
def mu1 : L2.St → Hp → Nat := fun σ _ => match σ with
  | _ :: some (.int v) :: _ => v.toNat
  | _ => 0
end
end Lf
namespace Lf
open PySem PySem.Spec PyProof.Rows L2
/-! ### objects in a row -/
inductive Obs {α : Type} (O : α → HO) (H : Hp) : List V → List α → Prop
  | nil : Obs O H [] []
  | cons {r : Addr} {vs : List V} {d : α} {ds : List α} : H r = some (O d) → Obs O H vs ds → Obs O H (.ref r :: vs) (d :: ds)
section
variable {α : Type} {O : α → HO} {H H' : Hp}
theorem Obs.len {vs : List V} {ds : List α} (h : Obs O H vs ds) : vs.length = ds.length := by
  induction h with
  | nil => rfl
  | cons _ _ ih => rw [List.length_cons, List.length_cons, ih]
theorem Obs.at {vs : List V} {ds : List α} (h : Obs O H vs ds) : ∀ {i : Nat} {x : V}, vs[i]? = some x → ∃ r d, x = .ref r ∧ H r = some (O d) ∧ ds[i]? = some d := by
  induction h with
  | nil =>
    intro i x e
    cases e
  | cons e0 _ ih =>
    intro i x e
    cases i with
    | zero =>
      cases e
      exact ⟨_, _, rfl, e0, rfl⟩
    | succ i => exact ih e
theorem Obs.on {vs : List V} {ds : List α} (h : Obs O H vs ds) : ∀ {i : Nat} {d : α}, ds[i]? = some d → ∃ r, vs[i]? = some (.ref r) ∧ H r = some (O d) := by
  induction h with
  | nil =>
    intro i x e
    cases e
  | cons e0 _ ih =>
    intro i x e
    cases i with
    | zero =>
      cases e
      exact ⟨_, rfl, e0⟩
    | succ i => exact ih e
theorem Obs.keep {vs : List V} {ds : List α} (h : Obs O H vs ds) (f : ∀ b d, H b = some (O d) → H' b = some (O d)) : Obs O H' vs ds := by
  induction h with
  | nil => exact .nil
  | cons e0 _ ih => exact .cons (f _ _ e0) ih
theorem Obs.same {vs : List V} {ds : List α} (h : Obs O H vs ds) (s : Same H H') : Obs O H' vs ds := h.keep fun b d e => s _ _ e
theorem Obs.snoc {vs : List V} {ds : List α} {r : Addr} {d : α} (h : Obs O H vs ds) (e : H r = some (O d)) : Obs O H (vs ++ [.ref r]) (ds ++ [d]) := by
  induction h with
  | nil => exact .cons e .nil
  | cons e0 _ ih => exact .cons e0 ih
theorem Obs.app {vs us : List V} {ds es : List α} (h : Obs O H vs ds) (h2 : Obs O H us es) : Obs O H (vs ++ us) (ds ++ es) := by
  induction h with
  | nil => exact h2
  | cons e0 _ ih => exact .cons e0 ih
theorem Obs.drop {vs : List V} {ds : List α} (h : Obs O H vs ds) : ∀ n, Obs O H (vs.drop n) (ds.drop n) := by
  induction h with
  | nil =>
    intro n
    rw [List.drop_nil, List.drop_nil]
    exact .nil
  | cons e0 h ih =>
    intro n
    cases n with
    | zero => exact .cons e0 h
    | succ n => exact ih n
theorem Obs.take {vs : List V} {ds : List α} (h : Obs O H vs ds) : ∀ n, Obs O H (vs.take n) (ds.take n) := by
  induction h with
  | nil =>
    intro n
    rw [List.take_nil, List.take_nil]
    exact .nil
  | cons e0 h ih =>
    intro n
    cases n with
    | zero => exact .nil
    | succ n => exact .cons e0 (ih n)
end
/-! ### records -/
structure Rec where
  lo : Bool
  t : Int
  n : Int
def wd : Bool → Str
  | true => "at least"
  | false => "at most"
abbrev rcO (d : Rec) : HO := .tup [.str (wd d.lo), .int d.t, .int d.n]
theorem w_lo (b : Bool) : decide (V.str (wd b) = V.str ("at least" : Str)) = b := by
  cases b
  · exact decide_eq_false (by intro z; exact absurd (V.str.inj z) (by decide +kernel))
  · exact decide_eq_true rfl
theorem w_hi (b : Bool) : decide (V.str (wd b) = V.str ("at most" : Str)) = !b := by
  cases b
  · exact decide_eq_true rfl
  · exact decide_eq_false (by intro z; exact absurd (V.str.inj z) (by decide +kernel))
def RcB (k : Nat) (ds : List Rec) : Prop := ∀ d ∈ ds, Bd k d.t ∧ Bd k d.n
theorem RcB.mono {k j : Nat} {ds : List Rec} (h : RcB k ds) (e : k ≤ j) : RcB j ds := fun d hd => ⟨(h d hd).1.mono e, (h d hd).2.mono e⟩
theorem Obs.fr {H H' : Hp} {vs : List V} {ds : List Rec} (h : Obs rcO H vs ds) (f : Fr H H') : Obs rcO H' vs ds := h.keep fun b d e => f.t _ _ e
/-- what split_records gives: index, time, count -/
abbrev T3 := Int × Int × Int
abbrev trO (x : T3) : HO := .tup [.int x.1, .int x.2.1, .int x.2.2]
def sel (b : Bool) : Nat → List Rec → List T3
  | _, [] => []
  | k, d :: ds => if d.lo = b then ((k : Int), d.t, d.n) :: sel b (k + 1) ds else sel b (k + 1) ds
theorem sel_snoc (b : Bool) (k : Nat) (ds : List Rec) (d : Rec) : sel b k (ds ++ [d]) = sel b k ds ++ (if d.lo = b then [(((k + ds.length : Nat) : Int), d.t, d.n)] else []) := by
  induction ds generalizing k with
  | nil =>
    show (if d.lo = b then _ else _) = _
    by_cases h : d.lo = b
    · rw [if_pos h, if_pos h]
      rfl
    · rw [if_neg h, if_neg h]
      rfl
  | cons e r ih =>
    show (if e.lo = b then ((k : Int), e.t, e.n) :: sel b (k + 1) (r ++ [d]) else sel b (k + 1) (r ++ [d])) = (if e.lo = b then _ else _) ++ _
    rw [ih (k + 1), List.length_cons, show k + 1 + r.length = k + (r.length + 1) by omega]
    by_cases h : e.lo = b
    · rw [if_pos h, if_pos h]
      rfl
    · rw [if_neg h, if_neg h]
theorem sel_len (b : Bool) (k : Nat) (ds : List Rec) : (sel b k ds).length ≤ ds.length := by
  induction ds generalizing k with
  | nil => exact Nat.le_refl _
  | cons e r ih =>
    show (if e.lo = b then _ else _ : List T3).length ≤ _
    have := ih (k + 1)
    by_cases h : e.lo = b
    · rw [if_pos h, List.length_cons, List.length_cons]
      omega
    · rw [if_neg h, List.length_cons]
      omega
theorem sel_take {b : Bool} {ds : List Rec} {i : Nat} {d : Rec} (e : ds[i]? = some d) : sel b 0 (ds.take (i + 1)) = sel b 0 (ds.take i) ++ (if d.lo = b then [((i : Int), d.t, d.n)] else []) := by
  have hi : i < ds.length := (List.getElem?_eq_some_iff.mp e).1
  rw [List.take_add_one, e]
  show sel b 0 (ds.take i ++ [d]) = _
  rw [sel_snoc, List.length_take, Nat.min_eq_left (by omega), Nat.zero_add]
/-- each of them speaks of a record at its index -/
theorem sel_mem {b : Bool} {k : Nat} {ds : List Rec} {x : T3} (h : x ∈ sel b k ds) : ∃ (i : Nat) (d : Rec), ds[i]? = some d ∧ d.lo = b ∧ x = (((k + i : Nat) : Int), d.t, d.n) := by
  induction ds generalizing k with
  | nil => cases h
  | cons e r ih =>
    have h : x ∈ (if e.lo = b then ((k : Int), e.t, e.n) :: sel b (k + 1) r else sel b (k + 1) r) := h
    have up : x ∈ sel b (k + 1) r → ∃ (i : Nat) (d : Rec), (e :: r)[i]? = some d ∧ d.lo = b ∧ x = (((k + i : Nat) : Int), d.t, d.n) := fun z => by
      obtain ⟨i, d, h1, h2, h3⟩ := ih z
      exact ⟨i + 1, d, h1, h2, by rw [h3, show k + 1 + i = k + (i + 1) by omega]⟩
    by_cases hb : e.lo = b
    · rw [if_pos hb] at h
      rcases List.mem_cons.mp h with rfl | h
      · exact ⟨0, e, rfl, hb, rfl⟩
      · exact up h
    · rw [if_neg hb] at h
      exact up h
theorem mem_sel {b : Bool} {ds : List Rec} {i : Nat} {d : Rec} (e : ds[i]? = some d) (hb : d.lo = b) : ∀ k, (((k + i : Nat) : Int), d.t, d.n) ∈ sel b k ds := by
  induction ds generalizing i with
  | nil => cases e
  | cons f r ih =>
    intro k
    show _ ∈ (if f.lo = b then _ else _)
    cases i with
    | zero =>
      cases e
      rw [if_pos hb]
      exact List.mem_cons_self
    | succ i =>
      have := ih e (k + 1)
      rw [show k + 1 + i = k + (i + 1) by omega] at this
      by_cases h : f.lo = b
      · rw [if_pos h]
        exact List.mem_cons_of_mem _ this
      · rw [if_neg h]
        exact this
theorem sel_bd {k : Nat} {b : Bool} {ds : List Rec} (h : RcB k ds) {x : T3} (hx : x ∈ sel b 0 ds) : Bd k x.2.1 ∧ Bd k x.2.2 := by
  obtain ⟨i, d, e, _, rfl⟩ := sel_mem hx
  exact h d (List.mem_of_getElem? e)
/-- what a list has as its greatest -/
def IsMx (l : List Int) : Option Int → Prop
  | none => l = []
  | some m => m ∈ l ∧ ∀ y ∈ l, y ≤ m
def IsMn (l : List Int) : Option Int → Prop
  | none => l = []
  | some m => m ∈ l ∧ ∀ y ∈ l, m ≤ y
def oV : Option Int → V
  | none => .non
  | some i => .int i
theorem maxOf_mx (x : Int) (xs : List Int) : PySem.W.maxOf x xs ∈ x :: xs ∧ ∀ y ∈ x :: xs, y ≤ PySem.W.maxOf x xs := by
  induction xs generalizing x with
  | nil => exact ⟨List.mem_cons_self, fun y hy => by rw [List.mem_singleton.mp hy]; exact Int.le_refl _⟩
  | cons z r ih =>
    have e : PySem.W.maxOf x (z :: r) = PySem.W.maxOf (if decide (x < z) = true then z else x) r := rfl
    rw [e]
    obtain ⟨h1, h2⟩ := ih (if decide (x < z) = true then z else x)
    refine ⟨?_, fun y hy => ?_⟩
    · rcases List.mem_cons.mp h1 with h | h
      · rw [h]
        by_cases c : x < z
        · rw [if_pos (decide_eq_true c)]
          exact List.mem_cons_of_mem _ List.mem_cons_self
        · rw [if_neg (fun h => c (of_decide_eq_true h))]
          exact List.mem_cons_self
      · exact List.mem_cons_of_mem _ (List.mem_cons_of_mem _ h)
    · have g := h2 _ List.mem_cons_self
      have gx : x ≤ PySem.W.maxOf (if decide (x < z) = true then z else x) r ∧ z ≤ PySem.W.maxOf (if decide (x < z) = true then z else x) r := by
        by_cases c : x < z
        · rw [if_pos (decide_eq_true c)] at g ⊢
          exact ⟨by omega, g⟩
        · rw [if_neg (fun h => c (of_decide_eq_true h))] at g ⊢
          exact ⟨g, by omega⟩
      rcases List.mem_cons.mp hy with rfl | hy
      · exact gx.1
      · rcases List.mem_cons.mp hy with rfl | hy
        · exact gx.2
        · exact h2 _ (List.mem_cons_of_mem _ hy)
theorem minOf_mn (x : Int) (xs : List Int) : PySem.W.minOf x xs ∈ x :: xs ∧ ∀ y ∈ x :: xs, PySem.W.minOf x xs ≤ y := by
  induction xs generalizing x with
  | nil => exact ⟨List.mem_cons_self, fun y hy => by rw [List.mem_singleton.mp hy]; exact Int.le_refl _⟩
  | cons z r ih =>
    have e : PySem.W.minOf x (z :: r) = PySem.W.minOf (if decide (z < x) = true then z else x) r := rfl
    rw [e]
    obtain ⟨h1, h2⟩ := ih (if decide (z < x) = true then z else x)
    refine ⟨?_, fun y hy => ?_⟩
    · rcases List.mem_cons.mp h1 with h | h
      · rw [h]
        by_cases c : z < x
        · rw [if_pos (decide_eq_true c)]
          exact List.mem_cons_of_mem _ List.mem_cons_self
        · rw [if_neg (fun h => c (of_decide_eq_true h))]
          exact List.mem_cons_self
      · exact List.mem_cons_of_mem _ (List.mem_cons_of_mem _ h)
    · have g := h2 _ List.mem_cons_self
      have gx : PySem.W.minOf (if decide (z < x) = true then z else x) r ≤ x ∧ PySem.W.minOf (if decide (z < x) = true then z else x) r ≤ z := by
        by_cases c : z < x
        · rw [if_pos (decide_eq_true c)] at g ⊢
          exact ⟨by omega, g⟩
        · rw [if_neg (fun h => c (of_decide_eq_true h))] at g ⊢
          exact ⟨g, by omega⟩
      rcases List.mem_cons.mp hy with rfl | hy
      · exact gx.1
      · rcases List.mem_cons.mp hy with rfl | hy
        · exact gx.2
        · exact h2 _ (List.mem_cons_of_mem _ hy)
/-- max(list, default=d), min(list, default=d) -/
def rMxD (K : PySem.W.Frag) : List V → List V → Hp → VK → Prop := fun vs zs H Q => ∃ (a : Addr) (ns : List Int), vs = [V.ref a] ∧ zs = [.non] ∧ SqL K H a (ns.map V.int) ∧ ∀ m, IsMx ns m → Q (oV m) H
def rMnD (K : PySem.W.Frag) : List V → List V → Hp → VK → Prop := fun vs zs H Q => ∃ (a : Addr) (ns : List Int), vs = [V.ref a] ∧ zs = [.non] ∧ SqL K H a (ns.map V.int) ∧ ∀ m, IsMn ns m → Q (oV m) H
theorem cr_maxD {X : Cx} (hc : X.calm = true) (hu : X.A.units + 64 < cLine) : CallRK X (.builtin "max") [Str.ofString "default"] (rMxD X.K) := by
  intro pins s σ H xs zs us ws Q I r rz h
  obtain ⟨a, ns, rfl, rfl, hs, q⟩ := h
  obtain ⟨its, rv, hl, _⟩ := I.list hs
  rw [Vals.ref1 r]
  obtain ⟨d, rfl, rd⟩ := vals1 rz
  have ed : d = Value.none := rd
  subst ed
  refine PySem.W.max_list_datum_default (α := Int) (xs := ns) (I.ok.hd hc) hl.isList (by simpa using PySem.W.HoldAll.of_ints rv.ints) (by show _ + 1 + 0 < _; omega) (fun e h' tk hk => ⟨.non, H, I.kept hk, rfl, q none e⟩) fun y ys i v h' tk e hv hh hk => ?_
  obtain ⟨as, hr⟩ := hh
  obtain ⟨t, rfl⟩ : ∃ t, v = Value.int (PySem.W.maxOf y ys) t := by
    cases hr
    exact ⟨_, rfl⟩
  exact ⟨.int _, H, I.kept hk, ⟨_, rfl⟩, q (some _) (by rw [e]; exact maxOf_mx y ys)⟩
theorem cr_minD {X : Cx} (hc : X.calm = true) (hu : X.A.units + 64 < cLine) : CallRK X (.builtin "min") [Str.ofString "default"] (rMnD X.K) := by
  intro pins s σ H xs zs us ws Q I r rz h
  obtain ⟨a, ns, rfl, rfl, hs, q⟩ := h
  obtain ⟨its, rv, hl, _⟩ := I.list hs
  rw [Vals.ref1 r]
  obtain ⟨d, rfl, rd⟩ := vals1 rz
  have ed : d = Value.none := rd
  subst ed
  refine PySem.W.min_list_datum_default (α := Int) (xs := ns) (I.ok.hd hc) hl.isList (by simpa using PySem.W.HoldAll.of_ints rv.ints) (by show _ + 1 + 0 < _; omega) (fun e h' tk hk => ⟨.non, H, I.kept hk, rfl, q none e⟩) fun y ys i v h' tk e hv hh hk => ?_
  obtain ⟨as, hr⟩ := hh
  obtain ⟨t, rfl⟩ : ∃ t, v = Value.int (PySem.W.minOf y ys) t := by
    cases hr
    exact ⟨_, rfl⟩
  exact ⟨.int _, H, I.kept hk, ⟨_, rfl⟩, q (some _) (by rw [e]; exact minOf_mn y ys)⟩
end Lf
namespace Lf
open PySem PySem.Spec PyProof.Rows L2
theorem iteD {c A B : Prop} [Decidable c] (hc : c) (h : A) : if decide c = true then A else B := by
  rw [if_pos (decide_eq_true hc)]
  exact h
theorem iteDn {c A B : Prop} [Decidable c] (hc : ¬ c) (h : B) : if decide c = true then A else B := by
  rw [if_neg (fun z => hc (of_decide_eq_true z))]
  exact h
theorem iteTs {b : Bool} {A B : Prop} (h : b = true) (hA : A) : if b = true then A else B := by
  rw [h, if_pos rfl]
  exact hA
theorem iteFz {b : Bool} {A B : Prop} (h : b = false) (hB : B) : if b = true then A else B := by
  rw [h, if_neg Bool.false_ne_true]
  exact hB
theorem bool_f {b : Bool} (h : ¬ b = true) : b = false := by
  cases b
  · rfl
  · exact absurd rfl h
theorem lenS {n : Nat} (h : n ≤ 100000) : n ≤ sizeLine := by
  rw [sizeLine_eq]
  omega
theorem ltS {n : Nat} (h : n ≤ 100000) : n < sizeLine := by
  rw [sizeLine_eq]
  omega
theorem flat_is (ns : List Int) : (ns.map V.int).all flatV = true := by
  induction ns with
  | nil => rfl
  | cons n r ih => simpa [flatV] using ih
theorem mulW {a b : Nat} {x y : Int} (h : Bd a x) (h2 : Bd b y) (ha : 0 < a) (hb : 0 < b) (hab : a + b ≤ 1000000) : CMulW x y := wide_mul h h2 ha hb hab
theorem divW {b : Nat} {x y : Int} (h0 : 0 < y) (h : Bd b y) (hb : b ≤ 9000) : CDivW x y := ⟨h0, (h.mono hb).log (by decide)⟩
theorem divP {b : Nat} {x y : Int} (h0 : 0 < y) (h : Bd b y) (hb : b ≤ 9000) : CDivP x y := ⟨h0, PyProof.noPylong_of_log2 ((h.mono hb).log (by decide))⟩
theorem kii : kitB "int" "int" = some true := by decide +kernel
theorem kib : kitB "int" "bool" = some false := by decide +kernel
theorem ktt : kitB "tuple" "tuple" = some true := by decide +kernel
section
variable {P : Program} {w : World} {K : PySem.W.Frag} {mg : Str → Option Value} {base : Heap}
/-! ### integers -/
def spIsInt : Sp := fun vs H Q _ => ∃ i : Int, vs = [.int i] ∧ Q (.bl true) H
abbrev s_is_integer : Stmt := topS 6
abbrev N_is_integer : List Str := ["value"]
abbrev P_is_integer : List Str := ["value"]
theorem sc_is_integer : FnScope N_is_integer P_is_integer (defScope s_is_integer) := ⟨rfl, rfl, rfl, by decide +kernel, rfl, by decide +kernel, by decide +kernel⟩
theorem ok_is_integer (D : Df K mg "is_integer" s_is_integer P_is_integer) (B : Bi mg) : C8.Cal P w K mg base 1 "is_integer" spIsInt [] := by
  refine cal_of D sc_is_integer (fun vs H Q E h => ?_) (fun f cdv A outer s H vs Q E hr h => ?_)
  · obtain ⟨i, rfl, _⟩ := h
    rfl
  · obtain ⟨i, rfl, q⟩ := h
    refine ⟨_, (pss_one (ps_ret (pe_and (pe_callB (call_isi) (by rfl) B.isinstance_ bt_isinstance (pa_cons (pv 0) (pa_cons (pe_bltn (v := .ty "int") (by rfl) B.int_ bt_int rfl) pa_nil))) (pe_one (pe_not (pe_callB (call_isi) (by rfl) B.isinstance_ bt_isinstance (pa_cons (pv 0) (pa_cons (pe_bltn (v := .ty "bool") (by rfl) B.bool_ bt_bool rfl) pa_nil)))))))), ?_⟩
    refine ⟨_, rfl, _, _, _, _, true, rfl, .ty "int", .base (.int i), kit_ty kii, true, rfl, iteT ?_⟩
    exact ⟨_, rfl, _, _, _, _, false, rfl, .ty "bool", .base (.int i), kit_ty kib, false, rfl, q⟩
def spCheckInt : Sp := fun vs H Q _ => ∃ i : Int, vs = [.int i] ∧ Q .non H
abbrev s_check_integer : Stmt := topS 7
abbrev N_check_integer : List Str := ["value"]
abbrev P_check_integer : List Str := ["value"]
theorem sc_check_integer : FnScope N_check_integer P_check_integer (defScope s_check_integer) := ⟨rfl, rfl, rfl, by decide +kernel, rfl, by decide +kernel, by decide +kernel⟩
theorem ok_check_integer (D : Df K mg "check_integer" s_check_integer P_check_integer) (c_is_integer : C8.Cal P w K mg base 1 "is_integer" spIsInt []) : C8.Cal P w K mg base 2 "check_integer" spCheckInt [] := by
  refine cal_of D sc_check_integer (fun vs H Q E h => ?_) (fun f cdv A outer s H vs Q E hr h => ?_)
  · obtain ⟨i, rfl, _⟩ := h
    rfl
  · obtain ⟨i, rfl, q⟩ := h
    refine ⟨_, (pss_one (ps_if (pt_not (pt_val (C8.pe_c c_is_integer hr (by decide) (by rfl) (pa_cons (pv 0) pa_nil))))
      (pss_one ps_never)
      pss_nil)), ?_⟩
    exact ⟨_, rfl, i, rfl, true, rfl, iteF q⟩
end
end Lf
namespace Lf
open PySem PySem.Spec PyProof.Rows L2
section
variable {P : Program} {w : World} {K : PySem.W.Frag} {mg : Str → Option Value} {base : Heap}
abbrev s_gcd : Stmt := topS 8
abbrev N_gcd : List Str := ["first", "second"]
abbrev P_gcd : List Str := ["first", "second"]
theorem sc_gcd : FnScope N_gcd P_gcd (defScope s_gcd) := ⟨rfl, rfl, rfl, by decide +kernel, rfl, by decide +kernel, by decide +kernel⟩
theorem ok_gcd (D : Df K mg "gcd" s_gcd P_gcd) : C8.Cal P w K mg base 1 "gcd" spGcd [] := by
  refine cal_of D sc_gcd (fun vs H Q E h => ?_) (fun f cdv A outer s H vs Q E hr h => ?_)
  · obtain ⟨x, y, rfl, _⟩ := h
    rfl
  · obtain ⟨x, y, rfl, hx, hy, q⟩ := h
    refine ⟨_, (pss_cons (ps_while PassesOwn.never (pt_truth (pv 1) (fun _ => rfl))
      (pss_one (ps_par (i := 0) (j := 1) rfl sc_gcd.nd rfl rfl (by decide) rfl rfl (pa_cons (pv 1) (pa_cons (pe_op op_mod (pv 0) (pv 1)) pa_nil)) rfl)))
    (pss_one (ps_ret (pv 0)))), ?_⟩
    refine while_by (fun σ H' => ∃ u v : Int, σ = [some (.int u), some (.int v)] ∧ 0 ≤ u ∧ 0 ≤ v ∧ Int.gcd u v = Int.gcd x y ∧ H' = H) mu1 ⟨x, y, rfl, hx, hy, rfl, rfl⟩ ?_ ?_
    · rintro σ H' ⟨u, v, rfl, hu, hv, e, rfl⟩
      refine ⟨_, rfl, _, rfl, ite2 (fun c => ?_) (fun c => ?_)⟩
      · have hv0 : 0 < v := by
          have : v ≠ 0 := by simpa using c
          omega
        refine ⟨_, rfl, _, rfl, _, rfl, _, _, rfl, rfl, hv0, _, _, rfl, ⟨v, u % v, rfl, hv, Int.emod_nonneg _ (by omega), ?_, rfl⟩, ?_⟩
        · rw [gcd_turn u v hu hv0]; exact e
        · show (u % v).toNat < v.toNat
          have := Int.emod_lt_of_pos u hv0
          omega
      · have hv0 : v = 0 := by simpa using c
        subst hv0
        refine ⟨_, rfl, ?_⟩
        have e2 : (Int.gcd x y : Int) = u := by
          rw [← e, Int.gcd_zero_right]
          omega
        rw [← e2]
        exact q
    · rintro σ H' Q1 Q2 hQ ⟨v, h1, b, h4, h5⟩
      exact ⟨v, h1, b, h4, hQ _ _ h5⟩
/-! ### rules -/
def spIsRule : Sp := fun vs H Q _ => ∃ (r : Addr) (p q c : Int) (k : Nat), vs = [.ref r] ∧ H r = some (.tup [.int p, .int q, .int c]) ∧ RuleB k p q c ∧ ∀ H', Same H H' → Q (.bl true) H'
abbrev s_is_rule : Stmt := topS 16
abbrev N_is_rule : List Str := ["value", "item"]
abbrev P_is_rule : List Str := ["value"]
theorem sc_is_rule : FnScope N_is_rule P_is_rule (defScope s_is_rule) := ⟨rfl, rfl, rfl, by decide +kernel, rfl, by decide +kernel, by decide +kernel⟩
theorem ok_is_rule (D : Df K mg "is_rule" s_is_rule P_is_rule) (B : Bi mg) (c_is_integer : C8.Cal P w K mg base 1 "is_integer" spIsInt []) (c_gcd : C8.Cal P w K mg base 1 "gcd" spGcd []) : C8.Cal P w K mg base 2 "is_rule" spIsRule [] := by
  refine cal_of D sc_is_rule (fun vs H Q E h => ?_) (fun f cdv A outer s H vs Q E hr h => ?_)
  · obtain ⟨r, p, q, c, k, rfl, _⟩ := h
    rfl
  · obtain ⟨r, p, q, c, k, rfl, er, R, kk⟩ := h
    refine ⟨_, (pss_cons (ps_if (PW.pt (pw_or (pt_not (pt_val (pe_callB (call_isi) (by rfl) B.isinstance_ bt_isinstance (pa_cons (pv 0) (pa_cons (pe_bltn (v := .ty "tuple") (by rfl) B.tuple_ bt_tuple rfl) pa_nil))))) (pw_or1 (pt_cmpR op_ne (pe_callB (call_len_seq) (by rfl) B.len_ bt_len (pa_cons (pv 0) pa_nil)) pe_int (nomark _)))))
      (pss_one (ps_ret pe_bl))
      pss_nil)
    (pss_cons (ps_if (pt_not (pt_val (pe_callB (cr_all rfl) (by rfl) B.all_ bt_all (pa_cons (pe_lc (own := [("item", 1)]) (g := (gName 1)) (by rfl) sc_is_rule.nd (pi_tup (pv 0)) (blkOk_by (own := [("item", 1)]) (N := N_is_rule) (sc := defScope s_is_rule) (by decide +kernel)) (fun _ _ _ _ _ => (pg_name (i := 1) sc_is_rule.nd rfl (Or.inl rfl))) (fun _ _ _ _ _ => pts_nil) (fun _ _ _ _ _ => (C8.pe_c c_is_integer hr (by decide) (by rfl) (pa_cons (pv 1) pa_nil)))) pa_nil))))
      (pss_one (ps_ret pe_bl))
      pss_nil)
    (pss_one (ps_ret (pe_and (pe_cmpR op_ge (pe_ix (r := rIxT K) ix_tup (pv 0) pe_int (fun _ _ => rfl)) pe_int (nomark _)) (pe_and (pe_cmpR op_ge (pe_ix (r := rIxT K) ix_tup (pv 0) pe_int (fun _ _ => rfl)) pe_int (nomark _)) (pe_one (pe_cmpR op_eq (C8.pe_c c_gcd hr (by decide) (by rfl) (pa_cons (pe_ix (r := rIxT K) ix_tup (pv 0) pe_int (fun _ _ => rfl)) (pa_cons (pe_ix (r := rIxT K) ix_tup (pv 0) pe_int (fun _ _ => rfl)) pa_nil))) pe_int (nomark _))))))))), ?_⟩
    refine ⟨_, rfl, _, _, _, _, true, rfl, .ty "tuple", .base (.tup er), kit_ty ktt, true, rfl, iteF ?_⟩
    refine ⟨_, rfl, r, _, rfl, .inr (SqT.of er), rfl, _, rfl, iteNS rfl ?_⟩
    refine ⟨_, rfl, r, rfl, ⟨_, SqT.of er⟩, fun L nL => ?_⟩
    refine lc_tup (K := K) (a := r) (xs := [.int p, .int q, .int c]) (fun i H' => Same H H' ∧ H' L = some (.lst (List.replicate i (V.bl true)))) ?_ ?_ ?_ ?_
    · exact ⟨sm_upd nL, upd_same⟩
    · rintro i H' hi ⟨s1, _⟩
      exact SqT.of (s1 _ _ er)
    · rintro i x H' hx ⟨s1, eL⟩
      have hi : i < 3 := (List.getElem?_eq_some_iff.mp hx).1
      obtain ⟨z, rfl⟩ : ∃ z, x = V.int z := by
        match i, hi with
        | 0, _ => exact ⟨p, (Option.some.inj hx).symm⟩
        | 1, _ => exact ⟨q, (Option.some.inj hx).symm⟩
        | 2, _ => exact ⟨c, (Option.some.inj hx).symm⟩
      refine ⟨rfl, _, rfl, z, rfl, _, eL, ?_, ?_, ?_⟩
      · rw [List.length_replicate]
        exact small1000 (by omega)
      · intro b o eb
        rw [upd_ne (ne_of_none eb nL)]
        exact s1 _ _ eb
      · rw [upd_same, ← List.replicate_succ']
    · rintro H' ⟨s1, eL⟩
      have eL' : H' L = some (.lst ([true, true, true].map V.bl)) := eL
      refine ⟨L, [true, true, true], rfl, SqL.of eL', true, rfl, iteF ?_⟩
      have er' := s1 _ _ er
      refine ⟨_, rfl, r, _, _, _, rfl, rfl, SqT.of er', atI_nat (j := 0) rfl, _, _, rfl, rfl, _, rfl, iteD R.p0 ?_⟩
      refine ⟨_, rfl, r, _, _, _, rfl, rfl, SqT.of er', atI_nat (j := 1) rfl, _, _, rfl, rfl, _, rfl, iteD R.q1 ?_⟩
      refine ⟨_, rfl, r, _, _, _, rfl, rfl, SqT.of er', atI_nat (j := 0) rfl, _, rfl, r, _, _, _, rfl, rfl, SqT.of er', atI_nat (j := 1) rfl, p, q, rfl, R.p0, by have := R.q1; omega, rfl, ?_⟩
      rw [R.g]
      exact kk _ s1
def spCheckRule : Sp := fun vs H Q _ => ∃ (r : Addr) (p q c : Int) (k : Nat), vs = [.ref r] ∧ H r = some (.tup [.int p, .int q, .int c]) ∧ RuleB k p q c ∧ ∀ H', Same H H' → Q .non H'
abbrev s_check_rule : Stmt := topS 17
abbrev N_check_rule : List Str := ["value"]
abbrev P_check_rule : List Str := ["value"]
theorem sc_check_rule : FnScope N_check_rule P_check_rule (defScope s_check_rule) := ⟨rfl, rfl, rfl, by decide +kernel, rfl, by decide +kernel, by decide +kernel⟩
theorem ok_check_rule (D : Df K mg "check_rule" s_check_rule P_check_rule) (c_is_rule : C8.Cal P w K mg base 2 "is_rule" spIsRule []) : C8.Cal P w K mg base 3 "check_rule" spCheckRule [] := by
  refine cal_of D sc_check_rule (fun vs H Q E h => ?_) (fun f cdv A outer s H vs Q E hr h => ?_)
  · obtain ⟨r, p, q, c, k, rfl, _⟩ := h
    rfl
  · obtain ⟨r, p, q, c, k, rfl, er, R, kk⟩ := h
    refine ⟨_, (pss_one (ps_if (pt_not (pt_val (C8.pe_c c_is_rule hr (by decide) (by rfl) (pa_cons (pv 0) pa_nil))))
      (pss_one ps_never)
      pss_nil)), ?_⟩
    exact ⟨_, rfl, r, p, q, c, k, rfl, er, R, fun H' s1 => ⟨true, rfl, iteF (kk _ s1)⟩⟩
end
end Lf
namespace Lf
open PySem PySem.Spec PyProof.Rows L2
def Btw (p q t b x y : Int) : Prop := p * y < x * q ∧ x * b < t * y
structure Sim (p q t b N D : Int) : Prop where
  d1 : 1 ≤ D
  n1 : 1 ≤ N
  bt : Btw p q t b N D
  mi : ∀ x y, 1 ≤ y → Btw p q t b x y → D ≤ y ∧ N ≤ x
theorem pos_of_mul {a b : Int} (h : 0 < a * b) (hb : 0 ≤ b) : 0 < a := by
  rcases Int.lt_or_le 0 a with z | z
  · exact z
  · have := Int.mul_le_mul_of_nonneg_right z hb
    rw [Int.zero_mul] at this
    omega
theorem sim_base {p q t b : Int} (hp : 0 ≤ p) (hq : 1 ≤ q) (h : (p / q + 1) * b < t) : Sim p q t b (p / q + 1) 1 := by
  have w0 : 0 ≤ p / q := Int.ediv_nonneg hp (by omega)
  have w1 : p < (p / q + 1) * q := Int.lt_ediv_add_one_mul_self p (by omega)
  have w2 : p / q * q ≤ p := Int.ediv_mul_le p (by omega)
  generalize p / q = w at *
  refine ⟨by omega, by omega, ⟨by omega, by omega⟩, fun x y hy hb => ⟨hy, ?_⟩⟩
  have h1 := Int.mul_le_mul_of_nonneg_right w2 (show 0 ≤ y by omega)
  have h2 : 0 < (x - w * y) * q := by
    have e : w * q * y = w * y * q := by grind
    have := hb.1
    rw [Int.sub_mul]
    omega
  have h3 := pos_of_mul h2 (by omega)
  have h4 := Int.mul_le_mul_of_nonneg_left hy w0
  omega
theorem sim_step {p q t b N D : Int} (hp : 0 ≤ p) (hq : 1 ≤ q) (s : Sim b (t - p / q * b) q (p - p / q * q) N D) : Sim p q t b (p / q * N + D) N := by
  have w0 : 0 ≤ p / q := Int.ediv_nonneg hp (by omega)
  have w2 : p / q * q ≤ p := Int.ediv_mul_le p (by omega)
  generalize p / q = w at *
  obtain ⟨d1, n1, ⟨b1, b2⟩, mi⟩ := s
  have n0 := Int.mul_nonneg w0 (show 0 ≤ N by omega)
  refine ⟨n1, by omega, ⟨by grind, by grind⟩, fun x y hy ⟨g1, g2⟩ => ?_⟩
  have h1 := Int.mul_le_mul_of_nonneg_right w2 (show 0 ≤ y by omega)
  have h2 : 0 < (x - w * y) * q := by grind
  have h3 := pos_of_mul h2 (by omega)
  obtain ⟨m1, m2⟩ := mi y (x - w * y) (by omega) ⟨by grind, by grind⟩
  have h4 := Int.mul_le_mul_of_nonneg_left m2 w0
  exact ⟨m2, by omega⟩
/-- what the loop of wholes says, read backwards -/
def fold2 : List Int → Int × Int → Int × Int
  | [], x => x
  | w :: r, x => (w * (fold2 r x).1 + (fold2 r x).2, (fold2 r x).1)
theorem fold2_snoc (l : List Int) (w N D : Int) : fold2 (l ++ [w]) (N, D) = fold2 l (w * N + D, N) := by
  induction l with
  | nil => rfl
  | cons v r ih =>
    show (v * (fold2 (r ++ [w]) (N, D)).1 + (fold2 (r ++ [w]) (N, D)).2, (fold2 (r ++ [w]) (N, D)).1) = _
    rw [ih]
    rfl
structure Iv (k : Nat) (p q t b : Int) : Prop where
  p0 : 0 ≤ p
  q1 : 1 ≤ q
  b0 : 0 ≤ b
  lt : p * b < t * q
  bp : Bd k p
  bq : Bd k q
  bt : Bd k t
  bb : Bd k b
theorem Iv.mono {k j : Nat} {p q t b : Int} (I : Iv k p q t b) (h : k ≤ j) : Iv j p q t b := ⟨I.p0, I.q1, I.b0, I.lt, I.bp.mono h, I.bq.mono h, I.bt.mono h, I.bb.mono h⟩
theorem Iv.t1 {k : Nat} {p q t b : Int} (I : Iv k p q t b) : 1 ≤ t := by
  have h1 := Int.mul_nonneg I.p0 I.b0
  have h2 := I.lt
  have := pos_of_mul (a := t) (b := q) (by omega) (by have := I.q1; omega)
  omega
theorem Iv.next {k : Nat} {p q t b : Int} (I : Iv k p q t b) (h : t ≤ (p / q + 1) * b) : Iv k b (t - p / q * b) q (p - p / q * q) ∧ 1 ≤ b ∧ t - p / q * b ≤ b ∧ p - p / q * q < q := by
  have t1 := I.t1
  obtain ⟨p0, q1, b0, lt, bp, bq, bt, bb⟩ := I
  have w0 : 0 ≤ p / q := Int.ediv_nonneg p0 (by omega)
  have w1 : p < (p / q + 1) * q := Int.lt_ediv_add_one_mul_self p (by omega)
  have w2 : p / q * q ≤ p := Int.ediv_mul_le p (by omega)
  generalize p / q = w at *
  have b1 : 1 ≤ b := by
    rcases Int.lt_or_le 0 b with z | z
    · exact z
    · have : b = 0 := by omega
      subst this
      rw [Int.mul_zero] at h
      omega
  have h1 : 0 < (t - w * b) * q := by
    have := Int.mul_le_mul_of_nonneg_right w2 b0
    grind
  have h2 := pos_of_mul h1 (by omega)
  have h3 : t - w * b ≤ b := by
    rw [Int.add_mul] at h
    omega
  have h4 : p - w * q < q := by
    rw [Int.add_mul] at w1
    omega
  exact ⟨⟨b0, by omega, by omega, by grind, bb, bb.between (by omega) h3, bq, bq.between (by omega) (by omega)⟩, b1, h3, h4⟩
theorem Iv.med {k : Nat} {p q t b N D : Int} (I : Iv k p q t b) (s : Sim p q t b N D) : D ≤ q + b ∧ N ≤ p + t := by
  have h := I.lt
  have := I.q1
  have := I.b0
  exact s.mi (p + t) (q + b) (by omega) ⟨by grind, by grind⟩
theorem Iv.bds {k : Nat} {p q t b N D : Int} (I : Iv k p q t b) (s : Sim p q t b N D) : Bd (k + 1) N ∧ Bd (k + 1) D := by
  obtain ⟨m1, m2⟩ := I.med s
  have := s.n1
  have := s.d1
  exact ⟨(Bd.add I.bp I.bt).between (by omega) m2, (Bd.add I.bq I.bb).between (by omega) m1⟩
structure Lw (k : Nat) (p0 q0 t0 b0 : Int) (ws : List Int) (p q t b : Int) : Prop where
  iv : Iv k p q t b
  c : ∀ l1 l2, ws = l1 ++ l2 → ∀ N D, Sim p q t b N D → Bd (k + 1) (fold2 l2 (N, D)).1 ∧ Bd (k + 1) (fold2 l2 (N, D)).2
  a : ∀ N D, Sim p q t b N D → Sim p0 q0 t0 b0 (fold2 ws (N, D)).1 (fold2 ws (N, D)).2
  d : ∀ w ∈ ws, Bd k w
  n : (ws = [] ∧ q = q0 ∧ b = b0) ∨ (q ≤ p ∧ (p * b).toNat * 2 ^ ws.length ≤ (2 * (q0 * b0)).toNat)
theorem Lw.init {k : Nat} {p q t b : Int} (I : Iv k p q t b) : Lw k p q t b [] p q t b :=
  ⟨I, fun l1 l2 e N D s => by
    have : l2 = [] := (List.append_eq_nil_iff.mp e.symm).2
    subst this
    exact I.bds s, fun N D s => s, fun w hw => by simp at hw, .inl ⟨rfl, rfl, rfl⟩⟩
theorem Lw.next {k : Nat} {p0 q0 t0 b0 p q t b : Int} {ws : List Int} (L : Lw k p0 q0 t0 b0 ws p q t b) (h : t ≤ (p / q + 1) * b) : Lw k p0 q0 t0 b0 (ws ++ [p / q]) b (t - p / q * b) q (p - p / q * q) := by
  have I := L.iv
  obtain ⟨I2, b1, h3, h4⟩ := I.next h
  have st : ∀ N D, Sim b (t - p / q * b) q (p - p / q * q) N D → Sim p q t b (p / q * N + D) N := fun N D s => sim_step I.p0 I.q1 s
  refine ⟨I2, fun l1 l2 e N D s => ?_, fun N D s => ?_, fun w hw => ?_, .inr ⟨h3, ?_⟩⟩
  · rcases List.eq_nil_or_concat l2 with rfl | ⟨l', w', rfl⟩
    · exact I2.bds s
    · rw [List.concat_eq_append, ← List.append_assoc] at e
      obtain ⟨e1, e2⟩ := List.append_inj' e rfl
      have e3 : p / q = w' := by simpa using e2
      rw [List.concat_eq_append, ← e3, fold2_snoc]
      exact L.c l1 l' e1 _ _ (st N D s)
  · rw [fold2_snoc]
    exact L.a _ _ (st N D s)
  · rcases List.mem_append.mp hw with z | z
    · exact L.d w z
    · rw [List.mem_singleton.mp z]
      exact I.bp.ediv (by have := I.q1; omega)
  · have r0 := I2.b0
    rw [List.length_append, List.length_singleton, Nat.pow_succ]
    rcases L.n with ⟨rfl, rfl, rfl⟩ | ⟨hq, hn⟩
    · have := Int.mul_le_mul_of_nonneg_left (show p - p / q * q ≤ q by omega) (show 0 ≤ b by omega)
      rw [Int.mul_comm q b]
      simp only [List.length_nil, Nat.pow_zero, Nat.one_mul]
      generalize b * (p - p / q * q) = x at *
      generalize b * q = y at *
      omega
    · refine Nat.le_trans ?_ hn
      rw [Nat.mul_comm (2 ^ ws.length) 2, ← Nat.mul_assoc]
      refine Nat.mul_le_mul_right _ ?_
      have w1 : 1 ≤ p / q := Int.le_ediv_of_mul_le (by have := I.q1; omega) (by omega)
      have h5 := Int.mul_le_mul_of_nonneg_right w1 (show 0 ≤ q by have := I.q1; omega)
      have h6 := Int.mul_le_mul_of_nonneg_left (show 2 * (p - p / q * q) ≤ p by omega) (show 0 ≤ b by omega)
      generalize p - p / q * q = r at *
      have e1 : b * (2 * r) = 2 * (b * r) := by grind
      rw [e1, Int.mul_comm b p] at h6
      have := Int.mul_nonneg (show 0 ≤ b by omega) r0
      generalize b * r = x at *
      generalize p * b = y at *
      omega
theorem Lw.len {k : Nat} {p0 q0 t0 b0 p q t b : Int} {ws : List Int} (L : Lw k p0 q0 t0 b0 ws p q t b) (b1 : 1 ≤ b) (bq : Bd k q0) (bb : Bd k b0) : ws.length < 2 * k + 2 := by
  rcases L.n with ⟨rfl, _⟩ | ⟨hq, hn⟩
  · simp
  · have B1 : Bd (k + k + 1) (2 * (q0 * b0)) := by
      have := Bd.add (Bd.mul bq bb) (Bd.mul bq bb)
      rw [show 2 * (q0 * b0) = q0 * b0 + q0 * b0 by omega]
      exact this
    have p1 : 1 ≤ p * b := by
      have := Int.mul_le_mul (show 1 ≤ p by have := L.iv.q1; omega) b1 (by omega) (by have := L.iv.p0; omega)
      omega
    unfold Bd at B1
    have h2 : 2 ^ ws.length ≤ (p * b).toNat * 2 ^ ws.length := Nat.le_mul_of_pos_left _ (by omega)
    have h3 : 2 ^ ws.length < 2 ^ (k + k + 1) := by omega
    have := (Nat.pow_lt_pow_iff_right (by decide)).mp h3
    omega
section
variable {P : Program} {w : World} {K : PySem.W.Frag} {mg : Str → Option Value} {base : Heap}
/-! ### rates -/
structure Rt (k : Nat) (p q : Int) : Prop where
  p0 : 0 ≤ p
  q1 : 1 ≤ q
  g : Int.gcd p q = 1
  bp : Bd k p
  bq : Bd k q
theorem Rt.mono {k j : Nat} {p q : Int} (h : Rt k p q) (e : k ≤ j) : Rt j p q := ⟨h.p0, h.q1, h.g, h.bp.mono e, h.bq.mono e⟩
abbrev tup2 (p q : Int) : HO := .tup [.int p, .int q]
def spIsRate : Sp := fun vs H Q _ => ∃ (r : Addr) (p q : Int) (k : Nat), vs = [.ref r] ∧ H r = some (tup2 p q) ∧ Rt k p q ∧ Q (.bl true) H
def spCheckRate : Sp := fun vs H Q _ => ∃ (r : Addr) (p q : Int) (k : Nat), vs = [.ref r] ∧ H r = some (tup2 p q) ∧ Rt k p q ∧ Q .non H
/-! ### simplest_inside -/
def spInside : Sp := fun vs H Q _ => ∃ (l h : Addr) (p q t b : Int) (k : Nat), vs = [.ref l, .ref h] ∧ H l = some (tup2 p q) ∧ H h = some (tup2 t b) ∧ Iv k p q t b ∧ 0 < k ∧ k ≤ 2000 ∧
  ∀ r H' N D, Same H H' → H r = none → H' r = some (tup2 N D) → Sim p q t b N D → Bd (k + 1) N → Bd (k + 1) D → Q (.ref r) H'
def muF : L2.St → Hp → Nat := fun σ _ => match σ with
  | _ :: _ :: _ :: some (.int q) :: _ :: some (.int b) :: _ => (q + b).toNat
  | _ => 0
end
end Lf
namespace Lf
open PySem PySem.Spec PyProof.Rows L2
/-- repr of an int or of None -/
theorem repr_some {X : Cx} : CallR X (.builtin "repr") (fun xs H Q => (∃ i : Int, xs = [.int i] ∧ i.natAbs.log2 < 1920 ∧ Q (.str (toString i)) H) ∨ (xs = [.non] ∧ Q (.str "None") H)) := by
  intro pins s σ H xs us Q I rel h
  rcases h with h | ⟨rfl, hq⟩
  · exact SkE.call_repr_int pins s σ H xs us Q I rel h
  · obtain ⟨u, hu, ru⟩ := vals1 rel
    subst hu
    have eu : u = Value.none := ru
    subst eu
    exact PySem.P.repr_of_none ⟨.str "None", H, I.tok _, ⟨_, rfl⟩, hq⟩
theorem cut_take (xs : List V) (m : Int) (h : 0 ≤ m) : cutV xs none (some m) = xs.take m.toNat := by
  obtain ⟨n, rfl⟩ := Int.eq_ofNat_of_zero_le h
  unfold cutV
  rw [HT.sIx_none, show HT.sIx xs.length xs.length (some ((n : Nat) : Int)) = min n xs.length from HT.sIx_nat _ _ n, List.drop_zero, Nat.sub_zero]
  show xs.take (min n xs.length) = xs.take n
  by_cases hn : n ≤ xs.length
  · rw [Nat.min_eq_left hn]
  · rw [Nat.min_eq_right (by omega), List.take_of_length_le (Nat.le_refl _), List.take_of_length_le (by omega)]
theorem flat_ints (ns : List Int) : (ns.map V.int).all flatV = true := by
  induction ns with
  | nil => rfl
  | cons n r ih => simpa [flatV] using ih
theorem inV_ints (ns : List Int) (k : Int) : inV (V.int k) (ns.map V.int) = decide (k ∈ ns) := by
  induction ns with
  | nil => rfl
  | cons n r ih =>
    have ih' : ((r.map V.int).any fun y => eqV y (V.int k)) = decide (k ∈ r) := ih
    show (eqV (V.int n) (V.int k) || (r.map V.int).any fun y => eqV y (V.int k)) = decide (k ∈ n :: r)
    rw [ih']
    by_cases h : n = k
    · subst h
      simp [eqV]
    · have h' : ¬ k = n := fun z => h z.symm
      simp [eqV, h, h']
end Lf
namespace Lf
open PySem PySem.Spec PyProof.Rows L2
theorem obs_cut {α : Type} {O : α → HO} {H : Hp} {vs : List V} {ds : List α} (h : Obs O H vs ds) (lo hi : Option Int) : ∃ es, Obs O H (cutV vs lo hi) es ∧ (∀ d ∈ es, d ∈ ds) ∧ es.length ≤ ds.length := by
  unfold cutV
  generalize HT.sIx vs.length 0 lo = i
  generalize HT.sIx vs.length vs.length hi - i = j
  refine ⟨(ds.drop i).take j, (h.drop i).take j, fun d hd => List.mem_of_mem_drop (List.mem_of_mem_take hd), ?_⟩
  rw [List.length_take, List.length_drop]
  omega
theorem at_map {cs : List Int} {i : Nat} {x : V} (h : (cs.map V.int)[i]? = some x) : ∃ c, c ∈ cs ∧ x = .int c := by
  rw [List.getElem?_map] at h
  cases e : cs[i]? with
  | none =>
    rw [e] at h
    cases h
  | some c =>
    rw [e] at h
    cases h
    exact ⟨c, List.mem_of_getElem? e, rfl⟩
theorem in_words (b : Bool) : inV (.str (wd b)) [.str "at least", .str "at most"] = true := by
  cases b <;> decide +kernel
theorem kit_lt {K : PySem.W.Frag} : PySem.W.kitAny K (.type "list") [.type "list", .type "tuple"] = some true :=
  kitAny_cons (b := true) (kit_ty (by decide +kernel)) (fun z => by cases z) (fun _ => rfl)
def lph (p q : Int) (ds : List Rec) : List Int := (sel true 0 ds).map fun x => x.2.2 * q - p * x.2.1
def hph (p q : Int) (ds : List Rec) : List Int := (sel false 0 ds).map fun x => (x.2.2 + 1) * q - p * x.2.1 - 1
def okPh : Option Int → Option Int → Bool
  | some x, some y => decide (x ≤ y)
  | _, _ => true
theorem mx_uniq {l : List Int} {a b : Option Int} (h : IsMx l a) (h2 : IsMx l b) : a = b := by
  cases a with
  | none =>
    cases b with
    | none => rfl
    | some y =>
      have e : l = [] := h
      subst e
      cases h2.1
  | some x =>
    cases b with
    | none =>
      have e : l = [] := h2
      subst e
      cases h.1
    | some y =>
      have h1 := h.2 y h2.1
      have h3 := h2.2 x h.1
      rw [show x = y by omega]
theorem mn_uniq {l : List Int} {a b : Option Int} (h : IsMn l a) (h2 : IsMn l b) : a = b := by
  cases a with
  | none =>
    cases b with
    | none => rfl
    | some y =>
      have e : l = [] := h
      subst e
      cases h2.1
  | some x =>
    cases b with
    | none =>
      have e : l = [] := h2
      subst e
      cases h.1
    | some y =>
      have h1 := h.2 y h2.1
      have h3 := h2.2 x h.1
      rw [show x = y by omega]
def fitB (p q c : Int) (d : Rec) : Bool := if d.lo = true then decide (d.n ≤ (p * d.t + c) / q) else decide ((p * d.t + c) / q ≤ d.n)
structure Bc (mg : Str → Option Value) : Prop where
  most_ : ∃ t, mg "MOST_RECORDS" = some (.int 200 t)
section
variable {P : Program} {w : World} {K : PySem.W.Frag} {mg : Str → Option Value} {base : Heap}
/-! ### is_record, check_records -/
def spIsRec : Sp := fun vs H Q _ => ∃ (r : Addr) (d : Rec), vs = [.ref r] ∧ H r = some (rcO d) ∧ ∀ H', Same H H' → Q (.bl true) H'
abbrev s_is_record : Stmt := topS 11
abbrev N_is_record : List Str := ["value"]
abbrev P_is_record : List Str := ["value"]
theorem sc_is_record : FnScope N_is_record P_is_record (defScope s_is_record) := ⟨rfl, rfl, rfl, by decide +kernel, rfl, by decide +kernel, by decide +kernel⟩
theorem ok_is_record (D : Df K mg "is_record" s_is_record P_is_record) (B : Bi mg) (c_is_integer : C8.Cal P w K mg base 1 "is_integer" spIsInt []) : C8.Cal P w K mg base 2 "is_record" spIsRec [] := by
  refine cal_of D sc_is_record (fun vs H Q E h => ?_) (fun f cdv A outer s H vs Q E hr h => ?_)
  · obtain ⟨r, d, rfl, _⟩ := h
    rfl
  · obtain ⟨r, d, rfl, er, kk⟩ := h
    refine ⟨_, (pss_cons (ps_if (PW.pt (pw_or (pt_not (pt_val (pe_callB (call_isi) (by rfl) B.isinstance_ bt_isinstance (pa_cons (pv 0) (pa_cons (pe_bltn (v := .ty "tuple") (by rfl) B.tuple_ bt_tuple rfl) pa_nil))))) (pw_or1 (pt_cmpR op_ne (pe_callB (call_len_seq) (by rfl) B.len_ bt_len (pa_cons (pv 0) pa_nil)) pe_int (nomark _)))))
      (pss_one (ps_ret pe_bl))
      pss_nil)
    (pss_one (ps_ret (pe_and (pe_cmpR op_in_seq (pe_ix (r := rIxT K) ix_tup (pv 0) pe_int (fun _ _ => rfl)) (pe_tup (pa_cons pe_str (pa_cons pe_str pa_nil))) rfl) (pe_and (C8.pe_c c_is_integer hr (by decide) (by rfl) (pa_cons (pe_ix (r := rIxT K) ix_tup (pv 0) pe_int (fun _ _ => rfl)) pa_nil)) (pe_one (C8.pe_c c_is_integer hr (by decide) (by rfl) (pa_cons (pe_ix (r := rIxT K) ix_tup (pv 0) pe_int (fun _ _ => rfl)) pa_nil)))))))), ?_⟩
    refine ⟨_, rfl, _, _, _, _, true, rfl, .ty "tuple", .base (.tup er), kit_ty ktt, true, rfl, iteF ?_⟩
    refine ⟨_, rfl, r, _, rfl, .inr (SqT.of er), rfl, _, rfl, iteNS rfl ?_⟩
    refine ⟨_, rfl, r, _, _, _, rfl, rfl, SqT.of er, atI_nat (j := 0) rfl, len10 (by simp), fun p np => ?_⟩
    have er1 := sm_upd (o := .tup [.str "at least", .str "at most"]) np _ _ er
    refine ⟨p, _, rfl, .inr (SqT.of upd_same), rfl, rfl, _, rfl, iteTs (in_words d.lo) ?_⟩
    refine ⟨_, rfl, r, _, _, _, rfl, rfl, SqT.of er1, atI_nat (j := 1) rfl, d.t, rfl, true, rfl, iteT ?_⟩
    refine ⟨_, rfl, r, _, _, _, rfl, rfl, SqT.of er1, atI_nat (j := 2) rfl, d.n, rfl, ?_⟩
    exact kk _ (sm_upd np)
def spCkRec : Sp := fun vs H Q _ => ∃ (L : Addr) (xs : List V) (ds : List Rec), vs = [.ref L] ∧ H L = some (.lst xs) ∧ Obs rcO H xs ds ∧ ds.length ≤ 200 ∧ ∀ H', Same H H' → Q .non H'
abbrev s_check_records : Stmt := topS 14
abbrev N_check_records : List Str := ["value", "index", "item"]
abbrev P_check_records : List Str := ["value"]
theorem sc_check_records : FnScope N_check_records P_check_records (defScope s_check_records) := ⟨rfl, rfl, rfl, by decide +kernel, rfl, by decide +kernel, by decide +kernel⟩
theorem ok_check_records (D : Df K mg "check_records" s_check_records P_check_records) (B : Bi mg) (U : Bc mg) (c_is_record : C8.Cal P w K mg base 2 "is_record" spIsRec []) : C8.Cal P w K mg base 3 "check_records" spCkRec [] := by
  refine cal_of D sc_check_records (fun vs H Q E h => ?_) (fun f cdv A outer s H vs Q E hr h => ?_)
  · obtain ⟨L, xs, ds, rfl, _⟩ := h
    rfl
  · obtain ⟨L, xs, ds, rfl, eL, hO, hl, kk⟩ := h
    obtain ⟨tM, hc_MOST_RECORDS⟩ := U.most_
    refine ⟨_, (pss_cons (ps_if (PW.pt (pw_or (pt_not (pt_val (pe_callB (call_isiT) (by rfl) B.isinstance_ bt_isinstance (pa_cons (pv 0) (pa_cons (pe_tup (pa_cons (pe_bltn (v := .ty "list") (by rfl) B.list_ bt_list rfl) (pa_cons (pe_bltn (v := .ty "tuple") (by rfl) B.tuple_ bt_tuple rfl) pa_nil))) pa_nil))))) (pw_or1 (pt_cmpR op_gt (pe_callB (call_len_seq) (by rfl) B.len_ bt_len (pa_cons (pv 0) pa_nil)) (pe_glob (v := .int 200) (by rfl) hc_MOST_RECORDS ⟨_, rfl⟩) (nomark _)))))
      (pss_one ps_never)
      pss_nil)
    (pss_one (ps_for PassesOwn.never rfl (pi_enum (by rfl) B.enumerate_ (pa_cons (pv 0) pa_nil)) (pg_tup rfl (pgs_cons (pg_name (i := 1) sc_check_records.nd rfl (Or.inl rfl)) (pgs_cons (pg_name (i := 2) sc_check_records.nd rfl (Or.inl rfl)) pgs_nil)))
      (pss_one (ps_if (pt_not (pt_val (C8.pe_c c_is_record hr (by decide) (by rfl) (pa_cons (pv 2) pa_nil))))
      (pss_one ps_never)
      pss_nil))))), ?_⟩
    refine ⟨_, rfl, len10 (by simp), fun tp ntp => ?_⟩
    have s1 := sm_upd (o := .tup [.ty "list", .ty "tuple"]) ntp
    refine ⟨_, tp, _, _, _, true, rfl, upd_same, .cons (.ty "list") (.cons (.ty "tuple") .nil), .base (.lst (s1 _ _ eL)), kit_lt, true, rfl, iteF ?_⟩
    refine ⟨_, rfl, L, _, rfl, .inl (SqL.of (s1 _ _ eL)), _, _, rfl, rfl, _, rfl, iteDn (by rw [hO.len]; omega) ?_⟩
    generalize upd H tp (.tup [.ty "list", .ty "tuple"]) = H1 at s1
    refine ⟨_, rfl, L, _, rfl, SqL.of (s1 _ _ eL), ?_⟩
    refine for_it (walk_enum (K := K) (a := L) (xs := xs)) (fun i σ H' => ∃ (y1 y2 : Option V), σ = [some (.ref L), y1, y2] ∧ Same H H') ⟨_, _, rfl, s1⟩ ?_ ?_ ?_
    · rintro i σ H2 _ ⟨_, _, _, s2⟩
      exact SqL.of (s2 _ _ eL)
    · rintro i v σ H2 H3 hi ⟨y1, y2, rfl, s2⟩ ⟨T, x, y, rfl, nT, rfl, hx, hy⟩
      cases hx
      obtain ⟨r, d, rfl, er, _⟩ := hO.at hy
      have s3 := s2.trans (sm_upd (o := .tup [.int (i : Nat), .ref r]) nT)
      refine ⟨T, _, rfl, SqT.of upd_same, rfl, _, _, rfl, _, _, rfl, rfl, ?_⟩
      refine ⟨_, rfl, r, d, rfl, s3 _ _ er, fun H4 s4 => ⟨true, rfl, iteF ?_⟩⟩
      exact ⟨_, _, rfl, s3.trans s4⟩
    · rintro σ H2 ⟨_, _, rfl, s2⟩
      exact kk _ s2
/-! ### split_records -/
def spSplit : Sp := fun vs H Q _ => ∃ (L : Addr) (xs : List V) (ds : List Rec), vs = [.ref L] ∧ H L = some (.lst xs) ∧ Obs rcO H xs ds ∧ ds.length ≤ 1000 ∧
  ∀ T H' A B as bs, Same H H' → H' T = some (.tup [.ref A, .ref B]) → H' A = some (.lst as) → Obs trO H' as (sel true 0 ds) → H' B = some (.lst bs) → Obs trO H' bs (sel false 0 ds) → Q (.ref T) H'
end
end Lf
namespace Lf
open PySem PySem.Spec PyProof.Rows L2
/-! ### checks of integers: any value -/
def atLeast (l : Int) : PyData → Bool
  | .int i => decide (l ≤ i)
  | _ => false
theorem isI_b {d : PyData} (h : isI d = true) : isIB d = true ∧ isB d = false := by
  cases d <;> first | exact ⟨rfl, rfl⟩ | cases h
section
variable {P : Program} {w : World} {K : PySem.W.Frag} {mg : Str → Option Value} {base : Heap} {C : Addr}
def spIsAny : Sp := fun vs H Q _ => ∃ (v : V) (d : PyData), vs = [v] ∧ Dv H v d ∧ Q (.bl (isI d)) H
theorem okA_is_integer (D : Df K mg "is_integer" s_is_integer P_is_integer) (B : Bi mg) : C8.Cal P w K mg base 1 "is_integer" spIsAny [] := by
  refine cal_of D sc_is_integer (fun vs H Q E h => ?_) (fun f cdv A outer s H vs Q E hr h => ?_)
  · obtain ⟨v, d, rfl, _⟩ := h
    rfl
  · obtain ⟨v, d, rfl, dv, q⟩ := h
    refine ⟨_, (pss_one (ps_ret (pe_and (pe_callB (call_isi) (by rfl) B.isinstance_ bt_isinstance (pa_cons (pv 0) (pa_cons (pe_bltn (v := .ty "int") (by rfl) B.int_ bt_int rfl) pa_nil))) (pe_one (pe_not (pe_callB (call_isi) (by rfl) B.isinstance_ bt_isinstance (pa_cons (pv 0) (pa_cons (pe_bltn (v := .ty "bool") (by rfl) B.bool_ bt_bool rfl) pa_nil)))))))), ?_⟩
    refine ⟨_, rfl, _, _, _, _, isIB d, rfl, .ty "int", dv.ty, kit_ty (kit_int d), isIB d, rfl, ?_⟩
    by_cases hb : isIB d = true
    · rw [if_pos hb]
      refine ⟨_, rfl, _, _, _, _, isB d, rfl, .ty "bool", dv.ty, kit_ty (kit_bool d), isB d, rfl, ?_⟩
      have e : (!isB d) = isI d := by
        cases d <;> first | rfl | cases hb
      rw [e]
      exact q
    · rw [if_neg hb]
      have e : isI d = false := by
        cases d <;> first | rfl | exact absurd rfl hb
      rw [e] at q
      exact q
/-- InvalidNumber, with the value -/
def Out (C : Addr) (v : V) (H : Hp) (E : XK) : Prop := ∀ dd, H dd = none → E (.ref C) (some dd) (upd H dd (.xd [("value", v)]))
def spCkI (C : Addr) : Sp := fun vs H Q E => ∃ (v : V) (d : PyData), vs = [v] ∧ Dv H v d ∧ (isI d = true → Q .non H) ∧ (isI d = false → Out C v H E)
theorem okx_check_integer (D : Df K mg "check_integer" s_check_integer P_check_integer) (T : ValC P K mg C "InvalidNumber" "value") (cA_is_integer : C8.Cal P w K mg base 1 "is_integer" spIsAny []) : CalX P w K mg base 3 "check_integer" (spCkI C) := by
  refine calx_of D sc_check_integer (fun vs H Q E h => ?_) (fun f cdv A outer s H vs Q E hr h => ?_)
  · obtain ⟨v, d, rfl, _⟩ := h
    rfl
  · obtain ⟨v, d, rfl, dv, hq, he⟩ := h
    have c_is_integer := cA_is_integer
    refine ⟨_, (pss_one (ps_if (pt_not (pt_val (C8.pe_c c_is_integer hr (by decide) (by rfl) (pa_cons (pv 0) pa_nil))))
      (pss_one (ps_raise rfl (takes_of rfl rfl rfl rfl) (pmk_val T hr (by decide) rfl (pv 0))))
      pss_nil)), ?_⟩
    refine ⟨_, rfl, v, d, rfl, dv, isI d, rfl, ?_⟩
    cases hd : isI d with
    | true => exact iteF (hq hd)
    | false => exact iteT ⟨_, rfl, mkv (he hd)⟩
def spCkL (C : Addr) : Sp := fun vs H Q E => ∃ (v : V) (d : PyData) (l : Int), vs = [v, .int l] ∧ Dv H v d ∧ (atLeast l d = true → Q .non H) ∧ (atLeast l d = false → Out C v H E)
end
end Lf
namespace Lf
open PySem PySem.Spec PyProof.Rows L2
/-! ### records: any value -/
/-- x in a tuple whose items are data of any depth -/
def rInDT (K : PySem.W.Frag) : R2 := fun x y H Q => ∃ d ds, Dp K H x d ∧ Dp K H y (.tuple ds) ∧ SeqAt.shaped d = true ∧ SeqAt.shaped (.tuple ds) = true ∧ Q (.bl (ds.any fun z => PyData.eqv z d)) H
theorem op_inDT {X : Cx} (hu : X.A.units + 65 < cLine) : OpR X (compareOp .In) (rInDT X.K) := by
  intro pins s σ H x y v u Q I rx ry h
  obtain ⟨d, ds, hd, he, sd, se, q⟩ := h
  obtain ⟨as, r1⟩ := Dp.reads I d x v hd rx
  obtain ⟨bs, r2⟩ := Dp.reads I (.tuple ds) y u he ry
  exact SeqAt.in_tuple_reads r2 r1 (SeqAt.canLay_of_shaped se) (SeqAt.canLay_of_shaped sd) (room_in_shaped sd hu) ⟨.bl _, H, I, rfl, q⟩
mutual
theorem Dv.dp {K : PySem.W.Frag} {H : Hp} : ∀ (d : PyData) (v : V), Dv H v d → d.hasDict = false → Dp K H v d
  | .none, _, .non, _ => .non
  | .bool _, _, .bl b, _ => .bl b
  | .int _, _, .int i, _ => .int i
  | .str _, _, .str x, _ => .str x
  | .list ds, _, .lst _ h hs, n => .lst (SqL.of h) (Dv.dpAll ds _ hs (by simpa [PyData.hasDict] using n))
  | .tuple ds, _, .tup h hs, n => .tup (SqT.of h) (Dv.dpAll ds _ hs (by simpa [PyData.hasDict] using n))
  | .dict [], _, .dk0 h, n => by simp [PyData.hasDict] at n
  | .dict [(.str _, d)], _, .dk1 h h2, n => by simp [PyData.hasDict] at n
theorem Dv.dpAll {K : PySem.W.Frag} {H : Hp} : ∀ (ds : List PyData) (vs : List V), DvAll H vs ds → PyData.hasDictAll ds = false → DpAll K H vs ds
  | [], _, .nil, _ => .nil
  | d :: ds, _, .cons h hs, n => by
    have n : d.hasDict = false ∧ PyData.hasDictAll ds = false := by simpa [PyData.hasDictAll] using n
    exact .cons (Dv.dp d _ h n.1) (Dv.dpAll ds _ hs n.2)
end
def words : List PyData := [.str "at least", .str "at most"]
def recB : PyData → Bool
  | .tuple [d0, d1, d2] => words.any (fun z => PyData.eqv z d0) && (isI d1 && isI d2)
  | _ => false
/-- its first part may be looked for -/
def rgB : PyData → Bool
  | .tuple [d0, _, _] => !d0.hasDict && SeqAt.shaped d0
  | _ => true
theorem rec_three {ds : List PyData} (h : ds.length ≠ 3) : recB (.tuple ds) = false := by
  match ds, h with
  | [], _ => rfl
  | [_], _ => rfl
  | [_, _], _ => rfl
  | [_, _, _], h => exact absurd rfl h
  | _ :: _ :: _ :: _ :: _, _ => rfl
theorem len_ne3 {n : Nat} (h : n ≠ 3) : (!decide (V.int (n : Int) = V.int 3)) = true := by
  have : ¬ V.int (n : Int) = V.int 3 := fun z => h (by
    have := V.int.inj z
    omega)
  rw [decide_eq_false this]
  rfl
def isT' : PyData → Bool
  | .tuple _ => true
  | _ => false
theorem kit_tup' (d : PyData) : kitB (tyN d) "tuple" = some (isT' d) := by
  cases d
  · show kitB "NoneType" "tuple" = some false; decide +kernel
  · show kitB "bool" "tuple" = some false; decide +kernel
  · show kitB "int" "tuple" = some false; decide +kernel
  · show kitB "str" "tuple" = some false; decide +kernel
  · show kitB "list" "tuple" = some false; decide +kernel
  · show kitB "tuple" "tuple" = some true; decide +kernel
  · show kitB "dict" "tuple" = some false; decide +kernel
theorem dva_length {H : Hp} {vs : List V} {ds : List PyData} (h : DvAll H vs ds) : vs.length = ds.length := by
  induction ds generalizing vs with
  | nil =>
    cases h
    rfl
  | cons d ds ih =>
    cases h with
    | cons _ h2 => rw [List.length_cons, List.length_cons, ih h2]
/-- the exception, with what it keeps -/
def OutY (C : Addr) (x : Str) (v : V) (H : Hp) (E : XK) : Prop := ∀ dd, H dd = none → E (.ref C) (some dd) (upd H dd (.xd [(x, v)]))
def opp (d : Rec) : Rec := ⟨!d.lo, d.t, if d.lo = true then d.n - 1 else d.n + 1⟩
section
variable {P : Program} {w : World} {K : PySem.W.Frag} {mg : Str → Option Value} {base : Heap} {C : Addr}
def spIsRecD : Sp := fun vs H Q _ => ∃ (v : V) (d : PyData), vs = [v] ∧ Dv H v d ∧ rgB d = true ∧ ∀ H', Same H H' → Q (.bl (recB d)) H'
theorem okA_is_record (D : Df K mg "is_record" s_is_record P_is_record) (B : Bi mg) (cA_is_integer : C8.Cal P w K mg base 1 "is_integer" spIsAny []) : C8.Cal P w K mg base 2 "is_record" spIsRecD [] := by
  refine cal_of D sc_is_record (fun vs H Q E h => ?_) (fun f cdv A outer s H vs Q E hr h => ?_)
  · obtain ⟨v, d, rfl, _⟩ := h
    rfl
  · obtain ⟨v, d, rfl, dv, rg, kk⟩ := h
    have c_is_integer := cA_is_integer
    have hu : (A.deeper (envOfC "is_record" (defScope s_is_record) s.heap.objs.size f cdv)).units + 65 < cLine := by
      have := hr.un
      omega
    refine ⟨_, (pss_cons (ps_if (PW.pt (pw_or (pt_not (pt_val (pe_callB (call_isi) (by rfl) B.isinstance_ bt_isinstance (pa_cons (pv 0) (pa_cons (pe_bltn (v := .ty "tuple") (by rfl) B.tuple_ bt_tuple rfl) pa_nil))))) (pw_or1 (pt_cmpR op_ne (pe_callB (call_len_seq) (by rfl) B.len_ bt_len (pa_cons (pv 0) pa_nil)) pe_int (nomark _)))))
      (pss_one (ps_ret pe_bl))
      pss_nil)
    (pss_one (ps_ret (pe_and (pe_cmpR (op_inDT hu) (pe_ix (r := rIxT K) ix_tup (pv 0) pe_int (fun _ _ => rfl)) (pe_tup (pa_cons pe_str (pa_cons pe_str pa_nil))) rfl) (pe_and (C8.pe_c c_is_integer hr (by decide) (by rfl) (pa_cons (pe_ix (r := rIxT K) ix_tup (pv 0) pe_int (fun _ _ => rfl)) pa_nil)) (pe_one (C8.pe_c c_is_integer hr (by decide) (by rfl) (pa_cons (pe_ix (r := rIxT K) ix_tup (pv 0) pe_int (fun _ _ => rfl)) pa_nil)))))))), ?_⟩
    refine ⟨_, rfl, _, _, _, _, isT' d, rfl, .ty "tuple", dv.ty, kit_ty (kit_tup' d), isT' d, rfl, ?_⟩
    cases ht : isT' d with
    | false =>
      have e : recB d = false := by
        cases d <;> first | rfl | cases ht
      rw [e] at kk
      exact iteT (iteT (kk _ (Same.refl _)))
    | true =>
      cases dv with
      | tup er hs =>
        rename_i r xs ds
        refine iteF ⟨_, rfl, r, _, rfl, .inr (SqT.of er), rfl, _, rfl, ?_⟩
        have hl := dva_length hs
        by_cases h3 : xs.length = 3
        · match xs, ds, hs, h3, hl with
          | [v0, v1, v2], [d0, d1, d2], hs, _, _ =>
            cases hs with
            | cons g0 hs =>
              cases hs with
              | cons g1 hs =>
                cases hs with
                | cons g2 hs =>
                  have rg : (!d0.hasDict && SeqAt.shaped d0) = true := rg
                  rw [Bool.and_eq_true] at rg
                  have nd : d0.hasDict = false := by
                    have := rg.1
                    cases h : d0.hasDict with
                    | false => rfl
                    | true =>
                      rw [h] at this
                      cases this
                  refine iteNS rfl ?_
                  refine ⟨_, rfl, r, _, _, _, rfl, rfl, SqT.of er, atI_nat (j := 0) rfl, len10 (by simp), fun p np => ?_⟩
                  have z := sm_upd (o := .tup [.str "at least", .str "at most"]) np
                  have er1 := z _ _ er
                  have kz := (Fr.same z).kp
                  refine ⟨d0, words, Dv.dp d0 _ (Dv.kp kz _ _ g0) nd, Dp.tup (SqT.of upd_same) (.cons (.str _) (.cons (.str _) .nil)), rg.2, by decide +kernel, _, rfl, ?_⟩
                  have kk : ∀ H', Same H H' → Q (.bl (words.any (fun z => PyData.eqv z d0) && (isI d1 && isI d2))) H' := kk
                  cases c0 : words.any (fun z => PyData.eqv z d0) with
                  | false =>
                    rw [c0] at kk
                    exact iteF (kk _ z)
                  | true =>
                    rw [c0] at kk
                    refine iteT ⟨_, rfl, r, _, _, _, rfl, rfl, SqT.of er1, atI_nat (j := 1) rfl, v1, d1, rfl, Dv.kp kz _ _ g1, isI d1, rfl, ?_⟩
                    cases c1 : isI d1 with
                    | false =>
                      rw [c1] at kk
                      exact iteF (kk _ z)
                    | true =>
                      rw [c1] at kk
                      refine iteT ⟨_, rfl, r, _, _, _, rfl, rfl, SqT.of er1, atI_nat (j := 2) rfl, v2, d2, rfl, Dv.kp kz _ _ g2, ?_⟩
                      exact kk _ z
        · rw [rec_three (by omega)] at kk
          exact iteTs (len_ne3 h3) (kk _ (Same.refl _))
      | _ => cases ht
/-! ### opposite -/
def spOpp : Sp := fun vs H Q _ => ∃ (r : Addr) (d : Rec), vs = [.ref r] ∧ H r = some (rcO d) ∧ ∀ e H', Same H H' → H' e = some (rcO (opp d)) → Q (.ref e) H'
def spOppX (C : Addr) : Sp := fun vs H _ E => ∃ (v : V) (d : PyData), vs = [v] ∧ Dv H v d ∧ rgB d = true ∧ recB d = false ∧ ∀ H', Same H H' → OutY C "index" (.int 0) H' E
end
/-- n.x of an exception that a name keeps -/
theorem pe_xk {Y : Cx} {a C : Addr} {oe : Obj} {cls : Value} {d : Option Addr} {e : Expr} {te : TE} {pos : Pos} {n : Str} (T : XfC Y.K C) (hno : PySem.W.findIn Y.K (.ref C) n = some none)
    (hz : Zc cls d oe) (hf : ∃ vs, oe.data = .fields vs) (hin : (a, oe) ∈ Y.pn) (he : PE Y e te) (hb : attributeBase e n Y.env (eval e Y.env) = eval e Y.env := by rfl) : PE Y (.Attribute e n pos) (tXf a cls d C n te) := by
  constructor
  intro pins s σ H Q I h
  refine attr_of hb (thn (he.run pins s σ H _ I h) fun u s1 hh => ?_)
  obtain ⟨x, H1, J1, rx, ex, ec, dd, fs, v, ed, ea, l, q⟩ := hh
  subst ex ec ed
  obtain rfl : u = Value.ref a := rx
  obtain ⟨there, _⟩ := J1.pin (a, oe) (List.mem_append_left _ hin)
  obtain ⟨vs, hd⟩ := hf
  obtain ⟨mA, hns, hr⟩ := (show ObjOk Y.prog Y.w H1 s1.heap dd (.xd fs) from J1.hok dd _ ea)
  obtain ⟨od, ho, hl⟩ := lookIn_ns hns
  obtain ⟨u, hu, ru⟩ := RelO.some_of (v := v) (o := mA n) (by rw [← l]; exact hr n)
  have inst : PySem.W.InstAt s1.heap a oe C (some od) := ⟨there, hz.1, by unfold PySem.W.notCls; rw [hd] <;> rfl, by rw [hz.2]; exact ho⟩
  have found := PySem.W.findObj_own T.hdC hno rfl (by rw [hl, hu])
  exact HandSPX.exc_get J1.kIn inst T.ga T.gg T.exC found (handed_of ru) ⟨v, H1, J1.tok _, ru, q⟩
end Lf
namespace Lf
open PySem PySem.Spec PyProof.Rows L2
def Odp (Pd : PyData → Prop) (H : Hp) (x : V) : Prop := ∃ d, Dv H x d ∧ Pd d
def OdpL (Pd : PyData → Prop) (H : Hp) (xs : List V) : Prop := ∀ x ∈ xs, Odp Pd H x
section
variable {Pd : PyData → Prop} {H H' : Hp} {xs ys : List V}
theorem OdpL.kp (h : OdpL Pd H xs) (f : Kp H H') : OdpL Pd H' xs := fun x hx => by
  obtain ⟨d, h1, h2⟩ := h x hx
  exact ⟨d, Dv.kp f _ _ h1, h2⟩
theorem OdpL.same (h : OdpL Pd H xs) (s : Same H H') : OdpL Pd H' xs := h.kp (Fr.same s).kp
theorem OdpL.snoc {x : V} (h : OdpL Pd H xs) (o : Odp Pd H x) : OdpL Pd H (xs ++ [x]) := fun y hy => by
  rcases List.mem_append.mp hy with hy | hy
  · exact h y hy
  · rw [List.mem_singleton.mp hy]
    exact o
theorem OdpL.app (h : OdpL Pd H xs) (h2 : OdpL Pd H ys) : OdpL Pd H (xs ++ ys) := fun y hy => (List.mem_append.mp hy).elim (h y) (h2 y)
theorem OdpL.nil : OdpL Pd H [] := fun _ z => (nomatch z)
end
def Pd37 (d : PyData) : Prop := rgB d = true ∧ recB d = false
theorem odd_by {d : PyData} (h : (rgB d && !recB d) = true) : Pd37 d := by
  rw [Bool.and_eq_true] at h
  refine ⟨h.1, ?_⟩
  cases e : recB d with
  | false => rfl
  | true =>
    rw [e] at h
    cases h.2
theorem rec_i {d0 d1 d2 : PyData} (h : isI d1 = false ∨ isI d2 = false) : recB (.tuple [d0, d1, d2]) = false := by
  show (words.any (fun z => PyData.eqv z d0) && (isI d1 && isI d2)) = false
  rcases h with h | h <;> rw [h] <;> simp
theorem rec_s {x : Str} {t n : Int} (h : (words.any fun z => PyData.eqv z (.str x)) = false) : recB (.tuple [.str x, .int t, .int n]) = false := by
  show (words.any (fun z => PyData.eqv z (.str x)) && (isI (.int t) && isI (.int n))) = false
  rw [h]
  rfl
theorem rg_w (b : Bool) {d1 d2 : PyData} : rgB (.tuple [.str (wd b), d1, d2]) = true := by
  show (!PyData.hasDict (.str (wd b)) && SeqAt.shaped (.str (wd b))) = true
  cases b <;> decide +kernel
theorem rg_lw (b : Bool) {d1 d2 : PyData} : rgB (.tuple [.list [.str (wd b)], d1, d2]) = true := by
  show (!PyData.hasDict (.list [.str (wd b)]) && SeqAt.shaped (.list [.str (wd b)])) = true
  cases b <;> decide +kernel
theorem mergeK1 {x : Str} {v : V} : mergeK [] [(Sum.inr x, v)] = [(Sum.inr x, v)] := by
  simp [mergeK, putK]
end Lf
namespace Lf
open PySem PySem.Spec PyProof.Rows L2
def rcD (d : Rec) : PyData := .tuple [.str (wd d.lo), .int d.t, .int d.n]
theorem dp_rec {K : PySem.W.Frag} {H : Hp} {r : Addr} {d : Rec} (e : H r = some (rcO d)) : Dp K H (.ref r) (rcD d) := Dp.tup (SqT.of e) (.cons (.str _) (.cons (.int _) (.cons (.int _) .nil)))
theorem dp_recs {K : PySem.W.Frag} {H : Hp} {xs : List V} {ds : List Rec} (h : Obs rcO H xs ds) : DpAll K H xs (ds.map rcD) := by
  induction h with
  | nil => exact .nil
  | cons e _ ih => exact .cons (dp_rec e) ih
theorem sh_recs (ds : List Rec) : SeqAt.shaped (.list (ds.map rcD)) = true := by
  have h : ∀ ds : List Rec, PyData.canLayAll0 (ds.map rcD) = true ∧ PyData.depthAll (ds.map rcD) ≤ 1 := by
    intro cs
    induction cs with
    | nil => exact ⟨rfl, by decide⟩
    | cons c r ih =>
      refine ⟨?_, ?_⟩
      · have hw : PyData.strOk (wd c.lo) = true := by
          cases c.lo <;> decide +kernel
        simpa [PyData.canLayAll0, PyData.canLay0, rcD, hw] using ih.1
      · have := ih.2
        simp only [List.map_cons, PyData.depthAll, rcD, PyData.depth]
        omega
  have h2 : (PyData.list (ds.map rcD)).depth ≤ 64 := by
    have := (h ds).2
    simp only [PyData.depth]
    omega
  show (PyData.canLay0 _ && decide _) = true
  rw [Bool.and_eq_true]
  exact ⟨by simpa [PyData.canLay0] using (h ds).1, decide_eq_true h2⟩
section
variable {P : Program} {w : World} {K : PySem.W.Frag} {mg : Str → Option Value} {base : Heap}
def spRecs30 : Sp := fun vs H Q _ => ∃ (a : PA) (n : Nat) (L : Addr) (mo : Int) (offs : List Int) (dg : Int) (m : Nat), vs = [.ref a, .int mo, .ref L, .int dg] ∧ Pen H a n ∧ n < 2 ^ 36 ∧ 0 ≤ mo ∧ mo ≤ 200 ∧
  H L = some (.lst (offs.map V.int)) ∧ offs ≠ [] ∧ offs.length ≤ 1000 ∧ (∀ z ∈ offs, Bd 200 z) ∧ dg / 6 = (m : Int) ∧ 5 ≤ m ∧ m ≤ 20 ∧
  ∀ F H' xs ds, H' F = some (.lst xs) → Obs rcO H' xs ds → (ds.length : Int) ≤ mo → RcB (40 * m + 10) ds → Pen H' a (n + 10000) → Fr H H' → Q (.ref F) H'
end
end Lf
namespace Lf
open PySem PySem.Spec PyProof.Rows L2
/-! ### check_records, split_records: of a list or a tuple, or refused -/
def isLT : PyData → Bool
  | .list _ => true
  | .tuple _ => true
  | _ => false
theorem kit_ltD {K : PySem.W.Frag} (d : PyData) : PySem.W.kitAny K (.type (tyN d)) [.type "list", .type "tuple"] = some (isLT d) := by
  cases d
  · exact kitAny_cons (b := false) (kit_ty (by show kitB "NoneType" "list" = some false; decide +kernel)) (fun _ => kitAny_cons (b := false) (kit_ty (by show kitB "NoneType" "tuple" = some false; decide +kernel)) (fun _ => rfl) (fun z => by cases z)) (fun z => by cases z)
  · exact kitAny_cons (b := false) (kit_ty (by show kitB "bool" "list" = some false; decide +kernel)) (fun _ => kitAny_cons (b := false) (kit_ty (by show kitB "bool" "tuple" = some false; decide +kernel)) (fun _ => rfl) (fun z => by cases z)) (fun z => by cases z)
  · exact kitAny_cons (b := false) (kit_ty (by show kitB "int" "list" = some false; decide +kernel)) (fun _ => kitAny_cons (b := false) (kit_ty (by show kitB "int" "tuple" = some false; decide +kernel)) (fun _ => rfl) (fun z => by cases z)) (fun z => by cases z)
  · exact kitAny_cons (b := false) (kit_ty (by show kitB "str" "list" = some false; decide +kernel)) (fun _ => kitAny_cons (b := false) (kit_ty (by show kitB "str" "tuple" = some false; decide +kernel)) (fun _ => rfl) (fun z => by cases z)) (fun z => by cases z)
  · exact kit_lt
  · exact kitAny_cons (b := false) (kit_ty (by show kitB "tuple" "list" = some false; decide +kernel)) (fun _ => kitAny_cons (b := true) (kit_ty ktt) (fun z => by cases z) (fun _ => rfl)) (fun z => by cases z)
  · exact kitAny_cons (b := false) (kit_ty (by show kitB "dict" "list" = some false; decide +kernel)) (fun _ => kitAny_cons (b := false) (kit_ty (by show kitB "dict" "tuple" = some false; decide +kernel)) (fun _ => rfl) (fun z => by cases z)) (fun z => by cases z)
def sqN (kb : Bool) : String := if kb = true then "list" else "tuple"
theorem sq_ty {K : PySem.W.Frag} {H : Hp} {a : Addr} {kb : Bool} {xs : List V} (h : H a = some (sqO kb xs)) : TyX K H (.ref a) (.type (sqN kb)) := by
  cases kb
  · exact .base (.tup h)
  · exact .base (.lst h)
theorem kit_sq {K : PySem.W.Frag} (kb : Bool) : PySem.W.kitAny K (.type (sqN kb)) [.type "list", .type "tuple"] = some true := by
  cases kb
  · exact kit_ltD (.tuple [])
  · exact kit_ltD (.list [])
theorem SqB.or {K : PySem.W.Frag} {b : Bool} {H : Hp} {a : Addr} {xs : List V} (h : SqB K b H a xs) : SqL K H a xs ∨ SqT K H a xs := by
  cases b
  · exact .inr h
  · exact .inl h
theorem rec_yes (d : Rec) : recB (rcD d) = true := by
  show (words.any (fun z => PyData.eqv z (.str (wd d.lo))) && true) = true
  cases d.lo <;> decide +kernel
theorem rec_rg (d : Rec) : rgB (rcD d) = true := rg_w d.lo
theorem rec_dvS {H : Hp} {e : Addr} {d : Rec} (h : H e = some (rcO d)) : Dv H (.ref e) (rcD d) := .tup h (.cons (.str _) (.cons (.int _) (.cons (.int _) .nil)))
inductive CkBad (H : Hp) : V → Int → Prop
  | kind {v : V} {d : PyData} : Dv H v d → isLT d = false → CkBad H v (-1)
  | long {a : Addr} {kb : Bool} {xs : List V} : H a = some (sqO kb xs) → 200 < xs.length → CkBad H (.ref a) (-1)
  | item {a : Addr} {kb : Bool} {xs : List V} {ds : List Rec} {x : V} {d : PyData} {i : Nat} : H a = some (sqO kb xs) → xs.length ≤ 200 → Obs rcO H (xs.take i) ds → xs[i]? = some x → Dv H x d → rgB d = true → recB d = false → CkBad H (.ref a) (i : Nat)
section
variable {P : Program} {w : World} {K : PySem.W.Frag} {mg : Str → Option Value} {base : Heap} {C : Addr}
def spCkS : Sp := fun vs H Q _ => ∃ (L : Addr) (kb : Bool) (xs : List V) (ds : List Rec), vs = [.ref L] ∧ H L = some (sqO kb xs) ∧ Obs rcO H xs ds ∧ ds.length ≤ 200 ∧ ∀ H', Same H H' → Q .non H'
theorem okS_check_records (D : Df K mg "check_records" s_check_records P_check_records) (B : Bi mg) (U : Bc mg) (c_is_record : C8.Cal P w K mg base 2 "is_record" spIsRec []) : C8.Cal P w K mg base 3 "check_records" spCkS [] := by
  refine cal_of D sc_check_records (fun vs H Q E h => ?_) (fun f cdv A outer s H vs Q E hr h => ?_)
  · obtain ⟨L, kb, xs, ds, rfl, _⟩ := h
    rfl
  · obtain ⟨L, kb, xs, ds, rfl, eL, hO, hl, kk⟩ := h
    obtain ⟨tM, hc_MOST_RECORDS⟩ := U.most_
    refine ⟨_, (pss_cons (ps_if (PW.pt (pw_or (pt_not (pt_val (pe_callB (call_isiT) (by rfl) B.isinstance_ bt_isinstance (pa_cons (pv 0) (pa_cons (pe_tup (pa_cons (pe_bltn (v := .ty "list") (by rfl) B.list_ bt_list rfl) (pa_cons (pe_bltn (v := .ty "tuple") (by rfl) B.tuple_ bt_tuple rfl) pa_nil))) pa_nil))))) (pw_or1 (pt_cmpR op_gt (pe_callB (call_len_seq) (by rfl) B.len_ bt_len (pa_cons (pv 0) pa_nil)) (pe_glob (v := .int 200) (by rfl) hc_MOST_RECORDS ⟨_, rfl⟩) (nomark _)))))
      (pss_one ps_never)
      pss_nil)
    (pss_one (ps_for PassesOwn.never rfl (pi_enumB (by rfl) B.enumerate_ (pa_cons (pv 0) pa_nil)) (pg_tup rfl (pgs_cons (pg_name (i := 1) sc_check_records.nd rfl (Or.inl rfl)) (pgs_cons (pg_name (i := 2) sc_check_records.nd rfl (Or.inl rfl)) pgs_nil)))
      (pss_one (ps_if (pt_not (pt_val (C8.pe_c c_is_record hr (by decide) (by rfl) (pa_cons (pv 2) pa_nil))))
      (pss_one ps_never)
      pss_nil))))), ?_⟩
    refine ⟨_, rfl, len10 (by simp), fun tp ntp => ?_⟩
    have s1 := sm_upd (o := .tup [.ty "list", .ty "tuple"]) ntp
    refine ⟨_, tp, _, _, _, true, rfl, upd_same, .cons (.ty "list") (.cons (.ty "tuple") .nil), sq_ty (s1 _ _ eL), kit_sq kb, true, rfl, iteF ?_⟩
    refine ⟨_, rfl, L, _, rfl, (SqB.of (s1 _ _ eL)).or, _, _, rfl, rfl, _, rfl, iteDn (by rw [hO.len]; omega) ?_⟩
    generalize upd H tp (.tup [.ty "list", .ty "tuple"]) = H1 at s1
    refine ⟨_, rfl, L, kb, xs, rfl, SqB.of (s1 _ _ eL), ?_⟩
    refine for_it (walk_enumB (K := K) (b := kb) (a := L) (xs := xs)) (fun i σ H' => ∃ (y1 y2 : Option V), σ = [some (.ref L), y1, y2] ∧ Same H H') ⟨_, _, rfl, s1⟩ ?_ ?_ ?_
    · rintro i σ H2 _ ⟨_, _, _, s2⟩
      exact SqB.of (s2 _ _ eL)
    · rintro i v σ H2 H3 hi ⟨y1, y2, rfl, s2⟩ ⟨T, x, y, rfl, nT, rfl, hx, hy⟩
      cases hx
      obtain ⟨r, d, rfl, er, _⟩ := hO.at hy
      have s3 := s2.trans (sm_upd (o := .tup [.int (i : Nat), .ref r]) nT)
      refine ⟨T, _, rfl, SqT.of upd_same, rfl, _, _, rfl, _, _, rfl, rfl, ?_⟩
      refine ⟨_, rfl, r, d, rfl, s3 _ _ er, fun H4 s4 => ⟨true, rfl, iteF ?_⟩⟩
      exact ⟨_, _, rfl, s3.trans s4⟩
    · rintro σ H2 ⟨_, _, rfl, s2⟩
      exact kk _ s2
def spCkX (C : Addr) : Sp := fun vs H _ E => ∃ (v : V) (j : Int), vs = [v] ∧ CkBad H v j ∧ ∀ H', Same H H' → OutY C "index" (.int j) H' E
theorem okx_check_records (D : Df K mg "check_records" s_check_records P_check_records) (T : ValC P K mg C "InvalidRecord" "index") (B : Bi mg) (U : Bc mg) (cA_is_record : C8.Cal P w K mg base 2 "is_record" spIsRecD []) : CalX P w K mg base 3 "check_records" (spCkX C) := by
  refine calx_of D sc_check_records (fun vs H Q E h => ?_) (fun f cdv A outer s H vs Q E hr h => ?_)
  · obtain ⟨v, j, rfl, _⟩ := h
    rfl
  · obtain ⟨v, j, rfl, hb, he⟩ := h
    have c_is_record := cA_is_record
    obtain ⟨tM, hc_MOST_RECORDS⟩ := U.most_
    refine ⟨_, (pss_cons (ps_if (PW.pt (pw_or (pt_not (pt_val (pe_callB (call_isiT) (by rfl) B.isinstance_ bt_isinstance (pa_cons (pv 0) (pa_cons (pe_tup (pa_cons (pe_bltn (v := .ty "list") (by rfl) B.list_ bt_list rfl) (pa_cons (pe_bltn (v := .ty "tuple") (by rfl) B.tuple_ bt_tuple rfl) pa_nil))) pa_nil))))) (pw_or1 (pt_cmpR op_gt (pe_callB (call_len_seq) (by rfl) B.len_ bt_len (pa_cons (pv 0) pa_nil)) (pe_glob (v := .int 200) (by rfl) hc_MOST_RECORDS ⟨_, rfl⟩) (nomark _)))))
      (pss_one (ps_raise rfl (takes_of rfl rfl rfl rfl) (pmk_val T hr (by decide) rfl (pe_un un_neg pe_int))))
      pss_nil)
    (pss_one (ps_for (passes_of rfl) rfl (pi_enumB (by rfl) B.enumerate_ (pa_cons (pv 0) pa_nil)) (pg_tup rfl (pgs_cons (pg_name (i := 1) sc_check_records.nd rfl (Or.inl rfl)) (pgs_cons (pg_name (i := 2) sc_check_records.nd rfl (Or.inl rfl)) pgs_nil)))
      (pss_one (ps_if (pt_not (pt_val (C8.pe_c c_is_record hr (by decide) (by rfl) (pa_cons (pv 2) pa_nil))))
      (pss_one (ps_raise rfl (takes_of rfl rfl rfl rfl) (pmk_val T hr (by decide) rfl (pv 1))))
      pss_nil))))), ?_⟩
    refine ⟨_, rfl, len10 (by simp), fun tp ntp => ?_⟩
    have s1 := sm_upd (o := .tup [.ty "list", .ty "tuple"]) ntp
    cases hb with
    | kind dv ik =>
      rename_i d
      refine ⟨_, tp, _, _, _, isLT d, rfl, upd_same, .cons (.ty "list") (.cons (.ty "tuple") .nil), (Dv.kp (Fr.same s1).kp _ _ dv).ty, kit_ltD d, isLT d, rfl, ?_⟩
      rw [ik]
      exact iteT (iteT ⟨1, rfl, mkv (he _ s1)⟩)
    | long eL hl =>
      rename_i L kb xs
      refine ⟨_, tp, _, _, _, true, rfl, upd_same, .cons (.ty "list") (.cons (.ty "tuple") .nil), sq_ty (s1 _ _ eL), kit_sq kb, true, rfl, iteF ?_⟩
      refine ⟨_, rfl, L, _, rfl, (SqB.of (s1 _ _ eL)).or, _, _, rfl, rfl, _, rfl, iteD (by omega) ?_⟩
      exact ⟨1, rfl, mkv (he _ s1)⟩
    | item eL hl hO hx dx rg rb =>
      rename_i L kb xs ds x d k
      refine ⟨_, tp, _, _, _, true, rfl, upd_same, .cons (.ty "list") (.cons (.ty "tuple") .nil), sq_ty (s1 _ _ eL), kit_sq kb, true, rfl, iteF ?_⟩
      refine ⟨_, rfl, L, _, rfl, (SqB.of (s1 _ _ eL)).or, _, _, rfl, rfl, _, rfl, iteDn (by omega) ?_⟩
      generalize upd H tp (.tup [.ty "list", .ty "tuple"]) = H1 at s1
      have hk : k < xs.length := (List.getElem?_eq_some_iff.mp hx).1
      refine ⟨_, rfl, L, kb, xs, rfl, SqB.of (s1 _ _ eL), ?_⟩
      refine for_it (walk_enumB (K := K) (b := kb) (a := L) (xs := xs)) (fun i σ H' => ∃ (y1 y2 : Option V), σ = [some (.ref L), y1, y2] ∧ Same H H' ∧ i ≤ k) ⟨_, _, rfl, s1, Nat.zero_le _⟩ ?_ ?_ ?_
      · rintro i σ H2 _ ⟨_, _, _, s2, _⟩
        exact SqB.of (s2 _ _ eL)
      · rintro i v σ H2 H3 hi ⟨y1, y2, rfl, s2, ik⟩ ⟨T, x', y, rfl, nT, rfl, hx', hy⟩
        cases hx'
        have s3 := s2.trans (sm_upd (o := .tup [.int (i : Nat), y]) nT)
        refine ⟨T, _, rfl, SqT.of upd_same, rfl, _, _, rfl, _, _, rfl, rfl, ?_⟩
        by_cases hik : i = k
        · subst hik
          have hy : xs[i]? = some y := hy
          rw [hx] at hy
          cases hy
          refine ⟨_, rfl, x, d, rfl, Dv.kp (Fr.same s3).kp _ _ dx, rg, fun H4 s4 => ⟨recB d, rfl, ?_⟩⟩
          rw [rb]
          exact iteT ⟨_, rfl, mkv (he _ (s3.trans s4))⟩
        · have hlt : i < k := by omega
          have hy2 : (xs.take k)[i]? = some y := by
            rw [List.getElem?_take_of_lt hlt]
            exact hy
          obtain ⟨r, d', rfl, er, _⟩ := hO.at hy2
          refine ⟨_, rfl, .ref r, rcD d', rfl, rec_dvS (s3 _ _ er), rec_rg d', fun H4 s4 => ⟨recB (rcD d'), rfl, ?_⟩⟩
          rw [rec_yes]
          exact iteF ⟨_, _, rfl, s3.trans s4, by omega⟩
      · rintro σ H2 ⟨_, _, rfl, s2, ik⟩
        omega
/-! ### split_records -/
def spSplitS : Sp := fun vs H Q _ => ∃ (L : Addr) (kb : Bool) (xs : List V) (ds : List Rec), vs = [.ref L] ∧ H L = some (sqO kb xs) ∧ Obs rcO H xs ds ∧ ds.length ≤ 1000 ∧
  ∀ T H' A B as bs, Same H H' → H' T = some (.tup [.ref A, .ref B]) → H' A = some (.lst as) → Obs trO H' as (sel true 0 ds) → H' B = some (.lst bs) → Obs trO H' bs (sel false 0 ds) → Q (.ref T) H'
end
end Lf
namespace Lf
open PySem PySem.Spec PyProof.Rows L2
section
variable {P : Program} {w : World} {K : PySem.W.Frag} {mg : Str → Option Value} {base : Heap} {C : Addr}
/-! ### _law_handed: a copy as a list or as a tuple -/
def spHanded : Sp := fun vs H Q _ => ∃ (a : PA) (n : Nat) (L : Addr) (xs : List V), vs = [.ref a, .ref L] ∧ Pen H a n ∧ n < 2 ^ 38 ∧ H L = some (.lst xs) ∧
  ∀ F kb H', H' F = some (sqO kb xs) → Pen H' a (n + 1) → Fr H H' → Q (.ref F) H'
end
/-! ### what is refused stays so -/
theorem CkBad.kp {H H' : Hp} {v : V} {j : Int} (h : CkBad H v j) (f : Kp H H') : CkBad H' v j := by
  have sq : ∀ {a : Addr} {kb : Bool} {xs : List V}, H a = some (sqO kb xs) → H' a = some (sqO kb xs) := fun {a kb xs} e => by
    cases kb
    · exact f.t _ _ e
    · exact f.l _ _ e
  cases h with
  | kind dv ik => exact .kind (Dv.kp f _ _ dv) ik
  | long e l => exact .long (sq e) l
  | item e l o hx dx rg rb => exact .item (sq e) l (o.keep fun b d eb => f.t _ _ eb) hx (Dv.kp f _ _ dx) rg rb
theorem sq_kp {H H' : Hp} (f : Kp H H') {a : Addr} {kb : Bool} {xs : List V} (e : H a = some (sqO kb xs)) : H' a = some (sqO kb xs) := by
  cases kb
  · exact f.t _ _ e
  · exact f.l _ _ e
end Lf
namespace Lf
open PySem PySem.Spec PyProof.Rows L2
/-! ### rules: any value -/
def ruleD : PyData → Bool
  | .tuple [.int p, .int q, .int _] => decide (0 ≤ p) && (decide (1 ≤ q) && decide (V.int (Int.gcd p q : Int) = V.int 1))
  | _ => false
theorem rule_three {ds : List PyData} (h : ds.length ≠ 3) : ruleD (.tuple ds) = false := by
  unfold ruleD
  split
  · rename_i p q c e
    cases e
    exact absurd rfl h
  · rfl
theorem rule_i {d0 d1 d2 : PyData} (h : ([isI d0, isI d1, isI d2].all fun b => b) = false) : ruleD (.tuple [d0, d1, d2]) = false := by
  unfold ruleD
  split
  · rename_i p q c e
    cases e
    cases h
  · rfl
theorem isI_inv3 {H : Hp} {v : V} {d : PyData} (h : Dv H v d) (hi : isI d = true) : ∃ z, v = .int z ∧ d = .int z := by
  cases h with
  | int z => exact ⟨z, rfl, rfl⟩
  | _ => cases hi
section
variable {P : Program} {w : World} {K : PySem.W.Frag} {mg : Str → Option Value} {base : Heap} {C CV : Addr}
def spIsRuleD : Sp := fun vs H Q _ => ∃ (v : V) (d : PyData), vs = [v] ∧ Dv H v d ∧ ∀ H', Same H H' → Q (.bl (ruleD d)) H'
theorem okA_is_rule (D : Df K mg "is_rule" s_is_rule P_is_rule) (B : Bi mg) (cA_is_integer : C8.Cal P w K mg base 1 "is_integer" spIsAny []) (c_gcd : C8.Cal P w K mg base 1 "gcd" spGcd []) : C8.Cal P w K mg base 2 "is_rule" spIsRuleD [] := by
  refine cal_of D sc_is_rule (fun vs H Q E h => ?_) (fun f cdv A outer s H vs Q E hr h => ?_)
  · obtain ⟨v, d, rfl, _⟩ := h
    rfl
  · obtain ⟨v, d, rfl, dv, kk⟩ := h
    have c_is_integer := cA_is_integer
    refine ⟨_, (pss_cons (ps_if (PW.pt (pw_or (pt_not (pt_val (pe_callB (call_isi) (by rfl) B.isinstance_ bt_isinstance (pa_cons (pv 0) (pa_cons (pe_bltn (v := .ty "tuple") (by rfl) B.tuple_ bt_tuple rfl) pa_nil))))) (pw_or1 (pt_cmpR op_ne (pe_callB (call_len_seq) (by rfl) B.len_ bt_len (pa_cons (pv 0) pa_nil)) pe_int (nomark _)))))
      (pss_one (ps_ret pe_bl))
      pss_nil)
    (pss_cons (ps_if (pt_not (pt_val (pe_callB (cr_all rfl) (by rfl) B.all_ bt_all (pa_cons (pe_lc (own := [("item", 1)]) (g := (gName 1)) (by rfl) sc_is_rule.nd (pi_tup (pv 0)) (blkOk_by (own := [("item", 1)]) (N := N_is_rule) (sc := defScope s_is_rule) (by decide +kernel)) (fun _ _ _ _ _ => (pg_name (i := 1) sc_is_rule.nd rfl (Or.inl rfl))) (fun _ _ _ _ _ => pts_nil) (fun _ _ _ _ _ => (C8.pe_c c_is_integer hr (by decide) (by rfl) (pa_cons (pv 1) pa_nil)))) pa_nil))))
      (pss_one (ps_ret pe_bl))
      pss_nil)
    (pss_one (ps_ret (pe_and (pe_cmpR op_ge (pe_ix (r := rIxT K) ix_tup (pv 0) pe_int (fun _ _ => rfl)) pe_int (nomark _)) (pe_and (pe_cmpR op_ge (pe_ix (r := rIxT K) ix_tup (pv 0) pe_int (fun _ _ => rfl)) pe_int (nomark _)) (pe_one (pe_cmpR op_eq (C8.pe_c c_gcd hr (by decide) (by rfl) (pa_cons (pe_ix (r := rIxT K) ix_tup (pv 0) pe_int (fun _ _ => rfl)) (pa_cons (pe_ix (r := rIxT K) ix_tup (pv 0) pe_int (fun _ _ => rfl)) pa_nil))) pe_int (nomark _))))))))), ?_⟩
    refine ⟨_, rfl, _, _, _, _, isT' d, rfl, .ty "tuple", dv.ty, kit_ty (kit_tup' d), isT' d, rfl, ?_⟩
    cases ht : isT' d with
    | false =>
      have e : ruleD d = false := by
        cases d <;> first | rfl | cases ht
      rw [e] at kk
      exact iteT (iteT (kk _ (Same.refl _)))
    | true =>
      cases dv with
      | tup er hs =>
        rename_i r xs ds
        refine iteF ⟨_, rfl, r, _, rfl, .inr (SqT.of er), rfl, _, rfl, ?_⟩
        have hl := dva_length hs
        by_cases h3 : xs.length = 3
        · match xs, ds, hs, h3, hl with
          | [v0, v1, v2], [d0, d1, d2], hs, _, _ =>
            cases hs with
            | cons g0 hs =>
              cases hs with
              | cons g1 hs =>
                cases hs with
                | cons g2 hs =>
                  refine iteNS rfl ?_
                  refine ⟨_, rfl, r, rfl, ⟨_, SqT.of er⟩, fun L nL => ?_⟩
                  refine lc_tup (K := K) (a := r) (xs := [v0, v1, v2]) (fun i H' => Same H H' ∧ H' L = some (.lst ((([isI d0, isI d1, isI d2] : List Bool).take i).map V.bl))) ?_ ?_ ?_ ?_
                  · exact ⟨sm_upd nL, upd_same⟩
                  · rintro i H' hi ⟨s1, _⟩
                    exact SqT.of (s1 _ _ er)
                  · rintro i x H' hx ⟨s1, eL⟩
                    have hi : i < 3 := (List.getElem?_eq_some_iff.mp hx).1
                    have kz := (Fr.same s1).kp
                    obtain ⟨d, gd, e1⟩ : ∃ d, Dv H' x d ∧ (([isI d0, isI d1, isI d2] : List Bool).take (i + 1)) = (([isI d0, isI d1, isI d2] : List Bool).take i) ++ [isI d] := by
                      match i, hi with
                      | 0, _ =>
                        cases (Option.some.inj hx)
                        exact ⟨d0, Dv.kp kz _ _ g0, rfl⟩
                      | 1, _ =>
                        cases (Option.some.inj hx)
                        exact ⟨d1, Dv.kp kz _ _ g1, rfl⟩
                      | 2, _ =>
                        cases (Option.some.inj hx)
                        exact ⟨d2, Dv.kp kz _ _ g2, rfl⟩
                    refine ⟨rfl, _, rfl, x, d, rfl, gd, _, eL, ?_, ?_, ?_⟩
                    · rw [List.length_map, List.length_take]
                      exact small1000 (by omega)
                    · intro b o eb
                      rw [upd_ne (ne_of_none eb nL)]
                      exact s1 _ _ eb
                    · rw [upd_same, e1, List.map_append]
                      rfl
                  · rintro H' ⟨s1, eL⟩
                    have eL' : H' L = some (.lst ([isI d0, isI d1, isI d2].map V.bl)) := eL
                    have er' := s1 _ _ er
                    cases ha : ([isI d0, isI d1, isI d2].all fun b => b) with
                    | false =>
                      rw [rule_i ha] at kk
                      exact ⟨L, _, rfl, SqL.of eL', _, rfl, iteTs (by show (!([isI d0, isI d1, isI d2].all fun b => b)) = true; rw [ha]; rfl) (kk _ s1)⟩
                    | true =>
                      have i3 : isI d0 = true ∧ isI d1 = true ∧ isI d2 = true := by
                        simpa [List.all_cons] using ha
                      obtain ⟨p, rfl, rfl⟩ := isI_inv3 g0 i3.1
                      obtain ⟨q, rfl, rfl⟩ := isI_inv3 g1 i3.2.1
                      obtain ⟨c, rfl, rfl⟩ := isI_inv3 g2 i3.2.2
                      have kk : ∀ H', Same H H' → Q (.bl (decide (0 ≤ p) && (decide (1 ≤ q) && decide (V.int (Int.gcd p q : Int) = V.int 1)))) H' := kk
                      refine ⟨L, _, rfl, SqL.of eL', true, rfl, iteF ?_⟩
                      refine ⟨_, rfl, r, _, _, _, rfl, rfl, SqT.of er', atI_nat (j := 0) rfl, _, _, rfl, rfl, _, rfl, ite2 (fun c1 => ?_) (fun c1 => ?_)⟩
                      · have c1 : p ≥ 0 := of_decide_eq_true c1
                        rw [decide_eq_true (show 0 ≤ p from c1), Bool.true_and] at kk
                        refine ⟨_, rfl, r, _, _, _, rfl, rfl, SqT.of er', atI_nat (j := 1) rfl, _, _, rfl, rfl, _, rfl, ite2 (fun c2 => ?_) (fun c2 => ?_)⟩
                        · have c2 : q ≥ 1 := of_decide_eq_true c2
                          rw [decide_eq_true (show 1 ≤ q from c2), Bool.true_and] at kk
                          exact ⟨_, rfl, r, _, _, _, rfl, rfl, SqT.of er', atI_nat (j := 0) rfl, _, rfl, r, _, _, _, rfl, rfl, SqT.of er', atI_nat (j := 1) rfl, p, q, rfl, c1, by omega, rfl, kk _ s1⟩
                        · have c2 : ¬ q ≥ 1 := fun z => c2 (decide_eq_true z)
                          rw [decide_eq_false (show ¬ 1 ≤ q from c2), Bool.false_and] at kk
                          exact kk _ s1
                      · have c1 : ¬ p ≥ 0 := fun z => c1 (decide_eq_true z)
                        rw [decide_eq_false (show ¬ 0 ≤ p from c1), Bool.false_and] at kk
                        exact kk _ s1
        · rw [rule_three (by omega)] at kk
          exact iteTs (len_ne3 h3) (kk _ (Same.refl _))
      | _ => cases ht
/-- the exception, with the value -/
def OutX3 (C : Addr) (x : Str) (v : V) (H : Hp) (E : XK) : Prop := ∀ dd, H dd = none → E (.ref C) (some dd) (upd H dd (.xd [(x, v)]))
def spCkRuleX (C : Addr) : Sp := fun vs H Q E => ∃ (v : V) (d : PyData), vs = [v] ∧ Dv H v d ∧ (∀ H', Same H H' → ruleD d = true → Q .non H') ∧ ∀ H', Same H H' → ruleD d = false → OutX3 C "value" v H' E
theorem okx_check_rule (D : Df K mg "check_rule" s_check_rule P_check_rule) (T : ValC P K mg C "InvalidRule" "value") (cA_is_rule : C8.Cal P w K mg base 2 "is_rule" spIsRuleD []) : CalX P w K mg base 3 "check_rule" (spCkRuleX C) := by
  refine calx_of D sc_check_rule (fun vs H Q E h => ?_) (fun f cdv A outer s H vs Q E hr h => ?_)
  · obtain ⟨v, d, rfl, _⟩ := h
    rfl
  · obtain ⟨v, d, rfl, dv, hq, he⟩ := h
    have c_is_rule := cA_is_rule
    refine ⟨_, (pss_one (ps_if (pt_not (pt_val (C8.pe_c c_is_rule hr (by decide) (by rfl) (pa_cons (pv 0) pa_nil))))
      (pss_one (ps_raise rfl (takes_of rfl rfl rfl rfl) (pmk_val T hr (by decide) rfl (pv 0))))
      pss_nil)), ?_⟩
    refine ⟨_, rfl, v, d, rfl, dv, fun H1 s1 => ⟨ruleD d, rfl, ?_⟩⟩
    cases hd : ruleD d with
    | true => exact iteF (hq _ s1 hd)
    | false => exact iteT ⟨_, rfl, mkv (he _ s1 hd)⟩
end
end Lf
namespace Lf
open PySem PySem.Spec PyProof.Rows L2
section
variable {P : Program} {w : World} {K : PySem.W.Frag} {mg : Str → Option Value} {base : Heap} {C CV : Addr}
/-! ### fits_record, fits -/
def spFitsRec : Sp := fun vs H Q _ => ∃ (r e : Addr) (p q c : Int) (d : Rec) (k : Nat), vs = [.ref r, .ref e] ∧ H r = some (.tup [.int p, .int q, .int c]) ∧ H e = some (rcO d) ∧ 1 ≤ q ∧ Bd k p ∧ Bd k q ∧ Bd k d.t ∧ 0 < k ∧ k ≤ 9000 ∧ Q (.bl (fitB p q c d)) H
abbrev s_fits_record : Stmt := topS 20
abbrev N_fits_record : List Str := ["rule", "record", "p", "q", "c", "word", "time", "number", "reached"]
abbrev P_fits_record : List Str := ["rule", "record"]
theorem sc_fits_record : FnScope N_fits_record P_fits_record (defScope s_fits_record) := ⟨rfl, rfl, rfl, by decide +kernel, rfl, by decide +kernel, by decide +kernel⟩
theorem ok_fits_record (D : Df K mg "fits_record" s_fits_record P_fits_record) : C8.Cal P w K mg base 1 "fits_record" spFitsRec [] := by
  refine cal_of D sc_fits_record (fun vs H Q E h => ?_) (fun f cdv A outer s H vs Q E hr h => ?_)
  · obtain ⟨r, e, p, q, c, d, k, rfl, _⟩ := h
    rfl
  · obtain ⟨r, e, p, q, c, d, k, rfl, er, ee, q1, bp, bq, bt, k0, k1, kk⟩ := h
    refine ⟨_, (pss_cons (ps_asg (pv 0) (pg_tup rfl (pgs_cons (pg_name (i := 2) sc_fits_record.nd rfl (Or.inl rfl)) (pgs_cons (pg_name (i := 3) sc_fits_record.nd rfl (Or.inl rfl)) (pgs_cons (pg_name (i := 4) sc_fits_record.nd rfl (Or.inl rfl)) pgs_nil)))))
    (pss_cons (ps_asg (pv 1) (pg_tup rfl (pgs_cons (pg_name (i := 5) sc_fits_record.nd rfl (Or.inl rfl)) (pgs_cons (pg_name (i := 6) sc_fits_record.nd rfl (Or.inl rfl)) (pgs_cons (pg_name (i := 7) sc_fits_record.nd rfl (Or.inl rfl)) pgs_nil)))))
    (pss_cons (ps_set (i := 8) sc_fits_record.nd rfl (Or.inl rfl) (pe_op op_fdivW (pe_op op_add (pe_op op_mulW (pv 2) (pv 6)) (pv 4)) (pv 3)))
    (pss_one (ps_ret (pe_ifExp (pt_cmpR op_eq (pv 5) pe_str (nomark _)) (pe_cmpR op_ge (pv 8) (pv 7) (nomark _)) (pe_cmpR op_le (pv 8) (pv 7) (nomark _)))))))), ?_⟩
    refine ⟨_, rfl, r, _, rfl, SqT.of er, rfl, _, _, rfl, _, _, rfl, _, _, rfl, rfl, ?_⟩
    refine ⟨_, rfl, e, _, rfl, SqT.of ee, rfl, _, _, rfl, _, _, rfl, _, _, rfl, rfl, ?_⟩
    refine ⟨_, rfl, _, rfl, _, _, rfl, rfl, mulW bp bt k0 k0 (by omega), _, rfl, _, _, rfl, rfl, _, rfl, _, _, rfl, rfl, divW (by omega) bq (by omega), ?_⟩
    refine ⟨_, rfl, rfl, _, rfl, ?_⟩
    rw [w_lo]
    have kk : Q (.bl (if d.lo = true then decide (d.n ≤ (p * d.t + c) / q) else decide ((p * d.t + c) / q ≤ d.n))) H := kk
    cases hd : d.lo with
    | true =>
      rw [hd] at kk
      refine iteT ?_
      exact ⟨_, rfl, _, rfl, _, _, rfl, rfl, kk⟩
    | false =>
      rw [hd] at kk
      refine iteF ?_
      exact ⟨_, rfl, _, rfl, _, _, rfl, rfl, kk⟩
def spFitsS : Sp := fun vs H Q _ => ∃ (r L : Addr) (p q c : Int) (kb : Bool) (xs : List V) (ds : List Rec) (k : Nat), vs = [.ref r, .ref L] ∧ H r = some (.tup [.int p, .int q, .int c]) ∧ RuleB k p q c ∧ H L = some (sqO kb xs) ∧ Obs rcO H xs ds ∧ ds.length ≤ 200 ∧ RcB k ds ∧ 0 < k ∧ k ≤ 9000 ∧
  ∀ H', Same H H' → Q (.bl (ds.all (fitB p q c))) H'
abbrev s_fits : Stmt := topS 19
abbrev N_fits : List Str := ["rule", "records", "record"]
abbrev P_fits : List Str := ["rule", "records"]
theorem sc_fits : FnScope N_fits P_fits (defScope s_fits) := ⟨rfl, rfl, rfl, by decide +kernel, rfl, by decide +kernel, by decide +kernel⟩
theorem okS_fits (D : Df K mg "fits" s_fits P_fits) (B : Bi mg) (c_check_rule : C8.Cal P w K mg base 3 "check_rule" spCheckRule []) (c_check_records : C8.Cal P w K mg base 3 "check_records" spCkS []) (c_fits_record : C8.Cal P w K mg base 1 "fits_record" spFitsRec []) : C8.Cal P w K mg base 4 "fits" spFitsS [] := by
  refine cal_of D sc_fits (fun vs H Q E h => ?_) (fun f cdv A outer s H vs Q E hr h => ?_)
  · obtain ⟨r, L, p, q, c, kb, xs, ds, k, rfl, _⟩ := h
    rfl
  · obtain ⟨r, L, p, q, c, kb, xs, ds, k, rfl, er, R, eL, hO, hl, bd, k0, k1, kk⟩ := h
    refine ⟨_, (pss_cons (ps_expr (C8.pe_c c_check_rule hr (by decide) (by rfl) (pa_cons (pv 0) pa_nil)))
    (pss_cons (ps_expr (C8.pe_c c_check_records hr (by decide) (by rfl) (pa_cons (pv 1) pa_nil)))
    (pss_one (ps_ret (pe_callB (cr_all rfl) (by rfl) B.all_ bt_all (pa_cons (pe_lc (own := [("record", 2)]) (g := (gName 2)) (by rfl) sc_fits.nd (pi_seq (pv 1)) (blkOk_by (own := [("record", 2)]) (N := N_fits) (sc := defScope s_fits) (by decide +kernel)) (fun _ _ _ _ _ => (pg_name (i := 2) sc_fits.nd rfl (Or.inl rfl))) (fun _ _ _ _ _ => pts_nil) (fun _ _ _ _ _ => (C8.pe_c c_fits_record hr (by decide) (by rfl) (pa_cons (pv 0) (pa_cons (pv 2) pa_nil))))) pa_nil)))))), ?_⟩
    refine ⟨_, rfl, r, p, q, c, k, rfl, er, R, fun H1 s1 => ?_⟩
    refine ⟨_, rfl, L, kb, xs, ds, rfl, s1 _ _ eL, hO.same s1, hl, fun H2 s2 => ?_⟩
    have s12 := s1.trans s2
    refine ⟨_, rfl, L, kb, xs, rfl, SqB.of (s12 _ _ eL), fun D1 nD1 => ?_⟩
    refine lc_it (walk_seq (K := K) (b := kb) (a := L) (xs := xs)) (fun i H' => Same H2 H' ∧ H' D1 = some (.lst (((ds.take i).map (fitB p q c)).map V.bl))) ⟨sm_upd nD1, upd_same⟩ ?_ ?_ ?_
    · rintro i H3 _ ⟨s3, _⟩
      exact SqB.of (s3 _ _ (s12 _ _ eL))
    · rintro i x H3 H4 hi0 ⟨s3, e3⟩ ⟨rfl, hx⟩
      obtain ⟨e, d, rfl, ed, hd⟩ := hO.at hx
      have hi := (List.getElem?_eq_some_iff.mp hd).1
      refine ⟨rfl, _, rfl, _, rfl, r, e, p, q, c, d, k, rfl, s3 _ _ (s12 _ _ er), s3 _ _ (s12 _ _ ed), R.q1, R.bp, R.bq, (bd d (List.mem_of_getElem? hd)).1, k0, k1, _, e3, ?_, ?_, ?_⟩
      · rw [List.length_map, List.length_map, List.length_take]
        exact small1000 (by omega)
      · intro b o eb
        rw [upd_ne (ne_of_none eb nD1)]
        exact s3 _ _ eb
      · rw [upd_same, List.take_add_one, hd, List.map_append, List.map_append]
        rfl
    rintro H3 ⟨s3, e3⟩
    rw [List.take_of_length_le (by rw [hO.len]; exact Nat.le_refl _)] at e3
    refine ⟨D1, _, rfl, SqL.of e3, ?_⟩
    rw [List.all_map]
    exact kk _ (s12.trans s3)
/-! ### fits, refused -/
def spFitsX (C CV : Addr) : Sp := fun vs H _ E => ∃ (rv v : V), vs = [rv, v] ∧ ((∃ d, Dv H rv d ∧ ruleD d = false ∧ ∀ H', Same H H' → OutX3 CV "value" rv H' E) ∨
  ∃ (r : Addr) (p q c : Int) (k : Nat) (j : Int), rv = .ref r ∧ H r = some (.tup [.int p, .int q, .int c]) ∧ RuleB k p q c ∧ CkBad H v j ∧ ∀ H', Same H H' → OutY C "index" (.int j) H' E)
theorem okx_fits (D : Df K mg "fits" s_fits P_fits) (B : Bi mg) (cx_check_rule : CalX P w K mg base 3 "check_rule" (spCkRuleX CV)) (c_check_rule : C8.Cal P w K mg base 3 "check_rule" spCheckRule []) (cx_check_records : CalX P w K mg base 3 "check_records" (spCkX C)) (c_check_records : C8.Cal P w K mg base 3 "check_records" spCkS []) (c_fits_record : C8.Cal P w K mg base 1 "fits_record" spFitsRec []) : CalX P w K mg base 4 "fits" (spFitsX C CV) := by
  refine calx_of D sc_fits (fun vs H Q E h => ?_) (fun f cdv A outer s H vs Q E hr h => ?_)
  · obtain ⟨rv, v, rfl, _⟩ := h
    rfl
  · obtain ⟨rv, v, rfl, ⟨d, dv, rd, he⟩ | ⟨r, p, q, c, k, j, rfl, er, R, hb, he⟩⟩ := h
    · refine ⟨_, (pss_cons (ps_expr (pe_cx cx_check_rule hr (by decide) (takes_of rfl rfl rfl rfl) (by rfl) (pa_cons (pv 0) pa_nil)))
    (pss_cons (ps_expr (C8.pe_c c_check_records hr (by decide) (by rfl) (pa_cons (pv 1) pa_nil)))
    (pss_one (ps_ret (pe_callB (cr_all rfl) (by rfl) B.all_ bt_all (pa_cons (pe_lc (own := [("record", 2)]) (g := (gName 2)) (by rfl) sc_fits.nd (pi_seq (pv 1)) (blkOk_by (own := [("record", 2)]) (N := N_fits) (sc := defScope s_fits) (by decide +kernel)) (fun _ _ _ _ _ => (pg_name (i := 2) sc_fits.nd rfl (Or.inl rfl))) (fun _ _ _ _ _ => pts_nil) (fun _ _ _ _ _ => (C8.pe_c c_fits_record hr (by decide) (by rfl) (pa_cons (pv 0) (pa_cons (pv 2) pa_nil))))) pa_nil)))))), ?_⟩
      exact ⟨_, rfl, rv, d, rfl, dv, (fun _ _ z => by rw [rd] at z; cases z), fun H1 s1 _ => he H1 s1⟩
    · refine ⟨_, (pss_cons (ps_expr (C8.pe_c c_check_rule hr (by decide) (by rfl) (pa_cons (pv 0) pa_nil)))
    (pss_cons (ps_expr (pe_cx cx_check_records hr (by decide) (takes_of rfl rfl rfl rfl) (by rfl) (pa_cons (pv 1) pa_nil)))
    (pss_one (ps_ret (pe_callB (cr_all rfl) (by rfl) B.all_ bt_all (pa_cons (pe_lc (own := [("record", 2)]) (g := (gName 2)) (by rfl) sc_fits.nd (pi_seq (pv 1)) (blkOk_by (own := [("record", 2)]) (N := N_fits) (sc := defScope s_fits) (by decide +kernel)) (fun _ _ _ _ _ => (pg_name (i := 2) sc_fits.nd rfl (Or.inl rfl))) (fun _ _ _ _ _ => pts_nil) (fun _ _ _ _ _ => (C8.pe_c c_fits_record hr (by decide) (by rfl) (pa_cons (pv 0) (pa_cons (pv 2) pa_nil))))) pa_nil)))))), ?_⟩
      refine ⟨_, rfl, r, p, q, c, k, rfl, er, R, fun H1 s1 => ?_⟩
      exact ⟨_, rfl, v, j, rfl, hb.kp (Fr.same s1).kp, fun H2 s2 => he H2 (s1.trans s2)⟩
end
end Lf
namespace Lf
open PySem PySem.Spec PyProof.Rows L2
/-! ### tables of code objects, kept -/
theorem tabs_fr {T : List (Addr × Str)} {H H' : Hp} (t : LamX.Tabs T H) (f : Fr H H') : LamX.Tabs T H' := fun p hp => by
  obtain ⟨ps, h1, h2, h3⟩ := t p hp
  refine ⟨ps, f.k _ _ h1 (fun _ z => by cases z), h2, fun pos cv hc => ?_⟩
  obtain ⟨c, e1, e2⟩ := h3 pos cv hc
  exact ⟨c, e1, f.k _ _ e2 fun _ z => by unfold LamX.CodeO at z; cases z⟩
theorem tabs_same {T : List (Addr × Str)} {H H' : Hp} (t : LamX.Tabs T H) (s : Same H H') : LamX.Tabs T H' := tabs_fr t (Fr.same s)
theorem Pen.extN {H H' : Hp} {a : PA} {n : Nat} (p : Pen H a n) (e : LamX.ExtN H H') : Pen H' a n := by
  obtain ⟨cs, t, r, h1, h2, h3⟩ := p.ex
  exact ⟨cs, t, r, e _ _ h1 (fun _ z => by cases z), e _ _ h2 (fun _ z => by cases z), h3⟩
theorem tup_extN {H H' : Hp} {b : Addr} {xs : List V} (e : LamX.ExtN H H') (h : H b = some (.tup xs)) : H' b = some (.tup xs) := e _ _ h fun _ z => by cases z
def spLawT (K : PySem.W.Frag) (PT : Addr) : Sp := fun vs H Q _ => ∃ (a : Addr) (ns : List Int), vs = [.ref a] ∧ SqL K H a (ns.map V.int) ∧ ns.length ≤ 63 ∧ H PT = some (.tbl #[]) ∧ ∀ H', Q (.bl true) H'
theorem iteFs {b : Bool} {A B : Prop} (h : b = false) (hB : B) : if b = true then A else B := by
  rw [h, if_neg Bool.false_ne_true]
  exact hB
theorem notin_of {ns : List Int} {k : Int} (h : k ∈ ns) : (if true = true then !inV (V.int k) (ns.map V.int) else inV (V.int k) (ns.map V.int)) = false := by
  rw [if_pos rfl, inV_ints, decide_eq_true h]
  rfl
/-- two pairs that are the same are not different -/
theorem ne2 {K : PySem.W.Frag} {H : Hp} {r1 r2 : Addr} {p q p' q' : Int} {Q : V → Hp → Prop} (e1 : H r1 = some (.tup [.int p, .int q])) (e2 : H r2 = some (.tup [.int p', .int q'])) (hp : p = p') (hq : q = q') (h : Q (.bl false) H) : rNeD K (.ref r1) (.ref r2) H Q := by
  subst hp hq
  refine ⟨.tuple [.int p, .int q], .tuple [.int p, .int q], Dp.tup (SqT.of e1) (.cons (.int p) (.cons (.int q) .nil)), Dp.tup (SqT.of e2) (.cons (.int p) (.cons (.int q) .nil)), rfl, rfl, ?_⟩
  rw [SeqAt.eqv_refl _ rfl]
  exact h
abbrev qLam : Str := (("law" : Str) ++ (".<locals>." : Str)) ++ ("<lambda>" : Str)
end Lf
namespace Lf
open PySem PySem.Spec PyProof.Rows L2
/-- two rules that are the same are not different -/
theorem ne3 {K : PySem.W.Frag} {H : Hp} {r1 r2 : Addr} {p q c p' q' c' : Int} {Q : V → Hp → Prop} (e1 : H r1 = some (.tup [.int p, .int q, .int c])) (e2 : H r2 = some (.tup [.int p', .int q', .int c'])) (hp : p = p') (hq : q = q') (hc : c = c') (h : Q (.bl false) H) : rNeD K (.ref r1) (.ref r2) H Q := by
  subst hp hq hc
  refine ⟨.tuple [.int p, .int q, .int c], .tuple [.int p, .int q, .int c], Dp.tup (SqT.of e1) (.cons (.int p) (.cons (.int q) (.cons (.int c) .nil))), Dp.tup (SqT.of e2) (.cons (.int p) (.cons (.int q) (.cons (.int c) .nil))), rfl, rfl, ?_⟩
  rw [SeqAt.eqv_refl _ rfl]
  exact h
theorem logR {k : Nat} {i : Int} (h : Bd k i) (hk : k ≤ 1920) : i.natAbs.log2 < 1920 := (h.mono hk).log (by decide)
def spLaw (K : PySem.W.Frag) : Sp := fun vs H Q _ => ∃ (a : Addr) (ns : List Int), vs = [.ref a] ∧ SqL K H a (ns.map V.int) ∧ ns.length ≤ 63 ∧ ∀ H', Q (.bl true) H'
end Lf
namespace Lf
open PySem PySem.Spec PyProof.Rows L2
def tNoS : TS := fun _ _ _ => False
theorem pss_no {X : Cx} {b : List Stmt} : PSs X b tNoS := ⟨fun _ _ _ _ _ _ h => h.elim⟩
theorem nf_of {H H' : Hp} (s : Same H H') {F : Addr} (n : H' F = none) : H F = none := by
  cases e : H F with
  | none => rfl
  | some o =>
    rw [s _ _ e] at n
    cases n
theorem at_in {xs : List V} {d : Int} (h0 : 0 ≤ d) (h1 : d < (xs.length : Int)) : ∃ x, atI xs d = some x ∧ x ∈ xs := by
  obtain ⟨j, rfl⟩ := Int.eq_ofNat_of_zero_le h0
  have hj : j < xs.length := by omega
  exact ⟨_, atI_nat (List.getElem?_eq_getElem hj), List.getElem_mem hj⟩
section
variable {P : Program} {w : World} {K : PySem.W.Frag} {mg : Str → Option Value} {base : Heap} {C : Addr}
/-! ### _law_divisor -/
abbrev s_l_divisor : Stmt := topS 24
abbrev N_l_divisor : List Str := ["_law_one", "_law_two"]
abbrev P_l_divisor : List Str := ["_law_one", "_law_two"]
theorem sc_l_divisor : FnScope N_l_divisor P_l_divisor (defScope s_l_divisor) := ⟨rfl, rfl, rfl, by decide +kernel, rfl, by decide +kernel, by decide +kernel⟩
theorem ok_l_divisor (D : Df K mg "_law_divisor" s_l_divisor P_l_divisor) : C8.Cal P w K mg base 1 "_law_divisor" spGcd [] := by
  refine cal_of D sc_l_divisor (fun vs H Q E h => ?_) (fun f cdv A outer s H vs Q E hr h => ?_)
  · obtain ⟨x, y, rfl, _⟩ := h
    rfl
  · obtain ⟨x, y, rfl, hx, hy, q⟩ := h
    refine ⟨_, (pss_cons (ps_while PassesOwn.never (pt_cmpR op_gt (pv 1) pe_int (nomark _))
      (pss_one (ps_par (i := 0) (j := 1) rfl sc_l_divisor.nd rfl rfl (by decide) rfl rfl (pa_cons (pv 1) (pa_cons (pe_op op_mod (pv 0) (pv 1)) pa_nil)) rfl)))
    (pss_one (ps_ret (pv 0)))), ?_⟩
    refine while_by (fun σ H' => ∃ u v : Int, σ = [some (.int u), some (.int v)] ∧ 0 ≤ u ∧ 0 ≤ v ∧ Int.gcd u v = Int.gcd x y ∧ H' = H) mu1 ⟨x, y, rfl, hx, hy, rfl, rfl⟩ ?_ ?_
    · rintro σ H' ⟨u, v, rfl, hu, hv, e, rfl⟩
      refine ⟨_, rfl, _, _, rfl, rfl, _, rfl, ite2 (fun c => ?_) (fun c => ?_)⟩
      · have hv0 : 0 < v := of_decide_eq_true c
        refine ⟨_, rfl, _, rfl, _, rfl, _, _, rfl, rfl, hv0, _, _, rfl, ⟨v, u % v, rfl, hv, Int.emod_nonneg _ (by omega), ?_, rfl⟩, ?_⟩
        · rw [gcd_turn u v hu hv0]; exact e
        · show (u % v).toNat < v.toNat
          have := Int.emod_lt_of_pos u hv0
          omega
      · have hv0 : v = 0 := by
          have : ¬ 0 < v := fun z => c (decide_eq_true z)
          omega
        subst hv0
        refine ⟨_, rfl, ?_⟩
        have e2 : (Int.gcd x y : Int) = u := by
          rw [← e, Int.gcd_zero_right]
          omega
        rw [← e2]
        exact q
    · rintro σ H' Q1 Q2 hQ ⟨v, h1, i, j, h2, h3, b, h4, h5⟩
      exact ⟨v, h1, i, j, h2, h3, b, h4, hQ _ _ h5⟩
/-! ### _law_rule -/
def spRule01 : Sp := fun vs H Q _ => ∃ (a : PA) (n : Nat), vs = [.ref a] ∧ Pen H a n ∧ n < 2 ^ 39 ∧ ∀ r H' p q c, RuleB 100 p q c → H' r = some (.tup [.int p, .int q, .int c]) → Pen H' a (n + 4) → Fr H H' → Q (.ref r) H'
abbrev s_l_rule : Stmt := topS 25
abbrev N_l_rule : List Str := ["_law_state", "_law_scale", "_law_p", "_law_q", "_law_c", "_law_g"]
abbrev P_l_rule : List Str := ["_law_state"]
theorem sc_l_rule : FnScope N_l_rule P_l_rule (defScope s_l_rule) := ⟨rfl, rfl, rfl, by decide +kernel, rfl, by decide +kernel, by decide +kernel⟩
theorem ok_l_rule (D : Df K mg "_law_rule" s_l_rule P_l_rule) (B : Bi mg) (c_l_draw : C8.Cal P w K mg base 1 "_law_draw" spDraw []) (c_l_divisor : C8.Cal P w K mg base 1 "_law_divisor" spGcd []) : C8.Cal P w K mg base 2 "_law_rule" spRule01 [] := by
  refine cal_of D sc_l_rule (fun vs H Q E h => ?_) (fun f cdv A outer s H vs Q E hr h => ?_)
  · obtain ⟨a, n, rfl, _⟩ := h
    rfl
  · obtain ⟨a, n, rfl, hP, hn, kk⟩ := h
    refine ⟨_, (pss_cons (ps_set (i := 1) sc_l_rule.nd rfl (Or.inl rfl) (pe_ix (r := rIxL K) ix_list (pe_lst (pa_cons pe_int (pa_cons pe_int (pa_cons (pe_op op_pow pe_int pe_int) pa_nil)))) (C8.pe_c c_l_draw hr (by decide) (by rfl) (pa_cons (pv 0) (pa_cons pe_int pa_nil))) (fun _ _ => rfl)))
    (pss_cons (ps_par (i := 2) (j := 3) rfl sc_l_rule.nd rfl rfl (by decide) rfl rfl (pa_cons (C8.pe_c c_l_draw hr (by decide) (by rfl) (pa_cons (pv 0) (pa_cons (pv 1) pa_nil))) (pa_cons (pe_op op_add pe_int (C8.pe_c c_l_draw hr (by decide) (by rfl) (pa_cons (pv 0) (pa_cons (pv 1) pa_nil)))) pa_nil)) rfl)
    (pss_cons (ps_par (i := 4) (j := 5) rfl sc_l_rule.nd rfl rfl (by decide) rfl rfl (pa_cons (pe_op op_sub (C8.pe_c c_l_draw hr (by decide) (by rfl) (pa_cons (pv 0) (pa_cons (pe_op op_mul pe_int (pv 1)) pa_nil))) (pv 1)) (pa_cons (C8.pe_c c_l_divisor hr (by decide) (by rfl) (pa_cons (pv 2) (pa_cons (pv 3) pa_nil))) pa_nil)) rfl)
    (pss_one (ps_ret (pe_tup (pa_cons (pe_op op_fdivW (pv 2) (pv 5)) (pa_cons (pe_op op_fdivW (pv 3) (pv 5)) (pa_cons (pe_op op_fdivW (pv 4) (pv 5)) pa_nil))))))))), ?_⟩
    refine ⟨_, _, rfl, rfl, ⟨by decide, by decide, by decide⟩, len10 (by simp), fun O nO => ?_⟩
    refine ⟨_, rfl, a, _, _, rfl, hP.new nO, by omega, by decide, Bd.small 20 (by decide) (by decide), fun i H1 i0 i1 hP1 f1 => ?_⟩
    have eO := f1.l _ _ (upd_same (H := H) (a := O) (o := .lst [.int 5, .int 30, .int (10 ^ (9 : Int).toNat)]))
    obtain ⟨x, hx, mx⟩ := at_in (xs := [.int 5, .int 30, .int (10 ^ (9 : Int).toNat)]) i0 (by show i < 3; omega)
    refine ⟨O, _, _, _, rfl, rfl, SqL.of eO, hx, ?_⟩
    have f1 := (Fr.new nO).trans f1
    obtain ⟨sc, rfl, s1, s2⟩ : ∃ sc : Int, x = .int sc ∧ 1 ≤ sc ∧ sc ≤ 1000000000 := by
      simp only [List.mem_cons, List.not_mem_nil, or_false] at mx
      rcases mx with rfl | rfl | rfl <;> exact ⟨_, rfl, by decide, by decide⟩
    clear mx hx eO
    have bs : ∀ x : Int, x.natAbs < 2 ^ 40 → Bd 100 x := fun x h => Bd.small 40 h (by decide)
    refine ⟨_, rfl, _, rfl, a, _, _, rfl, hP1, by omega, by omega, (bs _ (by omega)).mono (by decide), fun p H2 p0 p1 hP2 f2 => ?_⟩
    refine ⟨_, rfl, _, rfl, a, _, _, rfl, hP2, by omega, by omega, (bs _ (by omega)).mono (by decide), fun q' H3 q0 q1 hP3 f3 => ?_⟩
    refine ⟨_, _, rfl, rfl, _, _, rfl, ?_⟩
    refine ⟨_, rfl, _, rfl, _, _, rfl, rfl, .inl ⟨by decide, by decide⟩, a, _, _, rfl, hP3, by omega, by omega, (bs _ (by omega)).mono (by decide), fun c H4 c0 c1 hP4 f4 => ?_⟩
    refine ⟨_, rfl, _, _, rfl, rfl, ?_⟩
    refine ⟨_, rfl, _, rfl, p, 1 + q', rfl, p0, by omega, ?_⟩
    refine ⟨_, _, rfl, ?_⟩
    have q1' : 1 ≤ 1 + q' := by omega
    have gp : (0 : Int) < (Int.gcd p (1 + q') : Int) := gcd_pos q1'
    have gb : (Int.gcd p (1 + q') : Int) ≤ 1 + q' := by
      have := Int.gcd_le_natAbs_right p (show (1 + q') ≠ 0 by omega)
      omega
    have hd : CDivW 0 (Int.gcd p (1 + q') : Int) := ⟨gp, ((bs _ (by omega)).mono (by decide : 100 ≤ 9000)).log (by decide)⟩
    have R : RuleB 100 (p / (Int.gcd p (1 + q') : Int)) ((1 + q') / (Int.gcd p (1 + q') : Int)) ((c - sc) / (Int.gcd p (1 + q') : Int)) := low_rule p0 q1' (bs _ (by omega)) (bs _ (by omega)) (bs _ (by omega))
    refine ⟨_, rfl, _, rfl, _, _, rfl, rfl, hd, _, rfl, _, rfl, _, _, rfl, rfl, hd, _, rfl, _, rfl, _, _, rfl, rfl, hd, len10 (by simp), fun r nr => ?_⟩
    exact kk r _ _ _ _ R upd_same ((hP4.new nr).mono (by omega)) (f1.trans (f2.trans (f3.trans (f4.trans (Fr.new nr)))))
/-! ### _law_count -/
def spCount30 : Sp := fun vs H Q _ => ∃ (r : Addr) (p q c t : Int) (k : Nat), vs = [.ref r, .int t] ∧ H r = some (.tup [.int p, .int q, .int c]) ∧ RuleB k p q c ∧ Bd k t ∧ 0 < k ∧ k ≤ 3000 ∧ Q (.int ((p * t + c) / q)) H
abbrev s_l_count : Stmt := topS 26
abbrev N_l_count : List Str := ["_law_rule_here", "_law_t"]
abbrev P_l_count : List Str := ["_law_rule_here", "_law_t"]
theorem sc_l_count : FnScope N_l_count P_l_count (defScope s_l_count) := ⟨rfl, rfl, rfl, by decide +kernel, rfl, by decide +kernel, by decide +kernel⟩
theorem ok_l_count (D : Df K mg "_law_count" s_l_count P_l_count) : C8.Cal P w K mg base 1 "_law_count" spCount30 [] := by
  refine cal_of D sc_l_count (fun vs H Q E h => ?_) (fun f cdv A outer s H vs Q E hr h => ?_)
  · obtain ⟨r, p, q, c, t, k, rfl, _⟩ := h
    rfl
  · obtain ⟨r, p, q, c, t, k, rfl, er, R, bt, k0, k3, kk⟩ := h
    refine ⟨_, (pss_one (ps_ret (pe_op op_fdivW (pe_op op_add (pe_op op_mulW (pe_ix (r := rIxT K) ix_tup (pv 0) pe_int (fun _ _ => rfl)) (pv 1)) (pe_ix (r := rIxT K) ix_tup (pv 0) pe_int (fun _ _ => rfl))) (pe_ix (r := rIxT K) ix_tup (pv 0) pe_int (fun _ _ => rfl))))), ?_⟩
    refine ⟨_, rfl, r, _, _, _, rfl, rfl, SqT.of er, atI_nat (j := 0) rfl, _, rfl, _, _, rfl, rfl, mulW R.bp bt k0 k0 (by omega), ?_⟩
    refine ⟨_, rfl, r, _, _, _, rfl, rfl, SqT.of er, atI_nat (j := 2) rfl, _, _, rfl, rfl, ?_⟩
    refine ⟨_, rfl, r, _, _, _, rfl, rfl, SqT.of er, atI_nat (j := 1) rfl, _, _, rfl, rfl, divW (by have := R.q1; omega) R.bq (by omega), kk⟩
/-! ### count_records, event_records -/
def spRec01 (f : Int → Int → List Rec) : Sp := fun vs H Q _ => ∃ (x y : Int), vs = [.int x, .int y] ∧ ∀ p xs H', H p = none → H' p = some (.lst xs) → Obs rcO H' xs (f x y) → Same H H' → Q (.ref p) H'
def cntR (t n : Int) : List Rec := [⟨true, t, n⟩, ⟨false, t, n⟩]
def evtR (n t : Int) : List Rec := [⟨true, t, n⟩, ⟨false, t - 1, n - 1⟩]
abbrev s_count_records : Stmt := topS 12
abbrev N_count_records : List Str := ["time", "count"]
abbrev P_count_records : List Str := ["time", "count"]
theorem sc_count_records : FnScope N_count_records P_count_records (defScope s_count_records) := ⟨rfl, rfl, rfl, by decide +kernel, rfl, by decide +kernel, by decide +kernel⟩
theorem ok_count_records (D : Df K mg "count_records" s_count_records P_count_records) (c_check_integer : C8.Cal P w K mg base 2 "check_integer" spCheckInt []) : C8.Cal P w K mg base 3 "count_records" (spRec01 cntR) [] := by
  refine cal_of D sc_count_records (fun vs H Q E h => ?_) (fun f cdv A outer s H vs Q E hr h => ?_)
  · obtain ⟨x, y, rfl, _⟩ := h
    rfl
  · obtain ⟨t, n, rfl, kk⟩ := h
    refine ⟨_, (pss_cons (ps_expr (C8.pe_c c_check_integer hr (by decide) (by rfl) (pa_cons (pv 0) pa_nil)))
    (pss_cons (ps_expr (C8.pe_c c_check_integer hr (by decide) (by rfl) (pa_cons (pv 1) pa_nil)))
    (pss_one (ps_ret (pe_lst (pa_cons (pe_tup (pa_cons pe_str (pa_cons (pv 0) (pa_cons (pv 1) pa_nil)))) (pa_cons (pe_tup (pa_cons pe_str (pa_cons (pv 0) (pa_cons (pv 1) pa_nil)))) pa_nil))))))), ?_⟩
    refine ⟨_, rfl, t, rfl, _, rfl, n, rfl, ?_⟩
    refine ⟨_, rfl, _, rfl, len10 (by simp), fun r1 n1 => ?_⟩
    have z1 := sm_upd (o := rcO ⟨true, t, n⟩) n1
    refine ⟨_, rfl, _, rfl, len10 (by simp), fun r2 n2 => ?_⟩
    have z2 := sm_upd (o := rcO ⟨false, t, n⟩) n2
    refine ⟨len10 (by simp), fun l nl => ?_⟩
    have z3 := sm_upd (o := .lst [.ref r1, .ref r2]) nl
    have s3 := z1.trans (z2.trans z3)
    exact kk l _ _ (nf_of (z1.trans z2) nl) upd_same (.cons ((z2.trans z3) _ _ (upd_same (a := r1) (o := rcO ⟨true, t, n⟩))) (.cons (z3 _ _ (upd_same (a := r2) (o := rcO ⟨false, t, n⟩))) .nil)) s3
abbrev s_event_records : Stmt := topS 13
abbrev N_event_records : List Str := ["event", "time"]
abbrev P_event_records : List Str := ["event", "time"]
theorem sc_event_records : FnScope N_event_records P_event_records (defScope s_event_records) := ⟨rfl, rfl, rfl, by decide +kernel, rfl, by decide +kernel, by decide +kernel⟩
theorem ok_event_records (D : Df K mg "event_records" s_event_records P_event_records) (c_check_integer : C8.Cal P w K mg base 2 "check_integer" spCheckInt []) : C8.Cal P w K mg base 3 "event_records" (spRec01 evtR) [] := by
  refine cal_of D sc_event_records (fun vs H Q E h => ?_) (fun f cdv A outer s H vs Q E hr h => ?_)
  · obtain ⟨x, y, rfl, _⟩ := h
    rfl
  · obtain ⟨n, t, rfl, kk⟩ := h
    refine ⟨_, (pss_cons (ps_expr (C8.pe_c c_check_integer hr (by decide) (by rfl) (pa_cons (pv 0) pa_nil)))
    (pss_cons (ps_expr (C8.pe_c c_check_integer hr (by decide) (by rfl) (pa_cons (pv 1) pa_nil)))
    (pss_one (ps_ret (pe_lst (pa_cons (pe_tup (pa_cons pe_str (pa_cons (pv 1) (pa_cons (pv 0) pa_nil)))) (pa_cons (pe_tup (pa_cons pe_str (pa_cons (pe_op op_sub (pv 1) pe_int) (pa_cons (pe_op op_sub (pv 0) pe_int) pa_nil)))) pa_nil))))))), ?_⟩
    refine ⟨_, rfl, n, rfl, _, rfl, t, rfl, ?_⟩
    refine ⟨_, rfl, _, rfl, len10 (by simp), fun r1 n1 => ?_⟩
    have z1 := sm_upd (o := rcO ⟨true, t, n⟩) n1
    refine ⟨_, rfl, _, _, rfl, rfl, _, rfl, _, _, rfl, rfl, len10 (by simp), fun r2 n2 => ?_⟩
    have z2 := sm_upd (o := rcO ⟨false, t - 1, n - 1⟩) n2
    refine ⟨len10 (by simp), fun l nl => ?_⟩
    have z3 := sm_upd (o := .lst [.ref r1, .ref r2]) nl
    have s3 := z1.trans (z2.trans z3)
    exact kk l _ _ (nf_of (z1.trans z2) nl) upd_same (.cons ((z2.trans z3) _ _ (upd_same (a := r1) (o := rcO ⟨true, t, n⟩))) (.cons (z3 _ _ (upd_same (a := r2) (o := rcO ⟨false, t - 1, n - 1⟩))) .nil)) s3
/-! ### what is refused -/
/-- the first of two that is no whole number -/
def spBad2 (C : Addr) : Sp := fun vs H _ E => ∃ (x y b : V) (dx dy : PyData), vs = [x, y] ∧ Dv H x dx ∧ Dv H y dy ∧ ((isI dx = false ∧ b = x) ∨ (isI dx = true ∧ isI dy = false ∧ b = y)) ∧ Out C b H E
theorem okx_count_records (D : Df K mg "count_records" s_count_records P_count_records) (cx_check_integer : CalX P w K mg base 3 "check_integer" (spCkI C)) : CalX P w K mg base 4 "count_records" (spBad2 C) := by
  refine calx_of D sc_count_records (fun vs H Q E h => ?_) (fun f cdv A outer s H vs Q E hr h => ?_)
  · obtain ⟨x, y, b, dx, dy, rfl, _⟩ := h
    rfl
  · obtain ⟨x, y, b, dx, dy, rfl, hx, hy, hb, he⟩ := h
    refine ⟨_, pss_cons (ps_expr (pe_cx cx_check_integer hr (by decide) (takes_of rfl rfl rfl rfl) (by rfl) (pa_cons (pv 0) pa_nil))) (pss_cons (ps_expr (pe_cx cx_check_integer hr (by decide) (takes_of rfl rfl rfl rfl) (by rfl) (pa_cons (pv 1) pa_nil))) pss_no), ?_⟩
    rcases hb with ⟨h1, rfl⟩ | ⟨h1, h2, rfl⟩
    · exact ⟨_, rfl, _, dx, rfl, hx, fun z => (by rw [h1] at z; cases z), fun _ => he⟩
    · exact ⟨_, rfl, _, dx, rfl, hx, fun _ => ⟨_, rfl, _, dy, rfl, hy, fun z => (by rw [h2] at z; cases z), fun _ => he⟩, fun z => (by rw [h1] at z; cases z)⟩
theorem okx_event_records (D : Df K mg "event_records" s_event_records P_event_records) (cx_check_integer : CalX P w K mg base 3 "check_integer" (spCkI C)) : CalX P w K mg base 4 "event_records" (spBad2 C) := by
  refine calx_of D sc_event_records (fun vs H Q E h => ?_) (fun f cdv A outer s H vs Q E hr h => ?_)
  · obtain ⟨x, y, b, dx, dy, rfl, _⟩ := h
    rfl
  · obtain ⟨x, y, b, dx, dy, rfl, hx, hy, hb, he⟩ := h
    refine ⟨_, pss_cons (ps_expr (pe_cx cx_check_integer hr (by decide) (takes_of rfl rfl rfl rfl) (by rfl) (pa_cons (pv 0) pa_nil))) (pss_cons (ps_expr (pe_cx cx_check_integer hr (by decide) (takes_of rfl rfl rfl rfl) (by rfl) (pa_cons (pv 1) pa_nil))) pss_no), ?_⟩
    rcases hb with ⟨h1, rfl⟩ | ⟨h1, h2, rfl⟩
    · exact ⟨_, rfl, _, dx, rfl, hx, fun z => (by rw [h1] at z; cases z), fun _ => he⟩
    · exact ⟨_, rfl, _, dx, rfl, hx, fun _ => ⟨_, rfl, _, dy, rfl, hy, fun z => (by rw [h2] at z; cases z), fun _ => he⟩, fun z => (by rw [h1] at z; cases z)⟩
end
end Lf
namespace Lf
open PySem PySem.Spec PyProof.Rows L2
/-! ### lists of the very same items, or of other lengths -/
def SmI (xs : List V) : Prop := ∀ z ∈ xs, flatB z = true ∨ ∃ c, z = .ref c
def rNeS (K : PySem.W.Frag) : R2 := fun x y H Q => ∃ a b xs ys, x = .ref a ∧ y = .ref b ∧ SqL K H a xs ∧ SqL K H b ys ∧ ((xs.length ≠ ys.length ∧ Q (.bl true) H) ∨ (xs = ys ∧ SmI xs ∧ Q (.bl false) H))
def rEqS (K : PySem.W.Frag) : R2 := fun x y H Q => ∃ a b xs ys, x = .ref a ∧ y = .ref b ∧ SqL K H a xs ∧ SqL K H b ys ∧ ((xs.length ≠ ys.length ∧ Q (.bl false) H) ∨ (xs = ys ∧ SmI xs ∧ Q (.bl true) H))
theorem smI_at {A : Around} {s : Shared} {xs : List V} : ∀ {us ws : List Value}, SmI xs → Vals xs us → Vals xs ws → ∀ j (h1 : j < us.length) (h2 : j < ws.length), SeqAt.EqAt A s us[j] ws[j] true := by
  induction xs with
  | nil =>
    intro us ws _ r1 r2 j h1 _
    cases r1
    exact absurd h1 (Nat.not_lt_zero j)
  | cons x xs ih =>
    intro us ws hs r1 r2 j h1 h2
    cases r1 with
    | cons a1 b1 =>
      cases r2 with
      | cons a2 b2 =>
        cases j with
        | zero =>
          rcases hs x List.mem_cons_self with f | ⟨c, rfl⟩
          · exact eqAt_same a1 a2 f
          · cases a1
            cases a2
            exact SeqAt.EqAt.same _
        | succ j => exact ih (fun z hz => hs z (List.mem_cons_of_mem _ hz)) b1 b2 j (Nat.lt_of_succ_lt_succ h1) (Nat.lt_of_succ_lt_succ h2)
section
variable {X : Cx}
theorem op_neS (hu : X.A.units + 64 < cLine) : OpR X (compareOp .NotEq) (rNeS X.K) := by
  intro pins s σ H x y v u Q I rx ry h
  obtain ⟨a, b, xs, ys, rfl, rfl, ha, hb, h⟩ := h
  cases rx
  cases ry
  obtain ⟨us, r1, p1, _⟩ := I.list ha
  obtain ⟨ws, r2, p2, _⟩ := I.list hb
  have l1 := r1.length
  have l2 := r2.length
  rcases h with ⟨hne, q⟩ | ⟨rfl, hs, q⟩
  · exact SeqAt.RcNeAt.lists_lengths p1.isList p2.isList (by rw [bne_iff_ne, List.size_toArray, List.size_toArray]; omega) (by omega) _ _ _ _ ⟨.bl true, H, I, rfl, q⟩
  · have hsz : us.toArray.size = ws.toArray.size := by rw [List.size_toArray, List.size_toArray]; omega
    have R := SeqAt.RcNeAt.lists (e := fun _ => true) p1.isList p2.isList hsz (show X.A.units < cLine by omega) (fun j h1 h2 => by
      have := smI_at (A := X.A.in1) (s := s) hs r1 r2 j (by simpa using h1) (by simpa using h2)
      simpa using this)
    rw [show ((List.range us.toArray.size).all fun _ => true) = true from List.all_eq_true.mpr fun _ _ => rfl] at R
    exact R _ _ _ _ ⟨.bl false, H, I, rfl, q⟩
theorem op_eqS (hu : X.A.units + 64 < cLine) : OpR X (compareOp .Eq) (rEqS X.K) := by
  intro pins s σ H x y v u Q I rx ry h
  obtain ⟨a, b, xs, ys, rfl, rfl, ha, hb, h⟩ := h
  cases rx
  cases ry
  obtain ⟨us, r1, p1, _⟩ := I.list ha
  obtain ⟨ws, r2, p2, _⟩ := I.list hb
  have l1 := r1.length
  have l2 := r2.length
  rcases h with ⟨hne, q⟩ | ⟨rfl, hs, q⟩
  · exact SeqAt.RcAt.lists_lengths p1.isList p2.isList (by rw [bne_iff_ne, List.size_toArray, List.size_toArray]; omega) (by omega) _ _ _ _ ⟨.bl false, H, I, rfl, q⟩
  · have hsz : us.toArray.size = ws.toArray.size := by rw [List.size_toArray, List.size_toArray]; omega
    have R := SeqAt.RcAt.lists (e := fun _ => true) p1.isList p2.isList hsz (show X.A.units < cLine by omega) (fun j h1 h2 => by
      have := smI_at (A := X.A.in1) (s := s) hs r1 r2 j (by simpa using h1) (by simpa using h2)
      simpa using this)
    rw [show ((List.range us.toArray.size).all fun _ => true) = true from List.all_eq_true.mpr fun _ _ => rfl] at R
    exact R _ _ _ _ ⟨.bl true, H, I, rfl, q⟩
end
/-! ### _law_refused -/
def TRef01 (C : Addr) : (XK → Hp → VK → Prop) → Hp → VK → Prop := fun tl H Q => tl (fun cls d H' => cls = .ref C ∧ ∃ (dd : Addr) (v : V), d = some dd ∧ H' dd = some (.xd [("value", v)]) ∧ ∀ L, H' L = none → Q (.ref L) (upd H' L (.lst [v]))) H (fun _ H' => ∃ v : V, (some (some V.non) : Option (Option V)) = some (some v) ∧ Q v H')
abbrev s_l_refused : Stmt := topS 28
abbrev N_l_refused : List Str := ["_law_call", "_law_wrong", "e"]
abbrev P_l_refused : List Str := ["_law_call"]
theorem sc_l_refused : FnScope N_l_refused P_l_refused (defScope s_l_refused) := ⟨rfl, rfl, rfl, by decide +kernel, rfl, by decide +kernel, by decide +kernel⟩
theorem three01 {α : Type} {l : List α} (h : l.length = 3) : ∃ a b c, l = [a, b, c] := by
  match l, h with
  | [a, b, c], _ => exact ⟨a, b, c, rfl⟩
theorem gives_01 {X : Cx} {C g : Addr} {cdg : Value} {q : Str} (T : ValC X.prog X.K X.mg C "InvalidNumber" "value") :
    LamX.GivesTo X N_l_refused "_law_refused" (defScope s_l_refused) g cdg (defBody s_l_refused) "_law_call" q (TRef01 C) := by
  intro f c' s H Q tl act hc h
  refine ⟨_, pss_cons (ps_set (i := 1) sc_l_refused.nd rfl (Or.inl rfl) pe_non) (pss_cons (ps_try_as (X := (cxOf C8.CX0 X.prog X.w X.K X.mg X.base N_l_refused "_law_refused" (defScope s_l_refused) g cdg X.A X.stack s H C8.E0).nox) (i := 2) (c := .ref C)
      (tb := fun W D σ H => ∃ Ech : XK, (∀ cls d σ' H', Ech cls d H' → σ'.length = 3 → W cls d σ' H') ∧ σ[0]? = some (some (.ref f)) ∧ H c' = some (LamX.CodeO c' q) ∧ tl Ech H (fun _ H' => D.nx σ H'))
      (ts := fun a cls d D σ H => ∃ dd, cls = .ref C ∧ d = some dd ∧ tAsg (tLst (tCons (tXf a (.ref C) (some dd) C "value" (tVar 2)) tNil)) (gName 1) D σ H) (Wout := fun _ _ _ _ => False) rfl rfl sc_l_refused.nd rfl rfl ⟨rfl, by decide, .inl T.gC⟩ takes0 (fun W pn xe tk _ => ?hb) (fun a oe cls d pn hz hf => ⟨fun pins s1 σ1 H1 D I h1 => ?hs⟩)) (pss_one (ps_ret (pv 1)))), ?_⟩
  case hb =>
    constructor
    intro pins s1 σ1 H1 D I h1
    obtain ⟨Ech, hW, h2, h3, h4⟩ := h1
    exact (pss_one (ps_expr (act (fun cls d σ' H' => σ'.length = 3 → W cls d σ' H') pn xe Ech _ _ (takes_len tk) hW))).run pins s1 σ1 H1 D I ⟨h2, h3, h4⟩
  case hs =>
    obtain ⟨dd, e1, e2, h2⟩ := h1
    subst e1 e2
    exact (pss_one (ps_set (i := 1) sc_l_refused.nd rfl (Or.inl rfl) (pe_lst (pa_cons (pe_xf (X := (cxOf C8.CX0 X.prog X.w X.K X.mg X.base N_l_refused "_law_refused" (defScope s_l_refused) g cdg X.A X.stack s H C8.E0).nox) T.xf T.no hz hf (pv 2)) pa_nil)))).run pins s1 σ1 H1 D I h2
  refine ⟨fun cls d H' => cls = .ref C ∧ ∃ (dd : Addr) (v : V), d = some dd ∧ H' dd = some (.xd [("value", v)]) ∧ ∀ L, H' L = none → Q (.ref L) (upd H' L (.lst [v])), fun cls d σ' H' ⟨e1, dd, v, e2, e3, e6⟩ hl => ?_, rfl, hc, ?_⟩
  · subst e1 e2
    obtain ⟨s0, s1, s2, rfl⟩ := three01 hl
    refine ⟨true, T.meets, fun _ a na => ⟨dd, rfl, rfl, ?_⟩, fun z => nomatch z⟩
    exact ⟨_, rfl, rfl, rfl, dd, _, v, rfl, e3, rfl, len10 (by simp), fun L nL => ⟨_, rfl, e6 L nL⟩⟩
  · exact h
section
variable {P : Program} {w : World} {K : PySem.W.Frag} {mg : Str → Option Value} {base : Heap} {C cE PT : Addr}
end
end Lf
namespace Lf
open PySem PySem.Spec PyProof.Rows L2
section
variable {P : Program} {w : World} {K : PySem.W.Frag} {mg : Str → Option Value} {base : Heap}
def spOdd01 : Sp := fun vs H Q _ => ∃ (a : PA) (n : Nat), vs = [.ref a] ∧ Pen H a n ∧ n < 2 ^ 39 ∧ ∀ x H', Odp Pd37 H' x → Pen H' a (n + 1) → Fr H H' → Q x H'
abbrev s_l_odd : Stmt := topS 27
abbrev N_l_odd : List Str := ["_law_state", "_law_some"]
abbrev P_l_odd : List Str := ["_law_state"]
theorem sc_l_odd : FnScope N_l_odd P_l_odd (defScope s_l_odd) := ⟨rfl, rfl, rfl, by decide +kernel, rfl, by decide +kernel, by decide +kernel⟩
theorem ok_l_odd (D : Df K mg "_law_odd" s_l_odd P_l_odd) (c_l_draw : C8.Cal P w K mg base 1 "_law_draw" spDraw []) : C8.Cal P w K mg base 2 "_law_odd" spOdd01 [] := by
  refine cal_of D sc_l_odd (fun vs H Q E h => ?_) (fun f cdv A outer s H vs Q E hr h => ?_)
  · obtain ⟨a, n, rfl, _⟩ := h
    rfl
  · obtain ⟨a, n, rfl, hP, hn, kk⟩ := h
    refine ⟨_, (C8.pss_cut (ps_set (i := 1) sc_l_odd.nd rfl (Or.inl rfl) (pe_lst1 (pa_cons pe_non (pa_cons pe_bl (pa_cons pe_int (pa_cons pe_str (pa_cons (pe_lst1 pa_nil) (pa_cons (pe_tup pa_nil) (pa_cons (pe_tup (pa_cons pe_str (pa_cons pe_int pa_nil))) (pa_cons (pe_tup (pa_cons pe_str (pa_cons pe_int (pa_cons pe_int (pa_cons pe_int pa_nil))))) (pa_cons (pe_lst1 (pa_cons pe_str (pa_cons pe_int (pa_cons pe_int pa_nil)))) (pa_cons (pe_tup (pa_cons pe_str (pa_cons pe_int (pa_cons pe_int pa_nil)))) pa_nil))))))))))))
    (C8.pss_cut (ps_set (i := 1) sc_l_odd.nd rfl (Or.inl rfl) (pe_op op_cat (pv 1) (pe_lst1 (pa_cons (pe_tup (pa_cons pe_str (pa_cons pe_bl (pa_cons pe_int pa_nil)))) (pa_cons (pe_tup (pa_cons pe_str (pa_cons pe_int (pa_cons pe_bl pa_nil)))) (pa_cons (pe_tup (pa_cons pe_str (pa_cons pe_non (pa_cons pe_int pa_nil)))) (pa_cons (pe_tup (pa_cons pe_str (pa_cons pe_int (pa_cons pe_str pa_nil)))) (pa_cons (pe_tup (pa_cons pe_int (pa_cons pe_int (pa_cons pe_int pa_nil)))) pa_nil))))))))
    (C8.pss_cut (ps_set (i := 1) sc_l_odd.nd rfl (Or.inl rfl) (pe_op op_cat (pv 1) (pe_lst1 (pa_cons (pe_tup (pa_cons pe_str (pa_cons pe_int (pa_cons pe_int pa_nil)))) (pa_cons (pe_tup (pa_cons (pe_lst1 (pa_cons pe_str pa_nil)) (pa_cons pe_int (pa_cons pe_int pa_nil)))) (pa_cons (pe_tup (pa_cons pe_str (pa_cons pe_int (pa_cons pe_int pa_nil)))) (pa_cons (pe_disp (pps_cons pe_str pe_int pps_nil) (by rfl) (by rfl) (fun z => by cases z) (by decide)) (pa_cons (pe_tup (pa_cons pe_str (pa_cons (pe_tup (pa_cons pe_int pa_nil)) (pa_cons pe_int pa_nil)))) pa_nil))))))))
    (pss_one (ps_ret (pe_ix (r := rIxL K) ix_list (pv 1) (C8.pe_c c_l_draw hr (by decide) (by rfl) (pa_cons (pv 0) (pa_cons pe_int pa_nil))) (fun _ _ => rfl))))))), ?_⟩
    refine ⟨fun σ' H' => ∃ (O : Addr) (xs : List V), σ' = [some (.ref a), some (.ref O)] ∧ H' O = some (.lst xs) ∧ OdpL Pd37 H' xs ∧ xs.length = 10 ∧ Same H H', ?_, ?_⟩
    · have s0 := Same.refl H
      have l0 := OdpL.nil (Pd := Pd37) (H := H)
      have l := l0.snoc (x := .non) ⟨_, .non, odd_by (by decide +kernel)⟩
      have l := l.snoc (x := .bl true) ⟨_, .bl true, odd_by (by decide +kernel)⟩
      have l := l.snoc (x := .int 7) ⟨_, .int 7, odd_by (by decide +kernel)⟩
      have l := l.snoc (x := .str "at least") ⟨_, .str "at least", odd_by (by decide +kernel)⟩
      refine ⟨len10 (by simp), fun o1 n1 m1 => ?_⟩
      have z1 := sm_upd (o := .lst []) n1
      have s1 := s0.trans z1
      have l := l.same z1
      have l := l.snoc (x := .ref o1) ⟨_, .lst m1 upd_same .nil, odd_by (by decide +kernel)⟩
      refine ⟨len10 (by simp), fun o2 n2 => ?_⟩
      have z2 := sm_upd (o := .tup []) n2
      have s2 := s1.trans z2
      have l := l.same z2
      have l := l.snoc (x := .ref o2) ⟨_, .tup upd_same .nil, odd_by (by decide +kernel)⟩
      refine ⟨len10 (by simp), fun o3 n3 => ?_⟩
      have z3 := sm_upd (o := .tup [.str "at least", .int 1]) n3
      have s3 := s2.trans z3
      have l := l.same z3
      have l := l.snoc (x := .ref o3) ⟨_, .tup upd_same (.cons (.str "at least") (.cons (.int 1) .nil)), odd_by (by decide +kernel)⟩
      refine ⟨len10 (by simp), fun o4 n4 => ?_⟩
      have z4 := sm_upd (o := .tup [.str "at least", .int 1, .int 2, .int 3]) n4
      have s4 := s3.trans z4
      have l := l.same z4
      have l := l.snoc (x := .ref o4) ⟨_, .tup upd_same (.cons (.str "at least") (.cons (.int 1) (.cons (.int 2) (.cons (.int 3) .nil)))), odd_by (by decide +kernel)⟩
      refine ⟨len10 (by simp), fun o5 n5 m5 => ?_⟩
      have z5 := sm_upd (o := .lst [.str "at least", .int 1, .int 2]) n5
      have s5 := s4.trans z5
      have l := l.same z5
      have l := l.snoc (x := .ref o5) ⟨_, .lst m5 upd_same (.cons (.str "at least") (.cons (.int 1) (.cons (.int 2) .nil))), odd_by (by decide +kernel)⟩
      refine ⟨len10 (by simp), fun o6 n6 => ?_⟩
      have z6 := sm_upd (o := .tup [.str "at", .int 1, .int 2]) n6
      have s6 := s5.trans z6
      have l := l.same z6
      have l := l.snoc (x := .ref o6) ⟨_, .tup upd_same (.cons (.str "at") (.cons (.int 1) (.cons (.int 2) .nil))), odd_by (by decide +kernel)⟩
      refine ⟨len10 (by simp), fun O N M => ?_⟩
      have z := sm_upd (o := .lst [.non, .bl true, .int 7, .str "at least", .ref o1, .ref o2, .ref o3, .ref o4, .ref o5, .ref o6]) N
      exact ⟨O, _, rfl, upd_same, l.same z, rfl, s6.trans z⟩
    rintro σ' G1 ⟨O1, xs1, rfl, e1, ol1, ln1, sH1⟩
    refine ⟨fun σ' H' => ∃ (O : Addr) (xs : List V), σ' = [some (.ref a), some (.ref O)] ∧ H' O = some (.lst xs) ∧ OdpL Pd37 H' xs ∧ xs.length = 15 ∧ Same H H', ?_, ?_⟩
    · have s0 := Same.refl G1
      have l0 := OdpL.nil (Pd := Pd37) (H := G1)
      refine ⟨_, rfl, ?_⟩
      refine ⟨len10 (by simp), fun o1 n1 => ?_⟩
      have z1 := sm_upd (o := .tup [.str "at least", .bl true, .int 2]) n1
      have s1 := s0.trans z1
      have l := l0.same z1
      have l := l.snoc (x := .ref o1) ⟨_, .tup upd_same (.cons (.str "at least") (.cons (.bl true) (.cons (.int 2) .nil))), odd_by (by decide +kernel)⟩
      refine ⟨len10 (by simp), fun o2 n2 => ?_⟩
      have z2 := sm_upd (o := .tup [.str "at most", .int 1, .bl false]) n2
      have s2 := s1.trans z2
      have l := l.same z2
      have l := l.snoc (x := .ref o2) ⟨_, .tup upd_same (.cons (.str "at most") (.cons (.int 1) (.cons (.bl false) .nil))), odd_by (by decide +kernel)⟩
      refine ⟨len10 (by simp), fun o3 n3 => ?_⟩
      have z3 := sm_upd (o := .tup [.str "at most", .non, .int 2]) n3
      have s3 := s2.trans z3
      have l := l.same z3
      have l := l.snoc (x := .ref o3) ⟨_, .tup upd_same (.cons (.str "at most") (.cons (.non) (.cons (.int 2) .nil))), odd_by (by decide +kernel)⟩
      refine ⟨len10 (by simp), fun o4 n4 => ?_⟩
      have z4 := sm_upd (o := .tup [.str "at most", .int 1, .str "2"]) n4
      have s4 := s3.trans z4
      have l := l.same z4
      have l := l.snoc (x := .ref o4) ⟨_, .tup upd_same (.cons (.str "at most") (.cons (.int 1) (.cons (.str "2") .nil))), odd_by (by decide +kernel)⟩
      refine ⟨len10 (by simp), fun o5 n5 => ?_⟩
      have z5 := sm_upd (o := .tup [.int 1, .int 2, .int 3]) n5
      have s5 := s4.trans z5
      have l := l.same z5
      have l := l.snoc (x := .ref o5) ⟨_, .tup upd_same (.cons (.int 1) (.cons (.int 2) (.cons (.int 3) .nil))), odd_by (by decide +kernel)⟩
      refine ⟨len10 (by simp), fun O N M => ?_⟩
      have z := sm_upd (o := .lst [.ref o1, .ref o2, .ref o3, .ref o4, .ref o5]) N
      have s := s5.trans z
      refine ⟨O1, O, _, _, rfl, rfl, s _ _ e1, upd_same, len10 (by rw [ln1]; show 10 + 5 ≤ 1000; decide), fun O2 N2 => ?_⟩
      have zz := sm_upd (o := .lst (xs1 ++ [.ref o1, .ref o2, .ref o3, .ref o4, .ref o5])) N2
      exact ⟨O2, _, rfl, upd_same, ((ol1.same s).same zz).app ((l.same z).same zz), by rw [List.length_append, ln1]; rfl, sH1.trans (s.trans zz)⟩
    rintro σ' G2 ⟨O2, xs2, rfl, e2, ol2, ln2, sH2⟩
    refine ⟨fun σ' H' => ∃ (O : Addr) (xs : List V), σ' = [some (.ref a), some (.ref O)] ∧ H' O = some (.lst xs) ∧ OdpL Pd37 H' xs ∧ xs.length = 20 ∧ Same H H', ?_, ?_⟩
    · have s0 := Same.refl G2
      have l0 := OdpL.nil (Pd := Pd37) (H := G2)
      refine ⟨_, rfl, ?_⟩
      refine ⟨len10 (by simp), fun o1 n1 => ?_⟩
      have z1 := sm_upd (o := .tup [.str "At least", .int 1, .int 2]) n1
      have s1 := s0.trans z1
      have l := l0.same z1
      have l := l.snoc (x := .ref o1) ⟨_, .tup upd_same (.cons (.str "At least") (.cons (.int 1) (.cons (.int 2) .nil))), odd_by (by decide +kernel)⟩
      refine ⟨len10 (by simp), fun o2 n2 m2 => ?_⟩
      have z2 := sm_upd (o := .lst [.str "at least"]) n2
      have s2 := s1.trans z2
      have l := l.same z2
      refine ⟨len10 (by simp), fun o3 n3 => ?_⟩
      have z3 := sm_upd (o := .tup [.ref o2, .int 1, .int 2]) n3
      have s3 := s2.trans z3
      have l := l.same z3
      have l := l.snoc (x := .ref o3) ⟨_, .tup upd_same (.cons (.lst m2 (z3 _ _ upd_same) (.cons (.str "at least") .nil)) (.cons (.int 1) (.cons (.int 2) .nil))), odd_by (by decide +kernel)⟩
      refine ⟨len10 (by simp), fun o4 n4 => ?_⟩
      have z4 := sm_upd (o := .tup [.str "at most ", .int 1, .int 2]) n4
      have s4 := s3.trans z4
      have l := l.same z4
      have l := l.snoc (x := .ref o4) ⟨_, .tup upd_same (.cons (.str "at most ") (.cons (.int 1) (.cons (.int 2) .nil))), odd_by (by decide +kernel)⟩
      refine fun o5 n5 => ⟨upd_same, [(Sum.inr "at most", .int 1)], rfl, by show 1 ≤ 15; decide, ?_⟩
      rw [upd_upd, mergeK1]
      have z5 := sm_upd (o := .dK [(Sum.inr "at most", .int 1)]) n5
      have s5 := s4.trans z5
      have l := l.same z5
      have l := l.snoc (x := .ref o5) ⟨_, .dk1 upd_same (.int 1), odd_by (by decide +kernel)⟩
      refine ⟨len10 (by simp), fun o6 n6 => ?_⟩
      have z6 := sm_upd (o := .tup [.int 1]) n6
      have s6 := s5.trans z6
      have l := l.same z6
      refine ⟨len10 (by simp), fun o7 n7 => ?_⟩
      have z7 := sm_upd (o := .tup [.str "at least", .ref o6, .int 2]) n7
      have s7 := s6.trans z7
      have l := l.same z7
      have l := l.snoc (x := .ref o7) ⟨_, .tup upd_same (.cons (.str "at least") (.cons (.tup (z7 _ _ upd_same) (.cons (.int 1) .nil)) (.cons (.int 2) .nil))), odd_by (by decide +kernel)⟩
      refine ⟨len10 (by simp), fun O N M => ?_⟩
      have z := sm_upd (o := .lst [.ref o1, .ref o3, .ref o4, .ref o5, .ref o7]) N
      have s := s7.trans z
      refine ⟨O2, O, _, _, rfl, rfl, s _ _ e2, upd_same, len10 (by rw [ln2]; show 15 + 5 ≤ 1000; decide), fun O2 N2 => ?_⟩
      have zz := sm_upd (o := .lst (xs2 ++ [.ref o1, .ref o3, .ref o4, .ref o5, .ref o7])) N2
      exact ⟨O2, _, rfl, upd_same, ((ol2.same s).same zz).app ((l.same z).same zz), by rw [List.length_append, ln2]; rfl, sH2.trans (s.trans zz)⟩
    rintro σ' G3 ⟨O3, xs3, rfl, e3, ol3, ln3, sH3⟩
    refine ⟨_, rfl, _, rfl, a, _, _, rfl, hP.same sH3, by omega, by decide, Bd.small 20 (by decide) (by decide), fun i H1 i0 i1 hP1 f1 => ?_⟩
    obtain ⟨x, hx, mx⟩ := at_in (xs := xs3) i0 (by rw [ln3]; omega)
    refine ⟨O3, _, _, _, rfl, rfl, SqL.of (f1.l _ _ e3), hx, ?_⟩
    exact kk x H1 ((ol3.kp f1.kp) x mx) hP1 ((Fr.same sH3).trans f1)
end
end Lf
namespace Lf
open PySem PySem.Spec PyProof.Rows L2
abbrev qLamE : Str := (("_law_errors_right" : Str) ++ (".<locals>." : Str)) ++ ("<lambda>" : Str)
theorem dv_smI {H : Hp} {v : V} {d : PyData} (h : Dv H v d) : SmI [v] := fun z hz => by
  rw [List.mem_singleton.mp hz]
  cases h with
  | lst _ _ _ => exact .inr ⟨_, rfl⟩
  | tup _ _ => exact .inr ⟨_, rfl⟩
  | dk0 _ => exact .inr ⟨_, rfl⟩
  | dk1 _ _ => exact .inr ⟨_, rfl⟩
  | _ => exact .inl rfl
/-- what is no whole number -/
def Bn (H : Hp) (x : V) : Prop := ∃ d, Dv H x d ∧ isI d = false
theorem Bn.kp {H H' : Hp} {x : V} (h : Bn H x) (k : Kp H H') : Bn H' x := let ⟨d, a, b⟩ := h; ⟨d, Dv.kp k _ _ a, b⟩
theorem kp_trans {H H1 H2 : Hp} (a : Kp H H1) (b : Kp H1 H2) : Kp H H2 := ⟨fun c y e => b.l _ _ (a.l _ _ e), fun c y e => b.t _ _ (a.t _ _ e), fun c e => b.d0 _ (a.d0 _ e), fun c y v e => b.d1 _ _ _ (a.d1 _ _ _ e)⟩
section
variable {P : Program} {w : World} {K : PySem.W.Frag} {mg : Str → Option Value} {base : Heap} {C cE PT : Addr}
def spErr01 (PT : Addr) : Sp := fun vs H Q _ => ∃ (a : PA) (n : Nat), vs = [.ref a] ∧ Pen H a n ∧ n < 2 ^ 39 ∧ LamX.Tabs [(PT, qLamE)] H ∧
  ∀ H', Kp H H' → Pen H' a (n + 2) → LamX.Tabs [(PT, qLamE)] H' → Q (.bl true) H'
abbrev s_l_errors_right : Stmt := topS 29
abbrev N_l_errors_right : List Str := ["_law_state", "_law_odd_here", "_law_one", "_law_two"]
abbrev P_l_errors_right : List Str := ["_law_state"]
theorem sc_l_errors_right : FnScope N_l_errors_right P_l_errors_right (defScope s_l_errors_right) := ⟨rfl, rfl, rfl, by decide +kernel, rfl, by decide +kernel, by decide +kernel⟩
theorem ok_err {f : Addr} {oc kV doc pm ct : Value} {od an : Option Addr} {osl : Array (Option Value)} (lkQ : K.lookup f = some ⟨oc, od, .func (PySem.W.fnOf "_law_errors_right" "_law_errors_right" (defArgs s_l_errors_right) (defBody s_l_errors_right) (defScope s_l_errors_right) .none kV doc pm an (.ref cE) ct), osl⟩) (hcQ : PySem.W.codeIn K (.ref cE) "_law_errors_right" = true) (TB : LamX.TabB base mg cE PT)
    (T : ValC P K mg C "InvalidNumber" "value") (B : Bi mg) (D_l_refused : Df K mg "_law_refused" s_l_refused P_l_refused) (c_l_draw : C8.Cal P w K mg base 1 "_law_draw" spDraw [])
    (cx_count_records : CalX P w K mg base 4 "count_records" (spBad2 C)) (cx_event_records : CalX P w K mg base 4 "event_records" (spBad2 C)) : FnG P w K mg base 7 f (PySem.W.fnOf "_law_errors_right" "_law_errors_right" (defArgs s_l_errors_right) (defBody s_l_errors_right) (defScope s_l_errors_right) .none kV doc pm an (.ref cE) ct) P_l_errors_right (spErr01 PT) := by
  refine fnG_lk lkQ hcQ sc_l_errors_right (fun vs H Q E h => ?_) (fun A outer s H vs Q E hr gd h => ?_)
  · obtain ⟨a, n, rfl, _⟩ := h
    rfl
  · obtain ⟨a, n, rfl, hP, hn, tT, kk⟩ := h
    obtain ⟨g, fdN, FN, hmN, bN⟩ := D_l_refused
    have kpN := FN.kp
    obtain ⟨ocN, odN, kVN, dcN, pmN, anN, cdN, ctN, slN, rfl, lkN, hcN⟩ := FN.ex
    have hT1 : (PT, (cxOf CX0 P w K mg base N_l_errors_right "_law_errors_right" (defScope s_l_errors_right) f (.ref cE) A outer s H E).nox.env.qual ++ ("<lambda>" : Str)) ∈ [(PT, qLamE)] := List.mem_singleton.mpr rfl
    have hT2 : ∀ p ∈ [(PT, qLamE)], p.1 = PT → p.2 = (cxOf CX0 P w K mg base N_l_errors_right "_law_errors_right" (defScope s_l_errors_right) f (.ref cE) A outer s H E).nox.env.qual ++ ("<lambda>" : Str) := fun p hp _ => by
      rw [List.mem_singleton.mp hp]
      rfl
    refine ⟨_, (pss_cons (ps_set (i := 1) sc_l_errors_right.nd rfl (Or.inl rfl) (pe_lst1 (pa_cons pe_non (pa_cons pe_bl (pa_cons pe_str (pa_cons (pe_tup (pa_cons pe_int pa_nil)) (pa_cons (pe_lst1 (pa_cons pe_int pa_nil)) (pa_cons pe_dnewK pa_nil))))))))
    (pss_cons (ps_asg (pe_tup (pa_cons (pe_ix (r := rIxL K) ix_list (pv 1) (C8.pe_c c_l_draw hr (by decide) (by rfl) (pa_cons (pv 0) (pa_cons pe_int pa_nil))) (fun _ _ => rfl)) (pa_cons (pe_ix (r := rIxL K) ix_list (pv 1) (C8.pe_c c_l_draw hr (by decide) (by rfl) (pa_cons (pv 0) (pa_cons pe_int pa_nil))) (fun _ _ => rfl)) pa_nil))) (pg_tup rfl (pgs_cons (pg_name (i := 2) sc_l_errors_right.nd rfl (Or.inr rfl)) (pgs_cons (pg_name (i := 3) sc_l_errors_right.nd rfl (Or.inr rfl)) pgs_nil))))
    (pss_cons (ps_if (pt_cmpR (op_neS hr.units) (LamX.pe_lamcall (T := [(PT, qLamE)]) (k := 4) (by rfl) hmN kpN lkN hcN bN sc_l_refused rfl (Or.inl rfl) (gives_01 T) TB rfl hT1 hT2 (hr.mono (by decide)) (LamX.lamS_by (sc := defScope s_l_errors_right) (by decide +kernel)) rfl (fun _ _ _ _ _ => rfl) (fun A outer s H E f c' hr2 => pe_cx cx_count_records hr2 (by decide) (takes_of rfl rfl rfl rfl) (by rfl) (pa_cons (pe_var (i := 2) rfl (Or.inr (Or.inr rfl))) (pa_cons (pe_var (i := 3) rfl (Or.inr (Or.inr rfl))) pa_nil)))) (pe_lst1 (pa_cons (pv 2) pa_nil)) (nomark _))
      (pss_one (ps_ret pe_bl))
      pss_nil)
    (pss_cons (ps_if (pt_cmpR (op_neS hr.units) (LamX.pe_lamcall (T := [(PT, qLamE)]) (k := 4) (by rfl) hmN kpN lkN hcN bN sc_l_refused rfl (Or.inl rfl) (gives_01 T) TB rfl hT1 hT2 (hr.mono (by decide)) (LamX.lamS_by (sc := defScope s_l_errors_right) (by decide +kernel)) rfl (fun _ _ _ _ _ => rfl) (fun A outer s H E f c' hr2 => pe_cx cx_count_records hr2 (by decide) (takes_of rfl rfl rfl rfl) (by rfl) (pa_cons pe_int (pa_cons (pe_var (i := 3) rfl (Or.inr (Or.inr rfl))) pa_nil)))) (pe_lst1 (pa_cons (pv 3) pa_nil)) (nomark _))
      (pss_one (ps_ret pe_bl))
      pss_nil)
    (pss_cons (ps_if (pt_cmpR (op_neS hr.units) (LamX.pe_lamcall (T := [(PT, qLamE)]) (k := 4) (by rfl) hmN kpN lkN hcN bN sc_l_refused rfl (Or.inl rfl) (gives_01 T) TB rfl hT1 hT2 (hr.mono (by decide)) (LamX.lamS_by (sc := defScope s_l_errors_right) (by decide +kernel)) rfl (fun _ _ _ _ _ => rfl) (fun A outer s H E f c' hr2 => pe_cx cx_event_records hr2 (by decide) (takes_of rfl rfl rfl rfl) (by rfl) (pa_cons (pe_var (i := 2) rfl (Or.inr (Or.inr rfl))) (pa_cons (pe_var (i := 3) rfl (Or.inr (Or.inr rfl))) pa_nil)))) (pe_lst1 (pa_cons (pv 2) pa_nil)) (nomark _))
      (pss_one (ps_ret pe_bl))
      pss_nil)
    (pss_one (ps_ret (pe_cmpR (op_eqS hr.units) (LamX.pe_lamcall (T := [(PT, qLamE)]) (k := 4) (by rfl) hmN kpN lkN hcN bN sc_l_refused rfl (Or.inl rfl) (gives_01 T) TB rfl hT1 hT2 (hr.mono (by decide)) (LamX.lamS_by (sc := defScope s_l_errors_right) (by decide +kernel)) rfl (fun _ _ _ _ _ => rfl) (fun A outer s H E f c' hr2 => pe_cx cx_event_records hr2 (by decide) (takes_of rfl rfl rfl rfl) (by rfl) (pa_cons pe_int (pa_cons (pe_var (i := 3) rfl (Or.inr (Or.inr rfl))) pa_nil)))) (pe_lst1 (pa_cons (pv 3) pa_nil)) (nomark _))))))))), ?_⟩
    refine ⟨len10 (by simp), fun o1 n1 => ?_⟩
    have z1 := sm_upd (o := .tup [.int 1]) n1
    have e1 := upd_same (H := H) (a := o1) (o := .tup [.int 1])
    refine ⟨len10 (by simp), fun o2 n2 m2 => ?_⟩
    have z2 := sm_upd (o := .lst [.int 2]) n2
    have e2 := upd_same (H := upd H o1 (.tup [.int 1])) (a := o2) (o := .lst [.int 2])
    refine fun o3 n3 => ?_
    have z3 := sm_upd (o := .dK []) n3
    refine ⟨len10 (by simp), fun O nO mO => ?_⟩
    have zO := sm_upd (o := .lst [.non, .bl true, .str "1", .ref o1, .ref o2, .ref o3]) nO
    have bads : ∀ x ∈ [V.non, .bl true, .str "1", .ref o1, .ref o2, .ref o3], Bn (upd (upd (upd (upd H o1 (.tup [.int 1])) o2 (.lst [.int 2])) o3 (.dK [])) O (.lst [.non, .bl true, .str "1", .ref o1, .ref o2, .ref o3])) x := fun x hx => by
      simp only [List.mem_cons, List.not_mem_nil, or_false] at hx
      rcases hx with rfl | rfl | rfl | rfl | rfl | rfl
      · exact ⟨_, .non, rfl⟩
      · exact ⟨_, .bl true, rfl⟩
      · exact ⟨_, .str "1", rfl⟩
      · exact ⟨_, .tup ((z2.trans (z3.trans zO)) _ _ e1) (.cons (.int 1) .nil), rfl⟩
      · exact ⟨_, .lst m2 ((z3.trans zO) _ _ e2) (.cons (.int 2) .nil), rfl⟩
      · exact ⟨_, .dk0 (zO _ _ upd_same), rfl⟩
    have eO := upd_same (H := upd (upd (upd H o1 (.tup [.int 1])) o2 (.lst [.int 2])) o3 (.dK [])) (a := O) (o := .lst [.non, .bl true, .str "1", .ref o1, .ref o2, .ref o3])
    have s0 := z1.trans (z2.trans (z3.trans zO))
    generalize upd (upd (upd (upd H o1 (.tup [.int 1])) o2 (.lst [.int 2])) o3 (.dK [])) O (.lst [.non, .bl true, .str "1", .ref o1, .ref o2, .ref o3]) = H0 at bads eO s0 ⊢
    have hP0 := hP.same s0
    have t0 := tabs_same tT s0
    have k0 := (Fr.same s0).kp
    refine ⟨_, rfl, _, rfl, a, _, _, rfl, hP0, by omega, by decide, Bd.small 20 (by decide) (by decide), fun i H1 i0 i1 hP1 f1 => ?_⟩
    have eO1 := f1.l _ _ eO
    obtain ⟨x, hx, mx⟩ := at_in (xs := [V.non, .bl true, .str "1", .ref o1, .ref o2, .ref o3]) i0 (by show i < 6; omega)
    refine ⟨O, _, _, _, rfl, rfl, SqL.of eO1, hx, ?_⟩
    refine ⟨_, rfl, _, rfl, a, _, _, rfl, hP1, by omega, by decide, Bd.small 20 (by decide) (by decide), fun j H2 j0 j1 hP2 f2 => ?_⟩
    have eO2 := f2.l _ _ eO1
    obtain ⟨y, hy, my⟩ := at_in (xs := [V.non, .bl true, .str "1", .ref o1, .ref o2, .ref o3]) j0 (by show j < 6; omega)
    refine ⟨O, _, _, _, rfl, rfl, SqL.of eO2, hy, ?_⟩
    have bx := ((bads x mx).kp f1.kp).kp f2.kp
    have byy := ((bads y my).kp f1.kp).kp f2.kp
    have t2 := tabs_fr (tabs_fr t0 f1) f2
    have k2 := kp_trans k0 (kp_trans f1.kp f2.kp)
    clear eO eO1 eO2 bads hP0 hP1 t0 k0 f1 f2 s0 z1 z2 z3 zO e1 e2
    refine ⟨len10 (by simp), fun tp ntp => ?_⟩
    have zt := sm_upd (o := .tup [x, y]) ntp
    refine ⟨tp, _, rfl, SqT.of upd_same, rfl, _, _, rfl, _, _, rfl, rfl, ?_⟩
    have t11 := tabs_same t2 zt
    have hP10 := hP2.same zt
    have bx10 := bx.kp (Fr.same zt).kp
    have by10 := byy.kp (Fr.same zt).kp
    have k11' := kp_trans k2 (Fr.same zt).kp
    generalize upd H2 tp (.tup [x, y]) = F10 at t11 hP10 bx10 by10 k11' ⊢
    clear zt bx byy t2 k2 hP2
    refine ⟨t11, fun G11 x11 u11 => ?_⟩
    have k11 := kp_trans k11' (ext_kp x11)
    have bx11 := bx10.kp (ext_kp x11)
    have by11 := by10.kp (ext_kp x11)
    have P11 := hP10.extN x11
    obtain ⟨dx11, vx11, ix11⟩ := bx11
    obtain ⟨dy11, vy11, iy11⟩ := by11
    refine ⟨_, rfl, _, rfl, x, y, x, dx11, dy11, rfl, vx11, vy11, .inl ⟨ix11, rfl⟩, fun dd ndd => ⟨rfl, dd, x, rfl, upd_same, fun L nL => ?_⟩⟩
    have w1 := sm_upd (o := .xd [("value", x)]) ndd
    have w2 := sm_upd (o := .lst [x]) nL
    refine ⟨_, rfl, len10 (by simp), fun p np mp => ?_⟩
    have w3 := sm_upd (o := .lst [x]) np
    refine ⟨L, p, [x], [x], rfl, rfl, SqL.of (w3 _ _ upd_same), SqL.of upd_same, .inr ⟨rfl, dv_smI vx11, _, rfl, iteF ?_⟩⟩
    have w := w1.trans (w2.trans w3)
    have t12 := tabs_same u11 w
    have hP11 := P11.same w
    have k12' := kp_trans k11 (Fr.same w).kp
    have bx11 : Bn _ x := ⟨dx11, Dv.kp (Fr.same w).kp _ _ vx11, ix11⟩
    have by11 : Bn _ y := ⟨dy11, Dv.kp (Fr.same w).kp _ _ vy11, iy11⟩
    generalize upd (upd (upd G11 dd (.xd [("value", x)])) L (.lst [x])) p (.lst [x]) = F11 at t12 hP11 k12' bx11 by11 ⊢
    clear w w1 w2 w3
    refine ⟨t12, fun G12 x12 u12 => ?_⟩
    have k12 := kp_trans k12' (ext_kp x12)
    have bx12 := bx11.kp (ext_kp x12)
    have by12 := by11.kp (ext_kp x12)
    have P12 := hP11.extN x12
    obtain ⟨dx12, vx12, ix12⟩ := bx12
    obtain ⟨dy12, vy12, iy12⟩ := by12
    refine ⟨_, rfl, .int 3, y, y, .int 3, dy12, rfl, .int 3, vy12, .inr ⟨rfl, iy12, rfl⟩, fun dd ndd => ⟨rfl, dd, y, rfl, upd_same, fun L nL => ?_⟩⟩
    have w1 := sm_upd (o := .xd [("value", y)]) ndd
    have w2 := sm_upd (o := .lst [y]) nL
    refine ⟨_, rfl, len10 (by simp), fun p np mp => ?_⟩
    have w3 := sm_upd (o := .lst [y]) np
    refine ⟨L, p, [y], [y], rfl, rfl, SqL.of (w3 _ _ upd_same), SqL.of upd_same, .inr ⟨rfl, dv_smI vy12, _, rfl, iteF ?_⟩⟩
    have w := w1.trans (w2.trans w3)
    have t13 := tabs_same u12 w
    have hP12 := P12.same w
    have k13' := kp_trans k12 (Fr.same w).kp
    have bx12 : Bn _ x := ⟨dx12, Dv.kp (Fr.same w).kp _ _ vx12, ix12⟩
    have by12 : Bn _ y := ⟨dy12, Dv.kp (Fr.same w).kp _ _ vy12, iy12⟩
    generalize upd (upd (upd G12 dd (.xd [("value", y)])) L (.lst [y])) p (.lst [y]) = F12 at t13 hP12 k13' bx12 by12 ⊢
    clear w w1 w2 w3
    refine ⟨t13, fun G13 x13 u13 => ?_⟩
    have k13 := kp_trans k13' (ext_kp x13)
    have bx13 := bx12.kp (ext_kp x13)
    have by13 := by12.kp (ext_kp x13)
    have P13 := hP12.extN x13
    obtain ⟨dx13, vx13, ix13⟩ := bx13
    obtain ⟨dy13, vy13, iy13⟩ := by13
    refine ⟨_, rfl, _, rfl, x, y, x, dx13, dy13, rfl, vx13, vy13, .inl ⟨ix13, rfl⟩, fun dd ndd => ⟨rfl, dd, x, rfl, upd_same, fun L nL => ?_⟩⟩
    have w1 := sm_upd (o := .xd [("value", x)]) ndd
    have w2 := sm_upd (o := .lst [x]) nL
    refine ⟨_, rfl, len10 (by simp), fun p np mp => ?_⟩
    have w3 := sm_upd (o := .lst [x]) np
    refine ⟨L, p, [x], [x], rfl, rfl, SqL.of (w3 _ _ upd_same), SqL.of upd_same, .inr ⟨rfl, dv_smI vx13, _, rfl, iteF ?_⟩⟩
    have w := w1.trans (w2.trans w3)
    have t14 := tabs_same u13 w
    have hP13 := P13.same w
    have k14' := kp_trans k13 (Fr.same w).kp
    have bx13 : Bn _ x := ⟨dx13, Dv.kp (Fr.same w).kp _ _ vx13, ix13⟩
    have by13 : Bn _ y := ⟨dy13, Dv.kp (Fr.same w).kp _ _ vy13, iy13⟩
    generalize upd (upd (upd G13 dd (.xd [("value", x)])) L (.lst [x])) p (.lst [x]) = F13 at t14 hP13 k14' bx13 by13 ⊢
    clear w w1 w2 w3
    refine ⟨t14, fun G14 x14 u14 => ?_⟩
    have k14 := kp_trans k14' (ext_kp x14)
    have bx14 := bx13.kp (ext_kp x14)
    have by14 := by13.kp (ext_kp x14)
    have P14 := hP13.extN x14
    obtain ⟨dx14, vx14, ix14⟩ := bx14
    obtain ⟨dy14, vy14, iy14⟩ := by14
    refine ⟨_, rfl, .int 3, y, y, .int 3, dy14, rfl, .int 3, vy14, .inr ⟨rfl, iy14, rfl⟩, fun dd ndd => ⟨rfl, dd, y, rfl, upd_same, fun L nL => ?_⟩⟩
    have w1 := sm_upd (o := .xd [("value", y)]) ndd
    have w2 := sm_upd (o := .lst [y]) nL
    refine ⟨_, rfl, len10 (by simp), fun p np mp => ?_⟩
    have w3 := sm_upd (o := .lst [y]) np
    refine ⟨L, p, [y], [y], rfl, rfl, SqL.of (w3 _ _ upd_same), SqL.of upd_same, .inr ⟨rfl, dv_smI vy14, ?_⟩⟩
    have w := w1.trans (w2.trans w3)
    exact kk _ (kp_trans k14 (Fr.same w).kp) ((P14.same w).mono (by omega)) (tabs_same u14 w)
end
end Lf
namespace Lf
open PySem PySem.Spec PyProof.Rows L2
theorem mn15 (x : Int) (h : 0 ≤ x) : 0 ≤ (if x < 15 then x else 15) ∧ (if x < 15 then x else 15) ≤ 15 := by
  by_cases z : x < 15
  · rw [if_pos z]
    omega
  · rw [if_neg z]
    omega
theorem rec_true (b : Bool) (t n : Int) : recB (.tuple [.str (wd b), .int t, .int n]) = true := by
  show (words.any (fun z => PyData.eqv z (.str (wd b))) && true) = true
  cases b <;> decide +kernel
theorem tabs_upd {T : List (Addr × Str)} {H : Hp} {S : Addr} {xs : List V} {o : HO} (t : LamX.Tabs T H) (e : H S = some (.lst xs)) : LamX.Tabs T (upd H S o) := fun p hp => by
  obtain ⟨ps, h1, h2, h3⟩ := t p hp
  refine ⟨ps, by rw [upd_ne (ne_of h1 e (fun z => by cases z))]; exact h1, h2, fun pos cv hc => ?_⟩
  obtain ⟨c, e1, e2⟩ := h3 pos cv hc
  exact ⟨c, e1, by rw [upd_ne (ne_of e2 e (fun z => by unfold LamX.CodeO at z; cases z))]; exact e2⟩
theorem lay_recs (ds : List Rec) : (PyData.list (ds.map rcD)).canLay0 = true := by
  have h : (PyData.canLay0 (.list (ds.map rcD)) && decide _) = true := sh_recs ds
  exact (Bool.and_eq_true _ _ ▸ h).1
theorem all_cnt (p q c t n : Int) : (cntR t n).all (fitB p q c) = decide ((p * t + c) / q = n) := by
  show (decide (n ≤ (p * t + c) / q) && (decide ((p * t + c) / q ≤ n) && true)) = _
  generalize (p * t + c) / q = h
  rw [Bool.and_true, ← Bool.decide_and]
  exact decide_eq_decide.mpr ⟨fun ⟨a, b⟩ => by omega, fun e => by omega⟩
theorem all_evt (p q c n t : Int) : (evtR n t).all (fitB p q c) = (decide (n ≤ (p * t + c) / q) && decide ((p * (t - 1) + c) / q < n)) := by
  show (decide (n ≤ (p * t + c) / q) && (decide ((p * (t - 1) + c) / q ≤ n - 1) && true)) = _
  rw [Bool.and_true]
  congr 1
  exact decide_eq_decide.mpr ⟨fun _ => by omega, fun _ => by omega⟩
section
variable {P : Program} {w : World} {K : PySem.W.Frag} {mg : Str → Option Value} {base : Heap} {C cE PT : Addr}
abbrev s_law : Stmt := topS 30
abbrev N_law : List Str := ["_law_script", "_law_state", "_law_turn", "_law_rule_here", "_law_t", "_law_here", "_law_bound", "_law_n", "_law_told"]
abbrev P_law : List Str := ["_law_script"]
theorem sc_law : FnScope N_law P_law (defScope s_law) := ⟨rfl, rfl, rfl, by decide +kernel, rfl, by decide +kernel, by decide +kernel⟩
theorem ok_law {f fQ : Addr} {fd fdQ : FuncData} (F : Fun K "law" "law" s_law f fd) (FQ : FnG P w K mg base 7 fQ fdQ P_l_errors_right (spErr01 PT)) (hmQ : mg "_law_errors_right" = some (.ref fQ)) (kpQ : PySem.W.keepIn K (.ref fQ) = true) (bQ : Binds K fdQ P_l_errors_right [])
    (B : Bi mg) (c_l_start : C8.Cal P w K mg base 1 "_law_start" (spStart K) []) (c_l_draw : C8.Cal P w K mg base 1 "_law_draw" spDraw []) (c_l_rule : C8.Cal P w K mg base 2 "_law_rule" spRule01 []) (c_l_count : C8.Cal P w K mg base 1 "_law_count" spCount30 []) (c_l_odd : C8.Cal P w K mg base 2 "_law_odd" spOdd01 [])
    (cA_is_record : C8.Cal P w K mg base 2 "is_record" spIsRecD []) (c_count_records : C8.Cal P w K mg base 3 "count_records" (spRec01 cntR) []) (c_event_records : C8.Cal P w K mg base 3 "event_records" (spRec01 evtR) []) (c_fits : C8.Cal P w K mg base 4 "fits" spFitsS []) : FnG P w K mg base 8 f fd P_law (spLawT K PT) := by
  refine fnG_of F sc_law (fun vs H Q E h => ?_) (fun cdv A outer s H vs Q E hr gd h => ?_)
  · obtain ⟨a, ns, rfl, _⟩ := h
    rfl
  · obtain ⟨sc, ns, rfl, hS, hlen, hPT, kk⟩ := h
    have c_is_record := cA_is_record
    refine ⟨_, (pss_cons (ps_set (i := 1) sc_law.nd rfl (Or.inl rfl) (C8.pe_c c_l_start hr (by decide) (by rfl) (pa_cons (pv 0) pa_nil)))
    (pss_cons (ps_for PassesOwn.never rfl (pi_range1 rfl B.range_ (pa_cons (pe_op op_add pe_int (pe_callB (call_min2 rfl) (by rfl) B.min_ bt_min (pa_cons pe_int (pa_cons (pe_callB (call_len_seq) (by rfl) B.len_ bt_len (pa_cons (pv 0) pa_nil)) pa_nil)))) pa_nil)) (pg_name (i := 2) sc_law.nd rfl (Or.inl rfl))
      (pss_cons (ps_set (i := 3) sc_law.nd rfl (Or.inl rfl) (C8.pe_c c_l_rule hr (by decide) (by rfl) (pa_cons (pv 1) pa_nil)))
    (pss_cons (ps_set (i := 4) sc_law.nd rfl (Or.inl rfl) (pe_op op_sub (C8.pe_c c_l_draw hr (by decide) (by rfl) (pa_cons (pv 1) (pa_cons (pe_ix (r := rIxL K) ix_list (pe_lst (pa_cons pe_int (pa_cons (pe_op op_pow pe_int pe_int) (pa_cons (pe_op op_pow pe_int pe_int) pa_nil)))) (C8.pe_c c_l_draw hr (by decide) (by rfl) (pa_cons (pv 1) (pa_cons pe_int pa_nil))) (fun _ _ => rfl)) pa_nil))) pe_int))
    (pss_cons (ps_set (i := 5) sc_law.nd rfl (Or.inl rfl) (C8.pe_c c_l_count hr (by decide) (by rfl) (pa_cons (pv 3) (pa_cons (pv 4) pa_nil))))
    (pss_cons (ps_set (i := 6) sc_law.nd rfl (Or.inl rfl) (pe_ix (r := rIxL K) ix_list (pe_lst (pa_cons pe_str (pa_cons pe_str pa_nil))) (C8.pe_c c_l_draw hr (by decide) (by rfl) (pa_cons (pv 1) (pa_cons pe_int pa_nil))) (fun _ _ => rfl)))
    (pss_cons (ps_if (PW.pt (pw_or (pt_cmpR op_isnot_bl (C8.pe_c c_is_record hr (by decide) (by rfl) (pa_cons (pe_tup (pa_cons (pv 6) (pa_cons (pv 4) (pa_cons (pe_op op_sub (pv 5) (C8.pe_c c_l_draw hr (by decide) (by rfl) (pa_cons (pv 1) (pa_cons pe_int pa_nil)))) pa_nil)))) pa_nil)) pe_bl (nomark _)) (pw_or1 (pt_cmpR op_isnot_bl (C8.pe_c c_is_record hr (by decide) (by rfl) (pa_cons (C8.pe_c c_l_odd hr (by decide) (by rfl) (pa_cons (pv 1) pa_nil)) pa_nil)) pe_bl (nomark _)))))
      (pss_one (ps_ret pe_bl))
      pss_nil)
    (pss_cons (ps_set (i := 7) sc_law.nd rfl (Or.inl rfl) (pe_op op_add (pv 5) (pe_ix (r := rIxL K) ix_list (pe_lst (pa_cons pe_int (pa_cons pe_int (pa_cons pe_int (pa_cons (pe_un un_neg pe_int) (pa_cons (C8.pe_c c_l_draw hr (by decide) (by rfl) (pa_cons (pv 1) (pa_cons pe_int pa_nil))) pa_nil)))))) (C8.pe_c c_l_draw hr (by decide) (by rfl) (pa_cons (pv 1) (pa_cons pe_int pa_nil))) (fun _ _ => rfl))))
    (pss_cons (ps_set (i := 8) sc_law.nd rfl (Or.inl rfl) (C8.pe_c c_count_records hr (by decide) (by rfl) (pa_cons (pv 4) (pa_cons (pv 7) pa_nil))))
    (pss_cons (ps_if (PW.pt (pw_or (pt_cmpR (op_neD hr.units) (pv 8) (pe_lst (pa_cons (pe_tup (pa_cons pe_str (pa_cons (pv 4) (pa_cons (pv 7) pa_nil)))) (pa_cons (pe_tup (pa_cons pe_str (pa_cons (pv 4) (pa_cons (pv 7) pa_nil)))) pa_nil))) (nomark _)) (pw_or1 (pt_cmpR op_ne (C8.pe_c c_fits hr (by decide) (by rfl) (pa_cons (pv 3) (pa_cons (pv 8) pa_nil))) (pe_cmpR op_eq (pv 5) (pv 7) (nomark _)) (nomark _)))))
      (pss_one (ps_ret pe_bl))
      pss_nil)
    (pss_cons (ps_expr (pe_bm PySem.F.plainAttrs_list PySem.F.slot_list_append PySem.F.type_list_append mt_append (pv 8) (pa_cons pe_str pa_nil)))
    (pss_cons (ps_if (PW.pt (pw_or (pt_cmpR (op_neD hr.units) (C8.pe_c c_count_records hr (by decide) (by rfl) (pa_cons (pv 4) (pa_cons (pv 7) pa_nil))) (pe_lst (pa_cons (pe_tup (pa_cons pe_str (pa_cons (pv 4) (pa_cons (pv 7) pa_nil)))) (pa_cons (pe_tup (pa_cons pe_str (pa_cons (pv 4) (pa_cons (pv 7) pa_nil)))) pa_nil))) (nomark _)) (pw_or1 (pt_not (pt_val (pe_g FQ gd hr (by decide) (by rfl) hmQ kpQ bQ (pa_cons (pv 1) pa_nil)))))))
      (pss_one (ps_ret pe_bl))
      pss_nil)
    (pss_cons (ps_set (i := 8) sc_law.nd rfl (Or.inl rfl) (C8.pe_c c_event_records hr (by decide) (by rfl) (pa_cons (pv 7) (pa_cons (pv 4) pa_nil))))
    (pss_cons (ps_if (pt_cmpR (op_neD hr.units) (pv 8) (pe_lst (pa_cons (pe_tup (pa_cons pe_str (pa_cons (pv 4) (pa_cons (pv 7) pa_nil)))) (pa_cons (pe_tup (pa_cons pe_str (pa_cons (pe_op op_sub (pv 4) pe_int) (pa_cons (pe_op op_sub (pv 7) pe_int) pa_nil)))) pa_nil))) (nomark _))
      (pss_one (ps_ret pe_bl))
      pss_nil)
    (C8.pss_cut (ps_if (pt_cmpR op_ne (C8.pe_c c_fits hr (by decide) (by rfl) (pa_cons (pv 3) (pa_cons (pv 8) pa_nil))) (pe_and (pe_cmpR op_ge (pv 5) (pv 7) (nomark _)) (pe_one (pe_cmpR op_lt (C8.pe_c c_l_count hr (by decide) (by rfl) (pa_cons (pv 3) (pa_cons (pe_op op_sub (pv 4) pe_int) pa_nil))) (pv 7) (nomark _)))) (nomark _))
      (pss_one (ps_ret pe_bl))
      pss_nil)
    (pss_cons (ps_expr (pe_bm PySem.F.plainAttrs_list PySem.F.slot_list_append PySem.F.type_list_append mt_append (pv 8) (pa_cons pe_str pa_nil)))
    (pss_one (ps_if (pt_cmpR (op_neD hr.units) (C8.pe_c c_event_records hr (by decide) (by rfl) (pa_cons (pv 7) (pa_cons (pv 4) pa_nil))) (pe_lst (pa_cons (pe_tup (pa_cons pe_str (pa_cons (pv 4) (pa_cons (pv 7) pa_nil)))) (pa_cons (pe_tup (pa_cons pe_str (pa_cons (pe_op op_sub (pv 4) pe_int) (pa_cons (pe_op op_sub (pv 7) pe_int) pa_nil)))) pa_nil))) (nomark _))
      (pss_one (ps_ret pe_bl))
      pss_nil)))))))))))))))))
    (pss_one (ps_ret pe_bl)))), ?_⟩
    refine ⟨_, rfl, sc, ns, rfl, hS, fun a H0 hP0 s0 => ?_⟩
    have t0 : LamX.Tabs [(PT, qLamE)] H0 := fun p hp => by
      rw [List.mem_singleton.mp hp]
      exact LamX.TabS.nil (s0 _ _ hPT)
    refine ⟨_, rfl, sc, _, rfl, .inl (s0.seq hS), _, _, rfl, _, _, rfl, rfl, _, rfl, ?_⟩
    obtain ⟨m0, m1⟩ := mn15 ((ns.map V.int).length : Int) (by omega)
    refine ⟨by omega, by omega, ?_⟩
    generalize hnn : (5 + (if ((ns.map V.int).length : Int) < 15 then ((ns.map V.int).length : Int) else 15)) = nn
    have hn20 : nn.toNat ≤ 20 := by omega
    refine for_range (lo := 0) (n := nn.toNat) (fun i σ H1 => ∃ (y2 y3 y4 y5 y6 y7 y8 : Option V), σ = [some (.ref sc), some (.ref a), y2, y3, y4, y5, y6, y7, y8] ∧ Pen H1 a (100 * i) ∧ LamX.Tabs [(PT, qLamE)] H1) ⟨_, _, _, _, _, _, _, rfl, hP0, t0⟩ ?_ ?_
    · rintro i σ H1 hi ⟨y2, y3, y4, y5, y6, y7, y8, rfl, hP1, t1⟩
      have hi7 : i < 20 := by omega
      refine ⟨_, rfl, a, _, rfl, hP1, by omega, fun r H2 p q c R er hP2 f2 => ?_⟩
      have t2 := tabs_fr t1 f2
      -- the time
      refine ⟨_, rfl, _, _, rfl, rfl, ⟨by decide, by decide, by decide⟩, _, _, rfl, rfl, ⟨by decide, by decide, by decide⟩, len10 (by simp), fun O nO => ?_⟩
      refine ⟨_, rfl, a, _, _, rfl, hP2.new nO, by omega, by decide, Bd.small 20 (by decide) (by decide), fun j H3 j0 j1 hP3 f3 => ?_⟩
      have eO := f3.l _ _ (upd_same (H := H2) (a := O) (o := .lst [.int 10, .int (10 ^ (4 : Int).toNat), .int (10 ^ (9 : Int).toNat)]))
      obtain ⟨x, hx, mx⟩ := at_in (xs := [.int 10, .int (10 ^ (4 : Int).toNat), .int (10 ^ (9 : Int).toNat)]) j0 (by show j < 3; omega)
      refine ⟨O, _, _, _, rfl, rfl, SqL.of eO, hx, ?_⟩
      have f3 := (Fr.new nO).trans f3
      obtain ⟨sz, rfl, s1, s2⟩ : ∃ sz : Int, x = .int sz ∧ 1 ≤ sz ∧ sz ≤ 1000000000 := by
        simp only [List.mem_cons, List.not_mem_nil, or_false] at mx
        rcases mx with rfl | rfl | rfl <;> exact ⟨_, rfl, by decide, by decide⟩
      clear mx hx eO
      have bs : ∀ x : Int, x.natAbs < 2 ^ 40 → Bd 100 x := fun x h => Bd.small 40 h (by decide)
      refine ⟨a, _, _, rfl, hP3, by omega, by omega, (bs _ (by omega)).mono (by decide), fun u H4 u0 u1 hP4 f4 => ?_⟩
      refine ⟨_, _, rfl, rfl, ?_⟩
      have f34 := f3.trans f4
      have er := f34.t _ _ er
      have t4 := tabs_fr t2 f34
      have bt : Bd 100 (u - 5) := bs _ (by omega)
      clear f34 f3 f4 f2 t2 t1 hP2 hP3 hP1
      refine ⟨_, rfl, _, rfl, r, p, q, c, u - 5, 100, rfl, er, R, bt, by decide, by decide, ?_⟩
      dsimp only
      generalize u - 5 = t at bt
      have bh : Bd 210 ((p * t + c) / q) := ((Bd.add ((Bd.mul R.bp bt).mono (by decide : 100 + 100 ≤ 205)) (R.bc.mono (by decide))).ediv (by have := R.q1; omega)).mono (by decide)
      generalize hh : (p * t + c) / q = h0 at bh
      -- the word
      refine ⟨len10 (by simp), fun B1 nB => ?_⟩
      refine ⟨_, rfl, a, _, _, rfl, hP4.new nB, by omega, by decide, Bd.small 20 (by decide) (by decide), fun j H5 j0 j1 hP5 f5 => ?_⟩
      have eB := f5.l _ _ (upd_same (H := H4) (a := B1) (o := .lst [.str "at least", .str "at most"]))
      obtain ⟨x, hx, mx⟩ := at_in (xs := [V.str "at least", .str "at most"]) j0 (by show j < 2; omega)
      refine ⟨B1, _, _, _, rfl, rfl, SqL.of eB, hx, ?_⟩
      have f5 := (Fr.new nB).trans f5
      obtain ⟨b, rfl⟩ : ∃ b, x = .str (wd b) := by
        simp only [List.mem_cons, List.not_mem_nil, or_false] at mx
        rcases mx with rfl | rfl
        · exact ⟨true, rfl⟩
        · exact ⟨false, rfl⟩
      have er := f5.t _ _ er
      have t5 := tabs_fr t4 f5
      clear mx hx eB nB f5 hP4 t4
      -- a record, and what is none
      refine ⟨_, rfl, _, rfl, _, rfl, _, rfl, a, _, _, rfl, hP5, by omega, by decide, Bd.small 20 (by decide) (by decide), fun e H6 e0 e1 hP6 f6 => ?_⟩
      refine ⟨_, _, rfl, rfl, len10 (by simp), fun tp ntp => ?_⟩
      have z1 := sm_upd (o := .tup [.str (wd b), .int t, .int (h0 - e)]) ntp
      refine ⟨.ref tp, .tuple [.str (wd b), .int t, .int (h0 - e)], rfl, .tup upd_same (.cons (.str _) (.cons (.int _) (.cons (.int _) .nil))), rg_w b, fun H7 s7 => ?_⟩
      rw [rec_true]
      refine ⟨true, true, rfl, rfl, _, rfl, iteFs (by decide) ?_⟩
      have fz := f6.trans (Fr.same (z1.trans s7))
      refine ⟨_, rfl, a, _, rfl, (hP6.same z1).same s7, by omega, fun x H8 ox hP8 f8 => ?_⟩
      obtain ⟨dx, gx, rg, rb⟩ := ox
      refine ⟨x, dx, rfl, gx, rg, fun H9 s9 => ?_⟩
      rw [rb]
      refine ⟨false, false, rfl, rfl, _, rfl, iteFs (by decide) ?_⟩
      have f9 := fz.trans (f8.trans (Fr.same s9))
      have er := f9.t _ _ er
      have t9 := tabs_fr t5 f9
      have hP9 := (hP8.same s9).mono (show _ ≤ 100 * i + 20 by omega)
      clear z1 fz f8 s9 s7 gx hP8 hP6 hP5 f6 f9 t5
      -- the number
      refine ⟨_, rfl, 1, rfl, _, rfl, a, _, _, rfl, hP9, by omega, by decide, Bd.small 20 (by decide) (by decide), fun e2 H10 e20 e21 hP10 f10 => ?_⟩
      refine ⟨len10 (by simp), fun O2 nO2 => ?_⟩
      refine ⟨_, rfl, a, _, _, rfl, hP10.new nO2, by omega, by decide, Bd.small 20 (by decide) (by decide), fun j H11 j0 j1 hP11 f11 => ?_⟩
      have eO := f11.l _ _ (upd_same (H := H10) (a := O2) (o := .lst [.int 0, .int 0, .int 1, .int (-1), .int e2]))
      obtain ⟨x2, hx, mx⟩ := at_in (xs := [V.int 0, .int 0, .int 1, .int (-1), .int e2]) j0 (by show j < 5; omega)
      refine ⟨O2, _, _, _, rfl, rfl, SqL.of eO, hx, ?_⟩
      obtain ⟨dn, rfl, dn0, dn1⟩ : ∃ dn : Int, x2 = .int dn ∧ -1 ≤ dn ∧ dn ≤ 9 := by
        simp only [List.mem_cons, List.not_mem_nil, or_false] at mx
        rcases mx with rfl | rfl | rfl | rfl | rfl <;> exact ⟨_, rfl, by omega, by omega⟩
      refine ⟨_, _, rfl, rfl, ?_⟩
      have f11 := f10.trans ((Fr.new nO2).trans f11)
      have er := f11.t _ _ er
      have t11 := tabs_fr t9 f11
      have hP11 := hP11.mono (show _ ≤ 100 * i + 30 by omega)
      clear mx hx eO nO2 f10 f11 hP10 hP9 t9
      have bn : Bd 211 (h0 + dn) := Bd.add bh (Bd.small 20 (by omega) (by decide))
      dsimp only
      generalize h0 + dn = n at bn
      have bdC : RcB 300 (cntR t n) := fun d hd => by
        have hd : d ∈ [(⟨true, t, n⟩ : Rec), ⟨false, t, n⟩] := hd
        simp only [List.mem_cons, List.not_mem_nil, or_false] at hd
        rcases hd with rfl | rfl <;> exact ⟨bt.mono (by decide), bn.mono (by decide)⟩
      have bdE : RcB 300 (evtR n t) := fun d hd => by
        have hd : d ∈ [(⟨true, t, n⟩ : Rec), ⟨false, t - 1, n - 1⟩] := hd
        have b1 : Bd 100 (1 : Int) := Bd.small 1 (by decide) (by decide)
        simp only [List.mem_cons, List.not_mem_nil, or_false] at hd
        rcases hd with rfl | rfl
        · exact ⟨bt.mono (by decide), bn.mono (by decide)⟩
        · exact ⟨(Bd.sub bt b1).mono (by decide), (Bd.sub bn (b1.mono (by decide))).mono (by decide)⟩
      -- the records of a count
      refine ⟨_, rfl, _, rfl, t, n, rfl, fun L xs H12 nL eL oL s12 => ?_⟩
      have er := s12 _ _ er
      have t12 := tabs_same t11 s12
      have hP12 := hP11.same s12
      have nL0 := nL
      refine ⟨_, rfl, _, rfl, _, rfl, len10 (by simp), fun r1 n1 => ?_⟩
      have z1 := sm_upd (o := rcO ⟨true, t, n⟩) n1
      refine ⟨_, rfl, _, rfl, len10 (by simp), fun r2 n2 => ?_⟩
      have z2 := sm_upd (o := rcO ⟨false, t, n⟩) n2
      refine ⟨len10 (by simp), fun l nl => ?_⟩
      have z3 := sm_upd (o := .lst [.ref r1, .ref r2]) nl
      have s3 := z1.trans (z2.trans z3)
      have oN : Obs rcO _ [.ref r1, .ref r2] (cntR t n) := .cons ((z2.trans z3) _ _ (upd_same (H := H12) (a := r1) (o := rcO ⟨true, t, n⟩))) (.cons (z3 _ _ (upd_same (a := r2) (o := rcO ⟨false, t, n⟩))) .nil)
      refine ⟨.list ((cntR t n).map rcD), .list ((cntR t n).map rcD), Dp.lst (SqL.of (s3 _ _ eL)) (dp_recs (oL.same s3)), Dp.lst (SqL.of upd_same) (dp_recs oN), sh_recs _, sh_recs _, _, rfl, iteFs (by rw [SeqAt.eqv_refl _ (lay_recs _)]; rfl) ?_⟩
      have eL := s3 _ _ eL
      have oL := oL.same s3
      have er := s3 _ _ er
      have t13 := tabs_same t12 s3
      have hP13 := hP12.same s3
      have f13 := Fr.same (s12.trans s3)
      generalize upd (upd (upd H12 r1 (rcO ⟨true, t, n⟩)) r2 (rcO ⟨false, t, n⟩)) l (.lst [.ref r1, .ref r2]) = H13 at eL oL er t13 hP13 f13 ⊢
      clear oN z1 z2 z3 s3 hP12 t12 s12
      refine ⟨_, rfl, _, rfl, r, L, p, q, c, true, xs, cntR t n, 300, rfl, er, R.mono (by decide), eL, oL, (show 2 ≤ 200 by decide), bdC, by decide, by decide, fun H14 s14 => ?_⟩
      refine ⟨_, rfl, _, rfl, rfl, rfl, _, rfl, iteFs (by
        rw [all_cnt, hh]
        by_cases e : h0 = n
        · subst e
          simp
        · have e' : V.int h0 ≠ V.int n := fun z => e (V.int.inj z)
          simp [e, e']) ?_⟩
      have eL := s14 _ _ eL
      have er := s14 _ _ er
      have t14 := tabs_same t13 s14
      have hP14 := hP13.same s14
      have lx := oL.len
      refine ⟨_, rfl, .inl ⟨rfl, _, SqL.of eL⟩, L, _, _, rfl, rfl, eL, small1000 (by rw [lx]; show 2 ≤ 1000; decide), ?_⟩
      have er : upd H14 L (.lst (xs ++ [.str "more"])) r = some (.tup [.int p, .int q, .int c]) := by
        rw [upd_ne (ne_of er eL (by intro z; cases z))]
        exact er
      have t15 : LamX.Tabs [(PT, qLamE)] (upd H14 L (.lst (xs ++ [.str "more"]))) := tabs_upd t14 eL
      have hP15 : Pen (upd H14 L (.lst (xs ++ [.str "more"]))) a (100 * i + 30) := hP11.over nL hP14
      generalize upd H14 L (.lst (xs ++ [.str "more"])) = H15 at er t15 hP15 ⊢
      clear eL oL hP14 t14 hP13 t13 f13 hP11 t11 nL nL0 lx s14
      -- again
      refine ⟨_, rfl, _, rfl, t, n, rfl, fun L xs H12 nL eL oL s12 => ?_⟩
      refine ⟨_, rfl, _, rfl, len10 (by simp), fun r1 n1 => ?_⟩
      have z1 := sm_upd (o := rcO ⟨true, t, n⟩) n1
      refine ⟨_, rfl, _, rfl, len10 (by simp), fun r2 n2 => ?_⟩
      have z2 := sm_upd (o := rcO ⟨false, t, n⟩) n2
      refine ⟨len10 (by simp), fun l nl => ?_⟩
      have z3 := sm_upd (o := .lst [.ref r1, .ref r2]) nl
      have s3 := z1.trans (z2.trans z3)
      have oN : Obs rcO _ [.ref r1, .ref r2] (cntR t n) := .cons ((z2.trans z3) _ _ (upd_same (H := H12) (a := r1) (o := rcO ⟨true, t, n⟩))) (.cons (z3 _ _ (upd_same (a := r2) (o := rcO ⟨false, t, n⟩))) .nil)
      refine ⟨.list ((cntR t n).map rcD), .list ((cntR t n).map rcD), Dp.lst (SqL.of (s3 _ _ eL)) (dp_recs (oL.same s3)), Dp.lst (SqL.of upd_same) (dp_recs oN), sh_recs _, sh_recs _, _, rfl, iteFs (by rw [SeqAt.eqv_refl _ (lay_recs _)]; rfl) ?_⟩
      have sx := s12.trans s3
      refine ⟨_, rfl, a, _, rfl, hP15.same sx, by omega, tabs_same t15 sx, fun H16 k16 hP16 t16 => ⟨true, rfl, iteF ?_⟩⟩
      have er := k16.t _ _ (sx _ _ er)
      clear oN z1 z2 z3 s3 eL oL sx t15 hP15
      have hP16 := hP16.mono (show _ ≤ 100 * i + 40 by omega)
      -- the records of an event
      refine ⟨_, rfl, _, rfl, n, t, rfl, fun L xs H17 nL eL oL s17 => ?_⟩
      have er := s17 _ _ er
      have t17 := tabs_same t16 s17
      have hP17 := hP16.same s17
      refine ⟨_, rfl, _, rfl, _, rfl, len10 (by simp), fun r1 n1 => ?_⟩
      have z1 := sm_upd (o := rcO ⟨true, t, n⟩) n1
      refine ⟨_, rfl, _, _, rfl, rfl, _, rfl, _, _, rfl, rfl, len10 (by simp), fun r2 n2 => ?_⟩
      have z2 := sm_upd (o := rcO ⟨false, t - 1, n - 1⟩) n2
      refine ⟨len10 (by simp), fun l nl => ?_⟩
      have z3 := sm_upd (o := .lst [.ref r1, .ref r2]) nl
      have s3 := z1.trans (z2.trans z3)
      have oN : Obs rcO _ [.ref r1, .ref r2] (evtR n t) := .cons ((z2.trans z3) _ _ (upd_same (H := H17) (a := r1) (o := rcO ⟨true, t, n⟩))) (.cons (z3 _ _ (upd_same (a := r2) (o := rcO ⟨false, t - 1, n - 1⟩))) .nil)
      refine ⟨.list ((evtR n t).map rcD), .list ((evtR n t).map rcD), Dp.lst (SqL.of (s3 _ _ eL)) (dp_recs (oL.same s3)), Dp.lst (SqL.of upd_same) (dp_recs oN), sh_recs _, sh_recs _, _, rfl, iteFs (by rw [SeqAt.eqv_refl _ (lay_recs _)]; rfl) ?_⟩
      have eL := s3 _ _ eL
      have oL := oL.same s3
      have er := s3 _ _ er
      have t18 := tabs_same t17 s3
      have hP18 := hP17.same s3
      generalize upd (upd (upd H17 r1 (rcO ⟨true, t, n⟩)) r2 (rcO ⟨false, t - 1, n - 1⟩)) l (.lst [.ref r1, .ref r2]) = H18 at eL oL er t18 hP18 ⊢
      clear oN z1 z2 z3 s3 hP17 t17 s17
      refine ⟨fun σ' H' => σ' = [some (.ref sc), some (.ref a), some (.int ((0 : Int) + i)), some (.ref r), some (.int t), some (.int h0), some (.str (wd b)), some (.int n), some (.ref L)] ∧ H' L = some (.lst xs) ∧ H' r = some (.tup [.int p, .int q, .int c]) ∧ LamX.Tabs [(PT, qLamE)] H' ∧ Pen H' a (100 * i + 40), ?_, ?_⟩
      · refine ⟨_, rfl, _, rfl, r, L, p, q, c, true, xs, evtR n t, 300, rfl, er, R.mono (by decide), eL, oL, (show 2 ≤ 200 by decide), bdE, by decide, by decide, fun H19 s19 => ?_⟩
        have eL := s19 _ _ eL
        have er := s19 _ _ er
        have t19 := tabs_same t18 s19
        have hP19 := hP18.same s19
        rw [all_evt, hh]
        have bt1 : Bd 101 (t - 1) := Bd.sub bt (Bd.small 1 (by decide) (by decide))
        refine ⟨_, rfl, _, rfl, _, _, rfl, rfl, _, rfl, ite2 (fun e => ?_) (fun e => ?_)⟩
        · refine ⟨_, rfl, _, rfl, _, _, rfl, rfl, r, p, q, c, t - 1, 101, rfl, er, R.mono (by decide), bt1, by decide, by decide, _, rfl, _, _, rfl, rfl, rfl, _, rfl, iteFs ?_ ⟨rfl, eL, er, t19, hP19⟩⟩
          rw [e, Bool.true_and, decide_eq_true rfl]
          rfl
        · refine ⟨rfl, _, rfl, iteFs ?_ ⟨rfl, eL, er, t19, hP19⟩⟩
          have e : decide (n ≤ h0) = false := by
            cases z : decide (n ≤ h0) with
            | false => rfl
            | true => exact absurd z e
          rw [e]
          rfl
      have lx := oL.len
      clear eL er t18 hP18 oL
      rintro σ H19 ⟨rfl, eL, er, t19, hP19⟩
      refine ⟨_, rfl, .inl ⟨rfl, _, SqL.of eL⟩, L, _, _, rfl, rfl, eL, small1000 (by rw [lx]; show 2 ≤ 1000; decide), ?_⟩
      have er : upd H19 L (.lst (xs ++ [.str "more"])) r = some (.tup [.int p, .int q, .int c]) := by
        rw [upd_ne (ne_of er eL (by intro z; cases z))]
        exact er
      have t20 : LamX.Tabs [(PT, qLamE)] (upd H19 L (.lst (xs ++ [.str "more"]))) := tabs_upd t19 eL
      have hP20 : Pen (upd H19 L (.lst (xs ++ [.str "more"]))) a (100 * i + 40) := hP16.over nL hP19
      generalize upd H19 L (.lst (xs ++ [.str "more"])) = H20 at er t20 hP20 ⊢
      clear eL hP19 t19 nL lx
      refine ⟨_, rfl, _, rfl, n, t, rfl, fun L xs H17 nL eL oL s17 => ?_⟩
      refine ⟨_, rfl, _, rfl, len10 (by simp), fun r1 n1 => ?_⟩
      have z1 := sm_upd (o := rcO ⟨true, t, n⟩) n1
      refine ⟨_, rfl, _, _, rfl, rfl, _, rfl, _, _, rfl, rfl, len10 (by simp), fun r2 n2 => ?_⟩
      have z2 := sm_upd (o := rcO ⟨false, t - 1, n - 1⟩) n2
      refine ⟨len10 (by simp), fun l nl => ?_⟩
      have z3 := sm_upd (o := .lst [.ref r1, .ref r2]) nl
      have s3 := z1.trans (z2.trans z3)
      have oN : Obs rcO _ [.ref r1, .ref r2] (evtR n t) := .cons ((z2.trans z3) _ _ (upd_same (H := H17) (a := r1) (o := rcO ⟨true, t, n⟩))) (.cons (z3 _ _ (upd_same (a := r2) (o := rcO ⟨false, t - 1, n - 1⟩))) .nil)
      refine ⟨.list ((evtR n t).map rcD), .list ((evtR n t).map rcD), Dp.lst (SqL.of (s3 _ _ eL)) (dp_recs (oL.same s3)), Dp.lst (SqL.of upd_same) (dp_recs oN), sh_recs _, sh_recs _, _, rfl, iteFs (by rw [SeqAt.eqv_refl _ (lay_recs _)]; rfl) ?_⟩
      exact ⟨_, _, _, _, _, _, _, rfl, (hP20.same (s17.trans s3)).mono (by omega), tabs_same t20 (s17.trans s3)⟩
    · rintro σ H1 ⟨y2, y3, y4, y5, y6, y7, y8, rfl, hP1, t1⟩
      exact kk _
end
/-! ### what the top has written -/
abbrev sI_InvalidNumber : Stmt := (C8.clsBody (topS 3)).getD 0 (.Pass ⟨0, 0, 0, 0⟩)
theorem iniT_InvalidNumber : IniT "value" (defArgs sI_InvalidNumber) (defBody sI_InvalidNumber) (defScope sI_InvalidNumber) := ⟨⟨_, rfl, rfl⟩, ⟨_, _, _, _, _, _, _, _, _, _, _, _, rfl, _, fun env => rfl⟩, rfl, rfl, rfl, rfl, by decide +kernel, by decide +kernel, rfl, rfl, rfl, by decide +kernel, by decide +kernel, by decide +kernel⟩
theorem all_mk {l : PySem.W.OpenLaw} {w : World} {K : PySem.W.Frag} {h : Heap} {mg : Str → Option Value} {fa : Addr} (X : K.In h) (G : h.Ns mainGlobals mg) (hfa : mg "law" = some (.ref fa)) 
    {f0 f1 f2 f3 f4 f5 f6 f7 f8 f9 f10 f11 f12 f13 f14 f15 f16 f17 f18 f19 : Addr} {od0 an0 od1 an1 od2 an2 od3 an3 od4 an4 od5 an5 od6 an6 od7 an7 od8 an8 od9 an9 od10 an10 od11 an11 od12 an12 od13 an13 od14 an14 od15 an15 od16 an16 od17 an17 od18 an18 od19 an19 : Option Addr} {sl0 sl1 sl2 sl3 sl4 sl5 sl6 sl7 sl8 sl9 sl10 sl11 sl12 sl13 sl14 sl15 sl16 sl17 sl18 sl19 : Array (Option Value)} {oc0 kV0 dc0 pm0 cd0 ct0 oc1 kV1 dc1 pm1 cd1 ct1 oc2 kV2 dc2 pm2 cd2 ct2 oc3 kV3 dc3 pm3 cd3 ct3 oc4 kV4 dc4 pm4 cd4 ct4 oc5 kV5 dc5 pm5 cd5 ct5 oc6 kV6 dc6 pm6 cd6 ct6 oc7 kV7 dc7 pm7 cd7 ct7 oc8 kV8 dc8 pm8 cd8 ct8 oc9 kV9 dc9 pm9 cd9 ct9 oc10 kV10 dc10 pm10 cd10 ct10 oc11 kV11 dc11 pm11 cd11 ct11 oc12 kV12 dc12 pm12 cd12 ct12 oc13 kV13 dc13 pm13 cd13 ct13 oc14 kV14 dc14 pm14 cd14 ct14 oc15 kV15 dc15 pm15 cd15 ct15 oc16 kV16 dc16 pm16 cd16 ct16 oc17 kV17 dc17 pm17 cd17 ct17 oc18 kV18 dc18 pm18 cd18 ct18 oc19 kV19 dc19 pm19 cd19 ct19 : Value}
    (a0 : PySem.W.nsIn K mainGlobals "_law_start" = some (some (.ref f0))) (l0 : K.lookup f0 = some ⟨oc0, od0, .func (PySem.W.fnOf "_law_start" "_law_start" (defArgs s_l_start) (defBody s_l_start) (defScope s_l_start) .none kV0 dc0 pm0 an0 cd0 ct0), sl0⟩) (c0 : PySem.W.codeIn K cd0 "_law_start" = true) (k0 : PySem.W.keepIn K (.ref f0) = true)
    (a1 : PySem.W.nsIn K mainGlobals "_law_draw" = some (some (.ref f1))) (l1 : K.lookup f1 = some ⟨oc1, od1, .func (PySem.W.fnOf "_law_draw" "_law_draw" (defArgs s_l_draw) (defBody s_l_draw) (defScope s_l_draw) .none kV1 dc1 pm1 an1 cd1 ct1), sl1⟩) (c1 : PySem.W.codeIn K cd1 "_law_draw" = true) (k1 : PySem.W.keepIn K (.ref f1) = true)
    (a2 : PySem.W.nsIn K mainGlobals "is_integer" = some (some (.ref f2))) (l2 : K.lookup f2 = some ⟨oc2, od2, .func (PySem.W.fnOf "is_integer" "is_integer" (defArgs s_is_integer) (defBody s_is_integer) (defScope s_is_integer) .none kV2 dc2 pm2 an2 cd2 ct2), sl2⟩) (c2 : PySem.W.codeIn K cd2 "is_integer" = true) (k2 : PySem.W.keepIn K (.ref f2) = true)
    (a3 : PySem.W.nsIn K mainGlobals "check_integer" = some (some (.ref f3))) (l3 : K.lookup f3 = some ⟨oc3, od3, .func (PySem.W.fnOf "check_integer" "check_integer" (defArgs s_check_integer) (defBody s_check_integer) (defScope s_check_integer) .none kV3 dc3 pm3 an3 cd3 ct3), sl3⟩) (c3 : PySem.W.codeIn K cd3 "check_integer" = true) (k3 : PySem.W.keepIn K (.ref f3) = true)
    (a4 : PySem.W.nsIn K mainGlobals "gcd" = some (some (.ref f4))) (l4 : K.lookup f4 = some ⟨oc4, od4, .func (PySem.W.fnOf "gcd" "gcd" (defArgs s_gcd) (defBody s_gcd) (defScope s_gcd) .none kV4 dc4 pm4 an4 cd4 ct4), sl4⟩) (c4 : PySem.W.codeIn K cd4 "gcd" = true) (k4 : PySem.W.keepIn K (.ref f4) = true)
    (a5 : PySem.W.nsIn K mainGlobals "is_rule" = some (some (.ref f5))) (l5 : K.lookup f5 = some ⟨oc5, od5, .func (PySem.W.fnOf "is_rule" "is_rule" (defArgs s_is_rule) (defBody s_is_rule) (defScope s_is_rule) .none kV5 dc5 pm5 an5 cd5 ct5), sl5⟩) (c5 : PySem.W.codeIn K cd5 "is_rule" = true) (k5 : PySem.W.keepIn K (.ref f5) = true)
    (a6 : PySem.W.nsIn K mainGlobals "check_rule" = some (some (.ref f6))) (l6 : K.lookup f6 = some ⟨oc6, od6, .func (PySem.W.fnOf "check_rule" "check_rule" (defArgs s_check_rule) (defBody s_check_rule) (defScope s_check_rule) .none kV6 dc6 pm6 an6 cd6 ct6), sl6⟩) (c6 : PySem.W.codeIn K cd6 "check_rule" = true) (k6 : PySem.W.keepIn K (.ref f6) = true)
    (a7 : PySem.W.nsIn K mainGlobals "is_record" = some (some (.ref f7))) (l7 : K.lookup f7 = some ⟨oc7, od7, .func (PySem.W.fnOf "is_record" "is_record" (defArgs s_is_record) (defBody s_is_record) (defScope s_is_record) .none kV7 dc7 pm7 an7 cd7 ct7), sl7⟩) (c7 : PySem.W.codeIn K cd7 "is_record" = true) (k7 : PySem.W.keepIn K (.ref f7) = true)
    (a8 : PySem.W.nsIn K mainGlobals "check_records" = some (some (.ref f8))) (l8 : K.lookup f8 = some ⟨oc8, od8, .func (PySem.W.fnOf "check_records" "check_records" (defArgs s_check_records) (defBody s_check_records) (defScope s_check_records) .none kV8 dc8 pm8 an8 cd8 ct8), sl8⟩) (c8 : PySem.W.codeIn K cd8 "check_records" = true) (k8 : PySem.W.keepIn K (.ref f8) = true)
    (a9 : PySem.W.nsIn K mainGlobals "fits_record" = some (some (.ref f9))) (l9 : K.lookup f9 = some ⟨oc9, od9, .func (PySem.W.fnOf "fits_record" "fits_record" (defArgs s_fits_record) (defBody s_fits_record) (defScope s_fits_record) .none kV9 dc9 pm9 an9 cd9 ct9), sl9⟩) (c9 : PySem.W.codeIn K cd9 "fits_record" = true) (k9 : PySem.W.keepIn K (.ref f9) = true)
    (a10 : PySem.W.nsIn K mainGlobals "fits" = some (some (.ref f10))) (l10 : K.lookup f10 = some ⟨oc10, od10, .func (PySem.W.fnOf "fits" "fits" (defArgs s_fits) (defBody s_fits) (defScope s_fits) .none kV10 dc10 pm10 an10 cd10 ct10), sl10⟩) (c10 : PySem.W.codeIn K cd10 "fits" = true) (k10 : PySem.W.keepIn K (.ref f10) = true)
    (a11 : PySem.W.nsIn K mainGlobals "_law_divisor" = some (some (.ref f11))) (l11 : K.lookup f11 = some ⟨oc11, od11, .func (PySem.W.fnOf "_law_divisor" "_law_divisor" (defArgs s_l_divisor) (defBody s_l_divisor) (defScope s_l_divisor) .none kV11 dc11 pm11 an11 cd11 ct11), sl11⟩) (c11 : PySem.W.codeIn K cd11 "_law_divisor" = true) (k11 : PySem.W.keepIn K (.ref f11) = true)
    (a12 : PySem.W.nsIn K mainGlobals "_law_rule" = some (some (.ref f12))) (l12 : K.lookup f12 = some ⟨oc12, od12, .func (PySem.W.fnOf "_law_rule" "_law_rule" (defArgs s_l_rule) (defBody s_l_rule) (defScope s_l_rule) .none kV12 dc12 pm12 an12 cd12 ct12), sl12⟩) (c12 : PySem.W.codeIn K cd12 "_law_rule" = true) (k12 : PySem.W.keepIn K (.ref f12) = true)
    (a13 : PySem.W.nsIn K mainGlobals "_law_count" = some (some (.ref f13))) (l13 : K.lookup f13 = some ⟨oc13, od13, .func (PySem.W.fnOf "_law_count" "_law_count" (defArgs s_l_count) (defBody s_l_count) (defScope s_l_count) .none kV13 dc13 pm13 an13 cd13 ct13), sl13⟩) (c13 : PySem.W.codeIn K cd13 "_law_count" = true) (k13 : PySem.W.keepIn K (.ref f13) = true)
    (a14 : PySem.W.nsIn K mainGlobals "count_records" = some (some (.ref f14))) (l14 : K.lookup f14 = some ⟨oc14, od14, .func (PySem.W.fnOf "count_records" "count_records" (defArgs s_count_records) (defBody s_count_records) (defScope s_count_records) .none kV14 dc14 pm14 an14 cd14 ct14), sl14⟩) (c14 : PySem.W.codeIn K cd14 "count_records" = true) (k14 : PySem.W.keepIn K (.ref f14) = true)
    (a15 : PySem.W.nsIn K mainGlobals "event_records" = some (some (.ref f15))) (l15 : K.lookup f15 = some ⟨oc15, od15, .func (PySem.W.fnOf "event_records" "event_records" (defArgs s_event_records) (defBody s_event_records) (defScope s_event_records) .none kV15 dc15 pm15 an15 cd15 ct15), sl15⟩) (c15 : PySem.W.codeIn K cd15 "event_records" = true) (k15 : PySem.W.keepIn K (.ref f15) = true)
    (a16 : PySem.W.nsIn K mainGlobals "_law_refused" = some (some (.ref f16))) (l16 : K.lookup f16 = some ⟨oc16, od16, .func (PySem.W.fnOf "_law_refused" "_law_refused" (defArgs s_l_refused) (defBody s_l_refused) (defScope s_l_refused) .none kV16 dc16 pm16 an16 cd16 ct16), sl16⟩) (c16 : PySem.W.codeIn K cd16 "_law_refused" = true) (k16 : PySem.W.keepIn K (.ref f16) = true)
    (a17 : PySem.W.nsIn K mainGlobals "_law_odd" = some (some (.ref f17))) (l17 : K.lookup f17 = some ⟨oc17, od17, .func (PySem.W.fnOf "_law_odd" "_law_odd" (defArgs s_l_odd) (defBody s_l_odd) (defScope s_l_odd) .none kV17 dc17 pm17 an17 cd17 ct17), sl17⟩) (c17 : PySem.W.codeIn K cd17 "_law_odd" = true) (k17 : PySem.W.keepIn K (.ref f17) = true)
    (a18 : PySem.W.nsIn K mainGlobals "_law_errors_right" = some (some (.ref f18))) (l18 : K.lookup f18 = some ⟨oc18, od18, .func (PySem.W.fnOf "_law_errors_right" "_law_errors_right" (defArgs s_l_errors_right) (defBody s_l_errors_right) (defScope s_l_errors_right) .none kV18 dc18 pm18 an18 cd18 ct18), sl18⟩) (c18 : PySem.W.codeIn K cd18 "_law_errors_right" = true) (k18 : PySem.W.keepIn K (.ref f18) = true)
    (a19 : PySem.W.nsIn K mainGlobals "law" = some (some (.ref f19))) (l19 : K.lookup f19 = some ⟨oc19, od19, .func (PySem.W.fnOf "law" "law" (defArgs s_law) (defBody s_law) (defScope s_law) .none kV19 dc19 pm19 an19 cd19 ct19), sl19⟩) (c19 : PySem.W.codeIn K cd19 "law" = true) (k19 : PySem.W.keepIn K (.ref f19) = true)
    (z0 : PySem.W.nsIn K mainGlobals "len" = some none) (z1 : PySem.W.nsIn K mainGlobals "abs" = some none) (z2 : PySem.W.nsIn K mainGlobals "list" = some none) (z3 : PySem.W.nsIn K mainGlobals "range" = some none) (z4 : PySem.W.nsIn K mainGlobals "sum" = some none) (z5 : PySem.W.nsIn K mainGlobals "repr" = some none) (z6 : PySem.W.nsIn K mainGlobals "max" = some none) (z7 : PySem.W.nsIn K mainGlobals "min" = some none) (z8 : PySem.W.nsIn K mainGlobals "reversed" = some none) (z9 : PySem.W.nsIn K mainGlobals "divmod" = some none) (z10 : PySem.W.nsIn K mainGlobals "isinstance" = some none) (z11 : PySem.W.nsIn K mainGlobals "all" = some none) (z12 : PySem.W.nsIn K mainGlobals "int" = some none) (z13 : PySem.W.nsIn K mainGlobals "bool" = some none) (z14 : PySem.W.nsIn K mainGlobals "tuple" = some none) (z15 : PySem.W.nsIn K mainGlobals "sorted" = some none) (z16 : PySem.W.nsIn K mainGlobals "zip" = some none) (z17 : PySem.W.nsIn K mainGlobals "enumerate" = some none) (z18 : PySem.W.nsIn K mainGlobals "set" = some none) (z19 : PySem.W.nsIn K mainGlobals "str" = some none)
    {vC0 vI0 vD0 vX0 vN0 : Addr} {vnm0 vqn0 : Str} {vbs0 vbm0 vsb0 : List Value} {vsn0 : List Str} {vab0 : Bool} {vcl0 : Option Bool} {vdd0 von0 vcd0 vce0 van0 : Option Addr} {vk00 vk10 vk20 vk30 vk50 : Option Value} {voc0 vkV0 vdc0 vpm0 vct0 vcc0 vce20 : Value} {vsl0 vcs0 vcs20 : Array (Option Value)} {vvs0 : Array Value} {vfl0 : Str} {vtf0 : Tok} (v0_0 : PySem.W.nsIn K mainGlobals "InvalidNumber" = some (some (.ref vC0))) (v0_1 : K.lookup vC0 = some (excClassObj vnm0 vqn0 vC0 vN0 vbs0 vbm0 true vsn0 vsb0 vab0 vcl0 vdd0 vk00 vk10 vk20 vk30 vk50 "ValueError.__new__")) (v0_2 : PySem.HandSPX.refsVE vbm0 = true) (v0_3 : PySem.W.findIn K (.ref vC0) "__setattr__" = some (some (.builtin "object.__setattr__"))) (v0_4 : PySem.W.subIn K (.ref vC0) (.type "BaseException") = some true) (v0_5 : PySem.W.typeIn K (.ref vC0) = some (.type "type")) (v0_6 : PySem.W.keepIn K (.ref vC0) = true) (v0_7 : PySem.W.findIn K (.ref vC0) "__init__" = some (some (.ref vI0))) (v0_8 : K.lookup vI0 = some ⟨voc0, von0, .func (PySem.W.ksFn "__init__" "InvalidNumber.__init__" (defArgs sI_InvalidNumber) (defBody sI_InvalidNumber) (defScope sI_InvalidNumber) .none vkV0 vdc0 vpm0 van0 (.ref vD0) vct0 vX0), vsl0⟩) (v0_9 : PySem.W.codeIn K (.ref vD0) "InvalidNumber.__init__" = true) (v0_10 : K.lookup vD0 = some ⟨vcc0, vcd0, .fields vvs0, vcs0⟩) (v0_11 : vvs0[2]? = some (.str vfl0 vtf0)) (v0_12 : ((l.prog.main.file : Str) == vfl0) = true) (v0_13 : K.lookup vX0 = some ⟨vce20, vce0, .cell (some (.ref vC0)), vcs20⟩) (v0_14 : PySem.W.mroIn K vC0 (.ref vC0) = some true) (v0_15 : PySem.W.ks_superIn K vC0 vC0 "__init__" = some (some (.builtin "ValueError.__init__"))) (v0_16 : PySem.W.subIn K (.ref vC0) (.type "ValueError") = some true) (v0_17 : PySem.W.findIn K (.ref vC0) "value" = some none) (v0_18 : PySem.W.typeIn K (.ref vI0) = some (.type "function")) (v0_19 : PySem.W.findIn K (.ref vC0) "__getattribute__" = some (some (.builtin "BaseException.__getattribute__"))) (v0_20 : PySem.W.findIn K (.ref vC0) "__getattr__" = some none) (v0_21 : PySem.W.hasDictIn K vC0 = true) (v0_22 : PySem.W.findIn K (.ref vC0) "__class__" = some (some (.builtin "object.__class__"))) (v0_23 : PySem.W.mroIn K vC0 (.type "object") = some true) (v0_24 : PySem.W.subIn K (.ref vC0) (.ref vC0) = some true) (vu0 : PySem.W.nsIn K cStatics "thirdparty.any" = some none) (vu1 : PySem.W.specialIn K (.builtin "object.__class__") "__get__" = some (some (.builtin "getset_descriptor.__get__"))) (vu2 : PySem.W.takesIn K (.builtin "object.__class__") = some true) (vu3 : (l.prog.main.scope.names.lookup ("super" : Str)).isSome = false) (vu4 : PySem.W.nsIn K mainGlobals "super" = some none)
    {cL PT : Addr} {eL : Value} {dL : Option Addr} {vL : Array Value} {sL : Array (Option Value)}
    {tM : Tok} (xM : PySem.W.nsIn K mainGlobals "MOST_RECORDS" = some (some (.int 200 tM)))
    (v0 : cd18 = .ref cL) (v1 : K.lookup cL = some ⟨eL, dL, .fields vL, sL⟩) (v2 : vL[11]? = some (.ref PT)) (v3 : K.lookup PT = none) (v4 : PySem.W.codeHdIn K cL PT = true) (v5 : h.get? PT = some { cls := .none, data := .fields #[] }) :
    LawGT l w K 8 "_law_script" mg fa h := by
  have e := hfa.symm.trans (PySem.W.mg_of X G a19)
  cases e
  subst v0
  have B : Bi mg := ⟨PySem.W.mg_none_of X G z0, PySem.W.mg_none_of X G z1, PySem.W.mg_none_of X G z2, PySem.W.mg_none_of X G z3, PySem.W.mg_none_of X G z4, PySem.W.mg_none_of X G z5, PySem.W.mg_none_of X G z6, PySem.W.mg_none_of X G z7, PySem.W.mg_none_of X G z8, PySem.W.mg_none_of X G z9, PySem.W.mg_none_of X G z10, PySem.W.mg_none_of X G z11, PySem.W.mg_none_of X G z12, PySem.W.mg_none_of X G z13, PySem.W.mg_none_of X G z14, PySem.W.mg_none_of X G z15, PySem.W.mg_none_of X G z16, PySem.W.mg_none_of X G z17, PySem.W.mg_none_of X G z18, PySem.W.mg_none_of X G z19⟩
  have U : Bc mg := ⟨⟨tM, PySem.W.mg_of X G xM⟩⟩
  have V_InvalidNumber : ValC l.prog K mg vC0 "InvalidNumber" "value" := ⟨PySem.W.mg_of X G v0_0, ⟨vI0, vD0, vX0, "InvalidNumber.__init__", defArgs sI_InvalidNumber, defBody sI_InvalidNumber, defScope sI_InvalidNumber, vkV0, vdc0, vpm0, vct0, voc0, van0, von0, vsl0, v0_8, v0_9, iniT_InvalidNumber, ⟨⟨⟨vnm0, vqn0, vN0, vbs0, vbm0, vsn0, vsb0, vab0, vcl0, vdd0, vk00, vk10, vk20, vk30, vk50, v0_1, v0_2⟩, v0_3, v0_4, v0_5, v0_6⟩, ⟨_, _, _, _, _, _, v0_10, v0_11, v0_12⟩, ⟨_, _, _, v0_13⟩, v0_14, vu0, v0_15, v0_16, v0_17, vu3⟩, v0_7, v0_18, .all fun us hl => match us, hl with | [_, _], _ => rfl⟩, PySem.W.mg_none_of X G vu4, ⟨v0_19, v0_20, v0_4, v0_21, v0_22, vu1, vu2, v0_23⟩, v0_24⟩
  have F0 := fun_mk (st := s_l_start) l0 c0 k0
  have D_l_start : Df K mg "_law_start" s_l_start P_l_start := ⟨f0, _, F0, PySem.W.mg_of X G a0, F0.binds fun _ _ _ _ _ _ us hl => match us, hl with | [_], _ => rfl⟩
  have F1 := fun_mk (st := s_l_draw) l1 c1 k1
  have D_l_draw : Df K mg "_law_draw" s_l_draw P_l_draw := ⟨f1, _, F1, PySem.W.mg_of X G a1, F1.binds fun _ _ _ _ _ _ us hl => match us, hl with | [_, _], _ => rfl⟩
  have F2 := fun_mk (st := s_is_integer) l2 c2 k2
  have D_is_integer : Df K mg "is_integer" s_is_integer P_is_integer := ⟨f2, _, F2, PySem.W.mg_of X G a2, F2.binds fun _ _ _ _ _ _ us hl => match us, hl with | [_], _ => rfl⟩
  have F3 := fun_mk (st := s_check_integer) l3 c3 k3
  have D_check_integer : Df K mg "check_integer" s_check_integer P_check_integer := ⟨f3, _, F3, PySem.W.mg_of X G a3, F3.binds fun _ _ _ _ _ _ us hl => match us, hl with | [_], _ => rfl⟩
  have F4 := fun_mk (st := s_gcd) l4 c4 k4
  have D_gcd : Df K mg "gcd" s_gcd P_gcd := ⟨f4, _, F4, PySem.W.mg_of X G a4, F4.binds fun _ _ _ _ _ _ us hl => match us, hl with | [_, _], _ => rfl⟩
  have F5 := fun_mk (st := s_is_rule) l5 c5 k5
  have D_is_rule : Df K mg "is_rule" s_is_rule P_is_rule := ⟨f5, _, F5, PySem.W.mg_of X G a5, F5.binds fun _ _ _ _ _ _ us hl => match us, hl with | [_], _ => rfl⟩
  have F6 := fun_mk (st := s_check_rule) l6 c6 k6
  have D_check_rule : Df K mg "check_rule" s_check_rule P_check_rule := ⟨f6, _, F6, PySem.W.mg_of X G a6, F6.binds fun _ _ _ _ _ _ us hl => match us, hl with | [_], _ => rfl⟩
  have F7 := fun_mk (st := s_is_record) l7 c7 k7
  have D_is_record : Df K mg "is_record" s_is_record P_is_record := ⟨f7, _, F7, PySem.W.mg_of X G a7, F7.binds fun _ _ _ _ _ _ us hl => match us, hl with | [_], _ => rfl⟩
  have F8 := fun_mk (st := s_check_records) l8 c8 k8
  have D_check_records : Df K mg "check_records" s_check_records P_check_records := ⟨f8, _, F8, PySem.W.mg_of X G a8, F8.binds fun _ _ _ _ _ _ us hl => match us, hl with | [_], _ => rfl⟩
  have F9 := fun_mk (st := s_fits_record) l9 c9 k9
  have D_fits_record : Df K mg "fits_record" s_fits_record P_fits_record := ⟨f9, _, F9, PySem.W.mg_of X G a9, F9.binds fun _ _ _ _ _ _ us hl => match us, hl with | [_, _], _ => rfl⟩
  have F10 := fun_mk (st := s_fits) l10 c10 k10
  have D_fits : Df K mg "fits" s_fits P_fits := ⟨f10, _, F10, PySem.W.mg_of X G a10, F10.binds fun _ _ _ _ _ _ us hl => match us, hl with | [_, _], _ => rfl⟩
  have F11 := fun_mk (st := s_l_divisor) l11 c11 k11
  have D_l_divisor : Df K mg "_law_divisor" s_l_divisor P_l_divisor := ⟨f11, _, F11, PySem.W.mg_of X G a11, F11.binds fun _ _ _ _ _ _ us hl => match us, hl with | [_, _], _ => rfl⟩
  have F12 := fun_mk (st := s_l_rule) l12 c12 k12
  have D_l_rule : Df K mg "_law_rule" s_l_rule P_l_rule := ⟨f12, _, F12, PySem.W.mg_of X G a12, F12.binds fun _ _ _ _ _ _ us hl => match us, hl with | [_], _ => rfl⟩
  have F13 := fun_mk (st := s_l_count) l13 c13 k13
  have D_l_count : Df K mg "_law_count" s_l_count P_l_count := ⟨f13, _, F13, PySem.W.mg_of X G a13, F13.binds fun _ _ _ _ _ _ us hl => match us, hl with | [_, _], _ => rfl⟩
  have F14 := fun_mk (st := s_count_records) l14 c14 k14
  have D_count_records : Df K mg "count_records" s_count_records P_count_records := ⟨f14, _, F14, PySem.W.mg_of X G a14, F14.binds fun _ _ _ _ _ _ us hl => match us, hl with | [_, _], _ => rfl⟩
  have F15 := fun_mk (st := s_event_records) l15 c15 k15
  have D_event_records : Df K mg "event_records" s_event_records P_event_records := ⟨f15, _, F15, PySem.W.mg_of X G a15, F15.binds fun _ _ _ _ _ _ us hl => match us, hl with | [_, _], _ => rfl⟩
  have F16 := fun_mk (st := s_l_refused) l16 c16 k16
  have D_l_refused : Df K mg "_law_refused" s_l_refused P_l_refused := ⟨f16, _, F16, PySem.W.mg_of X G a16, F16.binds fun _ _ _ _ _ _ us hl => match us, hl with | [_], _ => rfl⟩
  have F17 := fun_mk (st := s_l_odd) l17 c17 k17
  have D_l_odd : Df K mg "_law_odd" s_l_odd P_l_odd := ⟨f17, _, F17, PySem.W.mg_of X G a17, F17.binds fun _ _ _ _ _ _ us hl => match us, hl with | [_], _ => rfl⟩
  have F18 := fun_mk (st := s_l_errors_right) l18 c18 k18
  have D_l_errors_right : Df K mg "_law_errors_right" s_l_errors_right P_l_errors_right := ⟨f18, _, F18, PySem.W.mg_of X G a18, F18.binds fun _ _ _ _ _ _ us hl => match us, hl with | [_], _ => rfl⟩
  have F19 := fun_mk (st := s_law) l19 c19 k19
  refine ⟨PySem.W.fnOf "law" "law" (defArgs s_law) (defBody s_law) (defScope s_law) .none kV19 dc19 pm19 an19 cd19 ct19, cL, PT, spLawT K PT, v5, v3, PySem.W.codeHd_of_K X v4, fun s v => .of_eq rfl, fun H a ns hl ht hS => ⟨a, ns, rfl, hS, hl, ht, fun _ => rfl⟩, fun base _ _ TB => ?_⟩
  have T := V_InvalidNumber
  have c_l_start := ok_l_start (P := l.prog) (w := w) (base := base) D_l_start B
  have c_l_draw := ok_l_draw (P := l.prog) (w := w) (base := base) D_l_draw B
  have cA_is_integer := okA_is_integer (P := l.prog) (w := w) (base := base) D_is_integer B
  have c_is_integer := ok_is_integer (P := l.prog) (w := w) (base := base) D_is_integer B
  have cx_check_integer := okx_check_integer (P := l.prog) (w := w) (base := base) D_check_integer V_InvalidNumber cA_is_integer
  have c_check_integer := ok_check_integer (P := l.prog) (w := w) (base := base) D_check_integer c_is_integer
  have c_gcd := ok_gcd (P := l.prog) (w := w) (base := base) D_gcd
  have cA_is_rule := okA_is_rule (P := l.prog) (w := w) (base := base) D_is_rule B cA_is_integer c_gcd
  have c_is_rule := ok_is_rule (P := l.prog) (w := w) (base := base) D_is_rule B c_is_integer c_gcd
  have c_check_rule := ok_check_rule (P := l.prog) (w := w) (base := base) D_check_rule c_is_rule
  have cA_is_record := okA_is_record (P := l.prog) (w := w) (base := base) D_is_record B cA_is_integer
  have c_is_record := ok_is_record (P := l.prog) (w := w) (base := base) D_is_record B c_is_integer
  have c_check_records := okS_check_records (P := l.prog) (w := w) (base := base) D_check_records B U c_is_record
  have c_fits_record := ok_fits_record (P := l.prog) (w := w) (base := base) D_fits_record
  have c_fits := okS_fits (P := l.prog) (w := w) (base := base) D_fits B c_check_rule c_check_records c_fits_record
  have c_l_divisor := ok_l_divisor (P := l.prog) (w := w) (base := base) D_l_divisor
  have c_l_rule := ok_l_rule (P := l.prog) (w := w) (base := base) D_l_rule B c_l_draw c_l_divisor
  have c_l_count := ok_l_count (P := l.prog) (w := w) (base := base) D_l_count
  have cx_count_records := okx_count_records (P := l.prog) (w := w) (base := base) D_count_records cx_check_integer
  have c_count_records := ok_count_records (P := l.prog) (w := w) (base := base) D_count_records c_check_integer
  have cx_event_records := okx_event_records (P := l.prog) (w := w) (base := base) D_event_records cx_check_integer
  have c_event_records := ok_event_records (P := l.prog) (w := w) (base := base) D_event_records c_check_integer
  have c_l_odd := ok_l_odd (P := l.prog) (w := w) (base := base) D_l_odd c_l_draw
  have FQ := ok_err (P := l.prog) (w := w) (base := base) l18 c18 TB T B D_l_refused c_l_draw cx_count_records cx_event_records
  exact ok_law F19 FQ (PySem.W.mg_of X G a18) k18 (F18.binds fun _ _ _ _ _ _ us hl => match us, hl with | [_], _ => rfl) B c_l_start c_l_draw c_l_rule c_l_count c_l_odd cA_is_record c_count_records c_event_records c_fits
end Lf
open PySem PySem.W PyProof.Rows
set_option maxRecDepth 100000 in
set_option maxHeartbeats 0 in
theorem PySem.Challenge.cw_leapfit_k01_records_holds : PySem.Challenge.rw_leapfit_k01_records.Holds := by
  w_on; o_law; k_head; (case hw => w_witness2)
  k_fill
  refine Lf.walkGT (l := PySem.Challenge.rw_leapfit_k01_records) (k := 8) (x := "_law_script") rfl rfl ⟨rfl, by decide, by decide⟩ (fun w h Y => PySem.W.km_in_of Y) ?F
  case F =>
    intro w mg fa h Y KX G hmg
    refine' Lf.all_mk KX G hmg ?a0 ?l0 ?c0 ?k0 ?a1 ?l1 ?c1 ?k1 ?a2 ?l2 ?c2 ?k2 ?a3 ?l3 ?c3 ?k3 ?a4 ?l4 ?c4 ?k4 ?a5 ?l5 ?c5 ?k5 ?a6 ?l6 ?c6 ?k6 ?a7 ?l7 ?c7 ?k7 ?a8 ?l8 ?c8 ?k8 ?a9 ?l9 ?c9 ?k9 ?a10 ?l10 ?c10 ?k10 ?a11 ?l11 ?c11 ?k11 ?a12 ?l12 ?c12 ?k12 ?a13 ?l13 ?c13 ?k13 ?a14 ?l14 ?c14 ?k14 ?a15 ?l15 ?c15 ?k15 ?a16 ?l16 ?c16 ?k16 ?a17 ?l17 ?c17 ?k17 ?a18 ?l18 ?c18 ?k18 ?a19 ?l19 ?c19 ?k19 ?z0 ?z1 ?z2 ?z3 ?z4 ?z5 ?z6 ?z7 ?z8 ?z9 ?z10 ?z11 ?z12 ?z13 ?z14 ?z15 ?z16 ?z17 ?z18 ?z19 ?v0_0 ?v0_1 ?v0_2 ?v0_3 ?v0_4 ?v0_5 ?v0_6 ?v0_7 ?v0_8 ?v0_9 ?v0_10 ?v0_11 ?v0_12 ?v0_13 ?v0_14 ?v0_15 ?v0_16 ?v0_17 ?v0_18 ?v0_19 ?v0_20 ?v0_21 ?v0_22 ?v0_23 ?v0_24 ?vu0 ?vu1 ?vu2 ?vu3 ?vu4 ?xM ?v0 ?v1 ?v2 ?v3 ?v4 ?v5
    (case a0 => k_is); (case l0 => k_is); (case c0 => k_is); (case k0 => k_is)
    (case a1 => k_is); (case l1 => k_is); (case c1 => k_is); (case k1 => k_is)
    (case a2 => k_is); (case l2 => k_is); (case c2 => k_is); (case k2 => k_is)
    (case a3 => k_is); (case l3 => k_is); (case c3 => k_is); (case k3 => k_is)
    (case a4 => k_is); (case l4 => k_is); (case c4 => k_is); (case k4 => k_is)
    (case a5 => k_is); (case l5 => k_is); (case c5 => k_is); (case k5 => k_is)
    (case a6 => k_is); (case l6 => k_is); (case c6 => k_is); (case k6 => k_is)
    (case a7 => k_is); (case l7 => k_is); (case c7 => k_is); (case k7 => k_is)
    (case a8 => k_is); (case l8 => k_is); (case c8 => k_is); (case k8 => k_is)
    (case a9 => k_is); (case l9 => k_is); (case c9 => k_is); (case k9 => k_is)
    (case a10 => k_is); (case l10 => k_is); (case c10 => k_is); (case k10 => k_is)
    (case a11 => k_is); (case l11 => k_is); (case c11 => k_is); (case k11 => k_is)
    (case a12 => k_is); (case l12 => k_is); (case c12 => k_is); (case k12 => k_is)
    (case a13 => k_is); (case l13 => k_is); (case c13 => k_is); (case k13 => k_is)
    (case a14 => k_is); (case l14 => k_is); (case c14 => k_is); (case k14 => k_is)
    (case a15 => k_is); (case l15 => k_is); (case c15 => k_is); (case k15 => k_is)
    (case a16 => k_is); (case l16 => k_is); (case c16 => k_is); (case k16 => k_is)
    (case a17 => k_is); (case l17 => k_is); (case c17 => k_is); (case k17 => k_is)
    (case a18 => k_is); (case l18 => k_is); (case c18 => k_is); (case k18 => k_is)
    (case a19 => k_is); (case l19 => k_is); (case c19 => k_is); (case k19 => k_is)
    (case z0 => k_is); (case z1 => k_is); (case z2 => k_is); (case z3 => k_is); (case z4 => k_is); (case z5 => k_is); (case z6 => k_is); (case z7 => k_is); (case z8 => k_is); (case z9 => k_is); (case z10 => k_is); (case z11 => k_is); (case z12 => k_is); (case z13 => k_is); (case z14 => k_is); (case z15 => k_is); (case z16 => k_is); (case z17 => k_is); (case z18 => k_is); (case z19 => k_is)
    (case v0_0 => k_is)
    (case v0_1 => k_is)
    (case v0_2 => first | rfl | decide +kernel)
    (case v0_3 => k_is)
    (case v0_4 => k_is)
    (case v0_5 => k_is)
    (case v0_6 => k_is)
    (case v0_7 => k_is)
    (case v0_8 => k_is)
    (case v0_9 => k_is)
    (case v0_10 => k_is)
    (case v0_11 => first | rfl | k_is)
    (case v0_12 => first | rfl | decide +kernel)
    (case v0_13 => k_is)
    (case v0_14 => first | k_is | kernel_rfl)
    (case v0_15 => kernel_rfl)
    (case v0_16 => k_is)
    (case v0_17 => k_is)
    (case v0_18 => k_is)
    (case v0_19 => k_is)
    (case v0_20 => k_is)
    (case v0_21 => k_is)
    (case v0_22 => k_is)
    (case v0_23 => k_is)
    (case v0_24 => first | rfl | k_is)
    (case vu0 => k_is)
    (case vu1 => k_is)
    (case vu2 => k_is)
    (case vu3 => first | rfl | decide +kernel)
    (case vu4 => k_is)
    (case xM => k_is)
    (case v0 => first | rfl | k_is); (case v1 => k_is); (case v2 => first | rfl | k_is); (case v3 => kernel_rfl); (case v4 => kernel_rfl); (case v5 => exact PySem.W.km_tabs_of Y _ (by decide))
