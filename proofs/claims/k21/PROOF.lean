import PyProof.Rows.All
import Wide.All
import OpenK.AllK
import Wide.FinOn
import HandS.ForMost
import HandS.Codes
import HandS.Wide
import HandS.WideBits
import HandS.IsInst
import HandS.RaiseMore
import HandS.Style
import HandS.NoneIn
import HandS.TupMul
import HandS.TupAny
import HandS.Walk
import HandS.SetFor
import HandS.Strs
import KE.LtSeq
import HandS.Conv
import HandS.Exc
import HandS.TryOnly
import HandS.ExcOwn
import HandS.ExcIs
import HandS.WordsExc
import HandS.Lambda
import HandS.EndTab
import HandS.EndOwn
import KE.KNestM
import HandS.ExcInit
import HandS.ExcField
import KE.KExcSuper
import KE.KExcIs
import HandS.Defaults
import KE.DatumOrd
import KE.SortData
import KE.SortKeyHeap
import KE.KSortKey
import KE.GoesMore
import HandS.SortInts
import HandS.Deep
import HandS.Evl
import HandS.SortKw
import HandS.RevRange
import HandS.TupLe
import PySem.Challenge.RW_leapfit_k21_certificates_of_unevenness
set_option Elab.async false
set_option linter.all false
set_option maxRecDepth 100000
set_option maxHeartbeats 4000000
set_option linter.all false
namespace Lf
/-! ### sums of rounded quotients -/
def fs : Nat → Int → Int → Int → Int
  | 0, _, _, _ => 0
  | n + 1, a, b, m => fs n a b m + (a * n + b) / m
def tri (n : Int) : Int := n * (n - 1) / 2
theorem tri_succ (n : Int) : tri (n + 1) = tri n + n := by
  unfold tri
  rw [show (n + 1) * (n + 1 - 1) = n * (n - 1) + n * 2 by
    rw [Int.add_sub_cancel, Int.mul_sub, Int.add_mul]; omega]
  rw [Int.add_mul_ediv_right _ _ (by decide)]
theorem tri_zero : tri 0 = 0 := rfl
theorem div_shift (x k m : Int) (h : 0 < m) : (x + m * k) / m = x / m + k := by
  rw [Int.add_mul_ediv_left _ _ (by omega)]
theorem fs_red (n : Nat) (a b m : Int) (h : 0 < m) : fs n a b m = fs n (a % m) b m + a / m * tri n := by
  induction n with
  | zero => simp [fs, tri_zero]
  | succ n ih =>
    show fs n a b m + (a * n + b) / m = fs n (a % m) b m + (a % m * n + b) / m + a / m * tri ((n + 1 : Nat) : Int)
    have e : a * n + b = (a % m * n + b) + m * (a / m * n) := by
      have q := Int.emod_add_mul_ediv a m
      have q2 : a * n = (a % m + m * (a / m)) * n := by rw [q]
      rw [q2, Int.add_mul, Int.mul_assoc]; omega
    rw [e, div_shift _ _ _ h, ih, Int.natCast_add, Int.natCast_one, tri_succ, Int.mul_add]
    omega
theorem fs_redb (n : Nat) (a b m : Int) (h : 0 < m) : fs n a b m = fs n a (b % m) m + b / m * n := by
  induction n with
  | zero => simp [fs]
  | succ n ih =>
    show fs n a b m + (a * n + b) / m = fs n a (b % m) m + (a * n + b % m) / m + b / m * ((n + 1 : Nat) : Int)
    have e : a * n + b = (a * n + b % m) + m * (b / m) := by
      have q := Int.emod_add_mul_ediv b m
      omega
    rw [e, div_shift _ _ _ h, ih, Int.natCast_add, Int.natCast_one, Int.mul_add, Int.mul_one]
    omega
/-- each term of the second sum grows by one when its offset grows by its divisor -/
theorem fs_up (n : Nat) (a b m : Int) (h : 0 < m) : fs n a (b + m) m = fs n a b m + n := by
  induction n with
  | zero => simp [fs]
  | succ n ih =>
    show fs n a (b + m) m + (a * n + (b + m)) / m = fs n a b m + (a * n + b) / m + ((n + 1 : Nat) : Int)
    rw [show a * n + (b + m) = (a * n + b) + m * 1 by omega, div_shift _ _ _ h, ih]
    omega
/-- the first term apart -/
theorem fs_first (n : Nat) (a b m : Int) : fs (n + 1) a b m = b / m + fs n a (b + a) m := by
  induction n with
  | zero => show 0 + (a * ((0 : Nat) : Int) + b) / m = b / m + 0; simp
  | succ n ih =>
    show fs (n + 1) a b m + (a * ((n + 1 : Nat) : Int) + b) / m = b / m + (fs n a (b + a) m + (a * n + (b + a)) / m)
    rw [ih, show a * ((n + 1 : Nat) : Int) + b = a * n + (b + a) by
      rw [Int.natCast_add, Int.natCast_one, Int.mul_add]; omega]
    omega
theorem fs_swap (n : Nat) (a b m : Int) (ha : 0 < a) (ham : a < m) (hb : 0 ≤ b) (hbm : b < m) :
    fs n a b m = fs ((a * n + b) / m).toNat m ((a * n + b) % m) a := by
  induction n with
  | zero =>
    have e : (a * ((0 : Nat) : Int) + b) / m = 0 := by
      rw [show a * ((0 : Nat) : Int) + b = b by simp]
      exact Int.ediv_eq_zero_of_lt hb hbm
    rw [e]; rfl
  | succ n ih =>
    show fs n a b m + (a * n + b) / m = fs ((a * ((n + 1 : Nat) : Int) + b) / m).toNat m ((a * ((n + 1 : Nat) : Int) + b) % m) a
    rw [ih]
    have hm : 0 < m := by omega
    have hy : 0 ≤ a * n + b := by
      have := Int.mul_nonneg (Int.le_of_lt ha) (Int.natCast_nonneg n); omega
    generalize hyd : a * (n : Int) + b = y at hy
    have e : a * ((n + 1 : Nat) : Int) + b = y + a := by
      rw [Int.natCast_add, Int.natCast_one, Int.mul_add]; omega
    rw [e]
    have hq : 0 ≤ y / m := Int.ediv_nonneg hy (by omega)
    have hr0 : 0 ≤ y % m := Int.emod_nonneg _ (by omega)
    have hr1 : y % m < m := Int.emod_lt_of_pos _ hm
    have hd := Int.emod_add_mul_ediv y m
    generalize y / m = q at *
    generalize y % m = r at *
    by_cases hc : r + a < m
    · have e1 : (y + a) / m = q := by
        rw [show y + a = (r + a) + m * q by omega, div_shift _ _ _ hm, Int.ediv_eq_zero_of_lt (by omega) hc]
        omega
      have e2 : (y + a) % m = r + a := by
        have := Int.emod_add_mul_ediv (y + a) m
        rw [e1] at this
        omega
      rw [e1, e2, fs_up _ _ _ _ ha]
      omega
    · have e1 : (y + a) / m = q + 1 := by
        rw [show y + a = (r + a - m) + m * (q + 1) by rw [Int.mul_add]; omega, div_shift _ _ _ hm, Int.ediv_eq_zero_of_lt (by omega) (by omega)]
        omega
      have e2 : (y + a) % m = r + a - m := by
        have := Int.emod_add_mul_ediv (y + a) m
        rw [e1, Int.mul_add] at this
        omega
      rw [e1, e2, show (q + 1).toNat = q.toNat + 1 by omega, fs_first, Int.ediv_eq_zero_of_lt (by omega) (by omega), show r + a - m + m = r + a by omega, fs_up _ _ _ _ ha]
      omega
/-- a whole turn of the loop -/
theorem fs_turn (n a b m : Int) (hn : 0 ≤ n) (hm : 0 < m) :
    fs n.toNat a b m = a / m * tri n + b / m * n + fs ((a % m * n + b % m) / m).toNat m ((a % m * n + b % m) % m) (a % m) := by
  have h1 := fs_red n.toNat a b m hm
  have h2 := fs_redb n.toNat (a % m) b m hm
  have en : ((n.toNat : Nat) : Int) = n := by omega
  rw [en] at h1 h2
  have ha0 : 0 ≤ a % m := Int.emod_nonneg _ (by omega)
  have ha1 : a % m < m := Int.emod_lt_of_pos _ hm
  have hb0 : 0 ≤ b % m := Int.emod_nonneg _ (by omega)
  have hb1 : b % m < m := Int.emod_lt_of_pos _ hm
  by_cases hz : a % m = 0
  · have e0 : (a % m * n + b % m) / m = 0 := by
      rw [hz, Int.zero_mul, Int.zero_add]
      exact Int.ediv_eq_zero_of_lt hb0 hb1
    have z : fs n.toNat (a % m) (b % m) m = 0 := by
      rw [hz]
      have : ∀ k : Nat, fs k 0 (b % m) m = 0 := fun k => by
        induction k with
        | zero => rfl
        | succ k ih =>
          show fs k 0 (b % m) m + (0 * (k : Int) + b % m) / m = 0
          rw [ih, Int.zero_mul, Int.zero_add, Int.zero_add]
          exact Int.ediv_eq_zero_of_lt hb0 hb1
      exact this _
    rw [e0]
    show _ = _ + fs 0 m _ _
    have e3 : fs 0 m ((a % m * n + b % m) % m) (a % m) = 0 := rfl
    have e4 : (0 : Int).toNat = 0 := rfl
    rw [e3, h1, h2, z]
    omega
  · have h3 := fs_swap n.toNat (a % m) (b % m) m (by omega) ha1 hb0 hb1
    rw [en] at h3
    rw [h1, h2, h3]
    omega
theorem turn_le (n a b m : Int) (hn : 0 < n) (hm : 0 < m) : (a % m * n + b % m) / m ≤ n ∧ 0 ≤ (a % m * n + b % m) / m := by
  have ha0 : 0 ≤ a % m := Int.emod_nonneg _ (by omega)
  have ha1 : a % m < m := Int.emod_lt_of_pos _ hm
  have hb0 : 0 ≤ b % m := Int.emod_nonneg _ (by omega)
  have hb1 : b % m < m := Int.emod_lt_of_pos _ hm
  have h0 : 0 ≤ a % m * n := Int.mul_nonneg ha0 (by omega)
  refine ⟨?_, Int.ediv_nonneg (by omega) (by omega)⟩
  have h1 : a % m * n ≤ (m - 1) * n := Int.mul_le_mul_of_nonneg_right (by omega) (by omega)
  rw [Int.sub_mul, Int.one_mul] at h1
  have h2 : (a % m * n + b % m) / m < n + 1 := by
    apply Int.ediv_lt_of_lt_mul hm
    rw [Int.add_mul, Int.one_mul, Int.mul_comm n m]
    omega
  omega
theorem turn_zero (n a b m : Int) (hm : 0 < m) (hz : a % m = 0) : (a % m * n + b % m) / m = 0 := by
  rw [hz, Int.zero_mul, Int.zero_add]
  exact Int.ediv_eq_zero_of_lt (Int.emod_nonneg _ (by omega)) (Int.emod_lt_of_pos _ hm)
/-! ### sizes -/
def Bd (k : Nat) (i : Int) : Prop := i.natAbs < 2 ^ k
theorem Bd.mono {k j : Nat} {i : Int} (h : Bd k i) (e : k ≤ j) : Bd j i := Nat.lt_of_lt_of_le h (Nat.pow_le_pow_right (by decide) e)
theorem Bd.le {k : Nat} {i j : Int} (h : Bd k j) (e : i.natAbs ≤ j.natAbs) : Bd k i := Nat.lt_of_le_of_lt e h
theorem Bd.mul {k j : Nat} {x y : Int} (h : Bd k x) (h2 : Bd j y) : Bd (k + j) (x * y) := by
  unfold Bd
  rw [Int.natAbs_mul, Nat.pow_add]
  exact Nat.mul_lt_mul'' h h2
theorem Bd.add {k : Nat} {x y : Int} (h : Bd k x) (h2 : Bd k y) : Bd (k + 1) (x + y) := by
  unfold Bd at *
  rw [Nat.pow_succ]
  omega
theorem Bd.sub {k : Nat} {x y : Int} (h : Bd k x) (h2 : Bd k y) : Bd (k + 1) (x - y) := by
  unfold Bd at *
  rw [Nat.pow_succ]
  omega
theorem Bd.neg {k : Nat} {x : Int} (h : Bd k x) : Bd k (-x) := by
  unfold Bd at *
  omega
theorem Bd.ediv {k : Nat} {x m : Int} (h : Bd k x) (hm : 0 < m) : Bd k (x / m) := by
  refine h.le ?_
  rcases Int.lt_or_le x 0 with hx | hx
  · have h1 : x / m < 0 := Int.ediv_neg_of_neg_of_pos hx hm
    have h2 : x ≤ x / m := by
      apply Int.le_ediv_of_mul_le hm
      have : (-x) * 1 ≤ (-x) * m := Int.mul_le_mul_of_nonneg_left (by omega) (by omega)
      rw [Int.neg_mul, Int.neg_mul, Int.mul_one] at this
      omega
    omega
  · have h1 : 0 ≤ x / m := Int.ediv_nonneg hx (by omega)
    have h2 : x / m ≤ x := Int.ediv_le_self _ hx
    omega
theorem Bd.emod {k : Nat} {x m : Int} (h : Bd k m) (hm : 0 < m) : Bd k (x % m) := by
  refine h.le ?_
  have := Int.emod_nonneg x (show m ≠ 0 by omega)
  have := Int.emod_lt_of_pos x hm
  omega
theorem Bd.log {k : Nat} {i : Int} (h : Bd k i) (hk : 0 < k) : i.natAbs.log2 < k := by
  by_cases e : i.natAbs = 0
  · rw [e]; exact hk
  · exact (Nat.log2_lt e).mpr h
theorem Bd.small {k : Nat} {i : Int} (c : Nat) (h : i.natAbs < 2 ^ c) (e : c ≤ k) : Bd k i := Bd.mono (k := c) h e
theorem Bd.between {k : Nat} {x y : Int} (h : Bd k y) (h0 : 0 ≤ x) (h1 : x ≤ y) : Bd k x := h.le (by omega)
/-! ### the greatest common divisor -/
theorem gcd_turn (x y : Int) (hx : 0 ≤ x) (hy : 0 < y) : Int.gcd y (x % y) = Int.gcd x y := by
  unfold Int.gcd
  rw [show (x % y).natAbs = x.natAbs % y.natAbs by
    obtain ⟨a, rfl⟩ := Int.eq_ofNat_of_zero_le hx
    obtain ⟨b, rfl⟩ := Int.eq_ofNat_of_zero_le (Int.le_of_lt hy)
    rfl]
  rw [Nat.gcd_comm, ← Nat.gcd_rec, Nat.gcd_comm]
end Lf
namespace Lf
theorem nab_ediv {x m : Int} (hm : 0 < m) : (x / m).natAbs ≤ x.natAbs := by
  rcases Int.lt_or_le x 0 with hx | hx
  · have h1 : x / m < 0 := Int.ediv_neg_of_neg_of_pos hx hm
    have h2 : x ≤ x / m := by
      apply Int.le_ediv_of_mul_le hm
      have : (-x) * 1 ≤ (-x) * m := Int.mul_le_mul_of_nonneg_left (by omega) (by omega)
      rw [Int.neg_mul, Int.neg_mul, Int.mul_one] at this
      omega
    omega
  · have h1 : 0 ≤ x / m := Int.ediv_nonneg hx (by omega)
    have h2 : x / m ≤ x := Int.ediv_le_self _ hx
    omega
theorem fs_nab (n : Nat) (a b m : Int) (hm : 0 < m) : (fs n a b m).natAbs ≤ n * (a.natAbs * n + b.natAbs) := by
  induction n with
  | zero => show (0 : Int).natAbs ≤ _; simp
  | succ n ih =>
    show (fs n a b m + (a * n + b) / m).natAbs ≤ (n + 1) * (a.natAbs * (n + 1) + b.natAbs)
    have h1 := nab_ediv (x := a * n + b) hm
    have h2 := Int.natAbs_add_le (a * n) b
    have h3 := Int.natAbs_add_le (fs n a b m) ((a * n + b) / m)
    have h4 : (a * (n : Int)).natAbs = a.natAbs * n := by rw [Int.natAbs_mul]; rfl
    rw [h4] at h2
    have h5 : n * (a.natAbs * n + b.natAbs) ≤ n * (a.natAbs * (n + 1) + b.natAbs) := Nat.mul_le_mul_left _ (Nat.add_le_add_right (Nat.mul_le_mul_left _ (by omega)) _)
    have h6 : a.natAbs * n ≤ a.natAbs * (n + 1) := Nat.mul_le_mul_left _ (by omega)
    rw [Nat.add_mul, Nat.one_mul]
    omega
theorem fs_bd {n k j : Nat} {a b m : Int} (hm : 0 < m) (hn : n < 2 ^ j) (ha : Bd k a) (hb : Bd k b) : Bd (j + (k + j + 1)) (fs n a b m) := by
  unfold Bd at *
  have h := fs_nab n a b m hm
  refine Nat.lt_of_le_of_lt h ?_
  rw [Nat.pow_add 2 j]
  have h1 : a.natAbs * n + b.natAbs < 2 ^ (k + j + 1) := by
    have e : a.natAbs * n ≤ 2 ^ k * 2 ^ j := Nat.mul_le_mul (Nat.le_of_lt ha) (Nat.le_of_lt hn)
    have e2 : 2 ^ k ≤ 2 ^ k * 2 ^ j := Nat.le_mul_of_pos_right _ (Nat.pow_pos (by decide))
    rw [Nat.pow_succ, Nat.pow_add]
    omega
  exact Nat.mul_lt_mul'' hn h1
def trm (p q c s : Int) (i : Nat) : Int := (p * (s + i) + c) / q
theorem trm_sum (p q c s : Int) (n : Nat) : ((List.range n).map (trm p q c s)).sum = fs n p (p * s + c) q := by
  induction n with
  | zero => rfl
  | succ n ih =>
    rw [List.range_succ, List.map_append, List.sum_append, ih]
    show _ + (trm p q c s n + 0) = fs n p (p * s + c) q + (p * n + (p * s + c)) / q
    unfold trm
    rw [show p * (s + (n : Int)) + c = p * n + (p * s + c) by rw [Int.mul_add]; omega]
    omega
end Lf
namespace Lf
/-! ### triples in lowest terms -/
def gg (p q : Int) : Int := (Int.gcd p q : Int)
theorem gg_pos {p q : Int} (h : 1 ≤ q) : 0 < gg p q := by
  have : 0 < Int.gcd p q := Int.gcd_pos_of_ne_zero_right _ (by omega)
  unfold gg
  omega
theorem gg_p (p q : Int) : p = gg p q * (p / gg p q) := (Int.mul_ediv_cancel' (Int.gcd_dvd_left ..)).symm
theorem gg_q (p q : Int) : q = gg p q * (q / gg p q) := (Int.mul_ediv_cancel' (Int.gcd_dvd_right ..)).symm
theorem gg_mul (g x y : Int) (h : 0 ≤ g) : gg (g * x) (g * y) = g * gg x y := by
  unfold gg
  rw [Int.gcd_mul_left, Int.natCast_mul, Int.natAbs_of_nonneg h]
/-- reduced, multiplied, reduced again -/
theorem gg_twice (p q u v : Int) (h : 1 ≤ q) : gg (u * p) (v * q) = gg p q * gg (u * (p / gg p q)) (v * (q / gg p q)) := by
  have hg := gg_pos (p := p) h
  rw [← gg_mul _ _ _ (Int.le_of_lt hg)]
  congr 1
  · rw [Int.mul_left_comm, ← gg_p]
  · rw [Int.mul_left_comm, ← gg_q]
theorem red_p (p q u v : Int) (h : 1 ≤ q) (hv : 1 ≤ v) : u * (p / gg p q) / gg (u * (p / gg p q)) (v * (q / gg p q)) = u * p / gg (u * p) (v * q) := by
  have hg := gg_pos (p := p) h
  have e := gg_twice p q u v h
  rw [e]
  have e2 : u * p = gg p q * (u * (p / gg p q)) := by rw [Int.mul_left_comm, ← gg_p]
  rw [e2, Int.mul_ediv_mul_of_pos _ _ hg]
theorem red_q (p q u v : Int) (h : 1 ≤ q) (hv : 1 ≤ v) : v * (q / gg p q) / gg (u * (p / gg p q)) (v * (q / gg p q)) = v * q / gg (u * p) (v * q) := by
  have hg := gg_pos (p := p) h
  have e := gg_twice p q u v h
  rw [e]
  have e2 : v * q = gg p q * (v * (q / gg p q)) := by rw [Int.mul_left_comm, ← gg_q]
  rw [e2, Int.mul_ediv_mul_of_pos _ _ hg]
theorem red_c (p q u v c : Int) (h : 1 ≤ q) (hv : 1 ≤ v) : c / gg p q / gg (u * (p / gg p q)) (v * (q / gg p q)) = c / gg (u * p) (v * q) := by
  have hg := gg_pos (p := p) h
  rw [gg_twice p q u v h, Int.ediv_ediv_of_nonneg (Int.le_of_lt hg)]
theorem red_shift (p q a b c : Int) (h : 1 ≤ q) : (p * a + q * b + c) / gg p q = p / gg p q * a + q / gg p q * b + c / gg p q := by
  have hg := gg_pos (p := p) h
  have e : p * a + q * b + c = c + gg p q * (p / gg p q * a + q / gg p q * b) := by
    rw [Int.mul_add, ← Int.mul_assoc, ← Int.mul_assoc, ← gg_p, ← gg_q]
    omega
  rw [e, div_shift _ _ _ hg]
  omega
theorem div_neg1 (c g : Int) (hg : 0 < g) : (-1 - c) / g = -1 - c / g := by
  have e := Int.emod_add_mul_ediv c g
  have h0 := Int.emod_nonneg c (show g ≠ 0 by omega)
  have h1 := Int.emod_lt_of_pos c hg
  have e2 : -1 - c = (g - 1 - c % g) + g * (-1 - c / g) := by
    rw [Int.mul_sub]
    omega
  rw [e2, div_shift _ _ _ hg, Int.ediv_eq_zero_of_lt (by omega) (by omega)]
  omega
theorem red_mirror (p q c : Int) (h : 1 ≤ q) : (q - 1 - c) / gg p q = q / gg p q - 1 - c / gg p q := by
  have hg := gg_pos (p := p) h
  have e : q - 1 - c = (-1 - c) + gg p q * (q / gg p q) := by
    rw [← gg_q]
    omega
  rw [e, div_shift _ _ _ hg, div_neg1 _ _ hg]
  omega
end Lf
namespace Lf
theorem gg1 {p q : Int} (h : Int.gcd p q = 1) : gg p q = 1 := by
  unfold gg
  rw [h]
  rfl
theorem thin2 (p q c j k : Int) (h : 1 ≤ q * j) (hk : 1 ≤ k) :
    p / gg p (q * j) / gg (p / gg p (q * j)) (q * j / gg p (q * j) * k) = p / gg p (q * (j * k)) ∧
    q * j / gg p (q * j) * k / gg (p / gg p (q * j)) (q * j / gg p (q * j) * k) = q * (j * k) / gg p (q * (j * k)) ∧
    c / gg p (q * j) / gg (p / gg p (q * j)) (q * j / gg p (q * j) * k) = c / gg p (q * (j * k)) := by
  have e : q * (j * k) = k * (q * j) := by rw [← Int.mul_assoc, Int.mul_comm]
  have h1 := red_p p (q * j) 1 k h hk
  have h2 := red_q p (q * j) 1 k h hk
  have h3 := red_c p (q * j) 1 k c h hk
  simp only [Int.one_mul] at h1 h2 h3
  rw [Int.mul_comm (q * j / gg p (q * j)) k, e]
  exact ⟨h1, h2, h3⟩
theorem sample2 (p q c j k : Int) (h : 1 ≤ q) :
    p * j / gg (p * j) q * k / gg (p * j / gg (p * j) q * k) (q / gg (p * j) q) = p * (j * k) / gg (p * (j * k)) q ∧
    q / gg (p * j) q / gg (p * j / gg (p * j) q * k) (q / gg (p * j) q) = q / gg (p * (j * k)) q ∧
    c / gg (p * j) q / gg (p * j / gg (p * j) q * k) (q / gg (p * j) q) = c / gg (p * (j * k)) q := by
  have e : p * (j * k) = k * (p * j) := by rw [← Int.mul_assoc, Int.mul_comm]
  have h1 := red_p (p * j) q k 1 h (by decide)
  have h2 := red_q (p * j) q k 1 h (by decide)
  have h3 := red_c (p * j) q k 1 c h (by decide)
  simp only [Int.one_mul] at h1 h2 h3
  rw [Int.mul_comm (p * j / gg (p * j) q) k, e]
  exact ⟨h1, h2, h3⟩
theorem both2 (p q c k : Int) (h : 1 ≤ q) (hk : 1 ≤ k) :
    p * k / gg (p * k) q / gg (p * k / gg (p * k) q) (q / gg (p * k) q * k) = k * p / gg (k * p) (k * q) ∧
    q / gg (p * k) q * k / gg (p * k / gg (p * k) q) (q / gg (p * k) q * k) = k * q / gg (k * p) (k * q) ∧
    c / gg (p * k) q / gg (p * k / gg (p * k) q) (q / gg (p * k) q * k) = c / gg (k * p) (k * q) := by
  have h1 := red_p (p * k) q 1 k h hk
  have h2 := red_q (p * k) q 1 k h hk
  have h3 := red_c (p * k) q 1 k c h hk
  simp only [Int.one_mul] at h1 h2 h3
  rw [Int.mul_comm (q / gg (p * k) q) k, Int.mul_comm k p]
  exact ⟨h1, h2, h3⟩
theorem one_le_mul {x y : Int} (h : 1 ≤ x) (h2 : 1 ≤ y) : 1 ≤ x * y := by
  have := Int.mul_le_mul h h2 (by decide) (by omega)
  omega
end Lf
namespace Lf
/-! ### sums over ranges -/
theorem fs_add (n m : Nat) (a b q : Int) : fs (n + m) a b q = fs n a b q + fs m a (a * n + b) q := by
  induction m with
  | zero => show fs n a b q = fs n a b q + 0; omega
  | succ m ih =>
    show fs (n + m) a b q + (a * ((n + m : Nat) : Int) + b) / q = fs n a b q + (fs m a (a * n + b) q + (a * m + (a * n + b)) / q)
    rw [ih, show a * ((n + m : Nat) : Int) + b = a * m + (a * n + b) by rw [Int.natCast_add, Int.mul_add]; omega]
    omega
/-- two neighbouring ranges -/
theorem fs_split (p q c s m e : Int) (h1 : s ≤ m) (h2 : m ≤ e) : fs (m - s).toNat p (p * s + c) q + fs (e - m).toNat p (p * m + c) q = fs (e - s).toNat p (p * s + c) q := by
  have e1 : (e - s).toNat = (m - s).toNat + (e - m).toNat := by omega
  rw [e1, fs_add, show ((m - s).toNat : Int) = m - s by omega, show p * (m - s) + (p * s + c) = p * m + c by rw [Int.mul_sub]; omega]
theorem fs_one (p b q : Int) : fs 1 p b q = b / q := by
  show 0 + (p * ((0 : Nat) : Int) + b) / q = b / q
  simp
/-- one step of the offset: a term grows by one exactly where the divisor divides -/
theorem step_div (x q : Int) (h : 0 < q) : (x + 1) / q = x / q + (if (x + 1) % q = 0 then 1 else 0) := by
  have e := Int.emod_add_mul_ediv x q
  have h0 := Int.emod_nonneg x (show q ≠ 0 by omega)
  have h1 := Int.emod_lt_of_pos x h
  by_cases hc : x % q + 1 = q
  · have e2 : x + 1 = 0 + q * (x / q + 1) := by rw [Int.mul_add]; omega
    have e3 : (x + 1) % q = 0 := by rw [e2, Int.zero_add, Int.mul_emod_right]
    rw [if_pos e3, e2, div_shift _ _ _ h, Int.zero_ediv]
    omega
  · have e2 : x + 1 = (x % q + 1) + q * (x / q) := by omega
    have e3 : (x + 1) % q = x % q + 1 := by
      rw [e2, Int.add_mul_emod_self_left]
      exact Int.emod_eq_of_lt (by omega) (by omega)
    rw [if_neg (by omega)]
    rw [e2, div_shift _ _ _ h, Int.ediv_eq_zero_of_lt (by omega) (by omega)]
    omega
theorem hit_once (p q b : Int) (hg : Int.gcd p q = 1) (i j : Int) (hi : 0 ≤ i) (hij : i < j) (hj : j < q) (h1 : (p * i + b) % q = 0) (h2 : (p * j + b) % q = 0) : False := by
  have d1 := Int.dvd_of_emod_eq_zero h1
  have d2 := Int.dvd_of_emod_eq_zero h2
  have d3 : q ∣ p * (j - i) := by
    have := Int.dvd_sub d2 d1
    rw [show p * j + b - (p * i + b) = p * (j - i) by rw [Int.mul_sub]; omega] at this
    exact this
  have d4 : q ∣ j - i := by
    have n1 : q.natAbs ∣ p.natAbs * (j - i).natAbs := by
      rw [← Int.natAbs_mul]
      exact Int.natAbs_dvd_natAbs.mpr d3
    have n2 : Nat.Coprime q.natAbs p.natAbs := by
      unfold Nat.Coprime
      rw [Nat.gcd_comm]
      exact hg
    exact Int.natAbs_dvd_natAbs.mp (Nat.Coprime.dvd_of_dvd_mul_left n2 n1)
  have := Int.le_of_dvd (by omega) d4
  omega
theorem fs_step_le (p q b : Int) (hq : 0 < q) (hg : Int.gcd p q = 1) (n : Nat) (hn : (n : Int) ≤ q) :
    fs n p (b + 1) q - fs n p b q = 0 ∧ (∀ i : Nat, i < n → (p * i + (b + 1)) % q ≠ 0) ∨ fs n p (b + 1) q - fs n p b q = 1 ∧ (∃ i : Nat, i < n ∧ (p * i + (b + 1)) % q = 0) := by
  induction n with
  | zero => exact .inl ⟨rfl, fun i h => absurd h (by omega)⟩
  | succ n ih =>
    have e : fs (n + 1) p (b + 1) q - fs (n + 1) p b q = (fs n p (b + 1) q - fs n p b q) + ((p * n + (b + 1)) / q - (p * n + b) / q) := by
      show fs n p (b + 1) q + (p * n + (b + 1)) / q - (fs n p b q + (p * n + b) / q) = _
      omega
    have s := step_div (p * n + b) q hq
    rw [show p * (n : Int) + b + 1 = p * n + (b + 1) by omega] at s
    rw [e]
    rcases ih (by omega) with ⟨h1, h2⟩ | ⟨h1, i, hi, h2⟩
    · by_cases hc : (p * (n : Int) + (b + 1)) % q = 0
      · rw [if_pos hc] at s
        exact .inr ⟨by omega, n, by omega, hc⟩
      · rw [if_neg hc] at s
        refine .inl ⟨by omega, fun i hi => ?_⟩
        by_cases hin : i = n
        · subst hin; exact hc
        · exact h2 i (by omega)
    · have hc : ¬ (p * (n : Int) + (b + 1)) % q = 0 := fun z => hit_once p q (b + 1) hg i n (by omega) (by omega) (by omega) h2 z
      rw [if_neg hc] at s
      exact .inr ⟨by omega, i, by omega, h2⟩
theorem fs_step (p q b : Int) (hq : 0 < q) (hg : Int.gcd p q = 1) : fs q.toNat p (b + 1) q = fs q.toNat p b q + 1 := by
  have hle : ∀ b, fs q.toNat p (b + 1) q - fs q.toNat p b q ≤ 1 := fun b => by
    rcases fs_step_le p q b hq hg q.toNat (by omega) with ⟨h, _⟩ | ⟨h, _⟩ <;> omega
  have many : ∀ (k : Nat) (b : Int), fs q.toNat p (b + k) q - fs q.toNat p b q ≤ k := fun k => by
    induction k with
    | zero => intro b; simp
    | succ k ih =>
      intro b
      have h1 := ih b
      have h2 := hle (b + k)
      rw [show b + ((k + 1 : Nat) : Int) = b + k + 1 by omega]
      omega
  have up := fs_up q.toNat p b q hq
  have h1 := many (q.toNat - 1) (b + 1)
  rw [show b + 1 + ((q.toNat - 1 : Nat) : Int) = b + q by omega] at h1
  have h2 := hle b
  omega
theorem fs_from (p q : Int) (hq : 0 < q) (hg : Int.gcd p q = 1) (k : Nat) (b : Int) : fs q.toNat p (b + k) q = fs q.toNat p b q + k := by
  induction k with
  | zero => simp
  | succ k ih =>
    rw [show b + ((k + 1 : Nat) : Int) = b + k + 1 by omega, fs_step p q _ hq hg, ih]
    omega
theorem fs_any (p q b : Int) (hq : 0 < q) (hg : Int.gcd p q = 1) : fs q.toNat p b q = fs q.toNat p 0 q + b := by
  rcases Int.lt_or_le b 0 with h | h
  · have := fs_from p q hq hg (-b).toNat b
    rw [show b + ((-b).toNat : Int) = 0 by omega] at this
    omega
  · have := fs_from p q hq hg b.toNat 0
    rw [show 0 + (b.toNat : Int) = b by omega] at this
    omega
/-- terms in reverse order -/
theorem fs_rev (n : Nat) (a b q : Int) : fs n a b q = fs n (-a) (a * (n - 1) + b) q := by
  induction n with
  | zero => rfl
  | succ n ih =>
    rw [fs_first n (-a)]
    show fs n a b q + (a * n + b) / q = _
    rw [ih, show a * (((n + 1 : Nat) : Int) - 1) + b = a * n + b by rw [show ((n + 1 : Nat) : Int) - 1 = n by omega],
      show a * (n : Int) + b + -a = a * (n - 1) + b by rw [Int.mul_sub]; omega]
    omega
/-- negated terms -/
theorem fs_neg (n : Nat) (a b q : Int) (hq : 0 < q) : fs n (-a) (-b) q = - fs n a (b + q - 1) q := by
  induction n with
  | zero => rfl
  | succ n ih =>
    show fs n (-a) (-b) q + (-a * n + -b) / q = - (fs n a (b + q - 1) q + (a * n + (b + q - 1)) / q)
    rw [ih]
    have h1 := div_neg1 (a * n + (b - 1)) q hq
    have h2 := div_shift (a * n + (b - 1)) 1 q hq
    rw [show -1 - (a * (n : Int) + (b - 1)) = -a * n + -b by rw [Int.neg_mul]; omega] at h1
    rw [show a * (n : Int) + (b - 1) + q * 1 = a * n + (b + q - 1) by omega] at h2
    omega
theorem fs_cycle (p q b : Int) (hq : 0 < q) (hg : Int.gcd p q = 1) : fs q.toNat p b q = b + (p - 1) * (q - 1) / 2 := by
  have h0 := fs_any p q b hq hg
  have r := fs_rev q.toNat p 0 q
  have ng := fs_neg q.toNat p (-(p * (q - 1))) q hq
  rw [show ((q.toNat : Nat) : Int) = q by omega, Int.add_zero] at r
  rw [Int.neg_neg] at ng
  have h2 := fs_any p q (-(p * (q - 1)) + q - 1) hq hg
  have key : 2 * fs q.toNat p 0 q = (p - 1) * (q - 1) := by
    have e : (p - 1) * (q - 1) = p * (q - 1) - (q - 1) := by rw [Int.sub_mul, Int.one_mul]
    omega
  have : (p - 1) * (q - 1) / 2 = fs q.toNat p 0 q := by
    rw [← key, Int.mul_ediv_cancel_left _ (by decide)]
  omega
/-- Hermite's identity -/
theorem fs_hermite (k y : Int) (hk : 0 < k) : fs k.toNat 1 y k = y := by
  have := fs_cycle 1 k y hk (by simp [Int.gcd])
  rw [this]
  simp
/-- mirrored -/
theorem fs_mirror (n : Nat) (p q c s : Int) (hq : 0 < q) : fs n p (p * (1 - (s + n)) + (q - 1 - c)) q = - fs n p (p * s + c) q := by
  induction n with
  | zero => rfl
  | succ n ih =>
    rw [fs_first]
    show _ = -(fs n p (p * s + c) q + (p * n + (p * s + c)) / q)
    have e1 : p * (1 - (s + ((n + 1 : Nat) : Int))) + (q - 1 - c) + p = p * (1 - (s + n)) + (q - 1 - c) := by
      rw [show (1 - (s + ((n + 1 : Nat) : Int))) = (1 - (s + n)) - 1 by omega, Int.mul_sub p _ 1]
      omega
    rw [e1, ih]
    have h1 := div_neg1 (p * n + (p * s + c)) q hq
    have h2 := div_shift (-1 - (p * n + (p * s + c))) 1 q hq
    rw [show -1 - (p * (n : Int) + (p * s + c)) + q * 1 = p * (1 - (s + ((n + 1 : Nat) : Int))) + (q - 1 - c) by
      rw [show (1 - (s + ((n + 1 : Nat) : Int))) = -(n : Int) - s by omega, Int.mul_sub, Int.mul_neg]; omega] at h2
    omega
theorem fs_lowest (n : Nat) (p q c s : Int) (hq : 1 ≤ q) : fs n (p / gg p q) (p / gg p q * s + c / gg p q) (q / gg p q) = fs n p (p * s + c) q := by
  have hg := gg_pos (p := p) hq
  induction n with
  | zero => rfl
  | succ n ih =>
    show fs n (p / gg p q) (p / gg p q * s + c / gg p q) (q / gg p q) + (p / gg p q * n + (p / gg p q * s + c / gg p q)) / (q / gg p q) = fs n p (p * s + c) q + (p * n + (p * s + c)) / q
    rw [ih]
    have e1 : p / gg p q * n + (p / gg p q * s + c / gg p q) = (p * n + (p * s + c)) / gg p q := by
      have : p * n + (p * s + c) = c + gg p q * (p / gg p q * n + p / gg p q * s) := by
        rw [Int.mul_add, ← Int.mul_assoc, ← Int.mul_assoc, ← gg_p]
        omega
      rw [this, div_shift _ _ _ hg]
      omega
    have e2 : (p * n + (p * s + c)) / gg p q / (q / gg p q) = (p * n + (p * s + c)) / q := by
      rw [Int.ediv_ediv_of_nonneg (Int.le_of_lt hg), ← gg_q]
    rw [e1, e2]
theorem sum_map_add {α : Type} (l : List α) (f g : α → Int) : (l.map fun x => f x + g x).sum = (l.map f).sum + (l.map g).sum := by
  induction l with
  | nil => rfl
  | cons x r ih => simp only [List.map_cons, List.sum_cons, ih]; omega
theorem range_fs (k : Nat) (a b q : Int) : ((List.range k).map fun (j : Nat) => (a * j + b) / q).sum = fs k a b q := by
  induction k with
  | zero => rfl
  | succ k ih =>
    rw [List.range_succ, List.map_append, List.sum_append, ih]
    show _ + ((a * k + b) / q + 0) = fs k a b q + (a * k + b) / q
    omega
theorem fs_thin (n : Nat) (p q b k : Int) (hq : 0 < q) (hk : 0 < k) : ((List.range k.toNat).map fun (j : Nat) => fs n p (b + q * j) (q * k)).sum = fs n p b q := by
  induction n with
  | zero =>
    show ((List.range k.toNat).map fun _ => (0 : Int)).sum = 0
    induction k.toNat with
    | zero => rfl
    | succ m ih => rw [List.range_succ, List.map_append, List.sum_append, ih]; rfl
  | succ n ih =>
    have e : (List.range k.toNat).map (fun (j : Nat) => fs (n + 1) p (b + q * j) (q * k)) = (List.range k.toNat).map (fun (j : Nat) => fs n p (b + q * j) (q * k) + (1 * (j : Int) + (p * n + b) / q) / k) := by
      apply List.map_congr_left
      intro j _
      show fs n p (b + q * j) (q * k) + (p * n + (b + q * j)) / (q * k) = _
      rw [← Int.ediv_ediv_of_nonneg (Int.le_of_lt hq), show p * (n : Int) + (b + q * j) = (p * n + b) + q * j by omega, div_shift _ _ _ hq, Int.one_mul, Int.add_comm]
      rw [Int.add_comm (j : Int)]
      omega
    rw [e, sum_map_add, ih, range_fs, fs_hermite _ _ hk]
    rfl
theorem fs_sample (n : Nat) (p q b k : Int) (hk : 0 ≤ k) : ((List.range k.toNat).map fun (j : Nat) => fs n (p * k) (b + p * j) q).sum = fs (k.toNat * n) p b q := by
  induction n with
  | zero =>
    show ((List.range k.toNat).map fun _ => (0 : Int)).sum = 0
    induction k.toNat with
    | zero => rfl
    | succ m ih => rw [List.range_succ, List.map_append, List.sum_append, ih]; rfl
  | succ n ih =>
    have e : (List.range k.toNat).map (fun (j : Nat) => fs (n + 1) (p * k) (b + p * j) q) = (List.range k.toNat).map (fun (j : Nat) => fs n (p * k) (b + p * j) q + (p * (j : Int) + (p * ((k.toNat * n : Nat) : Int) + b)) / q) := by
      apply List.map_congr_left
      intro j _
      show fs n (p * k) (b + p * j) q + (p * k * n + (b + p * j)) / q = _
      rw [Int.natCast_mul, show ((k.toNat : Nat) : Int) = k by omega, ← Int.mul_assoc]
      rw [show p * k * (n : Int) + (b + p * j) = p * j + (p * k * n + b) by omega]
    rw [e, sum_map_add, ih, range_fs, Nat.mul_succ, fs_add]
end Lf
namespace Lf
theorem fs_lin (n : Nat) (a b m i j : Int) (hm : 0 < m) : fs n (a + i * m) (b + j * m) m = fs n a b m + i * tri n + j * n := by
  induction n with
  | zero => simp [fs, tri_zero]
  | succ n ih =>
    show fs n (a + i * m) (b + j * m) m + ((a + i * m) * n + (b + j * m)) / m = fs n a b m + (a * n + b) / m + i * tri ((n + 1 : Nat) : Int) + j * ((n + 1 : Nat) : Int)
    rw [ih, show (a + i * m) * (n : Int) + (b + j * m) = (a * n + b) + m * (i * n + j) by
      rw [Int.add_mul, Int.mul_add, Int.mul_comm i m, Int.mul_assoc, Int.mul_comm j m]; omega, div_shift _ _ _ hm, Int.natCast_add, Int.natCast_one, tri_succ, Int.mul_add, Int.mul_add]
    omega
theorem fs_scale (n : Nat) (a b m k : Int) (hk : 0 < k) : fs n (a * k) (b * k) (m * k) = fs n a b m := by
  induction n with
  | zero => rfl
  | succ n ih =>
    show fs n (a * k) (b * k) (m * k) + (a * k * n + b * k) / (m * k) = fs n a b m + (a * n + b) / m
    rw [ih, show a * k * (n : Int) + b * k = (a * n + b) * k by rw [Int.add_mul, Int.mul_right_comm], Int.mul_ediv_mul_of_pos_left _ _ hk]
theorem fs_last (n a b m : Int) (hn : 0 < n) : fs n.toNat a b m - fs (n - 1).toNat a b m = (a * (n - 1) + b) / m := by
  have e : n.toNat = (n - 1).toNat + 1 := by omega
  rw [e]
  show fs (n - 1).toNat a b m + (a * ((n - 1).toNat : Int) + b) / m - fs (n - 1).toNat a b m = _
  rw [show ((n - 1).toNat : Int) = n - 1 by omega]
  omega
theorem fs_part (n k a b m : Int) (h0 : 0 ≤ k) (h1 : k ≤ n) : fs k.toNat a b m + fs (n - k).toNat a (a * k + b) m = fs n.toNat a b m := by
  rw [show n.toNat = k.toNat + (n - k).toNat by omega, fs_add, show ((k.toNat : Nat) : Int) = k by omega]
theorem Bd.grow3 {k : Nat} {r d : Int} (h0 : 0 ≤ r) (h : Bd k r) (d0 : 0 ≤ d) (d1 : d < 1000) : Bd (k + 10) (1000 * r + d) := by
  unfold Bd at *
  have e : (2 : Nat) ^ (k + 10) = 2 ^ k * 1024 := by rw [Nat.pow_add]
  rw [e]
  generalize (2 : Nat) ^ k = m at h
  omega
theorem Bd.grow1 {k : Nat} {r d : Int} (h0 : 0 ≤ r) (h : Bd k r) (d0 : 0 ≤ d) (d1 : d < 10) : Bd (k + 4) (10 * r + d) := by
  unfold Bd at *
  have e : (2 : Nat) ^ (k + 4) = 2 ^ k * 16 := by rw [Nat.pow_add]
  rw [e]
  generalize (2 : Nat) ^ k = m at h
  omega
end Lf
namespace Lf
/-! ### events -/
theorem gal {p q : Int} (c m t : Int) (hp : 1 ≤ p) (hq : 1 ≤ q) : m ≤ (p * t + c) / q ↔ (q * m + (p - 1 - c)) / p ≤ t := by
  rw [Int.le_ediv_iff_mul_le (by omega), ← Int.lt_add_one_iff (a := (q * m + (p - 1 - c)) / p), Int.ediv_lt_iff_lt_mul (by omega), Int.mul_comm m q, Int.add_mul, Int.one_mul, Int.mul_comm t p]
  omega
theorem ct_mono {p q c s t : Int} (hp : 0 ≤ p) (hq : 1 ≤ q) (h : s ≤ t) : (p * s + c) / q ≤ (p * t + c) / q := by
  apply Int.ediv_le_ediv (by omega)
  have := Int.mul_le_mul_of_nonneg_left h hp
  omega
theorem ev_at {p q c m t : Int} (hp : 1 ≤ p) (hq : 1 ≤ q) (h1 : (p * (t - 1) + c) / q < m) (h2 : m ≤ (p * t + c) / q) : (q * m + (p - 1 - c)) / p = t := by
  have a := (gal c m t hp hq).mp h2
  have b : ¬ (q * m + (p - 1 - c)) / p ≤ t - 1 := fun h => by
    have := (gal c m (t - 1) hp hq).mpr h
    omega
  omega
theorem fs_const (k : Nat) (a b m v : Int) (h : ∀ i : Nat, i < k → (a * i + b) / m = v) : fs k a b m = k * v := by
  induction k with
  | zero => simp [fs]
  | succ k ih =>
    show fs k a b m + (a * k + b) / m = ((k + 1 : Nat) : Int) * v
    rw [ih (fun i hi => h i (by omega)), h k (by omega), Int.natCast_add, Int.natCast_one, Int.add_mul]
    omega
/-- the sum of the counts of a range by the times of its events -/
theorem fs_dual (p q c s : Int) (hp : 1 ≤ p) (hq : 1 ≤ q) (n : Nat) :
    fs n p (p * s + c) q = n * ((p * (s - 1) + c) / q) + ((p * (s + n - 1) + c) / q - (p * (s - 1) + c) / q) * (s + n) - fs ((p * (s + n - 1) + c) / q - (p * (s - 1) + c) / q).toNat q (q * ((p * (s - 1) + c) / q + 1) + (p - 1 - c)) p := by
  induction n with
  | zero =>
    rw [show s + ((0 : Nat) : Int) - 1 = s - 1 by omega, Int.sub_self]
    simp [fs]
  | succ n ih =>
    show fs n p (p * s + c) q + (p * n + (p * s + c)) / q = _
    rw [ih]
    have e0 : p * (n : Int) + (p * s + c) = p * (s + ((n + 1 : Nat) : Int) - 1) + c := by
      rw [show s + ((n + 1 : Nat) : Int) - 1 = s + n by omega, Int.mul_add]
      omega
    rw [e0]
    have m1 : (p * (s - 1) + c) / q ≤ (p * (s + n - 1) + c) / q := ct_mono (by omega) hq (by omega)
    have m2 : (p * (s + n - 1) + c) / q ≤ (p * (s + ((n + 1 : Nat) : Int) - 1) + c) / q := ct_mono (by omega) hq (by omega)
    have key : ∀ i : Nat, (i : Int) < (p * (s + ((n + 1 : Nat) : Int) - 1) + c) / q - (p * (s + n - 1) + c) / q → (q * ((p * (s + n - 1) + c) / q + 1 + i) + (p - 1 - c)) / p = s + n := fun i hi => by
      apply ev_at hp hq
      · show (p * (s + n - 1) + c) / q < _
        omega
      · rw [show s + (n : Int) = s + ((n + 1 : Nat) : Int) - 1 by omega] at *
        omega
    generalize hl : (p * (s - 1) + c) / q = low at *
    generalize hh : (p * (s + n - 1) + c) / q = hi at *
    generalize hh2 : (p * (s + ((n + 1 : Nat) : Int) - 1) + c) / q = hi2 at *
    rw [show (hi2 - low).toNat = (hi - low).toNat + (hi2 - hi).toNat by omega, fs_add, show ((hi - low).toNat : Int) = hi - low by omega]
    have fc := fs_const (hi2 - hi).toNat q (q * (hi - low) + (q * (low + 1) + (p - 1 - c))) p (s + n) (fun i h => by
      have := key i (by omega)
      rw [show q * (i : Int) + (q * (hi - low) + (q * (low + 1) + (p - 1 - c))) = q * (hi + 1 + i) + (p - 1 - c) by
        have : q * (hi + 1 + i) = q * i + q * (hi - low) + q * (low + 1) := by rw [← Int.mul_add, ← Int.mul_add]; congr 1; omega
        omega]
      exact this)
    rw [fc, show ((hi2 - hi).toNat : Int) = hi2 - hi by omega]
    rw [show s + ((n + 1 : Nat) : Int) = s + n + 1 by omega, show ((n + 1 : Nat) : Int) = n + 1 by omega]
    generalize s + (n : Int) = x
    have e3 : (hi2 - low) * (x + 1) = hi2 * x - low * x + hi2 - low := by rw [Int.mul_add, Int.sub_mul]; omega
    have e4 : (hi - low) * x = hi * x - low * x := by rw [Int.sub_mul]
    have e5 : (hi2 - hi) * x = hi2 * x - hi * x := by rw [Int.sub_mul]
    have e6 : ((n : Int) + 1) * low = n * low + low := by rw [Int.add_mul, Int.one_mul]
    rw [e3, e4, e5, e6]
    omega
theorem ct_fast {p q c s : Int} (hq : 1 ≤ q) (h : q ≤ p) (n : Nat) : (n : Int) ≤ (p * (s + n) + c) / q - (p * s + c) / q := by
  induction n with
  | zero => simp
  | succ n ih =>
    have : (p * (s + n) + c) / q + 1 ≤ (p * (s + ((n + 1 : Nat) : Int)) + c) / q := by
      have e := div_shift (p * (s + n) + c) 1 q (by omega)
      rw [← e]
      apply Int.ediv_le_ediv (by omega)
      rw [show s + ((n + 1 : Nat) : Int) = s + n + 1 by omega, Int.mul_add p (s + n) 1]
      omega
    omega
theorem ct_slow {p q c s : Int} (hq : 1 ≤ q) (h : p ≤ q) (n : Nat) : (p * (s + n) + c) / q - (p * s + c) / q ≤ n := by
  induction n with
  | zero => simp
  | succ n ih =>
    have : (p * (s + ((n + 1 : Nat) : Int)) + c) / q ≤ (p * (s + n) + c) / q + 1 := by
      have e := div_shift (p * (s + n) + c) 1 q (by omega)
      rw [← e]
      apply Int.ediv_le_ediv (by omega)
      rw [show s + ((n + 1 : Nat) : Int) = s + n + 1 by omega, Int.mul_add p (s + n) 1]
      omega
    omega
end Lf

namespace Lf
open PySem PySem.Spec PyProof.Rows L2
def topS (i : Nat) : Stmt := PySem.Challenge.pw_leapfit_k21_certificates_of_unevenness.main.body.getD i (.Pass ⟨0, 0, 0, 0⟩)
/-! ### heaps -/
theorem len10 {n : Nat} (h : n ≤ 1000) : n ≤ sizeLine := Nat.le_of_lt (small1000 h)
def penD (l : Addr) (t r : Int) : List (Key × V) := [(Sum.inr "cells", .ref l), (Sum.inr "turn", .int t), (Sum.inr "rest", .int r)]
/-- all but the source's own dict stays -/
structure Fr (H H' : Hp) : Prop where
  k : ∀ b o, H b = some o → (∀ x : Addr × Int × Int, o ≠ .dK (penD x.1 x.2.1 x.2.2)) → H' b = some o
theorem Fr.t {H H' : Hp} (f : Fr H H') (b : Addr) (xs : List V) (h : H b = some (.tup xs)) : H' b = some (.tup xs) := f.k b _ h fun _ z => by cases z
theorem Fr.l {H H' : Hp} (f : Fr H H') (b : Addr) (xs : List V) (h : H b = some (.lst xs)) : H' b = some (.lst xs) := f.k b _ h fun _ z => by cases z
theorem Fr.refl (H : Hp) : Fr H H := ⟨fun _ _ h _ => h⟩
theorem Fr.trans {H H1 H2 : Hp} (a : Fr H H1) (b : Fr H1 H2) : Fr H H2 := ⟨fun c o h n => b.k c o (a.k c o h n) n⟩
theorem Fr.same {H H1 : Hp} (a : Same H H1) : Fr H H1 := ⟨fun c o h _ => a c _ h⟩
theorem sm_upd {H : Hp} {p : Addr} {o : HO} (h : H p = none) : Same H (upd H p o) := fun b x e => by
  rw [upd_ne (ne_of_none e h)]
  exact e
theorem Fr.new {H : Hp} {p : Addr} {o : HO} (h : H p = none) : Fr H (upd H p o) := Fr.same (sm_upd h)
theorem Fr.dict {H : Hp} {p l : Addr} {t r : Int} {o : HO} (h : H p = some (.dK (penD l t r))) : Fr H (upd H p o) :=
  ⟨fun b o e n => by rw [upd_ne (ne_of e h (n (l, t, r)))]; exact e⟩
theorem Fr.d0 {H H' : Hp} (f : Fr H H') (b : Addr) (h : H b = some (.dK [])) : H' b = some (.dK []) := f.k b _ h fun _ z => by cases z
/-! ### the source of numbers -/
theorem sct : ¬ ("cells" : Str) = "turn" := by decide +kernel
theorem scr : ¬ ("cells" : Str) = "rest" := by decide +kernel
theorem str_ : ¬ ("turn" : Str) = "rest" := by decide +kernel
theorem srt : ¬ ("rest" : Str) = "turn" := by decide +kernel
theorem kct : ¬ (Sum.inr ("cells" : Str) : Key) = Sum.inr ("turn" : Str) := fun h => sct (Sum.inr.inj h)
theorem kcr : ¬ (Sum.inr ("cells" : Str) : Key) = Sum.inr ("rest" : Str) := fun h => scr (Sum.inr.inj h)
theorem ktr : ¬ (Sum.inr ("turn" : Str) : Key) = Sum.inr ("rest" : Str) := fun h => str_ (Sum.inr.inj h)
theorem krt : ¬ (Sum.inr ("rest" : Str) : Key) = Sum.inr ("turn" : Str) := fun h => srt (Sum.inr.inj h)
theorem dg_rest {H : Hp} {a l : Addr} {t r : Int} (h : H a = some (.dK (penD l t r))) : DGet H a (.str "rest") (some (.int r)) := by
  have e : valV (penD l t r) (Sum.inr "rest" : Key) = some (.int r) := by
    unfold penD
    rw [valV_neg kcr, valV_neg ktr, valV_pos rfl]
  rw [← e]
  exact DGet.k (k := Sum.inr "rest") h
theorem dg_turn {H : Hp} {a l : Addr} {t r : Int} (h : H a = some (.dK (penD l t r))) : DGet H a (.str "turn") (some (.int t)) := by
  have e : valV (penD l t r) (Sum.inr "turn" : Key) = some (.int t) := by
    unfold penD
    rw [valV_neg kct, valV_pos rfl]
  rw [← e]
  exact DGet.k (k := Sum.inr "turn") h
theorem dg_cells {H : Hp} {a l : Addr} {t r : Int} (h : H a = some (.dK (penD l t r))) : DGet H a (.str "cells") (some (.ref l)) := by
  have e : valV (penD l t r) (Sum.inr "cells" : Key) = some (.ref l) := by
    unfold penD
    rw [valV_pos rfl]
  rw [← e]
  exact DGet.k (k := Sum.inr "cells") h
theorem dp_rest {H : Hp} {a l : Addr} {t r y : Int} (h : H a = some (.dK (penD l t r))) : DPut H a (.str "rest") (.int y) (upd H a (.dK (penD l t y))) := by
  have e : putK (penD l t r) (Sum.inr "rest" : Key) (.int y) = penD l t y := by
    simp [putK, penD, scr, str_]
  rw [← e]
  exact DPut.k (k := Sum.inr "rest") h (by show 3 < sizeLine; exact small1000 (by decide))
theorem dp_turn {H : Hp} {a l : Addr} {t r y : Int} (h : H a = some (.dK (penD l t r))) : DPut H a (.str "turn") (.int y) (upd H a (.dK (penD l y r))) := by
  have e : putK (penD l t r) (Sum.inr "turn" : Key) (.int y) = penD l y r := by
    simp [putK, penD, sct, srt]
  rw [← e]
  exact DPut.k (k := Sum.inr "turn") h (by show 3 < sizeLine; exact small1000 (by decide))
/-- where the source stands: its dict, its list of cells -/
structure PA where
  d : Addr
  l : Addr
instance : Coe PA Addr := ⟨PA.d⟩
structure Pen (H : Hp) (a : PA) (n : Nat) : Prop where
  ex : ∃ (cs : List Int) (t r : Int), H a.d = some (.dK (penD a.l t r)) ∧ H a.l = some (.lst (cs.map V.int)) ∧ cs.length ≤ 63 ∧ 0 ≤ t ∧ t ≤ n ∧ 0 ≤ r
theorem Pen.same {H H' : Hp} {a : PA} {n : Nat} (p : Pen H a n) (s : Same H H') : Pen H' a n := by
  obtain ⟨cs, t, r, h1, h2, h3⟩ := p.ex
  exact ⟨cs, t, r, s _ _ h1, s _ _ h2, h3⟩
theorem Pen.new {H : Hp} {a : PA} {p : Addr} {n : Nat} {o : HO} (q : Pen H a n) (h : H p = none) : Pen (upd H p o) a n := q.same (sm_upd h)
theorem Pen.mono {H : Hp} {a : PA} {n m : Nat} (p : Pen H a n) (h : n ≤ m) : Pen H a m := by
  obtain ⟨cs, t, r, h1, h2, h3, h4, h5, h6⟩ := p.ex
  exact ⟨cs, t, r, h1, h2, h3, h4, by omega, h6⟩
theorem Pen.put {H : Hp} {a l : Addr} {cs : List Int} {t r : Int} {n : Nat} {kvs : List (Key × V)} (ha : H a = some (.dK kvs)) (hl : H l = some (.lst (cs.map V.int))) (h1 : cs.length ≤ 63) (h2 : 0 ≤ t) (h3 : t ≤ n) (h4 : 0 ≤ r) :
    Pen (upd H a (.dK (penD l t r))) ⟨a, l⟩ n :=
  ⟨cs, t, r, upd_same, by show upd H a _ l = _; rw [upd_ne (ne_of hl ha (by intro z; cases z))]; exact hl, h1, h2, h3, h4⟩
/-- an address that was free when the source stood already -/
theorem Pen.over {H H' : Hp} {a : PA} {L : Addr} {n m : Nat} {o : HO} (p0 : Pen H a m) (hL : H L = none) (p : Pen H' a n) : Pen (upd H' L o) a n := by
  obtain ⟨_, _, _, g1, g2, _⟩ := p0.ex
  obtain ⟨cs, t, r, h1, h2, h3⟩ := p.ex
  exact ⟨cs, t, r, by rw [upd_ne (ne_of_none g1 hL)]; exact h1, by rw [upd_ne (ne_of_none g2 hL)]; exact h2, h3⟩
theorem Fr.over {H H' : Hp} {L : Addr} {o : HO} (f : Fr H H') (hL : H L = none) : Fr H (upd H' L o) :=
  ⟨fun b o e n => by rw [upd_ne (ne_of_none e hL)]; exact f.k _ _ e n⟩
/-! ### defs by their names -/
def Df (K : PySem.W.Frag) (mg : Str → Option Value) (x : Str) (st : Stmt) (ps : List Str) : Prop := ∃ f fd, Fun K x x st f fd ∧ mg x = some (.ref f) ∧ Binds K fd ps []
structure Bi (mg : Str → Option Value) : Prop where
  len_ : mg "len" = none
  abs_ : mg "abs" = none
  list_ : mg "list" = none
  range_ : mg "range" = none
  sum_ : mg "sum" = none
  repr_ : mg "repr" = none
  max_ : mg "max" = none
  min_ : mg "min" = none
  reversed_ : mg "reversed" = none
  divmod_ : mg "divmod" = none
  isinstance_ : mg "isinstance" = none
  all_ : mg "all" = none
  int_ : mg "int" = none
  bool_ : mg "bool" = none
  tuple_ : mg "tuple" = none
  sorted_ : mg "sorted" = none
  zip_ : mg "zip" = none
  enumerate_ : mg "enumerate" = none
  set_ : mg "set" = none
  str_ : mg "str" = none
theorem bt_len : bootBuiltins ("len" : Str) = Option.some (Value.builtin "len") := by decide +kernel
theorem bt_abs : bootBuiltins ("abs" : Str) = Option.some (Value.builtin "abs") := by decide +kernel
theorem bt_sum : bootBuiltins ("sum" : Str) = Option.some (Value.builtin "sum") := by decide +kernel
theorem bt_repr : bootBuiltins ("repr" : Str) = Option.some (Value.builtin "repr") := by decide +kernel
theorem bt_max : bootBuiltins ("max" : Str) = Option.some (Value.builtin "max") := by decide +kernel
theorem bt_min : bootBuiltins ("min" : Str) = Option.some (Value.builtin "min") := by decide +kernel
theorem bt_divmod : bootBuiltins ("divmod" : Str) = Option.some (Value.builtin "divmod") := by decide +kernel
theorem bt_isinstance : bootBuiltins ("isinstance" : Str) = Option.some (Value.builtin "isinstance") := by decide +kernel
theorem bt_all : bootBuiltins ("all" : Str) = Option.some (Value.builtin "all") := by decide +kernel
theorem bt_set : bootBuiltins ("set" : Str) = Option.some (Value.type "set") := by decide +kernel
theorem bt_str : bootBuiltins ("str" : Str) = Option.some (Value.type "str") := by decide +kernel
theorem bt_sorted : bootBuiltins ("sorted" : Str) = Option.some (Value.builtin "sorted") := by decide +kernel
theorem bt_list : bootBuiltins ("list" : Str) = Option.some (Value.type "list") := by decide +kernel
theorem bt_int : bootBuiltins ("int" : Str) = Option.some (Value.type "int") := by decide +kernel
theorem bt_bool : bootBuiltins ("bool" : Str) = Option.some (Value.type "bool") := by decide +kernel
theorem bt_tuple : bootBuiltins ("tuple" : Str) = Option.some (Value.type "tuple") := by decide +kernel
section
variable {P : Program} {w : World} {K : PySem.W.Frag} {mg : Str → Option Value} {base : Heap}
theorem cal_of {x : Str} {st : Stmt} {N ps : List Str} {k : Nat} {sp : Sp} (D : Df K mg x st ps) (S : FnScope N ps (defScope st)) (len : ∀ vs H Q E, sp vs H Q E → vs.length = ps.length)
    (hb : ∀ (f : Addr) (cdv : Value) (A : Around) (outer : List Env) (s : Shared) (H : Hp) (vs : List V) (Q : VK) (E : XK), Room k (A.deeper (envOfC x (defScope st) s.heap.objs.size f cdv)) → sp vs H Q E →
      ∃ t, PSs (cxOf CX0 P w K mg base N x (defScope st) f cdv A outer s H E).nox (defBody st) t ∧ t { nx := fun _ H' => Q .non H', rt := Q } (start N vs) H) : C8.Cal P w K mg base (k + 1) x sp [] := by
  obtain ⟨f, fd, F, hm, b⟩ := D
  exact ⟨⟨f, fd, ps, [], F.ok S len (fun cdv A outer s H vs Q E hr h => hb f cdv A outer s H vs Q E hr h), hm, F.kp, b, .nil⟩⟩
/-- the same, its own row known (for calls with keywords) -/
def CalF (P : Program) (w : World) (K : PySem.W.Frag) (mg : Str → Option Value) (base : Heap) (k : Nat) (x : Str) (st : Stmt) (ps : List Str) (sp : Sp) : Prop :=
  ∃ f fd, Fun K x x st f fd ∧ mg x = some (.ref f) ∧ FnOk P w K mg base CX0 k f fd ps sp ∧ Binds K fd ps []
theorem calF_of {x : Str} {st : Stmt} {N ps : List Str} {k : Nat} {sp : Sp} (D : Df K mg x st ps) (S : FnScope N ps (defScope st)) (len : ∀ vs H Q E, sp vs H Q E → vs.length = ps.length)
    (hb : ∀ (f : Addr) (cdv : Value) (A : Around) (outer : List Env) (s : Shared) (H : Hp) (vs : List V) (Q : VK) (E : XK), Room k (A.deeper (envOfC x (defScope st) s.heap.objs.size f cdv)) → sp vs H Q E →
      ∃ t, PSs (cxOf CX0 P w K mg base N x (defScope st) f cdv A outer s H E).nox (defBody st) t ∧ t { nx := fun _ H' => Q .non H', rt := Q } (start N vs) H) : CalF P w K mg base (k + 1) x st ps sp := by
  obtain ⟨f, fd, F, hm, b⟩ := D
  exact ⟨f, fd, F, hm, F.ok S len (fun cdv A outer s H vs Q E hr h => hb f cdv A outer s H vs Q E hr h), b⟩
theorem CalF.cal {x : Str} {st : Stmt} {ps : List Str} {k : Nat} {sp : Sp} (c : CalF P w K mg base k x st ps sp) : C8.Cal P w K mg base k x sp [] := by
  obtain ⟨f, fd, F, hm, G, b⟩ := c
  exact ⟨⟨f, fd, ps, [], G, hm, F.kp, b, .nil⟩⟩
/-! ### _law_pen -/
theorem cut_ints (ns : List Int) : ∃ cs : List Int, cutV (ns.map V.int) none (some 63) = cs.map V.int ∧ cs.length ≤ 63 := by
  refine ⟨ns.take 63, ?_, by rw [List.length_take]; omega⟩
  unfold cutV
  rw [HT.sIx_none, show HT.sIx (ns.map V.int).length (ns.map V.int).length (some 63) = min 63 (ns.map V.int).length from HT.sIx_nat _ _ 63]
  rw [List.drop_zero, Nat.sub_zero, List.map_take, List.length_map]
  by_cases h : 63 ≤ ns.length
  · rw [Nat.min_eq_left h]
  · rw [Nat.min_eq_right (by omega), List.take_of_length_le (by rw [List.length_map]; omega), List.take_of_length_le (by rw [List.length_map]; omega)]
def spPen (K : PySem.W.Frag) : Sp := fun vs H Q _ => ∃ (s : Addr) (ns : List Int), vs = [.ref s] ∧ SqL K H s (ns.map V.int) ∧ ∀ (a : PA) H', Pen H' a 0 → Same H H' → Q (.ref a) H'
abbrev s_l_pen : Stmt := topS 17
abbrev N_l_pen : List Str := ["_law_script"]
abbrev P_l_pen : List Str := ["_law_script"]
theorem sc_l_pen : FnScope N_l_pen P_l_pen (defScope s_l_pen) := ⟨rfl, rfl, rfl, by decide +kernel, rfl, by decide +kernel, by decide +kernel⟩
theorem ok_l_pen (D : Df K mg "_law_pen" s_l_pen P_l_pen) (B : Bi mg) : C8.Cal P w K mg base 1 "_law_pen" (spPen K) [] := by
  refine cal_of D sc_l_pen (fun vs H Q E h => ?_) (fun f cdv A outer s H vs Q E hr h => ?_)
  · obtain ⟨a, ns, rfl, _⟩ := h
    rfl
  · obtain ⟨a, ns, rfl, hS, q⟩ := h
    refine ⟨_, (pss_one (ps_ret (pe_disp (pps_cons pe_str (pe_callTy (call_list_of) (by rfl) B.list_ bt_list (pa_cons (pe_slice sl_list (pv 0) po_none (po_some pe_int)) pa_nil)) (pps_cons pe_str pe_int (pps_cons pe_str pe_int pps_nil))) (by rfl) (by rfl) (fun z => by cases z) (by decide)))), ?_⟩
    refine fun p np => ?_
    have s1 : Same H (upd H p (.dK [])) := sm_upd np
    refine ⟨_, rfl, 63, rfl, a, _, rfl, s1.seq hS, fun c nc => ?_⟩
    obtain ⟨cs, ec, hc⟩ := cut_ints ns
    rw [ec]
    refine ⟨c, _, rfl, .inl (SqL.of upd_same), fun l nl => ?_⟩
    have ncp : p ≠ c := ne_of_none upd_same nc
    have nlc : c ≠ l := ne_of_none upd_same nl
    have nlp : p ≠ l := ne_of_none (by rw [upd_ne ncp]; exact upd_same) nl
    refine ⟨by rw [upd_ne nlp, upd_ne ncp, upd_same], penD l 0 0, rfl, by show 3 ≤ 15; decide, ?_⟩
    have e : mergeK [] (penD l 0 0) = penD l 0 0 := by
      simp [mergeK, penD, putK, sct, scr, str_]
    rw [e]
    refine q ⟨p, l⟩ _ ⟨cs, 0, 0, upd_same, ?_, hc, by omega, by omega, by omega⟩ ?_
    · show upd _ p _ l = _
      rw [upd_ne nlp.symm, upd_same]
    · intro b o eb
      have nb : b ≠ p := ne_of_none eb np
      have nb2 : b ≠ c := ne_of_none (s1 _ _ eb) nc
      have nb3 : b ≠ l := ne_of_none (sm_upd nc _ _ (s1 _ _ eb)) nl
      rw [upd_ne nb, upd_ne nb3, upd_ne nb2, upd_ne nb]
      exact eb
end
end Lf
namespace Lf
open PySem PySem.Spec PyProof.Rows L2
/-! ### a try that catches, and keeps the exception in a name -/
abbrev dead : Ends := { nx := fun _ _ => False, rt := fun _ _ => False }
/-- the wish: the clause's class; then the suite; then, with the exception known, what follows -/
def wKeep (K : PySem.W.Frag) (c : Value) (i : Nat) (ts : Addr → TS) (go : Addr → Value → Option Addr → L2.St → Hp → Prop) : WX := fun cls d σ H =>
  PySem.W.exmOne K cls c = some true ∧ ∀ a, H a = none → ts a { nx := fun σ' H' => go a cls d (σ'.set i none) H', rt := fun _ _ => False } (σ.set i (some (.ref a))) H
/-- slots are as many as names -/
theorem takes_len {X : Cx} {W : WX} (t : Takes X W) : Takes X (fun cls d σ H => σ.length = X.N.length → W cls d σ H) := fun u s' ⟨a, B, sI, pins, σ, H, cls, d, e, I, nb, up, sky, na, os, ag, ww⟩ =>
  t u s' ⟨a, B, sI, pins, σ, H, cls, d, e, I, nb, up, sky, na, os, ag, ww I.len⟩
section
variable {X : Cx} {pins : List (Addr × Obj)} {σ : L2.St} {H : Hp} {s : Shared}
/-- an exception's object, known from now on -/
theorem pin_in (J : Inv X pins σ H s) {a : Addr} {oe : Obj} {vs : Array Value} (ge : s.heap.get? a = some oe) (dt : oe.data = .fields vs) (na : H a = none) (n1 : a ≠ X.env.locals) (n2 : a ∉ X.fs) : Inv (X.tr ((a, oe) :: (X.pn ++ pins)) X.xe) [] σ H s := by
  refine ⟨J.ok.toTry _ _, J.os, J.bare, J.base, J.loc, J.cell, J.free, J.freeC, fun p hp => ?_, J.hok, J.len⟩
  rw [List.append_nil] at hp
  rcases List.mem_cons.mp hp with rfl | hp
  · refine ⟨ge, na, n1, n2, fun v z => ?_⟩
    have z : oe.data = .cell v := z
    rw [dt] at z
    cases z
  · exact J.pin p hp
theorem pin_out {a : Addr} {oe : Obj} {pn : List (Addr × Obj)} (ok : X.Ok) (J : Inv (X.tr ((a, oe) :: (X.pn ++ pins)) X.xe) pn σ H s) : Inv X pins σ H s :=
  ⟨ok, J.os, J.bare, J.base, J.loc, J.cell, J.free, J.freeC, fun p hp => J.pin p (List.mem_append.mpr (.inl (List.mem_cons_of_mem _ hp))), J.hok, J.len⟩
theorem out_suite {a : Addr} {oe : Obj} {pn : List (Addr × Obj)} (ok : X.Ok) (J : Inv (X.suite a ((a, oe) :: (X.pn ++ pins))) pn σ H s) : Inv (X.tr ((a, oe) :: (X.pn ++ pins)) X.xe) [] σ H s :=
  ⟨ok.toTry _ _, J.os, J.bare, J.base, J.loc, J.cell, J.free, J.freeC, fun p hp => J.pin p (List.mem_append.mpr (.inl (by rw [List.append_nil] at hp; exact hp))), J.hok, J.len⟩
end
section
variable {X : Cx} {x n : Str} {c : Value} {i : Nat} {body suite rest : List Stmt} {b0 : Stmt} {np po pq : Pos} {tb : WX → TS} {ts : Addr → TS} {tr : Addr → Value → Option Addr → TS}
theorem pss_keep (stk : X.stack = X.env :: X.outer) (fr : X.env.frame = some X.env.locals) (nd : X.N.Nodup) (ni : X.N[i]? = some n) (kn : X.env.kindOf n = some .local) (hc : Names X x c)
    (hb : ∀ (W : WX) (pn : List (Addr × Obj)) (xe : Value → Shared → Prop), Takes (X.tr pn xe) W → PSs (X.tr pn xe) body (tb W))
    (hsu : ∀ (a : Addr) (oe : Obj) (pn : List (Addr × Obj)), PSs (X.suite a ((a, oe) :: pn)) (b0 :: suite) (ts a))
    (hre : ∀ (a : Addr) (oe : Obj) (cls : Value) (d : Option Addr) (pn : List (Addr × Obj)), Zc cls d oe → (∃ vs, oe.data = .fields vs) → PSs (X.tr ((a, oe) :: pn) X.xe) rest (tr a cls d)) :
    PSs X (.Try body [.ExceptHandler (some (.Name x np)) (some n) (b0 :: suite) pq] [] [] po :: rest) (fun D σ H => tb (wKeep X.K c i ts (fun a cls d σ' H' => tr a cls d D σ' H')) dead σ H) := by
  refine ⟨fun pins s σ H D I h => wpAny_execs_cons (wpAny_Try_except ?_)⟩
  have ok := I.ok
  have frm : X.A.frames = some (X.env :: X.outer) := by rw [ok.frames, stk]
  refine wpAny_mono ((hb (wKeep X.K c i ts (fun a cls d σ' H' => tr a cls d D σ' H')) (X.pn ++ pins) _ (fun u s' air => ?_)).run [] s σ H dead (I.toTry _) h) (fun f s1 z => ?_) (fun e s1 he => he)
  · obtain ⟨a, B, sI, pins', σ1, H1, cls, d, rfl, J0, nb, up, sky, na, os, ag, em, go⟩ := air
    have J : Inv X pins σ1 H1 sI := J0.ofTry ok
    rw [stk] at sky
    refine Sky.land Zc.steady frm fr sky fun h3 f3 u3 => ?_
    have J3 : Inv X pins σ1 H1 { s' with heap := h3 } := J.landed nb f3.1 (up.trans u3) os ag
    obtain ⟨o3, v3, g3, z3, d3⟩ := f3.there
    have nf : a ∉ frs (X.env :: X.outer) := fun hm => by
      obtain ⟨_, o', e', hn⟩ := f3.2.2.1.mem hm
      rw [g3] at e'
      cases e'
      exact hn _ d3
    have n1 : a ≠ X.env.locals := fun z => nf (List.mem_filterMap.mpr ⟨X.env, List.mem_cons_self, by rw [fr, z]⟩)
    have n2 : a ∉ X.fs := fun hm => by
      obtain ⟨e, he, q⟩ := List.mem_filterMap.mp hm
      exact nf (List.mem_filterMap.mpr ⟨e, List.mem_cons_of_mem _ he, q⟩)
    have S3 := J3.suite g3 d3 na n1 n2
    refine wpAny_handleBy_cons (codeAny_handlers_test ?_) (by intro q; cases q)
    have lt : PySem.W.Looks (model X.prog X.w) h3 (typeOf (.ref a)) cls := fun A Q E s k q => wpAny_typeOf_ref (k _ _ g3) (by rw [z3.1]; exact q)
    have lm := PySem.W.exm_one (M := model X.prog X.w) J3.kIn lt em
    have seen : ∀ {Q : Value → Shared → Prop} {E : Value → Shared → Prop}, Q c { s' with heap := h3 } → wpAny (model X.prog X.w) (X.A.mark (some (.ref a))) (eval (.Name x np) X.env) Q E { s' with heap := h3 } := fun {Q E} q => by
      obtain ⟨hg, hd, hm | ⟨hm, hv, hw⟩⟩ := hc
      · exact ld_glob S3 hg hm q hd
      · exact ld_blt S3 hg hm hv q hw hd
    refine seen (lm.here (codeAny_handlers_suite_as (HandSPX.lands_againZ f3 fun h4 f4 u4 => ?_)))
    have J4 : Inv X pins σ1 H1 { s' with heap := h4 } := J.landed nb f4.1 ((up.trans u3).trans u4) os ag
    obtain ⟨o4, v4, g4, z4, d4⟩ := f4.there
    have S4 := J4.suite g4 d4 na n1 n2
    refine store_ok (X := X.suite a ((a, o4) :: (X.pn ++ pins))) (v := .ref a) S4 nd ni (.inl kn) rfl (fun s5 S5 => ?_) (.inr kn)
    refine wpAny_mono ((hsu a o4 (X.pn ++ pins)).run [] s5 _ H1 _ S5 (go a na)) (fun f s6 q => ?_) (fun _ _ z => False.elim z)
    cases f with
    | next =>
      obtain ⟨σ6, H6, S6, q6⟩ := q
      refine gone_ok (X := X.tr ((a, o4) :: (X.pn ++ pins)) X.xe) (out_suite ok S6) nd ni kn fun s7 J7 => ?_
      refine wpAny_mono ((hre a o4 cls d (X.pn ++ pins) z4 ⟨_, d4⟩).run [] s7 _ H6 D J7 q6) (fun f s8 r => ?_) (fun _ _ z => z)
      cases f with
      | next =>
        obtain ⟨σ8, H8, J8, q8⟩ := r
        exact ⟨σ8, H8, pin_out ok J8, q8⟩
      | brk =>
        obtain ⟨σ8, H8, J8, q8⟩ := r
        exact ⟨σ8, H8, pin_out ok J8, q8⟩
      | cont =>
        obtain ⟨σ8, H8, J8, q8⟩ := r
        exact ⟨σ8, H8, pin_out ok J8, q8⟩
      | ret u =>
        obtain ⟨v8, σ8, H8, J8, r8, q8⟩ := r
        exact ⟨v8, σ8, H8, pin_out ok J8, r8, q8⟩
    | brk =>
      obtain ⟨_, _, _, q6⟩ := q
      exact False.elim q6
    | cont =>
      obtain ⟨_, _, _, q6⟩ := q
      exact False.elim q6
    | ret u =>
      obtain ⟨_, _, _, _, _, q6⟩ := q
      exact False.elim q6
  · cases f with
    | next =>
      obtain ⟨_, _, _, q6⟩ := z
      exact False.elim q6
    | brk =>
      obtain ⟨_, _, _, q6⟩ := z
      exact False.elim q6
    | cont =>
      obtain ⟨_, _, _, q6⟩ := z
      exact False.elim q6
    | ret u =>
      obtain ⟨_, _, _, _, _, q6⟩ := z
      exact False.elim q6
end
/-! ### isinstance of a known exception -/
/-- by one class, or by a tuple of classes -/
def rIsK (K : PySem.W.Frag) (D a : Addr) : List V → Hp → VK → Prop := fun xs H Q => ∃ (y : V) (b : Bool), xs = [.ref a, y] ∧ Q (.bl b) H ∧
  ((∃ cv, (∀ u, RelV y u → u = cv) ∧ PySem.W.kitOne K (.ref D) cv = some b) ∨ ∃ (tp : Addr) (cs : List Addr), y = .ref tp ∧ SqT K H tp (cs.map V.ref) ∧ PySem.W.kitAny K (.ref D) (cs.map Value.ref) = some b)
theorem vals_refs : ∀ {cs : List Addr} {us : List Value}, Vals (cs.map V.ref) us → us = cs.map Value.ref
  | [], _, r => by cases r; rfl
  | c :: cs, _, r => by
    cases r with
    | cons r1 r2 =>
      rw [vals_refs r2]
      cases r1
      rfl
theorem call_isK {X : Cx} {a D : Addr} {oe : Obj} {pn : List (Addr × Obj)} {xe : Value → Shared → Prop} (C : ExcC X.K D) (hz : Zc (.ref D) none oe) (hf : ∃ vs, oe.data = .fields vs) : CallR (X.tr ((a, oe) :: pn) xe) (.builtin "isinstance") (rIsK X.K D a) := by
  intro pins s σ H xs us Q I r h
  obtain ⟨y, b, rfl, q, h⟩ := h
  cases r with
  | cons rx rr =>
    cases rr with
    | cons rt rr =>
      cases rr
      cases rx
      obtain ⟨ge, _⟩ := I.pin (a, oe) (List.mem_append.mpr (.inl List.mem_cons_self))
      obtain ⟨vs, hv⟩ := hf
      have J : PySem.W.InstAt s.heap a oe D none := by
        obtain ⟨oc, od, oda, osl⟩ := oe
        obtain ⟨h1, h2⟩ := hz
        dsimp only at h1 h2 hv
        subst h1 h2 hv
        exact ⟨ge, rfl, rfl, trivial⟩
      have kx := PySem.W.handS_kitx_exc (x := a) (ox := oe) C.hg C.hk C.hs C.hd C.ha C.hn C.ht C.hm
      rcases h with ⟨cv, hcv, e⟩ | ⟨tp, cs, rfl, hT, e⟩
      · have ec := hcv _ rt
        subst ec
        exact PySem.W.kia_one kx I.kIn J e (fun z => nomatch z) fun tk => ⟨.bl b, H, I.kept (t' := tk) fun _ _ z => z, rfl, q⟩
      · obtain ⟨its, rv, ⟨o, e1, e2, nn, e3⟩, _⟩ := I.tuple hT
        have ei := vals_refs rv
        subst ei
        cases rt
        obtain ⟨oc, od, oda, osl⟩ := o
        dsimp only at e2 e3
        subst e2 e3
        exact PySem.W.kia_tup kx I.kIn J e1 e (fun z => nomatch z) fun tk => ⟨.bl b, H, I.kept (t' := tk) fun _ _ z => z, rfl, q⟩
/-! ### an own exception without arguments, made -/
theorem pmk_none {X : Cx} {C : Addr} {bmB : List Value} {B newId initId : String} {x : Str} {p po : Pos} (F : ExcBaseFacts B newId initId bmB) (q : PySem.W.excIn X.K C bmB newId = true) (gC : X.mg x = some (.ref C)) (kC : PySem.W.keepIn X.K (.ref C) = true) (r : Raises X (.ref C)) (hg : Gl X x)
    (hdb : (x == ("__debug__" : Str)) = false := by decide) : PMk X (.Call (.Name x p) [] [] po) (fun _ H Q => Q (.ref C) none H) := by
  intro pins s σ H Q I h
  refine wpAny_Call_Name_kw (ld_glob I hg gC ?_ hdb)
  refine PySem.W.callWith_K0 I.kIn kC ?_
  show wpAny _ _ (call (.ref C) []) _ _ _
  obtain ⟨bm, N, nm, qn, bs, hdct, sn, sub, ab, col, dd, k0, k1, k2, k3, k5, mN, hC, hN, hni, T⟩ := exc_obj I.kIn q
  refine wpAny_call_exc_subT F T hC hN hni (fun h' e hm => ?_) (by show 0 ≤ sizeLine; omega)
  exact mk_of I hm r h (I.hok.gone hm.new)
/-! ### what the top tells of the class NoEvents, at C, and of the classes beside it -/
structure NoEv (K : PySem.W.Frag) (mg : Str → Option Value) (C : Addr) : Prop where
  gC : mg "NoEvents" = some (.ref C)
  kC : PySem.W.keepIn K (.ref C) = true
  xi : PySem.W.excIn K C [.type "ValueError", .type "Exception", .type "BaseException", .type "object"] "ValueError.__new__" = true
  ex : ExcC K C
  ty : PySem.W.typeIn K (.ref C) = some (.type "type")
  sf : PySem.W.subIn K (.ref C) (.ref C) = some true
structure NoEvB (K : PySem.W.Frag) (mg : Str → Option Value) (C L N R E I : Addr) : Prop where
  gL : mg "LeapfitError" = some (.ref L)
  gN : mg "InvalidNumber" = some (.ref N)
  gR : mg "InvalidRule" = some (.ref R)
  gE : mg "NoRule" = some (.ref E)
  gI : mg "InvalidCounts" = some (.ref I)
  bV : mg "ValueError" = none
  oL : PySem.W.kitOne K (.ref C) (.ref L) = some true
  oV : PySem.W.kitOne K (.ref C) (.type "ValueError") = some true
  oN : PySem.W.kitAny K (.ref C) [.ref N, .ref R, .ref E, .ref I] = some false
theorem NoEv.raises {X : Cx} {C : Addr} (T : NoEv X.K X.mg C) : Raises X (.ref C) := raises_own T.ex.hs T.ty
theorem NoEv.meets {K : PySem.W.Frag} {mg : Str → Option Value} {C : Addr} (T : NoEv K mg C) : PySem.W.exmOne K (.ref C) (.ref C) = some true := PySem.W.exm_ref T.ex.hs T.ex.hd T.ty T.sf
/-- a def that raises, by its name -/
def CalX (P : Program) (w : World) (K : PySem.W.Frag) (mg : Str → Option Value) (base : Heap) (k : Nat) (x : Str) (sp : Sp) : Prop :=
  ∃ f fd ps, FnOk P w K mg base (L2.CX P w) k f fd ps sp ∧ mg x = some (.ref f) ∧ PySem.W.keepIn K (.ref f) = true ∧ Binds K fd ps []
theorem calx_of {P : Program} {w : World} {K : PySem.W.Frag} {mg : Str → Option Value} {base : Heap} {x : Str} {st : Stmt} {N ps : List Str} {k : Nat} {sp : Sp} (D : Df K mg x st ps) (S : FnScope N ps (defScope st)) (len : ∀ vs H Q E, sp vs H Q E → vs.length = ps.length)
    (hb : ∀ (f : Addr) (cdv : Value) (A : Around) (outer : List Env) (s : Shared) (H : Hp) (vs : List V) (Q : VK) (E : XK), Room k (A.deeper (envOfC x (defScope st) s.heap.objs.size f cdv)) → sp vs H Q E →
      ∃ t, PSs (cxOf (L2.CX P w) P w K mg base N x (defScope st) f cdv A outer s H E) (defBody st) t ∧ t { nx := fun _ H' => Q .non H', rt := Q } (start N vs) H) : CalX P w K mg base (k + 1) x sp := by
  obtain ⟨f, fd, F, hm, b⟩ := D
  exact ⟨f, fd, ps, F.okX S len (fun cdv A outer s H vs Q E hr h => hb f cdv A outer s H vs Q E hr h), hm, F.kp, b⟩
section
variable {X : Cx} {x : Str} {sp : Sp} {W : WX} {j k : Nat} {e : Expr} {es : List Expr} {t : TA} {p po : Pos}
/-- it is called where what it raises is taken -/
theorem pe_cx (c : CalX X.prog X.w X.K X.mg X.base k x sp) (hr : Room j X.A) (hk : k ≤ j) (tk : Takes X W) (hg : Gl X x) (ha : L2.PA X (e :: es) t)
    (hdb : (x == ("__debug__" : Str)) = false := by decide) (he : starEach (e :: es) X.env = (false, eval e X.env) :: starEach es X.env := by rfl) (hpl : (backTo po (starEach es X.env)).any (·.1) = false := by rfl) :
    PE X (.Call (.Name x p) (e :: es) [] po) (tCallS sp (WE W) t) := by
  obtain ⟨f, fd, ps, F, hm, kp, b⟩ := c
  exact pe_callS F (hr.mono hk) hg hm kp b (fun σ => passAt tk σ) ha hdb he hpl
end
end Lf
namespace Lf
open PySem PySem.Spec PyProof.Rows L2
/-! ### a def called where no repr is under way -/
structure FnG (P : Program) (w : World) (K : PySem.W.Frag) (mg : Str → Option Value) (base : Heap) (k : Nat) (f : Addr) (fd : FuncData) (ps : List Str) (sp : Sp) : Prop where
  lenG : ∀ vs H Q E, sp vs H Q E → vs.length = ps.length
  runG : ∀ (A : Around) (out : List Env) (sh : Shared) (H : Hp) (ar : Args) (us : List Value) (vs : List V) (Q : VK) (E : XK), Room k A → A.guards = some [] → Env0 P w K mg base A out sh H → BindsTo sh fd ar (ps.zip us) → Vals vs us → sp vs H Q E →
    codeAny (model P w) A (.call (.ref f) ar) (CR CX0 out P w H sh Q E) sh
theorem fnG_of {P : Program} {w : World} {K : PySem.W.Frag} {mg : Str → Option Value} {base : Heap} {x qual : Str} {st : Stmt} {f : Addr} {fd : FuncData} {N ps : List Str} {k : Nat} {sp : Sp} (F : Fun K x qual st f fd) (S : FnScope N ps (defScope st)) (ln : ∀ vs H Q E, sp vs H Q E → vs.length = ps.length)
    (bd : ∀ (cdv : Value) (A : Around) (out : List Env) (sh : Shared) (H : Hp) (vs : List V) (Q : VK) (E : XK), Room k (A.deeper (envOfC qual (defScope st) sh.heap.objs.size f cdv)) → A.guards = some [] → sp vs H Q E →
      ∃ t, PSs (cxOf CX0 P w K mg base N qual (defScope st) f cdv A out sh H E).nox (defBody st) t ∧ t { nx := fun _ H' => Q .non H', rt := Q } (start N vs) H) : FnG P w K mg base (k + 1) f fd ps sp := by
  obtain ⟨oc, od, kV, doc, pm, an, cdv, ct, osl, rfl, lkp, cin⟩ := F.ex
  refine ⟨ln, fun A out sh H ar us vs Q E rm gd en bnd rel pr => ?_⟩
  have lv := ln _ _ _ _ pr
  have inK : K.In sh.heap := en.mod.kin.keeps fun b o e => (en.bs b o e).1
  have nol : sh.heap.NoLimit := en.mod.nolimit.keeps fun b o e => (en.bs b o e).1
  have knd : ∀ y ∈ ps.zip us, (defScope st).names.lookup y.1 = some .local ∨ ((defScope st).names.lookup y.1 = some .cell ∧ ((cellsFrom (sh.heap.objs.size + 1) (defScope st).names []).lookup y.1).isSome = true) := fun ⟨n, v⟩ hy => by
    rcases S.par n (List.of_mem_zip hy).1 with z | z
    · exact .inl z
    · exact .inr ⟨z, PySem.W.cellsFrom_some _ _ _ (.inl z)⟩
  refine codeAny_call_function rm.depth (inK _ _ lkp) rfl S.co S.gen rfl (PySem.W.codeRec_of inK cin) (bnd _ _ _ _ ?_)
  refine wpAny_newFunctionEnv_cells S.kind knd fun env he sh1 x1 => ?_
  subst he
  refine ⟨nol.keeps x1.toInCall.keep, codeAny_func ?_⟩
  obtain ⟨t, ht, hq⟩ := bd cdv A out sh H vs Q E (rm.deeper _) gd pr
  have inv := inv_start (CX := CX0) (P := P) (w := w) (K := K) (mg := mg) (base := base) (E := E) (f := f) (cd := cdv) (qual := qual) S rm.hd en lv rel x1
  refine wpAny_mono (ht.nox.run [] sh1 (start N vs) H _ inv hq) (fun fl sh' hs => ?_) fun e sh' hs => hs
  cases fl with
  | ret u =>
    obtain ⟨v, σ', H', J, rv, z⟩ := hs
    exact ⟨v, H', J.os, J.bare, J.base, J.hok, rv, z⟩
  | next =>
    obtain ⟨σ', H', J, z⟩ := hs
    exact ⟨V.non, H', J.os, J.bare, J.base, J.hok, rfl, z⟩
  | brk =>
    obtain ⟨_, _, _, z⟩ := hs
    exact False.elim z
  | cont =>
    obtain ⟨_, _, _, z⟩ := hs
    exact False.elim z
/-- the law called, at the heap behind the top -/
theorem lawG {P : Program} {w : World} {K : PySem.W.Frag} {mg mb : Str → Option Value} {k : Nat} {fa ad : Addr} {fd : FuncData} {x : Str} {sp : Sp} {sh : Shared} {vs : List Value} {ns : List Int}
    (inK : K.In sh.heap) (nsm : sh.heap.Ns mainGlobals mg) (nsb : sh.heap.Ns builtinsNs mb) (bb : ∀ x : Str, x ≠ "__name__" → mb x = bootBuiltins x) (nol : sh.heap.NoLimit) (gn : sh.gens = #[])
    (ga : sh.heap.get? ad = some { cls := .type "list", data := .seq vs.toArray }) (isI : IntsAre vs ns) (len : ns.length ≤ sizeLine) (rm : Room k callerA)
    (F : ∀ base : Heap, K.In base → base.Ns mainGlobals mg → FnG P w K mg base k fa fd [x] sp) (bnd : ∀ (s : Shared) (u : Value), BindsTo s fd ⟨[u], []⟩ [(x, u)])
    (pr : ∀ H : Hp, SqL K H ad (ns.map V.int) → sp [.ref ad] H (fun v _ => v = .bl true) fun _ _ _ => False) :
    codeAny (model P w) callerA (.call (.ref fa) ⟨[.ref ad], []⟩) (fun r sh' => r = .ok (.ret (.bool true)) ∧ OldK sh.heap sh'.heap ∧ sh'.os = sh.os ∧ AllBare sh'.gens) sh := by
  have rel := vals_ints isI
  have lnv := isI.length
  have main : ∀ H : Hp, Only H → SqL K H ad (ns.map V.int) → HOk P w H sh.heap → (∀ b, H b ≠ none → b = ad) → (H ad ≠ none → K.lookup ad = none) →
      codeAny (model P w) callerA (.call (.ref fa) ⟨[.ref ad], []⟩) (fun r sh' => r = .ok (.ret (.bool true)) ∧ OldK sh.heap sh'.heap ∧ sh'.os = sh.os ∧ AllBare sh'.gens) sh := by
    intro H only seq hok one nk
    have lay : ∀ {b : Addr} {o : Obj}, sh.heap.get? b = some o → H b = none → (hidT sh.heap H).get? b = some o := fun e n => hidT_get e n
    have nod : ∀ {b : Addr} {o : Obj} {es : Array DictEntry} {ep : Nat}, sh.heap.get? b = some o → o.data = .dict es ep → H b = none := fun {b o es ep} e d => by
      cases z : H b with
      | none => rfl
      | some u =>
        have eb : b = ad := one b (by rw [z]; simp)
        subst eb
        rw [ga] at e
        cases e
        exact (nomatch (show Data.seq vs.toArray _ = Data.dict es ep from d))
    have nsL : ∀ {b : Addr} {m : Str → Option Value}, sh.heap.Ns b m → (hidT sh.heap H).Ns b m := fun {b m} ⟨o, es, ep, e, d, r⟩ => ⟨o, es, ep, lay e (nod e d), d, r⟩
    have inB : K.In (hidT sh.heap H) := fun b o e => lay (inK b o e) (by
      cases z : H b with
      | none => rfl
      | some u =>
        have eb : b = ad := one b (by rw [z]; simp)
        subst eb
        rw [nk (by rw [z]; simp)] at e
        cases e)
    have md : Mod K mg (hidT sh.heap H) := ⟨inB, nsL nsm, ⟨mb, nsL nsb, bb⟩, let ⟨mc, h1, h2⟩ := nol; ⟨mc, nsL h1, h2⟩⟩
    have en : Env0 P w K mg (hidT sh.heap H) callerA [] sh H := ⟨rfl, md, fun b o e => of_hidT e, Nat.le_of_eq (hidT_size _ _), trivial, fun b hb => absurd (show b ∈ ([] : List Addr) from hb) (by simp), hok, .of_eq gn⟩
    refine codeAny_mono ((F _ inB (nsL nsm)).runG callerA [] sh H ⟨[.ref ad], []⟩ [.ref ad] [.ref ad] _ _ rm rfl en (bnd sh (.ref ad)) (.cons rfl .nil) (pr H seq)) fun r sh' h => ?_
    match r, h with
    | .error e, h => exact (show False from h).elim
    | .ok .next, h => exact False.elim h
    | .ok .brk, h => exact False.elim h
    | .ok .cont, h => exact False.elim h
    | .ok (.ret u), h =>
      obtain ⟨v, H', os, bare, un, hok', rv, z⟩ := h
      have z' : v = .bl true := z
      subst z'
      have eu : u = Value.bool true := rv
      subst eu
      refine ⟨rfl, OldK.of_keep (fun b o e => ?_), os, bare⟩
      cases zb : H b with
      | none => exact un.keep b o e zb (fun z => absurd (show b ∈ ([] : List Addr) from z) (by simp)) (by simp)
      | some u =>
        rcases only b with z | ⟨ob, xs, z⟩
        · rw [zb] at z
          cases z
        · have e1 := (hok b _ z).1
          have e2 := (hok' b _ (un.frzs b ob _ z)).1
          rw [e] at e1
          cases e1
          exact e2
  cases hk : K.lookup ad with
  | some o =>
    have e := inK ad o hk
    rw [ga] at e
    cases e
    exact main (fun _ => none) (fun _ => .inl rfl) (.inr ⟨_, vs.toArray, _, hk, rfl, rfl, rfl, by rw [List.size_toArray, lnv]; exact len, by simpa using rel⟩) (fun b u z => nomatch (show (none : Option HO) = some u from z)) (fun b z => absurd rfl z) (fun z => absurd rfl z)
  | none =>
    refine main (fun b => if b = ad then some (.frz { cls := .type "list", data := .seq vs.toArray } (.lst (ns.map V.int))) else none) (fun b => ?_) (.inl (.inr ⟨{ cls := .type "list", data := .seq vs.toArray }, if_pos rfl⟩)) (fun b u z => ?_) (fun b z => ?_) (fun _ => hk)
    · by_cases eb : b = ad
      · exact .inr ⟨_, _, if_pos eb⟩
      · exact .inl (if_neg eb)
    · by_cases eb : b = ad
      · subst eb
        have z' := (if_pos rfl).symm.trans z
        cases z'
        exact ⟨ga, by rw [List.length_map]; exact len, vs, _, rel, ga⟩
      · exact (nomatch (if_neg eb).symm.trans z)
    · by_cases eb : b = ad
      · exact eb
      · exact absurd (if_neg eb) z
theorem walkG {l : PySem.W.OpenLaw} {n k : Nat} {q : Program} {loose : List Str} {XP : (Str → Option Value) → Heap → Prop} {YP : World → Heap → Prop} {d : DefRec} {K : Params → PySem.W.Frag} {sp : World → Sp} {x : Str}
    (most : l.most = some n) (nsz : n ≤ sizeLine) (nodf : d.params.defaults = []) (rm : Room k callerA) (inY : ∀ (w : World) (h : Heap), YP w h → (K w.params).In h)
    (F : ∀ (w : World) (mg : Str → Option Value) (fa : Addr) (h : Heap), (K w.params).In h → h.Ns mainGlobals mg → mg d.name = some (.ref fa) → ∃ fd : FuncData, (∀ (s : Shared) (u : Value), BindsTo s fd ⟨[u], []⟩ [(x, u)]) ∧ ∀ base : Heap, (K w.params).In base → base.Ns mainGlobals mg → FnG l.prog w (K w.params) mg base k fa fd [x] (sp w))
    (pr : ∀ (w : World) (H : Hp) (a : Addr) (ns : List Int), ns.length ≤ n → SqL (K w.params) H a (ns.map V.int) → sp w [.ref a] H (fun v _ => v = .bl true) fun _ _ _ => False) : PySem.W.WalkO q loose XP YP l.row.toRowW d [] (fun f vs => PySem.call f vs) := by
  refine Att.attach_call most nodf fun w s₀ sh mg mb fa o pm cd doc a vs ns G Y ho hd hcd hmg hobj hints hlen hg => ?_
  have inK := inY w _ Y
  obtain ⟨fd, hb, hF⟩ := F w mg fa _ inK G.T.g hmg
  exact lawG inK G.T.g G.T.b G.T.builtins G.T.nolimit hg hobj hints (Nat.le_trans hlen nsz) rm hF hb (fun H hS => pr w H a ns hlen hS)
/-! ### repr of data -/
theorem repr_data {X : Cx} (gd : X.A.guards = some []) (hu : X.A.units + 70 < cLine) : CallR X (.builtin "repr") (fun xs H Q => ∃ (a : Addr) (d : PyData), xs = [.ref a] ∧ Dp X.K H (.ref a) d ∧ d.showable = true ∧ d.hasDict = false ∧ d.depth ≤ 60 ∧ d.shown.length ≤ sizeLine ∧ Q (.str d.shown) H) := by
  intro pins s σ H xs us Q I rel h
  obtain ⟨a, d, rfl, dp, sw, nd, dd, sz, hq⟩ := h
  obtain ⟨u, hu1, ru⟩ := vals1 rel
  subst hu1
  obtain ⟨as, rd⟩ := Dp.reads I d (.ref a) u dp ru
  have eu : u = Value.ref a := ru
  subst eu
  refine repr_of_reads' rd sw (fun z => by rw [nd] at z; cases z) gd (by omega) (fun _ _ e => e) (fun h' u tk hk => ?_) sz
  exact ⟨.str d.shown, H, I.kept hk, ⟨u, rfl⟩, hq⟩
theorem show_fits (ds : List Int) (hb : ∀ z ∈ ds, Bd 1900 z) (hl : ds.length ≤ 100) : (PyData.tuple (ds.map PyData.int)).showable = true ∧ (PyData.tuple (ds.map PyData.int)).hasDict = false ∧ (PyData.tuple (ds.map PyData.int)).depth ≤ 60 ∧ (PyData.tuple (ds.map PyData.int)).shown.length ≤ sizeLine := by
  have lg : ∀ z ∈ ds, z.natAbs.log2 < 1920 := fun z hz => ((hb z hz).mono (show 1900 ≤ 1920 by decide)).log (by decide)
  have key : ∀ l : List Int, (∀ z ∈ l, z.natAbs.log2 < 1920) → PyData.showableAll (l.map PyData.int) = true ∧ PyData.hasDictAll (l.map PyData.int) = false ∧ PyData.depthAll (l.map PyData.int) = 0 ∧ ((PyData.shownAll (l.map PyData.int)).map (·.length)).sum ≤ 1921 * l.length ∧ (PyData.shownAll (l.map PyData.int)).length = l.length := by
    intro l
    induction l with
    | nil => intro _; exact ⟨rfl, rfl, rfl, by simp [PyData.shownAll], rfl⟩
    | cons z r ih =>
      intro h
      obtain ⟨i1, i2, i3, i4, i5⟩ := ih fun y hy => h y (List.mem_cons_of_mem _ hy)
      have hz := h z (List.mem_cons_self ..)
      refine ⟨?_, ?_, ?_, ?_, ?_⟩
      · simp [PyData.showableAll, PyData.showable, hz, i1]
      · simp [PyData.hasDictAll, PyData.hasDict, i2]
      · simp [PyData.depthAll, PyData.depth, i3]
      · have := PyProof.Rows.int_text_len_1921 hz
        simp only [List.map_cons, PyData.shownAll, PyData.shown, List.sum_cons, List.length_cons]
        omega
      · simp [PyData.shownAll, i5]
  obtain ⟨k1, k2, k3, k4, k5⟩ := key ds lg
  refine ⟨by simpa [PyData.showable] using k1, by simpa [PyData.hasDict] using k2, by simp [PyData.depth, k3], ?_⟩
  have := tupleText_len_le (PyData.shownAll (ds.map PyData.int))
  rw [k5] at this
  show (tupleText (PyData.shownAll (ds.map PyData.int))).length ≤ sizeLine
  rw [sizeLine_eq]
  omega
theorem dpAll_ints {K : PySem.W.Frag} {H : Hp} : ∀ ds : List Int, DpAll K H (ds.map V.int) (ds.map PyData.int)
  | [] => .nil
  | c :: r => .cons (.int c) (dpAll_ints r)
/-- repr of a tuple of ints -/
theorem rp_ints {K : PySem.W.Frag} {H : Hp} {a : Addr} {Q : VK} (ds : List Int) (e : H a = some (.tup (ds.map V.int))) (hb : ∀ z ∈ ds, Bd 1900 z) (hl : ds.length ≤ 100) (h : Q (.str (PyData.tuple (ds.map PyData.int)).shown) H) :
    ∃ (a' : Addr) (d : PyData), [V.ref a] = [.ref a'] ∧ Dp K H (.ref a') d ∧ d.showable = true ∧ d.hasDict = false ∧ d.depth ≤ 60 ∧ d.shown.length ≤ sizeLine ∧ Q (.str d.shown) H := by
  obtain ⟨f1, f2, f3, f4⟩ := show_fits ds hb hl
  exact ⟨a, _, rfl, Dp.tup (SqT.of e) (dpAll_ints ds), f1, f2, f3, f4, h⟩
end Lf
namespace Lf
open PySem PySem.Spec PyProof.Rows L2
/-! ### guards and a table of code objects together -/
theorem lawGT {P : Program} {w : World} {K : PySem.W.Frag} {mg mb : Str → Option Value} {k : Nat} {fa ad cT PT : Addr} {fd : FuncData} {x : Str} {sp : Sp} {sh : Shared} {vs : List Value} {ns : List Int}
    (inK : K.In sh.heap) (nsm : sh.heap.Ns mainGlobals mg) (nsb : sh.heap.Ns builtinsNs mb) (bb : ∀ x : Str, x ≠ "__name__" → mb x = bootBuiltins x) (nol : sh.heap.NoLimit) (gn : sh.gens = #[])
    (tP : sh.heap.get? PT = some { cls := .none, data := .fields #[] }) (nP : K.lookup PT = none) (hC : PySem.W.CodeHd sh.heap cT PT)
    (bM : ∃ (bm : Addr) (ob : Obj), mg "__builtins__" = some (.ref bm) ∧ bm ≠ builtinsNs ∧ sh.heap.get? bm = some ob ∧ ob.cls = .type "module" ∧ ob.dict = some builtinsNs ∧ ob.data = .plain)
    (ga : sh.heap.get? ad = some { cls := .type "list", data := .seq vs.toArray }) (isI : IntsAre vs ns) (len : ns.length ≤ sizeLine) (rm : Room k callerA)
    (F : ∀ base : Heap, K.In base → base.Ns mainGlobals mg → LamX.TabB base mg cT PT → FnG P w K mg base k fa fd [x] sp) (bnd : ∀ (s : Shared) (u : Value), BindsTo s fd ⟨[u], []⟩ [(x, u)])
    (pr : ∀ H : Hp, H PT = some (.tbl #[]) → SqL K H ad (ns.map V.int) → sp [.ref ad] H (fun v _ => v = .bl true) fun _ _ _ => False) :
    codeAny (model P w) callerA (.call (.ref fa) ⟨[.ref ad], []⟩) (fun r sh' => r = .ok (.ret (.bool true)) ∧ OldK sh.heap sh'.heap ∧ sh'.os = sh.os ∧ AllBare sh'.gens) sh := by
  have rel := vals_ints isI
  have lnv := isI.length
  have nab : ¬ ad = PT := fun z => by
    rw [z, tP] at ga
    cases ga
  have main : ∀ H : Hp, H PT = some (.tbl #[]) → (∀ b, H b = none ∨ b = PT ∨ ∃ o xs, H b = some (.frz o (.lst xs))) → SqL K H ad (ns.map V.int) → HOk P w H sh.heap → (∀ b, H b ≠ none → b = ad ∨ b = PT) → (H ad ≠ none → K.lookup ad = none) →
      codeAny (model P w) callerA (.call (.ref fa) ⟨[.ref ad], []⟩) (fun r sh' => r = .ok (.ret (.bool true)) ∧ OldK sh.heap sh'.heap ∧ sh'.os = sh.os ∧ AllBare sh'.gens) sh := by
    intro H hT only seq hok one nk
    have lay : ∀ {b : Addr} {o : Obj}, sh.heap.get? b = some o → H b = none → (hidT sh.heap H).get? b = some o := fun e n => hidT_get e n
    -- what is no list and no empty record is not tracked
    have off : ∀ {b : Addr} {o : Obj}, sh.heap.get? b = some o → (∀ zs m, o.data ≠ .seq zs m) → o.data ≠ .fields #[] → H b = none := fun {b o} e n1 n2 => by
      cases z : H b with
      | none => rfl
      | some u =>
        rcases one b (by rw [z]; simp) with eb | eb
        · rw [eb, ga] at e
          cases e
          exact absurd rfl (n1 _ _)
        · rw [eb, tP] at e
          cases e
          exact absurd rfl n2
    have nsL : ∀ {b : Addr} {m : Str → Option Value}, sh.heap.Ns b m → (hidT sh.heap H).Ns b m := fun {b m} ⟨o, es, ep, e, d, r⟩ =>
      ⟨o, es, ep, lay e (off e (fun zs m z => by rw [d] at z; cases z) (fun z => by rw [d] at z; cases z)), d, r⟩
    have inB : K.In (hidT sh.heap H) := fun b o e => lay (inK b o e) (by
      cases z : H b with
      | none => rfl
      | some u =>
        rcases one b (by rw [z]; simp) with eb | eb
        · subst eb
          rw [nk (by rw [z]; simp)] at e
          cases e
        · rw [eb, nP] at e
          cases e)
    have md : Mod K mg (hidT sh.heap H) := ⟨inB, nsL nsm, ⟨mb, nsL nsb, bb⟩, let ⟨mc, h1, h2⟩ := nol; ⟨mc, nsL h1, h2⟩⟩
    have gP : ¬ mainGlobals = PT := fun z => by
      obtain ⟨o, es, ep, e, d, _⟩ := nsm
      rw [z, tP] at e
      cases e
      cases d
    have tb : LamX.TabB (hidT sh.heap H) mg cT PT := by
      refine ⟨?_, ?_, gP⟩
      · obtain ⟨o, us, fi, tf, fl, tg, iF, tx, tt, e1, r1, r2, r3, rr⟩ := hC
        refine ⟨o, us, fi, tf, fl, tg, iF, tx, tt, lay e1 (off e1 (fun zs m z => by rw [r2] at z; cases z) (fun z => ?_)), r1, r2, r3, rr⟩
        rw [r2] at z
        cases z
        simp at r3
      · obtain ⟨bm, ob, b1, b2, b3, b4, b5, b6⟩ := bM
        refine ⟨bm, ob, b1, b2, fun z => ?_, fun z => ?_, lay b3 (off b3 (fun zs m z => by rw [b6] at z; cases z) (fun z => by rw [b6] at z; cases z)), b4, b5, b6⟩
        · obtain ⟨o, es, ep, e, d, _⟩ := nsm
          rw [z, e] at b3
          cases b3
          rw [d] at b6
          cases b6
        · rw [z, tP] at b3
          cases b3
          cases b6
    have en : Env0 P w K mg (hidT sh.heap H) callerA [] sh H := ⟨rfl, md, fun b o e => of_hidT e, Nat.le_of_eq (hidT_size _ _), trivial, fun b hb => absurd (show b ∈ ([] : List Addr) from hb) (by simp), hok, .of_eq gn⟩
    refine codeAny_mono ((F _ inB (nsL nsm) tb).runG callerA [] sh H ⟨[.ref ad], []⟩ [.ref ad] [.ref ad] _ _ rm rfl en (bnd sh (.ref ad)) (.cons rfl .nil) (pr H hT seq)) fun r sh' h => ?_
    match r, h with
    | .error e, h => exact (show False from h).elim
    | .ok .next, h => exact False.elim h
    | .ok .brk, h => exact False.elim h
    | .ok .cont, h => exact False.elim h
    | .ok (.ret u), h =>
      obtain ⟨v, H', os, bare, un, hok', rv, z⟩ := h
      have z' : v = .bl true := z
      subst z'
      have eu : u = Value.bool true := rv
      subst eu
      have old : ∀ b o, ¬ b = PT → sh.heap.get? b = some o → sh'.heap.get? b = some o := fun b o nb e => by
        cases zb : H b with
        | none => exact un.keep b o e zb (fun z => absurd (show b ∈ ([] : List Addr) from z) (by simp)) (by simp)
        | some u =>
          rcases only b with z | z | ⟨ob, xs, z⟩
          · rw [zb] at z
            cases z
          · exact absurd z nb
          · have e1 := (hok b _ z).1
            have e2 := (hok' b _ (un.frzs b ob _ z)).1
            rw [e] at e1
            cases e1
            exact e2
      obtain ⟨more, zm⟩ := un.tbls PT #[] hT
      have grown : sh'.heap.get? PT = some { cls := .none, data := .fields (#[] ++ more) } := hok' PT _ zm
      refine ⟨rfl, ⟨fun b o e => ?_, fun b o e => ?_⟩, os, bare⟩
      · by_cases hb : b = PT
        · rw [hb] at e ⊢
          rw [tP] at e
          cases e
          exact .inr (.inl ⟨(hC.tab tP).isCodeTable, rfl, #[], more, rfl, grown⟩)
        · exact .inl (old b o hb e)
      · by_cases hb : b = PT
        · rw [hb]
          exact ⟨_, grown⟩
        · exact ⟨o, old b o hb e⟩
  cases hk : K.lookup ad with
  | some o =>
    have e := inK ad o hk
    rw [ga] at e
    cases e
    refine main (fun b => if b = PT then some (.tbl #[]) else none) (if_pos rfl) (fun b => ?_) (.inr ⟨_, vs.toArray, _, hk, rfl, rfl, rfl, by rw [List.size_toArray, lnv]; exact len, by simpa using rel⟩) (fun b u z => ?_) (fun b z => ?_) (fun z => absurd (if_neg nab) z)
    · by_cases hb : b = PT
      · exact .inr (.inl hb)
      · exact .inl (if_neg hb)
    · by_cases hb : b = PT
      · rw [hb] at z ⊢
        have z' := (if_pos rfl).symm.trans z
        cases z'
        exact tP
      · exact (nomatch (if_neg hb).symm.trans z)
    · by_cases hb : b = PT
      · exact .inr hb
      · exact absurd (if_neg hb) z
  | none =>
    refine main (fun b => if b = ad then some (.frz { cls := .type "list", data := .seq vs.toArray } (.lst (ns.map V.int))) else if b = PT then some (.tbl #[]) else none) ((if_neg (fun z => nab z.symm)).trans (if_pos rfl)) (fun b => ?_) (.inl (.inr ⟨{ cls := .type "list", data := .seq vs.toArray }, if_pos rfl⟩)) (fun b u z => ?_) (fun b z => ?_) (fun _ => hk)
    · by_cases eb : b = ad
      · exact .inr (.inr ⟨_, _, if_pos eb⟩)
      · by_cases hb : b = PT
        · exact .inr (.inl hb)
        · exact .inl ((if_neg eb).trans (if_neg hb))
    · by_cases eb : b = ad
      · subst eb
        have z' := (if_pos rfl).symm.trans z
        cases z'
        exact ⟨ga, by rw [List.length_map]; exact len, vs, _, rel, ga⟩
      · have z1 := (if_neg eb).symm.trans z
        by_cases hb : b = PT
        · rw [hb] at z1 ⊢
          have z' := (if_pos rfl).symm.trans z1
          cases z'
          exact tP
        · exact (nomatch (if_neg hb).symm.trans z1)
    · by_cases eb : b = ad
      · exact .inl eb
      · by_cases hb : b = PT
        · exact .inr hb
        · exact absurd ((if_neg eb).trans (if_neg hb)) z
/-- what the head tells of the law, of the table PT of the code object cT -/
structure LawGT (l : PySem.W.OpenLaw) (w : World) (K : PySem.W.Frag) (k : Nat) (x : Str) (mg : Str → Option Value) (fa : Addr) (h : Heap) : Prop where
  ex : ∃ (fd : FuncData) (cT PT : Addr) (sp : Sp), h.get? PT = some { cls := .none, data := .fields #[] } ∧ K.lookup PT = none ∧ PySem.W.CodeHd h cT PT ∧ (∀ (s : Shared) (u : Value), BindsTo s fd ⟨[u], []⟩ [(x, u)]) ∧
    (∀ (H : Hp) (a : Addr) (ns : List Int), ns.length ≤ 63 → H PT = some (.tbl #[]) → SqL K H a (ns.map V.int) → sp [.ref a] H (fun v _ => v = .bl true) fun _ _ _ => False) ∧
    ∀ base : Heap, K.In base → base.Ns mainGlobals mg → LamX.TabB base mg cT PT → FnG l.prog w K mg base k fa fd [x] sp
theorem walkGT {l : PySem.W.OpenLaw} {k : Nat} {q : Program} {loose : List Str} {XP : (Str → Option Value) → Heap → Prop} {YP : World → Heap → Prop} {d : DefRec} {K : Params → PySem.W.Frag} {x : Str}
    (most : l.most = some 63) (nodf : d.params.defaults = []) (rm : Room k callerA) (inY : ∀ (w : World) (h : Heap), YP w h → (K w.params).In h)
    (F : ∀ (w : World) (mg : Str → Option Value) (fa : Addr) (h : Heap), YP w h → (K w.params).In h → h.Ns mainGlobals mg → mg d.name = some (.ref fa) → LawGT l w (K w.params) k x mg fa h) : PySem.W.WalkO q loose XP YP l.row.toRowW d [] (fun f vs => PySem.call f vs) := by
  refine Att.attach_call most nodf fun w s₀ sh mg mb fa o pm cd doc a vs ns G Y ho hd hcd hmg hobj hints hlen hg => ?_
  have inK := inY w _ Y
  obtain ⟨fd, cT, PT, sp, tP, nP, hC, hb, hp, hF⟩ := (F w mg fa _ Y inK G.T.g hmg).ex
  exact lawGT inK G.T.g G.T.b G.T.builtins G.T.nolimit hg tP nP hC G.T.bmain hobj hints (Nat.le_trans hlen (by decide)) rm hF hb (fun H hH hS => hp H a ns hlen hH hS)
/-! ### a def by its row, called where no repr is under way -/
theorem fnG_lk {P : Program} {w : World} {K : PySem.W.Frag} {mg : Str → Option Value} {base : Heap} {x : Str} {st : Stmt} {f : Addr} {N ps : List Str} {k : Nat} {sp : Sp} {oc kV doc pm cdv ct : Value} {od an : Option Addr} {osl : Array (Option Value)}
    (lkp : K.lookup f = some ⟨oc, od, .func (PySem.W.fnOf x x (defArgs st) (defBody st) (defScope st) .none kV doc pm an cdv ct), osl⟩) (cin : PySem.W.codeIn K cdv x = true) (S : FnScope N ps (defScope st)) (ln : ∀ vs H Q E, sp vs H Q E → vs.length = ps.length)
    (bd : ∀ (A : Around) (out : List Env) (sh : Shared) (H : Hp) (vs : List V) (Q : VK) (E : XK), Room k (A.deeper (envOfC x (defScope st) sh.heap.objs.size f cdv)) → A.guards = some [] → sp vs H Q E →
      ∃ t, PSs (cxOf CX0 P w K mg base N x (defScope st) f cdv A out sh H E).nox (defBody st) t ∧ t { nx := fun _ H' => Q .non H', rt := Q } (start N vs) H) : FnG P w K mg base (k + 1) f (PySem.W.fnOf x x (defArgs st) (defBody st) (defScope st) .none kV doc pm an cdv ct) ps sp := by
  refine ⟨ln, fun A out sh H ar us vs Q E rm gd en bnd rel pr => ?_⟩
  have lv := ln _ _ _ _ pr
  have kIn : K.In sh.heap := en.mod.kin.keeps fun b o e => (en.bs b o e).1
  have nol : sh.heap.NoLimit := en.mod.nolimit.keeps fun b o e => (en.bs b o e).1
  have knd : ∀ y ∈ ps.zip us, (defScope st).names.lookup y.1 = some .local ∨ ((defScope st).names.lookup y.1 = some .cell ∧ ((cellsFrom (sh.heap.objs.size + 1) (defScope st).names []).lookup y.1).isSome = true) := fun ⟨n, v⟩ hy => by
    rcases S.par n (List.of_mem_zip hy).1 with z | z
    · exact .inl z
    · exact .inr ⟨z, PySem.W.cellsFrom_some _ _ _ (.inl z)⟩
  refine codeAny_call_function rm.depth (kIn _ _ lkp) rfl S.co S.gen rfl (PySem.W.codeRec_of kIn cin) (bnd _ _ _ _ ?_)
  refine wpAny_newFunctionEnv_cells S.kind knd fun env he sh1 x1 => ?_
  subst he
  refine ⟨nol.keeps x1.toInCall.keep, codeAny_func ?_⟩
  obtain ⟨t, ht, hq⟩ := bd A out sh H vs Q E (rm.deeper _) gd pr
  have inv := inv_start (CX := CX0) (P := P) (w := w) (K := K) (mg := mg) (base := base) (E := E) (f := f) (cd := cdv) (qual := x) S rm.hd en lv rel x1
  refine wpAny_mono (ht.nox.run [] sh1 (start N vs) H _ inv hq) (fun fl sh' hs => ?_) fun e sh' hs => hs
  cases fl with
  | ret u =>
    obtain ⟨v, σ', H', J, rv, z⟩ := hs
    exact ⟨v, H', J.os, J.bare, J.base, J.hok, rv, z⟩
  | next =>
    obtain ⟨σ', H', J, z⟩ := hs
    exact ⟨V.non, H', J.os, J.bare, J.base, J.hok, rfl, z⟩
  | brk =>
    obtain ⟨_, _, _, z⟩ := hs
    exact False.elim z
  | cont =>
    obtain ⟨_, _, _, z⟩ := hs
    exact False.elim z
section
variable {X : Cx} {x : Str} {sp : Sp} {W : WX} {j k i : Nat} {f : Addr} {fd : FuncData} {ps : List Str} {e : Expr} {es : List Expr} {t : TA} {p po : Pos}
/-- such a def, called by its name -/
theorem pe_g (F : FnG X.prog X.w X.K X.mg X.base k f fd ps sp) (gd : X.A.guards = some []) (hr : Room j X.A) (hk : k ≤ j) (hg : Gl X x) (hm : X.mg x = some (.ref f)) (kp : PySem.W.keepIn X.K (.ref f) = true) (hb : Binds X.K fd ps []) (ha : L2.PA X (e :: es) t)
    (hdb : (x == ("__debug__" : Str)) = false := by decide) (he : starEach (e :: es) X.env = (false, eval e X.env) :: starEach es X.env := by rfl) (hpl : (backTo po (starEach es X.env)).any (·.1) = false := by rfl) :
    PE X (.Call (.Name x p) (e :: es) [] po) (fun σ H Q => t σ H fun vs H1 => sp vs H1 Q (fun _ _ _ => False)) := by
  refine ⟨fun pins s σ H Q I h => wpAny_Call_Name_kw (ld_glob I hg hm ?_ hdb)⟩
  refine PySem.W.callWith_K (h₀ := X.base) I.ok.mod.kin kp (thn (ha.run po pins s σ H _ I h) fun us s1 ⟨vs, H1, I1, rv, q⟩ => ⟨I1.kIn, ?_⟩) he hpl
  have hl : us.length = ps.length := by rw [← rv.length]; exact F.lenG _ _ _ _ q
  have b := hb s1 us I1.kIn (by rw [List.append_nil]; exact hl)
  rw [List.append_nil] at b
  refine wpAny_call (codeAny_mono (F.runG X.A X.stack s1 H1 ⟨us, []⟩ us vs Q _ (hr.mono hk) gd I1.env0 b rv q) fun r s' hq => ?_)
  cases r with
  | error e => exact (show False from hq).elim
  | ok fl =>
    cases fl with
    | ret u => exact I1.after hq
    | next => exact False.elim hq
    | brk => exact False.elim hq
    | cont => exact False.elim hq
/-- a name that holds one of some defs that raise -/
theorem pe_vx (S : Addr → Prop) (hS : ∀ f, S f → ∃ fd ps, FnOk X.prog X.w X.K X.mg X.base (L2.CX X.prog X.w) k f fd ps sp ∧ PySem.W.keepIn X.K (.ref f) = true ∧ Binds X.K fd ps []) (hr : Room j X.A) (hk : k ≤ j) (tk : Takes X W) (hN : X.N[i]? = some x) (hv : Vis X.env.scope x) (ha : L2.PA X (e :: es) t)
    (hd : (x == ("__debug__" : Str)) = false := by decide) (hcd : (x == ("__classdict__" : Str)) = false := by decide) (he : starEach (e :: es) X.env = (false, eval e X.env) :: starEach es X.env := by rfl) (hpl : (backTo po (starEach es X.env)).any (·.1) = false := by rfl) :
    PE X (.Call (.Name x p) (e :: es) [] po) (fun σ H Q => ∃ f, σ[i]? = some (some (.ref f)) ∧ S f ∧ t σ H fun vs H1 => sp vs H1 Q (WE W σ)) := by
  refine ⟨fun pins s σ H Q I h => ?_⟩
  obtain ⟨f, hs, hf, h⟩ := h
  obtain ⟨fd, ps, F, kp, b⟩ := hS f hf
  refine wpAny_Call_Name_kw (thn ((pe_var (pos := p) (i := i) hN hv hd hcd).run pins s σ H (fun v H1 => v = .ref f ∧ H1 = H) I ⟨.ref f, hs, rfl, rfl⟩) fun u s1 ⟨v, H1, I1, r1, q1, q2⟩ => ?_)
  subst q1
  rw [q2] at I1
  cases r1
  refine PySem.W.callWith_K (h₀ := X.base) I1.ok.mod.kin kp (thn (ha.run po pins s1 σ H _ I1 h) fun us s2 ⟨vs, H2, I2, rv, q⟩ => ⟨I2.kIn, ?_⟩) he hpl
  exact run_fnS F (hr.mono hk) b (passAt tk σ) I2 rv q
end
end Lf
namespace Lf
open PySem PySem.Spec PyProof.Rows L2
/-! ### as lawGT, and the base has the table of modules -/
theorem lawGT1 {P : Program} {w : World} {K : PySem.W.Frag} {mg mb : Str → Option Value} {k : Nat} {fa ad cT PT : Addr} {fd : FuncData} {x : Str} {sp : Sp} {sh : Shared} {vs : List Value} {ns : List Int}
    (inK : K.In sh.heap) (nsm : sh.heap.Ns mainGlobals mg) (nsb : sh.heap.Ns builtinsNs mb) (bb : ∀ x : Str, x ≠ "__name__" → mb x = bootBuiltins x) (nol : sh.heap.NoLimit) (gn : sh.gens = #[])
    (sM : ∃ mm, sh.heap.Ns sysModules mm) (tP : sh.heap.get? PT = some { cls := .none, data := .fields #[] }) (nP : K.lookup PT = none) (hC : PySem.W.CodeHd sh.heap cT PT)
    (bM : ∃ (bm : Addr) (ob : Obj), mg "__builtins__" = some (.ref bm) ∧ bm ≠ builtinsNs ∧ sh.heap.get? bm = some ob ∧ ob.cls = .type "module" ∧ ob.dict = some builtinsNs ∧ ob.data = .plain)
    (ga : sh.heap.get? ad = some { cls := .type "list", data := .seq vs.toArray }) (isI : IntsAre vs ns) (len : ns.length ≤ sizeLine) (rm : Room k callerA)
    (F : ∀ base : Heap, K.In base → base.Ns mainGlobals mg → (∃ o, base.get? 1 = some o) → LamX.TabB base mg cT PT → FnG P w K mg base k fa fd [x] sp) (bnd : ∀ (s : Shared) (u : Value), BindsTo s fd ⟨[u], []⟩ [(x, u)])
    (pr : ∀ H : Hp, H PT = some (.tbl #[]) → SqL K H ad (ns.map V.int) → sp [.ref ad] H (fun v _ => v = .bl true) fun _ _ _ => False) :
    codeAny (model P w) callerA (.call (.ref fa) ⟨[.ref ad], []⟩) (fun r sh' => r = .ok (.ret (.bool true)) ∧ OldK sh.heap sh'.heap ∧ sh'.os = sh.os ∧ AllBare sh'.gens) sh := by
  have rel := vals_ints isI
  have lnv := isI.length
  have nab : ¬ ad = PT := fun z => by
    rw [z, tP] at ga
    cases ga
  have main : ∀ H : Hp, H PT = some (.tbl #[]) → (∀ b, H b = none ∨ b = PT ∨ ∃ o xs, H b = some (.frz o (.lst xs))) → SqL K H ad (ns.map V.int) → HOk P w H sh.heap → (∀ b, H b ≠ none → b = ad ∨ b = PT) → (H ad ≠ none → K.lookup ad = none) →
      codeAny (model P w) callerA (.call (.ref fa) ⟨[.ref ad], []⟩) (fun r sh' => r = .ok (.ret (.bool true)) ∧ OldK sh.heap sh'.heap ∧ sh'.os = sh.os ∧ AllBare sh'.gens) sh := by
    intro H hT only seq hok one nk
    have lay : ∀ {b : Addr} {o : Obj}, sh.heap.get? b = some o → H b = none → (hidT sh.heap H).get? b = some o := fun e n => hidT_get e n
    -- what is no list and no empty record is not tracked
    have off : ∀ {b : Addr} {o : Obj}, sh.heap.get? b = some o → (∀ zs m, o.data ≠ .seq zs m) → o.data ≠ .fields #[] → H b = none := fun {b o} e n1 n2 => by
      cases z : H b with
      | none => rfl
      | some u =>
        rcases one b (by rw [z]; simp) with eb | eb
        · rw [eb, ga] at e
          cases e
          exact absurd rfl (n1 _ _)
        · rw [eb, tP] at e
          cases e
          exact absurd rfl n2
    have nsL : ∀ {b : Addr} {m : Str → Option Value}, sh.heap.Ns b m → (hidT sh.heap H).Ns b m := fun {b m} ⟨o, es, ep, e, d, r⟩ =>
      ⟨o, es, ep, lay e (off e (fun zs m z => by rw [d] at z; cases z) (fun z => by rw [d] at z; cases z)), d, r⟩
    have inB : K.In (hidT sh.heap H) := fun b o e => lay (inK b o e) (by
      cases z : H b with
      | none => rfl
      | some u =>
        rcases one b (by rw [z]; simp) with eb | eb
        · subst eb
          rw [nk (by rw [z]; simp)] at e
          cases e
        · rw [eb, nP] at e
          cases e)
    have md : Mod K mg (hidT sh.heap H) := ⟨inB, nsL nsm, ⟨mb, nsL nsb, bb⟩, let ⟨mc, h1, h2⟩ := nol; ⟨mc, nsL h1, h2⟩⟩
    have gP : ¬ mainGlobals = PT := fun z => by
      obtain ⟨o, es, ep, e, d, _⟩ := nsm
      rw [z, tP] at e
      cases e
      cases d
    have tb : LamX.TabB (hidT sh.heap H) mg cT PT := by
      refine ⟨?_, ?_, gP⟩
      · obtain ⟨o, us, fi, tf, fl, tg, iF, tx, tt, e1, r1, r2, r3, rr⟩ := hC
        refine ⟨o, us, fi, tf, fl, tg, iF, tx, tt, lay e1 (off e1 (fun zs m z => by rw [r2] at z; cases z) (fun z => ?_)), r1, r2, r3, rr⟩
        rw [r2] at z
        cases z
        simp at r3
      · obtain ⟨bm, ob, b1, b2, b3, b4, b5, b6⟩ := bM
        refine ⟨bm, ob, b1, b2, fun z => ?_, fun z => ?_, lay b3 (off b3 (fun zs m z => by rw [b6] at z; cases z) (fun z => by rw [b6] at z; cases z)), b4, b5, b6⟩
        · obtain ⟨o, es, ep, e, d, _⟩ := nsm
          rw [z, e] at b3
          cases b3
          rw [d] at b6
          cases b6
        · rw [z, tP] at b3
          cases b3
          cases b6
    have en : Env0 P w K mg (hidT sh.heap H) callerA [] sh H := ⟨rfl, md, fun b o e => of_hidT e, Nat.le_of_eq (hidT_size _ _), trivial, fun b hb => absurd (show b ∈ ([] : List Addr) from hb) (by simp), hok, .of_eq gn⟩
    refine codeAny_mono ((F _ inB (nsL nsm) (let ⟨_, h⟩ := sM; let ⟨o, _, _, e, _⟩ := nsL h; ⟨o, e⟩) tb).runG callerA [] sh H ⟨[.ref ad], []⟩ [.ref ad] [.ref ad] _ _ rm rfl en (bnd sh (.ref ad)) (.cons rfl .nil) (pr H hT seq)) fun r sh' h => ?_
    match r, h with
    | .error e, h => exact (show False from h).elim
    | .ok .next, h => exact False.elim h
    | .ok .brk, h => exact False.elim h
    | .ok .cont, h => exact False.elim h
    | .ok (.ret u), h =>
      obtain ⟨v, H', os, bare, un, hok', rv, z⟩ := h
      have z' : v = .bl true := z
      subst z'
      have eu : u = Value.bool true := rv
      subst eu
      have old : ∀ b o, ¬ b = PT → sh.heap.get? b = some o → sh'.heap.get? b = some o := fun b o nb e => by
        cases zb : H b with
        | none => exact un.keep b o e zb (fun z => absurd (show b ∈ ([] : List Addr) from z) (by simp)) (by simp)
        | some u =>
          rcases only b with z | z | ⟨ob, xs, z⟩
          · rw [zb] at z
            cases z
          · exact absurd z nb
          · have e1 := (hok b _ z).1
            have e2 := (hok' b _ (un.frzs b ob _ z)).1
            rw [e] at e1
            cases e1
            exact e2
      obtain ⟨more, zm⟩ := un.tbls PT #[] hT
      have grown : sh'.heap.get? PT = some { cls := .none, data := .fields (#[] ++ more) } := hok' PT _ zm
      refine ⟨rfl, ⟨fun b o e => ?_, fun b o e => ?_⟩, os, bare⟩
      · by_cases hb : b = PT
        · rw [hb] at e ⊢
          rw [tP] at e
          cases e
          exact .inr (.inl ⟨(hC.tab tP).isCodeTable, rfl, #[], more, rfl, grown⟩)
        · exact .inl (old b o hb e)
      · by_cases hb : b = PT
        · rw [hb]
          exact ⟨_, grown⟩
        · exact ⟨o, old b o hb e⟩
  cases hk : K.lookup ad with
  | some o =>
    have e := inK ad o hk
    rw [ga] at e
    cases e
    refine main (fun b => if b = PT then some (.tbl #[]) else none) (if_pos rfl) (fun b => ?_) (.inr ⟨_, vs.toArray, _, hk, rfl, rfl, rfl, by rw [List.size_toArray, lnv]; exact len, by simpa using rel⟩) (fun b u z => ?_) (fun b z => ?_) (fun z => absurd (if_neg nab) z)
    · by_cases hb : b = PT
      · exact .inr (.inl hb)
      · exact .inl (if_neg hb)
    · by_cases hb : b = PT
      · rw [hb] at z ⊢
        have z' := (if_pos rfl).symm.trans z
        cases z'
        exact tP
      · exact (nomatch (if_neg hb).symm.trans z)
    · by_cases hb : b = PT
      · exact .inr hb
      · exact absurd (if_neg hb) z
  | none =>
    refine main (fun b => if b = ad then some (.frz { cls := .type "list", data := .seq vs.toArray } (.lst (ns.map V.int))) else if b = PT then some (.tbl #[]) else none) ((if_neg (fun z => nab z.symm)).trans (if_pos rfl)) (fun b => ?_) (.inl (.inr ⟨{ cls := .type "list", data := .seq vs.toArray }, if_pos rfl⟩)) (fun b u z => ?_) (fun b z => ?_) (fun _ => hk)
    · by_cases eb : b = ad
      · exact .inr (.inr ⟨_, _, if_pos eb⟩)
      · by_cases hb : b = PT
        · exact .inr (.inl hb)
        · exact .inl ((if_neg eb).trans (if_neg hb))
    · by_cases eb : b = ad
      · subst eb
        have z' := (if_pos rfl).symm.trans z
        cases z'
        exact ⟨ga, by rw [List.length_map]; exact len, vs, _, rel, ga⟩
      · have z1 := (if_neg eb).symm.trans z
        by_cases hb : b = PT
        · rw [hb] at z1 ⊢
          have z' := (if_pos rfl).symm.trans z1
          cases z'
          exact tP
        · exact (nomatch (if_neg hb).symm.trans z1)
    · by_cases eb : b = ad
      · exact .inl eb
      · by_cases hb : b = PT
        · exact .inr hb
        · exact absurd ((if_neg eb).trans (if_neg hb)) z
/-- what the head tells of the law, of the table PT of the code object cT -/
structure LawGT1 (l : PySem.W.OpenLaw) (w : World) (K : PySem.W.Frag) (k : Nat) (x : Str) (mg : Str → Option Value) (fa : Addr) (h : Heap) : Prop where
  ex : ∃ (fd : FuncData) (cT PT : Addr) (sp : Sp), h.get? PT = some { cls := .none, data := .fields #[] } ∧ K.lookup PT = none ∧ PySem.W.CodeHd h cT PT ∧ (∀ (s : Shared) (u : Value), BindsTo s fd ⟨[u], []⟩ [(x, u)]) ∧
    (∀ (H : Hp) (a : Addr) (ns : List Int), ns.length ≤ 63 → H PT = some (.tbl #[]) → SqL K H a (ns.map V.int) → sp [.ref a] H (fun v _ => v = .bl true) fun _ _ _ => False) ∧
    ∀ base : Heap, K.In base → base.Ns mainGlobals mg → (∃ o, base.get? 1 = some o) → LamX.TabB base mg cT PT → FnG l.prog w K mg base k fa fd [x] sp
theorem walkGT1 {l : PySem.W.OpenLaw} {k : Nat} {q : Program} {loose : List Str} {XP : (Str → Option Value) → Heap → Prop} {YP : World → Heap → Prop} {d : DefRec} {K : Params → PySem.W.Frag} {x : Str}
    (noImp : importsNone q = true) (most : l.most = some 63) (nodf : d.params.defaults = []) (rm : Room k callerA) (inY : ∀ (w : World) (h : Heap), YP w h → (K w.params).In h)
    (F : ∀ (w : World) (mg : Str → Option Value) (fa : Addr) (h : Heap), YP w h → (K w.params).In h → h.Ns mainGlobals mg → mg d.name = some (.ref fa) → LawGT1 l w (K w.params) k x mg fa h) : PySem.W.WalkO q loose XP YP l.row.toRowW d [] (fun f vs => PySem.call f vs) := by
  refine Att.attach_call most nodf fun w s₀ sh mg mb fa o pm cd doc a vs ns G Y ho hd hcd hmg hobj hints hlen hg => ?_
  have inK := inY w _ Y
  obtain ⟨fd, cT, PT, sp, tP, nP, hC, hb, hp, hF⟩ := (F w mg fa _ Y inK G.T.g hmg).ex
  exact lawGT1 inK G.T.g G.T.b G.T.builtins G.T.nolimit hg (let ⟨mm, h, _⟩ := (G.T.seer noImp).mods; ⟨mm, h⟩) tP nP hC G.T.bmain hobj hints (Nat.le_trans hlen (by decide)) rm hF hb (fun H hH hS => hp H a ns hlen hH hS)
end Lf
namespace Lf
open PySem PySem.Spec PyProof.Rows L2
/-! ### an own exception class over ValueError whose __init__ says super().__init__(text), self.x = x -/
/-- the context of such an __init__ at its entry -/
def cxSup (P : Program) (w : World) (K : PySem.W.Frag) (mg : Str → Option Value) (base : Heap) (N : List Str) (env : Env) (A : Around) (outer : List Env) (s : Shared) (H : Hp) : Cx where
  prog := P
  w := w
  K := K
  mg := mg
  base := base
  A := A.deeper env
  N := N
  s_0 := s
  H_0 := H
  env := env
  outer := outer
  stack := env :: outer
  ex := []
  calm := true
  fn := fun _ => false
  pn := []
  xe := fun _ _ => False
/-- what it promises -/
def spIni (C : Addr) (x : Str) : Sp := fun vs H Q _ => ∃ (a : Addr) (v : V), vs = [.ref a, v] ∧ H a = some (exo a C none) ∧
  ∀ dx, H dx = none → dx ≠ a → Q .non (upd (upd H dx (exd dx [(x, v)])) a (exo a C (some dx)))
/-- its text -/
structure IniT (x : Str) (params : Arguments) (body : List Stmt) (scope : Scope) : Prop where
  pa : ∃ ar, (params.posonlyargs ++ params.args).head? = some ar ∧ ar.arg = "self"
  bd : ∃ txt p0 p1 p2 p3 p4 p5 p6 p7 p8 p9 j, body = [.Expr (.Call (.Attribute (.Call (.Name "super" p0) [] [] p1) "__init__" p2) [.Constant (.str txt) j p3] [] p4) p5, .Assign [.Attribute (.Name "self" p6) x p7] (.Name x p8) p9] ∧
    ∃ pl : Env → Sem Bool, ∀ env : Env, eval (.Call (.Attribute (.Call (.Name "super" p0) [] [] p1) "__init__" p2) [.Constant (.str txt) j p3] [] p4) env = (do
      let ov ← attributeBase (.Call (.Name "super" p0) [] [] p1) "__init__" env (eval (.Call (.Name "super" p0) [] [] p1) env)
      standAt p2.atName
      let (f, first) ← holding [ov] (getMethod ov "__init__" (pl env))
      callWith p4 f first (backTo p4 (starEach [.Constant (.str txt) j p3] env)) [])
  ls : scope.names.lookup ("self" : Str) = some .local
  lx : scope.names.lookup x = some .local
  lc : scope.names.lookup ("__class__" : Str) = some .free
  lu : scope.names.lookup ("super" : Str) = some .globalImplicit
  nc : ∀ y ∈ scope.names, y.2 ≠ .cell
  nf : ∀ y ∈ scope.names, y.2 = .free → y.1 = "__class__"
  co : scope.isCoroutine = false
  ge : scope.isGenerator = false
  kd : scope.kind = .function
  ne : x ≠ "self"
  dx : (x == ("__debug__" : Str)) = false
  dc : (x == ("__classdict__" : Str)) = false
/-- what the written part tells of it -/
structure SupC (P : Program) (K : PySem.W.Frag) (C cda cc : Addr) (x : Str) : Prop where
  cls : OexC K C
  code : ∃ ccl cdd vs ccs file tf, K.lookup cda = some ⟨ccl, cdd, .fields vs, ccs⟩ ∧ vs[2]? = some (.str file tf) ∧ ((P.main.file : Str) == file) = true
  cell : ∃ cl cld csl, K.lookup cc = some ⟨cl, cld, .cell (some (.ref C)), csl⟩
  sub : PySem.W.mroIn K C (.ref C) = some true
  st : PySem.W.nsIn K cStatics "thirdparty.any" = some none
  sup : PySem.W.ks_superIn K C C "__init__" = some (some (.builtin "ValueError.__init__"))
  ve : PySem.W.subIn K (.ref C) (.type "ValueError") = some true
  no : PySem.W.findIn K (.ref C) x = some none
  top : (P.main.scope.names.lookup ("super" : Str)).isSome = false
theorem bt_super : bootBuiltins ("super" : Str) = Option.some (Value.type "super") := by decide +kernel
section
variable {P : Program} {w : World} {K : PySem.W.Frag} {mg : Str → Option Value} {base : Heap}
theorem fn_sup {CX : CXT} {C f cda cc : Addr} {name qual x : Str} {params : Arguments} {body : List Stmt} {scope : Scope} {dV kV doc pm ct oc : Value} {an od : Option Addr} {osl : Array (Option Value)}
    (lk : K.lookup f = some ⟨oc, od, .func (PySem.W.ksFn name qual params body scope dV kV doc pm an (.ref cda) ct cc), osl⟩) (hcd : PySem.W.codeIn K (.ref cda) qual = true) (T : IniT x params body scope) (S : SupC P K C cda cc x) (ms : mg "super" = none) :
    FnOk P w K mg base CX 1 f (PySem.W.ksFn name qual params body scope dV kV doc pm an (.ref cda) ct cc) ["self", x] (spIni C x) := by
  refine ⟨fun vs H Q E h => ?_, fun A outer s H args us vs Q E hr e0 hb r hsp => ?_⟩
  · obtain ⟨a, v, rfl, _⟩ := h
    rfl
  obtain ⟨a, v, rfl, ea, q⟩ := hsp
  obtain ⟨u, rfl, ru⟩ : ∃ u, us = [.ref a, u] ∧ RelV v u := by
    cases r with
    | cons ra r =>
      cases r with
      | cons rv r =>
        cases r
        cases ra
        exact ⟨_, rfl, rv⟩
  have KX : K.In s.heap := e0.mod.kin.keeps fun b o e => (e0.bs b o e).1
  have lim : s.heap.NoLimit := e0.mod.nolimit.keeps fun b o e => (e0.bs b o e).1
  refine ks_codeAny_call_defAt (fd := PySem.W.ksFn name qual params body scope dV kV doc pm an (.ref cda) ct cc) (body := body) hr.depth (KX _ _ lk) rfl lim (PySem.W.codeRec_of KX hcd) rfl hb T.nc (fun y hy => ?_) (fun h₀ hns hk => ?_) T.co T.ge T.kd
  · have : y = (("self" : Str), Value.ref a) ∨ y = (x, u) := by simpa using hy
    rcases this with rfl | rfl
    · exact T.ls
    · exact T.lx
  obtain ⟨txt, p0, p1, p2, p3, p4, p5, p6, p7, p8, p9, j, rfl, pl, hpl⟩ := T.bd
  obtain ⟨ar, har, ear⟩ := T.pa
  obtain ⟨cl, cld, csl, hcell⟩ := S.cell
  obtain ⟨ccl, cdd, fvs, ccs, file, tf, hcode, hvs, hfile⟩ := S.code
  show _root_.PySem.wpAt _ (A.deeper (PySem.W.ksEnv qual scope s.heap.objs.size f (.ref cda) cc)) (.func _ (PySem.W.ksEnv qual scope s.heap.objs.size f (.ref cda) cc)) (execs _ (PySem.W.ksEnv qual scope s.heap.objs.size f (.ref cda) cc)) _ _ _
  generalize hX : cxSup P w K mg base ["self", x] (PySem.W.ksEnv qual scope s.heap.objs.size f (.ref cda) cc) A outer s H = X
  have bcell : base.get? cc = some ⟨cl, cld, .cell (some (.ref C)), csl⟩ := e0.mod.kin _ _ hcell
  have luc : ∀ y c, List.lookup y [(("__class__" : Str), cc)] = some c → y = "__class__" ∧ c = cc := fun y c h => by
    rw [List.lookup_cons] at h
    by_cases hy : (y == ("__class__" : Str)) = true
    · rw [hy] at h
      exact ⟨by simpa using hy, (Option.some.inj h).symm⟩
    · rw [Bool.not_eq_true] at hy
      rw [hy] at h
      cases h
  have noA : ∀ b : Addr, b ∉ ([] : List Addr) := fun b z => nomatch z
  have I : Inv X [] [some (.ref a), some v] H { s with heap := h₀, toks := s.toks + [(("self" : Str), Value.ref a), (x, u)].length } := by
    subst hX
    refine ⟨⟨e0.mod, T.kd, rfl, rfl, Nat.le_refl _, fun y z c h1 h2 => ?_, fun y hy => ?_, fun y c z _ => (nomatch z), fun _ => hr.hd, Around.frames_deeper e0.frames, .inr ⟨rfl, rfl⟩, fun b z => absurd z (noA b), e0.bs, e0.bsz, fun b _ _ => noA b, fun b z => absurd z (noA b), e0.funs, e0.frf⟩,
      rfl, e0.bare, Un.kept hk, ⟨_, hns, fun i y v' h1 h2 h3 => ?_⟩, fun y c h => ?_, e0.hok.fresh (Nat.le_refl _), fun y c h => ?_, fun p hp => absurd (show p ∈ ([] : List (Addr × Obj)) from hp) (by simp), e0.hok.kept hk, rfl⟩
    · rw [(luc y c h1).1, (luc z c h2).1]
    · have hy : scope.names.lookup y = some .cell ∨ scope.names.lookup y = some .free := hy
      rcases hy with hy | hy
      · exact absurd rfl (T.nc _ (PySem.mem_of_lookup hy))
      · have := T.nf _ (PySem.mem_of_lookup hy) rfl
        dsimp only at this
        subst this
        exact ⟨cc, rfl⟩
    · match i, h1, h2 with
      | 0, h1, h2 =>
        cases h1
        cases h2
        refine ⟨.ref a, rfl, .inl ⟨T.ls, ?_⟩⟩
        show List.lookup _ [(x, u), ("self", .ref a)] = _
        rw [List.lookup_cons, show (("self" : Str) == x) = false by simpa using fun z => T.ne z.symm]
        rfl
      | 1, h1, h2 =>
        cases h1
        cases h2
        refine ⟨u, ru, .inl ⟨T.lx, ?_⟩⟩
        show List.lookup _ [(x, u), ("self", .ref a)] = _
        rw [List.lookup_cons, beq_self_eq_true]
    · obtain ⟨_, rfl⟩ := luc y c h
      exact ⟨_, _, hk _ _ ((e0.bs _ _ bcell).1), rfl⟩
    · obtain ⟨_, rfl⟩ := luc y c h
      exact (e0.bs _ _ bcell).2
  have eE : X.env = PySem.W.ksEnv qual scope s.heap.objs.size f (.ref cda) cc := by subst hX; rfl
  have eA : X.A = A.deeper (PySem.W.ksEnv qual scope s.heap.objs.size f (.ref cda) cc) := by subst hX; rfl
  have eP : X.prog = P ∧ X.w = w ∧ X.K = K ∧ X.mg = mg ∧ X.base = base ∧ X.N = [("self" : Str), x] ∧ X.stack = PySem.W.ksEnv qual scope s.heap.objs.size f (.ref cda) cc :: outer ∧ X.s_0 = s ∧ X.H_0 = H ∧ X.outer = outer ∧ X.ex = [] := by subst hX; exact ⟨rfl, rfl, rfl, rfl, rfl, rfl, rfl, rfl, rfl, rfl, rfl⟩
  have Z : ∀ s', (∃ σ' H', Inv X [] σ' H' s' ∧ Q .non H') → CR CX outer P w H s Q E (.ok (.ret .none)) s' := fun s' ⟨σ', H', J, q'⟩ => by
    subst hX
    exact ⟨.non, H', J.os, J.bare, J.base, J.hok, rfl, q'⟩
  have hxe : ∀ e s', X.xe e s' → False := by subst hX; exact fun _ _ z => z
  have hprog : X.prog = P := by subst hX; rfl
  have hw : X.w = w := by subst hX; rfl
  have hK : X.K = K := by subst hX; rfl
  have hmg : X.mg = mg := by subst hX; rfl
  have hN : X.N = [("self" : Str), x] := by subst hX; rfl
  subst hprog hw hK hmg
  rw [← eA, ← eE]
  obtain ⟨nm, qn, N, bs, bm, sn, sub, ab, col, dd, k0, k1, k2, k3, k5, hC, hbm⟩ := S.cls.cls
  obtain ⟨t1, ho⟩ := exo_at I.hok ea
  obtain ⟨cdD, hcl⟩ : ∃ cdD, PySem.W.clsIn X.K C = some cdD := ⟨_, by unfold PySem.W.clsIn; rw [hC] <;> rfl⟩
  have hne : ¬ (("__init__" : Str) == ("__class__" : Str)) = true := by decide
  have hbase : ∀ s', Inv X [] [some (.ref a), some v] H s' → (∃ m, s'.heap.Ns X.env.locals m ∧ m "self" = some (.ref a)) := fun s' J => by
    obtain ⟨m, hn, hl⟩ := J.loc
    obtain ⟨u', ru', lk'⟩ := hl 0 "self" (.ref a) (by rw [hN]; rfl) rfl (by rw [eE]; exact .inl T.ls)
    cases ru'
    rcases lk' with ⟨_, e⟩ | ⟨z, _⟩
    · exact ⟨m, hn, e⟩
    · rw [eE] at z
      have z : scope.names.lookup ("self" : Str) = some .cell ∨ scope.names.lookup ("self" : Str) = some .free := z
      rw [T.ls] at z
      rcases z with z | z <;> cases z
  obtain ⟨m, hn, hself⟩ := hbase _ I
  obtain ⟨mb, hb1, hb2⟩ := I.mod.blt
  have hfr : ∀ {s'} , Inv X [] [some (.ref a), some v] H s' → ∃ o, s'.heap.get? a = some o ∧ o.cls = .ref C ∧ ∀ c, o.data ≠ .cls c := fun {s'} J => by
    obtain ⟨t1, h1⟩ := exo_at J.hok ea
    exact ⟨_, h1, rfl, fun c z => by cases z⟩
  obtain ⟨oD, hD1, hD2⟩ : ∃ oD, h₀.get? C = some oD ∧ oD.data = .cls cdD := by
    unfold PySem.W.clsIn at hcl
    split at hcl
    · rename_i c d cd' sl hoo
      cases hcl
      exact ⟨_, I.kIn _ _ hoo, rfl⟩
    · cases hcl
  refine ks_wpAt_execs_cons (ks_wpAt_Expr_any (ks_wpAt_MethodCall (pl := pl X.env) ?_ (hpl X.env)) ?hi ?hs)
  case hi => exact I.quiet
  case hs => rfl
  refine ks_wpAt_super_base (env := X.env) (attr := "__init__") (f := f) (cc := cda) (fd := PySem.W.ksFn name qual params _ scope dV kV doc pm an (.ref cda) ct cc) (ar := ar) (by rw [eE]; exact T.lu) (by rw [eE]; exact T.lc) (by decide) (by rw [eE]) (I.kIn _ _ lk) rfl har (by rw [eE]) (I.kIn _ _ hcode) rfl hvs hfile S.top ?_
  refine PySem.W.ks_loadName_global I.ok.kind (by rw [eE]; exact T.lu) (Calls.loadGlobal_builtin (by rw [I.ok.glob]; exact I.mod.glob.keeps I.bk) ms (by rw [I.ok.blt]; exact hb1.keeps I.bk) ((hb2 _ (by decide)).trans bt_super) ⟨rfl, ?_⟩)
  refine wpAny_loadName_free I.ok.kind (by rw [eE]; exact T.lc) (by rw [eE]; rfl) ⟨_, I.kIn _ _ hcell, rfl⟩ ?_
  rw [ear]
  refine wpAny_loadName_local I.ok.kind (by rw [eE]; exact T.ls) hn hself ?_
  refine ks_wpAny_isType_cls hD1 hD2 ⟨rfl, ?_⟩
  refine ks_wpAny_call_super hD1 hD2 ho rfl (fun c z => by cases z) (PySem.W.looks_mroIn I.kIn S.sub) (fun h1 e1 kk1 => ?_)
  have I1 := I.kept (t' := s.toks + [(("self" : Str), Value.ref a), (x, u)].length) kk1
  have hm : PySem.W.alongIn X.K "__init__" ((cdD.mro.dropWhile (· != .ref C)).drop 1) = some (some (.builtin "ValueError.__init__")) := by
    have z := S.sup
    unfold PySem.W.ks_superIn at z
    rw [hcl, Option.bind_some] at z
    exact z
  obtain ⟨t2, ho1⟩ := exo_at I1.hok ea
  have IA : PySem.W.InstAt h1 a { cls := .ref C, dict := none, data := .fields #[.ref t2, .none, .none, .none, .bool false, .none] } C none := ⟨ho1, rfl, rfl, trivial⟩
  refine PySem.W.kxs_getMethod PySem.W.kxs_ValueError e1 (PySem.W.looks_opaque I1.kIn S.st) (l₀ := cdD.mro) (fun A Q E s k q => wpAny_bind ((PySem.W.looks_clsIn I1.kIn hcl) A _ E s k (wpAny_pure q))) rfl I1.kIn hm (IA.type.andThen (PySem.W.looks_subIn I1.kIn S.ve)) (PySem.W.ks_ne I1.kIn IA hcl) (by decide) ?_
  have I2 := I1.kept (h' := h1.push (PySem.W.kxs_mw "ValueError.__init__" a)) (t' := s.toks + [(("self" : Str), Value.ref a), (x, u)].length + 1) (fun b o e => Heap.get?_push_of_some _ e)
  have hmw : (h1.push (PySem.W.kxs_mw "ValueError.__init__" a)).get? h1.objs.size = some (PySem.W.kxs_mw "ValueError.__init__" a) := Heap.get?_push_at rfl rfl
  have I3 : Inv X [(h1.objs.size, PySem.W.kxs_mw "ValueError.__init__" a)] [some (.ref a), some v] H _ := I2.pins_of (fun p hp => by
    have hp : p = (h1.objs.size, PySem.W.kxs_mw "ValueError.__init__" a) := by simpa using hp
    subst hp
    exact ⟨hmw, I1.hok.fresh (Nat.le_refl _), fun z => absurd I1.lt (by rw [← z]; exact Nat.lt_irrefl _), I1.nofs (Nat.le_refl _), fun v z => by cases z⟩)
  have hst : starEach [Expr.Constant (Const.str txt) j p3] X.env = (false, eval (Expr.Constant (Const.str txt) j p3) X.env) :: starEach [] X.env := rfl
  refine PySem.W.kxs_callWith (i := "ValueError.__init__") (x := a) (by rfl) ?_
  show wpAny _ _ (evalArgs _ true ((false, eval (Expr.Constant (Const.str txt) j p3) X.env) :: _) []) _ _ _
  refine Calls.evalArgs_plain ?_
  have hpa : L2.PA X [Expr.Constant (Const.str txt) j p3] (tCons (tC (.str txt)) tNil) := pa_cons pe_str pa_nil
  refine thn (hpa.run p4 _ _ _ H (fun vs H' => H' = H ∧ vs = [.str txt]) I3 ⟨rfl, rfl⟩) fun us s4 ⟨vs, H4, I4, r4, eH, ev⟩ => ?_
  subst eH ev
  have hu4 := (I4.pin (h1.objs.size, PySem.W.kxs_mw "ValueError.__init__" a) (by simp)).1
  refine ⟨hu4, ?_⟩
  obtain ⟨t3, ho4⟩ := exo_at I4.hok ea
  have hlen : us.length ≤ sizeLine := by
    rw [← r4.length]
    rw [sizeLine_eq]; exact (by show 1 ≤ _; omega)
  obtain ⟨h4, g4, d4, t4, os4⟩ := s4
  refine wpAny_call (codeAny_of_tree ?_)
  show wpAny _ _ (callAny (.ref h1.objs.size) ⟨us, []⟩) _ _ _
  simp only [callAny]
  refine wpAny_bind (wpAny_load hu4 ?_)
  simp only [PySem.W.kxs_mw, show (Value.type "method-wrapper" == Value.type "method" || Value.type "method-wrapper" == Value.type "builtin_function_or_method" || Value.type "method-wrapper" == Value.type "method-wrapper") = true by decide, if_true]
  refine PySem.W.KFB.if_so (by decide) ?_
  refine wpAny_bind (PySem.W.check_bound_init F.excBase_ValueError.toExcCallFacts (I4.kIn _ _ hC) ho4 rfl ?_)
  refine wpAny_bind (wpAny_pure (wpAny_pure ?_))
  refine ⟨plainId_quiet F.excBase_ValueError.init.plain _, codeAny_builtin F.excBase_ValueError.initEntry ?_⟩
  refine PySem.W.exc_init_tree (cls := .ref C) (t0 := t3) (dv := none) (c2 := .none) (c3 := .none) (b4 := .bool false) ho4 hlen (fun h5 k5 e5 _ => ?_)
  have J5 := I4.write (t' := t4) (x := a) (e := a) (o := exo a C none) (by rw [ea]; exact True.intro) (.inl rfl) k5 ⟨_, e5⟩ (exo_ok e5)
  have eu : upd H4 a (exo a C none) = H4 := by
    funext b
    by_cases hb : b = a
    · rw [hb, upd_same, ea]
    · rw [upd_ne hb]
  rw [eu] at J5
  have J6 : Inv X [] [some (.ref a), some v] H4 _ := J5.pins_of (fun p hp => nomatch hp)
  have hps : PSs X [Stmt.Assign [(Expr.Name "self" p6).Attribute x p7] (Expr.Name x p8) p9] (tOst X.K x (tVar 0) (tVar 1)) :=
    pss_one (ps_ost (pe_var (by rw [hN]; rfl) (by rw [eE]; exact .inl T.ls) (by decide) (by decide)) (pe_var (by rw [hN]; rfl) (by rw [eE]; exact .inl T.lx) T.dx T.dc))
  show _root_.PySem.wpAt _ _ _ _ _ _ _
  refine wpAt_of_wpAny (wpAny_mono (hps.run [] _ _ H4 { nx := fun _ H' => Q .non H', rt := fun _ _ => False } J6 ?_) (fun fl s' hs => ?_) fun e s' hs => ?_)
  · exact ⟨_, rfl, _, rfl, a, C, rfl, S.cls, S.no, .inl ⟨ea, fun dx n ne => q dx n ne⟩⟩
  · cases fl with
    | ret u =>
      obtain ⟨v, σ', H', J, rv, q⟩ := hs
      exact False.elim q
    | next =>
      obtain ⟨σ', H', J, q⟩ := hs
      exact Z s' ⟨σ', H', J, q⟩
    | brk =>
      obtain ⟨_, _, _, q⟩ := hs
      exact False.elim q
    | cont =>
      obtain ⟨_, _, _, q⟩ := hs
      exact False.elim q
  · exact (hxe _ _ hs).elim
end

section
variable {P : Program} {w : World} {K : PySem.W.Frag} {mg : Str → Option Value} {base : Heap}
/-- what the top tells of such a class: at C, its __init__ at fI, its name nm, its field x -/
structure ValC (P : Program) (K : PySem.W.Frag) (mg : Str → Option Value) (C : Addr) (nm x : Str) : Prop where
  gC : mg nm = some (.ref C)
  ini : ∃ (fI cda cc : Addr) (qual : Str) (params : Arguments) (body : List Stmt) (scope : Scope) (kV doc pm ct oc : Value) (an od : Option Addr) (osl : Array (Option Value)),
    K.lookup fI = some ⟨oc, od, .func (PySem.W.ksFn "__init__" qual params body scope .none kV doc pm an (.ref cda) ct cc), osl⟩ ∧ PySem.W.codeIn K (.ref cda) qual = true ∧ IniT x params body scope ∧ SupC P K C cda cc x ∧
    PySem.W.findIn K (.ref C) "__init__" = some (some (.ref fI)) ∧ PySem.W.typeIn K (.ref fI) = some (.type "function") ∧ Binds K (PySem.W.ksFn "__init__" qual params body scope .none kV doc pm an (.ref cda) ct cc) ["self", x] []
  ms : mg "super" = none
  ex : ExcC K C
  sf : PySem.W.subIn K (.ref C) (.ref C) = some true
theorem ValC.oex {C : Addr} {nm x : Str} (T : ValC P K mg C nm x) : OexC K C := by
  obtain ⟨fI, cda, cc, qual, params, body, scope, kV, doc, pm, ct, oc, an, od, osl, _, _, _, S, _⟩ := T.ini
  exact S.cls
theorem ValC.raises {X : Cx} {C : Addr} {nm x : Str} (T : ValC P X.K X.mg C nm x) : Raises X (.ref C) := raises_own T.oex.exC T.oex.tyC
theorem ValC.meets {C : Addr} {nm x : Str} (T : ValC P K mg C nm x) : PySem.W.exmOne K (.ref C) (.ref C) = some true := PySem.W.exm_ref T.ex.hs T.ex.hd T.oex.tyC T.sf
theorem ValC.no {C : Addr} {nm x : Str} (T : ValC P K mg C nm x) : PySem.W.findIn K (.ref C) x = some none := by
  obtain ⟨fI, cda, cc, qual, params, body, scope, kV, doc, pm, ct, oc, an, od, osl, _, _, _, S, _⟩ := T.ini
  exact S.no
theorem ValC.xf {C : Addr} {nm x : Str} (T : ValC P K mg C nm x) : XfC K C := ⟨T.ex.hg, T.ex.hk, T.ex.hs, T.ex.hd⟩
theorem back_to {H1 : Hp} {a d C : Addr} {fs : List (Str × V)} (ha : H1 a = none) (hd : d ≠ a) :
    upd (del (upd (upd (upd H1 a (exo a C none)) d (exd d fs)) a (exo a C (some d))) a) d (.xd fs) = upd H1 d (.xd fs) := by
  funext b
  by_cases h1 : b = d
  · subst h1
    rw [upd_same, upd_same]
  · rw [upd_ne h1, upd_ne h1]
    by_cases h2 : b = a
    · subst h2
      rw [del_same, ha]
    · rw [del_ne h2, upd_ne h2, upd_ne h1, upd_ne h2]
/-- nm(e): the exception, its value -/
theorem pmk_val {X : Cx} {C : Addr} {nm x : Str} {e : Expr} {te : TE} {p pos : Pos} {j : Nat} (T : ValC X.prog X.K X.mg C nm x) (hr : Room j X.A) (hj : 2 ≤ j) (hg : Gl X nm) (he : PE X e te)
    (hdb : (nm == ("__debug__" : Str)) = false := by decide) (hs : starEach [e] X.env = (false, eval e X.env) :: starEach [] X.env := by rfl) :
    PMk X (.Call (.Name nm p) [e] [] pos) (tMkO C (spIni C x) [] (tCons te tNil)) := by
  obtain ⟨fI, cda, cc, qual, params, body, scope, kV, doc, pm, ct, oc, an, od, osl, lk, hcd, iT, S, fi, ti, bi⟩ := T.ini
  have F := fn_sup (P := X.prog) (w := X.w) (base := X.base) (CX := CX0) lk hcd iT S T.ms
  exact pmk_oex (X := X) (p := p) (pos := pos) (x := nm) S.cls fi ti F (hr.mono hj) bi .nil (fun _ _ _ _ _ _ _ z => z.elim) hg T.gC (pa_cons he pa_nil hs) hdb hs
theorem mkv {C : Addr} {x : Str} {v : V} {H1 : Hp} {Q : XK} (h : ∀ d, H1 d = none → Q (.ref C) (some d) (upd H1 d (.xd [(x, v)]))) : [v].length ≤ 1000 ∧ ∀ a, H1 a = none → spIni C x (.ref a :: ([v] ++ [])) (upd H1 a (exo a C none))
    (fun v H2 => v = .non ∧ ∃ (d : Addr) (fs : List (Str × V)), H2 a = some (exo a C (some d)) ∧ H2 d = some (exd d fs) ∧ H1 d = none ∧ Q (.ref C) (some d) (upd (del H2 a) d (.xd fs))) (fun _ _ _ => False) := by
  refine ⟨by show 1 ≤ 1000; decide, fun a ha => ⟨a, v, rfl, upd_same, fun dx hx hne => ⟨rfl, dx, [(x, v)], upd_same, ?_, ?_, ?_⟩⟩⟩
  · rw [upd_ne hne, upd_same]
  · rw [upd_ne hne] at hx
    exact hx
  · rw [back_to ha hne]
    rw [upd_ne hne] at hx
    exact h dx hx
/-! ### isinstance of a caught exception that has its dict -/
/-- in the suite -/
def rIsV (K : PySem.W.Frag) (D a dd : Addr) : List V → Hp → VK → Prop := fun xs H Q => ∃ (c : V) (cv : Value) (b : Bool) (fs : List (Str × V)), xs = [.ref a, c] ∧ (∀ u, RelV c u → u = cv) ∧ PySem.W.kitOne K (.ref D) cv = some b ∧ H dd = some (.xd fs) ∧ Q (.bl b) H
theorem call_isV {X : Cx} {a D dd : Addr} {oe : Obj} {pn : List (Addr × Obj)} (C : ExcC X.K D) (hz : Zc (.ref D) (some dd) oe) (hf : ∃ vs, oe.data = .fields vs) : CallR (X.suite a ((a, oe) :: pn)) (.builtin "isinstance") (rIsV X.K D a dd) := by
  intro pins s σ H xs us Q I r h
  obtain ⟨c, cv, b, fs, rfl, hcv, e, ed, q⟩ := h
  cases r with
  | cons rx rr =>
    cases rr with
    | cons rt rr =>
      cases rr
      cases rx
      obtain ⟨ge, _⟩ := I.pin (a, oe) (List.mem_append.mpr (.inl List.mem_cons_self))
      obtain ⟨vs, hv⟩ := hf
      obtain ⟨mA, hns, _⟩ := (show ObjOk X.prog X.w H s.heap dd (.xd fs) from I.hok dd _ ed)
      obtain ⟨od, _, _, ho, _⟩ := hns
      have J : PySem.W.InstAt s.heap a oe D (some od) := by
        obtain ⟨oc, od', oda, osl⟩ := oe
        obtain ⟨h1, h2⟩ := hz
        dsimp only at h1 h2 hv
        subst h1 h2 hv
        exact ⟨ge, rfl, rfl, ho⟩
      have hcl : (PySem.W.clsIn X.K D).isSome = true := by
        obtain ⟨cd, hc, _⟩ := PySem.W.any_some C.hd
        rw [hc]
        rfl
      have kx := PySem.W.kitx_exc (x := a) (ox := oe) (od := some od) hcl C.hg C.hk C.hs C.ha C.hn C.ht C.hm
      have ec := hcv _ rt
      subst ec
      exact PySem.W.kia_one kx I.kIn J e (fun z => nomatch z) fun tk => ⟨.bl b, H, I.kept (t' := tk) fun _ _ z => z, rfl, q⟩
end
end Lf
namespace Lf
open PySem PySem.Spec PyProof.Rows L2
/-! ### data of any kind -/
mutual
inductive Dv (H : Hp) : V → PyData → Prop
  | non : Dv H .non .none
  | bl (b : Bool) : Dv H (.bl b) (.bool b)
  | int (i : Int) : Dv H (.int i) (.int i)
  | str (x : Str) : Dv H (.str x) (.str x)
  | lst {a : Addr} {xs : List V} {ds : List PyData} : a ≠ 1 → H a = some (.lst xs) → DvAll H xs ds → Dv H (.ref a) (.list ds)
  | tup {a : Addr} {xs : List V} {ds : List PyData} : H a = some (.tup xs) → DvAll H xs ds → Dv H (.ref a) (.tuple ds)
  | dk0 {a : Addr} : H a = some (.dK []) → Dv H (.ref a) (.dict [])
  | dk1 {a : Addr} {x : Str} {v : V} {d : PyData} : H a = some (.dK [(Sum.inr x, v)]) → Dv H v d → Dv H (.ref a) (.dict [(.str x, d)])
inductive DvAll (H : Hp) : List V → List PyData → Prop
  | nil : DvAll H [] []
  | cons {v : V} {vs : List V} {d : PyData} {ds : List PyData} : Dv H v d → DvAll H vs ds → DvAll H (v :: vs) (d :: ds)
end
/-- what such data leans on stays -/
structure Kp (H H' : Hp) : Prop where
  l : ∀ b xs, H b = some (.lst xs) → H' b = some (.lst xs)
  t : ∀ b xs, H b = some (.tup xs) → H' b = some (.tup xs)
  d0 : ∀ b, H b = some (.dK []) → H' b = some (.dK [])
  d1 : ∀ b x v, H b = some (.dK [(Sum.inr x, v)]) → H' b = some (.dK [(Sum.inr x, v)])
theorem Fr.kp {H H' : Hp} (f : Fr H H') : Kp H H' := ⟨f.l, f.t, f.d0, fun b x v h => f.k _ _ h fun _ z => by cases z⟩
theorem ext_kp {H H' : Hp} (e : LamX.ExtN H H') : Kp H H' := ⟨fun _ _ h => e _ _ h (fun _ z => by cases z), fun _ _ h => e _ _ h (fun _ z => by cases z), fun _ h => e _ _ h (fun _ z => by cases z), fun _ _ _ h => e _ _ h (fun _ z => by cases z)⟩
mutual
theorem Dv.kp {H H' : Hp} (f : Kp H H') : ∀ (d : PyData) (v : V), Dv H v d → Dv H' v d
  | .none, _, .non => .non
  | .bool _, _, .bl b => .bl b
  | .int _, _, .int i => .int i
  | .str _, _, .str x => .str x
  | .list ds, _, .lst n h hs => .lst n (f.l _ _ h) (Dv.kpAll f ds _ hs)
  | .tuple ds, _, .tup h hs => .tup (f.t _ _ h) (Dv.kpAll f ds _ hs)
  | .dict [], _, .dk0 h => .dk0 (f.d0 _ h)
  | .dict [(.str _, d)], _, .dk1 h h2 => .dk1 (f.d1 _ _ _ h) (Dv.kp f d _ h2)
theorem Dv.kpAll {H H' : Hp} (f : Kp H H') : ∀ (ds : List PyData) (vs : List V), DvAll H vs ds → DvAll H' vs ds
  | [], _, .nil => .nil
  | d :: ds, _, .cons h hs => .cons (Dv.kp f d _ h) (Dv.kpAll f ds _ hs)
end
theorem Dv.fr {H H' : Hp} (f : Fr H H') (d : PyData) (v : V) (h : Dv H v d) : Dv H' v d := Dv.kp f.kp d v h
section
variable {X : Cx} {pins : List (Addr × Obj)} {σ : L2.St} {H : Hp} {s : Shared}
mutual
theorem Dv.reads (I : Inv X pins σ H s) : ∀ (d : PyData) (v : V) (u : Value), Dv H v d → RelV v u → ∃ as, Reads s.heap u d as ∧ sysModules ∉ as
  | .none, _, _, .non, r => by
    cases r
    exact ⟨_, Reads.none, by simp⟩
  | .bool b, _, _, .bl _, r => by
    cases r
    exact ⟨_, Reads.bool b, by simp⟩
  | .int i, _, _, .int _, r => by
    obtain ⟨t, rfl⟩ := r
    exact ⟨_, Reads.int i t, by simp⟩
  | .str x, _, _, .str _, r => by
    obtain ⟨t, rfl⟩ := r
    exact ⟨_, Reads.str x t, by simp⟩
  | .list ds, _, _, .lst n1 h hs, r => by
    cases r
    obtain ⟨its, rv, ⟨o, n, ho, hc, _, hd⟩, _⟩ := I.list (SqL.of h)
    obtain ⟨as, hr, ns⟩ := Dv.readsAll I ds _ its hs rv
    exact ⟨_, Reads.list ho hc hd hr, fun z => (List.mem_cons.mp z).elim (fun e => n1 e.symm) ns⟩
  | .tuple ds, _, _, .tup h hs, r => by
    cases r
    obtain ⟨its, rv, ⟨o, ho, hc, n, hd⟩, _⟩ := I.tuple (SqT.of h)
    obtain ⟨as, hr, ns⟩ := Dv.readsAll I ds _ its hs rv
    exact ⟨_, Reads.tuple ho hc hd hr, ns⟩
  | .dict [], _, _, .dk0 (a := a) h, r => by
    cases r
    obtain ⟨_, hne, vs, kv, o, es, ep, ho, hx, hd, hk, hp, hn⟩ := (show ObjOk X.prog X.w H s.heap a (.dK []) from I.hok a _ h)
    cases kv
    have he : es.toList = [] := by
      cases hE : es.toList with
      | nil => rfl
      | cons x y => rw [hE] at hp; cases hp
    refine ⟨_, Reads.dict (kvs := []) ho hx.1 hd (by rw [he]; exact .nil) (by rw [he]; exact .nil), ?_⟩
    intro z
    have z' : sysModules = a := by simpa using z
    rw [z'] at hne
    simp at hne
  | .dict [(.str x, d)], _, _, .dk1 (a := a) (v := v) h h2, r => by
    cases r
    obtain ⟨_, hne, vs, kv, o, es, ep, ho, hx, hd, hk, hp, hn⟩ := (show ObjOk X.prog X.w H s.heap a (.dK [(Sum.inr x, v)]) from I.hok a _ h)
    cases kv with
    | @cons _ q _ _ k1 k2 =>
      cases k2
      obtain ⟨qk, qv⟩ := q
      obtain ⟨ek, rv⟩ := k1
      dsimp only at ek rv
      subst ek
      obtain ⟨as, hr, ns⟩ := Dv.reads I d v qv h2 rv
      have hE : ∃ e t, es.toList = [e] ∧ e.key = .str x t ∧ e.val = qv := by
        generalize es.toList = l at hp
        cases hp with
        | @cons e _ es' _ hi hv hr =>
          cases hr
          rcases keyIs_shape (show keyIs (Sum.inr x) e.key = true from hi) with ⟨i, t, z, _⟩ | ⟨y, t, z, ev⟩
          · cases z
          · cases z
            exact ⟨e, t, rfl, ev, hv⟩
      obtain ⟨e, t, hE1, hE2, hE3⟩ := hE
      have q1 : ReadsAll s.heap (es.toList.map (·.key)) [PyData.str x] ([] ++ []) := by
        rw [hE1]
        simp only [List.map_cons, List.map_nil]
        rw [hE2]
        exact .cons (Reads.str x t) .nil
      have q2 : ReadsAll s.heap (es.toList.map (·.val)) [d] (as ++ []) := by
        rw [hE1]
        simp only [List.map_cons, List.map_nil]
        rw [hE3]
        exact .cons hr .nil
      refine ⟨_, Reads.dict (kvs := [(.str x, d)]) ho hx.1 hd q1 q2, fun z => ?_⟩
      have z' : sysModules = a ∨ sysModules ∈ as := by simpa using z
      rcases z' with z' | z'
      · rw [z'] at hne
        simp at hne
      · exact ns z'
theorem Dv.readsAll (I : Inv X pins σ H s) : ∀ (ds : List PyData) (vs : List V) (us : List Value), DvAll H vs ds → Vals vs us → ∃ as, ReadsAll s.heap us ds as ∧ sysModules ∉ as
  | [], _, _, .nil, r => by
    cases r
    exact ⟨_, ReadsAll.nil, by simp⟩
  | d :: ds, _, _, .cons h1 h2, r => by
    cases r with
    | cons r1 r2 =>
      obtain ⟨as, q1, n1⟩ := Dv.reads I d _ _ h1 r1
      obtain ⟨bs, q2, n2⟩ := Dv.readsAll I ds _ _ h2 r2
      exact ⟨_, ReadsAll.cons q1 q2, fun z => (List.mem_append.mp z).elim n1 n2⟩
end
end
/-- repr of such data -/
theorem repr_any {X : Cx} (gd : X.A.guards = some []) (hu : X.A.units + 70 < cLine) : CallR X (.builtin "repr") (fun xs H Q => ∃ (v : V) (d : PyData), xs = [v] ∧ Dv H v d ∧ d.showable = true ∧ d.depth ≤ 60 ∧ d.shown.length ≤ sizeLine ∧ Q (.str d.shown) H) := by
  intro pins s σ H xs us Q I rel h
  obtain ⟨v, d, rfl, dp, sw, dd, sz, hq⟩ := h
  obtain ⟨u, hu1, ru⟩ := vals1 rel
  subst hu1
  obtain ⟨as, rd, hsm⟩ := Dv.reads I d v u dp ru
  have big : ∀ a, u = Value.ref a → wpAny (model X.prog X.w) X.A (call (.builtin "repr") [u]) (EP X pins σ Q) X.xe s := fun a ea => by
    subst ea
    refine repr_of_reads' rd sw (fun _ => hsm) gd (by omega) (fun _ _ e => e) (fun h' u tk hk => ?_) sz
    exact ⟨.str d.shown, H, I.kept hk, ⟨u, rfl⟩, hq⟩
  cases dp with
  | non =>
    have eu : u = Value.none := ru
    subst eu
    exact PySem.P.repr_of_none ⟨.str "None", H, I.tok _, ⟨_, rfl⟩, hq⟩
  | bl b =>
    have eu : u = Value.bool b := ru
    subst eu
    refine PySem.P.repr_of_bool ⟨.str (if b then "True" else "False"), H, I.tok _, ⟨_, rfl⟩, ?_⟩
    cases b <;> exact hq
  | int i =>
    obtain ⟨t, rfl⟩ := ru
    refine PySem.P.repr_of_int (by simpa [PyData.showable] using sw) ⟨.str (toString i), H, I.tok _, ⟨_, rfl⟩, hq⟩
  | str x =>
    obtain ⟨t, rfl⟩ := ru
    exact PySem.P.repr_of_str ⟨.str (reprText x), H, I.tok _, ⟨_, rfl⟩, hq⟩ sz
  | lst _ h hs => exact big _ ru
  | tup h hs => exact big _ ru
  | dk0 h => exact big _ ru
  | dk1 h h2 => exact big _ ru
/-- the name of its type -/
def tyN : PyData → String
  | .none => "NoneType"
  | .bool _ => "bool"
  | .int _ => "int"
  | .str _ => "str"
  | .list _ => "list"
  | .tuple _ => "tuple"
  | .dict _ => "dict"
def isB : PyData → Bool
  | .bool _ => true
  | _ => false
def isIB : PyData → Bool
  | .bool _ => true
  | .int _ => true
  | _ => false
/-- an integer, not a bool -/
def isI : PyData → Bool
  | .int _ => true
  | _ => false
theorem Dv.ty {K : PySem.W.Frag} {H : Hp} {v : V} {d : PyData} (h : Dv H v d) : TyX K H v (.type (tyN d)) := by
  cases h with
  | non => exact .base .non
  | bl b => exact .base (.bl b)
  | int i => exact .base (.int i)
  | str x => exact .base (.str x)
  | lst _ h _ => exact .base (.lst h)
  | tup h _ => exact .base (.tup h)
  | dk0 h => exact .base (.dK h)
  | dk1 h _ => exact .base (.dK h)
theorem kit_int (d : PyData) : kitB (tyN d) "int" = some (isIB d) := by
  cases d
  · show kitB "NoneType" "int" = some false; decide +kernel
  · show kitB "bool" "int" = some true; decide +kernel
  · show kitB "int" "int" = some true; decide +kernel
  · show kitB "str" "int" = some false; decide +kernel
  · show kitB "list" "int" = some false; decide +kernel
  · show kitB "tuple" "int" = some false; decide +kernel
  · show kitB "dict" "int" = some false; decide +kernel
theorem kit_bool (d : PyData) : kitB (tyN d) "bool" = some (isB d) := by
  cases d
  · show kitB "NoneType" "bool" = some false; decide +kernel
  · show kitB "bool" "bool" = some true; decide +kernel
  · show kitB "int" "bool" = some false; decide +kernel
  · show kitB "str" "bool" = some false; decide +kernel
  · show kitB "list" "bool" = some false; decide +kernel
  · show kitB "tuple" "bool" = some false; decide +kernel
  · show kitB "dict" "bool" = some false; decide +kernel
/-- a new list is not where the modules are -/
def tLst1 (t : TA) : TE := fun σ H Q => t σ H fun xs H1 => xs.length ≤ sizeLine ∧ ∀ l, H1 l = none → l ≠ 1 → Q (.ref l) (upd H1 l (.lst xs))
theorem pe_lst1 {X : Cx} {es : List Expr} {t : TA} {pos : Pos} (h : L2.PA X es t) : PE X (.List es pos) (tLst1 t) := by
  constructor
  intro pins s σ H Q I hq
  refine wpAny_List_spliced (thn (h.run pos pins s σ H _ I hq) fun us s1 ⟨xs, H1, J, r, z, q⟩ => ?_)
  refine ⟨r.length ▸ z, ?_⟩
  have fresh := J.hok.fresh (Nat.le_refl s1.heap.objs.size)
  have n1 : s1.heap.objs.size ≠ 1 := by
    obtain ⟨o, _, _, e, _⟩ := J.mod.glob
    have lt := Heap.lt_size (J.bk _ _ e)
    intro c
    rw [c] at lt
    exact absurd lt (by decide)
  refine ⟨.ref s1.heap.objs.size, upd H1 s1.heap.objs.size (.lst xs), ?_, rfl, q _ fresh n1⟩
  exact J.laid (t' := s1.toks) (fun b u e => Heap.get?_push_of_some _ e) (Nat.le_refl _) ⟨z, us, 0, r, Heap.get?_push_size _ rfl⟩
end Lf
namespace Lf
open PySem PySem.Spec PyProof.Rows L2
/-! ### data of any kind at any address: where the modules are known to stand, nothing tracked is there -/
mutual
inductive DvF (H : Hp) : V → PyData → Prop
  | non : DvF H .non .none
  | bl (b : Bool) : DvF H (.bl b) (.bool b)
  | int (i : Int) : DvF H (.int i) (.int i)
  | str (x : Str) : DvF H (.str x) (.str x)
  | lst {a : Addr} {xs : List V} {ds : List PyData} : H a = some (.lst xs) → DvFAll H xs ds → DvF H (.ref a) (.list ds)
  | tup {a : Addr} {xs : List V} {ds : List PyData} : H a = some (.tup xs) → DvFAll H xs ds → DvF H (.ref a) (.tuple ds)
  | dk0 {a : Addr} : H a = some (.dK []) → DvF H (.ref a) (.dict [])
  | dk1 {a : Addr} {x : Str} {v : V} {d : PyData} : H a = some (.dK [(Sum.inr x, v)]) → DvF H v d → DvF H (.ref a) (.dict [(.str x, d)])
inductive DvFAll (H : Hp) : List V → List PyData → Prop
  | nil : DvFAll H [] []
  | cons {v : V} {vs : List V} {d : PyData} {ds : List PyData} : DvF H v d → DvFAll H vs ds → DvFAll H (v :: vs) (d :: ds)
end
mutual
theorem DvF.dv {H : Hp} (n : H 1 = none) : ∀ (d : PyData) (v : V), DvF H v d → Dv H v d
  | .none, _, .non => .non
  | .bool _, _, .bl b => .bl b
  | .int _, _, .int i => .int i
  | .str _, _, .str x => .str x
  | .list ds, _, .lst (a := a) h hs => .lst (fun e => by subst e; rw [n] at h; cases h) h (DvFAll.dv n ds _ hs)
  | .tuple ds, _, .tup h hs => .tup h (DvFAll.dv n ds _ hs)
  | .dict [], _, .dk0 h => .dk0 h
  | .dict [(.str _, d)], _, .dk1 h g => .dk1 h (DvF.dv n d _ g)
theorem DvFAll.dv {H : Hp} (n : H 1 = none) : ∀ (ds : List PyData) (vs : List V), DvFAll H vs ds → DvAll H vs ds
  | [], _, .nil => .nil
  | d :: ds, _, .cons h hs => .cons (DvF.dv n d _ h) (DvFAll.dv n ds _ hs)
end
theorem dvf_ints {H : Hp} : ∀ ns : List Int, DvFAll H (ns.map V.int) (ns.map PyData.int)
  | [] => .nil
  | _ :: r => .cons (.int _) (dvf_ints r)
/-- repr of such data, where the base has the table of modules -/
theorem repr_any1 {X : Cx} (h1 : ∃ o, X.base.get? 1 = some o) (gd : X.A.guards = some []) (hu : X.A.units + 70 < cLine) : CallR X (.builtin "repr") (fun xs H Q => ∃ (v : V) (d : PyData), xs = [v] ∧ DvF H v d ∧ d.showable = true ∧ d.depth ≤ 60 ∧ d.shown.length ≤ sizeLine ∧ Q (.str d.shown) H) := by
  intro pins s σ H xs us Q I rel h
  obtain ⟨v, d, e, dp, sw, dd, sz, hq⟩ := h
  obtain ⟨o, ho⟩ := h1
  exact repr_any gd hu pins s σ H xs us Q I rel ⟨v, d, e, DvF.dv (I.bs 1 o ho).2 d v dp, sw, dd, sz, hq⟩
end Lf
namespace Lf
open PySem PySem.Spec PyProof.Rows L2
section
variable {P : Program} {w : World} {K : PySem.W.Frag} {mg : Str → Option Value} {base : Heap}
/-! ### _law_draw -/
theorem at_mod (cs : List Int) (t : Int) (h : cs ≠ []) : ∃ c, atI (cs.map V.int) (t % ((cs.map V.int).length : Int)) = some (.int c) := by
  have hl : 0 < cs.length := List.length_pos_iff.mpr h
  rw [List.length_map]
  have h0 := Int.emod_nonneg t (show (cs.length : Int) ≠ 0 by omega)
  have h1 := Int.emod_lt_of_pos t (show (0 : Int) < cs.length by omega)
  generalize t % (cs.length : Int) = i at h0 h1
  obtain ⟨j, rfl⟩ := Int.eq_ofNat_of_zero_le h0
  have hj : j < cs.length := by omega
  refine ⟨cs[j], atI_nat ?_⟩
  rw [List.getElem?_map, List.getElem?_eq_getElem hj]
  rfl
theorem dp_ints {K : PySem.W.Frag} {H : Hp} : ∀ cs : List Int, DpAll K H (cs.map V.int) (cs.map PyData.int)
  | [] => .nil
  | c :: r => .cons (.int c) (dp_ints r)
theorem sh_ints (cs : List Int) : SeqAt.shaped (.list (cs.map PyData.int)) = true := by
  have h : ∀ cs : List Int, PyData.canLayAll0 (cs.map PyData.int) = true ∧ PyData.depthAll (cs.map PyData.int) = 0 := by
    intro cs
    induction cs with
    | nil => exact ⟨rfl, rfl⟩
    | cons c r ih => exact ⟨by simpa [PyData.canLayAll0, PyData.canLay0] using ih.1, by simpa [PyData.depthAll, PyData.depth] using ih.2⟩
  simp [SeqAt.shaped, PyData.canLay0, PyData.depth, (h cs).1, (h cs).2]
def spDraw : Sp := fun vs H Q _ => ∃ (a : PA) (n : Nat) (many : Int), vs = [.ref a, .int many] ∧ Pen H a n ∧ n < 2 ^ 40 ∧ 0 < many ∧ Bd 9000 many ∧
  ∀ d H', 0 ≤ d → d < many → Pen H' a (n + 1) → Fr H H' → Q (.int d) H'
end
end Lf
namespace Lf
open PySem PySem.Spec PyProof.Rows L2
section
variable {P : Program} {w : World} {K : PySem.W.Frag} {mg : Str → Option Value} {base : Heap}
theorem at_primes (t : Int) : ∃ pr : Int, atI ([.int 2147483647, .int 2147483629, .int 2147483587, .int 2147483579, .int 2147483563] : List V) (t % 5) = some (V.int pr) ∧ 0 < pr ∧ pr < 2147483648 := by
  have h0 := Int.emod_nonneg t (show (5 : Int) ≠ 0 by decide)
  have h1 := Int.emod_lt_of_pos t (show (0 : Int) < 5 by decide)
  generalize t % 5 = i at h0 h1
  obtain ⟨j, rfl⟩ := Int.eq_ofNat_of_zero_le h0
  have hj : j < 5 := by omega
  match j, hj with
  | 0, _ => exact ⟨_, atI_nat (j := 0) rfl, by decide, by decide⟩
  | 1, _ => exact ⟨_, atI_nat (j := 1) rfl, by decide, by decide⟩
  | 2, _ => exact ⟨_, atI_nat (j := 2) rfl, by decide, by decide⟩
  | 3, _ => exact ⟨_, atI_nat (j := 3) rfl, by decide, by decide⟩
  | 4, _ => exact ⟨_, atI_nat (j := 4) rfl, by decide, by decide⟩
abbrev s_l_draw : Stmt := topS 18
abbrev N_l_draw : List Str := ["_law_pen_here", "_law_many", "_law_digit", "_law_turn", "_law_cell", "_law_primes", "_law_prime", "_law_drawn"]
abbrev P_l_draw : List Str := ["_law_pen_here", "_law_many"]
theorem sc_l_draw : FnScope N_l_draw P_l_draw (defScope s_l_draw) := ⟨rfl, rfl, rfl, by decide +kernel, rfl, by decide +kernel, by decide +kernel⟩
theorem ok_l_draw (D : Df K mg "_law_draw" s_l_draw P_l_draw) (B : Bi mg) : C8.Cal P w K mg base 1 "_law_draw" spDraw [] := by
  refine cal_of D sc_l_draw (fun vs H Q E h => ?_) (fun f cdv A outer s H vs Q E hr h => ?_)
  · obtain ⟨a, n, many, rfl, _⟩ := h
    rfl
  · obtain ⟨⟨a, l⟩, n, many, rfl, hP, hn, h0, hb, q⟩ := h
    have hu := hu_of hr
    have hd : CDivW 0 many := ⟨h0, hb.log (by decide)⟩
    obtain ⟨cs, t, r, ea, el, hl, ht0, htn, hr0⟩ := hP.ex
    have ea : H a = some (.dK (penD l t r)) := ea
    have el : H l = some (.lst (cs.map V.int)) := el
    refine ⟨_, (pss_cons (ps_if (pt_cmpR op_gt (pe_dget hu (pv 0) pe_str (fun _ _ => rfl)) pe_int (nomark _))
      (pss_cons (ps_set (i := 2) sc_l_draw.nd rfl (Or.inl rfl) (pe_op op_mod (pe_dget hu (pv 0) pe_str (fun _ _ => rfl)) (pv 1)))
    (pss_cons (ps_dput hu (pv 0) pe_str (pe_op op_fdivW (pe_dget hu (pv 0) pe_str (fun _ _ => rfl)) (pv 1)) rfl)
    (pss_one (ps_ret (pv 2)))))
      pss_nil)
    (pss_cons (ps_set (i := 3) sc_l_draw.nd rfl (Or.inl rfl) (pe_dget hu (pv 0) pe_str (fun _ _ => rfl)))
    (pss_cons (ps_dput hu (pv 0) pe_str (pe_op op_add (pv 3) pe_int) rfl)
    (pss_cons (ps_set (i := 4) sc_l_draw.nd rfl (Or.inl rfl) (pe_op op_add (pe_op op_mul pe_int (pv 3)) pe_int))
    (C8.pss_cut (ps_if (pt_cmpR (op_neD hr.units) (pe_dget hu (pv 0) pe_str (fun _ _ => rfl)) (pe_lst pa_nil) (nomark _))
      (pss_one (ps_set (i := 4) sc_l_draw.nd rfl (Or.inl rfl) (pe_ix (r := rIxL K) ix_list (pe_dget hu (pv 0) pe_str (fun _ _ => rfl)) (pe_op op_mod (pv 3) (pe_callB (call_len_seq) (by rfl) B.len_ bt_len (pa_cons (pe_dget hu (pv 0) pe_str (fun _ _ => rfl)) pa_nil))) (fun _ _ => rfl))))
      pss_nil)
    (C8.pss_cut (ps_if (PW.pt (pw_and (pt_cmpR op_lt (pv 3) (pe_callB (call_len_seq) (by rfl) B.len_ bt_len (pa_cons (pe_dget hu (pv 0) pe_str (fun _ _ => rfl)) pa_nil)) (nomark _)) (pw_and1 (pt_cmpR op_ge (pe_callB (call_abs) (by rfl) B.abs_ bt_abs (pa_cons (pv 4) pa_nil)) (pe_op op_pow pe_int pe_int) (nomark _)))))
      (pss_cons (ps_dput hu (pv 0) pe_str (pe_op op_fdivW (pe_op op_sub (pe_callB (call_abs) (by rfl) B.abs_ bt_abs (pa_cons (pv 4) pa_nil)) (pe_op op_pow pe_int pe_int)) (pv 1)) rfl)
    (pss_one (ps_ret (pe_op op_mod (pe_op op_sub (pe_callB (call_abs) (by rfl) B.abs_ bt_abs (pa_cons (pv 4) pa_nil)) (pe_op op_pow pe_int pe_int)) (pv 1)))))
      pss_nil)
    (pss_cons (ps_set (i := 5) sc_l_draw.nd rfl (Or.inl rfl) (pe_lst (pa_cons pe_int (pa_cons pe_int (pa_cons pe_int (pa_cons pe_int (pa_cons pe_int pa_nil)))))))
    (pss_cons (ps_set (i := 6) sc_l_draw.nd rfl (Or.inl rfl) (pe_ix (r := rIxL K) ix_list (pv 5) (pe_op op_mod (pv 3) pe_int) (fun _ _ => rfl)))
    (pss_cons (ps_set (i := 7) sc_l_draw.nd rfl (Or.inl rfl) (pe_op op_mod (pe_op op_add (pe_op op_add (pe_op op_mul (pe_op op_mod (pv 4) (pv 6)) pe_int) (pe_op op_mul (pe_op op_mul pe_int (pv 3)) (pv 3))) pe_int) (pv 6)))
    (pss_cons (ps_set (i := 7) sc_l_draw.nd rfl (Or.inl rfl) (pe_op op_mod (pe_op op_mul (pv 7) (pe_op op_add (pv 7) pe_int)) (pe_ix (r := rIxL K) ix_list (pv 5) (pe_op op_mod (pe_op op_add (pv 3) pe_int) pe_int) (fun _ _ => rfl))))
    (pss_one (ps_ret (pe_op op_mod (pe_op op_fdiv (pe_op op_mod (pe_op op_mul (pv 7) (pv 7)) pe_int) pe_int) (pv 1)))))))))))))), ?_⟩
    -- rest > 0
    refine ⟨_, rfl, a, _, rfl, dg_rest ea, _, _, rfl, rfl, _, rfl, ite2 (fun e => ?_) (fun e => ?_)⟩
    · refine ⟨_, rfl, a, _, rfl, dg_rest ea, _, rfl, _, _, rfl, rfl, h0, ?_⟩
      refine ⟨_, rfl, a, _, rfl, dg_rest ea, _, rfl, _, _, rfl, rfl, hd, _, rfl, a, _, rfl, dp_rest ea, ?_⟩
      refine ⟨_, rfl, ?_⟩
      exact q _ _ (Int.emod_nonneg _ (by omega)) (Int.emod_lt_of_pos _ h0) (Pen.put ea el hl ht0 (by omega) (Int.ediv_nonneg hr0 (by omega))) (Fr.dict ea)
    · -- turn = ..; turn + 1; 43 * turn + 19
      refine ⟨_, rfl, a, _, rfl, dg_turn ea, ?_⟩
      refine ⟨_, rfl, _, _, rfl, rfl, _, rfl, a, _, rfl, dp_turn ea, ?_⟩
      have ea1 : upd H a (.dK (penD l (t + 1) r)) a = some (.dK (penD l (t + 1) r)) := upd_same
      have nla : l ≠ a := ne_of el ea (by intro z; cases z)
      have el1 : upd H a (.dK (penD l (t + 1) r)) l = some (.lst (cs.map V.int)) := by rw [upd_ne nla]; exact el
      have f1 : Fr H (upd H a (.dK (penD l (t + 1) r))) := Fr.dict ea
      generalize upd H a (.dK (penD l (t + 1) r)) = H1 at ea1 el1 f1
      refine ⟨_, rfl, _, _, rfl, rfl, .inl ⟨by decide, by decide⟩, _, _, rfl, rfl, ?_⟩
      refine ⟨fun σ' H' => ∃ c : Int, σ' = [some (.ref a), some (.int many), none, some (.int t), some (.int c), none, none, none] ∧ Same H1 H', ?_, ?_⟩
      · refine ⟨_, rfl, a, _, rfl, dg_cells ea1, Nat.zero_le _, fun p np => ?_⟩
        have s1 : Same H1 (upd H1 p (.lst [])) := sm_upd np
        refine ⟨.list (cs.map PyData.int), .list [], Dp.lst (SqL.of (s1 _ _ el1)) (dp_ints cs), Dp.lst (SqL.of upd_same) .nil, sh_ints cs, rfl, _, rfl, ?_⟩
        by_cases hc : cs = []
        · subst hc
          refine iteF ?_
          exact ⟨_, rfl, s1⟩
        · obtain ⟨c, r', rfl⟩ : ∃ c r', cs = c :: r' := by
            cases cs with
            | nil => exact absurd rfl hc
            | cons c r' => exact ⟨c, r', rfl⟩
          refine iteT ?_
          obtain ⟨v, hv⟩ := at_mod (c :: r') t hc
          refine ⟨_, rfl, a, _, rfl, dg_cells (s1 _ _ ea1), _, rfl, _, rfl, a, _, rfl, dg_cells (s1 _ _ ea1), l, _, rfl, .inl (SqL.of (s1 _ _ el1)), _, _, rfl, rfl, ?_, l, _, _, _, rfl, rfl, SqL.of (s1 _ _ el1), hv, ?_⟩
          · show (0 : Int) < (((c :: r').map V.int).length : Int)
            rw [List.length_map, List.length_cons]
            omega
          · exact ⟨v, rfl, s1⟩
      · rintro σ' H2 ⟨c, rfl, s2⟩
        have ea2 := s2 _ _ ea1
        have el2 := s2 _ _ el1
        have f2 : Fr H H2 := f1.trans (Fr.same s2)
        refine ⟨fun σ' H' => σ' = [some (.ref a), some (.int many), none, some (.int t), some (.int c), none, none, none] ∧ H' = H2, ?_, ?_⟩
        · refine ⟨_, rfl, _, rfl, a, _, rfl, dg_cells ea2, l, _, rfl, .inl (SqL.of el2), _, _, rfl, rfl, _, rfl, ite2 (fun e1 => ?_) (fun e1 => ?_)⟩
          · refine ⟨_, rfl, _, rfl, _, _, rfl, rfl, ⟨by decide, by decide, by decide⟩, _, _, rfl, rfl, _, rfl, ite2 (fun e2 => ?_) (fun e2 => ?_)⟩
            · have e3 := of_decide_eq_true e2
              refine ⟨_, rfl, _, rfl, _, _, rfl, rfl, ⟨by decide, by decide, by decide⟩, _, _, rfl, rfl, _, rfl, _, _, rfl, rfl, hd, _, rfl, a, _, rfl, dp_rest ea2, ?_⟩
              refine ⟨_, rfl, _, rfl, _, _, rfl, rfl, ⟨by decide, by decide, by decide⟩, _, _, rfl, rfl, _, rfl, _, _, rfl, rfl, h0, ?_⟩
              exact q _ _ (Int.emod_nonneg _ (by omega)) (Int.emod_lt_of_pos _ h0) (Pen.put ea2 el2 hl (by omega) (by omega) (Int.ediv_nonneg (by omega) (by omega))) (f2.trans (Fr.dict ea2))
            · exact ⟨rfl, rfl⟩
          · exact iteF ⟨rfl, rfl⟩
        · rintro σ' H' ⟨rfl, rfl⟩
          refine ⟨by show 5 ≤ sizeLine; exact Nat.le_of_lt (small1000 (by decide)), fun p np => ?_⟩
          have s3 := sm_upd (o := .lst [.int 2147483647, .int 2147483629, .int 2147483587, .int 2147483579, .int 2147483563]) np
          obtain ⟨pr, hp, hp0, hp1⟩ := at_primes t
          obtain ⟨pr2, hp2, hp20, hp21⟩ := at_primes (t + 2)
          refine ⟨_, rfl, _, rfl, _, _, rfl, rfl, (by show (0 : Int) < 5; decide), p, _, _, _, rfl, rfl, SqL.of upd_same, hp, ?_⟩
          refine ⟨_, rfl, _, rfl, _, _, rfl, rfl, hp0, _, _, rfl, rfl, .inr ⟨by decide, by decide⟩, _, rfl, _, _, rfl, rfl, .inl ⟨by decide, by decide⟩, _, rfl, _, _, rfl, rfl, .inr ⟨by omega, by omega⟩, _, _, rfl, rfl, _, _, rfl, rfl, _, rfl, _, _, rfl, rfl, hp0, ?_⟩
          have d0 := Int.emod_nonneg (c % pr * 48271 + 40609 * t * t + 23) (show pr ≠ 0 by omega)
          have d1 := Int.emod_lt_of_pos (c % pr * 48271 + 40609 * t * t + 23) hp0
          refine ⟨_, rfl, _, rfl, _, _, rfl, rfl, _, _, rfl, rfl, .inl ⟨by omega, by omega⟩, _, rfl, _, rfl, _, _, rfl, rfl, _, _, rfl, rfl, (by show (0 : Int) < 5; decide), p, _, _, _, rfl, rfl, SqL.of upd_same, hp2, _, _, rfl, rfl, hp20, ?_⟩
          have d20 := Int.emod_nonneg ((c % pr * 48271 + 40609 * t * t + 23) % pr * ((c % pr * 48271 + 40609 * t * t + 23) % pr + 69621)) (show pr2 ≠ 0 by omega)
          have d21 := Int.emod_lt_of_pos ((c % pr * 48271 + 40609 * t * t + 23) % pr * ((c % pr * 48271 + 40609 * t * t + 23) % pr + 69621)) hp20
          refine ⟨_, rfl, _, rfl, _, _, rfl, rfl, .inl ⟨by omega, by omega⟩, _, _, rfl, rfl, (by show (0 : Int) < 2147483549; decide), _, _, rfl, rfl, ⟨by decide, by decide⟩, _, rfl, _, _, rfl, rfl, h0, ?_⟩
          have hP2 : Pen H' ⟨a, l⟩ (n + 1) := ⟨cs, t + 1, r, ea2, el2, hl, by omega, by omega, hr0⟩
          exact q _ _ (Int.emod_nonneg _ (by omega)) (Int.emod_lt_of_pos _ h0) (hP2.new np) (f2.trans (Fr.new np))
end
end Lf
namespace Lf
open PySem PySem.Spec PyProof.Rows L2
section
variable {P : Program} {w : World} {K : PySem.W.Frag} {mg : Str → Option Value} {base : Heap}
/-! ### _law_pick -/
def spPick : Sp := fun vs H Q _ => ∃ (a : PA) (l : Addr) (n : Nat) (xs : List V), vs = [.ref a, .ref l] ∧ Pen H a n ∧ n < 2 ^ 40 ∧ H l = some (.lst xs) ∧ xs ≠ [] ∧ xs.length ≤ 1000 ∧
  ∀ x H', x ∈ xs → Pen H' a (n + 1) → Fr H H' → Q x H'
abbrev s_l_pick : Stmt := topS 19
abbrev N_l_pick : List Str := ["_law_pen_here", "_law_options"]
abbrev P_l_pick : List Str := ["_law_pen_here", "_law_options"]
theorem sc_l_pick : FnScope N_l_pick P_l_pick (defScope s_l_pick) := ⟨rfl, rfl, rfl, by decide +kernel, rfl, by decide +kernel, by decide +kernel⟩
theorem ok_l_pick (D : Df K mg "_law_pick" s_l_pick P_l_pick) (B : Bi mg) (c_l_draw : C8.Cal P w K mg base 1 "_law_draw" spDraw []) : C8.Cal P w K mg base 2 "_law_pick" spPick [] := by
  refine cal_of D sc_l_pick (fun vs H Q E h => ?_) (fun f cdv A outer s H vs Q E hr h => ?_)
  · obtain ⟨a, l, n, xs, rfl, _⟩ := h
    rfl
  · obtain ⟨a, l, n, xs, rfl, hP, hn, el, hx, hxl, q⟩ := h
    have hu := hu_of hr
    refine ⟨_, (pss_one (ps_ret (pe_ix (r := rIxL K) ix_list (pv 1) (C8.pe_c c_l_draw hr (by decide) (by rfl) (pa_cons (pv 0) (pa_cons (pe_callB (call_len_seq) (by rfl) B.len_ bt_len (pa_cons (pv 1) pa_nil)) pa_nil))) (fun _ _ => rfl)))), ?_⟩
    have hl : 0 < xs.length := List.length_pos_iff.mpr hx
    refine ⟨_, rfl, _, rfl, _, rfl, l, _, rfl, .inl (SqL.of el), a, n, _, rfl, hP, hn, by omega, Bd.small 20 (by omega) (by decide), fun d H' d0 d1 hP' f' => ?_⟩
    obtain ⟨j, rfl⟩ := Int.eq_ofNat_of_zero_le d0
    have hj : j < xs.length := by omega
    refine ⟨l, _, _, _, rfl, rfl, SqL.of (f'.l _ _ el), atI_nat (List.getElem?_eq_getElem hj), ?_⟩
    exact q _ _ (List.getElem_mem hj) hP' f'
end
end Lf
namespace Lf
open PySem PySem.Spec PyProof.Rows L2
theorem Bd.grow {k : Nat} {r d : Int} (h0 : 0 ≤ r) (h : Bd k r) (d0 : 0 ≤ d) (d1 : d < 10 ^ 6) : Bd (k + 20) (r * 10 ^ 6 + d) := by
  unfold Bd at *
  have e : (2 : Nat) ^ (k + 20) = 2 ^ k * 1048576 := by rw [Nat.pow_add]
  rw [e]
  generalize (2 : Nat) ^ k = m at h
  omega
/-- a rule, its numbers within k bits -/
structure RuleB (k : Nat) (p q c : Int) : Prop where
  p0 : 0 ≤ p
  q1 : 1 ≤ q
  g : Int.gcd p q = 1
  bp : Bd k p
  bq : Bd k q
  bc : Bd k c
theorem RuleB.mono {k j : Nat} {p q c : Int} (h : RuleB k p q c) (e : k ≤ j) : RuleB j p q c := ⟨h.p0, h.q1, h.g, h.bp.mono e, h.bq.mono e, h.bc.mono e⟩
theorem gcd_pos {p q : Int} (h : 1 ≤ q) : 0 < (Int.gcd p q : Int) := by
  have : 0 < Int.gcd p q := Int.gcd_pos_of_ne_zero_right _ (by omega)
  omega
theorem gcd_le {p q : Int} (h : 1 ≤ q) : (Int.gcd p q : Int) ≤ q := Int.le_of_dvd (by omega) (Int.gcd_dvd_right ..)
theorem low_rule {k : Nat} {p q c : Int} (h0 : 0 ≤ p) (h1 : 1 ≤ q) (bp : Bd k p) (bq : Bd k q) (bc : Bd k c) : RuleB k (p / (Int.gcd p q : Int)) (q / (Int.gcd p q : Int)) (c / (Int.gcd p q : Int)) := by
  have hg := gcd_pos (p := p) h1
  refine ⟨Int.ediv_nonneg h0 (by omega), ?_, ?_, bp.ediv hg, bq.ediv hg, bc.ediv hg⟩
  · exact Int.le_ediv_of_mul_le hg (by rw [Int.one_mul]; exact gcd_le h1)
  · have : 0 < Int.gcd p q := by omega
    exact Int.gcd_ediv_gcd_ediv_gcd this
/-- a new rule stands at r -/
abbrev tup3 (p q c : Int) : HO := .tup [.int p, .int q, .int c]
theorem low_rule' {k : Nat} {p q c : Int} (h0 : 0 ≤ p) (h1 : 1 ≤ q) (bp : Bd k p) (bq : Bd k q) (bc : Bd k c) : RuleB k (p / gg p q) (q / gg p q) (c / gg p q) := low_rule h0 h1 bp bq bc
theorem low_le {p q : Int} (h1 : 1 ≤ q) : q / (Int.gcd p q : Int) ≤ q := Int.ediv_le_self _ (by omega)
section
variable {P : Program} {w : World} {K : PySem.W.Frag} {mg : Str → Option Value} {base : Heap}
/-! ### _law_great -/
def spGreat : Sp := fun vs H Q _ => ∃ (a : PA) (n : Nat) (d : Int), vs = [.ref a, .int d] ∧ Pen H a n ∧ n < 2 ^ 39 ∧ 6 ≤ d ∧ d ≤ 1200 ∧
  ∀ g H', 0 ≤ g → Bd (20 * (d / 6).toNat) g → Pen H' a (n + 1 + (d / 6).toNat) → Fr H H' → Q (.int g) H'
abbrev s_l_great : Stmt := topS 20
abbrev N_l_great : List Str := ["_law_pen_here", "_law_digits", "_law_result", "_law_k"]
abbrev P_l_great : List Str := ["_law_pen_here", "_law_digits"]
theorem sc_l_great : FnScope N_l_great P_l_great (defScope s_l_great) := ⟨rfl, rfl, rfl, by decide +kernel, rfl, by decide +kernel, by decide +kernel⟩
theorem ok_l_great (D : Df K mg "_law_great" s_l_great P_l_great) (B : Bi mg) (c_l_draw : C8.Cal P w K mg base 1 "_law_draw" spDraw []) : C8.Cal P w K mg base 2 "_law_great" spGreat [] := by
  refine cal_of D sc_l_great (fun vs H Q E h => ?_) (fun f cdv A outer s H vs Q E hr h => ?_)
  · obtain ⟨a, n, d, rfl, _⟩ := h
    rfl
  · obtain ⟨a, n, d, rfl, hP, hn, h6, h12, q⟩ := h
    refine ⟨_, (pss_cons (ps_set (i := 2) sc_l_great.nd rfl (Or.inl rfl) pe_int)
    (pss_cons (ps_for PassesOwn.never rfl (pi_range1 rfl B.range_ (pa_cons (pe_op op_add pe_int (C8.pe_c c_l_draw hr (by decide) (by rfl) (pa_cons (pv 0) (pa_cons (pe_op op_fdiv (pv 1) pe_int) pa_nil)))) pa_nil)) (pg_name (i := 3) sc_l_great.nd rfl (Or.inl rfl))
      (pss_one (ps_set (i := 2) sc_l_great.nd rfl (Or.inl rfl) (pe_op op_add (pe_op op_mul (pv 2) (pe_op op_pow pe_int pe_int)) (C8.pe_c c_l_draw hr (by decide) (by rfl) (pa_cons (pv 0) (pa_cons (pe_op op_pow pe_int pe_int) pa_nil)))))))
    (pss_one (ps_ret (pv 2))))), ?_⟩
    refine ⟨_, rfl, _, rfl, _, _, rfl, rfl, ⟨by decide, by decide⟩, a, n, _, rfl, hP, by omega, by omega, Bd.small 20 (by omega) (by decide), fun dd H1 d0 d1 hP1 f1 => ?_⟩
    refine ⟨_, _, rfl, rfl, _, rfl, by omega, by omega, ?_⟩
    refine for_range (lo := 0) (n := (1 + dd).toNat) (fun i σ H2 => ∃ (r : Int) (y : Option V), σ = [some (.ref a), some (.int d), some (.int r), y] ∧ 0 ≤ r ∧ Bd (20 * i) r ∧ Pen H2 a (n + 1 + i) ∧ Fr H H2) ?_ ?_ ?_
    · exact ⟨0, none, rfl, by omega, by show (0 : Int).natAbs < 2 ^ 0; decide, hP1, f1⟩
    · rintro i σ H2 hi ⟨r, y, rfl, r0, rb, hP2, f2⟩
      refine ⟨_, rfl, _, _, rfl, rfl, ⟨by decide, by decide, by decide⟩, _, _, rfl, rfl, .inr ⟨by decide, by decide⟩, _, rfl, _, _, rfl, rfl, ⟨by decide, by decide, by decide⟩, a, _, _, rfl, hP2, by omega, by decide, Bd.small 20 (by decide) (by decide), fun e H3 e0 e1 hP3 f3 => ?_⟩
      refine ⟨_, _, rfl, rfl, ?_⟩
      refine ⟨_, _, rfl, ?_, ?_, hP3, f2.trans f3⟩
      · have : (0 : Int) ≤ 10 ^ (6 : Int).toNat := by decide
        have := Int.mul_nonneg r0 this
        omega
      · exact Bd.grow r0 rb e0 e1
    · rintro σ H2 ⟨r, y, rfl, r0, rb, hP2, f2⟩
      have h3 : (1 + dd).toNat ≤ (d / 6).toNat := by omega
      refine ⟨_, rfl, ?_⟩
      exact q _ _ r0 (rb.mono (by omega)) (hP2.mono (by omega)) f2
/-! ### _law_signed -/
def spSigned : Sp := fun vs H Q _ => ∃ (a : PA) (n : Nat) (d : Int), vs = [.ref a, .int d] ∧ Pen H a n ∧ n < 2 ^ 38 ∧ 6 ≤ d ∧ d ≤ 1200 ∧
  ∀ g H', Bd (20 * (d / 6).toNat) g → Pen H' a (n + 5 + (d / 6).toNat) → Fr H H' → Q (.int g) H'
abbrev s_l_signed : Stmt := topS 21
abbrev N_l_signed : List Str := ["_law_pen_here", "_law_digits"]
abbrev P_l_signed : List Str := ["_law_pen_here", "_law_digits"]
theorem sc_l_signed : FnScope N_l_signed P_l_signed (defScope s_l_signed) := ⟨rfl, rfl, rfl, by decide +kernel, rfl, by decide +kernel, by decide +kernel⟩
theorem ok_l_signed (D : Df K mg "_law_signed" s_l_signed P_l_signed) (B : Bi mg) (c_l_draw : C8.Cal P w K mg base 1 "_law_draw" spDraw []) (c_l_pick : C8.Cal P w K mg base 2 "_law_pick" spPick []) (c_l_great : C8.Cal P w K mg base 2 "_law_great" spGreat []) : C8.Cal P w K mg base 3 "_law_signed" spSigned [] := by
  refine cal_of D sc_l_signed (fun vs H Q E h => ?_) (fun f cdv A outer s H vs Q E hr h => ?_)
  · obtain ⟨a, n, d, rfl, _⟩ := h
    rfl
  · obtain ⟨a, n, d, rfl, hP, hn, h6, h12, q⟩ := h
    refine ⟨_, (pss_one (ps_ret (pe_op op_mul (C8.pe_c c_l_pick hr (by decide) (by rfl) (pa_cons (pv 0) (pa_cons (pe_lst (pa_cons pe_int (pa_cons (pe_un un_neg pe_int) pa_nil))) pa_nil))) (C8.pe_c c_l_pick hr (by decide) (by rfl) (pa_cons (pv 0) (pa_cons (pe_lst (pa_cons (C8.pe_c c_l_draw hr (by decide) (by rfl) (pa_cons (pv 0) (pa_cons pe_int pa_nil))) (pa_cons (C8.pe_c c_l_draw hr (by decide) (by rfl) (pa_cons (pv 0) (pa_cons pe_int pa_nil))) (pa_cons (C8.pe_c c_l_great hr (by decide) (by rfl) (pa_cons (pv 0) (pa_cons (pv 1) pa_nil))) pa_nil)))) pa_nil)))))), ?_⟩
    refine ⟨_, rfl, 1, rfl, len10 (by simp), fun p np => ?_⟩
    refine ⟨a, p, n, _, rfl, hP.new np, by omega, upd_same, by simp, by simp, fun x H1 hx hP1 f1 => ?_⟩
    have f1' : Fr H H1 := (Fr.new np).trans f1
    refine ⟨_, rfl, _, rfl, a, _, _, rfl, hP1, by omega, by decide, Bd.small 20 (by decide) (by decide), fun d1 H2 d10 d11 hP2 f2 => ?_⟩
    refine ⟨_, rfl, a, _, _, rfl, hP2, by omega, by decide, Bd.small 20 (by decide) (by decide), fun d2 H3 d20 d21 hP3 f3 => ?_⟩
    refine ⟨_, rfl, _, rfl, a, _, _, rfl, hP3, by omega, h6, h12, fun g H4 g0 gb hP4 f4 => ?_⟩
    refine ⟨len10 (by simp), fun p2 np2 => ?_⟩
    refine ⟨a, p2, _, _, rfl, hP4.new np2, by omega, upd_same, by simp, by simp, fun y H5 hy hP5 f5 => ?_⟩
    have hk : 20 ≤ 20 * (d / 6).toNat := by omega
    obtain ⟨v, rfl, bv⟩ : ∃ v, y = V.int v ∧ Bd (20 * (d / 6).toNat) v := by
      simp only [List.mem_cons, List.not_mem_nil, or_false] at hy
      rcases hy with rfl | rfl | rfl
      · exact ⟨_, rfl, Bd.small 20 (by omega) hk⟩
      · exact ⟨_, rfl, Bd.small 20 (by omega) hk⟩
      · exact ⟨_, rfl, gb⟩
    have hPF : Pen H5 a (n + 5 + (d / 6).toNat) := hP5.mono (by omega)
    have fF : Fr H H5 := f1'.trans (f2.trans (f3.trans (f4.trans ((Fr.new np2).trans f5))))
    simp only [List.mem_cons, List.not_mem_nil, or_false] at hx
    rcases hx with rfl | rfl
    · refine ⟨_, _, rfl, rfl, .inl ⟨by decide, by decide⟩, ?_⟩
      show Q (V.int (1 * v)) H5
      rw [Int.one_mul]
      exact q _ _ bv hPF fF
    · refine ⟨_, _, rfl, rfl, .inl ⟨by decide, by decide⟩, ?_⟩
      show Q (V.int (-1 * v)) H5
      rw [Int.neg_mul, Int.one_mul]
      exact q _ _ bv.neg hPF fF
/-! ### _law_gcd, _law_lowest -/
def spGcd : Sp := fun vs H Q _ => ∃ (x y : Int), vs = [.int x, .int y] ∧ 0 ≤ x ∧ 0 ≤ y ∧ Q (.int (Int.gcd x y : Int)) H
def mu1 : L2.St → Hp → Nat := fun σ _ => match σ with
  | _ :: some (.int v) :: _ => v.toNat
  | _ => 0
abbrev s_l_gcd : Stmt := topS 22
abbrev N_l_gcd : List Str := ["_law_one", "_law_other"]
abbrev P_l_gcd : List Str := ["_law_one", "_law_other"]
theorem sc_l_gcd : FnScope N_l_gcd P_l_gcd (defScope s_l_gcd) := ⟨rfl, rfl, rfl, by decide +kernel, rfl, by decide +kernel, by decide +kernel⟩
theorem ok_l_gcd (D : Df K mg "_law_gcd" s_l_gcd P_l_gcd) : C8.Cal P w K mg base 1 "_law_gcd" spGcd [] := by
  refine cal_of D sc_l_gcd (fun vs H Q E h => ?_) (fun f cdv A outer s H vs Q E hr h => ?_)
  · obtain ⟨x, y, rfl, _⟩ := h
    rfl
  · obtain ⟨x, y, rfl, hx, hy, q⟩ := h
    refine ⟨_, (pss_cons (ps_while PassesOwn.never (pt_cmpR op_gt (pv 1) pe_int (nomark _))
      (pss_one (ps_par (i := 0) (j := 1) rfl sc_l_gcd.nd rfl rfl (by decide) rfl rfl (pa_cons (pv 1) (pa_cons (pe_op op_mod (pv 0) (pv 1)) pa_nil)) rfl)))
    (pss_one (ps_ret (pv 0)))), ?_⟩
    refine while_by (fun σ H' => ∃ u v : Int, σ = [some (.int u), some (.int v)] ∧ 0 ≤ u ∧ 0 ≤ v ∧ Int.gcd u v = Int.gcd x y ∧ H' = H) mu1 ⟨x, y, rfl, hx, hy, rfl, rfl⟩ ?_ ?_
    · rintro σ H' ⟨u, v, rfl, hu, hv, e, rfl⟩
      refine ⟨_, rfl, _, _, rfl, rfl, _, rfl, ite2 (fun c => ?_) (fun c => ?_)⟩
      · have hv0 : 0 < v := of_decide_eq_true c
        refine ⟨_, rfl, _, rfl, _, rfl, _, _, rfl, rfl, hv0, _, _, rfl, ⟨v, u % v, rfl, hv, Int.emod_nonneg _ (by omega), ?_, rfl⟩, ?_⟩
        · rw [gcd_turn u v hu hv0]; exact e
        · show (u % v).toNat < v.toNat
          have := Int.emod_lt_of_pos u hv0
          omega
      · have hv0 : v = 0 := by
          have : ¬ 0 < v := fun z => c (decide_eq_true z)
          omega
        subst hv0
        refine ⟨_, rfl, ?_⟩
        have e2 : (Int.gcd x y : Int) = u := by
          rw [← e, Int.gcd_zero_right]
          omega
        rw [← e2]
        exact q
    · rintro σ H' Q1 Q2 hQ ⟨v, h1, i, j, h2, h3, b, h4, h5⟩
      exact ⟨v, h1, i, j, h2, h3, b, h4, hQ _ _ h5⟩
def spLowest : Sp := fun vs H Q _ => ∃ (p q c : Int), vs = [.int p, .int q, .int c] ∧ 0 ≤ p ∧ 1 ≤ q ∧ Bd 9000 q ∧
  ∀ r H', Same H H' → H' r = some (.tup [.int (p / (Int.gcd p q : Int)), .int (q / (Int.gcd p q : Int)), .int (c / (Int.gcd p q : Int))]) → Q (.ref r) H'
abbrev s_l_lowest : Stmt := topS 23
abbrev N_l_lowest : List Str := ["_law_p", "_law_q", "_law_c", "_law_both"]
abbrev P_l_lowest : List Str := ["_law_p", "_law_q", "_law_c"]
theorem sc_l_lowest : FnScope N_l_lowest P_l_lowest (defScope s_l_lowest) := ⟨rfl, rfl, rfl, by decide +kernel, rfl, by decide +kernel, by decide +kernel⟩
theorem ok_l_lowest (D : Df K mg "_law_lowest" s_l_lowest P_l_lowest) (c_l_gcd : C8.Cal P w K mg base 1 "_law_gcd" spGcd []) : C8.Cal P w K mg base 2 "_law_lowest" spLowest [] := by
  refine cal_of D sc_l_lowest (fun vs H Q E h => ?_) (fun f cdv A outer s H vs Q E hr h => ?_)
  · obtain ⟨p, q, c, rfl, _⟩ := h
    rfl
  · obtain ⟨p, q, c, rfl, hp, hq, hb, k⟩ := h
    refine ⟨_, (pss_cons (ps_set (i := 3) sc_l_lowest.nd rfl (Or.inl rfl) (C8.pe_c c_l_gcd hr (by decide) (by rfl) (pa_cons (pv 0) (pa_cons (pv 1) pa_nil))))
    (pss_one (ps_ret (pe_tup (pa_cons (pe_op op_fdivW (pv 0) (pv 3)) (pa_cons (pe_op op_fdivW (pv 1) (pv 3)) (pa_cons (pe_op op_fdivW (pv 2) (pv 3)) pa_nil))))))), ?_⟩
    have hg := gcd_pos (p := p) hq
    have hd : CDivW 0 (Int.gcd p q : Int) := ⟨hg, (hb.between (by omega) (gcd_le hq)).log (by decide)⟩
    refine ⟨_, rfl, _, rfl, p, q, rfl, hp, by omega, ?_⟩
    refine ⟨_, rfl, _, rfl, _, _, rfl, rfl, hd, _, rfl, _, rfl, _, _, rfl, rfl, hd, _, rfl, _, rfl, _, _, rfl, rfl, hd, len10 (by simp), fun r nr => ?_⟩
    exact k r _ (sm_upd nr) upd_same
/-! ### _law_rule, _law_far_rule -/
def spRule : Sp := fun vs H Q _ => ∃ (a : PA) (n : Nat) (m : Int), vs = [.ref a, .int m] ∧ Pen H a n ∧ n < 2 ^ 38 ∧ 1 ≤ m ∧ m ≤ 1048576 ∧
  ∀ r p q c H', RuleB 24 p q c → q ≤ m → p ≤ 3 * m → H' r = some (.tup [.int p, .int q, .int c]) → Pen H' a (n + 8) → Fr H H' → Q (.ref r) H'
abbrev s_l_rule : Stmt := topS 24
abbrev N_l_rule : List Str := ["_law_pen_here", "_law_most", "_law_q", "_law_p"]
abbrev P_l_rule : List Str := ["_law_pen_here", "_law_most"]
theorem sc_l_rule : FnScope N_l_rule P_l_rule (defScope s_l_rule) := ⟨rfl, rfl, rfl, by decide +kernel, rfl, by decide +kernel, by decide +kernel⟩
theorem ok_l_rule (D : Df K mg "_law_rule" s_l_rule P_l_rule) (B : Bi mg) (c_l_draw : C8.Cal P w K mg base 1 "_law_draw" spDraw []) (c_l_pick : C8.Cal P w K mg base 2 "_law_pick" spPick []) (c_l_lowest : C8.Cal P w K mg base 2 "_law_lowest" spLowest []) : C8.Cal P w K mg base 3 "_law_rule" spRule [] := by
  refine cal_of D sc_l_rule (fun vs H Q E h => ?_) (fun f cdv A outer s H vs Q E hr h => ?_)
  · obtain ⟨a, n, d, rfl, _⟩ := h
    rfl
  · obtain ⟨a, n, m, rfl, hP, hn, hm1, hm2, k⟩ := h
    refine ⟨_, (pss_cons (ps_set (i := 2) sc_l_rule.nd rfl (Or.inl rfl) (pe_op op_add pe_int (C8.pe_c c_l_draw hr (by decide) (by rfl) (pa_cons (pv 0) (pa_cons (pv 1) pa_nil)))))
    (pss_cons (ps_set (i := 3) sc_l_rule.nd rfl (Or.inl rfl) (C8.pe_c c_l_pick hr (by decide) (by rfl) (pa_cons (pv 0) (pa_cons (pe_lst (pa_cons pe_int (pa_cons pe_int (pa_cons (C8.pe_c c_l_draw hr (by decide) (by rfl) (pa_cons (pv 0) (pa_cons (pe_op op_add (pv 2) pe_int) pa_nil))) (pa_cons (C8.pe_c c_l_draw hr (by decide) (by rfl) (pa_cons (pv 0) (pa_cons (pe_op op_add (pv 2) pe_int) pa_nil))) (pa_cons (C8.pe_c c_l_draw hr (by decide) (by rfl) (pa_cons (pv 0) (pa_cons (pe_op op_mul pe_int (pv 2)) pa_nil))) (pa_cons (pe_op op_add (pv 2) pe_int) pa_nil))))))) pa_nil))))
    (pss_one (ps_ret (C8.pe_c c_l_lowest hr (by decide) (by rfl) (pa_cons (pv 3) (pa_cons (pv 2) (pa_cons (C8.pe_c c_l_pick hr (by decide) (by rfl) (pa_cons (pv 0) (pa_cons (pe_lst (pa_cons pe_int (pa_cons (C8.pe_c c_l_draw hr (by decide) (by rfl) (pa_cons (pv 0) (pa_cons (pv 2) pa_nil))) (pa_cons (pe_op op_sub (C8.pe_c c_l_draw hr (by decide) (by rfl) (pa_cons (pv 0) (pa_cons (pe_op op_mul pe_int (pv 2)) pa_nil))) (pe_op op_mul pe_int (pv 2))) pa_nil)))) pa_nil))) pa_nil)))))))), ?_⟩
    refine ⟨_, rfl, _, rfl, a, n, _, rfl, hP, by omega, by omega, Bd.small 21 (by omega) (by decide), fun d H1 d0 d1 hP1 f1 => ?_⟩
    refine ⟨_, _, rfl, rfl, ?_⟩
    -- p
    refine ⟨_, rfl, _, rfl, _, rfl, _, _, rfl, rfl, a, _, _, rfl, hP1, by omega, by omega, Bd.small 22 (by omega) (by decide), fun p1 H2 p10 p11 hP2 f2 => ?_⟩
    refine ⟨_, rfl, _, rfl, _, _, rfl, rfl, a, _, _, rfl, hP2, by omega, by omega, Bd.small 22 (by omega) (by decide), fun p2 H3 p20 p21 hP3 f3 => ?_⟩
    refine ⟨_, rfl, _, rfl, _, _, rfl, rfl, .inl ⟨by decide, by decide⟩, a, _, _, rfl, hP3, by omega, by omega, Bd.small 24 (by omega) (by decide), fun p3 H4 p30 p31 hP4 f4 => ?_⟩
    refine ⟨_, rfl, _, _, rfl, rfl, len10 (by simp), fun l nl => ?_⟩
    refine ⟨a, l, _, _, rfl, hP4.new nl, by omega, upd_same, by simp, by simp, fun x H5 hx hP5 f5 => ?_⟩
    obtain ⟨p, rfl, hp0, hp3⟩ : ∃ p, x = V.int p ∧ 0 ≤ p ∧ p ≤ 3 * m := by
      simp only [List.mem_cons, List.not_mem_nil, or_false] at hx
      rcases hx with rfl | rfl | rfl | rfl | rfl | rfl <;> exact ⟨_, rfl, by omega, by omega⟩
    -- c
    refine ⟨_, rfl, _, rfl, _, rfl, _, rfl, _, rfl, a, _, _, rfl, hP5, by omega, by omega, Bd.small 22 (by omega) (by decide), fun c1 H6 c10 c11 hP6 f6 => ?_⟩
    refine ⟨_, rfl, _, rfl, _, _, rfl, rfl, .inl ⟨by decide, by decide⟩, a, _, _, rfl, hP6, by omega, by omega, Bd.small 24 (by omega) (by decide), fun c2 H7 c20 c21 hP7 f7 => ?_⟩
    refine ⟨_, rfl, _, _, rfl, rfl, .inl ⟨by decide, by decide⟩, _, _, rfl, rfl, len10 (by simp), fun l2 nl2 => ?_⟩
    refine ⟨a, l2, _, _, rfl, hP7.new nl2, by omega, upd_same, by simp, by simp, fun y H8 hy hP8 f8 => ?_⟩
    obtain ⟨c, rfl, bc⟩ : ∃ c, y = V.int c ∧ Bd 24 c := by
      simp only [List.mem_cons, List.not_mem_nil, or_false] at hy
      rcases hy with rfl | rfl | rfl
      · exact ⟨_, rfl, Bd.small 22 (by decide) (by decide)⟩
      · exact ⟨_, rfl, Bd.small 22 (by omega) (by decide)⟩
      · exact ⟨_, rfl, Bd.small 24 (by omega) (by decide)⟩
    refine ⟨p, 1 + d, c, rfl, hp0, by omega, Bd.small 22 (by omega) (by decide), fun r H9 s9 er => ?_⟩
    have hq1 : (1 : Int) ≤ 1 + d := by omega
    have R := low_rule (k := 24) (c := c) hp0 hq1 (Bd.small 24 (by omega) (by decide)) (Bd.small 24 (by omega) (by decide)) bc
    refine k r _ _ _ H9 R ?_ ?_ er ((hP8.same s9).mono (by omega)) ?_
    · have := low_le (p := p) hq1
      omega
    · have := Int.ediv_le_self (Int.gcd p (1 + d) : Int) hp0
      omega
    · exact f1.trans (f2.trans (f3.trans (f4.trans ((Fr.new nl).trans (f5.trans (f6.trans (f7.trans ((Fr.new nl2).trans (f8.trans (Fr.same s9))))))))))
end
end Lf
namespace Lf
open PySem PySem.Spec PyProof.Rows L2
section
variable {P : Program} {w : World} {K : PySem.W.Frag} {mg : Str → Option Value} {base : Heap}
def spFar : Sp := fun vs H Q _ => ∃ (a : PA) (n : Nat) (d : Int), vs = [.ref a, .int d] ∧ Pen H a n ∧ n < 2 ^ 37 ∧ 6 ≤ d ∧ d ≤ 1200 ∧
  ∀ r p q c H', RuleB (20 * (d / 6).toNat + 2) p q c → H' r = some (.tup [.int p, .int q, .int c]) → Pen H' a (n + 9 + 4 * (d / 6).toNat) → Fr H H' → Q (.ref r) H'
abbrev s_l_far_rule : Stmt := topS 25
abbrev N_l_far_rule : List Str := ["_law_pen_here", "_law_digits", "_law_q", "_law_p"]
abbrev P_l_far_rule : List Str := ["_law_pen_here", "_law_digits"]
theorem sc_l_far_rule : FnScope N_l_far_rule P_l_far_rule (defScope s_l_far_rule) := ⟨rfl, rfl, rfl, by decide +kernel, rfl, by decide +kernel, by decide +kernel⟩
theorem ok_l_far_rule (D : Df K mg "_law_far_rule" s_l_far_rule P_l_far_rule) (B : Bi mg) (c_l_pick : C8.Cal P w K mg base 2 "_law_pick" spPick []) (c_l_great : C8.Cal P w K mg base 2 "_law_great" spGreat []) (c_l_signed : C8.Cal P w K mg base 3 "_law_signed" spSigned []) (c_l_lowest : C8.Cal P w K mg base 2 "_law_lowest" spLowest []) : C8.Cal P w K mg base 4 "_law_far_rule" spFar [] := by
  refine cal_of D sc_l_far_rule (fun vs H Q E h => ?_) (fun f cdv A outer s H vs Q E hr h => ?_)
  · obtain ⟨a, n, d, rfl, _⟩ := h
    rfl
  · obtain ⟨a, n, d, rfl, hP, hn, h6, h12, k⟩ := h
    refine ⟨_, (pss_cons (ps_set (i := 2) sc_l_far_rule.nd rfl (Or.inl rfl) (pe_op op_add pe_int (C8.pe_c c_l_great hr (by decide) (by rfl) (pa_cons (pv 0) (pa_cons (pv 1) pa_nil)))))
    (pss_cons (ps_set (i := 3) sc_l_far_rule.nd rfl (Or.inl rfl) (C8.pe_c c_l_pick hr (by decide) (by rfl) (pa_cons (pv 0) (pa_cons (pe_lst (pa_cons (C8.pe_c c_l_great hr (by decide) (by rfl) (pa_cons (pv 0) (pa_cons (pv 1) pa_nil))) (pa_cons (pe_op op_mod (C8.pe_c c_l_great hr (by decide) (by rfl) (pa_cons (pv 0) (pa_cons (pv 1) pa_nil))) (pe_op op_add (pv 2) pe_int)) (pa_cons pe_int (pa_cons (pe_op op_add (pv 2) pe_int) (pa_cons pe_int pa_nil)))))) pa_nil))))
    (pss_one (ps_ret (C8.pe_c c_l_lowest hr (by decide) (by rfl) (pa_cons (pv 3) (pa_cons (pv 2) (pa_cons (C8.pe_c c_l_signed hr (by decide) (by rfl) (pa_cons (pv 0) (pa_cons (pv 1) pa_nil))) pa_nil)))))))), ?_⟩
    refine ⟨_, rfl, _, rfl, a, n, d, rfl, hP, by omega, h6, h12, fun g H1 g0 gb hP1 f1 => ?_⟩
    refine ⟨_, _, rfl, rfl, ?_⟩
    refine ⟨_, rfl, _, rfl, _, rfl, a, _, d, rfl, hP1, by omega, h6, h12, fun g1 H2 g10 gb1 hP2 f2 => ?_⟩
    refine ⟨_, rfl, _, rfl, a, _, d, rfl, hP2, by omega, h6, h12, fun g2 H3 g20 gb2 hP3 f3 => ?_⟩
    refine ⟨_, rfl, _, _, rfl, rfl, _, _, rfl, rfl, (by show (0 : Int) < 1 + g + 1; omega), ?_⟩
    refine ⟨_, rfl, _, _, rfl, rfl, len10 (by simp), fun l nl => ?_⟩
    refine ⟨a, l, _, _, rfl, hP3.new nl, by omega, upd_same, by simp, by simp, fun x H4 hx hP4 f4 => ?_⟩
    have one : ∀ j : Nat, Bd (j + 1) 1 := fun j => Bd.small 1 (by decide) (by omega)
    have bq : Bd (20 * (d / 6).toNat + 1) (1 + g) := Bd.add (Bd.small 1 (by decide) (by omega)) gb
    have bq1 : Bd (20 * (d / 6).toNat + 2) (1 + g + 1) := Bd.add bq (Bd.small 1 (by decide) (by omega))
    obtain ⟨p, rfl, hp0, bp⟩ : ∃ p, x = V.int p ∧ 0 ≤ p ∧ Bd (20 * (d / 6).toNat + 2) p := by
      simp only [List.mem_cons, List.not_mem_nil, or_false] at hx
      rcases hx with rfl | rfl | rfl | rfl | rfl
      · exact ⟨_, rfl, g10, gb1.mono (by omega)⟩
      · exact ⟨_, rfl, Int.emod_nonneg _ (by omega), bq1.emod (by omega)⟩
      · exact ⟨_, rfl, by omega, Bd.small 1 (by decide) (by omega)⟩
      · exact ⟨_, rfl, by omega, bq1⟩
      · exact ⟨_, rfl, by omega, Bd.small 1 (by decide) (by omega)⟩
    refine ⟨_, rfl, _, rfl, _, rfl, _, rfl, a, _, d, rfl, hP4, by omega, h6, h12, fun c H5 cb hP5 f5 => ?_⟩
    refine ⟨p, 1 + g, c, rfl, hp0, by omega, bq.mono (by omega), fun r H9 s9 er => ?_⟩
    have hq1 : (1 : Int) ≤ 1 + g := by omega
    have R := low_rule (k := 20 * (d / 6).toNat + 2) hp0 hq1 bp (bq.mono (by omega)) (cb.mono (by omega))
    exact k r _ _ _ H9 R er ((hP5.same s9).mono (by omega)) (f1.trans (f2.trans (f3.trans ((Fr.new nl).trans (f4.trans (f5.trans (Fr.same s9)))))))
end
end Lf
namespace Lf
open PySem PySem.Spec PyProof.Rows L2
theorem iteD {c A B : Prop} [Decidable c] (hc : c) (h : A) : if decide c = true then A else B := by
  rw [if_pos (decide_eq_true hc)]
  exact h
theorem iteDn {c A B : Prop} [Decidable c] (hc : ¬ c) (h : B) : if decide c = true then A else B := by
  rw [if_neg (fun z => hc (of_decide_eq_true z))]
  exact h
theorem iteTs {b : Bool} {A B : Prop} (h : b = true) (hA : A) : if b = true then A else B := by
  rw [h, if_pos rfl]
  exact hA
theorem iteFz {b : Bool} {A B : Prop} (h : b = false) (hB : B) : if b = true then A else B := by
  rw [h, if_neg Bool.false_ne_true]
  exact hB
theorem bool_f {b : Bool} (h : ¬ b = true) : b = false := by
  cases b
  · rfl
  · exact absurd rfl h
theorem lenS {n : Nat} (h : n ≤ 100000) : n ≤ sizeLine := by
  rw [sizeLine_eq]
  omega
theorem ltS {n : Nat} (h : n ≤ 100000) : n < sizeLine := by
  rw [sizeLine_eq]
  omega
theorem flat_is (ns : List Int) : (ns.map V.int).all flatV = true := by
  induction ns with
  | nil => rfl
  | cons n r ih => simpa [flatV] using ih
theorem mulW {a b : Nat} {x y : Int} (h : Bd a x) (h2 : Bd b y) (ha : 0 < a) (hb : 0 < b) (hab : a + b ≤ 1000000) : CMulW x y := wide_mul h h2 ha hb hab
theorem divW {b : Nat} {x y : Int} (h0 : 0 < y) (h : Bd b y) (hb : b ≤ 9000) : CDivW x y := ⟨h0, (h.mono hb).log (by decide)⟩
theorem divP {b : Nat} {x y : Int} (h0 : 0 < y) (h : Bd b y) (hb : b ≤ 9000) : CDivP x y := ⟨h0, PyProof.noPylong_of_log2 ((h.mono hb).log (by decide))⟩
theorem kii : kitB "int" "int" = some true := by decide +kernel
theorem kib : kitB "int" "bool" = some false := by decide +kernel
theorem ktt : kitB "tuple" "tuple" = some true := by decide +kernel
section
variable {P : Program} {w : World} {K : PySem.W.Frag} {mg : Str → Option Value} {base : Heap}
/-! ### integers -/
def spIsInt : Sp := fun vs H Q _ => ∃ i : Int, vs = [.int i] ∧ Q (.bl true) H
abbrev s_is_integer : Stmt := topS 8
abbrev N_is_integer : List Str := ["value"]
abbrev P_is_integer : List Str := ["value"]
theorem sc_is_integer : FnScope N_is_integer P_is_integer (defScope s_is_integer) := ⟨rfl, rfl, rfl, by decide +kernel, rfl, by decide +kernel, by decide +kernel⟩
theorem ok_is_integer (D : Df K mg "is_integer" s_is_integer P_is_integer) (B : Bi mg) : C8.Cal P w K mg base 1 "is_integer" spIsInt [] := by
  refine cal_of D sc_is_integer (fun vs H Q E h => ?_) (fun f cdv A outer s H vs Q E hr h => ?_)
  · obtain ⟨i, rfl, _⟩ := h
    rfl
  · obtain ⟨i, rfl, q⟩ := h
    refine ⟨_, (pss_one (ps_ret (pe_and (pe_callB (call_isi) (by rfl) B.isinstance_ bt_isinstance (pa_cons (pv 0) (pa_cons (pe_bltn (v := .ty "int") (by rfl) B.int_ bt_int rfl) pa_nil))) (pe_one (pe_not (pe_callB (call_isi) (by rfl) B.isinstance_ bt_isinstance (pa_cons (pv 0) (pa_cons (pe_bltn (v := .ty "bool") (by rfl) B.bool_ bt_bool rfl) pa_nil)))))))), ?_⟩
    refine ⟨_, rfl, _, _, _, _, true, rfl, .ty "int", .base (.int i), kit_ty kii, true, rfl, iteT ?_⟩
    exact ⟨_, rfl, _, _, _, _, false, rfl, .ty "bool", .base (.int i), kit_ty kib, false, rfl, q⟩
def spCheckInt : Sp := fun vs H Q _ => ∃ i : Int, vs = [.int i] ∧ Q .non H
end
end Lf
namespace Lf
open PySem PySem.Spec PyProof.Rows L2
section
variable {P : Program} {w : World} {K : PySem.W.Frag} {mg : Str → Option Value} {base : Heap}
def spCheckAL : Sp := fun vs H Q _ => ∃ v l : Int, vs = [.int v, .int l] ∧ l ≤ v ∧ Q .non H
end
end Lf
namespace Lf
open PySem PySem.Spec PyProof.Rows L2
section
variable {P : Program} {w : World} {K : PySem.W.Frag} {mg : Str → Option Value} {base : Heap}
/-! ### rules -/
def spIsRule : Sp := fun vs H Q _ => ∃ (r : Addr) (p q c : Int) (k : Nat), vs = [.ref r] ∧ H r = some (.tup [.int p, .int q, .int c]) ∧ RuleB k p q c ∧ ∀ H', Same H H' → Q (.bl true) H'
def spCheckRule : Sp := fun vs H Q _ => ∃ (r : Addr) (p q c : Int) (k : Nat), vs = [.ref r] ∧ H r = some (.tup [.int p, .int q, .int c]) ∧ RuleB k p q c ∧ ∀ H', Same H H' → Q .non H'
end
end Lf
namespace Lf
open PySem PySem.Spec PyProof.Rows L2
section
variable {P : Program} {w : World} {K : PySem.W.Frag} {mg : Str → Option Value} {base : Heap}
/-! ### count -/
def spCount : Sp := fun vs H Q _ => ∃ (r : Addr) (p q c t : Int) (k : Nat), vs = [.ref r, .int t] ∧ H r = some (.tup [.int p, .int q, .int c]) ∧ RuleB k p q c ∧ Bd k t ∧ 0 < k ∧ k ≤ 4000 ∧
  ∀ H', Same H H' → Q (.int ((p * t + c) / q)) H'
end
end Lf
namespace Lf
open PySem PySem.Spec PyProof.Rows L2
section
variable {P : Program} {w : World} {K : PySem.W.Frag} {mg : Str → Option Value} {base : Heap}
def spTally : Sp := fun vs H Q _ => ∃ (r : Addr) (p q c t : Int) (k : Nat), vs = [.ref r, .int t] ∧ H r = some (.tup [.int p, .int q, .int c]) ∧ RuleB k p q c ∧ Bd k t ∧ 0 < k ∧ k ≤ 3000 ∧ Q (.int ((p * t + c) / q)) H
abbrev s_l_tally : Stmt := topS 26
abbrev N_l_tally : List Str := ["_law_rule_here", "_law_time"]
abbrev P_l_tally : List Str := ["_law_rule_here", "_law_time"]
theorem sc_l_tally : FnScope N_l_tally P_l_tally (defScope s_l_tally) := ⟨rfl, rfl, rfl, by decide +kernel, rfl, by decide +kernel, by decide +kernel⟩
theorem ok_l_tally (D : Df K mg "_law_tally" s_l_tally P_l_tally) : C8.Cal P w K mg base 1 "_law_tally" spTally [] := by
  refine cal_of D sc_l_tally (fun vs H Q E h => ?_) (fun f cdv A outer s H vs Q E hr h => ?_)
  · obtain ⟨r, p, q, c, t, k, rfl, _⟩ := h
    rfl
  · obtain ⟨r, p, q, c, t, k, rfl, er, R, bt, k0, k3, kk⟩ := h
    refine ⟨_, (pss_one (ps_ret (pe_op op_fdivW (pe_op op_add (pe_op op_mulW (pe_ix (r := rIxT K) ix_tup (pv 0) pe_int (fun _ _ => rfl)) (pv 1)) (pe_ix (r := rIxT K) ix_tup (pv 0) pe_int (fun _ _ => rfl))) (pe_ix (r := rIxT K) ix_tup (pv 0) pe_int (fun _ _ => rfl))))), ?_⟩
    refine ⟨_, rfl, r, _, _, _, rfl, rfl, SqT.of er, atI_nat (j := 0) rfl, _, rfl, _, _, rfl, rfl, mulW R.bp bt k0 k0 (by omega), ?_⟩
    refine ⟨_, rfl, r, _, _, _, rfl, rfl, SqT.of er, atI_nat (j := 2) rfl, _, _, rfl, rfl, ?_⟩
    refine ⟨_, rfl, r, _, _, _, rfl, rfl, SqT.of er, atI_nat (j := 1) rfl, _, _, rfl, rfl, divW (by have := R.q1; omega) R.bq (by omega), kk⟩
end
end Lf
namespace Lf
open PySem PySem.Spec PyProof.Rows L2
/-! ### checks of integers: any value -/
def atLeast (l : Int) : PyData → Bool
  | .int i => decide (l ≤ i)
  | _ => false
theorem isI_b {d : PyData} (h : isI d = true) : isIB d = true ∧ isB d = false := by
  cases d <;> first | exact ⟨rfl, rfl⟩ | cases h
section
variable {P : Program} {w : World} {K : PySem.W.Frag} {mg : Str → Option Value} {base : Heap} {C : Addr}
def spIsAny : Sp := fun vs H Q _ => ∃ (v : V) (d : PyData), vs = [v] ∧ Dv H v d ∧ Q (.bl (isI d)) H
theorem okA_is_integer (D : Df K mg "is_integer" s_is_integer P_is_integer) (B : Bi mg) : C8.Cal P w K mg base 1 "is_integer" spIsAny [] := by
  refine cal_of D sc_is_integer (fun vs H Q E h => ?_) (fun f cdv A outer s H vs Q E hr h => ?_)
  · obtain ⟨v, d, rfl, _⟩ := h
    rfl
  · obtain ⟨v, d, rfl, dv, q⟩ := h
    refine ⟨_, (pss_one (ps_ret (pe_and (pe_callB (call_isi) (by rfl) B.isinstance_ bt_isinstance (pa_cons (pv 0) (pa_cons (pe_bltn (v := .ty "int") (by rfl) B.int_ bt_int rfl) pa_nil))) (pe_one (pe_not (pe_callB (call_isi) (by rfl) B.isinstance_ bt_isinstance (pa_cons (pv 0) (pa_cons (pe_bltn (v := .ty "bool") (by rfl) B.bool_ bt_bool rfl) pa_nil)))))))), ?_⟩
    refine ⟨_, rfl, _, _, _, _, isIB d, rfl, .ty "int", dv.ty, kit_ty (kit_int d), isIB d, rfl, ?_⟩
    by_cases hb : isIB d = true
    · rw [if_pos hb]
      refine ⟨_, rfl, _, _, _, _, isB d, rfl, .ty "bool", dv.ty, kit_ty (kit_bool d), isB d, rfl, ?_⟩
      have e : (!isB d) = isI d := by
        cases d <;> first | rfl | cases hb
      rw [e]
      exact q
    · rw [if_neg hb]
      have e : isI d = false := by
        cases d <;> first | rfl | exact absurd rfl hb
      rw [e] at q
      exact q
/-- InvalidNumber, with the value -/
def Out (C : Addr) (v : V) (H : Hp) (E : XK) : Prop := ∀ dd, H dd = none → E (.ref C) (some dd) (upd H dd (.xd [("value", v)]))
def spCkI (C : Addr) : Sp := fun vs H Q E => ∃ (v : V) (d : PyData), vs = [v] ∧ Dv H v d ∧ (isI d = true → Q .non H) ∧ (isI d = false → Out C v H E)
def spCkL (C : Addr) : Sp := fun vs H Q E => ∃ (v : V) (d : PyData) (l : Int), vs = [v, .int l] ∧ Dv H v d ∧ (atLeast l d = true → Q .non H) ∧ (atLeast l d = false → Out C v H E)
end
end Lf
namespace Lf
open PySem PySem.Spec PyProof.Rows L2
/-- repr of an int or of None -/
theorem repr_some {X : Cx} : CallR X (.builtin "repr") (fun xs H Q => (∃ i : Int, xs = [.int i] ∧ i.natAbs.log2 < 1920 ∧ Q (.str (toString i)) H) ∨ (xs = [.non] ∧ Q (.str "None") H)) := by
  intro pins s σ H xs us Q I rel h
  rcases h with h | ⟨rfl, hq⟩
  · exact SkE.call_repr_int pins s σ H xs us Q I rel h
  · obtain ⟨u, hu, ru⟩ := vals1 rel
    subst hu
    have eu : u = Value.none := ru
    subst eu
    exact PySem.P.repr_of_none ⟨.str "None", H, I.tok _, ⟨_, rfl⟩, hq⟩
theorem cut_take (xs : List V) (m : Int) (h : 0 ≤ m) : cutV xs none (some m) = xs.take m.toNat := by
  obtain ⟨n, rfl⟩ := Int.eq_ofNat_of_zero_le h
  unfold cutV
  rw [HT.sIx_none, show HT.sIx xs.length xs.length (some ((n : Nat) : Int)) = min n xs.length from HT.sIx_nat _ _ n, List.drop_zero, Nat.sub_zero]
  show xs.take (min n xs.length) = xs.take n
  by_cases hn : n ≤ xs.length
  · rw [Nat.min_eq_left hn]
  · rw [Nat.min_eq_right (by omega), List.take_of_length_le (Nat.le_refl _), List.take_of_length_le (by omega)]
theorem flat_ints (ns : List Int) : (ns.map V.int).all flatV = true := by
  induction ns with
  | nil => rfl
  | cons n r ih => simpa [flatV] using ih
theorem inV_ints (ns : List Int) (k : Int) : inV (V.int k) (ns.map V.int) = decide (k ∈ ns) := by
  induction ns with
  | nil => rfl
  | cons n r ih =>
    have ih' : ((r.map V.int).any fun y => eqV y (V.int k)) = decide (k ∈ r) := ih
    show (eqV (V.int n) (V.int k) || (r.map V.int).any fun y => eqV y (V.int k)) = decide (k ∈ n :: r)
    rw [ih']
    by_cases h : n = k
    · subst h
      simp [eqV]
    · have h' : ¬ k = n := fun z => h z.symm
      simp [eqV, h, h']
end Lf
namespace Lf
open PySem PySem.Spec PyProof.Rows L2
/-! ### tables of code objects, kept -/
theorem tabs_fr {T : List (Addr × Str)} {H H' : Hp} (t : LamX.Tabs T H) (f : Fr H H') : LamX.Tabs T H' := fun p hp => by
  obtain ⟨ps, h1, h2, h3⟩ := t p hp
  refine ⟨ps, f.k _ _ h1 (fun _ z => by cases z), h2, fun pos cv hc => ?_⟩
  obtain ⟨c, e1, e2⟩ := h3 pos cv hc
  exact ⟨c, e1, f.k _ _ e2 fun _ z => by unfold LamX.CodeO at z; cases z⟩
theorem tabs_same {T : List (Addr × Str)} {H H' : Hp} (t : LamX.Tabs T H) (s : Same H H') : LamX.Tabs T H' := tabs_fr t (Fr.same s)
theorem Pen.extN {H H' : Hp} {a : PA} {n : Nat} (p : Pen H a n) (e : LamX.ExtN H H') : Pen H' a n := by
  obtain ⟨cs, t, r, h1, h2, h3⟩ := p.ex
  exact ⟨cs, t, r, e _ _ h1 (fun _ z => by cases z), e _ _ h2 (fun _ z => by cases z), h3⟩
theorem tup_extN {H H' : Hp} {b : Addr} {xs : List V} (e : LamX.ExtN H H') (h : H b = some (.tup xs)) : H' b = some (.tup xs) := e _ _ h fun _ z => by cases z
def spLawT (K : PySem.W.Frag) (PT : Addr) : Sp := fun vs H Q _ => ∃ (a : Addr) (ns : List Int), vs = [.ref a] ∧ SqL K H a (ns.map V.int) ∧ ns.length ≤ 63 ∧ H PT = some (.tbl #[]) ∧ ∀ H', Q (.bl true) H'
theorem iteFs {b : Bool} {A B : Prop} (h : b = false) (hB : B) : if b = true then A else B := by
  rw [h, if_neg Bool.false_ne_true]
  exact hB
theorem notin_of {ns : List Int} {k : Int} (h : k ∈ ns) : (if true = true then !inV (V.int k) (ns.map V.int) else inV (V.int k) (ns.map V.int)) = false := by
  rw [if_pos rfl, inV_ints, decide_eq_true h]
  rfl
/-- two pairs that are the same are not different -/
theorem ne2 {K : PySem.W.Frag} {H : Hp} {r1 r2 : Addr} {p q p' q' : Int} {Q : V → Hp → Prop} (e1 : H r1 = some (.tup [.int p, .int q])) (e2 : H r2 = some (.tup [.int p', .int q'])) (hp : p = p') (hq : q = q') (h : Q (.bl false) H) : rNeD K (.ref r1) (.ref r2) H Q := by
  subst hp hq
  refine ⟨.tuple [.int p, .int q], .tuple [.int p, .int q], Dp.tup (SqT.of e1) (.cons (.int p) (.cons (.int q) .nil)), Dp.tup (SqT.of e2) (.cons (.int p) (.cons (.int q) .nil)), rfl, rfl, ?_⟩
  rw [SeqAt.eqv_refl _ rfl]
  exact h
abbrev qLam : Str := (("law" : Str) ++ (".<locals>." : Str)) ++ ("<lambda>" : Str)
end Lf
namespace Lf
open PySem PySem.Spec PyProof.Rows L2
/-- two rules that are the same are not different -/
theorem ne3 {K : PySem.W.Frag} {H : Hp} {r1 r2 : Addr} {p q c p' q' c' : Int} {Q : V → Hp → Prop} (e1 : H r1 = some (.tup [.int p, .int q, .int c])) (e2 : H r2 = some (.tup [.int p', .int q', .int c'])) (hp : p = p') (hq : q = q') (hc : c = c') (h : Q (.bl false) H) : rNeD K (.ref r1) (.ref r2) H Q := by
  subst hp hq hc
  refine ⟨.tuple [.int p, .int q, .int c], .tuple [.int p, .int q, .int c], Dp.tup (SqT.of e1) (.cons (.int p) (.cons (.int q) (.cons (.int c) .nil))), Dp.tup (SqT.of e2) (.cons (.int p) (.cons (.int q) (.cons (.int c) .nil))), rfl, rfl, ?_⟩
  rw [SeqAt.eqv_refl _ rfl]
  exact h
theorem logR {k : Nat} {i : Int} (h : Bd k i) (hk : k ≤ 1920) : i.natAbs.log2 < 1920 := (h.mono hk).log (by decide)
def spLaw (K : PySem.W.Frag) : Sp := fun vs H Q _ => ∃ (a : Addr) (ns : List Int), vs = [.ref a] ∧ SqL K H a (ns.map V.int) ∧ ns.length ≤ 63 ∧ ∀ H', Q (.bl true) H'
end Lf
namespace Lf
open PySem PySem.Spec PyProof.Rows L2
/-! ### any value: how it is shown -/
mutual
theorem DvF.kp {H H' : Hp} (f : Kp H H') : ∀ (d : PyData) (v : V), DvF H v d → DvF H' v d
  | .none, _, .non => .non
  | .bool _, _, .bl b => .bl b
  | .int _, _, .int i => .int i
  | .str _, _, .str x => .str x
  | .list ds, _, .lst h hs => .lst (f.l _ _ h) (DvF.kpAll f ds _ hs)
  | .tuple ds, _, .tup h hs => .tup (f.t _ _ h) (DvF.kpAll f ds _ hs)
  | .dict [], _, .dk0 h => .dk0 (f.d0 _ h)
  | .dict [(.str _, d)], _, .dk1 h h2 => .dk1 (f.d1 _ _ _ h) (DvF.kp f d _ h2)
theorem DvF.kpAll {H H' : Hp} (f : Kp H H') : ∀ (ds : List PyData) (vs : List V), DvFAll H vs ds → DvFAll H' vs ds
  | [], _, .nil => .nil
  | d :: ds, _, .cons h hs => .cons (DvF.kp f d _ h) (DvF.kpAll f ds _ hs)
end
/-- shown in at most m signs, of nesting at most n -/
def ShN (n m : Nat) (d : PyData) : Prop := d.showable = true ∧ d.depth ≤ n ∧ d.shown.length ≤ m
theorem ShN.mono {n m n' m' : Nat} {d : PyData} (h : ShN n m d) (a : n ≤ n') (b : m ≤ m') : ShN n' m' d := ⟨h.1, by have := h.2.1; omega, by have := h.2.2; omega⟩
theorem shn_all {n m : Nat} : ∀ l : List PyData, (∀ d ∈ l, ShN n m d) → PyData.showableAll l = true ∧ PyData.depthAll l ≤ n ∧ ((PyData.shownAll l).map (·.length)).sum ≤ m * l.length ∧ (PyData.shownAll l).length = l.length := by
  intro l
  induction l with
  | nil => intro _; exact ⟨rfl, Nat.zero_le _, by simp [PyData.shownAll], rfl⟩
  | cons z r ih =>
    intro h
    obtain ⟨i1, i3, i4, i5⟩ := ih fun y hy => h y (List.mem_cons_of_mem _ hy)
    obtain ⟨z1, z2, z3⟩ := h z (List.mem_cons_self ..)
    refine ⟨?_, ?_, ?_, ?_⟩
    · simp [PyData.showableAll, z1, i1]
    · simp only [PyData.depthAll]
      omega
    · simp only [List.map_cons, PyData.shownAll, List.sum_cons, List.length_cons, Nat.mul_succ]
      omega
    · simp [PyData.shownAll, i5]
theorem shn_lst {n m k : Nat} {ds : List PyData} (h : ∀ d ∈ ds, ShN n m d) (hl : ds.length ≤ k) : ShN (n + 1) (m * k + 2 * k + 3) (.list ds) := by
  obtain ⟨k1, k3, k4, k5⟩ := shn_all ds h
  refine ⟨by simpa [PyData.showable] using k1, by simp only [PyData.depth]; omega, ?_⟩
  have := listText_len_le (PyData.shownAll ds)
  rw [k5] at this
  have h2 : m * ds.length ≤ m * k := Nat.mul_le_mul_left _ hl
  show (listText (PyData.shownAll ds)).length ≤ _
  omega
theorem shn_tup {n m k : Nat} {ds : List PyData} (h : ∀ d ∈ ds, ShN n m d) (hl : ds.length ≤ k) : ShN (n + 1) (m * k + 2 * k + 3) (.tuple ds) := by
  obtain ⟨k1, k3, k4, k5⟩ := shn_all ds h
  refine ⟨by simpa [PyData.showable] using k1, by simp only [PyData.depth]; omega, ?_⟩
  have := tupleText_len_le (PyData.shownAll ds)
  rw [k5] at this
  have h2 : m * ds.length ≤ m * k := Nat.mul_le_mul_left _ hl
  show (tupleText (PyData.shownAll ds)).length ≤ _
  omega
theorem shn_dk {n m : Nat} {d : PyData} (h : ShN n m d) : ShN (n + 1) (m + 40) (.dict [(.str "a", d)]) := by
  obtain ⟨h1, h2, h3⟩ := h
  refine ⟨?_, ?_, ?_⟩
  · simp [PyData.showable, PyData.showableKv, h1]
  · simp only [PyData.depth, PyData.depthKv]
    omega
  · have h4 := dictText_len_le (PyData.shownKv [(.str "a", d)])
    have e : PyData.shownKv [(.str "a", d)] = [(PyData.str "a").shown ++ (": " : Str) ++ d.shown] := rfl
    rw [e] at h4
    have h5 : ((PyData.str "a").shown ++ (": " : Str) ++ d.shown).length = 5 + d.shown.length := by
      rw [Str.length_append, Str.length_append]
      have : (PyData.str "a").shown.length = 3 := by decide +kernel
      have : (": " : Str).length = 2 := by decide +kernel
      omega
    show (dictText [(PyData.str "a").shown ++ (": " : Str) ++ d.shown]).length ≤ _
    simp only [List.map_cons, List.map_nil, List.sum_cons, List.sum_nil, List.length_cons, List.length_nil] at h4
    omega
end Lf
namespace Lf
open PySem PySem.Spec PyProof.Rows L2
/-- the heap without what stands at F -/
def erH (F : Addr) (H : Hp) : Hp := fun a => if a = F then none else H a
theorem erH_kp {F : Addr} {H : Hp} : Kp (erH F H) H := by
  have h : ∀ b (o : HO), erH F H b = some o → H b = some o := fun b o e => by
    unfold erH at e
    by_cases z : b = F
    · rw [if_pos z] at e
      cases e
    · rw [if_neg z] at e
      exact e
  exact ⟨fun b _ e => h b _ e, fun b _ e => h b _ e, fun b e => h b _ e, fun b _ _ e => h b _ e⟩
theorem erH_upd {F : Addr} {H : Hp} {o : HO} : erH F (upd H F o) = erH F H := by
  funext a
  unfold erH
  by_cases z : a = F
  · rw [if_pos z, if_pos z]
  · rw [if_neg z, if_neg z, upd_ne z]
theorem erH_new {F : Addr} {H : Hp} (n : H F = none) : Kp H (erH F H) := by
  have h : ∀ b (o : HO), H b = some o → erH F H b = some o := fun b o e => by
    unfold erH
    rw [if_neg (ne_of_none e n)]
    exact e
  exact ⟨fun b _ e => h b _ e, fun b _ e => h b _ e, fun b e => h b _ e, fun b _ _ e => h b _ e⟩
theorem erH_mono {F : Addr} {H H' : Hp} (k : Kp H H') : Kp (erH F H) (erH F H') := by
  have h : ∀ b (o : HO), erH F H b = some o → b ≠ F ∧ H b = some o := fun b o e => by
    unfold erH at e
    by_cases z : b = F
    · rw [if_pos z] at e
      cases e
    · rw [if_neg z] at e
      exact ⟨z, e⟩
  have g : ∀ b (o : HO), b ≠ F → H' b = some o → erH F H' b = some o := fun b o z e => by
    unfold erH
    rw [if_neg z]
    exact e
  exact ⟨fun b _ e => let ⟨z, e⟩ := h b _ e; g b _ z (k.l _ _ e), fun b _ e => let ⟨z, e⟩ := h b _ e; g b _ z (k.t _ _ e), fun b e => let ⟨z, e⟩ := h b _ e; g b _ z (k.d0 _ e), fun b _ _ e => let ⟨z, e⟩ := h b _ e; g b _ z (k.d1 _ _ _ e)⟩
theorem Kp.refl (H : Hp) : Kp H H := ⟨fun _ _ h => h, fun _ _ h => h, fun _ h => h, fun _ _ _ h => h⟩
end Lf
namespace Lf
open PySem PySem.Spec PyProof.Rows L2
/-! ### what is new since a heap -/
def kept (H : Hp) (b : Addr) : Prop := ∃ o, H b = some o ∧ ∀ q : Addr × Int × Int, o ≠ .dK (penD q.1 q.2.1 q.2.2)
open Classical in
noncomputable def nwH (H H' : Hp) : Hp := fun b => if kept H b then none else H' b
section
variable {H H1 H2 H' : Hp} {b p Y : Addr} {o : HO}
theorem kept.fr (h : kept H b) (f : Fr H H') : kept H' b := let ⟨o, e, n⟩ := h; ⟨o, f.k _ _ e n, n⟩
theorem nw_some : nwH H H' b = some o ↔ ¬ kept H b ∧ H' b = some o := by
  unfold nwH
  by_cases h : kept H b
  · rw [if_pos h]
    exact ⟨fun z => (nomatch z), fun z => absurd h z.1⟩
  · rw [if_neg h]
    exact ⟨fun z => ⟨h, z⟩, fun z => z.2⟩
theorem kp_by {A B : Hp} (h : ∀ b o, A b = some o → (B b = some o)) : Kp A B := ⟨fun b _ e => h b _ e, fun b _ e => h b _ e, fun b e => h b _ e, fun b _ _ e => h b _ e⟩
theorem nw_kp : Kp (nwH H H') H' := kp_by fun _ _ e => (nw_some.mp e).2
theorem nw_mono (f : Fr H H1) : Kp (nwH H1 H') (nwH H H') := kp_by fun _ _ e => let ⟨a, c⟩ := nw_some.mp e; nw_some.mpr ⟨fun z => a (z.fr f), c⟩
theorem er_some : erH Y H b = some o ↔ b ≠ Y ∧ H b = some o := by
  unfold erH
  by_cases h : b = Y
  · rw [if_pos h]
    exact ⟨fun z => (nomatch z), fun z => absurd h z.1⟩
  · rw [if_neg h]
    exact ⟨fun z => ⟨h, z⟩, fun z => z.2⟩
/-- new since H1, so new since H and not Y, which stood at H1 -/
theorem nw_er (f : Fr H H1) (k : kept H1 Y) : Kp (nwH H1 H') (erH Y (nwH H H')) := kp_by fun b _ e =>
  let ⟨a, c⟩ := nw_some.mp e
  er_some.mpr ⟨fun z => a (z ▸ k), nw_some.mpr ⟨fun z => a (z.fr f), c⟩⟩
theorem nw_step (k : Kp H1 H2) : Kp (nwH H H1) (nwH H H2) := by
  refine ⟨fun b _ e => ?_, fun b _ e => ?_, fun b e => ?_, fun b _ _ e => ?_⟩ <;> have h := nw_some.mp e
  · exact nw_some.mpr ⟨h.1, k.l _ _ h.2⟩
  · exact nw_some.mpr ⟨h.1, k.t _ _ h.2⟩
  · exact nw_some.mpr ⟨h.1, k.d0 _ h.2⟩
  · exact nw_some.mpr ⟨h.1, k.d1 _ _ _ h.2⟩
theorem er_nw_upd : erH Y (nwH H (upd H' Y o)) = erH Y (nwH H H') := by
  funext b
  unfold erH nwH
  by_cases h : b = Y
  · rw [if_pos h, if_pos h]
  · rw [if_neg h, if_neg h, upd_ne h]
theorem nw_at (f : Fr H H1) (n : H1 p = none) (e : H' p = some o) : nwH H H' p = some o := by
  refine nw_some.mpr ⟨fun z => ?_, e⟩
  obtain ⟨u, a, b⟩ := z
  rw [f.k _ _ a b] at n
  cases n
theorem kept_lst {xs : List V} (e : H b = some (.lst xs)) : kept H b := ⟨_, e, fun _ z => by cases z⟩
end
end Lf
namespace Lf
open PySem PySem.Spec PyProof.Rows L2
def AnyV (n m : Nat) (H : Hp) (x : V) : Prop := ∃ d, DvF H x d ∧ ShN n m d
def AnyL (n m : Nat) (H : Hp) (xs : List V) : Prop := ∀ x ∈ xs, AnyV n m H x
section
variable {n m n' m' : Nat} {H H' : Hp} {xs ys : List V} {x : V}
theorem AnyV.kp (h : AnyV n m H x) (k : Kp H H') : AnyV n m H' x := let ⟨d, a, b⟩ := h; ⟨d, DvF.kp k _ _ a, b⟩
theorem AnyV.mono (h : AnyV n m H x) (a : n ≤ n') (b : m ≤ m') : AnyV n' m' H x := let ⟨d, c, s⟩ := h; ⟨d, c, s.mono a b⟩
theorem AnyL.kp (h : AnyL n m H xs) (k : Kp H H') : AnyL n m H' xs := fun x hx => (h x hx).kp k
theorem AnyL.same (h : AnyL n m H xs) (s : Same H H') : AnyL n m H' xs := h.kp (Fr.same s).kp
theorem AnyL.mono (h : AnyL n m H xs) (a : n ≤ n') (b : m ≤ m') : AnyL n' m' H xs := fun x hx => (h x hx).mono a b
theorem AnyL.snoc (h : AnyL n m H xs) (o : AnyV n m H x) : AnyL n m H (xs ++ [x]) := fun y hy => by
  rcases List.mem_append.mp hy with hy | hy
  · exact h y hy
  · rw [List.mem_singleton.mp hy]
    exact o
theorem AnyL.app (h : AnyL n m H xs) (h2 : AnyL n m H ys) : AnyL n m H (xs ++ ys) := fun y hy => (List.mem_append.mp hy).elim (h y) (h2 y)
theorem AnyL.nil : AnyL n m H [] := fun _ z => (nomatch z)
theorem AnyL.cons (o : AnyV n m H x) (h : AnyL n m H xs) : AnyL n m H (x :: xs) := fun y hy => by
  rcases List.mem_cons.mp hy with rfl | hy
  · exact o
  · exact h y hy
end
/-- a list of such values, as data -/
theorem anyL_dv {n m : Nat} {H : Hp} : ∀ {xs : List V}, AnyL n m H xs → ∃ ds, DvFAll H xs ds ∧ (∀ d ∈ ds, ShN n m d) ∧ ds.length = xs.length
  | [], _ => ⟨[], .nil, fun _ z => (nomatch z), rfl⟩
  | x :: r, h => by
    obtain ⟨d, a, b⟩ := h x List.mem_cons_self
    obtain ⟨ds, h1, h2, h3⟩ := anyL_dv (xs := r) fun y hy => h y (List.mem_cons_of_mem _ hy)
    exact ⟨d :: ds, .cons a h1, fun e he => by
      rcases List.mem_cons.mp he with rfl | he
      · exact b
      · exact h2 e he, by rw [List.length_cons, List.length_cons, h3]⟩
theorem any_lst {n m k : Nat} {H : Hp} {a : Addr} {xs : List V} (e : H a = some (.lst xs)) (h : AnyL n m H xs) (hl : xs.length ≤ k) : AnyV (n + 1) (m * k + 2 * k + 3) H (.ref a) := by
  obtain ⟨ds, h1, h2, h3⟩ := anyL_dv h
  exact ⟨.list ds, .lst e h1, shn_lst h2 (by omega)⟩
theorem any_tup {n m k : Nat} {H : Hp} {a : Addr} {xs : List V} (e : H a = some (.tup xs)) (h : AnyL n m H xs) (hl : xs.length ≤ k) : AnyV (n + 1) (m * k + 2 * k + 3) H (.ref a) := by
  obtain ⟨ds, h1, h2, h3⟩ := anyL_dv h
  exact ⟨.tuple ds, .tup e h1, shn_tup h2 (by omega)⟩
theorem any_dk {n m : Nat} {H : Hp} {a : Addr} {x : V} (e : H a = some (.dK [(Sum.inr "a", x)])) (h : AnyV n m H x) : AnyV (n + 1) (m + 40) H (.ref a) := by
  obtain ⟨d, h1, h2⟩ := h
  exact ⟨_, .dk1 e h1, shn_dk h2⟩
theorem any_by {n m : Nat} {H : Hp} {x : V} {d : PyData} (h : DvF H x d) (s : (d.showable && (decide (d.depth ≤ n) && decide (d.shown.length ≤ m))) = true) : AnyV n m H x := by
  rw [Bool.and_eq_true, Bool.and_eq_true, decide_eq_true_iff, decide_eq_true_iff] at s
  exact ⟨d, h, s⟩
theorem at_in9 {xs : List V} {d : Int} (h0 : 0 ≤ d) (h1 : d < (xs.length : Int)) : ∃ x, atI xs d = some x ∧ x ∈ xs := by
  obtain ⟨j, rfl⟩ := Int.eq_ofNat_of_zero_le h0
  have hj : j < xs.length := by omega
  exact ⟨_, atI_nat (List.getElem?_eq_getElem hj), List.getElem_mem hj⟩
theorem mergeKa {v : V} : mergeK [] [((Sum.inr ("a" : Str) : Key), v)] = [(Sum.inr ("a" : Str), v)] := rfl
def mB : Nat → Nat
  | 0 => 60
  | k + 1 => 3 * mB k + 60
def pB : Nat → Nat
  | 0 => 1
  | k + 1 => 3 * pB k + 2
theorem mB_ge : ∀ k, 60 ≤ mB k
  | 0 => Nat.le_refl _
  | k + 1 => by
    show 60 ≤ 3 * mB k + 60
    omega
theorem pB_le : ∀ k, k ≤ 3 → pB k ≤ 1000
  | 0, _ => by decide
  | 1, _ => by decide
  | 2, _ => by decide
  | 3, _ => by decide
  | k + 4, h => by omega
section
variable {P : Program} {w : World} {K : PySem.W.Frag} {mg : Str → Option Value} {base : Heap}
def spAnyS : Nat → Sp
  | 0 => fun _ _ _ _ => False
  | k + 1 => fun vs H Q _ => ∃ (a : PA) (n : Nat), vs = [.ref a, .int ((k : Nat) : Int)] ∧ Pen H a n ∧ n + 10000 * k < 2 ^ 37 ∧ k ≤ 3 ∧ ∀ x H', AnyV (2 * k + 3) (mB k) (nwH H H') x → Pen H' a (n + pB k) → Fr H H' → Q x H'
abbrev s_l_anything : Stmt := topS 28
abbrev N_l_anything : List Str := ["_law_pen_here", "_law_deep", "_law_inner", "_law_items", "_law_k"]
abbrev P_l_anything : List Str := ["_law_pen_here", "_law_deep"]
theorem sc_l_anything : FnScope N_l_anything P_l_anything (defScope s_l_anything) := ⟨rfl, rfl, rfl, by decide +kernel, rfl, by decide +kernel, by decide +kernel⟩
theorem any_step (k : Nat) (D : Df K mg "_law_anything" s_l_anything P_l_anything) (B : Bi mg) (c_l_draw : C8.Cal P w K mg base 1 "_law_draw" spDraw []) (c_l_anything : C8.Cal P w K mg base (k + 1) "_law_anything" (spAnyS k) []) : C8.Cal P w K mg base (k + 2) "_law_anything" (spAnyS (k + 1)) [] := by
  refine cal_of D sc_l_anything (fun vs H Q E h => ?_) (fun f cdv A outer s H vs Q E hr h => ?_)
  · obtain ⟨a, n, rfl, _⟩ := h
    rfl
  · obtain ⟨a, n, rfl, hP, hn, k3, kk⟩ := h
    have hr1 := hr
    refine ⟨_, (C8.pss_cut (ps_setLc (i := 2) (own := [("_law_k", 4)]) (g := (gName 4)) (by rfl) sc_l_anything.nd rfl rfl (sw_true rfl rfl rfl (by decide +kernel)) (pi_range1 rfl B.range_ (pa_cons (pe_ifExp (pt_cmpR op_gt (pv 1) pe_int (nomark _)) (C8.pe_c c_l_draw hr (by omega) (by rfl) (pa_cons (pv 0) (pa_cons pe_int pa_nil))) pe_int) pa_nil)) (blkOk_by (own := [("_law_k", 4)]) (N := N_l_anything) (sc := defScope s_l_anything) (by decide +kernel)) (fun _ _ _ _ _ => (pg_name (i := 4) sc_l_anything.nd rfl (Or.inl rfl))) (fun _ _ _ _ _ => pts_nil) (fun _ _ _ _ _ => (C8.pe_c c_l_anything hr (by omega) (by rfl) (pa_cons (pv 0) (pa_cons (pe_op op_sub (pv 1) pe_int) pa_nil)))))
    (C8.pss_cut (ps_set (i := 3) sc_l_anything.nd rfl (Or.inl rfl) (pe_lst (pa_cons pe_non (pa_cons pe_bl (pa_cons pe_bl (pa_cons pe_int (pa_cons pe_int (pa_cons (pe_un un_neg pe_int) (pa_cons pe_int (pa_cons pe_int (pa_cons (pe_op op_pow pe_int pe_int) (pa_cons (pe_un un_neg (pe_op op_pow pe_int pe_int)) (pa_cons pe_str (pa_cons pe_str (pa_cons pe_str (pa_cons pe_str (pa_cons (pe_lst pa_nil) (pa_cons pe_dnewK (pa_cons (pe_tup pa_nil) pa_nil)))))))))))))))))))
    (pss_cons (ps_set (i := 3) sc_l_anything.nd rfl (Or.inl rfl) (pe_op op_cat (pv 3) (pe_lst (pa_cons (pe_callTy (call_tuple_of) (by rfl) B.tuple_ bt_tuple (pa_cons (pv 2) pa_nil)) (pa_cons (pe_callTy (call_tuple_of) (by rfl) B.tuple_ bt_tuple (pa_cons (pv 2) pa_nil)) (pa_cons (pe_callTy (call_list_of) (by rfl) B.list_ bt_list (pa_cons (pv 2) pa_nil)) (pa_cons (pe_disp (pps_cons pe_str (pe_callTy (call_tuple_of) (by rfl) B.tuple_ bt_tuple (pa_cons (pv 2) pa_nil)) pps_nil) (by rfl) (by rfl) (fun z => by cases z) (by decide)) (pa_cons (pe_lst (pa_cons (pe_lst pa_nil) pa_nil)) (pa_cons (pe_tup (pa_cons pe_dnewK pa_nil)) pa_nil)))))))))
    (pss_one (ps_ret (pe_ix (r := rIxL K) ix_list (pv 3) (C8.pe_c c_l_draw hr (by omega) (by rfl) (pa_cons (pv 0) (pa_cons (pe_callB (call_len_seq) (by rfl) B.len_ bt_len (pa_cons (pv 3) pa_nil)) pa_nil))) (fun _ _ => rfl))))))), ?_⟩
    refine ⟨fun σ' H' => ∃ (L : Addr) (xs : List V), σ' = [some (.ref a), some (.int ((k : Nat) : Int)), some (.ref L), none, none] ∧ H' L = some (.lst xs) ∧ AnyL (2 * k + 1) (mB (k - 1)) (nwH H H') xs ∧ xs.length ≤ 3 ∧ Pen H' a (n + (pB k - 1)) ∧ Fr H H' ∧ (k = 0 → xs = []), ?_, ?_⟩
    · cases k with
      | zero =>
        refine ⟨_, rfl, _, _, rfl, rfl, _, rfl, iteFz rfl ⟨_, rfl, by decide, by decide, fun Y nY => ?_⟩⟩
        refine lc_range (lo := 0) (n := (0 : Int).toNat) (fun j H' => H' Y = some (.lst []) ∧ H' = upd H Y (.lst [])) ⟨upd_same, rfl⟩ (fun j _ hj => absurd hj (Nat.not_lt_zero j)) ?_
        rintro H' ⟨eY, rfl⟩
        exact ⟨Y, [], rfl, eY, .nil, by simp, (hP.new nY).mono (by omega), Fr.new nY, fun _ => rfl⟩
      | succ k =>
        refine ⟨_, rfl, _, _, rfl, rfl, _, rfl, iteTs (decide_eq_true (by omega)) ?_⟩
        refine ⟨_, rfl, a, _, _, rfl, hP, by omega, by decide, Bd.small 20 (by decide) (by decide), fun g H4 g0 g1 hP4 f4 => ⟨_, rfl, by omega, by omega, fun Y nY => ?_⟩⟩
        have pk : pB k ≤ 1000 := pB_le k (by omega)
        have hpb : pB (k + 1) = 3 * pB k + 2 := rfl
        refine lc_range (lo := 0) (n := g.toNat) (fun j H' => ∃ xs : List V, H' Y = some (.lst xs) ∧ AnyL (2 * k + 3) (mB k) (erH Y (nwH H H')) xs ∧ xs.length = j ∧ Pen H' a (n + 1 + pB k * j) ∧ Fr H4 H') ⟨[], upd_same, .nil, rfl, hP4.new nY, Fr.new nY⟩ ?_ ?_
        · rintro j H7 hj ⟨xs, eY, aY, lx, hP7, f7⟩
          have jm : pB k * j ≤ 1000 * 3 := Nat.mul_le_mul pk (by omega)
          have jm2 : pB k * (j + 1) = pB k * j + pB k := Nat.mul_succ _ _
          refine ⟨rfl, _, rfl, _, rfl, _, _, rfl, rfl, a, _, ?_, hP7, by omega, by omega, fun x H8 ax hP8 f8 => ?_⟩
          · show [V.ref a.d, V.int (((k + 1 : Nat) : Int) - 1)] = _
            rw [show ((k + 1 : Nat) : Int) - 1 = ((k : Nat) : Int) by omega]
          have eY8 := f8.l _ _ eY
          refine ⟨xs, eY8, small1000 (by omega), xs ++ [x], upd_same, ?_, by rw [List.length_append, lx]; rfl, (hP4.over nY hP8).mono (by omega), (f7.trans f8).over nY⟩
          rw [er_nw_upd]
          exact (aY.kp (erH_mono (nw_step f8.kp))).snoc (ax.kp (nw_er (f4.trans f7) (kept_lst eY)))
        · rintro H7 ⟨xs, eY, aY, lx, hP7, f7⟩
          exact ⟨Y, xs, rfl, eY, aY.kp erH_kp, by omega, hP7.mono (by rw [hpb]; have : pB k * g.toNat ≤ pB k * 3 := Nat.mul_le_mul_left _ (by omega); omega), f4.trans f7, fun z => by omega⟩
    rintro σ' H1 ⟨L, xs, rfl, eL, aL, lx, hP1, f1, x0⟩
    have mg60 := mB_ge k
    have mk : ∀ {Hx : Hp} {x : V} {d : PyData}, DvF Hx x d → (d.showable && (decide (d.depth ≤ 3) && decide (d.shown.length ≤ 60))) = true → AnyV (2 * k + 3) (mB k) Hx x := fun a b => (any_by a b).mono (by omega) mg60
    refine ⟨fun σ' H' => ∃ (O : Addr) (ys : List V), σ' = [some (.ref a), some (.int ((k : Nat) : Int)), some (.ref L), some (.ref O), none] ∧ H' O = some (.lst ys) ∧ AnyL (2 * k + 3) (mB k) (nwH H H') ys ∧ ys.length = 17 ∧ Same H1 H', ?_, ?_⟩
    · refine ⟨1, rfl, _, _, rfl, rfl, ⟨by decide, by decide, by decide⟩, _, _, rfl, rfl, ⟨by decide, by decide, by decide⟩, _, rfl, ?_⟩
      refine ⟨len10 (by simp), fun o1 n1 => ?_⟩
      have z1 := sm_upd (o := .lst []) n1
      refine fun o2 n2 => ?_
      have z2 := sm_upd (o := .dK []) n2
      refine ⟨len10 (by simp), fun o3 n3 => ?_⟩
      have z3 := sm_upd (o := .tup []) n3
      refine ⟨len10 (by simp), fun O nO => ?_⟩
      have zO := sm_upd (o := .lst [.non, .bl true, .bl false, .int 0, .int 1, .int (-1), .int 2, .int 5, .int (10 ^ (40 : Int).toNat), .int (-(10 ^ (40 : Int).toNat)), .str "", .str "a", .str "0", .str "falls", .ref o1, .ref o2, .ref o3]) nO
      have s4 := z1.trans (z2.trans (z3.trans zO))
      have e1 := nw_at f1 n1 ((z2.trans (z3.trans zO)) _ _ (upd_same (H := H1) (a := o1) (o := .lst [])))
      have e2 := nw_at (f1.trans (Fr.same z1)) n2 ((z3.trans zO) _ _ (upd_same (H := upd H1 o1 (.lst [])) (a := o2) (o := .dK [])))
      have e3 := nw_at (f1.trans (Fr.same (z1.trans z2))) n3 (zO _ _ (upd_same (H := upd (upd H1 o1 (.lst [])) o2 (.dK [])) (a := o3) (o := .tup [])))
      refine ⟨O, _, rfl, upd_same, ?_, rfl, s4⟩
      refine .cons (mk .non (by decide +kernel)) (.cons (mk (.bl true) (by decide +kernel)) (.cons (mk (.bl false) (by decide +kernel)) (.cons (mk (.int 0) (by decide +kernel)) (.cons (mk (.int 1) (by decide +kernel)) (.cons (mk (.int (-1)) (by decide +kernel)) (.cons (mk (.int 2) (by decide +kernel)) (.cons (mk (.int 5) (by decide +kernel)) (.cons (mk (.int _) (by decide +kernel)) (.cons (mk (.int _) (by decide +kernel)) ?_)))))))))
      refine .cons (mk (.str "") (by decide +kernel)) (.cons (mk (.str "a") (by decide +kernel)) (.cons (mk (.str "0") (by decide +kernel)) (.cons (mk (.str "falls") (by decide +kernel)) ?_)))
      exact .cons (mk (.lst e1 .nil) (by decide +kernel)) (.cons (mk (.dk0 e2) (by decide +kernel)) (.cons (mk (.tup e3 .nil) (by decide +kernel)) .nil))
    rintro σ' H2 ⟨O, ys, rfl, eO, aO, ly, s2⟩
    have f2 := f1.trans (Fr.same s2)
    have eL2 := s2 _ _ eL
    have aL2 := aL.kp (nw_step (Fr.same s2).kp)
    have hP2 := hP1.same s2
    clear mk
    refine ⟨_, rfl, _, rfl, L, xs, rfl, .inl ⟨SqL.of eL2, fun t1 m1 => ?_⟩⟩
    have z1 := sm_upd (o := .tup xs) m1
    refine ⟨_, rfl, L, xs, rfl, .inl ⟨SqL.of (z1 _ _ eL2), fun t2 m2 => ?_⟩⟩
    have z2 := sm_upd (o := .tup xs) m2
    have z12 := z1.trans z2
    refine ⟨_, rfl, L, xs, rfl, .inl (SqL.of (z12 _ _ eL2)), fun t3 m3 => ?_⟩
    have z3 := sm_upd (o := .lst xs) m3
    have z13 := z12.trans z3
    refine fun t4 m4 => ?_
    have z4 := sm_upd (o := .dK []) m4
    have z14 := z13.trans z4
    refine ⟨_, rfl, L, xs, rfl, .inl ⟨SqL.of (z14 _ _ eL2), fun t5 m5 => ?_⟩⟩
    have z5 := sm_upd (o := .tup xs) m5
    have n45 : t4 ≠ t5 := ne_of_none upd_same m5
    refine ⟨z5 _ _ upd_same, [(Sum.inr "a", .ref t5)], rfl, by show 1 ≤ 15; decide, ?_⟩
    rw [mergeKa]
    have zG : Same H2 (upd (upd (upd (upd (upd (upd H2 t1 (.tup xs)) t2 (.tup xs)) t3 (.lst xs)) t4 (.dK [])) t5 (.tup xs)) t4 (.dK [(Sum.inr "a", .ref t5)])) := fun b x e => by
      rw [upd_ne (ne_of_none (z13 _ _ e) m4)]
      exact z5 _ _ (z14 _ _ e)
    have g1 : upd (upd (upd (upd (upd (upd H2 t1 (.tup xs)) t2 (.tup xs)) t3 (.lst xs)) t4 (.dK [])) t5 (.tup xs)) t4 (.dK [(Sum.inr "a", .ref t5)]) t1 = some (.tup xs) := by
      have e : upd (upd (upd H2 t1 (.tup xs)) t2 (.tup xs)) t3 (.lst xs) t1 = some (.tup xs) := z3 _ _ (z2 _ _ upd_same)
      rw [upd_ne (ne_of_none e m4)]
      exact z5 _ _ (z4 _ _ e)
    have g2 : upd (upd (upd (upd (upd (upd H2 t1 (.tup xs)) t2 (.tup xs)) t3 (.lst xs)) t4 (.dK [])) t5 (.tup xs)) t4 (.dK [(Sum.inr "a", .ref t5)]) t2 = some (.tup xs) := by
      have e : upd (upd (upd H2 t1 (.tup xs)) t2 (.tup xs)) t3 (.lst xs) t2 = some (.tup xs) := z3 _ _ upd_same
      rw [upd_ne (ne_of_none e m4)]
      exact z5 _ _ (z4 _ _ e)
    have g3 : upd (upd (upd (upd (upd (upd H2 t1 (.tup xs)) t2 (.tup xs)) t3 (.lst xs)) t4 (.dK [])) t5 (.tup xs)) t4 (.dK [(Sum.inr "a", .ref t5)]) t3 = some (.lst xs) := by
      rw [upd_ne (ne_of_none upd_same m4)]
      exact z5 _ _ (z4 _ _ upd_same)
    have g5 : upd (upd (upd (upd (upd (upd H2 t1 (.tup xs)) t2 (.tup xs)) t3 (.lst xs)) t4 (.dK [])) t5 (.tup xs)) t4 (.dK [(Sum.inr "a", .ref t5)]) t5 = some (.tup xs) := by
      rw [upd_ne n45.symm, upd_same]
    have g4 := upd_same (H := upd (upd (upd (upd (upd H2 t1 (.tup xs)) t2 (.tup xs)) t3 (.lst xs)) t4 (.dK [])) t5 (.tup xs)) (a := t4) (o := .dK [(Sum.inr "a", .ref t5)])
    have w1 := f2
    have w2 := f2.trans (Fr.same z1)
    have w3 := f2.trans (Fr.same z12)
    have w4 := f2.trans (Fr.same z13)
    have w5 := f2.trans (Fr.same z14)
    generalize upd (upd (upd (upd (upd (upd H2 t1 (.tup xs)) t2 (.tup xs)) t3 (.lst xs)) t4 (.dK [])) t5 (.tup xs)) t4 (.dK [(Sum.inr "a", .ref t5)]) = G at zG g1 g2 g3 g4 g5 ⊢
    have g1 := nw_at w1 m1 g1
    have g2 := nw_at w2 m2 g2
    have g3 := nw_at w3 m3 g3
    have g4 := nw_at w4 m4 g4
    have g5 := nw_at w5 m5 g5
    have fG := f2.trans (Fr.same zG)
    clear w1 w2 w3 w4 w5 z1 z2 z3 z4 z5 z12 z13 z14 n45 m1 m2 m3 m4 m5
    refine ⟨len10 (by simp), fun q1 r1 => ?_⟩
    have v1 := sm_upd (o := .lst []) r1
    refine ⟨len10 (by simp), fun q2 r2 => ?_⟩
    have v2 := sm_upd (o := .lst [.ref q1]) r2
    refine fun q3 r3 => ?_
    have v3 := sm_upd (o := .dK []) r3
    refine ⟨len10 (by simp), fun q4 r4 => ?_⟩
    have v4 := sm_upd (o := .tup [.ref q3]) r4
    refine ⟨len10 (by simp), fun W nW => ?_⟩
    have vW := sm_upd (o := .lst [.ref t1, .ref t2, .ref t3, .ref t4, .ref q2, .ref q4]) nW
    have vv := v1.trans (v2.trans (v3.trans (v4.trans vW)))
    refine ⟨O, W, ys, _, rfl, rfl, (zG.trans vv) _ _ eO, upd_same, len10 (by rw [ly]; show 17 + 6 ≤ 1000; decide), fun O2 nO2 => ?_⟩
    have vO := sm_upd (o := .lst (ys ++ [.ref t1, .ref t2, .ref t3, .ref t4, .ref q2, .ref q4])) nO2
    have q1e := nw_at fG r1 ((v2.trans (v3.trans (v4.trans (vW.trans vO)))) _ _ (upd_same (H := G) (a := q1) (o := .lst [])))
    have q2e := nw_at (fG.trans (Fr.same v1)) r2 ((v3.trans (v4.trans (vW.trans vO))) _ _ (upd_same (H := upd G q1 (.lst [])) (a := q2) (o := .lst [.ref q1])))
    have q3e := nw_at (fG.trans (Fr.same (v1.trans v2))) r3 ((v4.trans (vW.trans vO)) _ _ (upd_same (H := upd (upd G q1 (.lst [])) q2 (.lst [.ref q1])) (a := q3) (o := .dK [])))
    have q4e := nw_at (fG.trans (Fr.same (v1.trans (v2.trans v3)))) r4 ((vW.trans vO) _ _ (upd_same (H := upd (upd (upd G q1 (.lst [])) q2 (.lst [.ref q1])) q3 (.dK [])) (a := q4) (o := .tup [.ref q3])))
    have sv := vv.trans vO
    have ks := nw_step (H := H) (Fr.same sv).kp
    have aLx := (aL2.kp (nw_step (Fr.same zG).kp)).kp ks
    have bd : 2 * k + 1 + 1 ≤ 2 * k + 3 ∧ mB (k - 1) * 3 + 2 * 3 + 3 + 40 ≤ mB k ∨ k = 0 := by
      cases k with
      | zero => exact .inr rfl
      | succ k =>
        refine .inl ⟨by omega, ?_⟩
        show mB k * 3 + 2 * 3 + 3 + 40 ≤ 3 * mB k + 60
        omega
    have a6 : AnyL (2 * k + 3) (mB k) (nwH H (upd (upd (upd (upd (upd (upd G q1 (.lst [])) q2 (.lst [.ref q1])) q3 (.dK [])) q4 (.tup [.ref q3])) W (.lst [.ref t1, .ref t2, .ref t3, .ref t4, .ref q2, .ref q4])) O2 (.lst (ys ++ [.ref t1, .ref t2, .ref t3, .ref t4, .ref q2, .ref q4])))) [.ref t1, .ref t2, .ref t3, .ref t4, .ref q2, .ref q4] := by
      have b2 : AnyV (2 * k + 3) (mB k) _ (.ref q2) := (any_by (n := 3) (m := 60) (.lst q2e (.cons (.lst q1e .nil) .nil)) (by decide +kernel)).mono (by omega) mg60
      have b4 : AnyV (2 * k + 3) (mB k) _ (.ref q4) := (any_by (n := 3) (m := 60) (.tup q4e (.cons (.dk0 q3e) .nil)) (by decide +kernel)).mono (by omega) mg60
      have h1 := ks.t _ _ g1
      have h2 := ks.t _ _ g2
      have h3 := ks.l _ _ g3
      have h4 := ks.d1 _ _ _ g4
      have h5 := ks.t _ _ g5
      rcases bd with ⟨c1, c2⟩ | rfl
      · exact .cons ((any_tup h1 aLx lx).mono (by omega) (by omega)) (.cons ((any_tup h2 aLx lx).mono (by omega) (by omega)) (.cons ((any_lst h3 aLx lx).mono (by omega) (by omega)) (.cons ((any_dk h4 (any_tup h5 aLx lx)).mono (by omega) (by omega)) (.cons b2 (.cons b4 .nil)))))
      · obtain rfl := x0 rfl
        exact .cons (any_by (.tup h1 .nil) (by decide +kernel)) (.cons (any_by (.tup h2 .nil) (by decide +kernel)) (.cons (any_by (.lst h3 .nil) (by decide +kernel)) (.cons (any_by (.dk1 h4 (.tup h5 .nil)) (by decide +kernel)) (.cons b2 (.cons b4 .nil)))))
    have aF := ((aO.kp (nw_step (Fr.same zG).kp)).kp ks).app a6
    have eF := upd_same (H := upd (upd (upd (upd (upd G q1 (.lst [])) q2 (.lst [.ref q1])) q3 (.dK [])) q4 (.tup [.ref q3])) W (.lst [.ref t1, .ref t2, .ref t3, .ref t4, .ref q2, .ref q4])) (a := O2) (o := .lst (ys ++ [.ref t1, .ref t2, .ref t3, .ref t4, .ref q2, .ref q4]))
    have lF : (ys ++ [V.ref t1, .ref t2, .ref t3, .ref t4, .ref q2, .ref q4]).length = 23 := by rw [List.length_append, ly]; rfl
    have hPF := (hP2.same zG).same sv
    have fF := fG.trans (Fr.same sv)
    clear a6 aLx ks q1e q2e q3e q4e v1 v2 v3 v4 vW vO vv g1 g2 g3 g4 g5 aL2 aO
    generalize upd (upd (upd (upd (upd (upd G q1 (.lst [])) q2 (.lst [.ref q1])) q3 (.dK [])) q4 (.tup [.ref q3])) W (.lst [.ref t1, .ref t2, .ref t3, .ref t4, .ref q2, .ref q4])) O2 (.lst (ys ++ [.ref t1, .ref t2, .ref t3, .ref t4, .ref q2, .ref q4])) = GF at *
    generalize ys ++ [V.ref t1, .ref t2, .ref t3, .ref t4, .ref q2, .ref q4] = zs at aF eF lF ⊢
    have pk := pB_le k k3
    refine ⟨_, rfl, _, rfl, _, rfl, O2, _, rfl, .inl (SqL.of eF), a, _, _, rfl, hPF, by omega, by rw [lF]; decide, Bd.small 20 (by rw [lF]; decide) (by decide), fun i H7 i0 i1 hP7 f7 => ?_⟩
    obtain ⟨x, hx, mx⟩ := at_in9 (xs := zs) i0 i1
    refine ⟨O2, _, _, _, rfl, rfl, SqL.of (f7.l _ _ eF), hx, ?_⟩
    have p1 : 1 ≤ pB k := by cases k <;> simp [pB]
    exact kk x H7 ((aF x mx).kp (nw_step f7.kp)) (hP7.mono (by omega)) (fF.trans f7)
theorem ok_l_anything (D : Df K mg "_law_anything" s_l_anything P_l_anything) (B : Bi mg) (c_l_draw : C8.Cal P w K mg base 1 "_law_draw" spDraw []) : C8.Cal P w K mg base 3 "_law_anything" (spAnyS 2) [] := by
  exact  any_step 1 D B c_l_draw (any_step 0 D B c_l_draw (cal_of D sc_l_anything (fun _ _ _ _ h => h.elim) (fun _ _ _ _ _ _ _ _ _ _ h => h.elim)))
end
end Lf
namespace Lf
open PySem PySem.Spec PyProof.Rows L2
/-! ### enumerate of a tuple; of a list or a tuple -/
set_option maxHeartbeats 4000000 in
theorem meets_enum1 {v : Value} {o : Obj} {G : Heap → Prop} (B : Begins v o G) :
    Meets (Builtin.«enumerate.__new__» ⟨[.type "enumerate", v], []⟩) (fun _ R s => G s.heap ∧
      R (.ok (.ret (.ref (s.heap.push o).objs.size))) { s with heap := (s.heap.push o).push { cls := .type "enumerate", data := .fields #[.none, .bool false, .ref s.heap.objs.size, rawInt 0, .none, .none] } }) :=
  .of_wp fun prog w A R s h => by
    obtain ⟨hp, g, d, tk, os⟩ := s
    obtain ⟨h1, h⟩ := h
    have hsub := sub_enumerate
    have q1 : ∀ {A' : Around} {E : Value → Shared → Prop} {Q : Value → Shared → Prop}, Q (.ref hp.objs.size) ⟨hp.push o, g, d, tk, os⟩ → wpAny (model prog w) A' (pyIter v) Q E ⟨hp, g, d, tk, os⟩ :=
      fun q => B.iter prog w _ _ ⟨hp, g, d, tk, os⟩ _ h1 q
    wp_walk using q1
    refine wpAny_stack_any fun st => wpAny_pure ?_
    split
    · rename_i c _ _ _ _ _
      cases (c == Value.type "enumerate")
      · wp_walk using q1
        exact ⟨_, rfl, h⟩
      · wp_walk using q1
        exact ⟨_, rfl, h⟩
    · wp_walk using q1
      exact ⟨_, rfl, h⟩
theorem enum_begins1 {prog : Program} {w : World} {A : Around} {E : Value → Shared → Prop} {s : Shared} {v : Value} {o : Obj} {G : Heap → Prop} {Q : Value → Shared → Prop} (B : Begins v o G) (h1 : G s.heap)
    (h : ∀ h', IsEnum h' (s.heap.objs.size + 1) s.heap.objs.size 0 .none → h'.get? s.heap.objs.size = some o → h'.objs.size = s.heap.objs.size + 2 →
      (∀ b o, s.heap.get? b = some o → h'.get? b = some o) → Q (.ref (s.heap.objs.size + 1)) { s with heap := h' }) :
    wpAny (model prog w) A (call (.type "enumerate") [v]) Q E s := by
  refine callType_new F.called_enumerate (by decide) (F.typeCall_enumerate_1 _) (F.newCall_enumerate_1 _) (fun obj => F.args_object_init_2 obj _) F.entry_enumerate_new
    (meets_enum1 B) ⟨h1, ?_⟩
  have hz : (s.heap.push o).objs.size = s.heap.objs.size + 1 := Heap.size_push ..
  show _ ∧ _
  rw [hz]
  have he : IsEnum ((s.heap.push o).push { cls := .type "enumerate", data := .fields #[.none, .bool false, .ref s.heap.objs.size, rawInt 0, .none, .none] }) (s.heap.objs.size + 1) s.heap.objs.size 0 .none := by
    have := Heap.get?_push_size (s.heap.push o) (o := { cls := .type "enumerate", data := .fields #[.none, .bool false, .ref s.heap.objs.size, rawInt 0, .none, .none] }) rfl
    rw [hz] at this
    exact this
  exact ⟨⟨_, he, rfl⟩, h _ he (Heap.get?_push_of_some _ (Heap.get?_push_size _ B.free)) (by rw [Heap.size_push, hz]) fun b o x => Heap.get?_push_of_some _ (Heap.get?_push_of_some _ x)⟩
def IteT (K : PySem.W.Frag) (a : Addr) : It :=
  ⟨fun i H => ∃ (xs : List V) (x : V), SqT K H a xs ∧ xs[i]? = some x, fun i H v H' => ∃ T x, v = .ref T ∧ H T = none ∧ H' = upd H T (.tup [.int (i : Nat), x]) ∧ ∀ xs, SqT K H a xs → xs[i]? = some x, fun i H => ∃ xs : List V, SqT K H a xs ∧ xs.length = i⟩
theorem turn_enumT {P : Program} {w : World} {K : PySem.W.Frag} {elts : List Expr} {kk : Nat} {tpos : Pos} (a e it : Addr) (ne1 : e ≠ it) (ne2 : a ≠ it) (ne3 : e ≠ a) :
    Turn P w K (.Tuple elts kk tpos) (IteT K a) [e, it] e (fun i h => (∃ old, IsEnum h e it ((i : Nat) : Int) old) ∧ h.IsTupleIter it a i) where
  mem := by simp
  obj := fun i h st b hb => by
    obtain ⟨⟨old, he⟩, ⟨o, ho, hc, hd⟩⟩ := st
    have e' : b = e ∨ b = it := by simpa using hb
    rcases e' with z | z
    · rw [z]; exact ⟨_, he, fun v q => nomatch q⟩
    · rw [z]; exact ⟨o, ho, fun v q => by rw [hd] at q; cases q⟩
  keep := fun i h h' st k => let ⟨⟨old, he⟩, hi⟩ := st; ⟨⟨old, k e (by simp) _ he⟩, hi.at fun o q => k it (by simp) o q⟩
  item := by
    intro X hP hw hK hc i pins s σ H E I hf st hg
    subst hP hw hK
    obtain ⟨⟨old, he⟩, hit⟩ := st
    obtain ⟨xs, x, hq, hx⟩ := hg
    obtain ⟨its, rv, p, hz⟩ := I.tuple hq
    obtain ⟨u, hu, ru⟩ := rv.get hx
    have hel : e < s.heap.objs.size := Heap.lt_size he
    have hil : it < s.heap.objs.size := by obtain ⟨_, q, _⟩ := hit; exact Heap.lt_size q
    have hlt : i < its.toArray.size := by
      have := (List.getElem?_eq_some_iff.mp hu).1
      simpa using this
    have D := Draws.tuple (prog := X.prog) (w := X.w) (A := X.A.in1) (I.ok.hd hc) it a ne2 its.toArray
    refine wpAny_pyNext_enum_itemD D he ⟨hit, p⟩ hlt ne1 (by simp [ne1, ne3]) fun x' h' tk hP ho hit' hT hsz hk => ?_
    have eu : x' = u := by
      have hP : its.toArray[i]? = some x' := hP
      rw [show its.toArray[i]? = some u by simpa using hu] at hP
      exact (Option.some.inj hP).symm
    subst eu
    refine ⟨_, rfl, wpAny_letOwnedTupleGo_enum (s := { s with heap := h', toks := tk + 1 }) ho fun h'' he' sb => ?_⟩
    have hT2 : h''.get? s.heap.objs.size = some { cls := .type "tuple", data := .seq #[.int i tk, x'] } := (sb.2 _ (Nat.ne_of_gt hel)).trans hT
    have new : ObjOk X.prog X.w (upd H s.heap.objs.size (.tup [.int (i : Nat), x])) h'' s.heap.objs.size (.tup [.int (i : Nat), x]) :=
      ⟨by show 2 ≤ sizeLine; decide, [.int i tk, x'], .cons ⟨_, rfl⟩ (.cons ru .nil), ⟨_, hT2, rfl, _, rfl⟩⟩
    have I1 : Inv X pins σ (upd H s.heap.objs.size (.tup [.int (i : Nat), x])) { s with heap := h'', toks := tk + 1 } :=
      I.turnedNew (ch := [e, it]) (fun b ob hb q => (sb.2 b (fun z => hb (by simp [z]))).trans (hk b ob (fun z => hb (by simp [z])) (fun z => hb (by simp [z])) q)) hf (Nat.le_refl _) new
    refine ⟨.ref s.heap.objs.size, _, I1, rfl, ⟨_, x, rfl, I.hok.fresh (Nat.le_refl _), rfl, fun ys hy => by rw [I.tuple_inj hy hq]; exact hx⟩, ⟨⟨x', ?_⟩, hit'.1.at fun o q => (sb.2 it (Ne.symm ne1)).trans q⟩, fun b hb => ?_⟩
    · have e1 : ((i + 1 : Nat) : Int) = (i : Int) + 1 := by omega
      rw [e1]; exact he'
    · have hb' : b < s.heap.objs.size := by
        have e' : b = e ∨ b = it := by simpa using hb
        rcases e' with z | z
        · rw [z]; exact hel
        · rw [z]; exact hil
      rw [upd_ne (Nat.ne_of_lt hb')]
      exact (hf b hb).1
  done := by
    intro X hP hw hK hc i pins s σ H E I hf st hg
    subst hP hw hK
    obtain ⟨⟨old, he⟩, hit⟩ := st
    obtain ⟨xs, hq, hx⟩ := hg
    obtain ⟨its, rv, p, hz⟩ := I.tuple hq
    obtain ⟨f0, f1, f2, f3, f4, f5⟩ := hf it (by simp)
    have hl := rv.length
    have ei : i = its.toArray.size := by
      simp
      omega
    have D := Draws.tuple (prog := X.prog) (w := X.w) (A := X.A.in1) (I.ok.hd hc) it a ne2 its.toArray
    refine wpAny_pyNext_enum_endD D he ⟨ei ▸ hit, p⟩ fun h' eb => ⟨rfl, I.turned (t' := s.toks) (fun b o hb q => eb b o hb q) f0 f1 f3 f4 f5⟩
  self := fun A i s Q E st h => let ⟨⟨_, he⟩, _⟩ := st; wpAny_pyIter_enum he h
/-! ### a list or a tuple -/
def SqB (K : PySem.W.Frag) : Bool → Hp → Addr → List V → Prop
  | true => SqL K
  | false => SqT K
def sqO : Bool → List V → HO
  | true, xs => .lst xs
  | false, xs => .tup xs
theorem SqB.of {K : PySem.W.Frag} {b : Bool} {H : Hp} {a : Addr} {xs : List V} (h : H a = some (sqO b xs)) : SqB K b H a xs := by
  cases b
  · exact SqT.of h
  · exact SqL.of h
def Itb (K : PySem.W.Frag) : Bool → Addr → It
  | true => Itl K
  | false => Itt K
def IteB (K : PySem.W.Frag) : Bool → Addr → It
  | true => Ite K
  | false => IteT K
theorem walk_seq {K : PySem.W.Frag} {b : Bool} {a : Addr} {xs : List V} : Walk (Itb K b a) xs.length (fun H => SqB K b H a xs) (YAt xs) := by
  cases b
  · exact walk_tup
  · exact walk_list
theorem walk_enumT {K : PySem.W.Frag} {a : Addr} {xs : List V} : Walk (IteT K a) xs.length (fun H => SqT K H a xs) (YPair (fun i => some (.int (i : Nat))) (fun i => xs[i]?)) := by
  refine ⟨fun i _ hi q => ⟨xs, xs[i], q, by simp [hi]⟩, fun _ q => ⟨xs, q, rfl⟩, fun i H v H' _ q y => ?_⟩
  obtain ⟨T, x, h1, h2, h3, h4⟩ := y
  exact ⟨T, .int (i : Nat), x, h1, h2, h3, rfl, h4 xs q⟩
theorem walk_enumB {K : PySem.W.Frag} {b : Bool} {a : Addr} {xs : List V} : Walk (IteB K b a) xs.length (fun H => SqB K b H a xs) (YPair (fun i => some (.int (i : Nat))) (fun i => xs[i]?)) := by
  cases b
  · exact walk_enumT
  · exact walk_enum
def iSeq (K : PySem.W.Frag) (tl : TE) : TI := fun σ H R => tl σ H fun x H1 => ∃ a b xs, x = .ref a ∧ SqB K b H1 a xs ∧ R (Itb K b a) H1
theorem pi_seq {X : Cx} {tg l : Expr} {tl : TE} (hl : PE X l tl) : PI X tg l (iSeq X.K tl) := by
  refine ⟨fun pins s σ H R I h => ?_⟩
  refine thn (hl.run pins s σ H _ I h) fun v s1 ⟨x, H1, I1, r1, q1⟩ => ?_
  obtain ⟨a, b, xs, e, hq, q⟩ := q1
  subst e
  cases r1
  cases b with
  | true =>
    obtain ⟨its, rv, p, hz⟩ := I1.list hq
    refine wpAny_pyIter_list p.isList ?_
    refine ⟨s1.heap.objs.size, [s1.heap.objs.size], _, _, H1, rfl, I1.kept (t' := s1.toks) fun b o e => Heap.get?_push_of_some _ e, turn_list a _, ⟨_, Heap.get?_push_size _ rfl, rfl, rfl⟩, fun b hb => ?_, q⟩
    have e : b = s1.heap.objs.size := by simpa using hb
    subst e
    exact I1.fpOk (Nat.le_refl _) (I1.hok.fresh (Nat.le_refl _))
  | false =>
    obtain ⟨its, rv, p, hz⟩ := I1.tuple hq
    refine wpAny_pyIter_tuple (show s1.heap.IsTuple a its.toArray from p) ?_
    refine ⟨s1.heap.objs.size, [s1.heap.objs.size], _, _, H1, rfl, I1.kept (t' := s1.toks) fun b o e => Heap.get?_push_of_some _ e, turn_tuple a _, ⟨_, Heap.get?_push_size _ rfl, rfl, rfl⟩, fun b hb => ?_, q⟩
    have e : b = s1.heap.objs.size := by simpa using hb
    subst e
    exact I1.fpOk (Nat.le_refl _) (I1.hok.fresh (Nat.le_refl _))
def iEnumB (K : PySem.W.Frag) (ta : TA) : TI := fun σ H R => ta σ H fun vs H1 => ∃ a b xs, vs = [.ref a] ∧ SqB K b H1 a xs ∧ R (IteB K b a) H1
theorem pi_enumB {X : Cx} {e : Expr} {ta : TA} {p pos tpos : Pos} {elts : List Expr} {kk : Nat} (hg : Gl X "enumerate") (hm : X.mg "enumerate" = none) (ha : L2.PA X [e] ta) (hs : starEach [e] X.env = [(false, eval e X.env)] := by rfl) :
    PI X (.Tuple elts kk tpos) (.Call (.Name "enumerate" p) [e] [] pos) (iEnumB X.K ta) := by
  refine ⟨fun pins s σ H R I h => ?_⟩
  refine Call_ (ld_blt I hg hm boot_enumerate (PyProof.Rows.callWith_type1 (thn (ha.run pos pins s σ H _ I h) fun us s1 ⟨vs, H1, I1, r1, q1⟩ => ?_) hs rfl))
  obtain ⟨a, b, xs, ex, hq, q⟩ := q1
  subst ex
  cases r1 with
  | cons r rr =>
    cases rr
    cases r
    cases b with
    | true =>
      obtain ⟨its, rv, p', hz⟩ := I1.list hq
      refine call_enumerate_list p'.isList fun h' he hit hsz hk => wpAny_pyIter_enum he ?_
      have I2 : Inv X pins σ H1 { s1 with heap := h' } := I1.kept (t' := s1.toks) hk
      refine ⟨s1.heap.objs.size + 1, [s1.heap.objs.size + 1, s1.heap.objs.size], _, _, H1, rfl, I2, turn_enum a (s1.heap.objs.size + 1) s1.heap.objs.size, ⟨⟨.none, he⟩, hit, Nat.succ_ne_self _⟩, fun b hb => ?_, q⟩
      have e' : b = s1.heap.objs.size + 1 ∨ b = s1.heap.objs.size := by simpa using hb
      have hle : s1.heap.objs.size ≤ b := by
        rcases e' with z | z
        · rw [z]; exact Nat.le_add_right _ _
        · rw [z]; exact Nat.le_refl _
      exact I1.fpOk hle (I1.hok.fresh hle)
    | false =>
      obtain ⟨its, rv, p', hz⟩ := I1.tuple hq
      have hal : a < s1.heap.objs.size := by
        obtain ⟨_, q, _⟩ := p'
        exact Heap.lt_size q
      refine enum_begins1 (begins_tuple a its.toArray) p' fun h' he hit hsz hk => wpAny_pyIter_enum he ?_
      have I2 : Inv X pins σ H1 { s1 with heap := h' } := I1.kept (t' := s1.toks) hk
      refine ⟨s1.heap.objs.size + 1, [s1.heap.objs.size + 1, s1.heap.objs.size], _, _, H1, rfl, I2, turn_enumT a (s1.heap.objs.size + 1) s1.heap.objs.size (Nat.succ_ne_self _) (Nat.ne_of_lt hal) (Nat.ne_of_gt (Nat.lt_succ_of_lt hal)), ⟨⟨.none, he⟩, ⟨_, hit, rfl, rfl⟩⟩, fun b hb => ?_, q⟩
      have e' : b = s1.heap.objs.size + 1 ∨ b = s1.heap.objs.size := by simpa using hb
      have hle : s1.heap.objs.size ≤ b := by
        rcases e' with z | z
        · rw [z]; exact Nat.le_add_right _ _
        · rw [z]; exact Nat.le_refl _
      exact I1.fpOk hle (I1.hok.fresh hle)
end Lf
namespace Lf
open PySem PySem.Spec PyProof.Rows L2
theorem kit_lt {K : PySem.W.Frag} : PySem.W.kitAny K (.type "list") [.type "list", .type "tuple"] = some true :=
  kitAny_cons (b := true) (kit_ty (by decide +kernel)) (fun z => by cases z) (fun _ => rfl)
def isLT : PyData → Bool
  | .list _ => true
  | .tuple _ => true
  | _ => false
theorem kit_ltD {K : PySem.W.Frag} (d : PyData) : PySem.W.kitAny K (.type (tyN d)) [.type "list", .type "tuple"] = some (isLT d) := by
  cases d
  · exact kitAny_cons (b := false) (kit_ty (by show kitB "NoneType" "list" = some false; decide +kernel)) (fun _ => kitAny_cons (b := false) (kit_ty (by show kitB "NoneType" "tuple" = some false; decide +kernel)) (fun _ => rfl) (fun z => by cases z)) (fun z => by cases z)
  · exact kitAny_cons (b := false) (kit_ty (by show kitB "bool" "list" = some false; decide +kernel)) (fun _ => kitAny_cons (b := false) (kit_ty (by show kitB "bool" "tuple" = some false; decide +kernel)) (fun _ => rfl) (fun z => by cases z)) (fun z => by cases z)
  · exact kitAny_cons (b := false) (kit_ty (by show kitB "int" "list" = some false; decide +kernel)) (fun _ => kitAny_cons (b := false) (kit_ty (by show kitB "int" "tuple" = some false; decide +kernel)) (fun _ => rfl) (fun z => by cases z)) (fun z => by cases z)
  · exact kitAny_cons (b := false) (kit_ty (by show kitB "str" "list" = some false; decide +kernel)) (fun _ => kitAny_cons (b := false) (kit_ty (by show kitB "str" "tuple" = some false; decide +kernel)) (fun _ => rfl) (fun z => by cases z)) (fun z => by cases z)
  · exact kit_lt
  · exact kitAny_cons (b := false) (kit_ty (by show kitB "tuple" "list" = some false; decide +kernel)) (fun _ => kitAny_cons (b := true) (kit_ty ktt) (fun z => by cases z) (fun _ => rfl)) (fun z => by cases z)
  · exact kitAny_cons (b := false) (kit_ty (by show kitB "dict" "list" = some false; decide +kernel)) (fun _ => kitAny_cons (b := false) (kit_ty (by show kitB "dict" "tuple" = some false; decide +kernel)) (fun _ => rfl) (fun z => by cases z)) (fun z => by cases z)
theorem SqB.or {K : PySem.W.Frag} {b : Bool} {H : Hp} {a : Addr} {xs : List V} (h : SqB K b H a xs) : SqL K H a xs ∨ SqT K H a xs := by
  cases b
  · exact .inr h
  · exact .inl h
def rIxB (K : PySem.W.Frag) : R2 := fun x y H Q => ∃ p b xs i v, x = .ref p ∧ y = .int i ∧ SqB K b H p xs ∧ atI xs i = some v ∧ Q v H
theorem ix_B {X : Cx} : IxR X (rIxB X.K) := by
  intro value slice pins s σ H x y v u Q I rx ry h hs
  obtain ⟨p, b, xs, i, z, h1, h2, h3, h4, q⟩ := h
  cases b with
  | true => exact ix_list value slice pins s σ H x y v u Q I rx ry ⟨p, xs, i, z, h1, h2, h3, h4, q⟩ hs
  | false => exact ix_tup value slice pins s σ H x y v u Q I rx ry ⟨p, xs, i, z, h1, h2, h3, h4, q⟩ hs
theorem sq_kp {H H' : Hp} (f : Kp H H') {a : Addr} {kb : Bool} {xs : List V} (e : H a = some (sqO kb xs)) : H' a = some (sqO kb xs) := by
  cases kb
  · exact f.t _ _ e
  · exact f.l _ _ e
def sqD : Bool → List PyData → PyData
  | true, ds => .list ds
  | false, ds => .tuple ds
theorem sqD_inj {kb kc : Bool} {ds es : List PyData} (h : sqD kb ds = sqD kc es) : ds = es := by
  cases kb <;> cases kc
  · exact PyData.tuple.inj h
  · cases h
  · cases h
  · exact PyData.list.inj h
theorem ints_inj {is js : List Int} (h : is.map PyData.int = js.map PyData.int) : is = js := by
  induction is generalizing js with
  | nil =>
    cases js with
    | nil => rfl
    | cons _ _ => cases h
  | cons i r ih =>
    cases js with
    | nil => cases h
    | cons j q =>
      have h := List.cons.inj h
      cases h.1
      rw [ih h.2]
theorem dva_at {H : Hp} {vs : List V} {ds : List PyData} (h : DvAll H vs ds) : ∀ {i : Nat} {x : V}, vs[i]? = some x → ∃ d, ds[i]? = some d ∧ Dv H x d := by
  intro i x hx
  induction i generalizing vs ds with
  | zero =>
    cases h with
    | nil => cases hx
    | cons g _ =>
      cases hx
      exact ⟨_, rfl, g⟩
  | succ i ih =>
    cases h with
    | nil => cases hx
    | cons _ g => exact ih g hx
theorem dva_len9 {H : Hp} {vs : List V} {ds : List PyData} (h : DvAll H vs ds) : vs.length = ds.length := by
  induction vs generalizing ds with
  | nil =>
    cases h
    rfl
  | cons v vs ih =>
    cases h with
    | cons _ g => rw [List.length_cons, List.length_cons, ih g]
theorem dv_sq {H : Hp} {v : V} {d : PyData} (h : Dv H v d) (e : isLT d = true) : ∃ (a : Addr) (kb : Bool) (xs : List V) (es : List PyData), v = .ref a ∧ d = sqD kb es ∧ H a = some (sqO kb xs) ∧ DvAll H xs es := by
  cases h with
  | lst _ g hs => exact ⟨_, true, _, _, rfl, rfl, g, hs⟩
  | tup g hs => exact ⟨_, false, _, _, rfl, rfl, g, hs⟩
  | _ => cases e
theorem dva_ints {H : Hp} : ∀ {ns : List Int} {vs : List V}, DvAll H vs (ns.map PyData.int) → vs = ns.map V.int
  | [], _, h => by
    cases h
    rfl
  | n :: r, _, h => by
    cases h with
    | cons h0 h1 =>
      cases h0
      rw [dva_ints h1]
      rfl
theorem dv_ints {H : Hp} {v : V} {kc : Bool} {is : List Int} (h : Dv H v (sqD kc (is.map PyData.int))) : ∃ J, v = .ref J ∧ H J = some (sqO kc (is.map V.int)) := by
  obtain ⟨a, kb, xs, es, rfl, e, ea, hs⟩ := dv_sq h (by cases kc <;> rfl)
  have ek : kc = kb := by cases kc <;> cases kb <;> first | rfl | cases e
  subst ek
  have e := sqD_inj e
  subst e
  rw [dva_ints hs] at ea
  exact ⟨a, rfl, ea⟩
end Lf
namespace Lf
open PySem PySem.Spec PyProof.Rows L2
/-! ### even lists -/
def Ev (ns : List Int) : Prop := (∀ (i : Nat) (x y : Int), ns[i]? = some x → ns[i + 1]? = some y → x ≤ y) ∧
  ∀ (w i j : Nat) (a b c d : Int), ns[i]? = some a → ns[i + w]? = some b → ns[j]? = some c → ns[j + w]? = some d → (b - a) - (d - c) ≤ 1
theorem get_le {ns : List Int} {i j : Nat} {x : Int} (h : ns[j]? = some x) (le : i ≤ j) : ∃ y, ns[i]? = some y := by
  have := (List.getElem?_eq_some_iff.mp h).1
  exact ⟨_, List.getElem?_eq_getElem (show i < ns.length by omega)⟩
theorem first_at {l : List Int} {x : Int} (h : x ∈ l) : ∃ j : Nat, l[j]? = some x ∧ ∀ m : Nat, m < j → l[m]? ≠ some x := by
  induction l with
  | nil => cases h
  | cons a r ih =>
    by_cases e : a = x
    · subst e
      exact ⟨0, rfl, fun m hm => by omega⟩
    · rcases List.mem_cons.mp h with g | g
      · exact absurd g.symm e
      · obtain ⟨j, h1, h2⟩ := ih g
        refine ⟨j + 1, h1, fun m hm => ?_⟩
        cases m with
        | zero =>
          intro z
          exact e (Option.some.inj z)
        | succ m => exact h2 m (by omega)
def gns (ns : List Int) (w n : Nat) : List Int := (List.range n).map fun i => ns.getD (i + w) 0 - ns.getD i 0
theorem gns_at {ns : List Int} {w n i : Nat} {a b : Int} (hi : i < n) (ha : ns[i]? = some a) (hb : ns[i + w]? = some b) : b - a ∈ gns ns w n := by
  unfold gns
  refine List.mem_map.mpr ⟨i, List.mem_range.mpr hi, ?_⟩
  rw [List.getD_eq_getElem?_getD, List.getD_eq_getElem?_getD, ha, hb]
  rfl
theorem nf_of {H H' : Hp} (s : Same H H') {F : Addr} (n : H' F = none) : H F = none := by
  cases e : H F with
  | none => rfl
  | some o =>
    rw [s _ _ e] at n
    cases n
/-- what shows that a list is not even -/
inductive Ct (H : Hp) (ns : List Int) (r : Addr) : Prop
  | falls {i : Nat} {x y : Int} : H r = some (.tup [.str "falls", .int (i : Nat)]) → ns[i]? = some x → ns[i + 1]? = some y → y < x → Ct H ns r
  | wins {i j w : Nat} {a b c d : Int} : H r = some (.tup [.str "windows", .int (i : Nat), .int (j : Nat), .int (w : Nat)]) → 1 ≤ w → ns[i]? = some a → ns[i + w]? = some b → ns[j]? = some c → ns[j + w]? = some d → 2 ≤ (b - a) - (d - c) → Ct H ns r
theorem Ct.not {H : Hp} {ns : List Int} {r : Addr} (h : Ct H ns r) : ¬ Ev ns := fun e => by
  cases h with
  | falls _ h1 h2 h3 =>
    have := e.1 _ _ _ h1 h2
    omega
  | wins _ _ h1 h2 h3 h4 h5 =>
    have := e.2 _ _ _ _ _ _ _ h1 h2 h3 h4
    omega
theorem Ct.same {H H' : Hp} {ns : List Int} {r : Addr} (h : Ct H ns r) (s : Same H H') : Ct H' ns r := by
  cases h with
  | falls h0 h1 h2 h3 => exact .falls (s _ _ h0) h1 h2 h3
  | wins h0 h1 h2 h3 h4 h5 h6 => exact .wins (s _ _ h0) h1 h2 h3 h4 h5 h6
/-- 1 to 200 whole numbers -/
def cntP (d : PyData) : Prop := ∃ (kb : Bool) (ns : List Int), d = sqD kb (ns.map PyData.int) ∧ 1 ≤ ns.length ∧ ns.length ≤ 200
theorem cnt_lt {d : PyData} (h : isLT d = false) : ¬ cntP d := by
  rintro ⟨kb, ns, rfl, _⟩
  cases kb <;> cases h
theorem cnt_len {kb : Bool} {es : List PyData} (h : ¬ (1 ≤ es.length ∧ es.length ≤ 200)) : ¬ cntP (sqD kb es) := by
  rintro ⟨kc, ns, e, h1, h2⟩
  have e := sqD_inj e
  subst e
  rw [List.length_map] at h
  exact h ⟨h1, h2⟩
theorem all_isI : ∀ {es : List PyData}, (es.map isI).all id = true ↔ ∃ ns : List Int, es = ns.map PyData.int
  | [] => ⟨fun _ => ⟨[], rfl⟩, fun _ => rfl⟩
  | e :: r => by
    rw [List.map_cons, List.all_cons, Bool.and_eq_true, all_isI (es := r)]
    constructor
    · rintro ⟨h, ns, rfl⟩
      cases e with
      | int i => exact ⟨i :: ns, rfl⟩
      | _ => cases h
    · rintro ⟨ns, e0⟩
      cases ns with
      | nil => cases e0
      | cons n ns =>
        have e1 := List.cons.inj e0
        rw [e1.1]
        exact ⟨rfl, ns, e1.2⟩
section
variable {P : Program} {w : World} {K : PySem.W.Frag} {mg : Str → Option Value} {base : Heap} {C : Addr}
structure Be (mg : Str → Option Value) : Prop where
  items_ : ∃ t, mg "MOST_ITEMS" = some (.int 200 t)
def spIsCtD : Sp := fun vs H Q _ => ∃ (v : V) (d : PyData), vs = [v] ∧ Dv H v d ∧ ∀ b H', Same H H' → (b = true ↔ cntP d) → Q (.bl b) H'
abbrev s_is_counts : Stmt := topS 11
abbrev N_is_counts : List Str := ["value", "item"]
abbrev P_is_counts : List Str := ["value"]
theorem sc_is_counts : FnScope N_is_counts P_is_counts (defScope s_is_counts) := ⟨rfl, rfl, rfl, by decide +kernel, rfl, by decide +kernel, by decide +kernel⟩
theorem ok_is_counts (D : Df K mg "is_counts" s_is_counts P_is_counts) (B : Bi mg) (UE : Be mg) (cA_is_integer : C8.Cal P w K mg base 1 "is_integer" spIsAny []) : C8.Cal P w K mg base 2 "is_counts" spIsCtD [] := by
  refine cal_of D sc_is_counts (fun vs H Q E h => ?_) (fun f cdv A outer s H vs Q E hr h => ?_)
  · obtain ⟨v, d, rfl, _⟩ := h
    rfl
  · obtain ⟨v, d, rfl, hv, kk⟩ := h
    obtain ⟨tM, hc_MOST_ITEMS⟩ := UE.items_
    have c_is_integer := cA_is_integer
    refine ⟨_, (pss_cons (ps_if (PW.pt (pw_or (pt_not (pt_val (pe_callB (call_isiT) (by rfl) B.isinstance_ bt_isinstance (pa_cons (pv 0) (pa_cons (pe_tup (pa_cons (pe_bltn (v := .ty "list") (by rfl) B.list_ bt_list rfl) (pa_cons (pe_bltn (v := .ty "tuple") (by rfl) B.tuple_ bt_tuple rfl) pa_nil))) pa_nil))))) (pw_or1 (pt_not (pt_chain op_le op_le pe_int (pe_callB (call_len_seq) (by rfl) B.len_ bt_len (pa_cons (pv 0) pa_nil)) (pe_glob (v := .int 200) (by rfl) hc_MOST_ITEMS ⟨_, rfl⟩))))))
      (pss_one (ps_ret pe_bl))
      pss_nil)
    (pss_one (ps_ret (pe_callB (cr_all rfl) (by rfl) B.all_ bt_all (pa_cons (pe_lc (own := [("item", 1)]) (g := (gName 1)) (by rfl) sc_is_counts.nd (pi_seq (pv 0)) (blkOk_by (own := [("item", 1)]) (N := N_is_counts) (sc := defScope s_is_counts) (by decide +kernel)) (fun _ _ _ _ _ => (pg_name (i := 1) sc_is_counts.nd rfl (Or.inl rfl))) (fun _ _ _ _ _ => pts_nil) (fun _ _ _ _ _ => (C8.pe_c c_is_integer hr (by decide) (by rfl) (pa_cons (pv 1) pa_nil)))) pa_nil))))), ?_⟩
    refine ⟨_, rfl, len10 (by simp), fun tp ntp => ?_⟩
    have s1 := sm_upd (o := .tup [.ty "list", .ty "tuple"]) ntp
    have hv1 := Dv.kp (Fr.same s1).kp _ _ hv
    refine ⟨_, tp, _, _, _, isLT d, rfl, upd_same, .cons (.ty "list") (.cons (.ty "tuple") .nil), hv1.ty, kit_ltD d, isLT d, rfl, ?_⟩
    generalize upd H tp (.tup [.ty "list", .ty "tuple"]) = H1 at s1 hv1 ⊢
    cases hlt : isLT d with
    | false => exact iteT (iteT (kk false _ s1 ⟨fun z => (nomatch z), fun z => absurd z (cnt_lt hlt)⟩))
    | true =>
      refine iteF ?_
      obtain ⟨L, kb, xs, es, rfl, rfl, ea, hs⟩ := dv_sq hv1 hlt
      have lx := dva_len9 hs
      refine ⟨_, rfl, L, _, rfl, (SqB.of ea).or, _, _, rfl, rfl, _, rfl, ?_⟩
      by_cases c1 : (1 : Int) ≤ ((xs.length : Nat) : Int)
      · refine iteD c1 ⟨_, _, rfl, rfl, _, rfl, ?_⟩
        by_cases c2 : ((xs.length : Nat) : Int) ≤ 200
        · refine iteNS c2 ?_
          refine ⟨_, rfl, L, kb, xs, rfl, SqB.of ea, fun Y nY => ?_⟩
          refine lc_it (walk_seq (K := K) (b := kb) (a := L) (xs := xs)) (fun i H' => Same H1 H' ∧ H' Y = some (.lst (((es.take i).map isI).map V.bl))) ⟨sm_upd nY, upd_same⟩ ?_ ?_ ?_
          · rintro i H' _ ⟨s', _⟩
            exact SqB.of (sq_kp (Fr.same s').kp ea)
          · rintro i x _ H' hi ⟨s', eY⟩ ⟨rfl, hx⟩
            obtain ⟨dd, hd, hz⟩ := dva_at hs hx
            refine ⟨rfl, _, rfl, x, dd, rfl, Dv.kp (Fr.same s').kp _ _ hz, _, eY, ?_, ?_, ?_⟩
            · rw [List.length_map, List.length_map, List.length_take]
              exact small1000 (by omega)
            · intro b o eb
              rw [upd_ne (ne_of_none eb nY)]
              exact s' _ _ eb
            · rw [upd_same, List.take_add_one, hd, List.map_append, List.map_append]
              rfl
          rintro H' ⟨s', eY⟩
          rw [List.take_of_length_le (by omega)] at eY
          refine ⟨Y, _, rfl, SqL.of eY, ?_⟩
          refine kk _ _ (s1.trans s') ?_
          rw [all_isI]
          constructor
          · rintro ⟨ns, rfl⟩
            rw [List.length_map] at lx
            exact ⟨kb, ns, rfl, by omega, by omega⟩
          · rintro ⟨kc, ns, e, _, _⟩
            exact ⟨ns, sqD_inj e⟩
        · exact iteTs (by rw [decide_eq_false c2]; rfl) (kk false _ s1 ⟨fun z => (nomatch z), fun z => absurd z (cnt_len (by omega))⟩)
      · exact iteDn c1 ⟨_, rfl, iteT (kk false _ s1 ⟨fun z => (nomatch z), fun z => absurd z (cnt_len (by omega))⟩)⟩
def spUnK : Sp := fun vs H Q _ => ∃ (L : Addr) (kb : Bool) (ns : List Int), vs = [.ref L] ∧ H L = some (sqO kb (ns.map V.int)) ∧ Dv H (.ref L) (sqD kb (ns.map PyData.int)) ∧ 1 ≤ ns.length ∧ ns.length ≤ 200 ∧ ∀ v H', Same H H' → ((v = .non ∧ Ev ns) ∨ ∃ r, v = .ref r ∧ H r = none ∧ Ct H' ns r) → Q v H'
abbrev s_uneven : Stmt := topS 12
abbrev N_uneven : List Str := ["counts", "i", "w", "gains", "most", "least"]
abbrev P_uneven : List Str := ["counts"]
theorem sc_uneven : FnScope N_uneven P_uneven (defScope s_uneven) := ⟨rfl, rfl, rfl, by decide +kernel, rfl, by decide +kernel, by decide +kernel⟩
theorem un_len : ∀ vs H Q E, spUnK vs H Q E → vs.length = P_uneven.length := fun vs H Q E h => by
  obtain ⟨L, kb, ns, rfl, _⟩ := h
  rfl
theorem un_hb (B : Bi mg) (c_is_counts : C8.Cal P w K mg base 2 "is_counts" spIsCtD []) : ∀ (f : Addr) (cdv : Value) (A : Around) (outer : List Env) (s : Shared) (H : Hp) (vs : List V) (Q : VK) (E : XK), Room 2 (A.deeper (envOfC "uneven" (defScope s_uneven) s.heap.objs.size f cdv)) → spUnK vs H Q E →
    ∃ t, PSs (cxOf CX0 P w K mg base N_uneven "uneven" (defScope s_uneven) f cdv A outer s H E).nox (defBody s_uneven) t ∧ t { nx := fun _ H' => Q .non H', rt := Q } (L2.start N_uneven vs) H := by
  intro f cdv A outer s H vs Q E hr h
  · obtain ⟨L, kb, ns, rfl, eL, dv, h1, h2, kk⟩ := h
    refine ⟨_, (pss_cons (ps_if (pt_not (pt_val (C8.pe_c c_is_counts hr (by decide) (by rfl) (pa_cons (pv 0) pa_nil))))
      (pss_one ps_never)
      pss_nil)
    (pss_cons (ps_for PassesOwn.never rfl (pi_range1 rfl B.range_ (pa_cons (pe_op op_sub (pe_callB (call_len_seq) (by rfl) B.len_ bt_len (pa_cons (pv 0) pa_nil)) pe_int) pa_nil)) (pg_name (i := 1) sc_uneven.nd rfl (Or.inl rfl))
      (pss_one (ps_if (pt_cmpR op_lt (pe_ix (r := rIxB K) ix_B (pv 0) (pe_op op_add (pv 1) pe_int) (fun _ _ => rfl)) (pe_ix (r := rIxB K) ix_B (pv 0) (pv 1) (fun _ _ => rfl)) (nomark _))
      (pss_one (ps_ret (pe_tup (pa_cons pe_str (pa_cons (pv 1) pa_nil)))))
      pss_nil)))
    (pss_cons (ps_for PassesOwn.never rfl (pi_range2 rfl B.range_ (pa_cons pe_int (pa_cons (pe_callB (call_len_seq) (by rfl) B.len_ bt_len (pa_cons (pv 0) pa_nil)) pa_nil))) (pg_name (i := 2) sc_uneven.nd rfl (Or.inr rfl))
      (pss_cons (ps_setLc (i := 3) (own := [("i", 1)]) (g := (gName 1)) (by rfl) sc_uneven.nd rfl rfl (sw_true rfl rfl rfl (by decide +kernel)) (pi_range1 rfl B.range_ (pa_cons (pe_op op_sub (pe_callB (call_len_seq) (by rfl) B.len_ bt_len (pa_cons (pv 0) pa_nil)) (pv 2)) pa_nil)) (blkOk_by (own := [("i", 1)]) (N := N_uneven) (sc := defScope s_uneven) (by decide +kernel)) (fun _ _ _ _ _ => (pg_name (i := 1) sc_uneven.nd rfl (Or.inl rfl))) (fun _ _ _ _ _ => pts_nil) (fun _ _ _ _ _ => (pe_op op_sub (pe_ix (r := rIxB K) ix_B (pv 0) (pe_op op_add (pv 1) (pv 2)) (fun _ _ => rfl)) (pe_ix (r := rIxB K) ix_B (pv 0) (pv 1) (fun _ _ => rfl)))))
    (pss_cons (ps_par (i := 4) (j := 5) rfl sc_uneven.nd rfl rfl (by decide) rfl rfl (pa_cons (pe_callB (cr_max rfl) (by rfl) B.max_ bt_max (pa_cons (pv 3) pa_nil)) (pa_cons (pe_callB (cr_min rfl) (by rfl) B.min_ bt_min (pa_cons (pv 3) pa_nil)) pa_nil)) rfl)
    (pss_one (ps_if (pt_cmpR op_ge (pv 4) (pe_op op_add (pv 5) pe_int) (nomark _))
      (pss_one (ps_ret (pe_tup (pa_cons pe_str (pa_cons (pe_bm PySem.F.plainAttrs_list PySem.F.slot_list_index PySem.F.type_list_index mt_index (pv 3) (pa_cons (pv 4) pa_nil)) (pa_cons (pe_bm PySem.F.plainAttrs_list PySem.F.slot_list_index PySem.F.type_list_index mt_index (pv 3) (pa_cons (pv 5) pa_nil)) (pa_cons (pv 2) pa_nil)))))))
      pss_nil)))))
    (pss_one (ps_ret pe_non))))), ?_⟩
    have lm : (ns.map V.int).length = ns.length := List.length_map ..
    have at_ : ∀ {k : Nat} {x : Int}, ns[k]? = some x → (ns.map V.int)[k]? = some (.int x) := fun {k x} e => by
      rw [List.getElem?_map, e]
      rfl
    refine ⟨_, rfl, .ref L, _, rfl, dv, fun b H1 s1 hb => ⟨b, rfl, ?_⟩⟩
    obtain rfl : b = true := hb.mpr ⟨kb, ns, rfl, h1, h2⟩
    refine iteF ?_
    have eL := s1 _ _ eL
    refine ⟨_, rfl, L, _, rfl, (SqB.of eL).or, _, _, rfl, rfl, ?_⟩
    refine ⟨_, rfl, by omega, by omega, ?_⟩
    rw [lm]
    refine for_range (lo := 0) (n := ((ns.length : Int) - 1).toNat) (fun i σ H' => ∃ (y1 : Option V), σ = [some (.ref L), y1, none, none, none, none] ∧ H' = H1 ∧ ∀ (k : Nat) (x y : Int), k < i → ns[k]? = some x → ns[k + 1]? = some y → x ≤ y) ⟨_, rfl, rfl, fun k _ _ z => by omega⟩ ?_ ?_
    · rintro i σ H' hi ⟨y1, rfl, rfl, hm⟩
      have h0 : ns[i]? = some ns[i] := List.getElem?_eq_getElem (by omega)
      have h3 : ns[i + 1]? = some ns[i + 1] := List.getElem?_eq_getElem (by omega)
      refine ⟨_, rfl, _, rfl, _, _, rfl, rfl, L, kb, _, _, .int ns[i + 1], rfl, rfl, SqB.of eL, ?_, ?_⟩
      · rw [Int.zero_add, show ((i : Int) + 1) = ((i + 1 : Nat) : Int) by omega]
        exact atI_nat (at_ h3)
      refine ⟨_, rfl, _, rfl, L, kb, _, _, .int ns[i], rfl, rfl, SqB.of eL, ?_, ?_⟩
      · rw [Int.zero_add]
        exact atI_nat (at_ h0)
      refine ⟨_, _, rfl, rfl, _, rfl, ite2 (fun c => ?_) (fun c => ?_)⟩
      · have c : ns[i + 1] < ns[i] := of_decide_eq_true c
        refine ⟨_, rfl, len10 (by simp), fun r nr => ?_⟩
        refine kk _ _ (s1.trans (sm_upd nr)) (.inr ⟨r, rfl, nf_of s1 nr, .falls (i := i) (by
          have e := upd_same (H := H') (a := r) (o := .tup [.str "falls", .int (0 + (i : Int))])
          rw [Int.zero_add] at e ⊢
          exact e) h0 h3 c⟩)
      · have c : ¬ ns[i + 1] < ns[i] := fun z => c (decide_eq_true z)
        refine ⟨_, rfl, rfl, fun k x y hk hx hy => ?_⟩
        rcases Nat.lt_or_ge k i with lt | ge
        · exact hm k x y lt hx hy
        · have : k = i := by omega
          subst this
          rw [h0] at hx
          rw [h3] at hy
          cases hx
          cases hy
          omega
    · rintro σ H1 ⟨y1, rfl, rfl, hm⟩
      have hm : ∀ (k : Nat) (x y : Int), ns[k]? = some x → ns[k + 1]? = some y → x ≤ y := fun k x y hx hy => hm k x y (by have := (List.getElem?_eq_some_iff.mp hy).1; omega) hx hy
      refine ⟨_, rfl, L, _, rfl, (SqB.of eL).or, ?_⟩
      rw [lm]
      refine ⟨_, _, rfl, ⟨by decide, by decide, by omega, by omega⟩, ?_⟩
      refine for_range (lo := 1) (n := ((ns.length : Int) - 1).toNat) (fun i σ H' => ∃ (y1 y2 y3 y4 y5 : Option V), σ = [some (.ref L), y1, y2, y3, y4, y5] ∧ Same H1 H' ∧ ∀ (w i' j : Nat) (a b c d : Int), 1 ≤ w → w < 1 + i → ns[i']? = some a → ns[i' + w]? = some b → ns[j]? = some c → ns[j + w]? = some d → (b - a) - (d - c) ≤ 1) ⟨_, _, _, _, _, rfl, Same.refl _, fun w _ _ _ _ _ _ z1 z2 => by omega⟩ ?_ ?_
      · rintro i σ H2 hi ⟨y1, y2, y3, y4, y5, rfl, s2, hw⟩
        have eL2 := s2 _ _ eL
        obtain ⟨g, hg⟩ : ∃ g : Nat, ns.length = i + 1 + g := ⟨ns.length - (i + 1), by omega⟩
        have hg1 : 1 ≤ g := by omega
        refine ⟨_, rfl, L, _, rfl, (SqB.of eL2).or, _, rfl, _, _, rfl, rfl, ?_⟩
        rw [lm]
        refine ⟨_, rfl, by omega, by omega, fun G nG => ?_⟩
        have eg : ((ns.length : Int) - (1 + (i : Int))).toNat = g := by omega
        refine lc_range (lo := 0) (n := ((ns.length : Int) - (1 + (i : Int))).toNat) (fun j H' => Same H2 H' ∧ H' G = some (.lst ((gns ns (i + 1) j).map V.int))) ⟨sm_upd nG, upd_same⟩ ?_ ?_
        · rintro j H3 hj ⟨s3, eG⟩
          rw [eg] at hj
          have ha : ns[j]? = some ns[j] := List.getElem?_eq_getElem (by omega)
          have hb : ns[j + (i + 1)]? = some ns[j + (i + 1)] := List.getElem?_eq_getElem (by omega)
          refine ⟨rfl, _, rfl, _, rfl, _, rfl, _, _, rfl, rfl, L, kb, _, _, .int ns[j + (i + 1)], rfl, rfl, SqB.of (s3 _ _ eL2), ?_, ?_⟩
          · rw [Int.zero_add, show ((j : Int) + (1 + (i : Int))) = ((j + (i + 1) : Nat) : Int) by omega]
            exact atI_nat (at_ hb)
          refine ⟨_, rfl, _, rfl, L, kb, _, _, .int ns[j], rfl, rfl, SqB.of (s3 _ _ eL2), ?_, ?_⟩
          · rw [Int.zero_add]
            exact atI_nat (at_ ha)
          refine ⟨_, _, rfl, rfl, _, eG, ?_, ?_, ?_⟩
          · rw [List.length_map]
            unfold gns
            rw [List.length_map, List.length_range]
            exact small1000 (by omega)
          · intro b o eb
            rw [upd_ne (ne_of_none eb nG)]
            exact s3 _ _ eb
          · rw [upd_same]
            unfold gns
            rw [List.range_succ, List.map_append, List.map_append]
            simp only [List.map_cons, List.map_nil]
            rw [List.getD_eq_getElem?_getD, List.getD_eq_getElem?_getD, ha, hb]
            rfl
        rintro H3 ⟨s3, eG⟩
        rw [eg] at eG
        have gl : (gns ns (i + 1) g).length = g := by
          unfold gns
          rw [List.length_map, List.length_range]
        refine ⟨_, rfl, G, _, rfl, SqL.of eG, by omega, fun mx hx lx => ?_⟩
        refine ⟨_, rfl, G, _, rfl, SqL.of eG, by omega, fun mn hn ln => ?_⟩
        refine ⟨_, _, rfl, _, rfl, _, rfl, _, _, rfl, rfl, _, _, rfl, rfl, _, rfl, ite2 (fun c => ?_) (fun c => ?_)⟩
        · have c : mx ≥ mn + 2 := of_decide_eq_true c
          obtain ⟨j1, g1, f1⟩ := first_at hx
          obtain ⟨j2, g2, f2⟩ := first_at hn
          have fl := flat_is (gns ns (i + 1) g)
          have fnd : ∀ {x : Int} {j : Nat}, (gns ns (i + 1) g)[j]? = some x → (∀ m : Nat, m < j → (gns ns (i + 1) g)[m]? ≠ some x) → ∀ m (z' : V), m < j → ((gns ns (i + 1) g).map V.int)[m]? = some z' → eqV z' (.int x) = false := fun {x j} hj hf m z' hm hz => by
            rw [List.getElem?_map] at hz
            cases e : (gns ns (i + 1) g)[m]? with
            | none =>
              rw [e] at hz
              cases hz
            | some y =>
              rw [e] at hz
              cases hz
              have : y ≠ x := fun q => hf m hm (by rw [e, q])
              show (y == x) = false
              exact beq_eq_false_iff_ne.mpr this
          have mp : ∀ {x : Int} {j : Nat}, (gns ns (i + 1) g)[j]? = some x → ((gns ns (i + 1) g).map V.int)[j]? = some (.int x) := fun {x j} e => by
            rw [List.getElem?_map, e]
            rfl
          refine ⟨_, rfl, .inl ⟨rfl, _, SqL.of eG⟩, _, rfl, G, _, _, j1, .int mx, rfl, rfl, SqL.of eG, rfl, fl, mp g1, beq_self_eq_true mx, fnd g1 f1, ?_⟩
          refine ⟨_, rfl, .inl ⟨rfl, _, SqL.of eG⟩, _, rfl, G, _, _, j2, .int mn, rfl, rfl, SqL.of eG, rfl, fl, mp g2, beq_self_eq_true mn, fnd g2 f2, ?_⟩
          refine ⟨_, rfl, len10 (by simp), fun r nr => ?_⟩
          have gj : ∀ {j : Nat} {x : Int}, (gns ns (i + 1) g)[j]? = some x → j < g ∧ ∃ a b, ns[j]? = some a ∧ ns[j + (i + 1)]? = some b ∧ x = b - a := fun {j x} e => by
            have hj : j < g := by
              have := (List.getElem?_eq_some_iff.mp e).1
              omega
            have q1 : ns[j]? = some ns[j] := List.getElem?_eq_getElem (by omega)
            have q2 : ns[j + (i + 1)]? = some ns[j + (i + 1)] := List.getElem?_eq_getElem (by omega)
            refine ⟨hj, _, _, q1, q2, ?_⟩
            have e2 : (gns ns (i + 1) g)[j]? = some (ns.getD (j + (i + 1)) 0 - ns.getD j 0) := by
              unfold gns
              rw [List.getElem?_map, List.getElem?_range hj]
              rfl
            rw [e] at e2
            rw [List.getD_eq_getElem?_getD, List.getD_eq_getElem?_getD, q1, q2] at e2
            exact Option.some.inj e2
          obtain ⟨_, a1, b1, p1, p2, p3⟩ := gj g1
          obtain ⟨_, a2, b2, p4, p5, p6⟩ := gj g2
          exact kk _ _ (((s1.trans s2).trans s3).trans (sm_upd nr)) (.inr ⟨r, rfl, nf_of ((s1.trans s2).trans s3) nr, .wins (i := j1) (j := j2) (w := i + 1) (by
            have e := upd_same (H := H3) (a := r) (o := .tup [.str "windows", .int (j1 : Nat), .int (j2 : Nat), .int (1 + (i : Int))])
            rw [show (1 + (i : Int)) = ((i + 1 : Nat) : Int) by omega] at e ⊢
            exact e) (by omega) p1 p2 p4 p5 (by omega)⟩)
        · have c : ¬ mx ≥ mn + 2 := fun z => c (decide_eq_true z)
          refine ⟨_, _, _, _, _, rfl, s2.trans s3, fun w i' j a b c' d w1 w2 ha hb hc hd => ?_⟩
          rcases Nat.lt_or_ge w (1 + i) with lt | ge
          · exact hw w i' j a b c' d w1 lt ha hb hc hd
          · have : w = i + 1 := by omega
            subst this
            have l1 := (List.getElem?_eq_some_iff.mp hb).1
            have l2 := (List.getElem?_eq_some_iff.mp hd).1
            have := lx _ (gns_at (n := g) (by omega) ha hb)
            have := ln _ (gns_at (n := g) (by omega) hc hd)
            omega
      · rintro σ H2 ⟨y1, y2, y3, y4, y5, rfl, s2, hw⟩
        refine kk _ _ (s1.trans s2) (.inl ⟨rfl, hm, fun w i j a b c d ha hb hc hd => ?_⟩)
        rcases Nat.eq_zero_or_pos w with z | z
        · subst z
          have hb : ns[i]? = some b := hb
          have hd : ns[j]? = some d := hd
          rw [ha] at hb
          rw [hc] at hd
          cases hb
          cases hd
          omega
        · exact hw w i j a b c d z (by have := (List.getElem?_eq_some_iff.mp hb).1; omega) ha hb hc hd
theorem ok_uneven (D : Df K mg "uneven" s_uneven P_uneven) (B : Bi mg) (c_is_counts : C8.Cal P w K mg base 2 "is_counts" spIsCtD []) : C8.Cal P w K mg base 3 "uneven" spUnK [] := by
  exact cal_of D sc_uneven un_len (un_hb B c_is_counts)
/-- a def that may return, or raise -/
theorem calx_both {x : Str} {st : Stmt} {N ps : List Str} {k : Nat} {sp1 sp2 : Sp} (D : Df K mg x st ps) (S : FnScope N ps (defScope st)) (len1 : ∀ vs H Q E, sp1 vs H Q E → vs.length = ps.length) (len2 : ∀ vs H Q E, sp2 vs H Q E → vs.length = ps.length)
    (h1 : ∀ (f : Addr) (cdv : Value) (A : Around) (outer : List Env) (s : Shared) (H : Hp) (vs : List V) (Q : VK) (E : XK), Room k (A.deeper (envOfC x (defScope st) s.heap.objs.size f cdv)) → sp1 vs H Q E → ∃ t, PSs (cxOf CX0 P w K mg base N x (defScope st) f cdv A outer s H E).nox (defBody st) t ∧ t { nx := fun _ H' => Q .non H', rt := Q } (L2.start N vs) H)
    (h2 : ∀ (f : Addr) (cdv : Value) (A : Around) (outer : List Env) (s : Shared) (H : Hp) (vs : List V) (Q : VK) (E : XK), Room k (A.deeper (envOfC x (defScope st) s.heap.objs.size f cdv)) → sp2 vs H Q E → ∃ t, PSs (cxOf (L2.CX P w) P w K mg base N x (defScope st) f cdv A outer s H E) (defBody st) t ∧ t { nx := fun _ H' => Q .non H', rt := Q } (L2.start N vs) H) :
    CalX P w K mg base (k + 1) x (fun vs H Q E => sp1 vs H Q E ∨ sp2 vs H Q E) := by
  obtain ⟨f, fd, F, hm, b⟩ := D
  have F1 := F.ok S len1 (fun cdv A outer s H vs Q E hr h => h1 f cdv A outer s H vs Q E hr h)
  have F2 := F.okX S len2 (fun cdv A outer s H vs Q E hr h => h2 f cdv A outer s H vs Q E hr h)
  refine ⟨f, fd, ps, ⟨fun vs H Q E h => h.elim (len1 vs H Q E) (len2 vs H Q E), fun A outer s H args us vs Q E hr e hb r h => ?_⟩, hm, F.kp, b⟩
  rcases h with h | h
  · refine codeAny_mono (F1.run A outer s H args us vs Q E hr e hb r h) fun r s' z => ?_
    match r, z with
    | .ok (.ret u), z => exact z
    | .ok .next, z => exact False.elim z
    | .ok .brk, z => exact False.elim z
    | .ok .cont, z => exact False.elim z
    | .error e, z => exact False.elim z
  · exact F2.run A outer s H args us vs Q E hr e hb r h
def OutC (C : Addr) (v : V) (H : Hp) (E : XK) : Prop := ∀ dd, H dd = none → E (.ref C) (some dd) (upd H dd (.xd [("value", v)]))
def spUnBad (C : Addr) : Sp := fun vs H _ E => ∃ (v : V) (d : PyData), vs = [v] ∧ Dv H v d ∧ ¬ cntP d ∧ ∀ H', Same H H' → OutC C v H' E
def tNoS : TS := fun _ _ _ => False
theorem pss_no {X : Cx} {b : List Stmt} : PSs X b tNoS := ⟨fun _ _ _ _ _ _ h => h.elim⟩
theorem okx_uneven (D : Df K mg "uneven" s_uneven P_uneven) (T : ValC P K mg C "InvalidCounts" "value") (B : Bi mg) (c_is_counts : C8.Cal P w K mg base 2 "is_counts" spIsCtD []) : CalX P w K mg base 3 "uneven" (fun vs H Q E => spUnK vs H Q E ∨ spUnBad C vs H Q E) := by
  refine calx_both D sc_uneven un_len (fun vs H Q E h => ?_) (un_hb B c_is_counts) (fun f cdv A outer s H vs Q E hr h => ?_)
  · obtain ⟨v, d, rfl, _⟩ := h
    rfl
  · obtain ⟨v, d, rfl, hv, hn, he⟩ := h
    refine ⟨_, pss_cons (ps_if (pt_not (pt_val (C8.pe_c c_is_counts hr (by decide) (by rfl) (pa_cons (pv 0) pa_nil)))) (pss_one (ps_raise rfl (takes_of rfl rfl rfl rfl) (pmk_val T hr (by decide) rfl (pv 0)))) pss_nil) pss_no, ?_⟩
    refine ⟨_, rfl, v, d, rfl, hv, fun b H1 s1 hb => ⟨b, rfl, ?_⟩⟩
    cases b with
    | true => exact absurd (hb.mp rfl) hn
    | false => exact iteT ⟨_, rfl, mkv (he _ s1)⟩
end
end Lf
namespace Lf
open PySem PySem.Spec PyProof.Rows L2
/-! ### lists of the very same items, or of other lengths -/
def SmI (xs : List V) : Prop := ∀ z ∈ xs, flatB z = true ∨ ∃ c, z = .ref c
def rNeS (K : PySem.W.Frag) : R2 := fun x y H Q => ∃ a b xs ys, x = .ref a ∧ y = .ref b ∧ SqL K H a xs ∧ SqL K H b ys ∧ ((xs.length ≠ ys.length ∧ Q (.bl true) H) ∨ (xs = ys ∧ SmI xs ∧ Q (.bl false) H))
def rEqS (K : PySem.W.Frag) : R2 := fun x y H Q => ∃ a b xs ys, x = .ref a ∧ y = .ref b ∧ SqL K H a xs ∧ SqL K H b ys ∧ ((xs.length ≠ ys.length ∧ Q (.bl false) H) ∨ (xs = ys ∧ SmI xs ∧ Q (.bl true) H))
theorem smI_at {A : Around} {s : Shared} {xs : List V} : ∀ {us ws : List Value}, SmI xs → Vals xs us → Vals xs ws → ∀ j (h1 : j < us.length) (h2 : j < ws.length), SeqAt.EqAt A s us[j] ws[j] true := by
  induction xs with
  | nil =>
    intro us ws _ r1 r2 j h1 _
    cases r1
    exact absurd h1 (Nat.not_lt_zero j)
  | cons x xs ih =>
    intro us ws hs r1 r2 j h1 h2
    cases r1 with
    | cons a1 b1 =>
      cases r2 with
      | cons a2 b2 =>
        cases j with
        | zero =>
          rcases hs x List.mem_cons_self with f | ⟨c, rfl⟩
          · exact eqAt_same a1 a2 f
          · cases a1
            cases a2
            exact SeqAt.EqAt.same _
        | succ j => exact ih (fun z hz => hs z (List.mem_cons_of_mem _ hz)) b1 b2 j (Nat.lt_of_succ_lt_succ h1) (Nat.lt_of_succ_lt_succ h2)
section
variable {X : Cx}
theorem op_neS (hu : X.A.units + 64 < cLine) : OpR X (compareOp .NotEq) (rNeS X.K) := by
  intro pins s σ H x y v u Q I rx ry h
  obtain ⟨a, b, xs, ys, rfl, rfl, ha, hb, h⟩ := h
  cases rx
  cases ry
  obtain ⟨us, r1, p1, _⟩ := I.list ha
  obtain ⟨ws, r2, p2, _⟩ := I.list hb
  have l1 := r1.length
  have l2 := r2.length
  rcases h with ⟨hne, q⟩ | ⟨rfl, hs, q⟩
  · exact SeqAt.RcNeAt.lists_lengths p1.isList p2.isList (by rw [bne_iff_ne, List.size_toArray, List.size_toArray]; omega) (by omega) _ _ _ _ ⟨.bl true, H, I, rfl, q⟩
  · have hsz : us.toArray.size = ws.toArray.size := by rw [List.size_toArray, List.size_toArray]; omega
    have R := SeqAt.RcNeAt.lists (e := fun _ => true) p1.isList p2.isList hsz (show X.A.units < cLine by omega) (fun j h1 h2 => by
      have := smI_at (A := X.A.in1) (s := s) hs r1 r2 j (by simpa using h1) (by simpa using h2)
      simpa using this)
    rw [show ((List.range us.toArray.size).all fun _ => true) = true from List.all_eq_true.mpr fun _ _ => rfl] at R
    exact R _ _ _ _ ⟨.bl false, H, I, rfl, q⟩
theorem op_eqS (hu : X.A.units + 64 < cLine) : OpR X (compareOp .Eq) (rEqS X.K) := by
  intro pins s σ H x y v u Q I rx ry h
  obtain ⟨a, b, xs, ys, rfl, rfl, ha, hb, h⟩ := h
  cases rx
  cases ry
  obtain ⟨us, r1, p1, _⟩ := I.list ha
  obtain ⟨ws, r2, p2, _⟩ := I.list hb
  have l1 := r1.length
  have l2 := r2.length
  rcases h with ⟨hne, q⟩ | ⟨rfl, hs, q⟩
  · exact SeqAt.RcAt.lists_lengths p1.isList p2.isList (by rw [bne_iff_ne, List.size_toArray, List.size_toArray]; omega) (by omega) _ _ _ _ ⟨.bl false, H, I, rfl, q⟩
  · have hsz : us.toArray.size = ws.toArray.size := by rw [List.size_toArray, List.size_toArray]; omega
    have R := SeqAt.RcAt.lists (e := fun _ => true) p1.isList p2.isList hsz (show X.A.units < cLine by omega) (fun j h1 h2 => by
      have := smI_at (A := X.A.in1) (s := s) hs r1 r2 j (by simpa using h1) (by simpa using h2)
      simpa using this)
    rw [show ((List.range us.toArray.size).all fun _ => true) = true from List.all_eq_true.mpr fun _ _ => rfl] at R
    exact R _ _ _ _ ⟨.bl true, H, I, rfl, q⟩
end
end Lf
namespace Lf
open PySem PySem.Spec PyProof.Rows L2
section
variable {P : Program} {w : World} {K : PySem.W.Frag} {mg : Str → Option Value} {base : Heap} {C : Addr}
def spIsIntL : Sp := fun vs H Q _ => ∃ (v : V) (d : PyData), vs = [v] ∧ Dv H v d ∧ Q (.bl (isI d)) H
abbrev s_l_is_int : Stmt := topS 27
abbrev N_l_is_int : List Str := ["_law_thing"]
abbrev P_l_is_int : List Str := ["_law_thing"]
theorem sc_l_is_int : FnScope N_l_is_int P_l_is_int (defScope s_l_is_int) := ⟨rfl, rfl, rfl, by decide +kernel, rfl, by decide +kernel, by decide +kernel⟩
theorem ok_l_is_int (D : Df K mg "_law_is_int" s_l_is_int P_l_is_int) (B : Bi mg) : C8.Cal P w K mg base 1 "_law_is_int" spIsIntL [] := by
  refine cal_of D sc_l_is_int (fun vs H Q E h => ?_) (fun f cdv A outer s H vs Q E hr h => ?_)
  · obtain ⟨v, d, rfl, _⟩ := h
    rfl
  · obtain ⟨v, d, rfl, dv, q⟩ := h
    refine ⟨_, (pss_one (ps_ret (pe_and (pe_callB (call_isi) (by rfl) B.isinstance_ bt_isinstance (pa_cons (pv 0) (pa_cons (pe_bltn (v := .ty "int") (by rfl) B.int_ bt_int rfl) pa_nil))) (pe_one (pe_not (pe_callB (call_isi) (by rfl) B.isinstance_ bt_isinstance (pa_cons (pv 0) (pa_cons (pe_bltn (v := .ty "bool") (by rfl) B.bool_ bt_bool rfl) pa_nil)))))))), ?_⟩
    refine ⟨_, rfl, _, _, _, _, isIB d, rfl, .ty "int", dv.ty, kit_ty (kit_int d), isIB d, rfl, ?_⟩
    cases dv with
    | int i => exact iteT ⟨_, rfl, _, _, _, _, false, rfl, .ty "bool", (Dv.int i).ty, kit_ty (kit_bool (.int i)), false, rfl, q⟩
    | bl b => exact iteT ⟨_, rfl, _, _, _, _, true, rfl, .ty "bool", (Dv.bl b).ty, kit_ty (kit_bool (.bool b)), true, rfl, q⟩
    | _ => exact iteF q
end
end Lf
namespace Lf
open PySem PySem.Spec PyProof.Rows L2
theorem at_ii {ns : List Int} {k : Nat} {x : Int} (h : ns[k]? = some x) : atI (ns.map V.int) ((k : Nat) : Int) = some (.int x) := atI_nat (by rw [List.getElem?_map, h]; rfl)
theorem Ev.mono {ns : List Int} (h : Ev ns) : ∀ (k i : Nat) (x y : Int), ns[i]? = some x → ns[i + k]? = some y → x ≤ y := by
  intro k
  induction k with
  | zero =>
    intro i x y hx hy
    have hy : ns[i]? = some y := hy
    rw [hx] at hy
    cases hy
    exact Int.le_refl _
  | succ k ih =>
    intro i x y hx hy
    obtain ⟨z, hz⟩ := get_le hy (show i + k ≤ i + (k + 1) by omega)
    have := ih i x z hx hz
    have := h.1 (i + k) z y hz hy
    omega
theorem ev_by {ns : List Int} (h : ∀ (w i j : Nat) (a b c d : Int), 1 ≤ w → ns[i]? = some a → ns[i + w]? = some b → ns[j]? = some c → ns[j + w]? = some d → (b - a) - (d - c) ≤ 1 ∧ 0 ≤ b - a) : Ev ns := by
  refine ⟨fun i x y hx hy => ?_, fun w i j a b c d ha hb hc hd => ?_⟩
  · have := (h 1 i i x y x y (Nat.le_refl _) hx hy hx hy).2
    omega
  · cases w with
    | zero =>
      have ha : ns[i]? = some a := ha
      have hb : ns[i]? = some b := hb
      have hc : ns[j]? = some c := hc
      have hd : ns[j]? = some d := hd
      rw [ha] at hb
      rw [hc] at hd
      cases hb
      cases hd
      omega
    | succ w => exact (h (w + 1) i j a b c d (by omega) ha hb hc hd).1
section
variable {P : Program} {w : World} {K : PySem.W.Frag} {mg : Str → Option Value} {base : Heap} {C : Addr}
def spIsEv : Sp := fun vs H Q _ => ∃ (L : Addr) (ns : List Int), vs = [.ref L] ∧ H L = some (.lst (ns.map V.int)) ∧ ns.length ≤ 500 ∧ ∀ b H', Same H H' → (b = true ↔ Ev ns) → Q (.bl b) H'
abbrev s_l_is_even : Stmt := topS 32
abbrev N_l_is_even : List Str := ["_law_row_here", "_law_width", "_law_gains", "_law_k"]
abbrev P_l_is_even : List Str := ["_law_row_here"]
theorem sc_l_is_even : FnScope N_l_is_even P_l_is_even (defScope s_l_is_even) := ⟨rfl, rfl, rfl, by decide +kernel, rfl, by decide +kernel, by decide +kernel⟩
theorem ok_l_is_even (D : Df K mg "_law_is_even" s_l_is_even P_l_is_even) (B : Bi mg) : C8.Cal P w K mg base 1 "_law_is_even" spIsEv [] := by
  refine cal_of D sc_l_is_even (fun vs H Q E h => ?_) (fun f cdv A outer s H vs Q E hr h => ?_)
  · obtain ⟨L, ns, rfl, _⟩ := h
    rfl
  · obtain ⟨L, ns, rfl, eL, hl, kk⟩ := h
    refine ⟨_, (pss_cons (ps_for PassesOwn.never rfl (pi_range2 rfl B.range_ (pa_cons pe_int (pa_cons (pe_callB (call_len_seq) (by rfl) B.len_ bt_len (pa_cons (pv 0) pa_nil)) pa_nil))) (pg_name (i := 1) sc_l_is_even.nd rfl (Or.inr rfl))
      (pss_cons (ps_setLc (i := 2) (own := [("_law_k", 3)]) (g := (gName 3)) (by rfl) sc_l_is_even.nd rfl rfl (sw_true rfl rfl rfl (by decide +kernel)) (pi_range1 rfl B.range_ (pa_cons (pe_op op_sub (pe_callB (call_len_seq) (by rfl) B.len_ bt_len (pa_cons (pv 0) pa_nil)) (pv 1)) pa_nil)) (blkOk_by (own := [("_law_k", 3)]) (N := N_l_is_even) (sc := defScope s_l_is_even) (by decide +kernel)) (fun _ _ _ _ _ => (pg_name (i := 3) sc_l_is_even.nd rfl (Or.inl rfl))) (fun _ _ _ _ _ => pts_nil) (fun _ _ _ _ _ => (pe_op op_sub (pe_ix (r := rIxL K) ix_list (pv 0) (pe_op op_add (pv 3) (pv 1)) (fun _ _ => rfl)) (pe_ix (r := rIxL K) ix_list (pv 0) (pv 3) (fun _ _ => rfl)))))
    (pss_one (ps_if (PW.pt (pw_or (pt_cmpR op_gt (pe_op op_sub (pe_callB (cr_max rfl) (by rfl) B.max_ bt_max (pa_cons (pv 2) pa_nil)) (pe_callB (cr_min rfl) (by rfl) B.min_ bt_min (pa_cons (pv 2) pa_nil))) pe_int (nomark _)) (pw_or1 (pt_cmpR op_lt (pe_callB (cr_min rfl) (by rfl) B.min_ bt_min (pa_cons (pv 2) pa_nil)) pe_int (nomark _)))))
      (pss_one (ps_ret pe_bl))
      pss_nil))))
    (pss_one (ps_ret pe_bl))), ?_⟩
    have lm : (ns.map V.int).length = ns.length := List.length_map ..
    refine ⟨_, rfl, L, _, rfl, .inl (SqL.of eL), ?_⟩
    rw [lm]
    refine ⟨_, _, rfl, by omega, ?_⟩
    refine for_range (lo := 1) (n := ((ns.length : Int) - 1).toNat) (fun i σ H' => ∃ (y1 y2 : Option V), σ = [some (.ref L), y1, y2, none] ∧ Same H H' ∧ ∀ (w i' j : Nat) (a b c d : Int), 1 ≤ w → w < 1 + i → ns[i']? = some a → ns[i' + w]? = some b → ns[j]? = some c → ns[j + w]? = some d → (b - a) - (d - c) ≤ 1 ∧ 0 ≤ b - a) ⟨_, _, rfl, Same.refl _, fun w i' j a b c d w1 w2 => by omega⟩ ?_ ?_
    · rintro i σ H2 hi ⟨y1, y2, rfl, s2, hw⟩
      have eL2 := s2 _ _ eL
      obtain ⟨g, hg⟩ : ∃ g : Nat, ns.length = i + 1 + g := ⟨ns.length - (i + 1), by omega⟩
      have hg1 : 1 ≤ g := by omega
      refine ⟨_, rfl, L, _, rfl, .inl (SqL.of eL2), _, rfl, _, _, rfl, rfl, ?_⟩
      rw [lm]
      refine ⟨_, rfl, by omega, by omega, fun G nG => ?_⟩
      have eg : ((ns.length : Int) - (1 + (i : Int))).toNat = g := by omega
      refine lc_range (lo := 0) (n := ((ns.length : Int) - (1 + (i : Int))).toNat) (fun j H' => Same H2 H' ∧ H' G = some (.lst ((gns ns (i + 1) j).map V.int))) ⟨sm_upd nG, upd_same⟩ ?_ ?_
      · rintro j H3 hj ⟨s3, eG⟩
        rw [eg] at hj
        have ha : ns[j]? = some ns[j] := List.getElem?_eq_getElem (by omega)
        have hb : ns[j + (i + 1)]? = some ns[j + (i + 1)] := List.getElem?_eq_getElem (by omega)
        refine ⟨rfl, _, rfl, _, rfl, _, rfl, _, _, rfl, rfl, L, _, _, .int ns[j + (i + 1)], rfl, rfl, SqL.of (s3 _ _ eL2), ?_, ?_⟩
        · rw [Int.zero_add, show ((j : Int) + (1 + (i : Int))) = ((j + (i + 1) : Nat) : Int) by omega]
          exact at_ii hb
        refine ⟨_, rfl, _, rfl, L, _, _, .int ns[j], rfl, rfl, SqL.of (s3 _ _ eL2), ?_, ?_⟩
        · rw [Int.zero_add]
          exact at_ii ha
        refine ⟨_, _, rfl, rfl, _, eG, ?_, ?_, ?_⟩
        · rw [List.length_map]
          unfold gns
          rw [List.length_map, List.length_range]
          exact small1000 (by omega)
        · intro b o eb
          rw [upd_ne (ne_of_none eb nG)]
          exact s3 _ _ eb
        · rw [upd_same]
          unfold gns
          rw [List.range_succ, List.map_append, List.map_append]
          simp only [List.map_cons, List.map_nil]
          rw [List.getD_eq_getElem?_getD, List.getD_eq_getElem?_getD, ha, hb]
          rfl
      rintro H3 ⟨s3, eG⟩
      rw [eg] at eG
      have gl : (gns ns (i + 1) g).length = g := by
        unfold gns
        rw [List.length_map, List.length_range]
      have s23 := s2.trans s3
      have of_ : ∀ {x : Int}, x ∈ gns ns (i + 1) g → ∃ (k : Nat) (a b : Int), ns[k]? = some a ∧ ns[k + (i + 1)]? = some b ∧ b - a = x := fun {x} hx => by
        obtain ⟨k1, hk1, e1⟩ := List.mem_map.mp hx
        have hk1 := List.mem_range.mp hk1
        have q1 : ns[k1]? = some ns[k1] := List.getElem?_eq_getElem (by omega)
        have q2 : ns[k1 + (i + 1)]? = some ns[k1 + (i + 1)] := List.getElem?_eq_getElem (by omega)
        rw [List.getD_eq_getElem?_getD, List.getD_eq_getElem?_getD, q1, q2] at e1
        exact ⟨k1, _, _, q1, q2, e1⟩
      refine ⟨_, rfl, G, _, rfl, SqL.of eG, by omega, fun mx hx lx => ?_⟩
      refine ⟨_, rfl, G, _, rfl, SqL.of eG, by omega, fun mn hn ln => ?_⟩
      obtain ⟨k1, a1, b1, q1, q2, q3⟩ := of_ hx
      obtain ⟨k2, a2, b2, q4, q5, q6⟩ := of_ hn
      refine ⟨_, _, rfl, rfl, _, _, rfl, rfl, _, rfl, ite2 (fun c => ?_) (fun c => ?_)⟩
      · have c : mx - mn > 1 := of_decide_eq_true c
        refine iteT (kk false _ s23 ⟨fun z => (nomatch z), fun e => ?_⟩)
        have := e.2 _ _ _ _ _ _ _ q1 q2 q4 q5
        omega
      · have c : ¬ mx - mn > 1 := fun z => c (decide_eq_true z)
        refine ⟨_, rfl, G, _, rfl, SqL.of eG, by omega, fun mn' hn' ln' => ?_⟩
        have e2 : mn' = mn := by
          have := ln _ hn'
          have := ln' _ hn
          omega
        subst e2
        refine ⟨_, _, rfl, rfl, _, rfl, ?_⟩
        by_cases c2 : mn' < 0
        · refine iteTs (decide_eq_true c2) (kk false _ s23 ⟨fun z => (nomatch z), fun e => ?_⟩)
          have := e.mono (i + 1) k2 _ _ q4 q5
          omega
        · refine iteFz (decide_eq_false c2) ⟨_, _, rfl, s23, fun w i' j a b c' d w1 w2 ha hb hc hd => ?_⟩
          rcases Nat.lt_or_ge w (1 + i) with lt | ge
          · exact hw w i' j a b c' d w1 lt ha hb hc hd
          · have : w = i + 1 := by omega
            subst this
            have l1 := (List.getElem?_eq_some_iff.mp hb).1
            have l2 := (List.getElem?_eq_some_iff.mp hd).1
            have h1 := lx _ (gns_at (n := g) (by omega) ha hb)
            have h2 := ln _ (gns_at (n := g) (by omega) hc hd)
            have h3 := ln _ (gns_at (n := g) (by omega) ha hb)
            omega
    · rintro σ H2 ⟨y1, y2, rfl, s2, hw⟩
      refine kk true _ s2 ⟨fun _ => ev_by fun w i' j a b c d w1 ha hb hc hd => ?_, fun _ => rfl⟩
      have l1 := (List.getElem?_eq_some_iff.mp hb).1
      exact hw w i' j a b c d w1 (by omega) ha hb hc hd
end
end Lf
namespace Lf
open PySem PySem.Spec PyProof.Rows L2
/-! ### a try after which the way goes on, or that raises what is kept in a name -/
section
variable {X : Cx} {x n : Str} {c : Value} {i : Nat} {body suite rest : List Stmt} {b0 : Stmt} {np po pq : Pos} {tb : WX → TS} {ts : Addr → TS} {tr : Addr → Value → Option Addr → TS} {tn : TS}
theorem pss_keepN (stk : X.stack = X.env :: X.outer) (fr : X.env.frame = some X.env.locals) (nd : X.N.Nodup) (ni : X.N[i]? = some n) (kn : X.env.kindOf n = some .local) (hc : Names X x c)
    (hb : ∀ (W : WX) (pn : List (Addr × Obj)) (xe : Value → Shared → Prop), Takes (X.tr pn xe) W → PSs (X.tr pn xe) body (tb W))
    (hsu : ∀ (a : Addr) (oe : Obj) (pn : List (Addr × Obj)), PSs (X.suite a ((a, oe) :: pn)) (b0 :: suite) (ts a))
    (hre : ∀ (a : Addr) (oe : Obj) (cls : Value) (d : Option Addr) (pn : List (Addr × Obj)), Zc cls d oe → (∃ vs, oe.data = .fields vs) → PSs (X.tr ((a, oe) :: pn) X.xe) rest (tr a cls d)) (hn : PSs X rest tn) :
    PSs X (.Try body [.ExceptHandler (some (.Name x np)) (some n) (b0 :: suite) pq] [] [] po :: rest) (fun D σ H => tb (wKeep X.K c i ts (fun a cls d σ' H' => tr a cls d D σ' H')) { nx := fun σ H => tn D σ H, rt := D.rt } σ H) := by
  refine ⟨fun pins s σ H D I h => wpAny_execs_cons (wpAny_Try_except ?_)⟩
  have ok := I.ok
  have frm : X.A.frames = some (X.env :: X.outer) := by rw [ok.frames, stk]
  refine wpAny_mono ((hb (wKeep X.K c i ts (fun a cls d σ' H' => tr a cls d D σ' H')) (X.pn ++ pins) _ (fun u s' air => ?_)).run [] s σ H { nx := fun σ H => tn D σ H, rt := D.rt } (I.toTry _) h) (fun f s1 z => ?_) (fun e s1 he => he)
  · obtain ⟨a, B, sI, pins', σ1, H1, cls, d, rfl, J0, nb, up, sky, na, os, ag, em, go⟩ := air
    have J : Inv X pins σ1 H1 sI := J0.ofTry ok
    rw [stk] at sky
    refine Sky.land Zc.steady frm fr sky fun h3 f3 u3 => ?_
    have J3 : Inv X pins σ1 H1 { s' with heap := h3 } := J.landed nb f3.1 (up.trans u3) os ag
    obtain ⟨o3, v3, g3, z3, d3⟩ := f3.there
    have nf : a ∉ frs (X.env :: X.outer) := fun hm => by
      obtain ⟨_, o', e', hn⟩ := f3.2.2.1.mem hm
      rw [g3] at e'
      cases e'
      exact hn _ d3
    have n1 : a ≠ X.env.locals := fun z => nf (List.mem_filterMap.mpr ⟨X.env, List.mem_cons_self, by rw [fr, z]⟩)
    have n2 : a ∉ X.fs := fun hm => by
      obtain ⟨e, he, q⟩ := List.mem_filterMap.mp hm
      exact nf (List.mem_filterMap.mpr ⟨e, List.mem_cons_of_mem _ he, q⟩)
    have S3 := J3.suite g3 d3 na n1 n2
    refine wpAny_handleBy_cons (codeAny_handlers_test ?_) (by intro q; cases q)
    have lt : PySem.W.Looks (model X.prog X.w) h3 (typeOf (.ref a)) cls := fun A Q E s k q => wpAny_typeOf_ref (k _ _ g3) (by rw [z3.1]; exact q)
    have lm := PySem.W.exm_one (M := model X.prog X.w) J3.kIn lt em
    have seen : ∀ {Q : Value → Shared → Prop} {E : Value → Shared → Prop}, Q c { s' with heap := h3 } → wpAny (model X.prog X.w) (X.A.mark (some (.ref a))) (eval (.Name x np) X.env) Q E { s' with heap := h3 } := fun {Q E} q => by
      obtain ⟨hg, hd, hm | ⟨hm, hv, hw⟩⟩ := hc
      · exact ld_glob S3 hg hm q hd
      · exact ld_blt S3 hg hm hv q hw hd
    refine seen (lm.here (codeAny_handlers_suite_as (HandSPX.lands_againZ f3 fun h4 f4 u4 => ?_)))
    have J4 : Inv X pins σ1 H1 { s' with heap := h4 } := J.landed nb f4.1 ((up.trans u3).trans u4) os ag
    obtain ⟨o4, v4, g4, z4, d4⟩ := f4.there
    have S4 := J4.suite g4 d4 na n1 n2
    refine store_ok (X := X.suite a ((a, o4) :: (X.pn ++ pins))) (v := .ref a) S4 nd ni (.inl kn) rfl (fun s5 S5 => ?_) (.inr kn)
    refine wpAny_mono ((hsu a o4 (X.pn ++ pins)).run [] s5 _ H1 _ S5 (go a na)) (fun f s6 q => ?_) (fun _ _ z => False.elim z)
    cases f with
    | next =>
      obtain ⟨σ6, H6, S6, q6⟩ := q
      refine gone_ok (X := X.tr ((a, o4) :: (X.pn ++ pins)) X.xe) (out_suite ok S6) nd ni kn fun s7 J7 => ?_
      refine wpAny_mono ((hre a o4 cls d (X.pn ++ pins) z4 ⟨_, d4⟩).run [] s7 _ H6 D J7 q6) (fun f s8 r => ?_) (fun _ _ z => z)
      cases f with
      | next =>
        obtain ⟨σ8, H8, J8, q8⟩ := r
        exact ⟨σ8, H8, pin_out ok J8, q8⟩
      | brk =>
        obtain ⟨σ8, H8, J8, q8⟩ := r
        exact ⟨σ8, H8, pin_out ok J8, q8⟩
      | cont =>
        obtain ⟨σ8, H8, J8, q8⟩ := r
        exact ⟨σ8, H8, pin_out ok J8, q8⟩
      | ret u =>
        obtain ⟨v8, σ8, H8, J8, r8, q8⟩ := r
        exact ⟨v8, σ8, H8, pin_out ok J8, r8, q8⟩
    | brk =>
      obtain ⟨_, _, _, q6⟩ := q
      exact False.elim q6
    | cont =>
      obtain ⟨_, _, _, q6⟩ := q
      exact False.elim q6
    | ret u =>
      obtain ⟨_, _, _, _, _, q6⟩ := q
      exact False.elim q6
  · cases f with
    | next =>
      obtain ⟨σ8, H8, J8, q8⟩ := z
      exact wpAny_execs_nil (hn.run pins s1 σ8 H8 D (J8.ofTry ok) q8)
    | brk =>
      obtain ⟨_, _, _, q6⟩ := z
      exact False.elim q6
    | cont =>
      obtain ⟨_, _, _, q6⟩ := z
      exact False.elim q6
    | ret u =>
      obtain ⟨v8, σ8, H8, J8, r8, q8⟩ := z
      exact ⟨v8, σ8, H8, J8.ofTry ok, r8, q8⟩
end
/-! ### isinstance of a kept exception that has its dict: by a class, by a tuple of classes -/
theorem call_isKV {X : Cx} {a D dd : Addr} {oe : Obj} {pn : List (Addr × Obj)} {xe : Value → Shared → Prop} (C : ExcC X.K D) (hz : Zc (.ref D) (some dd) oe) (hf : ∃ vs, oe.data = .fields vs) : CallR (X.tr ((a, oe) :: pn) xe) (.builtin "isinstance") (rIsV X.K D a dd) := by
  intro pins s σ H xs us Q I r h
  obtain ⟨c, cv, b, fs, rfl, hcv, e, ed, q⟩ := h
  cases r with
  | cons rx rr =>
    cases rr with
    | cons rt rr =>
      cases rr
      cases rx
      obtain ⟨ge, _⟩ := I.pin (a, oe) (List.mem_append.mpr (.inl List.mem_cons_self))
      obtain ⟨vs, hv⟩ := hf
      obtain ⟨mA, hns, _⟩ := (show ObjOk X.prog X.w H s.heap dd (.xd fs) from I.hok dd _ ed)
      obtain ⟨od, _, _, ho, _⟩ := hns
      have J : PySem.W.InstAt s.heap a oe D (some od) := by
        obtain ⟨oc, od', oda, osl⟩ := oe
        obtain ⟨h1, h2⟩ := hz
        dsimp only at h1 h2 hv
        subst h1 h2 hv
        exact ⟨ge, rfl, rfl, ho⟩
      have hcl : (PySem.W.clsIn X.K D).isSome = true := by
        obtain ⟨cd, hc, _⟩ := PySem.W.any_some C.hd
        rw [hc]
        rfl
      have kx := PySem.W.kitx_exc (x := a) (ox := oe) (od := some od) hcl C.hg C.hk C.hs C.ha C.hn C.ht C.hm
      have ec := hcv _ rt
      subst ec
      exact PySem.W.kia_one kx I.kIn J e (fun z => nomatch z) fun tk => ⟨.bl b, H, I.kept (t' := tk) fun _ _ z => z, rfl, q⟩
def rIsT (K : PySem.W.Frag) (D a dd : Addr) : List V → Hp → VK → Prop := fun xs H Q => ∃ (tp : Addr) (cs : List Addr) (b : Bool) (fs : List (Str × V)), xs = [.ref a, .ref tp] ∧ SqT K H tp (cs.map V.ref) ∧ PySem.W.kitAny K (.ref D) (cs.map Value.ref) = some b ∧ H dd = some (.xd fs) ∧ Q (.bl b) H
theorem call_isKT {X : Cx} {a D dd : Addr} {oe : Obj} {pn : List (Addr × Obj)} {xe : Value → Shared → Prop} (C : ExcC X.K D) (hz : Zc (.ref D) (some dd) oe) (hf : ∃ vs, oe.data = .fields vs) : CallR (X.tr ((a, oe) :: pn) xe) (.builtin "isinstance") (rIsT X.K D a dd) := by
  intro pins s σ H xs us Q I r h
  obtain ⟨tp, cs, b, fs, rfl, hT, e, ed, q⟩ := h
  cases r with
  | cons rx rr =>
    cases rr with
    | cons rt rr =>
      cases rr
      cases rx
      obtain ⟨ge, _⟩ := I.pin (a, oe) (List.mem_append.mpr (.inl List.mem_cons_self))
      obtain ⟨vs, hv⟩ := hf
      obtain ⟨mA, hns, _⟩ := (show ObjOk X.prog X.w H s.heap dd (.xd fs) from I.hok dd _ ed)
      obtain ⟨od, _, _, ho, _⟩ := hns
      have J : PySem.W.InstAt s.heap a oe D (some od) := by
        obtain ⟨oc, od', oda, osl⟩ := oe
        obtain ⟨h1, h2⟩ := hz
        dsimp only at h1 h2 hv
        subst h1 h2 hv
        exact ⟨ge, rfl, rfl, ho⟩
      have hcl : (PySem.W.clsIn X.K D).isSome = true := by
        obtain ⟨cd, hc, _⟩ := PySem.W.any_some C.hd
        rw [hc]
        rfl
      have kx := PySem.W.kitx_exc (x := a) (ox := oe) (od := some od) hcl C.hg C.hk C.hs C.ha C.hn C.ht C.hm
      obtain ⟨its, rv, ⟨o, e1, e2, nn, e3⟩, _⟩ := I.tuple hT
      have ei := vals_refs rv
      subst ei
      cases rt
      obtain ⟨oc, od', oda, osl⟩ := o
      dsimp only at e2 e3
      subst e2 e3
      exact PySem.W.kia_tup kx I.kIn J e1 e (fun z => nomatch z) fun tk => ⟨.bl b, H, I.kept (t' := tk) fun _ _ z => z, rfl, q⟩
theorem pe_xk {Y : Cx} {a C : Addr} {oe : Obj} {cls : Value} {d : Option Addr} {e : Expr} {te : TE} {pos : Pos} {n : Str} (T : XfC Y.K C) (hno : PySem.W.findIn Y.K (.ref C) n = some none)
    (hz : Zc cls d oe) (hf : ∃ vs, oe.data = .fields vs) (hin : (a, oe) ∈ Y.pn) (he : PE Y e te) (hb : attributeBase e n Y.env (eval e Y.env) = eval e Y.env := by rfl) : PE Y (.Attribute e n pos) (tXf a cls d C n te) := by
  constructor
  intro pins s σ H Q I h
  refine attr_of hb (thn (he.run pins s σ H _ I h) fun u s1 hh => ?_)
  obtain ⟨x, H1, J1, rx, ex, ec, dd, fs, v, ed, ea, l, q⟩ := hh
  subst ex ec ed
  obtain rfl : u = Value.ref a := rx
  obtain ⟨there, _⟩ := J1.pin (a, oe) (List.mem_append_left _ hin)
  obtain ⟨vs, hd⟩ := hf
  obtain ⟨mA, hns, hr⟩ := (show ObjOk Y.prog Y.w H1 s1.heap dd (.xd fs) from J1.hok dd _ ea)
  obtain ⟨od, ho, hl⟩ := lookIn_ns hns
  obtain ⟨u, hu, ru⟩ := RelO.some_of (v := v) (o := mA n) (by rw [← l]; exact hr n)
  have inst : PySem.W.InstAt s1.heap a oe C (some od) := ⟨there, hz.1, by unfold PySem.W.notCls; rw [hd] <;> rfl, by rw [hz.2]; exact ho⟩
  have found := PySem.W.findObj_own T.hdC hno rfl (by rw [hl, hu])
  exact HandSPX.exc_get J1.kIn inst T.ga T.gg T.exC found (handed_of ru) ⟨v, H1, J1.tok _, ru, q⟩
/-- what the top tells of the classes -/
structure Cls20 (K : PySem.W.Frag) (mg : Str → Option Value) (C L N R E F : Addr) : Prop where
  gL : mg "LeapfitError" = some (.ref L)
  gN : mg "InvalidNumber" = some (.ref N)
  gR : mg "InvalidRule" = some (.ref R)
  gE : mg "NoEvents" = some (.ref E)
  gF : mg "NoRule" = some (.ref F)
  oL : PySem.W.kitOne K (.ref C) (.ref L) = some true
  oN : PySem.W.kitAny K (.ref C) [.ref N, .ref R, .ref E, .ref F] = some false
/-! ### _law_refused -/
/-- nothing caught: None is given -/
def NonE (Q : VK) (H : Hp) : Prop := tSeq (tIfS (tTest (tOp (fun x y H Q => y = V.non ∧ Q (V.bl (decide (x = V.non))) H) (tVar 1) (tC V.non))) (tRet (tC V.non)) tNext) tNoS { nx := fun _ H' => Q .non H', rt := Q } [none, some V.non, none, none] H
theorem nonE {Q : VK} {H : Hp} (h : Q .non H) : NonE Q H := ⟨_, rfl, rfl, _, rfl, iteT h⟩
def Ech20 (C : Addr) (Q : VK) : XK := fun cls d H' => cls = .ref C ∧ ∃ (dd : Addr) (v : V), d = some dd ∧ H' dd = some (.xd [("value", v)]) ∧ ∀ L H'', Same H' H'' → H'' L = some (.lst [v]) → Q (.ref L) H''
def TRef20 (C : Addr) : (XK → Hp → VK → Prop) → Hp → VK → Prop := fun tl H Q => tl (Ech20 C Q) H (fun _ H' => NonE Q H')
abbrev s_l_refused : Stmt := topS 34
abbrev N_l_refused : List Str := ["_law_asked", "_law_caught", "_law_other", "e"]
abbrev P_l_refused : List Str := ["_law_asked"]
theorem sc_l_refused : FnScope N_l_refused P_l_refused (defScope s_l_refused) := ⟨rfl, rfl, rfl, by decide +kernel, rfl, by decide +kernel, by decide +kernel⟩
theorem four20 {α : Type} {l : List α} (h : l.length = 4) : ∃ a b c d, l = [a, b, c, d] := by
  match l, h with
  | [a, b, c, d], _ => exact ⟨a, b, c, d, rfl⟩
theorem gives_20 {X : Cx} {C L N R E F g : Addr} {cdg : Value} {q : Str} (T : ValC X.prog X.K X.mg C "InvalidCounts" "value") (U : Cls20 X.K X.mg C L N R E F) (B : Bi X.mg) :
    LamX.GivesTo X N_l_refused "_law_refused" (defScope s_l_refused) g cdg (defBody s_l_refused) "_law_asked" q (TRef20 C) := by
  intro f c' s H Q tl act hc h
  have keyR : ∀ a : Addr × Addr, ∃ t : TS, (∀ (oe : Obj) (pn : List (Addr × Obj)), Zc (.ref C) (some a.2) oe → (∃ vs, oe.data = .fields vs) → PSs ((cxOf C8.CX0 X.prog X.w X.K X.mg X.base N_l_refused "_law_refused" (defScope s_l_refused) g cdg X.A X.stack s H C8.E0).nox.tr ((a.1, oe) :: pn) (fun _ _ => False)) (List.drop 2 (defBody s_l_refused)) t) ∧
      ∀ s0 s2 s3 H1 (v : V), H1 a.2 = some (.xd [("value", v)]) → (∀ L H'', Same H1 H'' → H'' L = some (.lst [v]) → Q (.ref L) H'') → t { nx := fun _ H' => Q .non H', rt := Q } [s0, some (.ref a.1), s2, s3] H1 := by
    intro a
    refine ⟨?t, fun oe pn hz hf => ?p, fun s0 s2 s3 H1 v e3 hh => ?q⟩
    case p =>
      have ci := call_isKV (X := (cxOf C8.CX0 X.prog X.w X.K X.mg X.base N_l_refused "_law_refused" (defScope s_l_refused) g cdg X.A X.stack s H C8.E0).nox) (a := a.1) (dd := a.2) (pn := pn) (xe := fun _ _ => False) T.ex hz hf
      have ct := call_isKT (X := (cxOf C8.CX0 X.prog X.w X.K X.mg X.base N_l_refused "_law_refused" (defScope s_l_refused) g cdg X.A X.stack s H C8.E0).nox) (a := a.1) (dd := a.2) (pn := pn) (xe := fun _ _ => False) T.ex hz hf
      exact pss_cons (ps_if (pt_cmpR op_isN (pv 1) pe_non (nomark _)) (pss_one (ps_ret pe_non)) pss_nil)
        (pss_cons (ps_set (i := 2) sc_l_refused.nd rfl (Or.inl rfl) (pe_callB ct (by rfl) B.isinstance_ bt_isinstance (pa_cons (pv 1) (pa_cons (pe_tup (pa_cons (pe_glob (v := .ref N) (by rfl) U.gN rfl) (pa_cons (pe_glob (v := .ref R) (by rfl) U.gR rfl) (pa_cons (pe_glob (v := .ref E) (by rfl) U.gE rfl) (pa_cons (pe_glob (v := .ref F) (by rfl) U.gF rfl) pa_nil))))) pa_nil))))
        (pss_one (ps_ret (pe_ifExp (PW.pt (pw_and (pt_val (pe_callB ci (by rfl) B.isinstance_ bt_isinstance (pa_cons (pv 1) (pa_cons (pe_glob (v := .ref L) (by rfl) U.gL rfl) pa_nil)))) (pw_and1 (pt_not (pt_val (pv 2))))))
          (pe_lst (pa_cons (pe_xk (Y := (cxOf C8.CX0 X.prog X.w X.K X.mg X.base N_l_refused "_law_refused" (defScope s_l_refused) g cdg X.A X.stack s H C8.E0).nox.tr ((a.1, oe) :: pn) (fun _ _ => False)) (a := a.1) T.xf T.no hz hf List.mem_cons_self (pv 1)) pa_nil)) pe_str))))
    case q =>
      refine ⟨_, rfl, rfl, _, rfl, iteF ?_⟩
      refine ⟨_, rfl, len10 (by simp), fun tp ntp => ?_⟩
      have z1 := sm_upd (o := .tup [.ref N, .ref R, .ref E, .ref F]) ntp
      refine ⟨tp, [N, R, E, F], false, _, rfl, SqT.of upd_same, U.oN, z1 _ _ e3, ?_⟩
      refine ⟨_, rfl, .ref L, _, true, _, rfl, fun u r => r, U.oL, z1 _ _ e3, true, rfl, iteT ⟨_, rfl, false, rfl, iteT ?_⟩⟩
      refine ⟨_, rfl, rfl, rfl, _, _, v, rfl, z1 _ _ e3, rfl, len10 (by simp), fun l nl => ?_⟩
      exact hh l _ (z1.trans (sm_upd nl)) upd_same
  obtain ⟨tR, ttR⟩ := Classical.axiomOfChoice keyR
  refine ⟨_, pss_cons (ps_set (i := 1) sc_l_refused.nd rfl (Or.inl rfl) pe_non)
    (pss_keepN (i := 3) (c := .ref C) (ts := fun _ => tAsg (tVar 3) (gName 1)) (tb := fun W D σ H => ∃ Ech : XK, (∀ cls d σ' H', Ech cls d H' → σ'.length = 4 → W cls d σ' H') ∧ σ[0]? = some (some (.ref f)) ∧ H c' = some (LamX.CodeO c' q) ∧ tl Ech H (fun _ H' => D.nx σ H'))
      (tr := fun a cls d D σ H => ∃ dd, cls = .ref C ∧ d = some dd ∧ tR (a, dd) D σ H) rfl rfl sc_l_refused.nd rfl rfl ⟨rfl, by decide, .inl T.gC⟩ (fun W pn xe tk => ?hb) (fun a oe pn => pss_one (ps_set (i := 1) sc_l_refused.nd rfl (Or.inl rfl) (pv 3))) (fun a oe cls d pn hz hf => ⟨fun pins s1 σ1 H1 D I h1 => ?hre⟩)
      (pss_cons (ps_if (pt_cmpR op_isN (pv 1) pe_non (nomark _)) (pss_one (ps_ret pe_non)) pss_nil) pss_no)), ?_⟩
  case hb =>
    constructor
    intro pins s1 σ1 H1 D I h1
    obtain ⟨Ech, hW, h2, h3, h4⟩ := h1
    exact (pss_one (ps_expr (act (fun cls d σ' H' => σ'.length = 4 → W cls d σ' H') pn xe Ech _ _ (takes_len tk) hW))).run pins s1 σ1 H1 D I ⟨h2, h3, h4⟩
  case hre =>
    obtain ⟨dd, e1, e2, hh⟩ := h1
    subst e1 e2
    exact ((ttR (a, dd)).1 oe pn hz hf).run pins s1 σ1 H1 D I hh
  refine ⟨Ech20 C Q, fun cls d σ' H' he hl => ?_, rfl, hc, h⟩
  obtain ⟨s0, s1, s2, s3, rfl⟩ := four20 hl
  obtain ⟨e1, dd, v, e2, e3, qq⟩ := he
  subst e1 e2
  exact ⟨T.meets, fun a na => ⟨_, rfl, dd, rfl, rfl, (ttR (a, dd)).2 s0 s2 _ H' v e3 qq⟩⟩
end Lf
namespace Lf
open PySem PySem.Spec PyProof.Rows L2
/-! ### t[::-1] of a tuple -/
section
variable {prog : Program} {w : World} {A : Around} {E : Value → Shared → Prop} {s : Shared}
theorem places_rev (n : Nat) : Builtin.Slice.slicePlaces ((n : Int) - 1) (-1) (-1) = n := by
  unfold Builtin.Slice.slicePlaces
  rw [if_neg (by decide)]
  by_cases h : (n : Int) - 1 > -1
  · rw [if_pos h, show (-(-1) : Int) = 1 by decide, Int.ediv_one]
    omega
  · rw [if_neg h]
    omega
theorem slice_rev {sl : Addr} {vl vu vs : Value} {n : Nat} {Q : Int × Int × Nat → Shared → Prop} (hs : s.heap.IsSliceOf sl vl vu vs) (pl : IsPart vl none) (pu : IsPart vu none) (ps : IsPart vs (some (-1)))
    (h : Q ((n : Int) - 1, -1, n) s) : wpAny (model prog w) A (Builtin.Slice.sliceApplied (.ref sl) (pure (n : Int))) Q E s := by
  obtain ⟨os, hos, hcs, hds⟩ := id hs
  unfold Builtin.Slice.sliceApplied Builtin.Slice.sliceFields
  refine wpAny_bind (wpAny_bind (wpAny_field hos hds (x := vl) rfl (wpAny_bind (wpAny_field hos hds (x := vu) rfl (wpAny_bind (wpAny_field hos hds (x := vs) rfl (wpAny_pure ?_)))))))
  refine wpAny_bind (HT.slicePart_ ps ?_)
  show wpAny _ _ (if ((-1 : Int) == 0) = true then _ else _) _ _ s
  rw [if_neg (by decide)]
  refine wpAny_bind (HT.slicePart_ pl (wpAny_bind (HT.slicePart_ pu (wpAny_bind (wpAny_pure ?_)))))
  show wpAny _ _ (pure ((n : Int) - 1, (-1 : Int), Builtin.Slice.slicePlaces ((n : Int) - 1) (-1) (-1))) _ _ s
  rw [places_rev]
  exact wpAny_pure h
theorem fmap_congr {α β : Type} {f g : α → Option β} : ∀ {l : List α}, (∀ k ∈ l, f k = g k) → l.filterMap f = l.filterMap g
  | [], _ => rfl
  | a :: r, h => by
    rw [List.filterMap_cons, List.filterMap_cons, h a List.mem_cons_self, fmap_congr fun k hk => h k (List.mem_cons_of_mem _ hk)]
theorem pick_rev (xs : Array Value) : ((List.range xs.size).filterMap fun (k : Nat) => xs[(((xs.size : Nat) : Int) - 1 + (k : Int) * (-1)).toNat]?).toArray = xs.toList.reverse.toArray := by
  have e : (List.range xs.size).filterMap (fun (k : Nat) => xs[(((xs.size : Nat) : Int) - 1 + (k : Int) * (-1)).toNat]?) = (((List.range xs.size).map fun k => xs.size - 1 - k).filterMap (xs[·]?)) := by
    rw [List.filterMap_map]
    refine fmap_congr fun k hk => ?_
    have := List.mem_range.mp hk
    have e2 : (((xs.size : Nat) : Int) - 1 + (k : Int) * (-1)).toNat = xs.size - 1 - k := by omega
    rw [e2]
    rfl
  rw [e, PySem.W.krv_range, List.filterMap_reverse, PySem.W.krv_all]
theorem getItem_tuple_rev {t sl : Addr} {items : Array Value} {vl vu vs : Value} {Q : Value → Shared → Prop} (ht : IsTup s.heap t items) (hs : s.heap.IsSliceOf sl vl vu vs) (pl : IsPart vl none) (pu : IsPart vu none) (ps : IsPart vs (some (-1)))
    (h : Q (.ref s.heap.objs.size) { s with heap := s.heap.push { cls := .type "tuple", data := .seq items.toList.reverse.toArray } })
    (hsz : items.size ≤ sizeLine) : wpAny (model prog w) A (getItem (.ref t) (.ref sl)) Q E s := by
  have htake : sizeOk (.seq items.toList.reverse.toArray) := by
    show items.toList.reverse.toArray.size ≤ sizeLine
    rw [List.size_toArray, List.length_reverse, Array.length_toList]
    exact hsz
  obtain ⟨os, hos, hcs, hds⟩ := id hs
  have hTs : s.TypeIs (.ref sl) "slice" := ⟨os, hos, hcs⟩
  unfold getItem
  try with_reducible refine wpAny_holding ?_
  first | refine wpAny_bind (wpAny_pure ?_) | skip
  refine wpAny_bind (wpAny_sequenceKey ht.typeIs (by decide) ?_)
  refine wpAny_bind (wpAny_callSpecial?_slot (name := Str.ofString "__getitem__") ht.typeIs PyProof.Rows.slot_tuple_getitem
    (wpAny_call_entry PyProof.Rows.slot_tuple_getitem ht.typeIs entry_tuple_getitem ?_ (args_tuple_getitem _ _)))
  show wpAny _ _ (Builtin.Tuple.tupleItemsOf (.ref t) >>= _) _ _ s
  refine wpAny_bind (tupleItemsOf_ ht ?_)
  refine wpAny_bind (wpAny_typeOf hTs ?_)
  rw [if_pos (by decide)]
  refine wpAny_bind (slice_rev hs pl pu ps ?_)
  have hno : ¬ ((((items.size : Nat) : Int) - 1 == 0 && (-1 : Int) == 1 && items.size == items.size) = true) := by
    intro q
    rw [Bool.and_eq_true, Bool.and_eq_true] at q
    exact absurd q.1.2 (by decide)
  show wpAny _ _ (if (((items.size : Nat) : Int) - 1 == 0 && (-1 : Int) == 1 && items.size == items.size) = true then _ else _) _ _ s
  rw [if_neg hno, pick_rev]
  first
    | exact wpAny_bind (m := Builtin.Tuple.tupleExact _) (wpAny_newObj_type (wpAny_pure ⟨_, rfl, wpAny_pure h⟩) htake)
    | exact wpAny_bind (m := Builtin.Tuple.tupleExact _) (wpAny_newObj_type (wpAny_bind (wpAny_pure (wpAny_pure ⟨_, rfl, wpAny_pure h⟩))) htake)
    | exact wpAny_bind (wpAny_bind (m := Builtin.Tuple.tupleExact _) (wpAny_newObj_type (wpAny_pure (wpAny_pure ⟨_, rfl, wpAny_pure h⟩)) htake))
    | exact wpAny_bind (wpAny_bind (m := Builtin.Tuple.tupleExact _) (wpAny_newObj_type (wpAny_pure ⟨_, rfl, wpAny_pure h⟩) htake))
end
def tRevT (K : PySem.W.Frag) (te : TE) : TE := fun σ H Q => te σ H fun x H1 => ∃ a xs, x = .ref a ∧ SqT K H1 a xs ∧ ∀ p, H1 p = none → Q (.ref p) (upd H1 p (.tup xs.reverse))
theorem pe_revT {X : Cx} {e : Expr} {te : TE} {k : Nat} {p1 p2 p3 pos : Pos} (he : PE X e te) : PE X (.Subscript e (.Slice none none (some (.UnaryOp .USub (.Constant (.int 1) k p1) p2)) p3) pos) (tRevT X.K te) := by
  refine ⟨fun pins s σ H Q I h => ?_⟩
  refine Subscript_ (thn (he.run pins s σ H _ I h) fun v s1 ⟨x, H1, I1, r1, q1⟩ => ?_)
  obtain ⟨a, xs, ex, hx, q⟩ := q1
  subst ex
  cases r1
  have hst : PO X (some (.UnaryOp .USub (.Constant (.int 1) k p1) p2)) (tPart (tUn (rU fun i => .int (-i)) (tC (.int 1)))) := po_some (pe_un un_neg pe_int)
  refine wpAny_Slice (thn (po_none.run pins s1 σ H1 (fun o H2 => o = none ∧ H2 = H1) I1 ⟨rfl, rfl⟩) fun vl s2 ⟨l, H2, I2, pl, el, e2⟩ => ?_)
  subst el e2
  refine thn (po_none.run pins s2 σ H2 (fun o H3 => o = none ∧ H3 = H2) I2 ⟨rfl, rfl⟩) fun vu s3 ⟨u, H3, I3, pu, eu, e3⟩ => ?_
  subst eu e3
  refine thn (hst.run pins s3 σ H3 (fun o H4 => o = some (-1) ∧ H4 = H3) I3 ⟨1, rfl, -1, rfl, rfl, rfl⟩) fun vs s4 ⟨o, H4, I4, ps, eo, e4⟩ => ?_
  subst eo e4
  have I5 : Inv X pins σ H4 { s4 with heap := s4.heap.push { cls := .type "slice", data := .fields #[vl, vu, vs] } } := I4.kept (t' := s4.toks) fun b ob q => Heap.get?_push_of_some _ q
  obtain ⟨its, r, ht, hz⟩ := I5.tuple hx
  have hlen := r.length
  show wpAny (model X.prog X.w) X.A (subscriptTail e (.Slice none none (some (.UnaryOp .USub (.Constant (.int 1) k p1) p2)) p3) (.ref a) (.ref s4.heap.objs.size)) (EP X pins σ Q) X.xe { s4 with heap := s4.heap.push { cls := .type "slice", data := .fields #[vl, vu, vs] } }
  refine tail_any (ops := [.ref a, .ref s4.heap.objs.size]) ht.typeIs (PyProof.Rows.slot_tuple_getitem.lookup) ?_ (by with_unfolding_all rfl)
  refine getItem_tuple_rev ht (Heap.IsSliceOf.new _ vl vu vs) pl pu ps ?_ (by rw [List.size_toArray]; omega)
  refine ⟨.ref _, _, I5.laid (t' := s4.toks) (o := .tup xs.reverse) (fun b ob q => Heap.get?_push_of_some _ q) (Nat.le_refl _) ?_, rfl, q _ (I5.hok.fresh (Nat.le_refl _))⟩
  exact ⟨by rw [List.length_reverse]; exact hz, _, r.reverse, IsTup.new _ _⟩
end Lf
namespace Lf
open PySem PySem.Spec PyProof.Rows L2
/-! ### whole numbers and truths alike; lists and tuples alike -/
inductive Nm : V → Int → Prop
  | int (i : Int) : Nm (.int i) i
  | bl (b : Bool) : Nm (.bl b) (if b = true then 1 else 0)
def rNm (f : Int → Int → Int) : R2 := fun x y H Q => ∃ i j, ((Nm x i ∧ y = .int j) ∨ (x = .int i ∧ Nm y j)) ∧ Q (.int (f i j)) H
section
variable {X : Cx}
theorem op_addN : OpR X (binaryOp .Add) (fun x y H Q => ∃ i j, Nm x i ∧ y = .int j ∧ Q (.int (i + j)) H) := by
  intro pins s σ H x y v u Q I rx ry h
  obtain ⟨i, j, hx, rfl, q⟩ := h
  cases hx with
  | int i => exact op_add pins s σ H _ _ v u Q I rx ry ⟨i, j, rfl, rfl, q⟩
  | bl b =>
    cases rx
    obtain ⟨t, rfl⟩ := ry
    exact PySem.IntBool.add_bool_int ⟨.int _, H, I.tok _, ⟨_, rfl⟩, q⟩
theorem op_subN : OpR X (binaryOp .Sub) (fun x y H Q => ∃ i j, ((Nm x i ∧ y = .int j) ∨ (x = .int i ∧ Nm y j)) ∧ Q (.int (i - j)) H) := by
  intro pins s σ H x y v u Q I rx ry h
  obtain ⟨i, j, hx, q⟩ := h
  rcases hx with ⟨hx, rfl⟩ | ⟨rfl, hy⟩
  · cases hx with
    | int i => exact op_sub pins s σ H _ _ v u Q I rx ry ⟨i, j, rfl, rfl, q⟩
    | bl b =>
      cases rx
      obtain ⟨t, rfl⟩ := ry
      exact PySem.IntBool.sub_bool_int ⟨.int _, H, I.tok _, ⟨_, rfl⟩, q⟩
  · cases hy with
    | int j => exact op_sub pins s σ H _ _ v u Q I rx ry ⟨i, j, rfl, rfl, q⟩
    | bl b =>
      cases ry
      obtain ⟨t, rfl⟩ := rx
      exact PySem.IntBool.sub_int_bool ⟨.int _, H, I.tok _, ⟨_, rfl⟩, q⟩
theorem op_mulN : OpR X (binaryOp .Mult) (fun x y H Q => ∃ i j, x = .int i ∧ Nm y j ∧ CMul i j ∧ Q (.int (i * j)) H) := by
  intro pins s σ H x y v u Q I rx ry h
  obtain ⟨i, j, rfl, hy, hc, q⟩ := h
  cases hy with
  | int j => exact op_mul pins s σ H _ _ v u Q I rx ry ⟨i, j, rfl, rfl, hc, q⟩
  | bl b =>
    cases ry
    obtain ⟨t, rfl⟩ := rx
    exact PySem.IntBool.mul_int_bool ⟨.int _, H, I.tok _, ⟨_, rfl⟩, q⟩
theorem op_eqN : OpR X (compareOp .Eq) (fun x y H Q => ∃ i j, Nm x i ∧ y = .int j ∧ Q (.bl (i == j)) H) := by
  intro pins s σ H x y v u Q I rx ry h
  obtain ⟨i, j, hx, rfl, q⟩ := h
  cases hx with
  | int i =>
    refine op_eq pins s σ H _ _ v u Q I rx ry ⟨rfl, ?_⟩
    rw [dec_int]
    exact q
  | bl b =>
    cases rx
    obtain ⟨t, rfl⟩ := ry
    refine PySem.EqBoolInt.eq_bool_int ⟨.bl _, H, I, rfl, ?_⟩
    cases b <;> exact q
theorem call_strN : CallR X (.type "str") (fun xs H Q => ∃ x, xs = [x] ∧ ((∃ i, x = .int i ∧ i.natAbs.log2 < 1920 ∧ Q (.str (toString i)) H) ∨ ∃ b, x = .bl b ∧ Q (.str (if b then "True" else "False")) H)) := by
  intro pins s σ H xs us Q I r h
  obtain ⟨x, rfl, h⟩ := h
  rcases h with ⟨i, rfl, hz, q⟩ | ⟨b, rfl, q⟩
  · exact call_str_int pins s σ H _ us Q I r ⟨i, rfl, hz, q⟩
  · obtain ⟨u, rfl, r1⟩ := vals1 r
    cases r1
    exact PySem.P.str_of_bool ⟨.str _, H, I.tok _, ⟨_, rfl⟩, q⟩
theorem tuple_mul0 (l : Addr) (items : Array Value) (n : Nat) (dd : Option Addr) (sl : Array (Option Value)) (x : Int) (u : Tok) (c0 : (decide (x < -(2 ^ 63)) || decide (x ≥ 2 ^ 63)) = false) (c1 : (items.isEmpty || x == 1) = true) :
    Meets (Builtin.«tuple.__mul__» ⟨[.ref l, .int x u], []⟩) (fun _ R s => s.heap.get? l = some { cls := .type "tuple", dict := dd, data := .seq items n, slots := sl } ∧
      R (.ok (.ret (Value.ref l))) s) :=
  .of_wp fun prog w A R s h => by
    obtain ⟨hp, g, d, tk, os⟩ := s
    obtain ⟨hl, h⟩ := h
    have f1 := AutoSeq1.idx_int
    wp_walk using wpAny_loadPart' hl
    repeat (first
      | (refine wpAny_ite_false (decide_eq_false (by rw [c0]; exact Bool.false_ne_true)) ?_; wp_walk using wpAny_loadPart' hl)
      | (refine wpAny_ite_true (decide_eq_true (by rw [c1])) ?_; wp_walk using wpAny_loadPart' hl))
    exact ⟨_, rfl, h⟩
theorem op_repT0 : OpR X (binaryOp .Mult) (fun x y H Q => ∃ l k, x = .ref l ∧ y = .int k ∧ H l = some (.tup []) ∧ -(2 ^ 63) ≤ k ∧ k < 2 ^ 63 ∧ Q (.ref l) H) := by
  intro pins s σ H x y v u Q I rx ry h
  obtain ⟨l, k, rfl, rfl, hT, h1, h2, q⟩ := h
  cases rx
  obtain ⟨t, rfl⟩ := ry
  obtain ⟨its, r, ⟨⟨cls, dd, data, sl⟩, ho, hc, n, hd⟩, hs⟩ := I.tuple (SqT.of hT)
  simp only at hc hd
  subst hc hd
  have hle : its.length = 0 := r.length.symm
  obtain rfl := List.eq_nil_of_length_eq_zero hle
  have c0 : (decide (k < -(2 ^ 63)) || decide (k ≥ 2 ^ 63)) = false := by
    rw [decide_eq_false (by omega), decide_eq_false (by omega)] <;> rfl
  exact wpAny_binaryOp_repeat_ref (T := "tuple") (U := "int") (by decide) ⟨_, ho, rfl⟩ (fun s' => typeIs_int s' k t) noFill_tuple_mul F.fills_int_mul F.slot_int_rmul repeat_tuple F.slot_int_index.lookup
    (call_meets F.slot_int_rmul (typeIs_int s k t) F.entry_int_rmul (F.args_int_rmul_2 _ _) (int_rmul_tuple k t l _ n dd sl)
      ⟨ho, rfl, ⟨_, ho, rfl⟩, call_meets F.slot_tuple_mul ⟨_, ho, rfl⟩ F.entry_tuple_mul (F.args_tuple_mul_2 _ _) (tuple_mul0 l _ n dd sl k t c0 rfl) ⟨ho, ⟨.ref l, H, I, rfl, q⟩⟩⟩)
theorem cutV_whole {xs : List V} {lo hi : Option Int} (h : HT.sIx xs.length 0 lo = 0 ∧ HT.sIx xs.length xs.length hi = xs.length) : cutV xs lo hi = xs := by
  unfold cutV
  rw [h.1, h.2]
  simp
def rSlB : V → Option Int → Option Int → Hp → VK → Prop := fun x lo hi H Q => ∃ p b xs, x = .ref p ∧ H p = some (sqO b xs) ∧ ∀ r H', Same H H' → H' r = some (sqO b (cutV xs lo hi)) → Q (.ref r) H'
theorem sl_B : SlR X rSlB := by
  intro pins s σ H x v vl vu lo hi sl Q I rx hs pl pu h
  obtain ⟨p, b, xs, rfl, e, q⟩ := h
  cases b with
  | true => exact sl_list pins s σ H _ v vl vu lo hi sl Q I rx hs pl pu ⟨p, xs, rfl, SqL.of e, fun r nr => q r _ (sm_upd nr) upd_same⟩
  | false =>
    refine sl_tupA pins s σ H _ v vl vu lo hi sl Q I rx hs pl pu ⟨p, xs, rfl, SqT.of e, fun hw => q p H (fun _ _ e => e) ?_, fun _ r nr => q r _ (sm_upd nr) upd_same⟩
    rw [cutV_whole hw]
    exact e
def rCatB : R2 := fun x y H Q => ∃ p p2 b xs ys, x = .ref p ∧ y = .ref p2 ∧ H p = some (sqO b xs) ∧ H p2 = some (sqO b ys) ∧ xs.length + ys.length ≤ sizeLine ∧ ∀ r H', Same H H' → H' r = some (sqO b (xs ++ ys)) → Q (.ref r) H'
theorem op_catB : OpR X (binaryOp .Add) rCatB := by
  intro pins s σ H x y v u Q I rx ry h
  obtain ⟨p, p2, b, xs, ys, rfl, rfl, e, e2, hz, q⟩ := h
  cases b with
  | true => exact op_cat pins s σ H _ _ v u Q I rx ry ⟨p, p2, xs, ys, rfl, rfl, e, e2, hz, fun r nr => q r _ (sm_upd nr) upd_same⟩
  | false =>
    refine op_catA pins s σ H _ _ v u Q I rx ry ⟨p, p2, xs, ys, rfl, rfl, SqT.of e, SqT.of e2, hz, fun z => q p2 H (fun _ _ e => e) ?_, fun _ z => q p H (fun _ _ e => e) ?_, fun _ _ r nr => q r _ (sm_upd nr) upd_same⟩
    · rw [z, List.nil_append]
      exact e2
    · rw [z, List.append_nil]
      exact e
def rTwoB : R2 := fun x y H Q => ∃ p b xs, x = .ref p ∧ y = .int 2 ∧ H p = some (sqO b xs) ∧ xs.length ≤ 1000 ∧ ∀ r H', Same H H' → H' r = some (sqO b (xs ++ xs)) → Q (.ref r) H'
theorem two_flat (xs : List V) : (List.replicate (2 : Int).toNat xs).flatten = xs ++ xs := by
  show [xs, xs].flatten = xs ++ xs
  simp
theorem op_twoB : OpR X (binaryOp .Mult) rTwoB := by
  intro pins s σ H x y v u Q I rx ry h
  obtain ⟨p, b, xs, rfl, rfl, e, hz, q⟩ := h
  have hs := sizeLine_eq
  cases b with
  | true =>
    refine op_rep pins s σ H _ _ v u Q I rx ry ⟨p, 2, xs, rfl, rfl, e, by decide, by decide, by show xs.length * 2 ≤ sizeLine; omega, fun r nr => q r _ (sm_upd nr) ?_⟩
    rw [upd_same, two_flat]
    rfl
  | false =>
    by_cases hx : xs = []
    · subst hx
      exact op_repT0 pins s σ H _ _ v u Q I rx ry ⟨p, 2, rfl, rfl, e, by decide, by decide, q p H (fun _ _ e => e) e⟩
    · refine op_repT pins s σ H _ _ v u Q I rx ry ⟨p, 2, xs, rfl, rfl, SqT.of e, hx, by decide, by decide, hz, fun r nr => q r _ (sm_upd nr) ?_⟩
      rw [upd_same, two_flat]
      rfl
def tRevB (te : TE) : TE := fun σ H Q => te σ H fun x H1 => ∃ p b xs, x = .ref p ∧ H1 p = some (sqO b xs) ∧ ∀ r H', Same H1 H' → H' r = some (sqO b xs.reverse) → Q (.ref r) H'
theorem pe_revB {e : Expr} {i k : Nat} {p1 p2 p3 pos : Pos} (he : PE X e (tVar i)) : PE X (.Subscript e (.Slice none none (some (.UnaryOp .USub (.Constant (.int 1) k p1) p2)) p3) pos) (tRevB (tVar i)) := by
  refine ⟨fun pins s σ H Q I h => ?_⟩
  obtain ⟨x, hx, p, b, xs, rfl, e1, q⟩ := h
  cases b with
  | true => exact (pe_revL he).run pins s σ H Q I ⟨_, hx, p, xs, rfl, SqL.of e1, fun r nr => q r _ (sm_upd nr) upd_same⟩
  | false => exact (pe_revT he).run pins s σ H Q I ⟨_, hx, p, xs, rfl, SqT.of e1, fun r nr => q r _ (sm_upd nr) upd_same⟩
end
end Lf

namespace Lf
open PySem PySem.Spec PyProof.Rows L2
/-! ### the text of what is bent stays short -/
theorem repr_pow {n L : Nat} (h : (Nat.repr n).length ≤ L) : n < 10 ^ L := by
  by_cases h0 : L = 0
  · subst h0
    have h1 : (Nat.repr n).length ≤ 1 := by omega
    have := (Nat.length_repr_le_iff (n := n) (k := 1) (by decide)).mp h1
    have h2 := Nat.length_toDigits_pos (b := 10) (n := n)
    rw [← Nat.toList_repr, String.length_toList] at h2
    omega
  · exact (Nat.length_repr_le_iff (by omega)).mp h
theorem int_pow {i : Int} {L : Nat} (h : (toString i).length ≤ L) : i.natAbs < 10 ^ L := by
  cases i with
  | ofNat m => exact repr_pow h
  | negSucc m =>
    have e : toString (Int.negSucc m) = "-" ++ Nat.repr (m + 1) := rfl
    rw [e, String.length_append] at h
    exact repr_pow (show (Nat.repr (m + 1)).length ≤ L by omega)
theorem pow_log {x L : Nat} (h : x < 10 ^ L) (l : L ≤ 565) : x.log2 < 1900 := by
  by_cases h0 : x = 0
  · subst h0
    decide
  · refine (Nat.log2_lt h0).mpr (Nat.lt_of_lt_of_le h ?_)
    exact Nat.le_trans (Nat.pow_le_pow_right (by decide) l) (by decide +kernel)
/-- a whole number near i, or twice it -/
theorem near_len {i j : Int} {s : Nat} (h : (PyData.int i).shown.length ≤ s) (l : s ≤ 560) (n : j.natAbs ≤ 2 * i.natAbs + 1) : ShN 0 (s + 3) (.int j) := by
  have h1 : (toString i).length ≤ s := by
    rw [← PySem.ofString_length]
    exact h
  have h2 := int_pow h1
  have h3 : j.natAbs < 10 ^ (s + 1) := by
    rw [Nat.pow_succ]
    omega
  have h4 := pow_log h3 (by omega)
  have h5 := int_text_length_le10 (a := j) (k := s + 1) (by omega) h3
  refine ⟨by simpa [PyData.showable] using (show j.natAbs.log2 < 1920 by omega), Nat.le_refl _, ?_⟩
  show (Str.ofString (toString j)).length ≤ _
  rw [PySem.ofString_length]
  omega
theorem str_len {i : Int} {s : Nat} (h : (PyData.int i).shown.length ≤ s) (l : s ≤ 560) : i.natAbs.log2 < 1900 := by
  refine pow_log (L := s) (int_pow ?_) (by omega)
  rw [← PySem.ofString_length]
  exact h
end Lf
namespace Lf
section
open PySem PySem.Spec PyProof.Rows L2 Builtin Builtin.Str

/-! ### the text of the text of a whole number -/
def dgt (c : Nat) : Bool := decide (c = 45) || (decide (48 ≤ c) && decide (c ≤ 57))
theorem dgt_in {c : Nat} (h : dgt c = true) : c ∈ [45, 48, 49, 50, 51, 52, 53, 54, 55, 56, 57] := by
  unfold dgt at h
  rcases Bool.or_eq_true _ _ ▸ h with h | h
  · rw [of_decide_eq_true h]
    decide
  · have h := Bool.and_eq_true _ _ ▸ h
    have h1 := of_decide_eq_true h.1
    have h2 := of_decide_eq_true h.2
    simp only [List.mem_cons, List.not_mem_nil, or_false]
    omega
theorem dgt_one {q c : Nat} (hq : q = 39 ∨ q = 34) (h : dgt c = true) : (Builtin.Str.reprChar q c).length = 1 := by
  have h := dgt_in h
  simp only [List.mem_cons, List.not_mem_nil, or_false] at h
  rcases hq with rfl | rfl <;> rcases h with rfl | rfl | rfl | rfl | rfl | rfl | rfl | rfl | rfl | rfl | rfl <;> decide +kernel
theorem dgt_fold {q : Nat} (hq : q = 39 ∨ q = 34) : ∀ (l : List Nat) (n : Nat), (∀ c ∈ l, dgt c = true) → l.foldl (fun n c => n + (Builtin.Str.reprChar q c).length) n = n + l.length
  | [], n, _ => rfl
  | c :: r, n, h => by
    rw [List.foldl_cons, dgt_one hq (h c List.mem_cons_self), dgt_fold hq r _ fun d hd => h d (List.mem_cons_of_mem _ hd), List.length_cons]
    omega
theorem quote_two (x : Str) : reprQuote x = 39 ∨ reprQuote x = 34 := by
  unfold reprQuote
  split
  · exact .inr rfl
  · exact .inl rfl
theorem dgt_repr {x : Str} (h : ∀ c ∈ x.cps.toList, dgt c = true) : (reprText x).length = x.length + 2 := by
  rw [← reprLen_eq, ← Array.foldl_toList, dgt_fold (quote_two x) _ _ h]
  show 2 + x.cps.toList.length = x.cps.size + 2
  rw [Array.length_toList]
  omega
theorem str_mem {s : String} {c : Nat} (h : c ∈ (Str.ofString s).cps.toList) : ∃ d ∈ s.toList, d.toNat = c := by
  rw [Str.ofString_eq_toList] at h
  exact List.mem_map.mp h
theorem nat_dgt {m : Nat} {d : Char} (h : d ∈ (Nat.repr m).toList) : dgt d.toNat = true := by
  rw [Nat.toList_repr] at h
  have h1 := Nat.isDigit_of_mem_toDigits (by decide) (by decide) h
  unfold Char.isDigit at h1
  have h1 := Bool.and_eq_true _ _ ▸ h1
  have a1 : 48 ≤ d.toNat := of_decide_eq_true h1.1
  have a2 : d.toNat ≤ 57 := of_decide_eq_true h1.2
  unfold dgt
  rw [decide_eq_true a1, decide_eq_true a2]
  simp
theorem int_dgt {i : Int} {c : Nat} (h : c ∈ (Str.ofString (toString i)).cps.toList) : dgt c = true := by
  obtain ⟨d, hd, rfl⟩ := str_mem h
  cases i with
  | ofNat m => exact nat_dgt (m := m) hd
  | negSucc m =>
    have e : toString (Int.negSucc m) = "-" ++ Nat.repr (m + 1) := rfl
    rw [e, String.toList_append] at hd
    rcases List.mem_append.mp hd with h | h
    · have : d = '-' := by simpa using h
      rw [this]
      decide
    · exact nat_dgt h
/-- what str gives of a whole number, as a datum -/
theorem str_sh {i : Int} {s : Nat} (h : (PyData.int i).shown.length ≤ s) : ShN 0 (s + 2) (.str (Str.ofString (toString i))) := by
  have h1 : (reprText (Str.ofString (toString i))).length = (Str.ofString (toString i)).length + 2 := dgt_repr fun c hc => int_dgt hc
  have h2 : (Str.ofString (toString i)).length ≤ s := h
  refine ⟨rfl, Nat.le_refl _, ?_⟩
  show (reprText (Str.ofString (toString i))).length ≤ s + 2
  omega
end
end Lf
namespace Lf
open PySem PySem.Spec PyProof.Rows L2
def plp (ps : List (V × PyData)) : Nat := (ps.map fun p => p.2.shown.length + 2).sum
def Sq5 (n s : Nat) (H : Hp) (xs : List V) : Prop := ∃ ps : List (V × PyData), xs = ps.map Prod.fst ∧ (∀ p ∈ ps, DvF H p.1 p.2 ∧ p.2.showable = true ∧ p.2.depth ≤ n) ∧ plp ps ≤ s
section
variable {H H' : Hp} {n s t m : Nat} {xs ys : List V} {x : V}
theorem plp_app (ps qs : List (V × PyData)) : plp (ps ++ qs) = plp ps + plp qs := by
  unfold plp
  rw [List.map_append, List.sum_append_nat]
theorem plp_take (ps : List (V × PyData)) (j : Nat) : plp (ps.take j) ≤ plp ps := by
  have := plp_app (ps.take j) (ps.drop j)
  rw [List.take_append_drop] at this
  omega
theorem plp_drop (ps : List (V × PyData)) (j : Nat) : plp (ps.drop j) ≤ plp ps := by
  have := plp_app (ps.take j) (ps.drop j)
  rw [List.take_append_drop] at this
  omega
theorem plp_rev : ∀ ps : List (V × PyData), plp ps.reverse = plp ps
  | [] => rfl
  | p :: r => by
    rw [List.reverse_cons, plp_app, plp_rev r]
    show plp r + (_ + 0) = _ + plp r
    omega
theorem Sq5.kp (h : Sq5 n s H xs) (k : Kp H H') : Sq5 n s H' xs := let ⟨ps, a, b, c⟩ := h; ⟨ps, a, fun p hp => ⟨DvF.kp k _ _ (b p hp).1, (b p hp).2⟩, c⟩
theorem Sq5.mono (h : Sq5 n s H xs) (a : n ≤ m) (b : s ≤ t) : Sq5 m t H xs := let ⟨ps, e, f, c⟩ := h; ⟨ps, e, fun p hp => ⟨(f p hp).1, (f p hp).2.1, Nat.le_trans (f p hp).2.2 a⟩, Nat.le_trans c b⟩
theorem Sq5.take (h : Sq5 n s H xs) (j : Nat) : Sq5 n s H (xs.take j) := let ⟨ps, e, f, c⟩ := h; ⟨ps.take j, by rw [e, List.map_take], fun p hp => f p (List.mem_of_mem_take hp), Nat.le_trans (plp_take ps j) c⟩
theorem Sq5.drop (h : Sq5 n s H xs) (j : Nat) : Sq5 n s H (xs.drop j) := let ⟨ps, e, f, c⟩ := h; ⟨ps.drop j, by rw [e, List.map_drop], fun p hp => f p (List.mem_of_mem_drop hp), Nat.le_trans (plp_drop ps j) c⟩
theorem Sq5.cut (h : Sq5 n s H xs) (lo hi : Option Int) : Sq5 n s H (cutV xs lo hi) := by
  unfold cutV
  exact (h.drop _).take _
theorem Sq5.rev (h : Sq5 n s H xs) : Sq5 n s H xs.reverse := let ⟨ps, e, f, c⟩ := h; ⟨ps.reverse, by rw [e, List.map_reverse], fun p hp => f p (List.mem_reverse.mp hp), by rw [plp_rev]; exact c⟩
theorem Sq5.app (h : Sq5 n s H xs) (g : Sq5 n t H ys) : Sq5 n (s + t) H (xs ++ ys) := by
  obtain ⟨ps, e, f, c⟩ := h
  obtain ⟨qs, e2, f2, c2⟩ := g
  refine ⟨ps ++ qs, by rw [e, e2, List.map_append], fun p hp => (List.mem_append.mp hp).elim (f p) (f2 p), ?_⟩
  rw [plp_app]
  omega
theorem Sq5.nil : Sq5 n s H [] := ⟨[], rfl, fun _ z => (nomatch z), Nat.zero_le _⟩
theorem Sq5.one (h : AnyV n s H x) : Sq5 n (s + 2) H [x] := by
  obtain ⟨d, a, b⟩ := h
  refine ⟨[(x, d)], rfl, fun p hp => ?_, ?_⟩
  · rw [List.mem_singleton.mp hp]
    exact ⟨a, b.1, b.2.1⟩
  · have := b.2.2
    show d.shown.length + 2 + 0 ≤ s + 2
    omega
theorem Sq5.len (h : Sq5 n s H xs) : 2 * xs.length ≤ s := by
  obtain ⟨ps, rfl, _, c⟩ := h
  have : ∀ l : List (V × PyData), 2 * l.length ≤ plp l := fun l => by
    induction l with
    | nil => exact Nat.zero_le _
    | cons p r ih =>
      show 2 * (r.length + 1) ≤ (p.2.shown.length + 2) + plp r
      omega
  have := this ps
  rw [List.length_map]
  omega
theorem all5 : ∀ {ps : List (V × PyData)}, (∀ p ∈ ps, DvF H p.1 p.2 ∧ p.2.showable = true ∧ p.2.depth ≤ n) → DvFAll H (ps.map Prod.fst) (ps.map Prod.snd) ∧ PyData.showableAll (ps.map Prod.snd) = true ∧ PyData.depthAll (ps.map Prod.snd) ≤ n ∧ piled (PyData.shownAll (ps.map Prod.snd)) = plp ps
  | [], _ => ⟨.nil, rfl, Nat.zero_le _, rfl⟩
  | p :: r, h => by
    obtain ⟨h1, h2, h3, h4⟩ := all5 fun q hq => h q (List.mem_cons_of_mem _ hq)
    obtain ⟨g1, g2, g3⟩ := h p List.mem_cons_self
    refine ⟨.cons g1 h1, ?_, ?_, ?_⟩
    · simp [PyData.showableAll, g2, h2]
    · simp only [List.map_cons, PyData.depthAll]
      omega
    · rw [List.map_cons]
      show piled (p.2.shown :: PyData.shownAll (r.map Prod.snd)) = _
      rw [piled_cons, h4]
      rfl
theorem sum_piled (ts : List Str) : (ts.map (·.length)).sum + 2 * ts.length = piled ts := by
  induction ts with
  | nil => rfl
  | cons t r ih =>
    rw [piled_cons, List.map_cons, List.sum_cons, List.length_cons]
    omega
theorem sq5_any {A : Addr} {b : Bool} (e : H A = some (sqO b xs)) (h : Sq5 n s H xs) : AnyV (n + 1) (s + 3) H (.ref A) := by
  obtain ⟨ps, rfl, f, c⟩ := h
  obtain ⟨h1, h2, h3, h4⟩ := all5 f
  cases b with
  | true =>
    refine ⟨.list (ps.map Prod.snd), .lst e h1, by simpa [PyData.showable] using h2, by simp only [PyData.depth]; omega, ?_⟩
    have := listText_len_le (PyData.shownAll (ps.map Prod.snd))
    have := sum_piled (PyData.shownAll (ps.map Prod.snd))
    show (listText (PyData.shownAll (ps.map Prod.snd))).length ≤ _
    omega
  | false =>
    refine ⟨.tuple (ps.map Prod.snd), .tup e h1, by simpa [PyData.showable] using h2, by simp only [PyData.depth]; omega, ?_⟩
    have := tupleText_len_le (PyData.shownAll (ps.map Prod.snd))
    have := sum_piled (PyData.shownAll (ps.map Prod.snd))
    show (tupleText (PyData.shownAll (ps.map Prod.snd))).length ≤ _
    omega
theorem zip5 : ∀ {xs : List V} {ds : List PyData}, DvFAll H xs ds → PyData.showableAll ds = true → PyData.depthAll ds ≤ n → ∃ ps : List (V × PyData), xs = ps.map Prod.fst ∧ ds = ps.map Prod.snd ∧ ∀ p ∈ ps, DvF H p.1 p.2 ∧ p.2.showable = true ∧ p.2.depth ≤ n
  | _, _, .nil, _, _ => ⟨[], rfl, rfl, fun _ z => (nomatch z)⟩
  | _, _, .cons (v := v) (d := d) h1 h2, a, b => by
    simp only [PyData.showableAll, Bool.and_eq_true] at a
    simp only [PyData.depthAll] at b
    obtain ⟨ps, rfl, rfl, f⟩ := zip5 h2 a.2 (by omega)
    refine ⟨(v, d) :: ps, rfl, rfl, fun p hp => ?_⟩
    rcases List.mem_cons.mp hp with rfl | hp
    · exact ⟨h1, a.1, by show d.depth ≤ n; omega⟩
    · exact f p hp
theorem any_sq5 {d : PyData} (dv : DvF H x d) (sh : ShN n s d) (hl : isLT d = true) : ∃ (A : Addr) (b : Bool) (xs : List V) (m : Nat), x = .ref A ∧ n = m + 1 ∧ H A = some (sqO b xs) ∧ Sq5 m s H xs ∧ d = sqD b (match d with | .list ds => ds | .tuple ds => ds | _ => []) := by
  obtain ⟨s1, s2, s3⟩ := sh
  cases dv with
  | lst e hs =>
    rename_i A xs ds
    simp only [PyData.showable] at s1
    simp only [PyData.depth] at s2
    obtain ⟨ps, rfl, rfl, f⟩ := zip5 (n := n - 1) hs s1 (by omega)
    have h4 := (all5 f).2.2.2
    have := piled_le_listText (PyData.shownAll (ps.map Prod.snd))
    have s3 : (listText (PyData.shownAll (ps.map Prod.snd))).length ≤ s := s3
    exact ⟨A, true, _, n - 1, rfl, by omega, e, ⟨ps, rfl, f, by omega⟩, rfl⟩
  | tup e hs =>
    rename_i A xs ds
    simp only [PyData.showable] at s1
    simp only [PyData.depth] at s2
    obtain ⟨ps, rfl, rfl, f⟩ := zip5 (n := n - 1) hs s1 (by omega)
    have h4 := (all5 f).2.2.2
    have := piled_le_tupleText (PyData.shownAll (ps.map Prod.snd))
    have s3 : (tupleText (PyData.shownAll (ps.map Prod.snd))).length ≤ s := s3
    exact ⟨A, false, _, n - 1, rfl, by omega, e, ⟨ps, rfl, f, by omega⟩, rfl⟩
  | _ => cases hl
theorem Sq5.split {j : Nat} (h : Sq5 n s H xs) (hx : xs[j]? = some x) : ∃ t u v, AnyV n u H x ∧ Sq5 n t H (xs.take j) ∧ Sq5 n v H (xs.drop (j + 1)) ∧ t + (u + 2) + v ≤ s := by
  obtain ⟨ps, rfl, f, c⟩ := h
  rw [List.getElem?_map] at hx
  obtain ⟨p, hp, rfl⟩ := Option.map_eq_some_iff.mp hx
  have hj := (List.getElem?_eq_some_iff.mp hp).1
  have e : ps = ps.take j ++ (p :: ps.drop (j + 1)) := by
    have : ps[j] = p := (List.getElem?_eq_some_iff.mp hp).2
    rw [← this, List.getElem_cons_drop, List.take_append_drop]
  have hp' := f p (List.mem_of_getElem? hp)
  refine ⟨plp (ps.take j), p.2.shown.length, plp (ps.drop (j + 1)), ⟨p.2, hp'.1, hp'.2.1, hp'.2.2, Nat.le_refl _⟩, ⟨ps.take j, List.map_take.symm, fun q hq => f q (List.mem_of_mem_take hq), Nat.le_refl _⟩, ⟨ps.drop (j + 1), List.map_drop.symm, fun q hq => f q (List.mem_of_mem_drop hq), Nat.le_refl _⟩, ?_⟩
  have c2 := c
  rw [e, plp_app] at c2
  have : plp (p :: ps.drop (j + 1)) = (p.2.shown.length + 2) + plp (ps.drop (j + 1)) := rfl
  omega
end
end Lf
namespace Lf
open PySem PySem.Spec PyProof.Rows L2
theorem pb1b (n k : Nat) : n + 2 + pB 1 ≤ n + 100 * (k + 1) := by
  have : pB 1 ≤ 70 := by decide
  omega
theorem at_get5 {xs : List V} {d : Int} (h0 : 0 ≤ d) (h1 : d < (xs.length : Int)) : ∃ x, atI xs d = some x ∧ xs[d.toNat]? = some x := by
  have hj : d.toNat < xs.length := by omega
  have e : xs[d.toNat]? = some xs[d.toNat] := List.getElem?_eq_getElem hj
  refine ⟨xs[d.toNat], ?_, e⟩
  have := atI_nat (j := d.toNat) e
  rwa [show ((d.toNat : Nat) : Int) = d by omega] at this
theorem cut_drop5 (xs : List V) (m : Int) (h : 0 ≤ m) : cutV xs (some m) none = xs.drop m.toNat := by
  obtain ⟨j, rfl⟩ := Int.eq_ofNat_of_zero_le h
  unfold cutV
  rw [HT.sIx_none, HT.sIx_nat]
  rcases Nat.le_total j xs.length with q | q
  · rw [Nat.min_eq_left q]
    exact List.take_of_length_le (by rw [List.length_drop]; exact Nat.le_refl _)
  · rw [Nat.min_eq_right q, List.drop_of_length_le (Nat.le_refl _)]
    show List.take _ [] = List.drop j xs
    rw [List.drop_of_length_le q, List.take_nil]
theorem fin5 {K : PySem.W.Frag} {Q : VK} {H : Hp} {L : Addr} {its : List V} {g : Int} {n m : Nat} (g0 : 0 ≤ g) (g1 : g < 8) (gn : ¬ decide (V.int g = V.int 0) = true) (e : H L = some (.lst its)) (l7 : its.length = 7) (al : AnyL n m H its) (hQ : ∀ y, AnyV n m H y → Q y H) : rIxL K (.ref L) (.int (g - 1)) H Q := by
  have gz : g ≠ 0 := fun z => gn (decide_eq_true (by rw [z]))
  obtain ⟨y, hy, hm⟩ := at_in9 (xs := its) (d := g - 1) (by omega) (by omega)
  exact ⟨L, its, g - 1, y, rfl, rfl, SqL.of e, hy, hQ y (al y hm)⟩
theorem tup5 {K : PySem.W.Frag} {Q : VK} {H : Hp} {A : Addr} {b : Bool} {xs : List V} (e : H A = some (sqO b xs)) (h : ∀ r H', Same H H' → H' r = some (.tup xs) → Q (.ref r) H') : (SqL K H A xs ∧ ∀ l, H l = none → Q (.ref l) (upd H l (.tup xs))) ∨ (SqT K H A xs ∧ Q (.ref A) H) := by
  cases b with
  | true => exact .inl ⟨SqL.of e, fun l nl => h l _ (sm_upd nl) upd_same⟩
  | false => exact .inr ⟨SqT.of e, h A H (fun _ _ e => e) e⟩
theorem call_tupleB {X : Cx} : CallR X (.type "tuple") (fun xs H Q => ∃ p b ys, xs = [.ref p] ∧ H p = some (sqO b ys) ∧ ∀ r H', Same H H' → H' r = some (.tup ys) → Q (.ref r) H') := by
  intro pins s σ H xs us Q I r h
  obtain ⟨p, b, ys, rfl, e, q⟩ := h
  exact call_tuple_of pins s σ H _ us Q I r ⟨p, ys, rfl, tup5 e q⟩
theorem DvF.ty {K : PySem.W.Frag} {H : Hp} {v : V} {d : PyData} (h : DvF H v d) : TyX K H v (.type (tyN d)) := by
  cases h with
  | non => exact .base .non
  | bl b => exact .base (.bl b)
  | int i => exact .base (.int i)
  | str x => exact .base (.str x)
  | lst h _ => exact .base (.lst h)
  | tup h _ => exact .base (.tup h)
  | dk0 h => exact .base (.dK h)
  | dk1 h _ => exact .base (.dK h)
theorem kit_sq {K : PySem.W.Frag} {b : Bool} {H : Hp} {A : Addr} {xs : List V} (e : H A = some (sqO b xs)) : ∃ t, TyX K H (.ref A) t ∧ PySem.W.kitOne K t (.type "list") = some b := by
  cases b with
  | true => exact ⟨_, .base (.lst e), kit_ty (by decide +kernel)⟩
  | false => exact ⟨_, .base (.tup e), kit_ty (by decide +kernel)⟩
section
variable {P : Program} {w : World} {K : PySem.W.Frag} {mg : Str → Option Value} {base : Heap}
/-- the bound of the text of what is bent of s signs at depth k -/
def gB (k s : Nat) : Nat := s + max s 240 + 10 + 3 * k
def spBent : Nat → Sp
  | 0 => fun _ _ _ _ => False
  | k + 1 => fun vs H Q _ => ∃ (a : PA) (n s j : Nat) (x : V), vs = [.ref a, x] ∧ Pen H a n ∧ n + 200 * (j + 1) < 2 ^ 36 ∧ AnyV j s H x ∧ s ≤ 560 ∧ j ≤ k ∧ j ≤ 20 ∧ ∀ y H', AnyV (j + 5) (gB j s) H' y → Pen H' a (n + 100 * (j + 1)) → Fr H H' → Q y H'
abbrev s_l_bent : Stmt := topS 29
abbrev N_l_bent : List Str := ["_law_pen_here", "_law_thing", "_law_at", "_law_part", "_law_turn", "_law_rows"]
abbrev P_l_bent : List Str := ["_law_pen_here", "_law_thing"]
theorem sc_l_bent : FnScope N_l_bent P_l_bent (defScope s_l_bent) := ⟨rfl, rfl, rfl, by decide +kernel, rfl, by decide +kernel, by decide +kernel⟩
theorem bent_step (k0 : Nat) (D : Df K mg "_law_bent" s_l_bent P_l_bent) (B : Bi mg) (c_l_draw : C8.Cal P w K mg base 1 "_law_draw" spDraw []) (c_l_anything : C8.Cal P w K mg base 3 "_law_anything" (spAnyS 2) []) (c_l_bent : C8.Cal P w K mg base (k0 + 3) "_law_bent" (spBent k0) []) : C8.Cal P w K mg base (k0 + 4) "_law_bent" (spBent (k0 + 1)) [] := by
  refine cal_of D sc_l_bent (fun vs H Q E h => ?_) (fun f cdv A outer s0 H vs Q E hr h => ?_)
  · obtain ⟨a, n, s, k, x, rfl, _⟩ := h
    rfl
  · obtain ⟨a, n, s, k, x, rfl, hP, hn, ax, hs, kk0, k20, kk⟩ := h
    obtain ⟨d, dv, sh⟩ := ax
    refine ⟨_, (C8.pss_cut (ps_if (PW.pt (pw_and (pt_val (pe_callB (call_isiT) (by rfl) B.isinstance_ bt_isinstance (pa_cons (pv 1) (pa_cons (pe_tup (pa_cons (pe_bltn (v := .ty "list") (by rfl) B.list_ bt_list rfl) (pa_cons (pe_bltn (v := .ty "tuple") (by rfl) B.tuple_ bt_tuple rfl) pa_nil))) pa_nil)))) (pw_and (pt_cmpR op_gt (pe_callB (call_len_seq) (by rfl) B.len_ bt_len (pa_cons (pv 1) pa_nil)) pe_int (nomark _)) (pw_and1 (pt_cmpR op_gt (C8.pe_c c_l_draw hr (by omega) (by rfl) (pa_cons (pv 0) (pa_cons pe_int pa_nil))) pe_int (nomark _))))))
      (pss_cons (ps_set (i := 2) sc_l_bent.nd rfl (Or.inl rfl) (C8.pe_c c_l_draw hr (by omega) (by rfl) (pa_cons (pv 0) (pa_cons (pe_callB (call_len_seq) (by rfl) B.len_ bt_len (pa_cons (pv 1) pa_nil)) pa_nil))))
    (C8.pss_cut (ps_set (i := 3) sc_l_bent.nd rfl (Or.inl rfl) (pe_ifExp (pt_val (pe_callB (call_isi) (by rfl) B.isinstance_ bt_isinstance (pa_cons (pv 1) (pa_cons (pe_bltn (v := .ty "list") (by rfl) B.list_ bt_list rfl) pa_nil)))) (pe_lst (pa_cons (C8.pe_c c_l_bent hr (by omega) (by rfl) (pa_cons (pv 0) (pa_cons (pe_ix (r := rIxB K) ix_B (pv 1) (pv 2) (fun _ _ => rfl)) pa_nil))) pa_nil)) (pe_tup (pa_cons (C8.pe_c c_l_bent hr (by omega) (by rfl) (pa_cons (pv 0) (pa_cons (pe_ix (r := rIxB K) ix_B (pv 1) (pv 2) (fun _ _ => rfl)) pa_nil))) pa_nil))))
    (pss_one (ps_ret (pe_op op_catB (pe_op op_catB (pe_slice sl_B (pv 1) po_none (po_some (pv 2))) (pv 3)) (pe_slice sl_B (pv 1) (po_some (pe_op op_add (pv 2) pe_int)) po_none))))))
      pss_nil)
    (pss_cons (ps_set (i := 4) sc_l_bent.nd rfl (Or.inl rfl) (C8.pe_c c_l_draw hr (by omega) (by rfl) (pa_cons (pv 0) (pa_cons pe_int pa_nil))))
    (pss_cons (ps_if (pt_cmpR op_eq (pv 4) pe_int (nomark _))
      (pss_one (ps_ret (C8.pe_c c_l_anything hr (by omega) (by rfl) (pa_cons (pv 0) (pa_cons pe_int pa_nil)))))
      pss_nil)
    (pss_cons (ps_if (pt_val (pe_callB (call_isi) (by rfl) B.isinstance_ bt_isinstance (pa_cons (pv 1) (pa_cons (pe_bltn (v := .ty "int") (by rfl) B.int_ bt_int rfl) pa_nil))))
      (pss_one (ps_ret (pe_ix (r := rIxL K) ix_list (pe_lst (pa_cons (pe_op op_addN (pv 1) pe_int) (pa_cons (pe_op op_subN (pv 1) pe_int) (pa_cons (pe_op op_subN pe_int (pv 1)) (pa_cons pe_int (pa_cons (pe_cmpR op_eqN (pv 1) pe_int (nomark _)) (pa_cons (pe_callTy (call_strN) (by rfl) B.str_ bt_str (pa_cons (pv 1) pa_nil)) (pa_cons (pe_op op_mulN pe_int (pv 1)) pa_nil)))))))) (pe_op op_sub (pv 4) pe_int) (fun _ _ => rfl))))
      pss_nil)
    (pss_cons (ps_if (pt_val (pe_callB (call_isiT) (by rfl) B.isinstance_ bt_isinstance (pa_cons (pv 1) (pa_cons (pe_tup (pa_cons (pe_bltn (v := .ty "list") (by rfl) B.list_ bt_list rfl) (pa_cons (pe_bltn (v := .ty "tuple") (by rfl) B.tuple_ bt_tuple rfl) pa_nil))) pa_nil))))
      (pss_cons (ps_set (i := 5) sc_l_bent.nd rfl (Or.inl rfl) (pe_lst (pa_cons (pe_slice sl_B (pv 1) (po_some pe_int) po_none) (pa_cons (pe_slice sl_B (pv 1) po_none (po_some (pe_un un_neg pe_int))) (pa_cons (pe_op op_catB (pv 1) (pe_slice sl_B (pv 1) (po_some (pe_un un_neg pe_int)) po_none)) (pa_cons (pe_revB (pv 1)) (pa_cons (pe_callTy (call_list_of) (by rfl) B.list_ bt_list (pa_cons (pv 1) pa_nil)) (pa_cons (pe_callTy (call_tupleB) (by rfl) B.tuple_ bt_tuple (pa_cons (pv 1) pa_nil)) (pa_cons (pe_op op_twoB (pv 1) pe_int) pa_nil)))))))))
    (pss_one (ps_ret (pe_ix (r := rIxL K) ix_list (pv 5) (pe_op op_sub (pv 4) pe_int) (fun _ _ => rfl)))))
      pss_nil)
    (pss_one (ps_ret (pe_ix (r := rIxL K) ix_list (pe_lst (pa_cons pe_non (pa_cons pe_str (pa_cons pe_int (pa_cons pe_int (pa_cons (pe_tup pa_nil) (pa_cons (pe_lst pa_nil) (pa_cons pe_str pa_nil)))))))) (pe_op op_sub (pv 4) pe_int) (fun _ _ => rfl))))))))), ?_⟩
    refine ⟨fun σ' H' => σ' = [some (.ref a), some x, none, none, none, none] ∧ Pen H' a (n + 1) ∧ Fr H H', ?_, ?_⟩
    · refine ⟨_, rfl, len10 (by simp), fun tp ntp => ?_⟩
      have zt := sm_upd (o := .tup [.ty "list", .ty "tuple"]) ntp
      have hP1 := hP.same zt
      have dv1 := DvF.kp (Fr.same zt).kp _ _ dv
      refine ⟨x, tp, _, _, [.type "list", .type "tuple"], isLT d, rfl, upd_same, .cons (.ty "list") (.cons (.ty "tuple") .nil), dv1.ty, kit_ltD d, isLT d, rfl, ?_⟩
      generalize upd H tp (.tup [.ty "list", .ty "tuple"]) = H1 at zt hP1 dv1 ⊢
      cases hl : isLT d with
      | false => exact iteFs rfl (iteFs rfl ⟨rfl, hP1.mono (by omega), Fr.same zt⟩)
      | true =>
        obtain ⟨A, b, xs, m, rfl, rfl, eA, sq, _⟩ := any_sq5 dv1 sh hl
        obtain ⟨k1, rfl⟩ : ∃ k1, k0 = k1 + 1 := ⟨k0 - 1, by omega⟩
        refine iteTs rfl ⟨_, rfl, A, xs, rfl, (SqB.of eA).or, _, _, rfl, rfl, _, rfl, ite2 (fun c0 => ?_) (fun c0 => iteFs rfl ⟨rfl, hP1.mono (by omega), Fr.same zt⟩)⟩
        refine ⟨_, rfl, a, n, 6, rfl, hP1, by omega, by decide, Bd.small 20 (by decide) (by decide), fun g H2 g0 g1 hP2 f2 => ⟨_, _, rfl, rfl, _, rfl, ite2 (fun c1 => ?_) (fun c1 => ⟨rfl, hP2, (Fr.same zt).trans f2⟩)⟩⟩
        have f02 := (Fr.same zt).trans f2
        have eA2 := sq_kp f2.kp eA
        have sq2 := sq.kp f2.kp
        have lx := sq.len
        have c0 := of_decide_eq_true c0
        refine ⟨_, rfl, _, rfl, A, xs, rfl, (SqB.of eA2).or, a, _, _, rfl, hP2, by omega, by omega, Bd.small 20 (by omega) (by decide), fun j H3 j0 j1 hP3 f3 => ?_⟩
        have f03 := f02.trans f3
        have eA3 := sq_kp f3.kp eA2
        have sq3 := sq2.kp f3.kp
        obtain ⟨y, hy, hy2⟩ := at_get5 j0 j1
        obtain ⟨t, u, v, ay, st, sv, hsum⟩ := sq3.split hy2
        clear eA2 sq2 eA sq f2 f02 hP1 zt
        refine ⟨fun σ' H' => ∃ (L : Addr) (z : V), σ' = [some (.ref a), some (.ref A), some (.int j), some (.ref L), none, none] ∧ H' L = some (sqO b [z]) ∧ AnyV (m + 5) (gB m u) H' z ∧ Pen H' a (n + 2 + 100 * (m + 1)) ∧ Fr H3 H', ?_, ?_⟩
        · obtain ⟨ty, h1, h2⟩ := kit_sq (K := K) eA3
          refine ⟨_, rfl, _, _, _, _, b, rfl, .ty "list", h1, h2, b, rfl, ?_⟩
          cases b with
          | true =>
            refine iteTs rfl ⟨_, rfl, _, rfl, _, rfl, A, true, xs, j, y, rfl, rfl, SqB.of eA3, hy, a, n + 2, u, m, y, rfl, hP3, by omega, ay, by omega, by omega, by omega, fun z H4 az hP4 f4 => ⟨len10 (by simp), fun L nL => ?_⟩⟩
            have zL := sm_upd (o := .lst [z]) nL
            exact ⟨L, z, rfl, upd_same, az.kp (Fr.same zL).kp, hP4.same zL, f4.trans (Fr.same zL)⟩
          | false =>
            refine iteFs rfl ⟨_, rfl, _, rfl, _, rfl, A, false, xs, j, y, rfl, rfl, SqB.of eA3, hy, a, n + 2, u, m, y, rfl, hP3, by omega, ay, by omega, by omega, by omega, fun z H4 az hP4 f4 => ⟨len10 (by simp), fun L nL => ?_⟩⟩
            have zL := sm_upd (o := .tup [z]) nL
            exact ⟨L, z, rfl, upd_same, az.kp (Fr.same zL).kp, hP4.same zL, f4.trans (Fr.same zL)⟩
        · rintro σ' H4 ⟨L, z, rfl, eL, az, hP4, f4⟩
          have k4 := f4.kp
          refine ⟨_, rfl, _, rfl, j, rfl, A, b, xs, rfl, sq_kp k4 eA3, fun r1 H5 s5 e5 => ?_⟩
          refine ⟨_, rfl, r1, L, b, _, _, rfl, rfl, e5, sq_kp (Fr.same s5).kp eL, len10 (by have := cutV_length xs none (some j); show _ + 1 ≤ 1000; omega), fun r2 H6 s6 e6 => ?_⟩
          refine ⟨_, rfl, _, rfl, _, _, rfl, rfl, _, rfl, A, b, xs, rfl, sq_kp (f4.trans (Fr.same (s5.trans s6))).kp eA3, fun r3 H7 s7 e7 => ?_⟩
          refine ⟨r2, r3, b, _, _, rfl, rfl, sq_kp (Fr.same s7).kp e6, e7, len10 (by have := cutV_length xs none (some j); have := cutV_length xs (some (j + 1)) none; rw [List.length_append]; show _ + 1 + _ ≤ 1000; omega), fun r4 H8 s8 e8 => ?_⟩
          have s48 := s5.trans (s6.trans (s7.trans s8))
          refine kk _ _ ?_ ((hP4.same s48).mono (by omega)) (f03.trans (f4.trans (Fr.same s48)))
          rw [cut_take _ _ j0, cut_drop5 _ _ (by omega), show (j + 1).toNat = j.toNat + 1 by omega] at e8
          have k8 := (f4.trans (Fr.same s48)).kp
          refine (sq5_any e8 ((((st.kp k8).mono (by omega : m ≤ m + 5) (Nat.le_refl _)).app (.one (az.kp (Fr.same s48).kp))).app ((sv.kp k8).mono (by omega) (Nat.le_refl _)))).mono (by omega) ?_
          unfold gB
          omega
    rintro σ' H1 ⟨rfl, hP1, f1⟩
    have dv1 := DvF.kp f1.kp _ _ dv
    refine ⟨_, rfl, a, _, 8, rfl, hP1, by omega, by decide, Bd.small 20 (by decide) (by decide), fun g H2 g0 g1 hP2 f2 => ?_⟩
    have f02 := f1.trans f2
    have dv2 := DvF.kp f2.kp _ _ dv1
    clear dv1 hP1 f1 f2
    have hg : 250 ≤ gB k s ∧ 2 * s + 10 ≤ gB k s := by
      unfold gB
      omega
    refine ⟨_, rfl, rfl, _, rfl, ite2 (fun c0 => ?_) (fun c0 => ?_)⟩
    · refine ⟨_, rfl, a, n + 2, rfl, hP2, by show n + 2 + 10000 * 1 < 2 ^ 37; omega, by decide, fun y H3 ay hP3 f3 => ?_⟩
      have hP3 : Pen H3 a (n + 2 + pB 1) := hP3
      exact kk y H3 ((ay.kp nw_kp).mono (show 5 ≤ k + 5 by omega) (Nat.le_trans (by decide) hg.1)) (hP3.mono (pb1b n k)) (f02.trans f3)
    have gk : ∀ (y : V) (H3 : Hp), AnyV (k + 5) (gB k s) H3 y → Same H2 H3 → Q y H3 := fun y H3 ay s3 => kk y H3 ay ((hP2.same s3).mono (by omega)) (f02.trans (Fr.same s3))
    -- a whole number, a truth
    refine ⟨_, rfl, _, _, _, _, isIB d, rfl, .ty "int", dv2.ty, kit_ty (kit_int d), isIB d, rfl, ?_⟩
    cases hi : isIB d with
    | true =>
      obtain ⟨i, nm, ni⟩ : ∃ i, Nm x i ∧ ((x = .int i ∧ d = .int i) ∨ ∃ b, x = .bl b ∧ (i = 0 ∨ i = 1)) := by
        cases dv2 with
        | int i => exact ⟨i, .int i, .inl ⟨rfl, rfl⟩⟩
        | bl b => exact ⟨_, .bl b, .inr ⟨b, rfl, by cases b <;> simp⟩⟩
        | _ => cases hi
      have al : ∀ {z : Str} {H3 : Hp}, ShN 0 (s + 60) (.str z) → AnyL (k + 5) (gB k s) H3 [.int (i + 1), .int (i - 1), .int (0 - i), .int 0, .bl (i == 1), .str z, .int (2 * i)] := by
        intro z H3 hz y hy
        have nr : ∀ j : Int, j.natAbs ≤ 2 * i.natAbs + 1 → AnyV (k + 5) (gB k s) H3 (.int j) := fun j hj => by
          rcases ni with ⟨rfl, rfl⟩ | ⟨b, rfl, hb⟩
          · exact ⟨_, .int j, (near_len sh.2.2 hs hj).mono (by omega) (by omega)⟩
          · refine ⟨_, .int j, (near_len (i := 1) (s := 1) (by decide +kernel) (by decide) ?_).mono (by omega) (by omega)⟩
            rcases hb with rfl | rfl <;> omega
        simp only [List.mem_cons, List.not_mem_nil, or_false] at hy
        rcases hy with rfl | rfl | rfl | rfl | rfl | rfl | rfl
        · exact nr _ (by omega)
        · exact nr _ (by omega)
        · exact nr _ (by omega)
        · exact nr _ (by omega)
        · exact ⟨_, .bl _, (show ShN 0 60 (.bool (i == 1)) by cases (i == 1) <;> exact ⟨rfl, by decide +kernel, by decide +kernel⟩).mono (by omega) (by omega)⟩
        · exact ⟨_, .str z, hz.mono (by omega) (by omega)⟩
        · exact nr _ (by omega)
      refine iteTs rfl ⟨_, rfl, i, 1, nm, rfl, _, rfl, i, 1, .inl ⟨nm, rfl⟩, _, rfl, 0, i, .inr ⟨rfl, nm⟩, _, rfl, i, 1, nm, rfl, _, rfl, x, rfl, ?_⟩
      rcases ni with ⟨rfl, rfl⟩ | ⟨b, rfl, hb⟩
      · refine .inl ⟨i, rfl, by have := str_len sh.2.2 hs; omega, ?_⟩
        refine ⟨_, rfl, 2, i, rfl, nm, .inl ⟨by decide, by decide⟩, len10 (by simp), fun L nL => ?_⟩
        exact ⟨_, rfl, _, _, rfl, rfl, fin5 g0 g1 c0 upd_same rfl (al ((str_sh sh.2.2).mono (Nat.le_refl _) (by omega))) fun y ay => gk y _ ay (sm_upd nL)⟩
      · refine .inr ⟨b, rfl, ?_⟩
        refine ⟨_, rfl, 2, i, rfl, nm, .inl ⟨by decide, by decide⟩, len10 (by simp), fun L nL => ?_⟩
        exact ⟨_, rfl, _, _, rfl, rfl, fin5 g0 g1 c0 upd_same rfl (al ((show ShN 0 60 (.str (if b = true then "True" else "False")) by cases b <;> exact ⟨rfl, by decide +kernel, by decide +kernel⟩).mono (Nat.le_refl _) (by omega))) fun y ay => gk y _ ay (sm_upd nL)⟩
    | false =>
      refine iteFs rfl ?_
      refine ⟨_, rfl, len10 (by simp), fun tp ntp => ?_⟩
      have zt := sm_upd (o := .tup [.ty "list", .ty "tuple"]) ntp
      have dv3 := DvF.kp (Fr.same zt).kp _ _ dv2
      refine ⟨x, tp, _, _, [.type "list", .type "tuple"], isLT d, rfl, upd_same, .cons (.ty "list") (.cons (.ty "tuple") .nil), dv3.ty, kit_ltD d, isLT d, rfl, ?_⟩
      have gk : ∀ (y : V) (H3 : Hp), AnyV (k + 5) (gB k s) H3 y → Same (upd H2 tp (.tup [.ty "list", .ty "tuple"])) H3 → Q y H3 := fun y H3 ay s3 => gk y H3 ay (zt.trans s3)
      generalize upd H2 tp (.tup [.ty "list", .ty "tuple"]) = H3 at dv3 gk ⊢
      cases hl : isLT d with
      | false =>
        refine iteFs rfl ⟨len10 (by simp), fun t1 n1 => ?_⟩
        have z1 := sm_upd (o := .tup []) n1
        refine ⟨len10 (by simp), fun t2 n2 => ?_⟩
        have z2 := sm_upd (o := .lst []) n2
        refine ⟨len10 (by simp), fun L nL => ?_⟩
        have z3 := sm_upd (o := .lst [.non, .str "a", .int 0, .int 1, .ref t1, .ref t2, .str "windows"]) nL
        refine ⟨_, rfl, _, _, rfl, rfl, fin5 (n := k + 5) (m := gB k s) g0 g1 c0 upd_same rfl ?_ fun y ay => gk y _ ay (z1.trans (z2.trans z3))⟩
        have mk : ∀ {Hx : Hp} {x : V} {d : PyData}, DvF Hx x d → (d.showable && (decide (d.depth ≤ 3) && decide (d.shown.length ≤ 60))) = true → AnyV (k + 5) (gB k s) Hx x := fun a b => (any_by a b).mono (by omega) (by omega)
        intro y hy
        simp only [List.mem_cons, List.not_mem_nil, or_false] at hy
        rcases hy with rfl | rfl | rfl | rfl | rfl | rfl | rfl
        · exact mk .non (by decide +kernel)
        · exact mk (.str _) (by decide +kernel)
        · exact mk (.int _) (by decide +kernel)
        · exact mk (.int _) (by decide +kernel)
        · exact mk (.tup (z3 _ _ (z2 _ _ upd_same)) .nil) (by decide +kernel)
        · exact mk (.lst (z3 _ _ upd_same) .nil) (by decide +kernel)
        · exact mk (.str _) (by decide +kernel)
      | true =>
        obtain ⟨A, b, xs, m, rfl, rfl, eA, sq, _⟩ := any_sq5 dv3 sh hl
        have lx := sq.len
        refine iteTs rfl ⟨_, rfl, _, rfl, A, b, xs, rfl, eA, fun r1 H4 s4 e1 => ?_⟩
        refine ⟨_, rfl, 1, rfl, _, rfl, A, b, xs, rfl, sq_kp (Fr.same s4).kp eA, fun r2 H5 s5 e2 => ?_⟩
        have s35 := s4.trans s5
        refine ⟨_, rfl, _, rfl, 1, rfl, _, rfl, A, b, xs, rfl, sq_kp (Fr.same s35).kp eA, fun r0 H6 s6 e0 => ?_⟩
        have s36 := s35.trans s6
        refine ⟨A, r0, b, xs, _, rfl, rfl, sq_kp (Fr.same s36).kp eA, e0, len10 (by have := cutV_length xs (some (-1)) none; omega), fun r3 H7 s7 e3 => ?_⟩
        have s37 := s36.trans s7
        refine ⟨_, rfl, A, b, xs, rfl, sq_kp (Fr.same s37).kp eA, fun r4 H8 s8 e4 => ?_⟩
        have s38 := s37.trans s8
        refine ⟨_, rfl, A, xs, rfl, (SqB.of (sq_kp (Fr.same s38).kp eA)).or, fun r5 n5 => ?_⟩
        have z5 := sm_upd (o := .lst xs) n5
        have s39 := s38.trans z5
        refine ⟨_, rfl, A, b, xs, rfl, sq_kp (Fr.same s39).kp eA, fun r6 H10 s10 e6 => ?_⟩
        have s310 := s39.trans s10
        refine ⟨_, rfl, A, b, xs, rfl, rfl, sq_kp (Fr.same s310).kp eA, by omega, fun r7 H11 s11 e7 => ?_⟩
        refine ⟨len10 (by simp), fun L nL => ?_⟩
        have zL := sm_upd (o := .lst [.ref r1, .ref r2, .ref r3, .ref r4, .ref r5, .ref r6, .ref r7]) nL
        have t11 := s11.trans zL
        have t10 := s10.trans t11
        have t8 := z5.trans t10
        have t7 := s8.trans t8
        have t6 := s7.trans t7
        have t5 := s6.trans t6
        have t4 := s5.trans t5
        have kp0 := (Fr.same (s4.trans t4)).kp
        have sqL := sq.kp kp0
        refine ⟨_, rfl, _, rfl, _, _, rfl, rfl, fin5 (n := m + 1 + 5) (m := gB (m + 1) s) g0 g1 c0 upd_same rfl ?_ fun y ay => gk y _ ay (s4.trans t4)⟩
        have one : ∀ {r : Addr} {ys : List V} {b' : Bool} {u : Nat}, upd H11 L (.lst [.ref r1, .ref r2, .ref r3, .ref r4, .ref r5, .ref r6, .ref r7]) r = some (sqO b' ys) → Sq5 m u (upd H11 L (.lst [.ref r1, .ref r2, .ref r3, .ref r4, .ref r5, .ref r6, .ref r7])) ys → u ≤ 2 * s → AnyV (m + 1 + 5) (gB (m + 1) s) (upd H11 L (.lst [.ref r1, .ref r2, .ref r3, .ref r4, .ref r5, .ref r6, .ref r7])) (.ref r) := fun e q hu => (sq5_any e q).mono (by omega) (by omega)
        intro y hy
        simp only [List.mem_cons, List.not_mem_nil, or_false] at hy
        rcases hy with rfl | rfl | rfl | rfl | rfl | rfl | rfl
        · exact one (sq_kp (Fr.same t4).kp e1) (sqL.cut _ _) (by omega)
        · exact one (sq_kp (Fr.same t5).kp e2) (sqL.cut _ _) (by omega)
        · exact one (sq_kp (Fr.same t7).kp e3) (sqL.app (sqL.cut _ _)) (by omega)
        · exact one (sq_kp (Fr.same t8).kp e4) sqL.rev (by omega)
        · exact one (b' := true) (t10 _ _ upd_same) sqL (by omega)
        · exact one (b' := false) (t11 _ _ e6) sqL (by omega)
        · exact one (sq_kp (Fr.same zL).kp e7) (sqL.app sqL) (by omega)
end
end Lf
namespace Lf
section
open PySem PySem.Spec PyProof.Rows L2 SeqAt
/-! ### x == "text", x a datum of any kind -/
theorem dict_eq_declines_str (l : Addr) (o : Obj) (hc : o.cls = .type "dict") (b : Str) (u : Tok) :
    Meets (Builtin.«dict.__eq__» ⟨[.ref l, .str b u], []⟩) (fun _ R s => s.heap.get? l = some o ∧ R (.ok (.ret .notImplemented)) s) :=
  .of_wp fun prog w A R s h => by
    obtain ⟨cls, dd, data, sl⟩ := o
    simp only at hc
    subst hc
    obtain ⟨hp, g, d, tk, os⟩ := s
    obtain ⟨hl, h⟩ := h
    have f1 := F.sub_str_dict
    wp_walk using wpAny_loadPart' hl, wpAny_load hl
    exact ⟨_, rfl, h⟩
theorem str_eq_declines_dict (b : Str) (u : Tok) (l : Addr) (o : Obj) (hc : o.cls = .type "dict") (es : Array DictEntry) (ep : Nat) (hd : o.data = .dict es ep) :
    Meets (Builtin.«str.__eq__» ⟨[.str b u, .ref l], []⟩) (fun _ R s => s.heap.get? l = some o ∧ R (.ok (.ret .notImplemented)) s) :=
  .of_wp fun prog w A R s h => by
    obtain ⟨cls, dd, data, sl⟩ := o
    simp only at hc hd
    subst hc hd
    obtain ⟨hp, g, d, tk, os⟩ := s
    obtain ⟨hl, h⟩ := h
    wp_walk using wpAny_loadPart' hl, wpAny_load hl
    exact ⟨_, rfl, h⟩
theorem rc_dict_str {A : Around} {s : Shared} {l : Addr} {o : Obj} {es : Array DictEntry} {ep : Nat} (ho : s.heap.get? l = some o) (hc : o.cls = .type "dict") (hd : o.data = .dict es ep) (b : Str) (u : Tok) (hu : A.units < cLine) : RcAt A s (.ref l) (.str b u) false := fun prog w E Q h => by
  have ty : s.TypeIs (.ref l) "dict" := ⟨_, ho, hc⟩
  exact rc_eq_decline_or (k := false) ty (typeIs_str s b u) (by decide) F.sub_str_dict F.slot_dict_eq F.slot_str_eq_refl
    (fun _ hq => call_meets F.slot_dict_eq ty F.entry_dict_eq (F.args_dict_eq_2 _ _) (dict_eq_declines_str l o hc b u) ⟨ho, hq⟩)
    (fun _ hq => call_meets F.slot_str_eq_refl (typeIs_str s b u) F.entry_str_eq (F.args_str_eq_2 _ _) (str_eq_declines_dict b u l o hc es ep hd) ⟨ho, hq⟩)
    (fun _ hq => wpAny_of_eq (rfl : isSame (.ref l) (.str b u) = pure false) hq) (.inr hu) h
def strB (z : Str) : PyData → Bool
  | .str y => decide (V.str y = V.str z)
  | _ => false
theorem op_eqDS {X : Cx} (hu : X.A.units + 64 < cLine) : OpR X (compareOp .Eq) (fun x y H Q => ∃ d z, Dv H x d ∧ y = .str z ∧ Q (.bl (strB z d)) H) := by
  intro pins s σ H x y v u Q I rx ry h
  obtain ⟨d, z, dv, rfl, q⟩ := h
  have hu : X.A.units < cLine := by omega
  cases dv with
  | non => exact op_eq pins s σ H _ _ v u Q I rx ry ⟨rfl, q⟩
  | bl b => exact op_eq pins s σ H _ _ v u Q I rx ry ⟨rfl, q⟩
  | int i => exact op_eq pins s σ H _ _ v u Q I rx ry ⟨rfl, q⟩
  | str y => exact op_eq pins s σ H _ _ v u Q I rx ry ⟨rfl, q⟩
  | lst _ e _ =>
    cases rx
    obtain ⟨t, rfl⟩ := ry
    obtain ⟨its, r, p, _⟩ := I.list (SqL.of e)
    obtain ⟨o, n, e1, e2, e3, e4⟩ := p
    exact PySem.EqBoolInt.of_rc (RcAt.list_str z t ⟨o, e1, e2, n, e4⟩ hu) (fin_bl I q rfl)
  | tup e _ =>
    cases rx
    obtain ⟨t, rfl⟩ := ry
    obtain ⟨its, r, p, _⟩ := I.tuple (SqT.of e)
    obtain ⟨o, e1, e2, n, e3⟩ := p
    exact PySem.EqBoolInt.of_rc (RcAt.tuple_str z t ⟨o, e1, e2, n, e3⟩ hu) (fin_bl I q rfl)
  | dk0 e =>
    cases rx
    obtain ⟨t, rfl⟩ := ry
    obtain ⟨_, _, vs, _, o, es, ep, e1, e2, e3, _⟩ := (show ObjOk X.prog X.w H s.heap _ (.dK _) from I.hok _ _ e)
    exact PySem.EqBoolInt.of_rc (rc_dict_str e1 e2.1 e3 z t hu) (fin_bl I q rfl)
  | dk1 e _ =>
    cases rx
    obtain ⟨t, rfl⟩ := ry
    obtain ⟨_, _, vs, _, o, es, ep, e1, e2, e3, _⟩ := (show ObjOk X.prog X.w H s.heap _ (.dK _) from I.hok _ _ e)
    exact PySem.EqBoolInt.of_rc (rc_dict_str e1 e2.1 e3 z t hu) (fin_bl I q rfl)
end
end Lf
namespace Lf
open PySem PySem.Spec PyProof.Rows L2
def isT' : PyData → Bool
  | .tuple _ => true
  | _ => false
theorem kit_tup' (d : PyData) : kitB (tyN d) "tuple" = some (isT' d) := by
  cases d
  · show kitB "NoneType" "tuple" = some false; decide +kernel
  · show kitB "bool" "tuple" = some false; decide +kernel
  · show kitB "int" "tuple" = some false; decide +kernel
  · show kitB "str" "tuple" = some false; decide +kernel
  · show kitB "list" "tuple" = some false; decide +kernel
  · show kitB "tuple" "tuple" = some true; decide +kernel
  · show kitB "dict" "tuple" = some false; decide +kernel
theorem dva_length {H : Hp} {vs : List V} {ds : List PyData} (h : DvAll H vs ds) : vs.length = ds.length := by
  induction ds generalizing vs with
  | nil =>
    cases h
    rfl
  | cons d ds ih =>
    cases h with
    | cons _ h2 => rw [List.length_cons, List.length_cons, ih h2]
theorem len_ne3 {n : Nat} (h : n ≠ 3) : (!decide (V.int (n : Int) = V.int 3)) = true := by
  have : ¬ V.int (n : Int) = V.int 3 := fun z => h (by
    have := V.int.inj z
    omega)
  rw [decide_eq_false this]
  rfl
end Lf
namespace Lf
open PySem PySem.Spec PyProof.Rows L2
/-! ### the program's look at a certificate, at any value -/
def fallB (ns : List Int) (i : Int) : Bool := decide (i + 1 < (ns.length : Int)) && decide (ns.getD (i + 1).toNat 0 < ns.getD i.toNat 0)
def winB (ns : List Int) (i j w : Int) : Bool := (decide (1 ≤ w) && decide ((if j > i then j else i) + w < (ns.length : Int))) && decide (ns.getD (j + w).toNat 0 - ns.getD j.toNat 0 + 2 ≤ ns.getD (i + w).toNat 0 - ns.getD i.toNat 0)
theorem in24b {n : Int} (h : n = 2 ∨ n = 4) : inV (.int n) [.int 2, .int 4] = true := by
  rcases h with rfl | rfl <;> rfl
theorem nin24 {n : Int} (h : ¬ (n = 2 ∨ n = 4)) : inV (.int n) [.int 2, .int 4] = false := by
  have h2 : ¬ V.int 2 = V.int n := fun z => h (.inl (V.int.inj z).symm)
  have h4 : ¬ V.int 4 = V.int n := fun z => h (.inr (V.int.inj z).symm)
  simp only [inV]
  simp [eqV]
  omega
theorem one21 {α : Type} {l : List α} (h : l.length = 1) : ∃ a, l = [a] := by
  match l, h with
  | [a], _ => exact ⟨a, rfl⟩
theorem three21 {α : Type} {l : List α} (h : l.length = 3) : ∃ a b c, l = [a, b, c] := by
  match l, h with
  | [a, b, c], _ => exact ⟨a, b, c, rfl⟩
theorem atD {ns : List Int} {d : Int} (h0 : 0 ≤ d) (h1 : d < (ns.length : Int)) : atI (ns.map V.int) d = some (.int (ns.getD d.toNat 0)) := by
  have hj : d.toNat < ns.length := by omega
  have e : ns[d.toNat]? = some ns[d.toNat] := List.getElem?_eq_getElem hj
  have := atI_nat (xs := ns.map V.int) (j := d.toNat) (by rw [List.getElem?_map, e]; rfl)
  rw [show ((d.toNat : Nat) : Int) = d by omega] at this
  rw [this, List.getD_eq_getElem?_getD, e]
  rfl
section
variable {P : Program} {w : World} {K : PySem.W.Frag} {mg : Str → Option Value} {base : Heap} {C : Addr}
def spFallsAt : Sp := fun vs H Q _ => ∃ (L : Addr) (kb : Bool) (ns : List Int) (i : Int), vs = [.ref L, .int i] ∧ H L = some (sqO kb (ns.map V.int)) ∧ 0 ≤ i ∧ Q (.bl (fallB ns i)) H
abbrev s_falls_at : Stmt := topS 14
abbrev N_falls_at : List Str := ["counts", "i"]
abbrev P_falls_at : List Str := ["counts", "i"]
theorem sc_falls_at : FnScope N_falls_at P_falls_at (defScope s_falls_at) := ⟨rfl, rfl, rfl, by decide +kernel, rfl, by decide +kernel, by decide +kernel⟩
theorem ok_falls_at (D : Df K mg "falls_at" s_falls_at P_falls_at) (B : Bi mg) : C8.Cal P w K mg base 1 "falls_at" spFallsAt [] := by
  refine cal_of D sc_falls_at (fun vs H Q E h => ?_) (fun f cdv A outer s H vs Q E hr h => ?_)
  · obtain ⟨L, kb, ns, i, rfl, _⟩ := h
    rfl
  · obtain ⟨L, kb, ns, i, rfl, eL, i0, kk⟩ := h
    refine ⟨_, (pss_one (ps_ret (pe_and (pe_cmpR op_lt (pe_op op_add (pv 1) pe_int) (pe_callB (call_len_seq) (by rfl) B.len_ bt_len (pa_cons (pv 0) pa_nil)) (nomark _)) (pe_one (pe_cmpR op_lt (pe_ix (r := rIxB K) ix_B (pv 0) (pe_op op_add (pv 1) pe_int) (fun _ _ => rfl)) (pe_ix (r := rIxB K) ix_B (pv 0) (pv 1) (fun _ _ => rfl)) (nomark _)))))), ?_⟩
    have lm : (ns.map V.int).length = ns.length := List.length_map ..
    unfold fallB at kk
    refine ⟨_, rfl, _, _, rfl, rfl, _, rfl, L, _, rfl, (SqB.of eL).or, _, _, rfl, rfl, _, rfl, ?_⟩
    rw [lm]
    refine ite2 (fun c0 => ?_) (fun c0 => ?_)
    · rw [c0, Bool.true_and] at kk
      have c0 := of_decide_eq_true c0
      exact ⟨_, rfl, _, rfl, _, _, rfl, rfl, L, kb, _, _, _, rfl, rfl, SqB.of eL, atD (by omega) c0, _, rfl, _, rfl, L, kb, _, _, _, rfl, rfl, SqB.of eL, atD i0 (by omega), _, _, rfl, rfl, kk⟩
    · rw [Bool.eq_false_iff.mpr c0, Bool.false_and] at kk
      exact kk
def spWinD : Sp := fun vs H Q _ => ∃ (L : Addr) (kb : Bool) (ns : List Int) (i j u : Int), vs = [.ref L, .int i, .int j, .int u] ∧ H L = some (sqO kb (ns.map V.int)) ∧ 0 ≤ i ∧ 0 ≤ j ∧ 0 ≤ u ∧ Q (.bl (winB ns i j u)) H
abbrev s_windows_differ : Stmt := topS 15
abbrev N_windows_differ : List Str := ["counts", "i", "j", "w"]
abbrev P_windows_differ : List Str := ["counts", "i", "j", "w"]
theorem sc_windows_differ : FnScope N_windows_differ P_windows_differ (defScope s_windows_differ) := ⟨rfl, rfl, rfl, by decide +kernel, rfl, by decide +kernel, by decide +kernel⟩
theorem ok_windows_differ (D : Df K mg "windows_differ" s_windows_differ P_windows_differ) (B : Bi mg) : C8.Cal P w K mg base 1 "windows_differ" spWinD [] := by
  refine cal_of D sc_windows_differ (fun vs H Q E h => ?_) (fun f cdv A outer s H vs Q E hr h => ?_)
  · obtain ⟨L, kb, ns, i, j, u, rfl, _⟩ := h
    rfl
  · obtain ⟨L, kb, ns, i, j, u, rfl, eL, i0, j0, u0, kk⟩ := h
    refine ⟨_, (pss_cons (ps_if (PW.pt (pw_or (pt_cmpR op_lt (pv 3) pe_int (nomark _)) (pw_or1 (pt_cmpR op_ge (pe_op op_add (pe_callB (call_max2 rfl) (by rfl) B.max_ bt_max (pa_cons (pv 1) (pa_cons (pv 2) pa_nil))) (pv 3)) (pe_callB (call_len_seq) (by rfl) B.len_ bt_len (pa_cons (pv 0) pa_nil)) (nomark _)))))
      (pss_one (ps_ret pe_bl))
      pss_nil)
    (pss_one (ps_ret (pe_cmpR op_ge (pe_op op_sub (pe_ix (r := rIxB K) ix_B (pv 0) (pe_op op_add (pv 1) (pv 3)) (fun _ _ => rfl)) (pe_ix (r := rIxB K) ix_B (pv 0) (pv 1) (fun _ _ => rfl))) (pe_op op_add (pe_op op_sub (pe_ix (r := rIxB K) ix_B (pv 0) (pe_op op_add (pv 2) (pv 3)) (fun _ _ => rfl)) (pe_ix (r := rIxB K) ix_B (pv 0) (pv 2) (fun _ _ => rfl))) pe_int) (nomark _))))), ?_⟩
    have lm : (ns.map V.int).length = ns.length := List.length_map ..
    unfold winB at kk
    refine ⟨_, rfl, _, _, rfl, rfl, _, rfl, ?_⟩
    by_cases c0 : u < 1
    · rw [decide_eq_false (show ¬ 1 ≤ u by omega), Bool.false_and, Bool.false_and] at kk
      exact iteTs (decide_eq_true c0) (iteTs rfl kk)
    · rw [decide_eq_true (show 1 ≤ u by omega), Bool.true_and] at kk
      refine iteFs (decide_eq_false c0) ?_
      generalize hmx : (if j > i then j else i) = mx at kk
      have m0 : 0 ≤ mx ∧ i ≤ mx ∧ j ≤ mx := by
        rw [← hmx]
        split <;> omega
      refine ⟨_, rfl, _, rfl, _, _, rfl, _, rfl, _, _, rfl, rfl, _, rfl, L, _, rfl, (SqB.of eL).or, ?_⟩
      rw [lm, hmx]
      refine ⟨_, _, rfl, rfl, _, rfl, ?_⟩
      by_cases c1 : mx + u < (ns.length : Int)
      · rw [decide_eq_true c1, Bool.true_and] at kk
        refine iteFs (decide_eq_false (show ¬ (ns.length : Int) ≤ mx + u by omega)) ?_
        refine ⟨_, rfl, _, rfl, _, rfl, _, _, rfl, rfl, L, kb, _, _, _, rfl, rfl, SqB.of eL, atD (by omega) (by omega), _, rfl, _, rfl, L, kb, _, _, _, rfl, rfl, SqB.of eL, atD (by omega) (by omega), _, _, rfl, rfl, ?_⟩
        refine ⟨_, rfl, _, rfl, _, rfl, _, _, rfl, rfl, L, kb, _, _, _, rfl, rfl, SqB.of eL, atD (by omega) (by omega), _, rfl, _, rfl, L, kb, _, _, _, rfl, rfl, SqB.of eL, atD (by omega) (by omega), _, _, rfl, rfl, _, _, rfl, rfl, _, _, rfl, rfl, kk⟩
      · rw [decide_eq_false c1, Bool.false_and] at kk
        exact iteTs (decide_eq_true (show (ns.length : Int) ≤ mx + u by omega)) kk
def gI : PyData → Bool
  | .int i => decide (0 ≤ i)
  | _ => false
def certB (ns : List Int) : PyData → Bool
  | .tuple [w, .int i] => decide (0 ≤ i) && (strB "falls" w && fallB ns i)
  | .tuple [w, .int i, .int j, .int u] => (decide (0 ≤ i) && (decide (0 ≤ j) && decide (0 ≤ u))) && (strB "windows" w && winB ns i j u)
  | _ => false
theorem cert_len {ns : List Int} {ds : List PyData} (h : ¬ (ds.length = 2 ∨ ds.length = 4)) : certB ns (.tuple ds) = false := by
  unfold certB
  split
  · rename_i e
    cases e
    exact absurd (.inl rfl) h
  · rename_i e
    cases e
    exact absurd (.inr rfl) h
  · rfl
theorem cert_bad {ns : List Int} {d0 : PyData} {ds : List PyData} (h : ds.all gI = false) : certB ns (.tuple (d0 :: ds)) = false := by
  unfold certB
  split
  · rename_i w i e
    cases e
    have h : decide (0 ≤ i) = false := by simpa [gI] using h
    rw [h, Bool.false_and]
  · rename_i w i j u e
    cases e
    have h : (decide (0 ≤ i) && (decide (0 ≤ j) && decide (0 ≤ u))) = false := by
      have : (gI (.int i) && (gI (.int j) && (gI (.int u) && true))) = false := h
      rwa [Bool.and_true] at this
    rw [h, Bool.false_and]
  · rfl
theorem gI_inv {H : Hp} {v : V} {d : PyData} (h : Dv H v d) (hi : gI d = true) : ∃ z, v = .int z ∧ d = .int z ∧ 0 ≤ z := by
  cases h with
  | int z => exact ⟨z, rfl, rfl, of_decide_eq_true hi⟩
  | _ => cases hi
def spUC : Sp := fun vs H Q _ => ∃ (L : Addr) (kb : Bool) (ns : List Int) (v : V) (d : PyData), vs = [.ref L, v] ∧ H L = some (sqO kb (ns.map V.int)) ∧ Dv H (.ref L) (sqD kb (ns.map PyData.int)) ∧ 1 ≤ ns.length ∧ ns.length ≤ 200 ∧ Dv H v d ∧ ∀ H', Same H H' → Q (.bl (certB ns d)) H'
abbrev s_is_uneven_certificate : Stmt := topS 13
abbrev N_is_uneven_certificate : List Str := ["counts", "value", "item"]
abbrev P_is_uneven_certificate : List Str := ["counts", "value"]
theorem sc_is_uneven_certificate : FnScope N_is_uneven_certificate P_is_uneven_certificate (defScope s_is_uneven_certificate) := ⟨rfl, rfl, rfl, by decide +kernel, rfl, by decide +kernel, by decide +kernel⟩
theorem ok_is_uneven_certificate (D : Df K mg "is_uneven_certificate" s_is_uneven_certificate P_is_uneven_certificate) (B : Bi mg) (c_is_counts : C8.Cal P w K mg base 2 "is_counts" spIsCtD []) (cA_is_integer : C8.Cal P w K mg base 1 "is_integer" spIsAny []) (c_falls_at : C8.Cal P w K mg base 1 "falls_at" spFallsAt []) (c_windows_differ : C8.Cal P w K mg base 1 "windows_differ" spWinD []) : C8.Cal P w K mg base 3 "is_uneven_certificate" spUC [] := by
  refine cal_of D sc_is_uneven_certificate (fun vs H Q E h => ?_) (fun f cdv A outer s H vs Q E hr h => ?_)
  · obtain ⟨L, kb, ns, v, d, rfl, _⟩ := h
    rfl
  · obtain ⟨L, kb, ns, v, d, rfl, eL, dL, n1, n2, dv, kk⟩ := h
    have c_is_integer := cA_is_integer
    refine ⟨_, (pss_cons (ps_if (pt_not (pt_val (C8.pe_c c_is_counts hr (by decide) (by rfl) (pa_cons (pv 0) pa_nil))))
      (pss_one ps_never)
      pss_nil)
    (pss_cons (ps_if (PW.pt (pw_or (pt_not (pt_val (pe_callB (call_isi) (by rfl) B.isinstance_ bt_isinstance (pa_cons (pv 1) (pa_cons (pe_bltn (v := .ty "tuple") (by rfl) B.tuple_ bt_tuple rfl) pa_nil))))) (pw_or1 (pt_cmpR op_notIn_seq (pe_callB (call_len_seq) (by rfl) B.len_ bt_len (pa_cons (pv 1) pa_nil)) (pe_tup (pa_cons pe_int (pa_cons pe_int pa_nil))) rfl))))
      (pss_one (ps_ret pe_bl))
      pss_nil)
    (pss_cons (ps_if (pt_not (pt_val (pe_callB (cr_all rfl) (by rfl) B.all_ bt_all (pa_cons (pe_lc (own := [("item", 2)]) (g := (gName 2)) (by rfl) sc_is_uneven_certificate.nd (pi_tup (pe_slice sl_tup (pv 1) (po_some pe_int) po_none)) (blkOk_by (own := [("item", 2)]) (N := N_is_uneven_certificate) (sc := defScope s_is_uneven_certificate) (by decide +kernel)) (fun _ _ _ _ _ => (pg_name (i := 2) sc_is_uneven_certificate.nd rfl (Or.inl rfl))) (fun _ _ _ _ _ => pts_nil) (fun _ _ _ _ _ => (pe_and (C8.pe_c c_is_integer hr (by decide) (by rfl) (pa_cons (pv 2) pa_nil)) (pe_one (pe_cmpR op_ge (pv 2) pe_int (nomark _)))))) pa_nil))))
      (pss_one (ps_ret pe_bl))
      pss_nil)
    (pss_cons (ps_if (pt_cmpR op_eq (pe_callB (call_len_seq) (by rfl) B.len_ bt_len (pa_cons (pv 1) pa_nil)) pe_int (nomark _))
      (pss_one (ps_ret (pe_and (pe_cmpR (op_eqDS hr.units) (pe_ix (r := rIxT K) ix_tup (pv 1) pe_int (fun _ _ => rfl)) pe_str (nomark _)) (pe_one (C8.pe_c c_falls_at hr (by decide) (by rfl) (pa_cons (pv 0) (pa_cons (pe_ix (r := rIxT K) ix_tup (pv 1) pe_int (fun _ _ => rfl)) pa_nil)))))))
      pss_nil)
    (pss_one (ps_ret (pe_and (pe_cmpR (op_eqDS hr.units) (pe_ix (r := rIxT K) ix_tup (pv 1) pe_int (fun _ _ => rfl)) pe_str (nomark _)) (pe_one (C8.pe_c c_windows_differ hr (by decide) (by rfl) (pa_cons (pv 0) (pa_cons (pe_ix (r := rIxT K) ix_tup (pv 1) pe_int (fun _ _ => rfl)) (pa_cons (pe_ix (r := rIxT K) ix_tup (pv 1) pe_int (fun _ _ => rfl)) (pa_cons (pe_ix (r := rIxT K) ix_tup (pv 1) pe_int (fun _ _ => rfl)) pa_nil))))))))))))), ?_⟩
    refine ⟨_, rfl, .ref L, _, rfl, dL, fun b H1 s1 hb => ?_⟩
    obtain rfl := hb.mpr ⟨kb, ns, rfl, n1, n2⟩
    refine ⟨_, rfl, iteFs rfl ?_⟩
    have dv1 := Dv.kp (Fr.same s1).kp _ _ dv
    have eL1 := sq_kp (Fr.same s1).kp eL
    refine ⟨_, rfl, _, _, _, _, isT' d, rfl, .ty "tuple", dv1.ty, kit_ty (kit_tup' d), isT' d, rfl, ?_⟩
    cases ht : isT' d with
    | false =>
      have e : certB ns d = false := by
        cases d <;> first | rfl | cases ht
      rw [e] at kk
      exact iteTs rfl (iteTs rfl (kk _ s1))
    | true =>
      cases dv1 with
      | tup er hs =>
        rename_i r xs ds
        refine iteFs rfl ⟨_, rfl, r, _, rfl, .inr (SqT.of er), len10 (by simp), fun p np => ?_⟩
        have z1 := sm_upd (o := .tup [.int 2, .int 4]) np
        have hl := dva_len9 hs
        refine ⟨p, _, rfl, .inr (SqT.of upd_same), rfl, rfl, _, rfl, ?_⟩
        have s2 := s1.trans z1
        have eL2 := sq_kp (Fr.same z1).kp eL1
        have er2 := z1 _ _ er
        have hs2 := Dv.kpAll (Fr.same z1).kp _ _ hs
        generalize upd H1 p (.tup [.int 2, .int 4]) = H2 at s2 eL2 er2 hs2 ⊢
        by_cases h24 : ds.length = 2 ∨ ds.length = 4
        · refine iteFs (by rw [in24b (by omega)]; rfl) ?_
          cases hs2 with
          | nil => simp at h24
          | cons g0 hs3 =>
            rename_i x0 xt d0 dt
            have ht2 := dva_len9 hs3
            have sx : HT.sIx (x0 :: xt).length 0 (some 1) = 1 := by
              rw [List.length_cons]
              show min 1 _ = 1
              omega
            refine ⟨_, rfl, 1, rfl, r, _, rfl, SqT.of er2, fun z => by rw [sx] at z; exact absurd z.1 (by decide), fun p2 np2 => ?_⟩
            have ec : cutV (x0 :: xt) (some 1) none = xt := by
              unfold cutV
              rw [sx, HT.sIx_none, List.drop_succ_cons, List.drop_zero]
              exact List.take_of_length_le (by rw [List.length_cons]; omega)
            rw [ec]
            have z3 := sm_upd (o := .tup xt) np2
            have e3 := upd_same (H := H2) (a := p2) (o := .tup xt)
            have s3 := s2.trans z3
            have eL3 := sq_kp (Fr.same z3).kp eL2
            have er3 := z3 _ _ er2
            have g0 := Dv.kp (Fr.same z3).kp _ _ g0
            have hs3 := Dv.kpAll (Fr.same z3).kp _ _ hs3
            generalize upd H2 p2 (.tup xt) = H3 at s3 eL3 er3 e3 g0 hs3 ⊢
            have ld : dt.length ≤ 3 := by
              rw [List.length_cons] at h24
              omega
            refine ⟨p2, rfl, ⟨_, SqT.of e3⟩, fun Y nY => ?_⟩
            refine lc_it (walk_tup (K := K) (a := p2) (xs := xt)) (fun i H' => H' Y = some (.lst (((dt.take i).map gI).map V.bl)) ∧ Same H3 H') ⟨upd_same, sm_upd nY⟩ ?_ ?_ ?_
            · rintro i H7 _ ⟨_, s7⟩
              exact SqT.of (s7 _ _ e3)
            · rintro i x _ H7 hi ⟨eY, s7⟩ ⟨rfl, hx⟩
              obtain ⟨dd, hd, dx⟩ := dva_at hs3 hx
              have dx := Dv.kp (Fr.same s7).kp _ _ dx
              have tk : (dt.take (i + 1)).map gI = (dt.take i).map gI ++ [gI dd] := by
                rw [List.take_add_one, hd, List.map_append]
                rfl
              have fin : ∀ b, b = gI dd → ∃ acc, H7 Y = some (.lst acc) ∧ acc.length < sizeLine ∧ (upd H7 Y (.lst (acc ++ [.bl b])) Y = some (.lst (((dt.take (i + 1)).map gI).map V.bl)) ∧ Same H3 (upd H7 Y (.lst (acc ++ [.bl b])))) := fun b hb => by
                refine ⟨_, eY, ?_, ?_, fun b o eb => ?_⟩
                · rw [List.length_map, List.length_map, List.length_take]
                  exact small1000 (by omega)
                · rw [upd_same, tk, hb, List.map_append]
                  rfl
                · rw [upd_ne (ne_of_none eb nY)]
                  exact s7 _ _ eb
              refine ⟨rfl, _, rfl, x, dd, rfl, dx, isI dd, rfl, ?_⟩
              cases dx with
              | int z => exact iteTs rfl ⟨_, rfl, _, _, rfl, rfl, fin _ rfl⟩
              | _ => exact iteFs rfl (fin _ rfl)
            rintro H7 ⟨eY, s7⟩
            rw [ht2, List.take_of_length_le (Nat.le_refl _)] at eY
            have s8 := s3.trans s7
            have eL8 := sq_kp (Fr.same s7).kp eL3
            have er8 := s7 _ _ er3
            have g8 := Dv.kp (Fr.same s7).kp _ _ g0
            have hs8 := Dv.kpAll (Fr.same s7).kp _ _ hs3
            refine ⟨Y, _, rfl, SqL.of eY, _, rfl, ?_⟩
            have hal : (dt.map gI).all id = dt.all gI := by
              rw [List.all_map]
              rfl
            rw [hal]
            cases ha : dt.all gI with
            | false =>
              rw [cert_bad ha] at kk
              exact iteTs rfl (kk _ s8)
            | true =>
              refine iteFs rfl ?_
              rcases h24 with h24 | h24
              · obtain ⟨d1, rfl⟩ := one21 (l := dt) (by simpa using h24)
                obtain ⟨x1, rfl⟩ := one21 (l := xt) (by rw [ht2]; rfl)
                cases hs8 with
                | cons g1 _ =>
                  obtain ⟨i, rfl, rfl, i0⟩ := gI_inv g1 (by simpa using ha)
                  have kk : ∀ H', Same H H' → Q (.bl (decide (0 ≤ i) && (strB "falls" d0 && fallB ns i))) H' := kk
                  rw [decide_eq_true i0, Bool.true_and] at kk
                  refine ⟨_, rfl, r, _, rfl, .inr (SqT.of er8), rfl, _, rfl, iteTs (decide_eq_true rfl) ?_⟩
                  refine ⟨_, rfl, r, _, _, _, rfl, rfl, SqT.of er8, atI_nat (j := 0) rfl, d0, _, g8, rfl, _, rfl, ?_⟩
                  cases hsb : strB "falls" d0 with
                  | false =>
                    rw [hsb, Bool.false_and] at kk
                    exact iteFs rfl (kk _ s8)
                  | true =>
                    rw [hsb, Bool.true_and] at kk
                    exact iteTs rfl ⟨_, rfl, _, rfl, r, _, _, _, rfl, rfl, SqT.of er8, atI_nat (j := 1) rfl, L, kb, ns, i, rfl, eL8, i0, kk _ s8⟩
              · obtain ⟨d1, d2, d3, rfl⟩ := three21 (l := dt) (by simpa using h24)
                obtain ⟨x1, x2, x3, rfl⟩ := three21 (l := xt) (by rw [ht2]; rfl)
                cases hs8 with
                | cons g1 hs8 =>
                  cases hs8 with
                  | cons g2 hs8 =>
                    cases hs8 with
                    | cons g3 _ =>
                      have ha : gI d1 = true ∧ gI d2 = true ∧ gI d3 = true := by simpa using ha
                      obtain ⟨i, rfl, rfl, i0⟩ := gI_inv g1 ha.1
                      obtain ⟨j, rfl, rfl, j0⟩ := gI_inv g2 ha.2.1
                      obtain ⟨u, rfl, rfl, u0⟩ := gI_inv g3 ha.2.2
                      have kk : ∀ H', Same H H' → Q (.bl ((decide (0 ≤ i) && (decide (0 ≤ j) && decide (0 ≤ u))) && (strB "windows" d0 && winB ns i j u))) H' := kk
                      rw [decide_eq_true i0, decide_eq_true j0, decide_eq_true u0, Bool.true_and, Bool.true_and, Bool.true_and] at kk
                      refine ⟨_, rfl, r, _, rfl, .inr (SqT.of er8), rfl, _, rfl, iteFs rfl ?_⟩
                      refine ⟨_, rfl, r, _, _, _, rfl, rfl, SqT.of er8, atI_nat (j := 0) rfl, d0, _, g8, rfl, _, rfl, ?_⟩
                      cases hsb : strB "windows" d0 with
                      | false =>
                        rw [hsb, Bool.false_and] at kk
                        exact iteFs rfl (kk _ s8)
                      | true =>
                        rw [hsb, Bool.true_and] at kk
                        exact iteTs rfl ⟨_, rfl, _, rfl, r, _, _, _, rfl, rfl, SqT.of er8, atI_nat (j := 1) rfl, _, rfl, r, _, _, _, rfl, rfl, SqT.of er8, atI_nat (j := 2) rfl, _, rfl, r, _, _, _, rfl, rfl, SqT.of er8, atI_nat (j := 3) rfl, L, kb, ns, i, j, u, rfl, eL8, i0, j0, u0, kk _ s8⟩
        · rw [cert_len h24] at kk
          exact iteTs (by rw [nin24 (by omega)]; rfl) (kk _ s2)
      | _ => cases ht
end
end Lf
namespace Lf
open PySem PySem.Spec PyProof.Rows L2
theorem kss21 (d : PyData) : kitB (tyN d) "str" = some (match d with | .str _ => true | _ => false) := by
  cases d
  · show kitB "NoneType" "str" = some false; decide +kernel
  · show kitB "bool" "str" = some false; decide +kernel
  · show kitB "int" "str" = some false; decide +kernel
  · show kitB "str" "str" = some true; decide +kernel
  · show kitB "list" "str" = some false; decide +kernel
  · show kitB "tuple" "str" = some false; decide +kernel
  · show kitB "dict" "str" = some false; decide +kernel
def isS21 : PyData → Bool
  | .str _ => true
  | _ => false
theorem kss21' (d : PyData) : kitB (tyN d) "str" = some (isS21 d) := by
  rw [kss21]
  cases d <;> rfl
def rLenS21 (K : PySem.W.Frag) : List V → Hp → VK → Prop := fun xs H Q => ∃ p ys, xs = [.ref p] ∧ (SqL K H p ys ∨ SqT K H p ys) ∧ Q (.int (ys.length : Nat)) H
def gL (ns : List Int) : PyData → Bool
  | .int i => decide (0 ≤ i) && decide (i < (ns.length : Int))
  | _ => false
theorem strB_no {z : Str} {d : PyData} (h : isS21 d = false) : strB z d = false := by
  cases d <;> first | rfl | cases h
theorem cert_nostr {ns : List Int} {d0 : PyData} {ds : List PyData} (h : isS21 d0 = false) : certB ns (.tuple (d0 :: ds)) = false := by
  unfold certB
  split
  · rename_i w i e
    cases e
    rw [strB_no h, Bool.false_and, Bool.and_false]
  · rename_i w i j u e
    cases e
    rw [strB_no h, Bool.false_and, Bool.and_false]
  · rfl
theorem cert_out {ns : List Int} {d0 : PyData} {ds : List PyData} (h : ds.all (gL ns) = false) : certB ns (.tuple (d0 :: ds)) = false := by
  unfold certB
  split
  · rename_i w i e
    cases e
    have h : (decide (0 ≤ i) && decide (i < (ns.length : Int))) = false := by simpa [gL] using h
    by_cases i0 : 0 ≤ i
    · rw [decide_eq_true i0, Bool.true_and] at h
      have h := of_decide_eq_false h
      have : fallB ns i = false := by
        unfold fallB
        rw [decide_eq_false (show ¬ i + 1 < (ns.length : Int) by omega), Bool.false_and]
      rw [this, Bool.and_false, Bool.and_false]
    · rw [decide_eq_false i0, Bool.false_and]
  · rename_i w i j u e
    cases e
    by_cases h0 : (0 ≤ i ∧ 0 ≤ j) ∧ 0 ≤ u
    · have : winB ns i j u = false := by
        unfold winB
        have hx : (decide (1 ≤ u) && decide ((if j > i then j else i) + u < (ns.length : Int))) = false := by
          rw [Bool.and_eq_false_iff]
          by_cases h1 : 1 ≤ u
          · right
            refine decide_eq_false fun h2 => ?_
            have hm : i ≤ (if j > i then j else i) ∧ j ≤ (if j > i then j else i) := by split <;> omega
            generalize (if j > i then j else i) = mx at h2 hm
            have : ([PyData.int i, .int j, .int u].all (gL ns)) = true := by
              show ((decide (0 ≤ i) && decide (i < (ns.length : Int))) && ((decide (0 ≤ j) && decide (j < (ns.length : Int))) && ((decide (0 ≤ u) && decide (u < (ns.length : Int))) && true))) = true
              rw [decide_eq_true h0.1.1, decide_eq_true h0.1.2, decide_eq_true h0.2, decide_eq_true (show i < (ns.length : Int) by omega), decide_eq_true (show j < (ns.length : Int) by omega), decide_eq_true (show u < (ns.length : Int) by omega)]
              rfl
            rw [this] at h
            cases h
          · exact .inl (decide_eq_false h1)
        rw [hx, Bool.false_and]
      rw [this, Bool.and_false, Bool.and_false]
    · have : (decide (0 ≤ i) && (decide (0 ≤ j) && decide (0 ≤ u))) = false := by
        by_cases a : 0 ≤ i
        · by_cases b : 0 ≤ j
          · have c : ¬ 0 ≤ u := fun z => h0 ⟨⟨a, b⟩, z⟩
            rw [decide_eq_false c, Bool.and_false, Bool.and_false]
          · rw [decide_eq_false b, Bool.false_and, Bool.and_false]
        · rw [decide_eq_false a, Bool.false_and]
      rw [this, Bool.false_and]
  · rfl
theorem smI_nil21 {zs : List V} (h : zs = []) : SmI zs := by
  subst h
  intro z hz
  cases hz
theorem gL_inv {ns : List Int} {H : Hp} {v : V} {d : PyData} (h : Dv H v d) (hi : gL ns d = true) : ∃ z, v = .int z ∧ d = .int z ∧ 0 ≤ z ∧ z < (ns.length : Int) := by
  cases h with
  | int z =>
    have := Bool.and_eq_true _ _ ▸ (show (decide (0 ≤ z) && decide (z < (ns.length : Int))) = true from hi)
    exact ⟨z, rfl, rfl, of_decide_eq_true this.1, of_decide_eq_true this.2⟩
  | _ => cases hi
section
variable {P : Program} {w : World} {K : PySem.W.Frag} {mg : Str → Option Value} {base : Heap} {C : Addr}
def spCertD : Sp := fun vs H Q _ => ∃ (L : Addr) (ns : List Int) (v : V) (d : PyData), vs = [.ref L, v] ∧ H L = some (.lst (ns.map V.int)) ∧ ns.length ≤ 500 ∧ Dv H v d ∧ ∀ H', Same H H' → Q (.bl (certB ns d)) H'
abbrev s_l_certifies : Stmt := topS 33
abbrev N_l_certifies : List Str := ["_law_row_here", "_law_thing", "_law_word", "_law_one", "_law_other", "_law_width", "_law_least"]
abbrev P_l_certifies : List Str := ["_law_row_here", "_law_thing"]
theorem sc_l_certifies : FnScope N_l_certifies P_l_certifies (defScope s_l_certifies) := ⟨rfl, rfl, rfl, by decide +kernel, rfl, by decide +kernel, by decide +kernel⟩
theorem ok_l_certifies (D : Df K mg "_law_certifies" s_l_certifies P_l_certifies) (B : Bi mg) (c_l_is_int : C8.Cal P w K mg base 1 "_law_is_int" spIsIntL []) : C8.Cal P w K mg base 2 "_law_certifies" spCertD [] := by
  refine cal_of D sc_l_certifies (fun vs H Q E h => ?_) (fun f cdv A outer s H vs Q E hr h => ?_)
  · obtain ⟨L, ns, v, d, rfl, _⟩ := h
    rfl
  · obtain ⟨L, ns, v, d, rfl, eL, hl500, dv, kk⟩ := h
    refine ⟨_, (pss_cons (ps_if (PW.pt (pw_or (pt_not (pt_val (pe_callB (call_isi) (by rfl) B.isinstance_ bt_isinstance (pa_cons (pv 1) (pa_cons (pe_bltn (v := .ty "tuple") (by rfl) B.tuple_ bt_tuple rfl) pa_nil))))) (pw_or (pt_cmpR op_notIn_seq (pe_callB (call_len_seq) (by rfl) B.len_ bt_len (pa_cons (pv 1) pa_nil)) (pe_tup (pa_cons pe_int (pa_cons pe_int pa_nil))) rfl) (pw_or1 (pt_not (pt_val (pe_callB (call_isi) (by rfl) B.isinstance_ bt_isinstance (pa_cons (pe_ix (r := rIxT K) ix_tup (pv 1) pe_int (fun _ _ => rfl)) (pa_cons (pe_bltn (v := .ty "str") (by rfl) B.str_ bt_str rfl) pa_nil)))))))))
      (pss_one (ps_ret pe_bl))
      pss_nil)
    (pss_cons (ps_if (pt_cmpR (op_neS hr.units) (pe_lc (own := [("_law_one", 3)]) (g := (gName 3)) (by rfl) sc_l_certifies.nd (pi_tup (pe_slice sl_tup (pv 1) (po_some pe_int) po_none)) (blkOk_by (own := [("_law_one", 3)]) (N := N_l_certifies) (sc := defScope s_l_certifies) (by decide +kernel)) (fun _ _ _ _ _ => (pg_name (i := 3) sc_l_certifies.nd rfl (Or.inl rfl))) (fun _ _ _ _ _ => (pts_one (PW.pt (pw_or (pt_not (pt_val (C8.pe_c c_l_is_int hr (by decide) (by rfl) (pa_cons (pv 3) pa_nil)))) (pw_or1 (pt_not (pt_chain op_le op_lt pe_int (pv 3) (pe_callB ((show CallR _ _ (rLenS21 K) from call_len_seq)) (by rfl) B.len_ bt_len (pa_cons (pv 0) pa_nil))))))))) (fun _ _ _ _ _ => (pv 3))) (pe_lst pa_nil) (nomark _))
      (pss_one (ps_ret pe_bl))
      pss_nil)
    (pss_cons (ps_if (pt_cmpR op_eq (pe_callB (call_len_seq) (by rfl) B.len_ bt_len (pa_cons (pv 1) pa_nil)) pe_int (nomark _))
      (pss_one (ps_ret (pe_and (pe_cmpR op_eq (pe_ix (r := rIxT K) ix_tup (pv 1) pe_int (fun _ _ => rfl)) pe_str (nomark _)) (pe_and (pe_cmpR op_lt (pe_op op_add (pe_ix (r := rIxT K) ix_tup (pv 1) pe_int (fun _ _ => rfl)) pe_int) (pe_callB (call_len_seq) (by rfl) B.len_ bt_len (pa_cons (pv 0) pa_nil)) (nomark _)) (pe_one (pe_cmpR op_lt (pe_ix (r := rIxL K) ix_list (pv 0) (pe_op op_add (pe_ix (r := rIxT K) ix_tup (pv 1) pe_int (fun _ _ => rfl)) pe_int) (fun _ _ => rfl)) (pe_ix (r := rIxL K) ix_list (pv 0) (pe_ix (r := rIxT K) ix_tup (pv 1) pe_int (fun _ _ => rfl)) (fun _ _ => rfl)) (nomark _)))))))
      pss_nil)
    (pss_cons (ps_asg (pv 1) (pg_tup rfl (pgs_cons (pg_name (i := 2) sc_l_certifies.nd rfl (Or.inl rfl)) (pgs_cons (pg_name (i := 3) sc_l_certifies.nd rfl (Or.inl rfl)) (pgs_cons (pg_name (i := 4) sc_l_certifies.nd rfl (Or.inl rfl)) (pgs_cons (pg_name (i := 5) sc_l_certifies.nd rfl (Or.inl rfl)) pgs_nil))))))
    (pss_cons (ps_if (PW.pt (pw_or (pt_cmpR op_ne (pv 2) pe_str (nomark _)) (pw_or (pt_cmpR op_lt (pv 5) pe_int (nomark _)) (pw_or1 (pt_cmpR op_ge (pe_op op_add (pe_callB (call_max2 rfl) (by rfl) B.max_ bt_max (pa_cons (pv 3) (pa_cons (pv 4) pa_nil))) (pv 5)) (pe_callB (call_len_seq) (by rfl) B.len_ bt_len (pa_cons (pv 0) pa_nil)) (nomark _))))))
      (pss_one (ps_ret pe_bl))
      pss_nil)
    (pss_cons (ps_set (i := 6) sc_l_certifies.nd rfl (Or.inl rfl) (pe_op op_add (pe_op op_sub (pe_ix (r := rIxL K) ix_list (pv 0) (pe_op op_add (pv 4) (pv 5)) (fun _ _ => rfl)) (pe_ix (r := rIxL K) ix_list (pv 0) (pv 4) (fun _ _ => rfl))) pe_int))
    (pss_one (ps_ret (pe_cmpR op_ge (pe_op op_sub (pe_ix (r := rIxL K) ix_list (pv 0) (pe_op op_add (pv 3) (pv 5)) (fun _ _ => rfl)) (pe_ix (r := rIxL K) ix_list (pv 0) (pv 3) (fun _ _ => rfl))) (pv 6) (nomark _)))))))))), ?_⟩
    have lm : (ns.map V.int).length = ns.length := List.length_map ..
    refine ⟨_, rfl, _, _, _, _, isT' d, rfl, .ty "tuple", dv.ty, kit_ty (kit_tup' d), isT' d, rfl, ?_⟩
    cases ht : isT' d with
    | false =>
      have e : certB ns d = false := by
        cases d <;> first | rfl | cases ht
      rw [e] at kk
      exact iteTs rfl (iteTs rfl (kk _ (Same.refl _)))
    | true =>
      cases dv with
      | tup er hs =>
        rename_i r xs ds
        refine iteFs rfl ⟨_, rfl, r, _, rfl, .inr (SqT.of er), len10 (by simp), fun p np => ?_⟩
        have s2 := sm_upd (o := .tup [.int 2, .int 4]) np
        have hl := dva_len9 hs
        refine ⟨p, _, rfl, .inr (SqT.of upd_same), rfl, rfl, _, rfl, ?_⟩
        have eL2 := s2 _ _ eL
        have er2 := s2 _ _ er
        have hs2 := Dv.kpAll (Fr.same s2).kp _ _ hs
        generalize upd H p (.tup [.int 2, .int 4]) = H2 at s2 eL2 er2 hs2 ⊢
        by_cases h24 : ds.length = 2 ∨ ds.length = 4
        · refine iteFs (by rw [in24b (by omega)]; rfl) ?_
          cases hs2 with
          | nil => simp at h24
          | cons g0 hs3 =>
            rename_i x0 xt d0 dt
            have ht2 := dva_len9 hs3
            have ld : dt.length ≤ 3 := by
              rw [List.length_cons] at h24
              omega
            refine ⟨_, rfl, r, _, _, _, rfl, rfl, SqT.of er2, atI_nat (j := 0) rfl, _, _, _, _, isS21 d0, rfl, .ty "str", g0.ty, kit_ty (kss21' d0), isS21 d0, rfl, ?_⟩
            cases hst : isS21 d0 with
            | false =>
              rw [cert_nostr hst] at kk
              exact iteTs rfl (kk _ s2)
            | true =>
              cases g0 with
              | str y =>
                refine iteFs rfl ?_
                have sx : HT.sIx (V.str y :: xt).length 0 (some 1) = 1 := by
                  rw [List.length_cons]
                  show min 1 _ = 1
                  omega
                refine ⟨_, rfl, 1, rfl, r, _, rfl, SqT.of er2, fun z => by rw [sx] at z; exact absurd z.1 (by decide), fun p2 np2 => ?_⟩
                have ec : cutV (V.str y :: xt) (some 1) none = xt := by
                  unfold cutV
                  rw [sx, HT.sIx_none, List.drop_succ_cons, List.drop_zero]
                  exact List.take_of_length_le (by rw [List.length_cons]; omega)
                rw [ec]
                have z3 := sm_upd (o := .tup xt) np2
                have e3 := upd_same (H := H2) (a := p2) (o := .tup xt)
                have s3 := s2.trans z3
                have eL3 := z3 _ _ eL2
                have er3 := z3 _ _ er2
                have hs3 := Dv.kpAll (Fr.same z3).kp _ _ hs3
                generalize upd H2 p2 (.tup xt) = H3 at s3 eL3 er3 e3 hs3 ⊢
                refine ⟨p2, rfl, ⟨_, SqT.of e3⟩, fun Y nY => ?_⟩
                refine lc_it (walk_tup (K := K) (a := p2) (xs := xt)) (fun i H' => ∃ zs, H' Y = some (.lst zs) ∧ zs.length ≤ i ∧ (zs = [] ↔ (dt.take i).all (gL ns) = true) ∧ Same H3 H') ⟨[], upd_same, Nat.le_refl _, by simp, sm_upd nY⟩ ?_ ?_ ?_
                · rintro i H7 _ ⟨_, _, _, _, s7⟩
                  exact SqT.of (s7 _ _ e3)
                · rintro i x _ H7 hi ⟨zs, eY, lz, hz, s7⟩ ⟨rfl, hx⟩
                  obtain ⟨dd, hd, dx⟩ := dva_at hs3 hx
                  have dx := Dv.kp (Fr.same s7).kp _ _ dx
                  have tk : (dt.take (i + 1)).all (gL ns) = ((dt.take i).all (gL ns) && gL ns dd) := by
                    rw [List.take_add_one, hd, List.all_append]
                    simp
                  have yes : gL ns dd = true → ∃ zs', H7 Y = some (.lst zs') ∧ zs'.length ≤ i + 1 ∧ (zs' = [] ↔ (dt.take (i + 1)).all (gL ns) = true) ∧ Same H3 H7 := fun hg => ⟨zs, eY, by omega, by rw [tk, hg, Bool.and_true]; exact hz, s7⟩
                  have no : gL ns dd = false → ∃ acc, H7 Y = some (.lst acc) ∧ acc.length < sizeLine ∧ ∃ zs', upd H7 Y (.lst (acc ++ [x])) Y = some (.lst zs') ∧ zs'.length ≤ i + 1 ∧ (zs' = [] ↔ (dt.take (i + 1)).all (gL ns) = true) ∧ Same H3 (upd H7 Y (.lst (acc ++ [x]))) := fun hg => by
                    refine ⟨zs, eY, small1000 (by omega), zs ++ [x], upd_same, by rw [List.length_append]; show zs.length + 1 ≤ i + 1; omega, ?_, fun b o eb => ?_⟩
                    · rw [tk, hg, Bool.and_false]
                      simp
                    · rw [upd_ne (ne_of_none eb nY)]
                      exact s7 _ _ eb
                  refine ⟨rfl, _, rfl, x, dd, rfl, dx, isI dd, rfl, ?_⟩
                  cases dx with
                  | int z =>
                    refine iteFs rfl ⟨_, rfl, _, _, rfl, rfl, _, rfl, ?_⟩
                    by_cases c0 : 0 ≤ z
                    · refine iteTs (decide_eq_true c0) ⟨_, rfl, L, _, rfl, .inl (SqL.of (s7 _ _ eL3)), ?_⟩
                      rw [lm]
                      refine ⟨_, _, rfl, rfl, _, rfl, ?_⟩
                      by_cases c1 : z < (ns.length : Int)
                      · exact iteFs (by rw [decide_eq_true c1]; rfl) (yes (by show (decide (0 ≤ z) && decide (z < (ns.length : Int))) = true; rw [decide_eq_true c0, decide_eq_true c1]; rfl))
                      · exact iteTs (by rw [decide_eq_false c1]; rfl) ⟨_, rfl, no (by show (decide (0 ≤ z) && decide (z < (ns.length : Int))) = false; rw [decide_eq_false c1, Bool.and_false])⟩
                    · refine iteFs (decide_eq_false c0) ⟨_, rfl, iteTs rfl ⟨_, rfl, no (by show (decide (0 ≤ z) && decide (z < (ns.length : Int))) = false; rw [decide_eq_false c0, Bool.false_and])⟩⟩
                  | _ => exact iteTs rfl (iteTs rfl ⟨_, rfl, no rfl⟩)
                rintro H7 ⟨zs, eY, lz, hz, s7⟩
                rw [ht2, List.take_of_length_le (Nat.le_refl _)] at hz
                refine ⟨Nat.zero_le _, fun W nW => ?_⟩
                have zW := sm_upd (o := .lst []) nW
                refine ⟨Y, W, zs, [], rfl, rfl, SqL.of (zW _ _ eY), SqL.of upd_same, ?_⟩
                have s8 := s3.trans (s7.trans zW)
                have z8 := s7.trans zW
                have eL8 := z8 _ _ eL3
                have er8 := z8 _ _ er3
                have hs8 := Dv.kpAll (Fr.same z8).kp _ _ hs3
                generalize upd H7 W (.lst []) = H8 at s8 eL8 er8 hs8 ⊢
                cases ha : dt.all (gL ns) with
                | false =>
                  rw [cert_out ha] at kk
                  have hzs : zs ≠ [] := fun z => by
                    have := hz.mp z
                    rw [ha] at this
                    cases this
                  exact .inl ⟨fun z => hzs (List.eq_nil_of_length_eq_zero z), _, rfl, iteTs rfl (kk _ s8)⟩
                | true =>
                  have hzs := hz.mpr ha
                  refine .inr ⟨hzs, smI_nil21 hzs, _, rfl, iteFs rfl ?_⟩
                  rcases h24 with h24 | h24
                  · obtain ⟨d1, rfl⟩ := one21 (l := dt) (by simpa using h24)
                    obtain ⟨x1, rfl⟩ := one21 (l := xt) (by rw [ht2]; rfl)
                    cases hs8 with
                    | cons g1 _ =>
                      obtain ⟨i, rfl, rfl, i0, i1⟩ := gL_inv g1 (by simpa using ha)
                      have kk : ∀ H', Same H H' → Q (.bl (decide (0 ≤ i) && (decide (V.str y = V.str "falls") && fallB ns i))) H' := kk
                      rw [decide_eq_true i0, Bool.true_and] at kk
                      refine ⟨_, rfl, r, _, rfl, .inr (SqT.of er8), rfl, _, rfl, iteTs (decide_eq_true rfl) ?_⟩
                      refine ⟨_, rfl, r, _, _, _, rfl, rfl, SqT.of er8, atI_nat (j := 0) rfl, rfl, _, rfl, ?_⟩
                      by_cases hy : V.str y = V.str "falls"
                      · rw [decide_eq_true hy, Bool.true_and] at kk
                        refine iteTs (decide_eq_true hy) ?_
                        unfold fallB at kk
                        refine ⟨_, rfl, r, _, _, _, rfl, rfl, SqT.of er8, atI_nat (j := 1) rfl, _, _, rfl, rfl, _, rfl, L, _, rfl, .inl (SqL.of eL8), ?_⟩
                        rw [lm]
                        refine ⟨_, _, rfl, rfl, _, rfl, ?_⟩
                        by_cases c0 : i + 1 < (ns.length : Int)
                        · rw [decide_eq_true c0, Bool.true_and] at kk
                          refine iteTs (decide_eq_true c0) ?_
                          refine ⟨_, rfl, _, rfl, r, _, _, _, rfl, rfl, SqT.of er8, atI_nat (j := 1) rfl, _, _, rfl, rfl, L, _, _, _, rfl, rfl, SqL.of eL8, atD (by omega) c0, ?_⟩
                          exact ⟨_, rfl, _, rfl, r, _, _, _, rfl, rfl, SqT.of er8, atI_nat (j := 1) rfl, L, _, _, _, rfl, rfl, SqL.of eL8, atD i0 (by omega), _, _, rfl, rfl, kk _ s8⟩
                        · rw [decide_eq_false c0, Bool.false_and] at kk
                          exact iteFs (decide_eq_false c0) (kk _ s8)
                      · rw [decide_eq_false hy, Bool.false_and] at kk
                        exact iteFs (decide_eq_false hy) (kk _ s8)
                  · obtain ⟨d1, d2, d3, rfl⟩ := three21 (l := dt) (by simpa using h24)
                    obtain ⟨x1, x2, x3, rfl⟩ := three21 (l := xt) (by rw [ht2]; rfl)
                    cases hs8 with
                    | cons g1 hs8 =>
                      cases hs8 with
                      | cons g2 hs8 =>
                        cases hs8 with
                        | cons g3 _ =>
                          have ha : gL ns d1 = true ∧ gL ns d2 = true ∧ gL ns d3 = true := by simpa using ha
                          obtain ⟨i, rfl, rfl, i0, i1⟩ := gL_inv g1 ha.1
                          obtain ⟨j, rfl, rfl, j0, j1⟩ := gL_inv g2 ha.2.1
                          obtain ⟨u, rfl, rfl, u0, u1⟩ := gL_inv g3 ha.2.2
                          have kk : ∀ H', Same H H' → Q (.bl ((decide (0 ≤ i) && (decide (0 ≤ j) && decide (0 ≤ u))) && (decide (V.str y = V.str "windows") && winB ns i j u))) H' := kk
                          rw [decide_eq_true i0, decide_eq_true j0, decide_eq_true u0, Bool.true_and, Bool.true_and, Bool.true_and] at kk
                          refine ⟨_, rfl, r, _, rfl, .inr (SqT.of er8), rfl, _, rfl, iteFs rfl ?_⟩
                          refine ⟨_, rfl, r, _, rfl, SqT.of er8, rfl, _, _, rfl, _, _, rfl, _, _, rfl, _, _, rfl, rfl, ?_⟩
                          refine ⟨_, rfl, rfl, _, rfl, ?_⟩
                          by_cases hy : V.str y = V.str "windows"
                          · rw [decide_eq_true hy, Bool.true_and] at kk
                            refine iteFs (by rw [decide_eq_true hy]; rfl) ⟨_, rfl, _, _, rfl, rfl, _, rfl, ?_⟩
                            unfold winB at kk
                            by_cases c0 : u < 1
                            · rw [decide_eq_false (show ¬ 1 ≤ u by omega), Bool.false_and, Bool.false_and] at kk
                              exact iteTs (decide_eq_true c0) (iteTs rfl (kk _ s8))
                            · rw [decide_eq_true (show 1 ≤ u by omega), Bool.true_and] at kk
                              refine iteFs (decide_eq_false c0) ?_
                              generalize hmx : (if j > i then j else i) = mx at kk
                              have m0 : 0 ≤ mx ∧ i ≤ mx ∧ j ≤ mx := by
                                rw [← hmx]
                                split <;> omega
                              refine ⟨_, rfl, _, rfl, _, _, rfl, _, rfl, _, _, rfl, rfl, _, rfl, L, _, rfl, .inl (SqL.of eL8), ?_⟩
                              rw [lm, hmx]
                              refine ⟨_, _, rfl, rfl, _, rfl, ?_⟩
                              by_cases c1 : mx + u < (ns.length : Int)
                              · rw [decide_eq_true c1, Bool.true_and] at kk
                                refine iteFs (decide_eq_false (show ¬ (ns.length : Int) ≤ mx + u by omega)) ?_
                                refine ⟨_, rfl, _, rfl, _, rfl, _, _, rfl, rfl, L, _, _, _, rfl, rfl, SqL.of eL8, atD (by omega) (by omega), _, rfl, _, rfl, L, _, _, _, rfl, rfl, SqL.of eL8, atD (by omega) (by omega), _, _, rfl, rfl, _, _, rfl, rfl, ?_⟩
                                exact ⟨_, rfl, _, rfl, _, rfl, _, _, rfl, rfl, L, _, _, _, rfl, rfl, SqL.of eL8, atD (by omega) (by omega), _, rfl, _, rfl, L, _, _, _, rfl, rfl, SqL.of eL8, atD (by omega) (by omega), _, _, rfl, rfl, _, rfl, _, _, rfl, rfl, kk _ s8⟩
                              · rw [decide_eq_false c1, Bool.false_and] at kk
                                exact iteTs (decide_eq_true (show (ns.length : Int) ≤ mx + u by omega)) (kk _ s8)
                          · rw [decide_eq_false hy, Bool.false_and] at kk
                            exact iteTs (by rw [decide_eq_false hy]; rfl) (iteTs rfl (kk _ s8))
              | _ => cases hst
        · rw [cert_len h24] at kk
          exact iteTs (by rw [nin24 (by omega)]; rfl) (iteTs rfl (kk _ s2))
      | _ => cases ht
end
end Lf
namespace Lf
open PySem PySem.Spec PyProof.Rows L2
theorem at_map {cs : List Int} {i : Nat} {x : V} (h : (cs.map V.int)[i]? = some x) : ∃ c, c ∈ cs ∧ x = .int c := by
  rw [List.getElem?_map] at h
  cases e : cs[i]? with
  | none =>
    rw [e] at h
    cases h
  | some c =>
    rw [e] at h
    cases h
    exact ⟨c, List.mem_of_getElem? e, rfl⟩
theorem at_in {xs : List V} {d : Int} (h0 : 0 ≤ d) (h1 : d < (xs.length : Int)) : ∃ x, atI xs d = some x ∧ x ∈ xs := by
  obtain ⟨j, rfl⟩ := Int.eq_ofNat_of_zero_le h0
  have hj : j < xs.length := by omega
  exact ⟨_, atI_nat (List.getElem?_eq_getElem hj), List.getElem_mem hj⟩
theorem at_ints {ns : List Int} {d : Int} (h0 : 0 ≤ d) (h1 : d < (ns.length : Int)) : ∃ x, atI (ns.map V.int) d = some (.int x) ∧ x ∈ ns ∧ ns[d.toNat]? = some x := by
  obtain ⟨j, rfl⟩ := Int.eq_ofNat_of_zero_le h0
  have hj : j < ns.length := by omega
  have e : ns[j]? = some ns[j] := List.getElem?_eq_getElem hj
  exact ⟨ns[j], atI_nat (by rw [List.getElem?_map, e]; rfl), List.getElem_mem hj, e⟩
theorem ixN_in {n : Nat} {d : Int} (h0 : 0 ≤ d) (h1 : d < (n : Int)) : ixN n d = some d.toNat := by
  unfold ixN
  rw [if_pos h0, if_pos h1]
/-- a list of ints, within k bits -/
structure Row (H : Hp) (R : Addr) (k : Nat) (ns : List Int) : Prop where
  e : H R = some (.lst (ns.map V.int))
  b : ∀ z ∈ ns, Bd k z
theorem Row.fr {H H' : Hp} {R : Addr} {k : Nat} {ns : List Int} (h : Row H R k ns) (f : Fr H H') : Row H' R k ns := ⟨f.l _ _ h.e, h.b⟩
theorem Row.mono {H : Hp} {R : Addr} {k j : Nat} {ns : List Int} (h : Row H R k ns) (l : k ≤ j) : Row H R j ns := ⟨h.e, fun z hz => (h.b z hz).mono l⟩
theorem bd_count {k : Nat} {p q c t : Int} (k0 : 0 < k) (R : RuleB k p q c) (bt : Bd k t) : Bd (2 * k + 1) ((p * t + c) / q) :=
  Bd.ediv (Bd.add ((Bd.mul R.bp bt).mono (by omega : k + k ≤ 2 * k)) (R.bc.mono (by omega))) (by have := R.q1; omega)
theorem set_ints (ns : List Int) (j : Nat) (x : Int) : (ns.map V.int).set j (.int x) = (ns.set j x).map V.int := by
  rw [List.map_set]
section
variable {P : Program} {w : World} {K : PySem.W.Frag} {mg : Str → Option Value} {base : Heap}
def spPat22 : Sp := fun vs H Q _ => ∃ (r : Addr) (p q c wd t : Int) (b : Nat), vs = [.ref r, .int wd, .int t] ∧ H r = some (tup3 p q c) ∧ RuleB b p q c ∧ 0 ≤ wd ∧ wd ≤ 500 ∧ Bd b t ∧ 20 ≤ b ∧ b ≤ 1000 ∧
  ∀ L H' ns, H L = none → Same H H' → Row H' L (2 * b + 6) ns → ns.length = wd.toNat → Q (.ref L) H'
abbrev s_l_pattern : Stmt := topS 30
abbrev N_l_pattern : List Str := ["_law_rule_here", "_law_width", "_law_start", "_law_k"]
abbrev P_l_pattern : List Str := ["_law_rule_here", "_law_width", "_law_start"]
theorem sc_l_pattern : FnScope N_l_pattern P_l_pattern (defScope s_l_pattern) := ⟨rfl, rfl, rfl, by decide +kernel, rfl, by decide +kernel, by decide +kernel⟩
theorem ok_l_pattern (D : Df K mg "_law_pattern" s_l_pattern P_l_pattern) (B : Bi mg) (c_l_tally : C8.Cal P w K mg base 1 "_law_tally" spTally []) : C8.Cal P w K mg base 2 "_law_pattern" spPat22 [] := by
  refine cal_of D sc_l_pattern (fun vs H Q E h => ?_) (fun f cdv A outer s H vs Q E hr h => ?_)
  · obtain ⟨r, p, q, c, wd, t, b, rfl, _⟩ := h
    rfl
  · obtain ⟨r, p, q, c, wd, t, b, rfl, er, R, h0, h5, bt, b2, b1, kk⟩ := h
    refine ⟨_, (pss_one (ps_ret (pe_lc (own := [("_law_k", 3)]) (g := (gName 3)) (by rfl) sc_l_pattern.nd (pi_range1 rfl B.range_ (pa_cons (pv 1) pa_nil)) (blkOk_by (own := [("_law_k", 3)]) (N := N_l_pattern) (sc := defScope s_l_pattern) (by decide +kernel)) (fun _ _ _ _ _ => (pg_name (i := 3) sc_l_pattern.nd rfl (Or.inl rfl))) (fun _ _ _ _ _ => pts_nil) (fun _ _ _ _ _ => (pe_op op_sub (C8.pe_c c_l_tally hr (by decide) (by rfl) (pa_cons (pv 0) (pa_cons (pe_op op_add (pe_op op_add (pv 2) (pv 3)) pe_int) pa_nil))) (C8.pe_c c_l_tally hr (by decide) (by rfl) (pa_cons (pv 0) (pa_cons (pe_op op_add (pv 2) (pv 3)) pa_nil)))))))), ?_⟩
    refine ⟨_, rfl, _, rfl, by omega, by omega, fun L nL => ?_⟩
    refine lc_range (lo := 0) (n := wd.toNat) (fun j H' => Same H H' ∧ ∃ ns, Row H' L (2 * b + 6) ns ∧ ns.length = j) ⟨sm_upd nL, [], ⟨upd_same, fun _ z => (nomatch z)⟩, rfl⟩ ?_ ?_
    · rintro j H' hj ⟨s1, ns, eL, ln⟩
      have er' := s1 _ _ er
      have bj : Bd (b + 1) (t + (0 + (j : Int))) := Bd.add bt (Bd.small 20 (by omega) b2)
      have bj2 : Bd (b + 2) (t + (0 + (j : Int)) + 1) := Bd.add bj (Bd.small 1 (by decide) (by omega))
      refine ⟨rfl, _, rfl, _, rfl, _, rfl, _, _, rfl, rfl, _, _, rfl, rfl, r, p, q, c, _, b + 2, rfl, er', R.mono (by omega), bj2, by omega, by omega, ?_⟩
      refine ⟨_, rfl, _, rfl, _, rfl, _, _, rfl, rfl, r, p, q, c, _, b + 1, rfl, er', R.mono (by omega), bj, by omega, by omega, ?_⟩
      refine ⟨_, _, rfl, rfl, _, eL.e, ?_, ?_, ns ++ [(p * (t + (0 + (j : Int)) + 1) + c) / q - (p * (t + (0 + (j : Int))) + c) / q], ⟨?_, fun z hz => ?_⟩, ?_⟩
      · rw [List.length_map, ln]
        exact small1000 (by omega)
      · intro b' o eb
        rw [upd_ne (ne_of_none eb nL)]
        exact s1 _ _ eb
      · rw [upd_same, List.map_append]
        rfl
      · rcases List.mem_append.mp hz with g | g
        · exact eL.b z g
        · rw [List.mem_singleton.mp g]
          exact (Bd.sub (bd_count (by omega) (R.mono (by omega)) bj2) ((bd_count (by omega) (R.mono (by omega)) bj).mono (by omega))).mono (by omega)
      · rw [List.length_append, ln]
        rfl
    · rintro H' ⟨s1, ns, eL, ln⟩
      exact kk L H' ns nL s1 eL ln
def spLongRow : Sp := fun vs H Q _ => ∃ (a : PA) (n : Nat), vs = [.ref a, .int 200] ∧ Pen H a n ∧ n < 2 ^ 36 ∧ ∀ R H' ns, Row H' R 420 ns → 1 ≤ ns.length → ns.length ≤ 200 → Pen H' a (n + 200) → Fr H H' → Q (.ref R) H'
abbrev s_l_long_row : Stmt := topS 35
abbrev N_l_long_row : List Str := ["_law_pen_here", "_law_size", "_law_rule_here", "_law_many", "_law_steps", "_law_at", "_law_to", "_law_kept", "_law_row_here", "_law_step"]
abbrev P_l_long_row : List Str := ["_law_pen_here", "_law_size"]
theorem sc_l_long_row : FnScope N_l_long_row P_l_long_row (defScope s_l_long_row) := ⟨rfl, rfl, rfl, by decide +kernel, rfl, by decide +kernel, by decide +kernel⟩
theorem ok_l_long_row (D : Df K mg "_law_long_row" s_l_long_row P_l_long_row) (B : Bi mg) (c_l_draw : C8.Cal P w K mg base 1 "_law_draw" spDraw []) (c_l_pick : C8.Cal P w K mg base 2 "_law_pick" spPick []) (c_l_signed : C8.Cal P w K mg base 3 "_law_signed" spSigned []) (c_l_rule : C8.Cal P w K mg base 3 "_law_rule" spRule []) (c_l_far_rule : C8.Cal P w K mg base 4 "_law_far_rule" spFar []) (c_l_pattern : C8.Cal P w K mg base 2 "_law_pattern" spPat22 []) : C8.Cal P w K mg base 5 "_law_long_row" spLongRow [] := by
  refine cal_of D sc_l_long_row (fun vs H Q E h => ?_) (fun f cdv A outer s H vs Q E hr h => ?_)
  · obtain ⟨a, n, rfl, _⟩ := h
    rfl
  · obtain ⟨a, n, rfl, hP, hn, kk⟩ := h
    refine ⟨_, (pss_cons (ps_par (i := 2) (j := 3) rfl sc_l_long_row.nd rfl rfl (by decide) rfl rfl (pa_cons (C8.pe_c c_l_pick hr (by decide) (by rfl) (pa_cons (pv 0) (pa_cons (pe_lst (pa_cons (C8.pe_c c_l_rule hr (by decide) (by rfl) (pa_cons (pv 0) (pa_cons pe_int pa_nil))) (pa_cons (C8.pe_c c_l_far_rule hr (by decide) (by rfl) (pa_cons (pv 0) (pa_cons pe_int pa_nil))) pa_nil))) pa_nil))) (pa_cons (pe_op op_add pe_int (C8.pe_c c_l_draw hr (by decide) (by rfl) (pa_cons (pv 0) (pa_cons (pe_op op_sub (pv 1) pe_int) pa_nil)))) pa_nil)) rfl)
    (pss_cons (ps_par (i := 4) (j := 5) rfl sc_l_long_row.nd rfl rfl (by decide) rfl rfl (pa_cons (C8.pe_c c_l_pattern hr (by decide) (by rfl) (pa_cons (pv 2) (pa_cons (pv 3) (pa_cons (C8.pe_c c_l_signed hr (by decide) (by rfl) (pa_cons (pv 0) (pa_cons pe_int pa_nil))) pa_nil)))) (pa_cons (C8.pe_c c_l_draw hr (by decide) (by rfl) (pa_cons (pv 0) (pa_cons (pv 3) pa_nil))) pa_nil)) rfl)
    (pss_cons (ps_set (i := 6) sc_l_long_row.nd rfl (Or.inl rfl) (C8.pe_c c_l_pick hr (by decide) (by rfl) (pa_cons (pv 0) (pa_cons (pe_lst (pa_cons (pv 5) (pa_cons (pe_op op_mod (pe_op op_add (pv 5) pe_int) (pv 3)) (pa_cons (pe_op op_mod (pe_op op_add (pe_op op_add (pv 5) pe_int) (C8.pe_c c_l_draw hr (by decide) (by rfl) (pa_cons (pv 0) (pa_cons pe_int pa_nil)))) (pv 3)) (pa_cons (C8.pe_c c_l_draw hr (by decide) (by rfl) (pa_cons (pv 0) (pa_cons (pv 3) pa_nil))) pa_nil))))) pa_nil))))
    (pss_cons (ps_set (i := 7) sc_l_long_row.nd rfl (Or.inl rfl) (pe_ix (r := rIxL K) ix_list (pv 4) (pv 5) (fun _ _ => rfl)))
    (pss_cons (ps_asg (pe_ix (r := rIxL K) ix_list (pv 4) (pv 6) (fun _ _ => rfl)) (pg_sub (pv 4) (pv 5) set_list))
    (pss_cons (ps_asg (pv 7) (pg_sub (pv 4) (pv 6) set_list))
    (pss_cons (ps_set (i := 8) sc_l_long_row.nd rfl (Or.inl rfl) (pe_lst (pa_cons (C8.pe_c c_l_signed hr (by decide) (by rfl) (pa_cons (pv 0) (pa_cons pe_int pa_nil))) pa_nil)))
    (pss_cons (ps_for PassesOwn.never rfl (pi_list (pv 4)) (pg_name (i := 9) sc_l_long_row.nd rfl (Or.inl rfl))
      (pss_one (ps_expr (pe_bm PySem.F.plainAttrs_list PySem.F.slot_list_append PySem.F.type_list_append mt_append (pv 8) (pa_cons (pe_op op_add (pe_ix (r := rIxL K) ix_list (pv 8) (pe_un un_neg pe_int) (fun _ _ => rfl)) (pv 9)) pa_nil)))))
    (pss_one (ps_ret (pv 8))))))))))), ?_⟩
    refine ⟨_, rfl, _, rfl, a, n, 60, rfl, hP, by omega, by decide, by decide, fun r1 p1 q1 c1 H1 R1 _ _ e1 hP1 f1 => ?_⟩
    refine ⟨_, rfl, a, _, 12, rfl, hP1, by omega, by decide, by decide, fun r2 p2 q2 c2 H2 R2 e2 hP2 f2 => ?_⟩
    refine ⟨len10 (by simp), fun O nO => ?_⟩
    have zO := sm_upd (o := .lst [.ref r1, .ref r2]) nO
    refine ⟨a, O, _, _, rfl, hP2.same zO, by omega, upd_same, by simp, by simp, fun x H3 hx hP3 f3 => ?_⟩
    obtain ⟨r, p, q, c, rfl, er, R⟩ : ∃ r p q c, x = .ref r ∧ H3 r = some (tup3 p q c) ∧ RuleB 101 p q c := by
      simp only [List.mem_cons, List.not_mem_nil, or_false] at hx
      rcases hx with rfl | rfl
      · exact ⟨r1, p1, q1, c1, rfl, f3.t _ _ (zO _ _ (f2.t _ _ e1)), R1.mono (by decide)⟩
      · exact ⟨r2, p2, q2, c2, rfl, f3.t _ _ (zO _ _ e2), R2.mono (by decide)⟩
    have f03 := f1.trans (f2.trans ((Fr.same zO).trans f3))
    have hP3 : Pen H3 a (n + 60) := hP3.mono (by
      show n + 8 + (9 + 4 * ((12 : Int) / 6).toNat) + 1 ≤ n + 60
      rw [show ((12 : Int) / 6).toNat = 2 by decide]
      omega)
    refine ⟨_, rfl, _, rfl, _, _, rfl, rfl, a, _, _, rfl, hP3, by omega, by omega, Bd.small 20 (by decide) (by decide), fun d4 H4 d40 d41 hP4 f4 => ?_⟩
    refine ⟨_, _, rfl, rfl, _, _, rfl, ?_⟩
    have d41 : d4 < 181 := by omega
    obtain ⟨m, hm⟩ : ∃ m : Int, 19 + d4 = m := ⟨_, rfl⟩
    dsimp only
    rw [hm]
    have m0 : 19 ≤ m := by omega
    have m1 : m ≤ 199 := by omega
    clear hm d40 d41 hP1 hP2 f1 f2 zO nO hx e1 e2
    refine ⟨_, rfl, _, rfl, _, rfl, a, _, 30, rfl, hP4, by omega, by decide, by decide, fun t H5 bt hP5 f5 => ?_⟩
    have f35 := f4.trans f5
    refine ⟨r, p, q, c, m, t, 101, rfl, f35.t _ _ er, R, by omega, by omega, bt.mono (by decide), by decide, by decide, fun S H6 ns nS s6 rw6 ln => ?_⟩
    refine ⟨_, rfl, _, rfl, a, _, _, rfl, hP5.same s6, by omega, by omega, Bd.small 20 (by omega) (by decide), fun at_ H7 at0 at1 hP7 f7 => ?_⟩
    refine ⟨_, _, rfl, ?_⟩
    have f05 := f03.trans f35
    have f57 := (Fr.same s6).trans f7
    have rw7 := rw6.fr f7
    have hP7 : Pen H7 a (n + 80) := hP7.mono (by
      show n + 60 + 1 + 5 + ((30 : Int) / 6).toNat + 1 ≤ n + 80
      rw [show ((30 : Int) / 6).toNat = 5 by decide]
      omega)
    have nl : (ns.length : Int) = m := by omega
    clear s6 rw6 f7 f35 f4 f5 hP4 hP3 f03 f3
    refine ⟨_, rfl, _, rfl, _, rfl, _, _, rfl, rfl, _, rfl, _, _, rfl, rfl, by omega, ?_⟩
    refine ⟨_, rfl, _, _, rfl, rfl, _, rfl, a, _, _, rfl, hP7, by omega, by decide, Bd.small 20 (by decide) (by decide), fun d8 H8 d80 d81 hP8 f8 => ?_⟩
    refine ⟨_, _, rfl, rfl, _, rfl, _, _, rfl, rfl, by omega, ?_⟩
    refine ⟨_, rfl, _, rfl, a, _, _, rfl, hP8, by omega, by omega, Bd.small 20 (by omega) (by decide), fun d9 H9 d90 d91 hP9 f9 => ?_⟩
    refine ⟨len10 (by simp), fun O nO => ?_⟩
    have zO := sm_upd (o := .lst [.int at_, .int ((at_ + 1) % m), .int ((at_ + 1 + d8) % m), .int d9]) nO
    refine ⟨a, O, _, _, rfl, hP9.same zO, by omega, upd_same, by simp, by simp, fun x H10 hx hP10 f10 => ?_⟩
    obtain ⟨to, rfl, to0, to1⟩ : ∃ to : Int, x = .int to ∧ 0 ≤ to ∧ to < m := by
      simp only [List.mem_cons, List.not_mem_nil, or_false] at hx
      rcases hx with rfl | rfl | rfl | rfl
      · exact ⟨_, rfl, at0, at1⟩
      · exact ⟨_, rfl, Int.emod_nonneg _ (by omega), Int.emod_lt_of_pos _ (by omega)⟩
      · exact ⟨_, rfl, Int.emod_nonneg _ (by omega), Int.emod_lt_of_pos _ (by omega)⟩
      · exact ⟨_, rfl, d90, d91⟩
    have f710 := f8.trans (f9.trans ((Fr.same zO).trans f10))
    have rw10 := rw7.fr f710
    have f510 := f57.trans f710
    have hP10 : Pen H10 a (n + 90) := hP10.mono (by omega)
    clear hx zO nO f8 f9 f10 hP8 hP9 hP7 f57 f710 rw7
    obtain ⟨x1, hx1, mx1, _⟩ := at_ints (ns := ns) at0 (by omega)
    obtain ⟨x2, hx2, mx2, _⟩ := at_ints (ns := ns) to0 (by omega)
    refine ⟨_, rfl, _, rfl, S, _, _, _, rfl, rfl, SqL.of rw10.e, hx1, ?_⟩
    refine ⟨_, rfl, _, rfl, S, _, _, _, rfl, rfl, SqL.of rw10.e, hx2, ?_⟩
    refine ⟨_, rfl, _, rfl, S, _, _, _, rfl, rfl, rw10.e, ixN_in at0 (by rw [List.length_map]; omega), ?_⟩
    rw [set_ints]
    have rwa : Row (upd H10 S (.lst ((ns.set at_.toNat x2).map V.int))) S 208 (ns.set at_.toNat x2) := ⟨upd_same, fun z hz => by
      rcases List.mem_or_eq_of_mem_set hz with g | g
      · exact rw10.b z g
      · rw [g]
        exact rw10.b _ mx2⟩
    have fa := f510.over nS (o := .lst ((ns.set at_.toNat x2).map V.int))
    have hPa : Pen (upd H10 S (.lst ((ns.set at_.toNat x2).map V.int))) a (n + 90) := hP5.over nS hP10
    generalize upd H10 S (.lst ((ns.set at_.toNat x2).map V.int)) = Ha at rwa fa hPa ⊢
    refine ⟨_, rfl, _, rfl, _, rfl, S, _, _, _, rfl, rfl, rwa.e, ixN_in to0 (by rw [List.length_map, List.length_set]; omega), ?_⟩
    rw [set_ints]
    have rwb : Row (upd Ha S (.lst (((ns.set at_.toNat x2).set to.toNat x1).map V.int))) S 208 ((ns.set at_.toNat x2).set to.toNat x1) := ⟨upd_same, fun z hz => by
      rcases List.mem_or_eq_of_mem_set hz with g | g
      · exact rwa.b z g
      · rw [g]
        exact rw10.b _ mx1⟩
    have fb := fa.over nS (o := .lst (((ns.set at_.toNat x2).set to.toNat x1).map V.int))
    have hPb : Pen (upd Ha S (.lst (((ns.set at_.toNat x2).set to.toNat x1).map V.int))) a (n + 90) := hP5.over nS hPa
    generalize upd Ha S (.lst (((ns.set at_.toNat x2).set to.toNat x1).map V.int)) = Hb at rwb fb hPb ⊢
    have lnb : ((ns.set at_.toNat x2).set to.toNat x1).length = ns.length := by rw [List.length_set, List.length_set]
    generalize (ns.set at_.toNat x2).set to.toNat x1 = ms at rwb lnb ⊢
    refine ⟨_, rfl, a, _, 30, rfl, hPb, by omega, by decide, by decide, fun g H11 bg hP11 f11 => ?_⟩
    have bg : Bd 100 g := bg
    have hP11 : Pen H11 a (n + 150) := hP11.mono (by
      show n + 90 + 5 + ((30 : Int) / 6).toNat ≤ n + 150
      rw [show ((30 : Int) / 6).toNat = 5 by decide]
      omega)
    refine ⟨len10 (by simp), fun Rr nR => ?_⟩
    have rwc := rwb.fr f11
    have f011 := f05.trans (fb.trans f11)
    refine ⟨_, rfl, S, rfl, ⟨_, SqL.of ((Fr.new nR).l _ _ rwc.e)⟩, ?_⟩
    refine for_list (K := K) (a := S) (xs := ms.map V.int) (fun i σ H' => ∃ (rs : List Int) (z : Int) (y : Option V), σ = [some (.ref a), some (.int 200), some (.ref r), some (.int m), some (.ref S), some (.int at_), some (.int to), some (.int x1), some (.ref Rr), y] ∧ Row H' Rr (210 + i) (rs ++ [z]) ∧ rs.length = i ∧ Fr H11 H' ∧ Pen H' a (n + 150)) ?_ ?_ ?_ ?_
    · refine ⟨[], g, _, rfl, ⟨upd_same, fun z hz => ?_⟩, rfl, Fr.new nR, hP11.new nR⟩
      rw [List.mem_singleton.mp hz]
      exact bg.mono (by omega)
    · rintro i σ H' _ ⟨_, _, _, _, _, _, f', _⟩
      exact SqL.of (f'.l _ _ rwc.e)
    · rintro i v σ H' hv ⟨rs, z, y, rfl, rw', lr, f', hP'⟩
      obtain ⟨st, ms', rfl⟩ := at_map hv
      have hi : i < ms.length := by
        have := (List.getElem?_eq_some_iff.mp hv).1
        rw [List.length_map] at this
        exact this
      have e' := rw'.e
      have e2 : H' Rr = some (.lst (rs.map V.int ++ [.int z])) := by
        rw [e', List.map_append]
        rfl
      refine ⟨_, rfl, .inl ⟨rfl, _, SqL.of e2⟩, _, rfl, 1, rfl, Rr, _, _, _, rfl, rfl, SqL.of e2, atI_last _ _, _, rfl, _, _, rfl, rfl, Rr, _, _, rfl, rfl, e2, ltS (by rw [List.length_append, List.length_map]; simp; omega), ?_⟩
      refine ⟨rs ++ [z], z + st, _, rfl, ⟨?_, fun x hx => ?_⟩, by rw [List.length_append, lr]; rfl, f'.over nR, hP11.over nR hP'⟩
      · rw [upd_same, List.map_append, List.map_append]
        rfl
      · rcases List.mem_append.mp hx with q | q
        · exact (rw'.b x q).mono (by omega)
        · rw [List.mem_singleton.mp q]
          exact Bd.add (rw'.b z (by simp)) ((rwc.b st ms').mono (show 208 ≤ 210 + i by omega))
    · rintro σ H' ⟨rs, z, y, rfl, rw', lr, f', hP'⟩
      rw [List.length_map] at lr
      refine ⟨_, rfl, kk Rr H' (rs ++ [z]) (rw'.mono (by rw [List.length_map]; omega)) (by simp) ?_ (hP'.mono (by omega)) (f011.trans f')⟩
      rw [List.length_append, List.length_singleton]
      omega
end
end Lf
namespace Lf
open PySem PySem.Spec PyProof.Rows L2
theorem bint (b : Bool) : Bd 1 (if b = true then 1 else 0) := by
  cases b <;> exact Bd.small 1 (by decide) (by decide)
theorem row_app {k : Nat} {xs ys : List Int} (h : ∀ z ∈ xs, Bd k z) (h2 : ∀ z ∈ ys, Bd k z) : ∀ z ∈ xs ++ ys, Bd k z := fun z hz => (List.mem_append.mp hz).elim (h z) (h2 z)
theorem cut_drop (xs : List V) (m : Int) (h : 0 ≤ m) : cutV xs (some m) none = xs.drop m.toNat := by
  obtain ⟨j, rfl⟩ := Int.eq_ofNat_of_zero_le h
  unfold cutV
  rw [HT.sIx_none, HT.sIx_nat]
  rcases Nat.le_total j xs.length with q | q
  · rw [Nat.min_eq_left q]
    exact List.take_of_length_le (by rw [List.length_drop]; exact Nat.le_refl _)
  · rw [Nat.min_eq_right q, List.drop_of_length_le (Nat.le_refl _)]
    show List.take _ [] = List.drop j xs
    rw [List.take_nil, List.drop_of_length_le q]
section
variable {P : Program} {w : World} {K : PySem.W.Frag} {mg : Str → Option Value} {base : Heap}
def spRowM : Sp := fun vs H Q _ => ∃ (a : PA) (n : Nat) (mw : Int), vs = [.ref a, .int mw] ∧ Pen H a n ∧ n < 2 ^ 36 ∧ 1 ≤ mw ∧ mw ≤ 16 ∧ ∀ R H' ns, Row H' R 400 ns → 1 ≤ ns.length → ns.length ≤ 16 → Pen H' a (n + 400) → Fr H H' → Q (.ref R) H'
abbrev s_l_row : Stmt := topS 31
abbrev N_l_row : List Str := ["_law_pen_here", "_law_size", "_law_rule_here", "_law_start", "_law_row_here", "_law_road", "_law_again", "_law_at", "_law_far", "_law_k", "_law_one"]
abbrev P_l_row : List Str := ["_law_pen_here", "_law_size"]
theorem sc_l_row : FnScope N_l_row P_l_row (defScope s_l_row) := ⟨rfl, rfl, rfl, by decide +kernel, rfl, by decide +kernel, by decide +kernel⟩
theorem ok_l_row (D : Df K mg "_law_row" s_l_row P_l_row) (B : Bi mg) (c_l_draw : C8.Cal P w K mg base 1 "_law_draw" spDraw []) (c_l_pick : C8.Cal P w K mg base 2 "_law_pick" spPick []) (c_l_signed : C8.Cal P w K mg base 3 "_law_signed" spSigned []) (c_l_rule : C8.Cal P w K mg base 3 "_law_rule" spRule []) (c_l_far_rule : C8.Cal P w K mg base 4 "_law_far_rule" spFar []) (c_l_tally : C8.Cal P w K mg base 1 "_law_tally" spTally []) : C8.Cal P w K mg base 5 "_law_row" spRowM [] := by
  refine cal_of D sc_l_row (fun vs H Q E h => ?_) (fun f cdv A outer s H vs Q E hr h => ?_)
  · obtain ⟨a, n, mw, rfl, _⟩ := h
    rfl
  · obtain ⟨a, n, mw, rfl, hP, hn, mw1, mw2, kk⟩ := h
    refine ⟨_, (pss_cons (ps_asg (pe_tup (pa_cons (C8.pe_c c_l_pick hr (by decide) (by rfl) (pa_cons (pv 0) (pa_cons (pe_lst (pa_cons (C8.pe_c c_l_rule hr (by decide) (by rfl) (pa_cons (pv 0) (pa_cons pe_int pa_nil))) (pa_cons (C8.pe_c c_l_far_rule hr (by decide) (by rfl) (pa_cons (pv 0) (pa_cons pe_int pa_nil))) pa_nil))) pa_nil))) (pa_cons (C8.pe_c c_l_signed hr (by decide) (by rfl) (pa_cons (pv 0) (pa_cons pe_int pa_nil))) pa_nil))) (pg_tup rfl (pgs_cons (pg_name (i := 2) sc_l_row.nd rfl (Or.inr rfl)) (pgs_cons (pg_name (i := 3) sc_l_row.nd rfl (Or.inr rfl)) pgs_nil))))
    (pss_cons (ps_asg (pe_tup (pa_cons (pe_lc (own := [("_law_k", 9)]) (g := (gName 9)) (by rfl) sc_l_row.nd (pi_range1 rfl B.range_ (pa_cons (pe_op op_add pe_int (C8.pe_c c_l_draw hr (by decide) (by rfl) (pa_cons (pv 0) (pa_cons (pv 1) pa_nil)))) pa_nil)) (blkOk_by (own := [("_law_k", 9)]) (N := N_l_row) (sc := defScope s_l_row) (by decide +kernel)) (fun _ _ _ _ _ => (pg_name (i := 9) sc_l_row.nd rfl (Or.inl rfl))) (fun _ _ _ _ _ => pts_nil) (fun _ _ _ _ _ => (C8.pe_c c_l_tally hr (by decide) (by rfl) (pa_cons (pv 2) (pa_cons (pe_op op_add (pv 3) (pv 9)) pa_nil))))) (pa_cons (C8.pe_c c_l_draw hr (by decide) (by rfl) (pa_cons (pv 0) (pa_cons pe_int pa_nil))) pa_nil))) (pg_tup rfl (pgs_cons (pg_name (i := 4) sc_l_row.nd rfl (Or.inr rfl)) (pgs_cons (pg_name (i := 5) sc_l_row.nd rfl (Or.inl rfl)) pgs_nil))))
    (pss_cons (ps_if (pt_cmpR op_eq (pv 5) pe_int (nomark _))
      (pss_one (ps_ret (pe_lc (own := [("_law_one", 10)]) (g := (gName 10)) (by rfl) sc_l_row.nd (pi_list (pv 4)) (blkOk_by (own := [("_law_one", 10)]) (N := N_l_row) (sc := defScope s_l_row) (by decide +kernel)) (fun _ _ _ _ _ => (pg_name (i := 10) sc_l_row.nd rfl (Or.inl rfl))) (fun _ _ _ _ _ => pts_nil) (fun _ _ _ _ _ => (C8.pe_c c_l_signed hr (by decide) (by rfl) (pa_cons (pv 0) (pa_cons pe_int pa_nil)))))))
      pss_nil)
    (pss_cons (ps_for PassesOwn.never rfl (pi_range1 rfl B.range_ (pa_cons (pe_op op_sub (pv 5) pe_int) pa_nil)) (pg_name (i := 6) sc_l_row.nd rfl (Or.inl rfl))
      (pss_cons (ps_asg (pe_tup (pa_cons (C8.pe_c c_l_draw hr (by decide) (by rfl) (pa_cons (pv 0) (pa_cons (pe_callB (call_len_seq) (by rfl) B.len_ bt_len (pa_cons (pv 4) pa_nil)) pa_nil))) (pa_cons (C8.pe_c c_l_pick hr (by decide) (by rfl) (pa_cons (pv 0) (pa_cons (pe_lst (pa_cons pe_int (pa_cons (pe_un un_neg pe_int) (pa_cons (C8.pe_c c_l_signed hr (by decide) (by rfl) (pa_cons (pv 0) (pa_cons pe_int pa_nil))) pa_nil)))) pa_nil))) pa_nil))) (pg_tup rfl (pgs_cons (pg_name (i := 7) sc_l_row.nd rfl (Or.inr rfl)) (pgs_cons (pg_name (i := 8) sc_l_row.nd rfl (Or.inr rfl)) pgs_nil))))
    (pss_one (ps_set (i := 4) sc_l_row.nd rfl (Or.inr rfl) (pe_lc (own := [("_law_k", 9)]) (g := (gName 9)) (by rfl) sc_l_row.nd (pi_range1 rfl B.range_ (pa_cons (pe_callB (call_len_seq) (by rfl) B.len_ bt_len (pa_cons (pv 4) pa_nil)) pa_nil)) (blkOk_by (own := [("_law_k", 9)]) (N := N_l_row) (sc := defScope s_l_row) (by decide +kernel)) (fun _ _ _ _ _ => (pg_name (i := 9) sc_l_row.nd rfl (Or.inl rfl))) (fun _ _ _ _ _ => pts_nil) (fun _ _ _ _ _ => (pe_op op_add (pe_ix (r := rIxL K) ix_list (pv 4) (pv 9) (fun _ _ => rfl)) (pe_op op_mulW (pv 8) (pe_callTy (call_int1) (by rfl) B.int_ bt_int (pa_cons (pe_cmpR op_ge (pv 9) (pv 7) (nomark _)) pa_nil))))))))))
    (pss_cons (ps_if (pt_cmpR op_eq (pv 5) pe_int (nomark _))
      (pss_cons (ps_set (i := 7) sc_l_row.nd rfl (Or.inr rfl) (C8.pe_c c_l_draw hr (by decide) (by rfl) (pa_cons (pv 0) (pa_cons (pe_callB (call_len_seq) (by rfl) B.len_ bt_len (pa_cons (pv 4) pa_nil)) pa_nil))))
    (pss_one (ps_set (i := 4) sc_l_row.nd rfl (Or.inr rfl) (pe_op op_cat (pe_op op_cat (pe_slice sl_list (pv 4) po_none (po_some (pv 7))) (pe_lst (pa_cons (pe_op op_add (pe_ix (r := rIxL K) ix_list (pv 4) (pv 7) (fun _ _ => rfl)) (C8.pe_c c_l_pick hr (by decide) (by rfl) (pa_cons (pv 0) (pa_cons (pe_lst (pa_cons pe_int (pa_cons (pe_un un_neg pe_int) (pa_cons pe_int (pa_cons (pe_un un_neg pe_int) pa_nil))))) pa_nil)))) pa_nil))) (pe_slice sl_list (pv 4) (po_some (pe_op op_add (pv 7) pe_int)) po_none)))))
      pss_nil)
    (pss_one (ps_ret (pv 4)))))))), ?_⟩
    have t30 : ((30 : Int) / 6).toNat = 5 := by decide
    have t12 : ((12 : Int) / 6).toNat = 2 := by decide
    -- rule, start
    refine ⟨_, rfl, _, rfl, a, n, 12, rfl, hP, by omega, by decide, by decide, fun r1 p1 q1 c1 H1 R1 _ _ e1 hP1 f1 => ?_⟩
    refine ⟨_, rfl, a, _, 30, rfl, hP1, by omega, by decide, by decide, fun r2 p2 q2 c2 H2 R2 e2 hP2 f2 => ?_⟩
    rw [t30] at hP2 R2
    refine ⟨len10 (by simp), fun O nO => ?_⟩
    have zO := sm_upd (o := .lst [.ref r1, .ref r2]) nO
    refine ⟨a, O, _, _, rfl, hP2.same zO, by omega, upd_same, by simp, by simp, fun x H3 hx hP3 f3 => ?_⟩
    obtain ⟨r, p, q, c, rfl, er, R⟩ : ∃ r p q c, x = .ref r ∧ H3 r = some (tup3 p q c) ∧ RuleB 102 p q c := by
      simp only [List.mem_cons, List.not_mem_nil, or_false] at hx
      rcases hx with rfl | rfl
      · exact ⟨r1, p1, q1, c1, rfl, f3.t _ _ (zO _ _ (f2.t _ _ e1)), R1.mono (by decide)⟩
      · exact ⟨r2, p2, q2, c2, rfl, f3.t _ _ (zO _ _ e2), R2.mono (by decide)⟩
    have f03 := f1.trans (f2.trans ((Fr.same zO).trans f3))
    refine ⟨_, rfl, a, _, 30, rfl, hP3, by omega, by decide, by decide, fun t H4 bt hP4 f4 => ?_⟩
    rw [t30] at hP4 bt
    refine ⟨len10 (by simp), fun T nT => ?_⟩
    have zT := sm_upd (o := .tup [.ref r, .int t]) nT
    refine ⟨T, _, rfl, SqT.of upd_same, rfl, _, _, rfl, _, _, rfl, rfl, ?_⟩
    have f05 := f03.trans (f4.trans (Fr.same zT))
    have er := zT _ _ (f4.t _ _ er)
    have hP5 : Pen (upd H4 T (.tup [.ref r, .int t])) a (n + 60) := (hP4.same zT).mono (by omega)
    generalize upd H4 T (.tup [.ref r, .int t]) = H5 at f05 er hP5 ⊢
    clear zT nT zO nO hx f1 f2 f3 f4 hP1 hP2 hP3 hP4 f03 e1 e2
    -- row, road
    refine ⟨_, rfl, _, rfl, a, _, _, rfl, hP5, by omega, by omega, Bd.small 20 (by omega) (by decide), fun d H6 d0 d1 hP6 f6 => ?_⟩
    refine ⟨_, _, rfl, rfl, _, rfl, by omega, by omega, fun G nG => ?_⟩
    refine lc_range (lo := 0) (n := (1 + d).toNat) (fun j H' => Same H6 H' ∧ ∃ ns, Row H' G 300 ns ∧ ns.length = j) ⟨sm_upd nG, [], ⟨upd_same, fun _ z => (nomatch z)⟩, rfl⟩ ?_ ?_
    · rintro j H' hj ⟨s1, ns, eL, ln⟩
      have bj : Bd 103 (t + (0 + (j : Int))) := Bd.add (bt.mono (by decide : 100 ≤ 102)) (Bd.small 20 (by omega) (by decide))
      refine ⟨rfl, _, rfl, _, rfl, _, rfl, _, _, rfl, rfl, r, p, q, c, _, 103, rfl, s1 _ _ (f6.t _ _ er), R.mono (by decide), bj, by decide, by decide, ?_⟩
      refine ⟨_, eL.e, ?_, ?_, ns ++ [(p * (t + (0 + (j : Int))) + c) / q], ⟨?_, fun z hz => ?_⟩, ?_⟩
      · rw [List.length_map, ln]
        exact small1000 (by omega)
      · intro b' o eb
        rw [upd_ne (ne_of_none eb nG)]
        exact s1 _ _ eb
      · rw [upd_same, List.map_append]
        rfl
      · rcases List.mem_append.mp hz with g | g
        · exact eL.b z g
        · rw [List.mem_singleton.mp g]
          exact (bd_count (by decide) (R.mono (by decide : 102 ≤ 103)) bj).mono (by decide)
      · rw [List.length_append, ln]
        rfl
    rintro H7 ⟨s7, ns, rw7, ln⟩
    refine ⟨_, rfl, a, _, _, rfl, hP6.same s7, by omega, by decide, Bd.small 20 (by decide) (by decide), fun rd H8 rd0 rd1 hP8 f8 => ?_⟩
    refine ⟨len10 (by simp), fun T nT => ?_⟩
    have zT := sm_upd (o := .tup [.ref G, .int rd]) nT
    refine ⟨T, _, rfl, SqT.of upd_same, rfl, _, _, rfl, _, _, rfl, rfl, ?_⟩
    have f09 := f05.trans (f6.trans ((Fr.same s7).trans (f8.trans (Fr.same zT))))
    have rw9 := (rw7.fr f8).fr (Fr.same zT)
    have hP9 : Pen (upd H8 T (.tup [.ref G, .int rd])) a (n + 70) := (hP8.same zT).mono (by omega)
    generalize upd H8 T (.tup [.ref G, .int rd]) = H9 at f09 rw9 hP9 ⊢
    have l1 : 1 ≤ ns.length := by omega
    have l2 : ns.length ≤ 16 := by omega
    clear zT nT f8 hP8 s7 rw7 f6 hP6 f05 hP5 nG ln er
    refine ⟨_, rfl, rfl, _, rfl, ite2 (fun c0 => ?_) (fun c0 => ?_)⟩
    · refine ⟨_, rfl, G, rfl, ⟨_, SqL.of rw9.e⟩, fun Y nY => ?_⟩
      refine lc_it (walk_list (K := K) (a := G) (xs := ns.map V.int)) (fun j H' => Fr H9 H' ∧ Pen H' a (n + 70 + 10 * j) ∧ ∃ ms, Row H' Y 400 ms ∧ ms.length = j) ⟨Fr.new nY, hP9.new nY, [], ⟨upd_same, fun _ z => (nomatch z)⟩, rfl⟩ ?_ ?_ ?_
      · rintro j H' _ ⟨f', _⟩
        exact SqL.of (f'.l _ _ rw9.e)
      · rintro j x H' _ hj ⟨f', hP', ms, rwm, lm⟩ ⟨rfl, hx⟩
        rw [List.length_map] at hj
        refine ⟨rfl, _, rfl, a, _, 12, rfl, hP', by omega, by decide, by decide, fun g H11 bg hP11 f11 => ?_⟩
        rw [t12] at hP11 bg
        have rwn := rwm.fr f11
        refine ⟨_, rwn.e, ?_, (f'.trans f11).over nY, (hP9.over nY hP11).mono (by omega), ms ++ [g], ⟨?_, row_app rwn.b fun z hz => ?_⟩, ?_⟩
        · rw [List.length_map, lm]
          exact small1000 (by omega)
        · rw [upd_same, List.map_append]
          rfl
        · rw [List.mem_singleton.mp hz]
          exact bg.mono (by decide)
        · rw [List.length_append, lm]
          rfl
      · rintro H' ⟨f', hP', ms, rwm, lm⟩
        rw [List.length_map] at lm hP'
        exact kk Y H' ms rwm (by omega) (by omega) (hP'.mono (by omega)) (f09.trans f')
    · -- changes
      refine ⟨_, rfl, _, _, rfl, rfl, _, rfl, by omega, by omega, ?_⟩
      refine for_range (lo := 0) (n := (rd - 2).toNat) (fun i σ H' => ∃ (G : Addr) (ns : List Int) (y6 y7 y8 : Option V), σ = [some (.ref a), some (.int mw), some (.ref r), some (.int t), some (.ref G), some (.int rd), y6, y7, y8, none, none] ∧ Row H' G (300 + 10 * i) ns ∧ 1 ≤ ns.length ∧ ns.length ≤ 16 ∧ Pen H' a (n + 70 + 20 * i) ∧ Fr H H') ⟨G, ns, _, _, _, rfl, rw9.mono (by omega), l1, l2, hP9, f09⟩ ?_ ?_
      · clear rw9 l1 l2 hP9 f09 G ns
        rintro i σ H' hi ⟨G, ns, y6, y7, y8, rfl, rw9, l1, l2, hP9, f09⟩
        have hi2 : i < 3 := by omega
        have lm : (ns.map V.int).length = ns.length := List.length_map ..
        refine ⟨_, rfl, _, rfl, G, _, rfl, .inl (SqL.of rw9.e), a, _, _, rfl, hP9, by omega, by omega, Bd.small 20 (by omega) (by decide), fun at_ H10 at0 at1 hP10 f10 => ?_⟩
        refine ⟨_, rfl, 1, rfl, _, rfl, a, _, 12, rfl, hP10, by omega, by decide, by decide, fun g H11 bg hP11 f11 => ?_⟩
        rw [t12] at hP11 bg
        refine ⟨len10 (by simp), fun O nO => ?_⟩
        have zO := sm_upd (o := .lst [.int 1, .int (-1), .int g]) nO
        refine ⟨a, O, _, _, rfl, hP11.same zO, by omega, upd_same, by simp, by simp, fun x H12 hx hP12 f12 => ?_⟩
        obtain ⟨fr, rfl, bfr⟩ : ∃ fr : Int, x = .int fr ∧ Bd 40 fr := by
          simp only [List.mem_cons, List.not_mem_nil, or_false] at hx
          rcases hx with rfl | rfl | rfl
          · exact ⟨_, rfl, Bd.small 1 (by decide) (by decide)⟩
          · exact ⟨_, rfl, Bd.small 1 (by decide) (by decide)⟩
          · exact ⟨_, rfl, bg⟩
        refine ⟨len10 (by simp), fun T nT => ?_⟩
        have zT := sm_upd (o := .tup [.int at_, .int fr]) nT
        refine ⟨T, _, rfl, SqT.of upd_same, rfl, _, _, rfl, _, _, rfl, rfl, ?_⟩
        have fA := f10.trans (f11.trans ((Fr.same zO).trans (f12.trans (Fr.same zT))))
        have rw13 := rw9.fr fA
        have hP13 : Pen (upd H12 T (.tup [.int at_, .int fr])) a (n + 70 + 20 * i + 20) := (hP12.same zT).mono (by omega)
        have f013 := f09.trans fA
        generalize upd H12 T (.tup [.int at_, .int fr]) = H13 at rw13 hP13 f013 ⊢
        clear zT nT zO nO hx f10 f11 f12 fA hP9 hP10 hP11 hP12 rw9 f09
        refine ⟨_, rfl, G, _, rfl, .inl (SqL.of rw13.e), ?_⟩
        rw [lm]
        refine ⟨_, rfl, by omega, by omega, fun Y nY => ?_⟩
        refine lc_range (lo := 0) (n := ((ns.length : Int)).toNat) (fun j H' => Same H13 H' ∧ ∃ ms, Row H' Y (300 + 10 * i + 10) ms ∧ ms.length = j) ⟨sm_upd nY, [], ⟨upd_same, fun _ z => (nomatch z)⟩, rfl⟩ ?_ ?_
        · rintro j H' hj ⟨s1, ms, rwm, lms⟩
          have rwj := rw13.fr (Fr.same s1)
          obtain ⟨x, hx, mx, _⟩ := at_ints (ns := ns) (d := 0 + (j : Int)) (by omega) (by omega)
          have bb := bint (decide ((0 + (j : Int)) ≥ at_))
          refine ⟨rfl, _, rfl, _, rfl, G, _, _, _, rfl, rfl, SqL.of rwj.e, hx, ?_⟩
          refine ⟨_, rfl, _, rfl, _, rfl, _, _, rfl, rfl, .inr ⟨_, rfl, _, _, rfl, rfl, mulW bfr bb (by decide) (by decide) (by decide), _, _, rfl, rfl, ?_⟩⟩
          refine ⟨_, rwm.e, ?_, ?_, ms ++ [x + fr * (if decide ((0 + (j : Int)) ≥ at_) = true then 1 else 0)], ⟨?_, row_app rwm.b fun z hz => ?_⟩, ?_⟩
          · rw [List.length_map, lms]
            exact small1000 (by omega)
          · intro b' o eb
            rw [upd_ne (ne_of_none eb nY)]
            exact s1 _ _ eb
          · rw [upd_same, List.map_append]
            rfl
          · rw [List.mem_singleton.mp hz]
            exact (Bd.add (rw13.b x mx) ((Bd.mul bfr bb).mono (by omega : 40 + 1 ≤ 300 + 10 * i))).mono (by omega)
          · rw [List.length_append, lms]
            rfl
        rintro H14 ⟨s14, ms, rwm, lms⟩
        exact ⟨Y, ms, _, _, _, rfl, rwm.mono (by omega), by omega, by omega, (hP13.same s14).mono (by omega), f013.trans (Fr.same s14)⟩
      · clear rw9 l1 l2 hP9 f09 G ns
        rintro σ H' ⟨G, ns, y6, y7, y8, rfl, rw9, l1, l2, hP9, f09⟩
        have hi3 : (rd - 2).toNat ≤ 2 := by omega
        have lm : (ns.map V.int).length = ns.length := List.length_map ..
        refine ⟨_, rfl, rfl, _, rfl, ite2 (fun c1 => ?_) (fun c1 => ?_)⟩
        · refine ⟨_, rfl, _, rfl, G, _, rfl, .inl (SqL.of rw9.e), a, _, _, rfl, hP9, by omega, by omega, Bd.small 20 (by omega) (by decide), fun at_ H10 at0 at1 hP10 f10 => ?_⟩
          rw [lm] at at1
          have rw10 := rw9.fr f10
          refine ⟨_, rfl, _, rfl, _, rfl, G, _, rfl, SqL.of rw10.e, fun p1 n1 => ?_⟩
          have z1 := sm_upd (o := .lst (cutV (ns.map V.int) none (some at_))) n1
          have rw11 := rw10.fr (Fr.same z1)
          have e1 := upd_same (H := H10) (a := p1) (o := .lst (cutV (ns.map V.int) none (some at_)))
          have hP11 := hP10.same z1
          generalize upd H10 p1 (.lst (cutV (ns.map V.int) none (some at_))) = H11 at z1 rw11 e1 hP11 ⊢
          obtain ⟨x, hx, mx, _⟩ := at_ints (ns := ns) at0 at1
          refine ⟨_, rfl, _, rfl, G, _, _, _, rfl, rfl, SqL.of rw11.e, hx, ?_⟩
          refine ⟨_, rfl, 1, rfl, 2, rfl, len10 (by simp), fun O nO => ?_⟩
          have zO := sm_upd (o := .lst [.int 1, .int (-1), .int 2, .int (-2)]) nO
          refine ⟨a, O, _, _, rfl, hP11.same zO, by omega, upd_same, by simp, by simp, fun y H12 hy hP12 f12 => ?_⟩
          obtain ⟨u, rfl, bu⟩ : ∃ u : Int, y = .int u ∧ Bd 3 u := by
            simp only [List.mem_cons, List.not_mem_nil, or_false] at hy
            rcases hy with rfl | rfl | rfl | rfl <;> exact ⟨_, rfl, Bd.small 3 (by decide) (by decide)⟩
          have f112 := (Fr.same zO).trans f12
          have e1 := f112.l _ _ e1
          have rw12 := rw11.fr f112
          refine ⟨_, _, rfl, rfl, len10 (by simp), fun p2 n2 => ?_⟩
          have z2 := sm_upd (o := .lst [.int (x + u)]) n2
          have cl := cutV_length (ns.map V.int) none (some at_)
          have cl2 := cutV_length (ns.map V.int) (some (at_ + 1)) none
          rw [lm] at cl cl2
          refine ⟨p1, p2, _, _, rfl, rfl, z2 _ _ e1, upd_same, len10 (by show (cutV (ns.map V.int) none (some at_)).length + 1 ≤ 1000; omega), fun p3 n3 => ?_⟩
          have z3 := sm_upd (o := .lst (cutV (ns.map V.int) none (some at_) ++ [.int (x + u)])) n3
          refine ⟨_, rfl, _, rfl, _, _, rfl, rfl, _, rfl, G, _, rfl, SqL.of (z3 _ _ (z2 _ _ rw12.e)), fun p4 n4 => ?_⟩
          have z4 := sm_upd (o := .lst (cutV (ns.map V.int) (some (at_ + 1)) none)) n4
          refine ⟨p3, p4, _, _, rfl, rfl, z4 _ _ upd_same, upd_same, len10 (by rw [List.length_append]; show (cutV (ns.map V.int) none (some at_)).length + 1 + _ ≤ 1000; omega), fun W nW => ?_⟩
          have z5 := sm_upd (o := .lst ((cutV (ns.map V.int) none (some at_) ++ [.int (x + u)]) ++ cutV (ns.map V.int) (some (at_ + 1)) none)) nW
          have zz := ((z2.trans z3).trans z4).trans z5
          have er : ((cutV (ns.map V.int) none (some at_) ++ [.int (x + u)]) ++ cutV (ns.map V.int) (some (at_ + 1)) none : List V) = (((ns.take at_.toNat) ++ [x + u]) ++ ns.drop (at_ + 1).toNat).map V.int := by
            rw [cut_take _ _ at0, cut_drop _ _ (by omega), List.map_append, List.map_append, List.map_take, List.map_drop]
            rfl
          refine ⟨_, rfl, kk W _ (((ns.take at_.toNat) ++ [x + u]) ++ ns.drop (at_ + 1).toNat) ⟨by rw [upd_same, er], row_app (row_app (fun z hz => (rw9.b z (List.mem_of_mem_take hz)).mono (by omega)) fun z hz => ?_) fun z hz => (rw9.b z (List.mem_of_mem_drop hz)).mono (by omega)⟩ (by simp; omega) ?_ ((hP12.same zz).mono (by omega)) (f09.trans (f10.trans ((Fr.same z1).trans (f112.trans (Fr.same zz)))))⟩
          · rw [List.mem_singleton.mp hz]
            exact (Bd.add (rw9.b x mx) (bu.mono (by omega : 3 ≤ 300 + 10 * (rd - 2).toNat))).mono (by omega)
          · rw [List.length_append, List.length_append, List.length_take, List.length_drop, List.length_singleton]
            omega
        · exact ⟨_, rfl, kk G H' ns (rw9.mono (by omega)) l1 l2 (hP9.mono (by omega)) f09⟩
end
end Lf
namespace Lf
open PySem PySem.Spec PyProof.Rows L2
/-! ### lists and tuples alike; what is given is what was there, or new -/
section
variable {X : Cx}
def rSlY : V → Option Int → Option Int → Hp → VK → Prop := fun x lo hi H Q => ∃ p b xs, x = .ref p ∧ H p = some (sqO b xs) ∧ ∀ r H', (r = p ∨ H r = none) → Same H H' → H' r = some (sqO b (cutV xs lo hi)) → Q (.ref r) H'
theorem sl_Y : SlR X rSlY := by
  intro pins s σ H x v vl vu lo hi sl Q I rx hs pl pu h
  obtain ⟨p, b, xs, rfl, e, q⟩ := h
  cases b with
  | true => exact sl_list pins s σ H _ v vl vu lo hi sl Q I rx hs pl pu ⟨p, xs, rfl, SqL.of e, fun r nr => q r _ (.inr nr) (sm_upd nr) upd_same⟩
  | false =>
    refine sl_tupA pins s σ H _ v vl vu lo hi sl Q I rx hs pl pu ⟨p, xs, rfl, SqT.of e, fun hw => q p H (.inl rfl) (fun _ _ e => e) ?_, fun _ r nr => q r _ (.inr nr) (sm_upd nr) upd_same⟩
    rw [cutV_whole hw]
    exact e
def rCatY : R2 := fun x y H Q => ∃ p p2 b xs ys, x = .ref p ∧ y = .ref p2 ∧ H p = some (sqO b xs) ∧ H p2 = some (sqO b ys) ∧ xs.length + ys.length ≤ sizeLine ∧ ∀ r H', (r = p ∨ r = p2 ∨ H r = none) → Same H H' → H' r = some (sqO b (xs ++ ys)) → Q (.ref r) H'
theorem op_catY : OpR X (binaryOp .Add) rCatY := by
  intro pins s σ H x y v u Q I rx ry h
  obtain ⟨p, p2, b, xs, ys, rfl, rfl, e, e2, hz, q⟩ := h
  cases b with
  | true => exact op_cat pins s σ H _ _ v u Q I rx ry ⟨p, p2, xs, ys, rfl, rfl, e, e2, hz, fun r nr => q r _ (.inr (.inr nr)) (sm_upd nr) upd_same⟩
  | false =>
    refine op_catA pins s σ H _ _ v u Q I rx ry ⟨p, p2, xs, ys, rfl, rfl, SqT.of e, SqT.of e2, hz, fun z => q p2 H (.inr (.inl rfl)) (fun _ _ e => e) ?_, fun _ z => q p H (.inl rfl) (fun _ _ e => e) ?_, fun _ _ r nr => q r _ (.inr (.inr nr)) (sm_upd nr) upd_same⟩
    · rw [z, List.nil_append]
      exact e2
    · rw [z, List.append_nil]
      exact e
def rTwoY : R2 := fun x y H Q => ∃ p b xs, x = .ref p ∧ y = .int 2 ∧ H p = some (sqO b xs) ∧ xs.length ≤ 1000 ∧ ∀ r H', (r = p ∨ H r = none) → Same H H' → H' r = some (sqO b (xs ++ xs)) → Q (.ref r) H'
theorem op_twoY : OpR X (binaryOp .Mult) rTwoY := by
  intro pins s σ H x y v u Q I rx ry h
  obtain ⟨p, b, xs, rfl, rfl, e, hz, q⟩ := h
  have hs := sizeLine_eq
  cases b with
  | true =>
    refine op_rep pins s σ H _ _ v u Q I rx ry ⟨p, 2, xs, rfl, rfl, e, by decide, by decide, by show xs.length * 2 ≤ sizeLine; omega, fun r nr => q r _ (.inr nr) (sm_upd nr) ?_⟩
    rw [upd_same, two_flat]
    rfl
  | false =>
    by_cases hx : xs = []
    · subst hx
      exact op_repT0 pins s σ H _ _ v u Q I rx ry ⟨p, 2, rfl, rfl, e, by decide, by decide, q p H (.inl rfl) (fun _ _ e => e) e⟩
    · refine op_repT pins s σ H _ _ v u Q I rx ry ⟨p, 2, xs, rfl, rfl, SqT.of e, hx, by decide, by decide, hz, fun r nr => q r _ (.inr nr) (sm_upd nr) ?_⟩
      rw [upd_same, two_flat]
      rfl
def tRevY (te : TE) : TE := fun σ H Q => te σ H fun x H1 => ∃ p b xs, x = .ref p ∧ H1 p = some (sqO b xs) ∧ ∀ r H', H1 r = none → Same H1 H' → H' r = some (sqO b xs.reverse) → Q (.ref r) H'
theorem pe_revY {e : Expr} {i k : Nat} {p1 p2 p3 pos : Pos} (he : PE X e (tVar i)) : PE X (.Subscript e (.Slice none none (some (.UnaryOp .USub (.Constant (.int 1) k p1) p2)) p3) pos) (tRevY (tVar i)) := by
  refine ⟨fun pins s σ H Q I h => ?_⟩
  obtain ⟨x, hx, p, b, xs, rfl, e1, q⟩ := h
  cases b with
  | true => exact (pe_revL he).run pins s σ H Q I ⟨_, hx, p, xs, rfl, SqL.of e1, fun r nr => q r _ nr (sm_upd nr) upd_same⟩
  | false => exact (pe_revT he).run pins s σ H Q I ⟨_, hx, p, xs, rfl, SqT.of e1, fun r nr => q r _ nr (sm_upd nr) upd_same⟩
theorem call_tupleY : CallR X (.type "tuple") (fun xs H Q => ∃ p b ys, xs = [.ref p] ∧ H p = some (sqO b ys) ∧ ∀ r H', (r = p ∨ H r = none) → Same H H' → H' r = some (.tup ys) → Q (.ref r) H') := by
  intro pins s σ H xs us Q I r h
  obtain ⟨p, b, ys, rfl, e, q⟩ := h
  cases b with
  | true => exact call_tuple_of pins s σ H _ us Q I r ⟨p, ys, rfl, .inl ⟨SqL.of e, fun l nl => q l _ (.inr nl) (sm_upd nl) upd_same⟩⟩
  | false => exact call_tuple_of pins s σ H _ us Q I r ⟨p, ys, rfl, .inr ⟨SqT.of e, q p H (.inl rfl) (fun _ _ e => e) e⟩⟩
end
end Lf
namespace Lf
open PySem PySem.Spec PyProof.Rows L2
theorem ne_newY {X : Hp} {r Y : Addr} (n : X r = none) (k : kept X Y) : r ≠ Y := fun e => by
  obtain ⟨o, h, _⟩ := k
  rw [← e, n] at h
  cases h
theorem nw_erY {H H' : Hp} {Y : Addr} (k : kept H Y) : Kp (nwH H H') (erH Y H') := kp_by fun b _ e => er_some.mpr ⟨fun z => (nw_some.mp e).1 (z ▸ k), (nw_some.mp e).2⟩
theorem fin5Y {K : PySem.W.Frag} {Q : VK} {H X : Hp} {L : Addr} {its : List V} {g : Int} {n m : Nat} (g0 : 0 ≤ g) (g1 : g < 8) (gn : ¬ decide (V.int g = V.int 0) = true) (e : H L = some (.lst its)) (l7 : its.length = 7) (al : AnyL n m X its) (hQ : ∀ y, AnyV n m X y → Q y H) : rIxL K (.ref L) (.int (g - 1)) H Q := by
  have gz : g ≠ 0 := fun z => gn (decide_eq_true (by rw [z]))
  obtain ⟨y, hy, hm⟩ := at_in9 (xs := its) (d := g - 1) (by omega) (by omega)
  exact ⟨L, its, g - 1, y, rfl, rfl, SqL.of e, hy, hQ y (al y hm)⟩
section
variable {P : Program} {w : World} {K : PySem.W.Frag} {mg : Str → Option Value} {base : Heap}
def spBentY : Nat → Sp
  | 0 => fun _ _ _ _ => False
  | k + 1 => fun vs H Q _ => ∃ (a : PA) (n s j : Nat) (x : V) (Y : Addr), vs = [.ref a, x] ∧ kept H Y ∧ Pen H a n ∧ n + 200 * (j + 1) < 2 ^ 36 ∧ AnyV j s (erH Y H) x ∧ s ≤ 560 ∧ j ≤ k ∧ j ≤ 20 ∧ ∀ y H', AnyV (j + 5) (gB j s) (erH Y H') y → Pen H' a (n + 100 * (j + 1)) → Fr H H' → Q y H'
theorem bent_stepY (k0 : Nat) (D : Df K mg "_law_bent" s_l_bent P_l_bent) (B : Bi mg) (c_l_draw : C8.Cal P w K mg base 1 "_law_draw" spDraw []) (c_l_anything : C8.Cal P w K mg base 3 "_law_anything" (spAnyS 2) []) (c_l_bent : C8.Cal P w K mg base (k0 + 3) "_law_bent" (spBentY k0) []) : C8.Cal P w K mg base (k0 + 4) "_law_bent" (spBentY (k0 + 1)) [] := by
  refine cal_of D sc_l_bent (fun vs H Q E h => ?_) (fun f cdv A outer s0 H vs Q E hr h => ?_)
  · obtain ⟨a, n, s, k, x, Y, rfl, _⟩ := h
    rfl
  · obtain ⟨a, n, s, k, x, Y, rfl, kY, hP, hn, ax, hs, kk0, k20, kk⟩ := h
    obtain ⟨d, dv, sh⟩ := ax
    refine ⟨_, (C8.pss_cut (ps_if (PW.pt (pw_and (pt_val (pe_callB (call_isiT) (by rfl) B.isinstance_ bt_isinstance (pa_cons (pv 1) (pa_cons (pe_tup (pa_cons (pe_bltn (v := .ty "list") (by rfl) B.list_ bt_list rfl) (pa_cons (pe_bltn (v := .ty "tuple") (by rfl) B.tuple_ bt_tuple rfl) pa_nil))) pa_nil)))) (pw_and (pt_cmpR op_gt (pe_callB (call_len_seq) (by rfl) B.len_ bt_len (pa_cons (pv 1) pa_nil)) pe_int (nomark _)) (pw_and1 (pt_cmpR op_gt (C8.pe_c c_l_draw hr (by omega) (by rfl) (pa_cons (pv 0) (pa_cons pe_int pa_nil))) pe_int (nomark _))))))
      (pss_cons (ps_set (i := 2) sc_l_bent.nd rfl (Or.inl rfl) (C8.pe_c c_l_draw hr (by omega) (by rfl) (pa_cons (pv 0) (pa_cons (pe_callB (call_len_seq) (by rfl) B.len_ bt_len (pa_cons (pv 1) pa_nil)) pa_nil))))
    (C8.pss_cut (ps_set (i := 3) sc_l_bent.nd rfl (Or.inl rfl) (pe_ifExp (pt_val (pe_callB (call_isi) (by rfl) B.isinstance_ bt_isinstance (pa_cons (pv 1) (pa_cons (pe_bltn (v := .ty "list") (by rfl) B.list_ bt_list rfl) pa_nil)))) (pe_lst (pa_cons (C8.pe_c c_l_bent hr (by omega) (by rfl) (pa_cons (pv 0) (pa_cons (pe_ix (r := rIxB K) ix_B (pv 1) (pv 2) (fun _ _ => rfl)) pa_nil))) pa_nil)) (pe_tup (pa_cons (C8.pe_c c_l_bent hr (by omega) (by rfl) (pa_cons (pv 0) (pa_cons (pe_ix (r := rIxB K) ix_B (pv 1) (pv 2) (fun _ _ => rfl)) pa_nil))) pa_nil))))
    (pss_one (ps_ret (pe_op op_catY (pe_op op_catY (pe_slice sl_Y (pv 1) po_none (po_some (pv 2))) (pv 3)) (pe_slice sl_Y (pv 1) (po_some (pe_op op_add (pv 2) pe_int)) po_none))))))
      pss_nil)
    (pss_cons (ps_set (i := 4) sc_l_bent.nd rfl (Or.inl rfl) (C8.pe_c c_l_draw hr (by omega) (by rfl) (pa_cons (pv 0) (pa_cons pe_int pa_nil))))
    (pss_cons (ps_if (pt_cmpR op_eq (pv 4) pe_int (nomark _))
      (pss_one (ps_ret (C8.pe_c c_l_anything hr (by omega) (by rfl) (pa_cons (pv 0) (pa_cons pe_int pa_nil)))))
      pss_nil)
    (pss_cons (ps_if (pt_val (pe_callB (call_isi) (by rfl) B.isinstance_ bt_isinstance (pa_cons (pv 1) (pa_cons (pe_bltn (v := .ty "int") (by rfl) B.int_ bt_int rfl) pa_nil))))
      (pss_one (ps_ret (pe_ix (r := rIxL K) ix_list (pe_lst (pa_cons (pe_op op_addN (pv 1) pe_int) (pa_cons (pe_op op_subN (pv 1) pe_int) (pa_cons (pe_op op_subN pe_int (pv 1)) (pa_cons pe_int (pa_cons (pe_cmpR op_eqN (pv 1) pe_int (nomark _)) (pa_cons (pe_callTy (call_strN) (by rfl) B.str_ bt_str (pa_cons (pv 1) pa_nil)) (pa_cons (pe_op op_mulN pe_int (pv 1)) pa_nil)))))))) (pe_op op_sub (pv 4) pe_int) (fun _ _ => rfl))))
      pss_nil)
    (pss_cons (ps_if (pt_val (pe_callB (call_isiT) (by rfl) B.isinstance_ bt_isinstance (pa_cons (pv 1) (pa_cons (pe_tup (pa_cons (pe_bltn (v := .ty "list") (by rfl) B.list_ bt_list rfl) (pa_cons (pe_bltn (v := .ty "tuple") (by rfl) B.tuple_ bt_tuple rfl) pa_nil))) pa_nil))))
      (pss_cons (ps_set (i := 5) sc_l_bent.nd rfl (Or.inl rfl) (pe_lst (pa_cons (pe_slice sl_Y (pv 1) (po_some pe_int) po_none) (pa_cons (pe_slice sl_Y (pv 1) po_none (po_some (pe_un un_neg pe_int))) (pa_cons (pe_op op_catY (pv 1) (pe_slice sl_Y (pv 1) (po_some (pe_un un_neg pe_int)) po_none)) (pa_cons (pe_revY (pv 1)) (pa_cons (pe_callTy (call_list_of) (by rfl) B.list_ bt_list (pa_cons (pv 1) pa_nil)) (pa_cons (pe_callTy (call_tupleY) (by rfl) B.tuple_ bt_tuple (pa_cons (pv 1) pa_nil)) (pa_cons (pe_op op_twoY (pv 1) pe_int) pa_nil)))))))))
    (pss_one (ps_ret (pe_ix (r := rIxL K) ix_list (pv 5) (pe_op op_sub (pv 4) pe_int) (fun _ _ => rfl)))))
      pss_nil)
    (pss_one (ps_ret (pe_ix (r := rIxL K) ix_list (pe_lst (pa_cons pe_non (pa_cons pe_str (pa_cons pe_int (pa_cons pe_int (pa_cons (pe_tup pa_nil) (pa_cons (pe_lst pa_nil) (pa_cons pe_str pa_nil)))))))) (pe_op op_sub (pv 4) pe_int) (fun _ _ => rfl))))))))), ?_⟩
    refine ⟨fun σ' H' => σ' = [some (.ref a), some x, none, none, none, none] ∧ Pen H' a (n + 1) ∧ Fr H H', ?_, ?_⟩
    · refine ⟨_, rfl, len10 (by simp), fun tp ntp => ?_⟩
      have zt := sm_upd (o := .tup [.ty "list", .ty "tuple"]) ntp
      have hP1 := hP.same zt
      have dv1 := DvF.kp (erH_mono (F := Y) (Fr.same zt).kp) _ _ dv
      have kY1 := kY.fr (Fr.same zt)
      refine ⟨x, tp, _, _, [.type "list", .type "tuple"], isLT d, rfl, upd_same, .cons (.ty "list") (.cons (.ty "tuple") .nil), (DvF.kp erH_kp _ _ dv1).ty, kit_ltD d, isLT d, rfl, ?_⟩
      generalize upd H tp (.tup [.ty "list", .ty "tuple"]) = H1 at zt hP1 dv1 kY1 ⊢
      cases hl : isLT d with
      | false => exact iteFs rfl (iteFs rfl ⟨rfl, hP1.mono (by omega), Fr.same zt⟩)
      | true =>
        obtain ⟨A, b, xs, m, rfl, rfl, eA, sq, _⟩ := any_sq5 dv1 sh hl
        obtain ⟨nA, eA⟩ := er_some.mp eA
        obtain ⟨k1, rfl⟩ : ∃ k1, k0 = k1 + 1 := ⟨k0 - 1, by omega⟩
        refine iteTs rfl ⟨_, rfl, A, xs, rfl, (SqB.of eA).or, _, _, rfl, rfl, _, rfl, ite2 (fun c0 => ?_) (fun c0 => iteFs rfl ⟨rfl, hP1.mono (by omega), Fr.same zt⟩)⟩
        refine ⟨_, rfl, a, n, 6, rfl, hP1, by omega, by decide, Bd.small 20 (by decide) (by decide), fun g H2 g0 g1 hP2 f2 => ⟨_, _, rfl, rfl, _, rfl, ite2 (fun c1 => ?_) (fun c1 => ⟨rfl, hP2, (Fr.same zt).trans f2⟩)⟩⟩
        have f02 := (Fr.same zt).trans f2
        have eA2 := sq_kp f2.kp eA
        have sq2 := sq.kp (erH_mono f2.kp)
        have lx := sq.len
        have c0 := of_decide_eq_true c0
        refine ⟨_, rfl, _, rfl, A, xs, rfl, (SqB.of eA2).or, a, _, _, rfl, hP2, by omega, by omega, Bd.small 20 (by omega) (by decide), fun j H3 j0 j1 hP3 f3 => ?_⟩
        have f03 := f02.trans f3
        have eA3 := sq_kp f3.kp eA2
        have sq3 := sq2.kp (erH_mono f3.kp)
        have kY3 := (kY1.fr f2).fr f3
        obtain ⟨y, hy, hy2⟩ := at_get5 j0 j1
        obtain ⟨t, u, v, ay, st, sv, hsum⟩ := sq3.split hy2
        clear eA2 sq2 eA sq f2 f02 hP1 zt
        refine ⟨fun σ' H' => ∃ (L : Addr) (z : V), σ' = [some (.ref a), some (.ref A), some (.int j), some (.ref L), none, none] ∧ H' L = some (sqO b [z]) ∧ L ≠ Y ∧ AnyV (m + 5) (gB m u) (erH Y H') z ∧ Pen H' a (n + 2 + 100 * (m + 1)) ∧ Fr H3 H', ?_, ?_⟩
        · obtain ⟨ty, h1, h2⟩ := kit_sq (K := K) eA3
          refine ⟨_, rfl, _, _, _, _, b, rfl, .ty "list", h1, h2, b, rfl, ?_⟩
          cases b with
          | true =>
            refine iteTs rfl ⟨_, rfl, _, rfl, _, rfl, A, true, xs, j, y, rfl, rfl, SqB.of eA3, hy, a, n + 2, u, m, y, Y, rfl, kY3, hP3, by omega, ay, by omega, by omega, by omega, fun z H4 az hP4 f4 => ⟨len10 (by simp), fun L nL => ?_⟩⟩
            have zL := sm_upd (o := .lst [z]) nL
            exact ⟨L, z, rfl, upd_same, ne_newY nL (kY3.fr f4), az.kp (erH_mono (Fr.same zL).kp), hP4.same zL, f4.trans (Fr.same zL)⟩
          | false =>
            refine iteFs rfl ⟨_, rfl, _, rfl, _, rfl, A, false, xs, j, y, rfl, rfl, SqB.of eA3, hy, a, n + 2, u, m, y, Y, rfl, kY3, hP3, by omega, ay, by omega, by omega, by omega, fun z H4 az hP4 f4 => ⟨len10 (by simp), fun L nL => ?_⟩⟩
            have zL := sm_upd (o := .tup [z]) nL
            exact ⟨L, z, rfl, upd_same, ne_newY nL (kY3.fr f4), az.kp (erH_mono (Fr.same zL).kp), hP4.same zL, f4.trans (Fr.same zL)⟩
        · rintro σ' H4 ⟨L, z, rfl, eL, nLY, az, hP4, f4⟩
          have k4 := f4.kp
          have kY4 := kY3.fr f4
          refine ⟨_, rfl, _, rfl, j, rfl, A, b, xs, rfl, sq_kp k4 eA3, fun r1 H5 c1 s5 e5 => ?_⟩
          refine ⟨_, rfl, r1, L, b, _, _, rfl, rfl, e5, sq_kp (Fr.same s5).kp eL, len10 (by have := cutV_length xs none (some j); show _ + 1 ≤ 1000; omega), fun r2 H6 c2 s6 e6 => ?_⟩
          refine ⟨_, rfl, _, rfl, _, _, rfl, rfl, _, rfl, A, b, xs, rfl, sq_kp (f4.trans (Fr.same (s5.trans s6))).kp eA3, fun r3 H7 c3 s7 e7 => ?_⟩
          refine ⟨r2, r3, b, _, _, rfl, rfl, sq_kp (Fr.same s7).kp e6, e7, len10 (by have := cutV_length xs none (some j); have := cutV_length xs (some (j + 1)) none; rw [List.length_append]; show _ + 1 + _ ≤ 1000; omega), fun r4 H8 c4 s8 e8 => ?_⟩
          have n1 : r1 ≠ Y := c1.elim (fun z => z ▸ nA) fun z => ne_newY z kY4
          have n2 : r2 ≠ Y := c2.elim (fun z => z ▸ n1) fun c => c.elim (fun z => z ▸ nLY) fun z => ne_newY z (kY4.fr (Fr.same s5))
          have n3 : r3 ≠ Y := c3.elim (fun z => z ▸ nA) fun z => ne_newY z (kY4.fr (Fr.same (s5.trans s6)))
          have n4 : r4 ≠ Y := c4.elim (fun z => z ▸ n2) fun c => c.elim (fun z => z ▸ n3) fun z => ne_newY z (kY4.fr (Fr.same (s5.trans (s6.trans s7))))
          have s48 := s5.trans (s6.trans (s7.trans s8))
          refine kk _ _ ?_ ((hP4.same s48).mono (by omega)) (f03.trans (f4.trans (Fr.same s48)))
          rw [cut_take _ _ j0, cut_drop5 _ _ (by omega), show (j + 1).toNat = j.toNat + 1 by omega] at e8
          have k8 := erH_mono (F := Y) (f4.trans (Fr.same s48)).kp
          have e8 := er_some.mpr ⟨n4, e8⟩
          refine (sq5_any e8 ((((st.kp k8).mono (by omega : m ≤ m + 5) (Nat.le_refl _)).app (.one (az.kp (erH_mono (Fr.same s48).kp)))).app ((sv.kp k8).mono (by omega) (Nat.le_refl _)))).mono (by omega) ?_
          unfold gB
          omega
    rintro σ' H1 ⟨rfl, hP1, f1⟩
    have dv1 := DvF.kp (erH_mono (F := Y) f1.kp) _ _ dv
    have kY1 := kY.fr f1
    refine ⟨_, rfl, a, _, 8, rfl, hP1, by omega, by decide, Bd.small 20 (by decide) (by decide), fun g H2 g0 g1 hP2 f2 => ?_⟩
    have f02 := f1.trans f2
    have dv2 := DvF.kp (erH_mono (F := Y) f2.kp) _ _ dv1
    have kY2 := kY1.fr f2
    clear dv1 hP1 f1 f2
    have hg : 250 ≤ gB k s ∧ 2 * s + 10 ≤ gB k s := by
      unfold gB
      omega
    refine ⟨_, rfl, rfl, _, rfl, ite2 (fun c0 => ?_) (fun c0 => ?_)⟩
    · refine ⟨_, rfl, a, n + 2, rfl, hP2, by show n + 2 + 10000 * 1 < 2 ^ 37; omega, by decide, fun y H3 ay hP3 f3 => ?_⟩
      have hP3 : Pen H3 a (n + 2 + pB 1) := hP3
      exact kk y H3 ((ay.kp (nw_erY kY2)).mono (show 5 ≤ k + 5 by omega) (Nat.le_trans (by decide) hg.1)) (hP3.mono (pb1b n k)) (f02.trans f3)
    have gk : ∀ (y : V) (H3 : Hp), AnyV (k + 5) (gB k s) (erH Y H3) y → Same H2 H3 → Q y H3 := fun y H3 ay s3 => kk y H3 ay ((hP2.same s3).mono (by omega)) (f02.trans (Fr.same s3))
    -- a whole number, a truth
    refine ⟨_, rfl, _, _, _, _, isIB d, rfl, .ty "int", (DvF.kp erH_kp _ _ dv2).ty, kit_ty (kit_int d), isIB d, rfl, ?_⟩
    cases hi : isIB d with
    | true =>
      obtain ⟨i, nm, ni⟩ : ∃ i, Nm x i ∧ ((x = .int i ∧ d = .int i) ∨ ∃ b, x = .bl b ∧ (i = 0 ∨ i = 1)) := by
        cases dv2 with
        | int i => exact ⟨i, .int i, .inl ⟨rfl, rfl⟩⟩
        | bl b => exact ⟨_, .bl b, .inr ⟨b, rfl, by cases b <;> simp⟩⟩
        | _ => cases hi
      have al : ∀ {z : Str} {H3 : Hp}, ShN 0 (s + 60) (.str z) → AnyL (k + 5) (gB k s) H3 [.int (i + 1), .int (i - 1), .int (0 - i), .int 0, .bl (i == 1), .str z, .int (2 * i)] := by
        intro z H3 hz y hy
        have nr : ∀ j : Int, j.natAbs ≤ 2 * i.natAbs + 1 → AnyV (k + 5) (gB k s) H3 (.int j) := fun j hj => by
          rcases ni with ⟨rfl, rfl⟩ | ⟨b, rfl, hb⟩
          · exact ⟨_, .int j, (near_len sh.2.2 hs hj).mono (by omega) (by omega)⟩
          · refine ⟨_, .int j, (near_len (i := 1) (s := 1) (by decide +kernel) (by decide) ?_).mono (by omega) (by omega)⟩
            rcases hb with rfl | rfl <;> omega
        simp only [List.mem_cons, List.not_mem_nil, or_false] at hy
        rcases hy with rfl | rfl | rfl | rfl | rfl | rfl | rfl
        · exact nr _ (by omega)
        · exact nr _ (by omega)
        · exact nr _ (by omega)
        · exact nr _ (by omega)
        · exact ⟨_, .bl _, (show ShN 0 60 (.bool (i == 1)) by cases (i == 1) <;> exact ⟨rfl, by decide +kernel, by decide +kernel⟩).mono (by omega) (by omega)⟩
        · exact ⟨_, .str z, hz.mono (by omega) (by omega)⟩
        · exact nr _ (by omega)
      refine iteTs rfl ⟨_, rfl, i, 1, nm, rfl, _, rfl, i, 1, .inl ⟨nm, rfl⟩, _, rfl, 0, i, .inr ⟨rfl, nm⟩, _, rfl, i, 1, nm, rfl, _, rfl, x, rfl, ?_⟩
      rcases ni with ⟨rfl, rfl⟩ | ⟨b, rfl, hb⟩
      · refine .inl ⟨i, rfl, by have := str_len sh.2.2 hs; omega, ?_⟩
        refine ⟨_, rfl, 2, i, rfl, nm, .inl ⟨by decide, by decide⟩, len10 (by simp), fun L nL => ?_⟩
        exact ⟨_, rfl, _, _, rfl, rfl, fin5Y (X := erH Y _) g0 g1 c0 upd_same rfl (al ((str_sh sh.2.2).mono (Nat.le_refl _) (by omega))) fun y ay => gk y _ ay (sm_upd nL)⟩
      · refine .inr ⟨b, rfl, ?_⟩
        refine ⟨_, rfl, 2, i, rfl, nm, .inl ⟨by decide, by decide⟩, len10 (by simp), fun L nL => ?_⟩
        exact ⟨_, rfl, _, _, rfl, rfl, fin5Y (X := erH Y _) g0 g1 c0 upd_same rfl (al ((show ShN 0 60 (.str (if b = true then "True" else "False")) by cases b <;> exact ⟨rfl, by decide +kernel, by decide +kernel⟩).mono (Nat.le_refl _) (by omega))) fun y ay => gk y _ ay (sm_upd nL)⟩
    | false =>
      refine iteFs rfl ?_
      refine ⟨_, rfl, len10 (by simp), fun tp ntp => ?_⟩
      have zt := sm_upd (o := .tup [.ty "list", .ty "tuple"]) ntp
      have dv3 := DvF.kp (erH_mono (F := Y) (Fr.same zt).kp) _ _ dv2
      have kY3 := kY2.fr (Fr.same zt)
      refine ⟨x, tp, _, _, [.type "list", .type "tuple"], isLT d, rfl, upd_same, .cons (.ty "list") (.cons (.ty "tuple") .nil), (DvF.kp erH_kp _ _ dv3).ty, kit_ltD d, isLT d, rfl, ?_⟩
      have gk : ∀ (y : V) (H3 : Hp), AnyV (k + 5) (gB k s) (erH Y H3) y → Same (upd H2 tp (.tup [.ty "list", .ty "tuple"])) H3 → Q y H3 := fun y H3 ay s3 => gk y H3 ay (zt.trans s3)
      generalize upd H2 tp (.tup [.ty "list", .ty "tuple"]) = H3 at dv3 kY3 gk ⊢
      cases hl : isLT d with
      | false =>
        refine iteFs rfl ⟨len10 (by simp), fun t1 n1 => ?_⟩
        have z1 := sm_upd (o := .tup []) n1
        refine ⟨len10 (by simp), fun t2 n2 => ?_⟩
        have z2 := sm_upd (o := .lst []) n2
        refine ⟨len10 (by simp), fun L nL => ?_⟩
        have z3 := sm_upd (o := .lst [.non, .str "a", .int 0, .int 1, .ref t1, .ref t2, .str "windows"]) nL
        refine ⟨_, rfl, _, _, rfl, rfl, fin5Y (X := erH Y _) (n := k + 5) (m := gB k s) g0 g1 c0 upd_same rfl ?_ fun y ay => gk y _ ay (z1.trans (z2.trans z3))⟩
        have mk : ∀ {Hx : Hp} {x : V} {d : PyData}, DvF Hx x d → (d.showable && (decide (d.depth ≤ 3) && decide (d.shown.length ≤ 60))) = true → AnyV (k + 5) (gB k s) Hx x := fun a b => (any_by a b).mono (by omega) (by omega)
        intro y hy
        simp only [List.mem_cons, List.not_mem_nil, or_false] at hy
        rcases hy with rfl | rfl | rfl | rfl | rfl | rfl | rfl
        · exact mk .non (by decide +kernel)
        · exact mk (.str _) (by decide +kernel)
        · exact mk (.int _) (by decide +kernel)
        · exact mk (.int _) (by decide +kernel)
        · exact mk (.tup (er_some.mpr ⟨ne_newY n1 kY3, z3 _ _ (z2 _ _ upd_same)⟩) .nil) (by decide +kernel)
        · exact mk (.lst (er_some.mpr ⟨ne_newY n2 (kY3.fr (Fr.same z1)), z3 _ _ upd_same⟩) .nil) (by decide +kernel)
        · exact mk (.str _) (by decide +kernel)
      | true =>
        obtain ⟨A, b, xs, m, rfl, rfl, eA, sq, _⟩ := any_sq5 dv3 sh hl
        obtain ⟨nA, eA⟩ := er_some.mp eA
        have lx := sq.len
        refine iteTs rfl ⟨_, rfl, _, rfl, A, b, xs, rfl, eA, fun r1 H4 c1 s4 e1 => ?_⟩
        have q1 : r1 ≠ Y := c1.elim (fun z => z ▸ nA) fun z => ne_newY z kY3
        refine ⟨_, rfl, 1, rfl, _, rfl, A, b, xs, rfl, sq_kp (Fr.same s4).kp eA, fun r2 H5 c2 s5 e2 => ?_⟩
        have q2 : r2 ≠ Y := c2.elim (fun z => z ▸ nA) fun z => ne_newY z (kY3.fr (Fr.same s4))
        have s35 := s4.trans s5
        refine ⟨_, rfl, _, rfl, 1, rfl, _, rfl, A, b, xs, rfl, sq_kp (Fr.same s35).kp eA, fun r0 H6 c0' s6 e0 => ?_⟩
        have q0 : r0 ≠ Y := c0'.elim (fun z => z ▸ nA) fun z => ne_newY z (kY3.fr (Fr.same s35))
        have s36 := s35.trans s6
        refine ⟨A, r0, b, xs, _, rfl, rfl, sq_kp (Fr.same s36).kp eA, e0, len10 (by have := cutV_length xs (some (-1)) none; omega), fun r3 H7 c3 s7 e3 => ?_⟩
        have q3 : r3 ≠ Y := c3.elim (fun z => z ▸ nA) fun c => c.elim (fun z => z ▸ q0) fun z => ne_newY z (kY3.fr (Fr.same s36))
        have s37 := s36.trans s7
        refine ⟨_, rfl, A, b, xs, rfl, sq_kp (Fr.same s37).kp eA, fun r4 H8 c4 s8 e4 => ?_⟩
        have q4 : r4 ≠ Y := ne_newY c4 (kY3.fr (Fr.same s37))
        have s38 := s37.trans s8
        refine ⟨_, rfl, A, xs, rfl, (SqB.of (sq_kp (Fr.same s38).kp eA)).or, fun r5 n5 => ?_⟩
        have z5 := sm_upd (o := .lst xs) n5
        have q5 : r5 ≠ Y := ne_newY n5 (kY3.fr (Fr.same s38))
        have s39 := s38.trans z5
        refine ⟨_, rfl, A, b, xs, rfl, sq_kp (Fr.same s39).kp eA, fun r6 H10 c6 s10 e6 => ?_⟩
        have q6 : r6 ≠ Y := c6.elim (fun z => z ▸ nA) fun z => ne_newY z (kY3.fr (Fr.same s39))
        have s310 := s39.trans s10
        refine ⟨_, rfl, A, b, xs, rfl, rfl, sq_kp (Fr.same s310).kp eA, by omega, fun r7 H11 c7 s11 e7 => ?_⟩
        have q7 : r7 ≠ Y := c7.elim (fun z => z ▸ nA) fun z => ne_newY z (kY3.fr (Fr.same s310))
        refine ⟨len10 (by simp), fun L nL => ?_⟩
        have zL := sm_upd (o := .lst [.ref r1, .ref r2, .ref r3, .ref r4, .ref r5, .ref r6, .ref r7]) nL
        have t11 := s11.trans zL
        have t10 := s10.trans t11
        have t8 := z5.trans t10
        have t7 := s8.trans t8
        have t6 := s7.trans t7
        have t5 := s6.trans t6
        have t4 := s5.trans t5
        have kp0 := erH_mono (F := Y) (Fr.same (s4.trans t4)).kp
        have sqL := sq.kp kp0
        refine ⟨_, rfl, _, rfl, _, _, rfl, rfl, fin5Y (X := erH Y _) (n := m + 1 + 5) (m := gB (m + 1) s) g0 g1 c0 upd_same rfl ?_ fun y ay => gk y _ ay (s4.trans t4)⟩
        have one : ∀ {r : Addr} {ys : List V} {b' : Bool} {u : Nat}, r ≠ Y → upd H11 L (.lst [.ref r1, .ref r2, .ref r3, .ref r4, .ref r5, .ref r6, .ref r7]) r = some (sqO b' ys) → Sq5 m u (erH Y (upd H11 L (.lst [.ref r1, .ref r2, .ref r3, .ref r4, .ref r5, .ref r6, .ref r7]))) ys → u ≤ 2 * s → AnyV (m + 1 + 5) (gB (m + 1) s) (erH Y (upd H11 L (.lst [.ref r1, .ref r2, .ref r3, .ref r4, .ref r5, .ref r6, .ref r7]))) (.ref r) := fun ne e q hu => (sq5_any (er_some.mpr ⟨ne, e⟩) q).mono (by omega) (by omega)
        intro y hy
        simp only [List.mem_cons, List.not_mem_nil, or_false] at hy
        rcases hy with rfl | rfl | rfl | rfl | rfl | rfl | rfl
        · exact one q1 (sq_kp (Fr.same t4).kp e1) (sqL.cut _ _) (by omega)
        · exact one q2 (sq_kp (Fr.same t5).kp e2) (sqL.cut _ _) (by omega)
        · exact one q3 (sq_kp (Fr.same t7).kp e3) (sqL.app (sqL.cut _ _)) (by omega)
        · exact one q4 (sq_kp (Fr.same t8).kp e4) sqL.rev (by omega)
        · exact one (b' := true) q5 (t10 _ _ upd_same) sqL (by omega)
        · exact one (b' := false) q6 (t11 _ _ e6) sqL (by omega)
        · exact one q7 (sq_kp (Fr.same zL).kp e7) (sqL.app sqL) (by omega)
end
end Lf
namespace Lf
open PySem PySem.Spec PyProof.Rows L2
theorem anyL_at21 {X : Hp} {L : Addr} {o : HO} {n m : Nat} {xs : List V} (_ : Same X (upd X L o)) (h : AnyL n m (upd X L o) xs) : AnyL n m (upd X L o) xs := h
theorem new_at21 {X : Hp} {L : Addr} {o : HO} (_ : Same X (upd X L o)) : upd X L o L = some o := upd_same
theorem er_up21 {S : Addr} {H : Hp} {o : HO} : Kp (erH S H) (erH S (upd H S o)) := by
  rw [erH_upd]
  exact Kp.refl _
theorem ne_of_none' {H : Hp} {S p : Addr} {o : HO} (eS : H S = some o) (np : H p = none) : p ≠ S := fun e => by
  rw [e, eS] at np
  cases np
theorem mp21 {gs : List Int} {m : Int} {j : Nat} (g : gs[j]? = some m) : (gs.map V.int)[j]? = some (.int m) := by
  rw [List.getElem?_map, g]
  rfl
theorem fnd21 {gs : List Int} {m : Int} {j : Nat} (f : ∀ k : Nat, k < j → gs[k]? ≠ some m) : ∀ (k : Nat) (z' : V), k < j → (gs.map V.int)[k]? = some z' → eqV z' (.int m) = false := fun k z' hk hz => by
  rw [List.getElem?_map] at hz
  cases e : gs[k]? with
  | none =>
    rw [e] at hz
    cases hz
  | some y =>
    rw [e] at hz
    cases hz
    have : y ≠ m := fun q => f k hk (by rw [e, q])
    show (y == m) = false
    exact beq_eq_false_iff_ne.mpr this
theorem lt21 {gs : List Int} {m : Int} {j : Nat} (g : gs[j]? = some m) : j < gs.length := (List.getElem?_eq_some_iff.mp g).1
theorem pb2 (n : Nat) : n + 18 + 301 * 8 + pB 2 ≤ n + 8000 := by
  have : pB 2 ≤ 200 := by decide
  omega
theorem app21 {H : Hp} {S p : Addr} {xs : List V} {o : HO} (eS : H S = some (.lst xs)) (np : H p = none) (al : AnyL 2 100 (erH S H) xs) (ap : ∀ {X : Hp}, X p = some o → AnyV 2 100 X (.ref p)) : AnyL 2 100 (erH S (upd (upd H p o) S (.lst (xs ++ [.ref p])))) (xs ++ [.ref p]) := by
  rw [erH_upd]
  exact (al.kp (erH_mono (Fr.same (sm_upd np)).kp)).snoc (ap (er_some.mpr ⟨ne_of_none' eS np, upd_same⟩))
theorem small_sh {i : Int} (h : i.natAbs < 10 ^ 5) : ShN 0 6 (.int i) := by
  have h4 := pow_log h (by decide)
  have h5 := int_text_length_le10 (a := i) (k := 5) (by decide) h
  refine ⟨by simpa [PyData.showable] using (show i.natAbs.log2 < 1920 by omega), Nat.le_refl _, ?_⟩
  show (Str.ofString (toString i)).length ≤ _
  rw [PySem.ofString_length]
  exact h5
theorem any_sm {H : Hp} {i : Int} (h : i.natAbs < 10 ^ 5) : AnyV 0 14 H (.int i) := ⟨_, .int i, (small_sh h).mono (Nat.le_refl _) (by decide)⟩
theorem any_st {H : Hp} {z : Str} (h : (decide ((PyData.str z).shown.length ≤ 14)) = true) : AnyV 0 14 H (.str z) := ⟨_, .str z, rfl, Nat.le_refl _, of_decide_eq_true h⟩
theorem fl21 {H : Hp} {A : Addr} {b : Bool} {x y : V} (e : H A = some (sqO b [x, y])) (hx : AnyV 0 14 H x) (hy : AnyV 0 14 H y) : AnyV 2 100 H (.ref A) :=
  (sq5_any (n := 0) (s := 16 + 16) e ((Sq5.one hx).app (.one hy))).mono (by decide) (by decide)
theorem wi21 {H : Hp} {A : Addr} {b : Bool} {x y z u : V} (e : H A = some (sqO b [x, y, z, u])) (hx : AnyV 0 14 H x) (hy : AnyV 0 14 H y) (hz : AnyV 0 14 H z) (hu : AnyV 0 14 H u) : AnyV 2 100 H (.ref A) :=
  (sq5_any (n := 0) (s := 16 + 16 + 16 + 16) e ((((Sq5.one hx).app (.one hy)).app (.one hz)).app (.one hu))).mono (by decide) (by decide)
section
variable {P : Program} {w : World} {K : PySem.W.Frag} {mg : Str → Option Value} {base : Heap} {C : Addr}
theorem okA_l_anything (D : Df K mg "_law_anything" s_l_anything P_l_anything) (B : Bi mg) (c_l_draw : C8.Cal P w K mg base 1 "_law_draw" spDraw []) : C8.Cal P w K mg base 4 "_law_anything" (spAnyS 3) [] := by
  exact any_step 2 D B c_l_draw (ok_l_anything D B c_l_draw)
theorem bent_all (D : Df K mg "_law_bent" s_l_bent P_l_bent) (B : Bi mg) (c_l_draw : C8.Cal P w K mg base 1 "_law_draw" spDraw []) (c_l_anything : C8.Cal P w K mg base 3 "_law_anything" (spAnyS 2) []) : ∀ k, C8.Cal P w K mg base (k + 3) "_law_bent" (spBentY k) []
  | 0 => cal_of D sc_l_bent (fun _ _ _ _ h => h.elim) (fun _ _ _ _ _ _ _ _ _ _ h => h.elim)
  | k + 1 => bent_stepY k D B c_l_draw c_l_anything (bent_all D B c_l_draw c_l_anything k)
theorem ok_l_bent (D : Df K mg "_law_bent" s_l_bent P_l_bent) (B : Bi mg) (c_l_draw : C8.Cal P w K mg base 1 "_law_draw" spDraw []) (c_l_anything : C8.Cal P w K mg base 3 "_law_anything" (spAnyS 2) []) : C8.Cal P w K mg base 6 "_law_bent" (spBentY 3) [] := by
  exact bent_all D B c_l_draw c_l_anything 3
def spThings : Sp := fun vs H Q _ => ∃ (a : PA) (L : Addr) (n : Nat) (ns : List Int) (v : V), vs = [.ref a, .ref L, v] ∧ H L = some (.lst (ns.map V.int)) ∧ 1 ≤ ns.length ∧ ns.length ≤ 17 ∧ AnyV 2 100 H v ∧ Pen H a n ∧ n < 2 ^ 35 ∧
  ∀ T H' xs, H' T = some (.lst xs) → AnyL 7 800 H' xs → xs.length ≤ 100 → Pen H' a (n + 8000) → Fr H H' → Q (.ref T) H'
abbrev s_l_things : Stmt := topS 36
abbrev N_l_things : List Str := ["_law_pen_here", "_law_row_here", "_law_told", "_law_size", "_law_some", "_law_again", "_law_one", "_law_other", "_law_width", "_law_gains", "_law_k"]
abbrev P_l_things : List Str := ["_law_pen_here", "_law_row_here", "_law_told"]
theorem sc_l_things : FnScope N_l_things P_l_things (defScope s_l_things) := ⟨rfl, rfl, rfl, by decide +kernel, rfl, by decide +kernel, by decide +kernel⟩
theorem ok_l_things (D : Df K mg "_law_things" s_l_things P_l_things) (B : Bi mg) (c_l_draw : C8.Cal P w K mg base 1 "_law_draw" spDraw []) (c_l_pick : C8.Cal P w K mg base 2 "_law_pick" spPick []) (cA_l_anything : C8.Cal P w K mg base 4 "_law_anything" (spAnyS 3) []) (c_l_bent : C8.Cal P w K mg base 6 "_law_bent" (spBentY 3) []) : C8.Cal P w K mg base 7 "_law_things" spThings [] := by
  have c_l_anything := cA_l_anything
  refine cal_of D sc_l_things (fun vs H Q E h => ?_) (fun f cdv A outer s H vs Q E hr h => ?_)
  · obtain ⟨a, L, n, ns, v, rfl, _⟩ := h
    rfl
  · obtain ⟨a, L, n, ns, v, rfl, eL, l1, l17, av, hP, hn, kk⟩ := h
    refine ⟨_, (pss_cons (ps_set (i := 3) sc_l_things.nd rfl (Or.inr rfl) (pe_callB (call_len_seq) (by rfl) B.len_ bt_len (pa_cons (pv 1) pa_nil)))
    (pss_cons (ps_set (i := 4) sc_l_things.nd rfl (Or.inr rfl) (pe_lst (pa_cons (pv 2) (pa_cons pe_non (pa_cons (pe_tup (pa_cons pe_str (pa_cons (pe_op op_sub (pv 3) pe_int) pa_nil))) (pa_cons (pe_tup (pa_cons pe_str (pa_cons pe_bl pa_nil))) (pa_cons (pe_tup (pa_cons pe_str (pa_cons pe_int (pa_cons pe_int (pa_cons pe_int pa_nil))))) (pa_cons (pe_tup (pa_cons pe_str (pa_cons pe_int (pa_cons pe_int (pa_cons pe_int pa_nil))))) (pa_cons (pe_tup pa_nil) pa_nil)))))))))
    (C8.pss_cut (ps_for PassesOwn.never rfl (pi_range1 rfl B.range_ (pa_cons pe_int pa_nil)) (pg_name (i := 5) sc_l_things.nd rfl (Or.inl rfl))
      (pss_cons (ps_asg (pe_lc (own := [("_law_k", 10)]) (g := (gName 10)) (by rfl) sc_l_things.nd (pi_range1 rfl B.range_ (pa_cons pe_int pa_nil)) (blkOk_by (own := [("_law_k", 10)]) (N := N_l_things) (sc := defScope s_l_things) (by decide +kernel)) (fun _ _ _ _ _ => (pg_name (i := 10) sc_l_things.nd rfl (Or.inl rfl))) (fun _ _ _ _ _ => pts_nil) (fun _ _ _ _ _ => (C8.pe_c c_l_draw hr (by decide) (by rfl) (pa_cons (pv 0) (pa_cons (pv 3) pa_nil))))) (pg_unl rfl (pgs_cons (pg_name (i := 6) sc_l_things.nd rfl (Or.inl rfl)) (pgs_cons (pg_name (i := 7) sc_l_things.nd rfl (Or.inl rfl)) (pgs_cons (pg_name (i := 8) sc_l_things.nd rfl (Or.inr rfl)) pgs_nil)))))
    (pss_cons (ps_expr (pe_bm PySem.F.plainAttrs_list PySem.F.slot_list_append PySem.F.type_list_append mt_append (pv 4) (pa_cons (pe_tup (pa_cons pe_str (pa_cons (pv 6) (pa_cons (pv 7) (pa_cons (pv 8) pa_nil))))) pa_nil)))
    (pss_one (ps_expr (pe_bm PySem.F.plainAttrs_list PySem.F.slot_list_append PySem.F.type_list_append mt_append (pv 4) (pa_cons (pe_tup (pa_cons pe_str (pa_cons (pv 6) pa_nil))) pa_nil)))))))
    (C8.pss_cut (ps_set (i := 4) sc_l_things.nd rfl (Or.inr rfl) (pe_op op_cat (pv 4) (pe_lst (pa_cons (pe_lst (pa_cons pe_str (pa_cons pe_int pa_nil))) (pa_cons (pe_tup (pa_cons pe_str (pa_cons pe_int (pa_cons pe_int (pa_cons pe_bl pa_nil))))) (pa_cons (pe_tup (pa_cons pe_str (pa_cons (pe_un un_neg pe_int) (pa_cons pe_int (pa_cons pe_int pa_nil))))) (pa_cons (pe_tup (pa_cons pe_str (pa_cons (pe_un un_neg pe_int) pa_nil))) (pa_cons (pe_tup (pa_cons (pe_lst (pa_cons pe_str pa_nil)) (pa_cons pe_int pa_nil))) pa_nil))))))))
    (C8.pss_cut (ps_for PassesOwn.never rfl (pi_range2 rfl B.range_ (pa_cons pe_int (pa_cons (pv 3) pa_nil))) (pg_name (i := 8) sc_l_things.nd rfl (Or.inr rfl))
      (pss_cons (ps_setLc (i := 9) (own := [("_law_k", 10)]) (g := (gName 10)) (by rfl) sc_l_things.nd rfl rfl (sw_true rfl rfl rfl (by decide +kernel)) (pi_range1 rfl B.range_ (pa_cons (pe_op op_sub (pv 3) (pv 8)) pa_nil)) (blkOk_by (own := [("_law_k", 10)]) (N := N_l_things) (sc := defScope s_l_things) (by decide +kernel)) (fun _ _ _ _ _ => (pg_name (i := 10) sc_l_things.nd rfl (Or.inl rfl))) (fun _ _ _ _ _ => pts_nil) (fun _ _ _ _ _ => (pe_op op_sub (pe_ix (r := rIxL K) ix_list (pv 1) (pe_op op_add (pv 10) (pv 8)) (fun _ _ => rfl)) (pe_ix (r := rIxL K) ix_list (pv 1) (pv 10) (fun _ _ => rfl)))))
    (pss_cons (ps_expr (pe_bm PySem.F.plainAttrs_list PySem.F.slot_list_append PySem.F.type_list_append mt_append (pv 4) (pa_cons (pe_tup (pa_cons pe_str (pa_cons (pe_bm PySem.F.plainAttrs_list PySem.F.slot_list_index PySem.F.type_list_index mt_index (pv 9) (pa_cons (pe_callB (cr_max rfl) (by rfl) B.max_ bt_max (pa_cons (pv 9) pa_nil)) pa_nil)) (pa_cons (pe_bm PySem.F.plainAttrs_list PySem.F.slot_list_index PySem.F.type_list_index mt_index (pv 9) (pa_cons (pe_callB (cr_min rfl) (by rfl) B.min_ bt_min (pa_cons (pv 9) pa_nil)) pa_nil)) (pa_cons (pv 8) pa_nil))))) pa_nil)))
    (pss_one (ps_expr (pe_bm PySem.F.plainAttrs_list PySem.F.slot_list_append PySem.F.type_list_append mt_append (pv 4) (pa_cons (pe_tup (pa_cons pe_str (pa_cons (pe_bm PySem.F.plainAttrs_list PySem.F.slot_list_index PySem.F.type_list_index mt_index (pv 9) (pa_cons (pe_callB (cr_min rfl) (by rfl) B.min_ bt_min (pa_cons (pv 9) pa_nil)) pa_nil)) (pa_cons (pe_bm PySem.F.plainAttrs_list PySem.F.slot_list_index PySem.F.type_list_index mt_index (pv 9) (pa_cons (pe_callB (cr_max rfl) (by rfl) B.max_ bt_max (pa_cons (pv 9) pa_nil)) pa_nil)) (pa_cons (pv 8) pa_nil))))) pa_nil)))))))
    (pss_one (ps_ret (pe_op op_cat (pe_op op_cat (pv 4) (pe_lc (own := [("_law_again", 5)]) (g := (gName 5)) (by rfl) sc_l_things.nd (pi_range1 rfl B.range_ (pa_cons pe_int pa_nil)) (blkOk_by (own := [("_law_again", 5)]) (N := N_l_things) (sc := defScope s_l_things) (by decide +kernel)) (fun _ _ _ _ _ => (pg_name (i := 5) sc_l_things.nd rfl (Or.inl rfl))) (fun _ _ _ _ _ => pts_nil) (fun _ _ _ _ _ => (C8.pe_c c_l_bent hr (by decide) (by rfl) (pa_cons (pv 0) (pa_cons (C8.pe_c c_l_pick hr (by decide) (by rfl) (pa_cons (pv 0) (pa_cons (pv 4) pa_nil))) pa_nil)))))) (pe_lst (pa_cons (C8.pe_c c_l_anything hr (by decide) (by rfl) (pa_cons (pv 0) (pa_cons pe_int pa_nil))) pa_nil)))))))))), ?_⟩
    have lm : (ns.map V.int).length = ns.length := List.length_map ..
    refine ⟨_, rfl, L, _, rfl, .inl (SqL.of eL), ?_⟩
    rw [lm]
    refine ⟨_, rfl, _, rfl, _, _, rfl, rfl, len10 (by simp), fun p1 n1 => ?_⟩
    have z1 := sm_upd (o := .tup [.str "falls", .int ((ns.length : Nat) - 1)]) n1
    refine ⟨len10 (by simp), fun p2 n2 => ?_⟩
    have z2 := sm_upd (o := .tup [.str "falls", .bl true]) n2
    refine ⟨len10 (by simp), fun p3 n3 => ?_⟩
    have z3 := sm_upd (o := .tup [.str "windows", .int 0, .int 0, .int 0]) n3
    refine ⟨len10 (by simp), fun p4 n4 => ?_⟩
    have z4 := sm_upd (o := .tup [.str "falls", .int 0, .int 0, .int 1]) n4
    refine ⟨len10 (by simp), fun p5 n5 => ?_⟩
    have z5 := sm_upd (o := .tup []) n5
    have aF : ∀ {X : Hp}, AnyV 0 14 X (.str "falls") := fun {X} => any_st (by decide +kernel)
    have aW : ∀ {X : Hp}, AnyV 0 14 X (.str "windows") := fun {X} => any_st (by decide +kernel)
    have aB : ∀ {X : Hp} {b : Bool}, AnyV 0 14 X (.bl b) := fun {X b} => ⟨_, .bl b, by cases b <;> exact ⟨rfl, by decide, by decide +kernel⟩⟩
    have al := anyL_at21 (n := 2) (m := 100) (xs := [v, .non, .ref p1, .ref p2, .ref p3, .ref p4, .ref p5]) z5 (by
      intro y hy
      simp only [List.mem_cons, List.not_mem_nil, or_false] at hy
      rcases hy with rfl | rfl | rfl | rfl | rfl | rfl | rfl
      · exact av.kp (Fr.same (z1.trans (z2.trans (z3.trans (z4.trans z5))))).kp
      · exact (any_by (n := 0) (m := 60) .non (by decide +kernel)).mono (by decide) (by decide)
      · exact fl21 (b := false) ((z2.trans (z3.trans (z4.trans z5))) _ _ upd_same) aF (any_sm (by omega))
      · exact fl21 (b := false) ((z3.trans (z4.trans z5)) _ _ upd_same) aF aB
      · exact wi21 (b := false) ((z4.trans z5) _ _ upd_same) aW (any_sm (by decide)) (any_sm (by decide)) (any_sm (by decide))
      · exact wi21 (b := false) (z5 _ _ upd_same) aF (any_sm (by decide)) (any_sm (by decide)) (any_sm (by decide))
      · exact (any_tup (k := 0) (n := 0) (m := 0) upd_same .nil (by simp)).mono (by decide) (by decide))
    refine ⟨len10 (by simp), fun S nS => ?_⟩
    have zS := sm_upd (o := .lst [v, .non, .ref p1, .ref p2, .ref p3, .ref p4, .ref p5]) nS
    have s0 := z1.trans (z2.trans (z3.trans (z4.trans (z5.trans zS))))
    have eS := new_at21 zS
    have hS0 : H S = none := nf_of (z1.trans (z2.trans (z3.trans (z4.trans z5)))) nS
    have al := (al.kp (erH_new nS)).kp (er_up21 (o := .lst [v, .non, .ref p1, .ref p2, .ref p3, .ref p4, .ref p5]))
    generalize hl : [v, V.non, .ref p1, .ref p2, .ref p3, .ref p4, .ref p5] = l0 at eS al s0 ⊢
    have ll : l0.length = 7 := by rw [← hl]; rfl
    have hP1 := hP.same s0
    clear hl z1 z2 z3 z4 z5 zS n1 n2 n3 n4 n5 av
    -- drawn ones
    refine ⟨fun σ' H' => ∃ (xs : List V) (y5 y6 y7 y8 : Option V), σ' = [some (.ref a), some (.ref L), some v, some (.int ((ns.length : Nat) : Int)), some (.ref S), y5, y6, y7, y8, none, none] ∧ H' S = some (.lst xs) ∧ AnyL 2 100 (erH S H') xs ∧ xs.length ≤ 19 ∧ Pen H' a (n + 18) ∧ Fr H H', ?_, ?_⟩
    · refine ⟨6, rfl, by decide, by decide, ?_⟩
      refine for_range (lo := 0) (n := 6) (fun i σ H' => ∃ (xs : List V) (y5 y6 y7 y8 : Option V), σ = [some (.ref a), some (.ref L), some v, some (.int ((ns.length : Nat) : Int)), some (.ref S), y5, y6, y7, y8, none, none] ∧ H' S = some (.lst xs) ∧ AnyL 2 100 (erH S H') xs ∧ xs.length = 7 + 2 * i ∧ Pen H' a (n + 3 * i) ∧ Fr H H') ⟨_, _, _, _, _, rfl, eS, al, ll, hP1, Fr.same s0⟩ ?_ ?_
      · rintro i σ H1 hi ⟨xs, y5, y6, y7, y8, rfl, eS, al, lx, hP1, f1⟩
        refine ⟨3, rfl, by decide, by decide, fun Y nY => ?_⟩
        refine lc_range (lo := 0) (n := 3) (fun j H' => ∃ ds : List Int, H' Y = some (.lst (ds.map V.int)) ∧ ds.length = j ∧ (∀ z ∈ ds, 0 ≤ z ∧ z < (ns.length : Int)) ∧ Pen H' a (n + 3 * i + j) ∧ Fr H1 H') ⟨[], upd_same, rfl, fun _ z => (nomatch z), hP1.new nY, Fr.new nY⟩ ?_ ?_
        · rintro j H7 hj ⟨ds, eY, ld, hd, hP7, f7⟩
          refine ⟨rfl, _, rfl, _, rfl, a, _, _, rfl, hP7, by omega, by omega, Bd.small 20 (by omega) (by decide), fun d H8 d0 d1 hP8 f8 => ?_⟩
          refine ⟨_, f8.l _ _ eY, by rw [List.length_map]; exact small1000 (by omega), ds ++ [d], ?_, by rw [List.length_append, ld]; rfl, fun z hz => ?_, hP1.over nY hP8, (f7.trans f8).over nY⟩
          · rw [upd_same, List.map_append]
            rfl
          · rcases List.mem_append.mp hz with g | g
            · exact hd z g
            · rw [List.mem_singleton.mp g]
              exact ⟨d0, d1⟩
        rintro H7 ⟨ds, eY, ld, hd, hP7, f7⟩
        obtain ⟨d1, d2, d3, rfl⟩ := three21 (l := ds) ld
        have b1 := hd d1 (by simp)
        have b2 := hd d2 (by simp)
        have b3 := hd d3 (by simp)
        have eS7 := f7.l _ _ eS
        have al7 := al.kp (erH_mono f7.kp)
        refine ⟨Y, _, rfl, SqL.of eY, rfl, _, _, rfl, _, _, rfl, _, _, rfl, rfl, ?_⟩
        refine ⟨_, rfl, .inl ⟨rfl, _, SqL.of eS7⟩, _, rfl, _, rfl, _, rfl, len10 (by simp), fun q1 m1 => ?_⟩
        have w1 := sm_upd (o := .tup [.str "windows", .int d1, .int d2, .int d3]) m1
        refine ⟨S, xs, _, rfl, rfl, w1 _ _ eS7, ltS (by omega), ?_⟩
        have al8 := app21 (o := .tup [.str "windows", .int d1, .int d2, .int d3]) eS7 m1 al7 fun e => wi21 (b := false) e aW (any_sm (by omega)) (any_sm (by omega)) (any_sm (by omega))
        have f8 : Fr H (upd (upd H7 q1 (.tup [.str "windows", .int d1, .int d2, .int d3])) S (.lst (xs ++ [.ref q1]))) := ((f1.trans f7).trans (Fr.same w1)).over hS0
        have hP8 : Pen (upd (upd H7 q1 (.tup [.str "windows", .int d1, .int d2, .int d3])) S (.lst (xs ++ [.ref q1]))) a _ := hP.over hS0 (hP7.same w1)
        have eS8 := upd_same (H := upd H7 q1 (.tup [.str "windows", .int d1, .int d2, .int d3])) (a := S) (o := .lst (xs ++ [.ref q1]))
        generalize upd (upd H7 q1 (.tup [.str "windows", .int d1, .int d2, .int d3])) S (.lst (xs ++ [.ref q1])) = H8 at al8 f8 hP8 eS8 ⊢
        refine ⟨_, rfl, .inl ⟨rfl, _, SqL.of eS8⟩, _, rfl, len10 (by simp), fun q2 m2 => ?_⟩
        have w2 := sm_upd (o := .tup [.str "falls", .int d1]) m2
        refine ⟨S, _, _, rfl, rfl, w2 _ _ eS8, ltS (by rw [List.length_append]; show xs.length + 1 ≤ 100000; omega), ?_⟩
        have al9 := app21 (o := .tup [.str "falls", .int d1]) eS8 m2 al8 fun e => fl21 (b := false) e aF (any_sm (by omega))
        exact ⟨_, _, _, _, _, rfl, upd_same, al9, by rw [List.length_append, List.length_append]; show xs.length + 1 + 1 = _; omega, (hP.over hS0 (hP8.same w2)).mono (by omega), (f8.trans (Fr.same w2)).over hS0⟩
      · rintro σ H1 ⟨xs, y5, y6, y7, y8, rfl, eS, al, lx, hP1, f1⟩
        exact ⟨_, _, _, _, _, rfl, eS, al, by omega, hP1, f1⟩
    clear al eS ll hP1 s0
    rintro σ' H1 ⟨xs, y5, y6, y7, y8, rfl, eS, al, lx, hP1, f1⟩
    -- some more
    have f1S := f1
    refine ⟨fun σ' H' => ∃ (B0 : Hp) (S2 : Addr) (ys : List V), (B0 S2 = none ∧ Fr H B0 ∧ Pen B0 a (n + 18) ∧ Fr B0 H') ∧ σ' = [some (.ref a), some (.ref L), some v, some (.int ((ns.length : Nat) : Int)), some (.ref S2), y5, y6, y7, y8, none, none] ∧ H' S2 = some (.lst ys) ∧ AnyL 2 100 (erH S2 H') ys ∧ (1 ≤ ys.length ∧ ys.length ≤ 24) ∧ Pen H' a (n + 18), ?_, ?_⟩
    · refine ⟨_, rfl, len10 (by simp), fun q1 m1 => ?_⟩
      have w1 := sm_upd (o := .lst [.str "falls", .int 0]) m1
      refine ⟨len10 (by simp), fun q2 m2 => ?_⟩
      have w2 := sm_upd (o := .tup [.str "windows", .int 1, .int 0, .bl true]) m2
      refine ⟨1, rfl, len10 (by simp), fun q3 m3 => ?_⟩
      have w3 := sm_upd (o := .tup [.str "windows", .int (-1), .int 0, .int 1]) m3
      refine ⟨1, rfl, len10 (by simp), fun q4 m4 => ?_⟩
      have w4 := sm_upd (o := .tup [.str "falls", .int (-1)]) m4
      refine ⟨len10 (by simp), fun q5 m5 => ?_⟩
      have w5 := sm_upd (o := .lst [.str "falls"]) m5
      refine ⟨len10 (by simp), fun q6 m6 => ?_⟩
      have w6 := sm_upd (o := .tup [.ref q5, .int 0]) m6
      refine ⟨len10 (by simp), fun q7 m7 => ?_⟩
      have w7 := sm_upd (o := .lst [.ref q1, .ref q2, .ref q3, .ref q4, .ref q6]) m7
      have u6 := w6.trans w7
      have u5 := w5.trans u6
      have u4 := w4.trans u5
      have u3 := w3.trans u4
      have u2 := w2.trans u3
      have u1 := w1.trans u2
      have al2 := anyL_at21 (n := 2) (m := 100) (xs := [V.ref q1, .ref q2, .ref q3, .ref q4, .ref q6]) w7 (by
        intro y hy
        simp only [List.mem_cons, List.not_mem_nil, or_false] at hy
        rcases hy with rfl | rfl | rfl | rfl | rfl
        · exact (fl21 (b := true) (u2 _ _ upd_same) aF (any_sm (by decide))).mono (by decide) (by decide)
        · exact (wi21 (b := false) (u3 _ _ upd_same) aW (any_sm (by decide)) (any_sm (by decide)) aB).mono (by decide) (by decide)
        · exact (wi21 (b := false) (u4 _ _ upd_same) aW (any_sm (by decide)) (any_sm (by decide)) (any_sm (by decide))).mono (by decide) (by decide)
        · exact (fl21 (b := false) (u5 _ _ upd_same) aF (any_sm (by decide))).mono (by decide) (by decide)
        · have i5 : AnyV 1 20 _ (.ref q5) := (sq5_any (n := 0) (s := 16) (b := true) (u6 _ _ upd_same) (Sq5.one aF)).mono (by decide) (by decide)
          exact (sq5_any (n := 1) (s := 22 + 16) (b := false) (w7 _ _ upd_same) ((Sq5.one i5).app ((Sq5.one (any_sm (by decide))).mono (by decide) (by decide)))).mono (by decide) (by decide))
      refine ⟨S, q7, _, _, rfl, rfl, u1 _ _ eS, new_at21 w7, len10 (by show xs.length + 5 ≤ 1000; omega), fun S2 nS2 => ?_⟩
      have w8 := sm_upd (o := .lst (xs ++ [.ref q1, .ref q2, .ref q3, .ref q4, .ref q6])) nS2
      have hPB := hP1.same u1
      refine ⟨_, S2, _, ⟨nS2, f1.trans (Fr.same u1), hPB, Fr.same w8⟩, rfl, upd_same, ?_, by rw [List.length_append]; show 1 ≤ xs.length + 5 ∧ xs.length + 5 ≤ 24; omega, hPB.same w8⟩
      refine ((AnyL.app ?_ al2).kp (erH_new nS2)).kp er_up21
      exact (al.kp erH_kp).kp (Fr.same u1).kp
    clear eS al lx hP1 f1 f1S hS0
    rintro σ' H2 ⟨B0, S2, ys, ⟨nS2, fB, hPB, f2⟩, rfl, eS, al, lx, hP1⟩
    have eLB := fB.l _ _ eL
    -- the rises
    refine ⟨fun σ' H' => ∃ (xs : List V) (y6 y7 y8 y9 : Option V), σ' = [some (.ref a), some (.ref L), some v, some (.int ((ns.length : Nat) : Int)), some (.ref S2), y5, y6, y7, y8, y9, none] ∧ H' S2 = some (.lst xs) ∧ AnyL 2 100 (erH S2 H') xs ∧ (1 ≤ xs.length ∧ xs.length ≤ 60) ∧ Pen H' a (n + 18) ∧ Fr B0 H', ?_, ?_⟩
    · refine ⟨_, rfl, 1, ((ns.length : Nat) : Int), rfl, by omega, ?_⟩
      refine for_range (lo := 1) (n := (((ns.length : Nat) : Int) - 1).toNat) (fun i σ H' => ∃ (xs : List V) (y6 y7 y8 y9 : Option V), σ = [some (.ref a), some (.ref L), some v, some (.int ((ns.length : Nat) : Int)), some (.ref S2), y5, y6, y7, y8, y9, none] ∧ H' S2 = some (.lst xs) ∧ AnyL 2 100 (erH S2 H') xs ∧ (1 ≤ xs.length ∧ xs.length ≤ 24 + 2 * i) ∧ Pen H' a (n + 18) ∧ Fr B0 H') ⟨_, _, _, _, _, rfl, eS, al, by omega, hP1, f2⟩ ?_ ?_
      · clear eS al lx hP1 f2
        rintro i σ H4 hi ⟨xs, y6, y7, y8, y9, rfl, eS, al, lx, hP1, f2⟩
        have eL4 := f2.l _ _ eLB
        refine ⟨_, rfl, _, rfl, _, _, rfl, rfl, _, rfl, by omega, by omega, fun Y nY => ?_⟩
        refine lc_range (lo := 0) (n := (((ns.length : Nat) : Int) - (1 + (i : Int))).toNat) (fun j H' => ∃ gs : List Int, H' Y = some (.lst (gs.map V.int)) ∧ gs.length = j ∧ Same H4 H') ⟨[], upd_same, rfl, sm_upd nY⟩ ?_ ?_
        · rintro j H7 hj ⟨gs, eY, lg, s7⟩
          have eL7 := s7 _ _ eL4
          refine ⟨rfl, _, rfl, _, rfl, _, rfl, _, _, rfl, rfl, L, _, _, _, rfl, rfl, SqL.of eL7, atD (by omega) (by omega), _, rfl, _, rfl, L, _, _, _, rfl, rfl, SqL.of eL7, atD (by omega) (by omega), _, _, rfl, rfl, _, eY, by rw [List.length_map]; exact small1000 (by omega), gs ++ [ns.getD (0 + (j : Int) + (1 + (i : Int))).toNat 0 - ns.getD (0 + (j : Int)).toNat 0], ?_, by rw [List.length_append, lg]; rfl, fun b o eb => ?_⟩
          · rw [upd_same, List.map_append]
            rfl
          · rw [upd_ne (ne_of_none eb nY)]
            exact s7 _ _ eb
        rintro H7 ⟨gs, eY, lg, s7⟩
        have gl : 1 ≤ gs.length ∧ gs.length ≤ 17 := by omega
        have eS7 := s7 _ _ eS
        have al7 := al.kp (erH_mono (Fr.same s7).kp)
        have hP7 := hP1.same s7
        have gp : 0 < gs.length := gl.1
        have tyY : ∀ {X : Hp}, Same H7 X → tyV K "list" (.ref Y) X := fun s => .inl ⟨rfl, _, SqL.of (s _ _ eY)⟩
        refine ⟨_, rfl, .inl ⟨rfl, _, SqL.of eS7⟩, _, rfl, .inl ⟨rfl, _, SqL.of eY⟩, _, rfl, Y, gs, rfl, SqL.of eY, gp, fun mx hx _ => ?_⟩
        obtain ⟨j1, g1, f1'⟩ := first_at hx
        have hj1 := lt21 g1
        refine ⟨Y, _, .int mx, j1, .int mx, rfl, rfl, SqL.of eY, rfl, flat_is gs, mp21 g1, beq_self_eq_true mx, fnd21 f1', ?_⟩
        refine ⟨_, rfl, .inl ⟨rfl, _, SqL.of eY⟩, _, rfl, Y, gs, rfl, SqL.of eY, gp, fun mn hn _ => ?_⟩
        obtain ⟨j2, g2, f2'⟩ := first_at hn
        have hj2 := lt21 g2
        refine ⟨Y, _, .int mn, j2, .int mn, rfl, rfl, SqL.of eY, rfl, flat_is gs, mp21 g2, beq_self_eq_true mn, fnd21 f2', ?_⟩
        refine ⟨_, rfl, len10 (by simp), fun q1 m1 => ?_⟩
        have w1 := sm_upd (o := .tup [.str "windows", .int ((j1 : Nat) : Int), .int ((j2 : Nat) : Int), .int (1 + (i : Int))]) m1
        refine ⟨S2, xs, _, rfl, rfl, w1 _ _ eS7, ltS (by omega), ?_⟩
        have al8 := app21 (o := .tup [.str "windows", .int ((j1 : Nat) : Int), .int ((j2 : Nat) : Int), .int (1 + (i : Int))]) eS7 m1 al7 fun e => wi21 (b := false) e aW (any_sm (by omega)) (any_sm (by omega)) (any_sm (by omega))
        have f8 := ((f2.trans (Fr.same (s7.trans w1))).over (o := .lst (xs ++ [.ref q1])) nS2)
        have hP8 := hPB.over (o := .lst (xs ++ [.ref q1])) nS2 (hP7.same w1)
        have eS8 := upd_same (H := upd H7 q1 (.tup [.str "windows", .int ((j1 : Nat) : Int), .int ((j2 : Nat) : Int), .int (1 + (i : Int))])) (a := S2) (o := .lst (xs ++ [.ref q1]))
        have eY8 : upd (upd H7 q1 (.tup [.str "windows", .int ((j1 : Nat) : Int), .int ((j2 : Nat) : Int), .int (1 + (i : Int))])) S2 (.lst (xs ++ [.ref q1])) Y = some (.lst (gs.map V.int)) := by
          rw [upd_ne (fun z => by rw [z] at nY; rw [nY] at eS; cases eS)]
          exact w1 _ _ eY
        generalize upd (upd H7 q1 (.tup [.str "windows", .int ((j1 : Nat) : Int), .int ((j2 : Nat) : Int), .int (1 + (i : Int))])) S2 (.lst (xs ++ [.ref q1])) = H8 at al8 f8 hP8 eS8 eY8 ⊢
        refine ⟨_, rfl, .inl ⟨rfl, _, SqL.of eS8⟩, _, rfl, .inl ⟨rfl, _, SqL.of eY8⟩, _, rfl, Y, gs, rfl, SqL.of eY8, gp, fun mn hn _ => ?_⟩
        obtain ⟨j3, g3, f3'⟩ := first_at hn
        have hj3 := lt21 g3
        refine ⟨Y, _, .int mn, j3, .int mn, rfl, rfl, SqL.of eY8, rfl, flat_is gs, mp21 g3, beq_self_eq_true mn, fnd21 f3', ?_⟩
        refine ⟨_, rfl, .inl ⟨rfl, _, SqL.of eY8⟩, _, rfl, Y, gs, rfl, SqL.of eY8, gp, fun mx hx _ => ?_⟩
        obtain ⟨j4, g4, f4'⟩ := first_at hx
        have hj4 := lt21 g4
        refine ⟨Y, _, .int mx, j4, .int mx, rfl, rfl, SqL.of eY8, rfl, flat_is gs, mp21 g4, beq_self_eq_true mx, fnd21 f4', ?_⟩
        refine ⟨_, rfl, len10 (by simp), fun q2 m2 => ?_⟩
        have w2 := sm_upd (o := .tup [.str "windows", .int ((j3 : Nat) : Int), .int ((j4 : Nat) : Int), .int (1 + (i : Int))]) m2
        refine ⟨S2, _, _, rfl, rfl, w2 _ _ eS8, ltS (by rw [List.length_append]; show xs.length + 1 ≤ 100000; omega), ?_⟩
        have al9 := app21 (o := .tup [.str "windows", .int ((j3 : Nat) : Int), .int ((j4 : Nat) : Int), .int (1 + (i : Int))]) eS8 m2 al8 fun e => wi21 (b := false) e aW (any_sm (by omega)) (any_sm (by omega)) (any_sm (by omega))
        exact ⟨_, _, _, _, _, rfl, upd_same, al9, by rw [List.length_append, List.length_append]; show 1 ≤ xs.length + 1 + 1 ∧ xs.length + 1 + 1 ≤ _; omega, hPB.over nS2 (hP8.same w2), (f8.trans (Fr.same w2)).over nS2⟩
      · rintro σ H4 ⟨xs, y6, y7, y8, y9, rfl, eS, al, lx, hP1, f2⟩
        exact ⟨_, _, _, _, _, rfl, eS, al, by omega, hP1, f2⟩
    clear eS al lx hP1 f2
    rintro σ' H3 ⟨xs, y6, y7, y8, y9, rfl, eS, al, lx, hP1, f2⟩
    refine ⟨_, rfl, 8, rfl, by decide, by decide, fun Y nY => ?_⟩
    refine lc_range (lo := 0) (n := 8) (fun j H' => ∃ zs, H' Y = some (.lst zs) ∧ AnyL 7 800 (erH Y H') zs ∧ zs.length = j ∧ Pen H' a (n + 18 + 301 * j) ∧ Fr H3 H') ⟨[], upd_same, .nil, rfl, hP1.new nY, Fr.new nY⟩ ?_ ?_
    · rintro j H7 hj ⟨zs, eY, az, lz, hP7, f7⟩
      refine ⟨rfl, _, rfl, _, rfl, _, rfl, a, S2, _, xs, rfl, hP7, by omega, f7.l _ _ eS, fun z => by rw [z] at lx; simp at lx, by omega, fun x H8 hx hP8 f8 => ?_⟩
      have ax := (((al x hx).kp erH_kp).kp (erH_new nY)).kp (erH_mono (F := Y) (f7.trans f8).kp)
      have eY8 := f8.l _ _ eY
      refine ⟨a, _, 100, 2, x, Y, rfl, kept_lst eY8, hP8, by omega, ax, by decide, by decide, by decide, fun y H9 ay hP9 f9 => ?_⟩
      refine ⟨zs, f9.l _ _ eY8, small1000 (by omega), zs ++ [y], upd_same, ?_, by rw [List.length_append, lz]; rfl, (hP1.over nY hP9).mono (by omega), ((f7.trans f8).trans f9).over nY⟩
      rw [erH_upd]
      exact (az.kp (erH_mono (f8.trans f9).kp)).snoc (ay.mono (by decide) (by decide))
    rintro H7 ⟨zs, eY, az, lz, hP7, f7⟩
    refine ⟨S2, Y, _, _, rfl, rfl, f7.l _ _ eS, eY, len10 (by omega), fun T1 nT1 => ?_⟩
    have w1 := sm_upd (o := .lst (xs ++ zs)) nT1
    refine ⟨_, rfl, a, _, rfl, hP7.same w1, by show _ + 10000 * 2 < 2 ^ 37; omega, by decide, fun x H8 ax hP8 f8 => ⟨len10 (by simp), fun q nq => ?_⟩⟩
    have w2 := sm_upd (o := .lst [x]) nq
    refine ⟨T1, q, _, _, rfl, rfl, w2 _ _ (f8.l _ _ upd_same), upd_same, len10 (by rw [List.length_append]; show xs.length + zs.length + 1 ≤ 1000; omega), fun T nT => ?_⟩
    have w3 := sm_upd (o := .lst ((xs ++ zs) ++ [x])) nT
    have w23 := w2.trans w3
    have fz := (Fr.same w1).trans (f8.trans (Fr.same w23))
    refine kk T _ _ upd_same ?_ (by rw [List.length_append, List.length_append]; show xs.length + zs.length + 1 ≤ 100; omega) ((hP8.same w23).mono (pb2 n)) (fB.trans (f2.trans (f7.trans fz)))
    refine AnyL.app (AnyL.app ?_ ?_) ?_
    · exact (((al.kp erH_kp).kp f7.kp).kp fz.kp).mono (by decide) (by decide)
    · exact (az.kp erH_kp).kp fz.kp
    · exact AnyL.cons (((ax.kp nw_kp).kp (Fr.same w23).kp).mono (show 7 ≤ 7 by decide) (show mB 2 ≤ 800 by decide)) .nil
def spUCBad (C : Addr) : Sp := fun vs H _ E => ∃ (v y : V) (d : PyData), vs = [v, y] ∧ Dv H v d ∧ ¬ cntP d ∧ ∀ H', Same H H' → OutC C v H' E
theorem okx_is_uneven_certificate (D : Df K mg "is_uneven_certificate" s_is_uneven_certificate P_is_uneven_certificate) (T : ValC P K mg C "InvalidCounts" "value") (B : Bi mg) (c_is_counts : C8.Cal P w K mg base 2 "is_counts" spIsCtD []) : CalX P w K mg base 3 "is_uneven_certificate" (spUCBad C) := by
  refine calx_of D sc_is_uneven_certificate (fun vs H Q E h => ?_) (fun f cdv A outer s H vs Q E hr h => ?_)
  · obtain ⟨v, y, d, rfl, _⟩ := h
    rfl
  · obtain ⟨v, y, d, rfl, hv, hn, he⟩ := h
    refine ⟨_, pss_cons (ps_if (pt_not (pt_val (C8.pe_c c_is_counts hr (by decide) (by rfl) (pa_cons (pv 0) pa_nil)))) (pss_one (ps_raise rfl (takes_of rfl rfl rfl rfl) (pmk_val T hr (by decide) rfl (pv 0)))) pss_nil) pss_no, ?_⟩
    refine ⟨_, rfl, v, d, rfl, hv, fun b H1 s1 hb => ⟨b, rfl, ?_⟩⟩
    cases b with
    | true => exact absurd (hb.mp rfl) hn
    | false => exact iteT ⟨_, rfl, mkv (he _ s1)⟩
end
end Lf
namespace Lf
open PySem PySem.Spec PyProof.Rows L2
theorem ps_n1 {X : Cx} {st : Stmt} {t : TS} (h1 : ∃ o, X.base.get? 1 = some o) (h : PS X st t) : PS X st (fun D σ H => H 1 = none → t D σ H) :=
  ⟨fun pins s σ H D I ht => h.run pins s σ H D I (ht (let ⟨o, ho⟩ := h1; (I.bs 1 o ho).2))⟩
abbrev qLam21 : Str := (("law" : Str) ++ (".<locals>." : Str)) ++ ("<lambda>" : Str)
theorem dvf_sqI {H : Hp} {X : Addr} {kb : Bool} {is : List Int} (h : H X = some (sqO kb (is.map V.int))) : DvF H (.ref X) (sqD kb (is.map PyData.int)) := by
  cases kb with
  | true => exact .lst h (dvf_ints is)
  | false => exact .tup h (dvf_ints is)
theorem shn_int {i : Int} (h : Bd 1900 i) : ShN 0 2000 (.int i) := by
  have hz : i.natAbs.log2 < 1920 := (h.mono (show 1900 ≤ 1920 by decide)).log (by decide)
  refine ⟨by simpa [PyData.showable] using hz, Nat.le_refl _, ?_⟩
  have := PyProof.Rows.int_text_len_1921 hz
  show (toString i : Str).length ≤ 2000
  omega
theorem any_int {H : Hp} {i : Int} (h : Bd 1900 i) : AnyV 0 2000 H (.int i) := ⟨_, .int i, shn_int h⟩
theorem any_ints {H : Hp} {ns : List Int} (h : ∀ i ∈ ns, Bd 1900 i) : AnyL 0 2000 H (ns.map V.int) := fun x hx => by
  obtain ⟨i, hi, rfl⟩ := List.mem_map.mp hx
  exact any_int (h i hi)
theorem dp_intl {K : PySem.W.Frag} {H : Hp} {a : Addr} {ns : List Int} (h : H a = some (.lst (ns.map V.int))) : Dp K H (.ref a) (.list (ns.map PyData.int)) := Dp.lst (SqL.of h) (dp_ints ns)
theorem lay_ints (ns : List Int) : (PyData.list (ns.map PyData.int)).canLay0 = true := by
  have h : (PyData.canLay0 (.list (ns.map PyData.int)) && decide _) = true := sh_ints ns
  exact (Bool.and_eq_true _ _ ▸ h).1

theorem dvA21 {H : Hp} : ∀ ns : List Int, DvAll H (ns.map V.int) (ns.map PyData.int)
  | [] => .nil
  | i :: r => .cons (.int i) (dvA21 r)
theorem dvL21 {H : Hp} {R : Addr} {ns : List Int} (h1 : R ≠ 1) (e : H R = some (.lst (ns.map V.int))) : Dv H (.ref R) (sqD true (ns.map PyData.int)) := .lst h1 e (dvA21 ns)
theorem sh21 {kb : Bool} {ns : List Int} (h : ∀ z ∈ ns, Bd 1900 z) (l : ns.length ≤ 17) : ShN 7 34037 (sqD kb (ns.map PyData.int)) := by
  have hi : ∀ d ∈ ns.map PyData.int, ShN 0 2000 d := fun d hd => by
    obtain ⟨i, hi, rfl⟩ := List.mem_map.mp hd
    exact shn_int (h i hi)
  cases kb with
  | true => exact (shn_lst (k := 17) hi (by rw [List.length_map]; exact l)).mono (by decide) (by decide)
  | false => exact (shn_tup (k := 17) hi (by rw [List.length_map]; exact l)).mono (by decide) (by decide)
theorem ct21 {H : Hp} {ns : List Int} {r : Addr} (c : Ct H ns r) (l : ns.length ≤ 17) : AnyV 2 100 H (.ref r) := by
  have lt_ : ∀ {k : Nat} {x : Int}, ns[k]? = some x → k < 17 := fun e => Nat.lt_of_lt_of_le (List.getElem?_eq_some_iff.mp e).1 l
  cases c with
  | @falls i x y er h1 h2 h3 =>
    have := lt_ h1
    exact fl21 (b := false) er (any_st (by decide +kernel)) (any_sm (by omega))
  | @wins i j u a b c d er w1 h1 h2 h3 h4 h5 =>
    have a1 := lt_ h1
    have a2 := lt_ h2
    have a3 := lt_ h3
    exact wi21 (b := false) er (any_st (by decide +kernel)) (any_sm (by omega)) (any_sm (by omega)) (any_sm (by omega))
theorem app_dvf {H : Hp} {y : V} {e : PyData} : ∀ {xs : List V} {ds : List PyData}, DvFAll H xs ds → DvF H y e → DvFAll H (xs ++ [y]) (ds ++ [e])
  | _, _, .nil, h => .cons h .nil
  | _, _, .cons a b, h => .cons a (app_dvf b h)
theorem rep21 : (List.replicate (201 : Int).toNat [V.int 0]).flatten = (List.replicate 201 (0 : Int)).map V.int := by
  rfl
theorem gd21 {ns : List Int} {k : Nat} {x : Int} {j : Int} (h : ns[k]? = some x) (e : j.toNat = k) : ns.getD j.toNat 0 = x := by
  rw [e, List.getD_eq_getElem?_getD, h]
  rfl
theorem ctB {H : Hp} {ns : List Int} {r : Addr} (c : Ct H ns r) : ∃ d, Dv H (.ref r) d ∧ certB ns d = true := by
  have lt_ : ∀ {k : Nat} {x : Int}, ns[k]? = some x → k < ns.length := fun e => (List.getElem?_eq_some_iff.mp e).1
  cases c with
  | @falls i x y er h1 h2 h3 =>
    refine ⟨.tuple [.str "falls", .int (i : Nat)], .tup er (.cons (.str _) (.cons (.int _) .nil)), ?_⟩
    have l2 := lt_ h2
    show (decide (0 ≤ ((i : Nat) : Int)) && (decide (V.str "falls" = V.str "falls") && fallB ns ((i : Nat) : Int))) = true
    unfold fallB
    rw [gd21 (j := ((i : Nat) : Int) + 1) h2 (by omega), gd21 (j := ((i : Nat) : Int)) h1 (by omega), decide_eq_true (show (0 : Int) ≤ ((i : Nat) : Int) by omega), decide_eq_true (show V.str "falls" = V.str "falls" from rfl), decide_eq_true (show ((i : Nat) : Int) + 1 < (ns.length : Int) by omega), decide_eq_true h3]
    rfl
  | @wins i j u a b c d er w1 h1 h2 h3 h4 h5 =>
    refine ⟨.tuple [.str "windows", .int (i : Nat), .int (j : Nat), .int (u : Nat)], .tup er (.cons (.str _) (.cons (.int _) (.cons (.int _) (.cons (.int _) .nil)))), ?_⟩
    have l2 := lt_ h2
    have l4 := lt_ h4
    show ((decide (0 ≤ ((i : Nat) : Int)) && (decide (0 ≤ ((j : Nat) : Int)) && decide (0 ≤ ((u : Nat) : Int)))) && (decide (V.str "windows" = V.str "windows") && winB ns ((i : Nat) : Int) ((j : Nat) : Int) ((u : Nat) : Int))) = true
    unfold winB
    rw [gd21 (j := ((j : Nat) : Int) + ((u : Nat) : Int)) h4 (by omega), gd21 (j := ((j : Nat) : Int)) h3 (by omega), gd21 (j := ((i : Nat) : Int) + ((u : Nat) : Int)) h2 (by omega), gd21 (j := ((i : Nat) : Int)) h1 (by omega)]
    have e1 : decide ((if ((j : Nat) : Int) > ((i : Nat) : Int) then ((j : Nat) : Int) else ((i : Nat) : Int)) + ((u : Nat) : Int) < (ns.length : Int)) = true := decide_eq_true (by split <;> omega)
    rw [e1, decide_eq_true (show (0 : Int) ≤ ((i : Nat) : Int) by omega), decide_eq_true (show (0 : Int) ≤ ((j : Nat) : Int) by omega), decide_eq_true (show (0 : Int) ≤ ((u : Nat) : Int) by omega), decide_eq_true (show V.str "windows" = V.str "windows" from rfl), decide_eq_true (show (1 : Int) ≤ ((u : Nat) : Int) by omega), decide_eq_true (show d - c + 2 ≤ b - a by omega)]
    rfl
theorem same21 {x : Str} {Q : Bool → Prop} (h : Q true) : Q (decide (V.str x = V.str x)) := by
  rw [decide_eq_true rfl]
  exact h
structure St21 (R h : Addr) (kb : Bool) (ms : List Int) (told : V) (H : Hp) : Prop where
  eR : H R = some (.lst (ms.map V.int))
  eh : H h = some (sqO kb (ms.map V.int))
  at_ : AnyV 2 100 H told
theorem St21.kp {R h : Addr} {kb : Bool} {ms : List Int} {told : V} {H H' : Hp} (s : St21 R h kb ms told H) (k : Kp H H') : St21 R h kb ms told H' := ⟨k.l _ _ s.eR, sq_kp k s.eh, s.at_.kp k⟩

section
variable {P : Program} {w : World} {K : PySem.W.Frag} {mg : Str → Option Value} {base : Heap} {C L N R E F cE PT : Addr}
abbrev s_law : Stmt := topS 37
abbrev N_law : List Str := ["_law_script", "_law_pen_here", "_law_turn", "_law_row_here", "_law_handed", "_law_told", "_law_thing", "_law_kept", "_law_odd", "_law_again", "_law_one", "_law_other", "_law_width", "_law_k"]
abbrev P_law : List Str := ["_law_script"]
theorem sc_law : FnScope N_law P_law (defScope s_law) := ⟨rfl, rfl, rfl, by decide +kernel, rfl, by decide +kernel, by decide +kernel⟩
theorem ok_law {f : Addr} {oc kV doc pm ct : Value} {od an : Option Addr} {osl : Array (Option Value)} (lkQ : K.lookup f = some ⟨oc, od, .func (PySem.W.fnOf "law" "law" (defArgs s_law) (defBody s_law) (defScope s_law) .none kV doc pm an (.ref cE) ct), osl⟩) (hcQ : PySem.W.codeIn K (.ref cE) "law" = true) (TB : LamX.TabB base mg cE PT) (o1 : ∃ o, base.get? 1 = some o)
    (T : ValC P K mg C "InvalidCounts" "value") (U : Cls20 K mg C L N R E F) (B : Bi mg) (D_l_refused : Df K mg "_law_refused" s_l_refused P_l_refused) (c_l_pen : C8.Cal P w K mg base 1 "_law_pen" (spPen K) []) (c_l_draw : C8.Cal P w K mg base 1 "_law_draw" spDraw []) (c_l_pick : C8.Cal P w K mg base 2 "_law_pick" spPick []) (c_l_signed : C8.Cal P w K mg base 3 "_law_signed" spSigned []) (c_l_row : C8.Cal P w K mg base 5 "_law_row" spRowM []) (c_l_long_row : C8.Cal P w K mg base 5 "_law_long_row" spLongRow [])
    (c_l_things : C8.Cal P w K mg base 7 "_law_things" spThings []) (c_l_is_even : C8.Cal P w K mg base 1 "_law_is_even" spIsEv []) (c_l_certifies : C8.Cal P w K mg base 2 "_law_certifies" spCertD []) (c_uneven : C8.Cal P w K mg base 3 "uneven" spUnK []) (c_is_uneven_certificate : C8.Cal P w K mg base 3 "is_uneven_certificate" spUC []) (cx_is_uneven_certificate : CalX P w K mg base 3 "is_uneven_certificate" (spUCBad C)) : FnG P w K mg base 8 f (PySem.W.fnOf "law" "law" (defArgs s_law) (defBody s_law) (defScope s_law) .none kV doc pm an (.ref cE) ct) P_law (spLawT K PT) := by
  refine fnG_lk lkQ hcQ sc_law (fun vs H Q E h => ?_) (fun A outer s H vs Q E hr gd h => ?_)
  · obtain ⟨a, ns, rfl, _⟩ := h
    rfl
  · obtain ⟨sc, ns, rfl, hS, hlen, hPT, kk⟩ := h
    obtain ⟨g, fdN, FN, hmN, bN⟩ := D_l_refused
    have kpN := FN.kp
    obtain ⟨ocN, odN, kVN, dcN, pmN, anN, cdN, ctN, slN, rfl, lkN, hcN⟩ := FN.ex
    have hT1 : (PT, (cxOf CX0 P w K mg base N_law "law" (defScope s_law) f (.ref cE) A outer s H E).nox.env.qual ++ ("<lambda>" : Str)) ∈ [(PT, qLam21)] := List.mem_singleton.mpr rfl
    have hT2 : ∀ p ∈ [(PT, qLam21)], p.1 = PT → p.2 = (cxOf CX0 P w K mg base N_law "law" (defScope s_law) f (.ref cE) A outer s H E).nox.env.qual ++ ("<lambda>" : Str) := fun p hp _ => by
      rw [List.mem_singleton.mp hp]
      rfl
    have hu0 : (A.deeper (envOfC "law" (defScope s_law) s.heap.objs.size f (.ref cE))).units + 70 < cLine := by
      have := hr.un
      omega
    refine ⟨_, (pss_cons (ps_set (i := 1) sc_law.nd rfl (Or.inr rfl) (C8.pe_c c_l_pen hr (by decide) (by rfl) (pa_cons (pv 0) pa_nil)))
    (pss_cons (ps_for PassesOwn.never rfl (pi_range1 rfl B.range_ (pa_cons pe_int pa_nil)) (pg_name (i := 2) sc_law.nd rfl (Or.inl rfl))
      (pss_cons (ps_set (i := 3) sc_law.nd rfl (Or.inr rfl) (pe_op op_cat (C8.pe_c c_l_row hr (by decide) (by rfl) (pa_cons (pv 1) (pa_cons pe_int pa_nil))) (pe_lst (pa_cons (C8.pe_c c_l_signed hr (by decide) (by rfl) (pa_cons (pv 1) (pa_cons pe_int pa_nil))) pa_nil))))
    (C8.pss_cut (ps_n1 o1 (ps_asg (pe_tup (pa_cons (C8.pe_c c_l_pick hr (by decide) (by rfl) (pa_cons (pv 1) (pa_cons (pe_lst (pa_cons (pe_callTy (call_list_of) (by rfl) B.list_ bt_list (pa_cons (pv 3) pa_nil)) (pa_cons (pe_callTy (call_tuple_of) (by rfl) B.tuple_ bt_tuple (pa_cons (pv 3) pa_nil)) pa_nil))) pa_nil))) (pa_cons (C8.pe_c c_uneven hr (by decide) (by rfl) (pa_cons (pv 3) pa_nil)) pa_nil))) (pg_tup rfl (pgs_cons (pg_name (i := 4) sc_law.nd rfl (Or.inl rfl)) (pgs_cons (pg_name (i := 5) sc_law.nd rfl (Or.inr rfl)) pgs_nil)))))
    (pss_cons (ps_for PassesOwn.never rfl (pi_list (C8.pe_c c_l_things hr (by decide) (by rfl) (pa_cons (pv 1) (pa_cons (pv 3) (pa_cons (pv 5) pa_nil))))) (pg_name (i := 6) sc_law.nd rfl (Or.inl rfl))
      (pss_cons (ps_n1 o1 (ps_set (i := 7) sc_law.nd rfl (Or.inl rfl) (pe_callB ((repr_any1 o1 gd hu0)) (by rfl) B.repr_ bt_repr (pa_cons (pe_tup (pa_cons (pv 4) (pa_cons (pv 6) pa_nil))) pa_nil))))
    (pss_cons (ps_if (pt_cmpR op_ne (pe_callB ((repr_any1 o1 gd hu0)) (by rfl) B.repr_ bt_repr (pa_cons (C8.pe_c c_is_uneven_certificate hr (by decide) (by rfl) (pa_cons (pv 4) (pa_cons (pv 6) pa_nil))) pa_nil)) (pe_callB ((repr_any1 o1 gd hu0)) (by rfl) B.repr_ bt_repr (pa_cons (C8.pe_c c_l_certifies hr (by decide) (by rfl) (pa_cons (pv 3) (pa_cons (pv 6) pa_nil))) pa_nil)) (nomark _))
      (pss_one (ps_ret pe_bl))
      pss_nil)
    (pss_one (ps_if (pt_cmpR op_ne (pe_callB ((repr_any1 o1 gd hu0)) (by rfl) B.repr_ bt_repr (pa_cons (pe_tup (pa_cons (pv 4) (pa_cons (pv 6) pa_nil))) pa_nil)) (pv 7) (nomark _))
      (pss_one (ps_ret pe_bl))
      pss_nil)))))
    (C8.pss_cut (ps_set (i := 8) sc_law.nd rfl (Or.inr rfl) (C8.pe_c c_l_pick hr (by decide) (by rfl) (pa_cons (pv 1) (pa_cons (pe_lst (pa_cons (pe_lst pa_nil) (pa_cons (pe_op op_cat (pv 3) (pe_lst (pa_cons pe_non pa_nil))) (pa_cons (pe_op op_cat (pv 3) (pe_lst (pa_cons pe_bl pa_nil))) (pa_cons pe_non (pa_cons pe_str (pa_cons pe_dnewK (pa_cons (pe_op op_rep (pe_lst (pa_cons pe_int pa_nil)) pe_int) pa_nil)))))))) pa_nil))))
    (pss_one (ps_n1 o1 (ps_if (pt_cmpR op_ne (pe_callB ((repr_any1 o1 gd hu0)) (by rfl) B.repr_ bt_repr (pa_cons (LamX.pe_lamcall (T := [(PT, qLam21)]) (k := 4) (by rfl) hmN kpN lkN hcN bN sc_l_refused rfl (Or.inl rfl) (gives_20 T U B) TB rfl hT1 hT2 (hr.mono (by decide)) (LamX.lamS_by (sc := defScope s_law) (by decide +kernel)) rfl (fun _ _ _ _ _ => rfl) (fun A outer s H E f c' hr2 => pe_cx cx_is_uneven_certificate hr2 (by decide) (takes_of rfl rfl rfl rfl) (by rfl) (pa_cons (pe_var (i := 8) rfl (Or.inr (Or.inr rfl))) (pa_cons (pe_var (i := 5) rfl (Or.inr (Or.inr rfl))) pa_nil)))) pa_nil)) (pe_callB ((repr_any1 o1 gd hu0)) (by rfl) B.repr_ bt_repr (pa_cons (pe_lst (pa_cons (pv 8) pa_nil)) pa_nil)) (nomark _))
      (pss_one (ps_ret pe_bl))
      pss_nil))))))))
    (C8.pss_cut (ps_set (i := 3) sc_law.nd rfl (Or.inr rfl) (C8.pe_c c_l_long_row hr (by decide) (by rfl) (pa_cons (pv 1) (pa_cons pe_int pa_nil))))
    (pss_cons (ps_for PassesOwn.never rfl (pi_range1 rfl B.range_ (pa_cons pe_int pa_nil)) (pg_name (i := 9) sc_law.nd rfl (Or.inl rfl))
      (pss_cons (ps_asg (pe_lc (own := [("_law_k", 13)]) (g := (gName 13)) (by rfl) sc_law.nd (pi_range1 rfl B.range_ (pa_cons pe_int pa_nil)) (blkOk_by (own := [("_law_k", 13)]) (N := N_law) (sc := defScope s_law) (by decide +kernel)) (fun _ _ _ _ _ => (pg_name (i := 13) sc_law.nd rfl (Or.inl rfl))) (fun _ _ _ _ _ => pts_nil) (fun _ _ _ _ _ => (C8.pe_c c_l_draw hr (by decide) (by rfl) (pa_cons (pv 1) (pa_cons (pe_callB ((show CallR _ _ (rLenS21 K) from call_len_seq)) (by rfl) B.len_ bt_len (pa_cons (pv 3) pa_nil)) pa_nil))))) (pg_unl rfl (pgs_cons (pg_name (i := 10) sc_law.nd rfl (Or.inl rfl)) (pgs_cons (pg_name (i := 11) sc_law.nd rfl (Or.inl rfl)) (pgs_cons (pg_name (i := 12) sc_law.nd rfl (Or.inl rfl)) pgs_nil)))))
    (pss_cons (ps_n1 o1 (ps_set (i := 6) sc_law.nd rfl (Or.inl rfl) (pe_tup (pa_cons pe_str (pa_cons (pv 10) (pa_cons (pv 11) (pa_cons (pe_op op_mod (pv 12) (pe_op op_sub (pe_callB (call_len_seq) (by rfl) B.len_ bt_len (pa_cons (pv 3) pa_nil)) (pe_callB (call_max2 rfl) (by rfl) B.max_ bt_max (pa_cons (pv 10) (pa_cons (pv 11) pa_nil))))) pa_nil)))))))
    (pss_one (ps_if (pt_cmpR op_ne (pe_callB ((repr_any1 o1 gd hu0)) (by rfl) B.repr_ bt_repr (pa_cons (C8.pe_c c_is_uneven_certificate hr (by decide) (by rfl) (pa_cons (pv 3) (pa_cons (pv 6) pa_nil))) pa_nil)) (pe_callB ((repr_any1 o1 gd hu0)) (by rfl) B.repr_ bt_repr (pa_cons (C8.pe_c c_l_certifies hr (by decide) (by rfl) (pa_cons (pv 3) (pa_cons (pv 6) pa_nil))) pa_nil)) (nomark _))
      (pss_one (ps_ret pe_bl))
      pss_nil)))))
    (pss_one (ps_ret (pe_cmpR op_eq (pe_callB ((repr_any1 o1 gd hu0)) (by rfl) B.repr_ bt_repr (pa_cons (C8.pe_c c_is_uneven_certificate hr (by decide) (by rfl) (pa_cons (pv 3) (pa_cons (C8.pe_c c_uneven hr (by decide) (by rfl) (pa_cons (pv 3) pa_nil)) pa_nil))) pa_nil)) (pe_callB ((repr_any1 o1 gd hu0)) (by rfl) B.repr_ bt_repr (pa_cons (pe_not (C8.pe_c c_l_is_even hr (by decide) (by rfl) (pa_cons (pv 3) pa_nil))) pa_nil)) (nomark _)))))))), ?_⟩
    refine ⟨_, rfl, sc, ns, rfl, hS, fun a H0 hP0 s0 => ?_⟩
    have t0 : LamX.Tabs [(PT, qLam21)] H0 := fun p hp => by
      rw [List.mem_singleton.mp hp]
      exact LamX.TabS.nil (s0 _ _ hPT)
    refine ⟨6, rfl, by decide, by decide, ?_⟩
    refine for_range (lo := 0) (n := 6) (fun i σ H1 => ∃ (y2 y3 y4 y5 y6 y7 y8 y9 y10 y11 y12 : Option V), σ = [some (.ref sc), some (.ref a), y2, y3, y4, y5, y6, y7, y8, y9, y10, y11, y12, none] ∧ Pen H1 a (10000 * i) ∧ LamX.Tabs [(PT, qLam21)] H1) ⟨_, _, _, _, _, _, _, _, _, _, _, rfl, hP0, t0⟩ ?_ ?_
    · rintro i σ H1 hi ⟨y2, y3, y4, y5, y6, y7, y8, y9, y10, y11, y12, rfl, hP1, t1⟩
      refine ⟨_, rfl, a, _, _, rfl, hP1, by omega, by decide, by decide, fun Rw0 H2 ns rw ln1 ln2 hP2 f2 => ?_⟩
      have t12 : ((12 : Int) / 6).toNat = 2 := by decide
      refine ⟨_, rfl, a, _, 12, rfl, hP2, by omega, by decide, by decide, fun g0 H3 bg hP3 f3 => ⟨len10 (by simp), fun l1 n1 => ?_⟩⟩
      rw [t12] at hP3 bg
      have z1 := sm_upd (o := .lst [.int g0]) n1
      have eR0 := z1 _ _ (f3.l _ _ rw.e)
      have lm : (ns.map V.int).length = ns.length := List.length_map ..
      refine ⟨Rw0, l1, _, _, rfl, rfl, eR0, upd_same, len10 (by rw [lm]; show ns.length + 1 ≤ 1000; omega), fun R nR => ?_⟩
      have z2 := sm_upd (o := .lst (ns.map V.int ++ [.int g0])) nR
      have z12 := z1.trans z2
      have eR : upd (upd H3 l1 (.lst [.int g0])) R (.lst (ns.map V.int ++ [.int g0])) R = some (.lst ((ns ++ [g0]).map V.int)) := by
        rw [upd_same, List.map_append]
        rfl
      have hP4 := (hP3.same z12).mono (show _ ≤ 10000 * i + 500 by omega)
      have t4 := tabs_same (tabs_fr (tabs_fr t1 f2) f3) z12
      have bm : ∀ z ∈ ns ++ [g0], Bd 1900 z := fun z hz => by
        rcases List.mem_append.mp hz with g | g
        · exact (rw.b z g).mono (by decide)
        · rw [List.mem_singleton.mp g]
          exact bg.mono (by decide)
      have lms : 1 ≤ (ns ++ [g0]).length ∧ (ns ++ [g0]).length ≤ 17 := by
        rw [List.length_append]
        show 1 ≤ ns.length + 1 ∧ ns.length + 1 ≤ 17
        omega
      generalize upd (upd H3 l1 (.lst [.int g0])) R (.lst (ns.map V.int ++ [.int g0])) = H4 at eR hP4 t4 ⊢
      generalize ns ++ [g0] = ms at eR bm lms
      clear z1 z2 z12 n1 nR eR0 hP3 hP2 f2 f3 rw hP1 t1 lm bg ln1 ln2
      -- handed, told
      refine ⟨fun σ' H' => ∃ (h : Addr) (kb : Bool) (told : V), σ' = [some (.ref sc), some (.ref a), some (.int ((0 : Int) + i)), some (.ref R), some (.ref h), some told, y6, y7, y8, y9, y10, y11, y12, none] ∧ R ≠ 1 ∧ St21 R h kb ms told H' ∧ Pen H' a (10000 * i + 510) ∧ LamX.Tabs [(PT, qLam21)] H', fun h1 => ?_, ?_⟩
      · have hR1 : R ≠ 1 := fun e => by
          rw [e, h1] at eR
          cases eR
        refine ⟨_, rfl, _, rfl, R, _, rfl, .inl (SqL.of eR), fun l1 n1 => ?_⟩
        have z1 := sm_upd (o := .lst (ms.map V.int)) n1
        refine ⟨_, rfl, R, _, rfl, .inl ⟨SqL.of (z1 _ _ eR), fun l2 n2 => ?_⟩⟩
        have z2 := sm_upd (o := .tup (ms.map V.int)) n2
        refine ⟨len10 (by simp), fun l3 n3 => ?_⟩
        have z3 := sm_upd (o := .lst [.ref l1, .ref l2]) n3
        have zz := z1.trans (z2.trans z3)
        refine ⟨a, l3, _, _, rfl, hP4.same zz, by omega, upd_same, by simp, by simp, fun X H5 hX hP5 f5 => ?_⟩
        obtain ⟨h, kb, rfl, eh⟩ : ∃ h kb, X = .ref h ∧ H5 h = some (sqO kb (ms.map V.int)) := by
          simp only [List.mem_cons, List.not_mem_nil, or_false] at hX
          rcases hX with rfl | rfl
          · exact ⟨l1, true, rfl, f5.l _ _ (z3 _ _ (z2 _ _ upd_same))⟩
          · exact ⟨l2, false, rfl, f5.t _ _ (z3 _ _ upd_same)⟩
        have f45 := (Fr.same zz).trans f5
        have eR5 := f45.l _ _ eR
        refine ⟨_, rfl, R, true, ms, rfl, eR5, dvL21 hR1 eR5, lms.1, by omega, fun told H6 s6 ht => ?_⟩
        have ak : AnyV 2 100 H6 told := by
          rcases ht with ⟨rfl, _⟩ | ⟨r, rfl, _, ct⟩
          · exact (any_by (n := 0) (m := 60) .non (by decide +kernel)).mono (by decide) (by decide)
          · exact ct21 ct lms.2
        refine ⟨len10 (by simp), fun T0 nT => ?_⟩
        have zT := sm_upd (o := .tup [.ref h, told]) nT
        refine ⟨T0, _, rfl, SqT.of upd_same, rfl, _, _, rfl, _, _, rfl, rfl, ?_⟩
        have s7 := s6.trans zT
        exact ⟨h, kb, told, rfl, hR1, ⟨s7 _ _ eR5, sq_kp (Fr.same s7).kp eh, ak.kp (Fr.same zT).kp⟩, (hP5.same s7).mono (by omega), tabs_same (tabs_fr t4 f45) s7⟩
      clear eR hP4 t4
      rintro σ' H4 ⟨h, kb, told, rfl, hR1, st, hP4, t4⟩
      have bsh : ∀ b : Bool, (PyData.bool b).showable = true ∧ (PyData.bool b).depth ≤ 60 ∧ (PyData.bool b).shown.length ≤ sizeLine := fun b => by cases b <;> exact ⟨rfl, by decide, by decide +kernel⟩
      refine ⟨_, rfl, _, rfl, _, rfl, a, R, _, ms, told, rfl, st.eR, lms.1, lms.2, st.at_, hP4, by omega, fun T0 H5 xs eT aT lT hP5 f5 => ?_⟩
      have st := st.kp f5.kp
      have t5 := tabs_fr t4 f5
      have hP5 := hP5.mono (show _ ≤ 10000 * i + 8600 by omega)
      clear hP4 t4 f5
      refine ⟨T0, rfl, ⟨_, SqL.of eT⟩, ?_⟩
      refine for_it (walk_list (K := K) (a := T0) (xs := xs)) (fun k σ H' => ∃ (y6 y7 : Option V), σ = [some (.ref sc), some (.ref a), some (.int ((0 : Int) + i)), some (.ref R), some (.ref h), some told, y6, y7, y8, y9, y10, y11, y12, none] ∧ Same H5 H') ⟨_, _, rfl, fun _ _ e => e⟩ ?_ ?_ ?_
      · rintro k σ H' _ ⟨_, _, _, s'⟩
        exact SqL.of (s' _ _ eT)
      · rintro k x σ _ H6 hk ⟨y6, y7, rfl, s6⟩ ⟨rfl, hx⟩
        obtain ⟨d, dvx, sh⟩ := aT x (List.mem_of_getElem? hx)
        have st6 := st.kp (Fr.same s6).kp
        have dvx := DvF.kp (Fr.same s6).kp _ _ dvx
        refine fun h1 => ?_
        have dvh : DvF H6 (.ref h) (sqD kb (ms.map PyData.int)) := dvf_sqI st6.eh
        have dxD := DvF.dv h1 _ _ dvx
        have dhD := DvF.dv h1 _ _ dvh
        have shT := shn_tup (n := 7) (m := 34037) (k := 2) (ds := [sqD kb (ms.map PyData.int), d]) (fun e he => by
          simp only [List.mem_cons, List.not_mem_nil, or_false] at he
          rcases he with rfl | rfl
          · exact sh21 bm lms.2
          · exact sh.mono (by decide) (by decide)) (by simp)
        have sd := Nat.le_trans shT.2.1 (show (7 + 1 : Nat) ≤ 60 by decide)
        have sl := Nat.le_trans shT.2.2 (show (34037 * 2 + 2 * 2 + 3 : Nat) ≤ sizeLine by decide)
        refine ⟨_, rfl, _, rfl, len10 (by simp), fun q1 m1 => ?_⟩
        have z1 := sm_upd (o := .tup [.ref h, x]) m1
        refine ⟨.ref q1, .tuple [sqD kb (ms.map PyData.int), d], rfl, .tup upd_same (.cons (DvF.kp (Fr.same z1).kp _ _ dvh) (.cons (DvF.kp (Fr.same z1).kp _ _ dvx) .nil)), shT.1, sd, sl, ?_⟩
        have k1 := (Fr.same z1).kp
        refine ⟨_, rfl, _, rfl, h, kb, ms, x, d, rfl, sq_kp k1 st6.eh, Dv.kp k1 _ _ dhD, lms.1, by omega, Dv.kp k1 _ _ dxD, fun H8 s8 => ?_⟩
        refine ⟨_, _, rfl, .bl _, (bsh _).1, (bsh _).2.1, (bsh _).2.2, ?_⟩
        have z8 := z1.trans s8
        have k8 := (Fr.same z8).kp
        refine ⟨_, rfl, _, rfl, R, ms, x, d, rfl, z8 _ _ st6.eR, by omega, Dv.kp k8 _ _ dxD, fun H9 s9 => ?_⟩
        refine ⟨_, _, rfl, .bl _, (bsh _).1, (bsh _).2.1, (bsh _).2.2, rfl, _, rfl, iteFs (by simp) ?_⟩
        have z9 := z8.trans s9
        have k9 := (Fr.same z9).kp
        refine ⟨_, rfl, _, rfl, len10 (by simp), fun q2 m2 => ?_⟩
        have z2 := sm_upd (o := .tup [.ref h, x]) m2
        have k2 := (Fr.same (z9.trans z2)).kp
        refine ⟨.ref q2, .tuple [sqD kb (ms.map PyData.int), d], rfl, .tup upd_same (.cons (DvF.kp k2 _ _ dvh) (.cons (DvF.kp k2 _ _ dvx) .nil)), shT.1, sd, sl, _, rfl, rfl, _, rfl, iteFs (by simp) ?_⟩
        exact ⟨_, _, rfl, s6.trans (z9.trans z2)⟩
      rintro σ H6 ⟨y6, y7, rfl, s6⟩
      have st := st.kp (Fr.same s6).kp
      have hP6 := hP5.same s6
      have t6 := tabs_same t5 s6
      clear hP5 t5 s6 eT aT lT
      have lm : (ms.map V.int).length = ms.length := List.length_map ..
      -- odd
      refine ⟨fun σ' H' => ∃ (odd : V) (d : PyData), σ' = [some (.ref sc), some (.ref a), some (.int ((0 : Int) + i)), some (.ref R), some (.ref h), some told, y6, y7, some odd, y9, y10, y11, y12, none] ∧ DvF H' odd d ∧ ShN 2 410000 d ∧ ¬ cntP d ∧ Pen H' a (10000 * i + 8700) ∧ LamX.Tabs [(PT, qLam21)] H', ?_, ?_⟩
      · refine ⟨_, rfl, len10 (by simp), fun p1 n1 => ?_⟩
        have z1 := sm_upd (o := .lst []) n1
        refine ⟨_, rfl, len10 (by simp), fun p2 n2 => ?_⟩
        have z2 := sm_upd (o := .lst [.non]) n2
        refine ⟨R, p2, _, _, rfl, rfl, z2 _ _ (z1 _ _ st.eR), upd_same, len10 (by rw [lm]; show ms.length + 1 ≤ 1000; omega), fun p3 n3 => ?_⟩
        have z3 := sm_upd (o := .lst (ms.map V.int ++ [.non])) n3
        refine ⟨_, rfl, len10 (by simp), fun p4 n4 => ?_⟩
        have z4 := sm_upd (o := .lst [.bl true]) n4
        refine ⟨R, p4, _, _, rfl, rfl, z4 _ _ (z3 _ _ (z2 _ _ (z1 _ _ st.eR))), upd_same, len10 (by rw [lm]; show ms.length + 1 ≤ 1000; omega), fun p5 n5 => ?_⟩
        have z5 := sm_upd (o := .lst (ms.map V.int ++ [.bl true])) n5
        refine fun p6 n6 => ?_
        have z6 := sm_upd (o := .dK []) n6
        refine ⟨len10 (by simp), fun p7 n7 => ?_⟩
        have z7 := sm_upd (o := .lst [.int 0]) n7
        refine ⟨p7, _, _, rfl, rfl, upd_same, by decide, by decide, show 1 * 201 ≤ sizeLine by decide, fun p8 n8 => ?_⟩
        have z8 := sm_upd (o := .lst (List.replicate (201 : Int).toNat [V.int 0]).flatten) n8
        refine ⟨len10 (by simp), fun p9 n9 => ?_⟩
        have z9 := sm_upd (o := .lst [.ref p1, .ref p3, .ref p5, .non, .str "1", .ref p6, .ref p8]) n9
        have u8 := z8.trans z9
        have u7 := z7.trans u8
        have u6 := z6.trans u7
        have u5 := z5.trans u6
        have u4 := z4.trans u5
        have u3 := z3.trans u4
        have u2 := z2.trans u3
        have u1 := z1.trans u2
        refine ⟨a, p9, _, _, rfl, hP6.same u1, by omega, upd_same, by simp, by simp, fun x H8 hx hP8 f8 => ?_⟩
        have fin : ∀ d, DvF H8 x d → ShN 2 410000 d → ¬ cntP d → ∃ (odd : V) (d : PyData), [some (.ref sc), some (.ref a), some (.int ((0 : Int) + i)), some (.ref R), some (.ref h), some told, y6, y7, some x, y9, y10, y11, y12, none] = [some (.ref sc), some (.ref a), some (.int ((0 : Int) + i)), some (.ref R), some (.ref h), some told, y6, y7, some odd, y9, y10, y11, y12, none] ∧ DvF H8 odd d ∧ ShN 2 410000 d ∧ ¬ cntP d ∧ Pen H8 a (10000 * i + 8700) ∧ LamX.Tabs [(PT, qLam21)] H8 := fun d h1 h2 h3 => ⟨x, d, rfl, h1, h2, h3, hP8.mono (by omega), tabs_fr (tabs_same t6 u1) f8⟩
        have app : ∀ (p : Addr) (y : V) (e : PyData), H8 p = some (.lst (ms.map V.int ++ [y])) → DvF H8 y e → ShN 0 2000 e → isI e = false → DvF H8 (.ref p) (.list (ms.map PyData.int ++ [e])) ∧ ShN 2 410000 (.list (ms.map PyData.int ++ [e])) ∧ ¬ cntP (.list (ms.map PyData.int ++ [e])) := fun p y e he hy hs hn => by
          refine ⟨.lst he (app_dvf (dvf_ints ms) hy), (shn_lst (n := 0) (m := 2000) (k := 18) (fun z hz => ?_) (by rw [List.length_append, List.length_map]; show ms.length + 1 ≤ 18; omega)).mono (by decide) (by decide), fun hc => ?_⟩
          · rcases List.mem_append.mp hz with g | g
            · obtain ⟨i, hi, rfl⟩ := List.mem_map.mp g
              exact shn_int (bm i hi)
            · rw [List.mem_singleton.mp g]
              exact hs
          · obtain ⟨kb, js, e1, _, _⟩ := hc
            have e2 := sqD_inj (kb := true) (ds := ms.map PyData.int ++ [e]) e1
            have : e ∈ js.map PyData.int := by rw [← e2]; simp
            obtain ⟨j, _, rfl⟩ := List.mem_map.mp this
            cases hn
        simp only [List.mem_cons, List.not_mem_nil, or_false] at hx
        rcases hx with rfl | rfl | rfl | rfl | rfl | rfl | rfl
        · exact fin (.list []) (.lst (f8.l _ _ (u2 _ _ upd_same)) .nil) ⟨rfl, by decide, by decide +kernel⟩ (cnt_len (kb := true) (es := []) (by simp))
        · obtain ⟨q1, q2, q3⟩ := app p3 .non .none (f8.l _ _ (u4 _ _ upd_same)) .non ⟨rfl, by decide, by decide +kernel⟩ rfl
          exact fin _ q1 q2 q3
        · obtain ⟨q1, q2, q3⟩ := app p5 (.bl true) (.bool true) (f8.l _ _ (u6 _ _ upd_same)) (.bl _) ⟨rfl, by decide, by decide +kernel⟩ rfl
          exact fin _ q1 q2 q3
        · exact fin .none .non ⟨rfl, by decide, by decide +kernel⟩ (cnt_lt rfl)
        · exact fin (.str "1") (.str _) ⟨rfl, by decide, by decide +kernel⟩ (cnt_lt rfl)
        · exact fin (.dict []) (.dk0 (f8.d0 _ (u7 _ _ upd_same))) ⟨rfl, by decide, by decide +kernel⟩ (cnt_lt rfl)
        · have e8 := f8.l _ _ (z9 _ _ upd_same)
          rw [rep21] at e8
          refine fin (.list ((List.replicate 201 (0 : Int)).map PyData.int)) (.lst e8 (dvf_ints _)) ((shn_lst (n := 0) (m := 2000) (k := 201) (fun z hz => ?_) (by simp)).mono (by decide) (by decide)) (cnt_len (kb := true) (by simp))
          obtain ⟨i, hi, rfl⟩ := List.mem_map.mp hz
          rw [List.eq_of_mem_replicate hi]
          exact shn_int (Bd.small 1 (by decide) (by decide))
      clear st hP6 t6
      rintro σ' H7 ⟨odd, d, rfl, dvf, sh, nb, hP7, t7⟩
      refine fun h1 => ?_
      have dv := DvF.dv h1 _ _ dvf
      refine ⟨t7, fun H10 x10 t10 => ?_⟩
      have k10 := ext_kp x10
      have dv := Dv.kp k10 _ _ dv
      have dvf := DvF.kp k10 _ _ dvf
      refine ⟨_, rfl, _, rfl, odd, told, d, rfl, dv, nb, fun H11 s11 dd ndd => ⟨rfl, dd, odd, rfl, upd_same, fun L H12 s12 eL => ?_⟩⟩
      have zd := sm_upd (o := .xd [("value", odd)]) ndd
      have s1 := s11.trans (zd.trans s12)
      have dvf := DvF.kp (Fr.same s1).kp _ _ dvf
      have shl := shn_lst (k := 1) (ds := [d]) (fun e he => by rw [List.mem_singleton.mp he]; exact sh) (Nat.le_refl _)
      have sd : (2 + 1 : Nat) ≤ 60 := by decide
      have sl : (410000 * 1 + 2 * 1 + 3 : Nat) ≤ sizeLine := by decide
      refine ⟨.ref L, .list [d], rfl, .lst eL (.cons dvf .nil), shl.1, Nat.le_trans shl.2.1 sd, Nat.le_trans shl.2.2 sl, ?_⟩
      refine ⟨_, rfl, len10 (by simp), fun p0 np => ?_⟩
      have zp := sm_upd (o := .lst [odd]) np
      refine ⟨.ref p0, .list [d], rfl, .lst upd_same (.cons (DvF.kp (Fr.same zp).kp _ _ dvf) .nil), shl.1, Nat.le_trans shl.2.1 sd, Nat.le_trans shl.2.2 sl, ?_⟩
      refine ⟨rfl, _, rfl, iteFs (by simp) ⟨_, _, _, _, _, _, _, _, _, _, _, rfl, ((hP7.extN x10).same (s1.trans zp)).mono (by omega), tabs_same t10 (s1.trans zp)⟩⟩
    · rintro σ H1 ⟨y2, y3, y4, y5, y6, y7, y8, y9, y10, y11, y12, rfl, hP1, t1⟩
      have bsh : ∀ b : Bool, (PyData.bool b).showable = true ∧ (PyData.bool b).depth ≤ 60 ∧ (PyData.bool b).shown.length ≤ sizeLine := fun b => by cases b <;> exact ⟨rfl, by decide, by decide +kernel⟩
      refine ⟨fun σ' H' => ∃ (R : Addr) (ms : List Int), σ' = [some (.ref sc), some (.ref a), y2, some (.ref R), y4, y5, y6, y7, y8, y9, y10, y11, y12, none] ∧ H' R = some (.lst (ms.map V.int)) ∧ 1 ≤ ms.length ∧ ms.length ≤ 200 ∧ Pen H' a 61000, ?_, ?_⟩
      · exact ⟨_, rfl, a, _, rfl, hP1, by omega, fun R H2 ms rw l1 l2 hP2 f2 => ⟨R, ms, rfl, rw.e, l1, l2, hP2.mono (by omega)⟩⟩
      clear hP1 t1
      rintro σ' H2 ⟨R, ms, rfl, eR, l1, l2, hP2⟩
      have lm : (ms.map V.int).length = ms.length := List.length_map ..
      refine ⟨12, rfl, by decide, by decide, ?_⟩
      refine for_range (lo := 0) (n := 12) (fun i σ H' => ∃ (y6 y9 y10 y11 y12 : Option V), σ = [some (.ref sc), some (.ref a), y2, some (.ref R), y4, y5, y6, y7, y8, y9, y10, y11, y12, none] ∧ H' R = some (.lst (ms.map V.int)) ∧ Pen H' a (61000 + 10 * i) ∧ (0 < i → R ≠ 1)) ⟨_, _, _, _, _, rfl, eR, hP2, fun z => absurd z (Nat.lt_irrefl 0)⟩ ?_ ?_
      · clear eR hP2
        rintro i σ H3 hi ⟨y6, y9, y10, y11, y12, rfl, eR, hP3, _⟩
        refine ⟨3, rfl, by decide, by decide, fun Y nY => ?_⟩
        refine lc_range (lo := 0) (n := 3) (fun j H' => ∃ ds : List Int, H' Y = some (.lst (ds.map V.int)) ∧ ds.length = j ∧ (∀ z ∈ ds, 0 ≤ z ∧ z < (ms.length : Int)) ∧ Pen H' a (61000 + 10 * i + j) ∧ Fr H3 H') ⟨[], upd_same, rfl, fun _ z => (nomatch z), hP3.new nY, Fr.new nY⟩ ?_ ?_
        · rintro j H7 hj ⟨ds, eY, ld, hd, hP7, f7⟩
          refine ⟨rfl, _, rfl, _, rfl, R, _, rfl, .inl (SqL.of (f7.l _ _ eR)), a, _, _, rfl, hP7, by omega, by omega, Bd.small 20 (by omega) (by decide), fun d H8 d0 d1 hP8 f8 => ?_⟩
          refine ⟨_, f8.l _ _ eY, by rw [List.length_map]; exact small1000 (by omega), ds ++ [d], ?_, by rw [List.length_append, ld]; rfl, fun z hz => ?_, hP3.over nY hP8, (f7.trans f8).over nY⟩
          · rw [upd_same, List.map_append]
            rfl
          · rcases List.mem_append.mp hz with g | g
            · exact hd z g
            · rw [List.mem_singleton.mp g]
              exact ⟨d0, by omega⟩
        rintro H7 ⟨ds, eY, ld, hd, hP7, f7⟩
        obtain ⟨d1, d2, d3, rfl⟩ := three21 (l := ds) ld
        have b1 := hd d1 (by simp)
        have b2 := hd d2 (by simp)
        have eR7 := f7.l _ _ eR
        refine ⟨Y, _, rfl, SqL.of eY, rfl, _, _, rfl, _, _, rfl, _, _, rfl, rfl, ?_⟩
        refine fun h1 => ?_
        have hR1 : R ≠ 1 := fun e => by
          rw [e, h1] at eR7
          cases eR7
        have mxl : (if d2 > d1 then d2 else d1) < (ms.length : Int) := by split <;> omega
        refine ⟨_, rfl, _, rfl, _, rfl, _, rfl, R, _, rfl, .inl (SqL.of eR7), _, rfl, _, rfl, _, _, rfl, _, _, rfl, rfl, _, _, rfl, rfl, by rw [lm]; omega, len10 (by simp), fun q1 m1 => ?_⟩
        have z1 := sm_upd (o := .tup [.str "windows", .int d1, .int d2, .int (d3 % (((ms.map V.int).length : Int) - (if d2 > d1 then d2 else d1)))]) m1
        have eq1 := new_at21 z1
        have eR8 := z1 _ _ eR7
        have dq := Dv.tup eq1 (.cons (.str _) (.cons (.int _) (.cons (.int _) (.cons (.int _) .nil))))
        refine ⟨_, rfl, _, rfl, R, true, ms, .ref q1, _, rfl, eR8, dvL21 hR1 eR8, l1, l2, dq, fun H8 s8 => ?_⟩
        refine ⟨_, _, rfl, .bl _, (bsh _).1, (bsh _).2.1, (bsh _).2.2, ?_⟩
        refine ⟨_, rfl, _, rfl, R, ms, .ref q1, _, rfl, s8 _ _ eR8, by omega, Dv.kp (Fr.same s8).kp _ _ dq, fun H9 s9 => ?_⟩
        refine ⟨_, _, rfl, .bl _, (bsh _).1, (bsh _).2.1, (bsh _).2.2, rfl, _, rfl, iteFs (by simp) ?_⟩
        exact ⟨_, _, _, _, _, rfl, s9 _ _ (s8 _ _ eR8), (hP7.same (z1.trans (s8.trans s9))).mono (by omega), fun _ => hR1⟩
      · rintro σ H3 ⟨y6, y9, y10, y11, y12, rfl, eR, hP3, hR⟩
        have hR1 := hR (by decide)
        refine ⟨_, rfl, _, rfl, R, true, ms, rfl, eR, dvL21 hR1 eR, l1, l2, fun told H5 s5 ht => ?_⟩
        have eR5 := s5 _ _ eR
        rcases ht with ⟨rfl, ev⟩ | ⟨r, rfl, _, ct⟩
        · refine ⟨R, true, ms, .non, .none, rfl, eR5, dvL21 hR1 eR5, l1, l2, .non, fun H6 s6 => ⟨_, _, rfl, .bl _, (bsh _).1, (bsh _).2.1, (bsh _).2.2, ?_⟩⟩
          refine ⟨_, rfl, R, ms, rfl, s6 _ _ eR5, by omega, fun b H7 s7 hb => ?_⟩
          obtain rfl := hb.mpr ev
          exact ⟨_, rfl, _, _, rfl, .bl _, (bsh _).1, (bsh _).2.1, (bsh _).2.2, rfl, kk _⟩
        · obtain ⟨d, dv, hc⟩ := ctB ct
          refine ⟨R, true, ms, .ref r, d, rfl, eR5, dvL21 hR1 eR5, l1, l2, dv, fun H6 s6 => ⟨_, _, rfl, .bl _, (bsh _).1, (bsh _).2.1, (bsh _).2.2, ?_⟩⟩
          refine ⟨_, rfl, R, ms, rfl, s6 _ _ eR5, by omega, fun b H7 s7 hb => ?_⟩
          obtain rfl : b = false := by
            cases b
            · rfl
            · exact absurd (hb.mp rfl) ct.not
          rw [hc]
          exact ⟨_, rfl, _, _, rfl, .bl _, (bsh _).1, (bsh _).2.1, (bsh _).2.2, rfl, kk _⟩
end
/-! ### what the top has written -/
abbrev sI_InvalidCounts : Stmt := (C8.clsBody (topS 4)).getD 0 (.Pass ⟨0, 0, 0, 0⟩)
theorem iniT_InvalidCounts : IniT "value" (defArgs sI_InvalidCounts) (defBody sI_InvalidCounts) (defScope sI_InvalidCounts) := ⟨⟨_, rfl, rfl⟩, ⟨_, _, _, _, _, _, _, _, _, _, _, _, rfl, _, fun env => rfl⟩, rfl, rfl, rfl, rfl, by decide +kernel, by decide +kernel, rfl, rfl, rfl, by decide +kernel, by decide +kernel, by decide +kernel⟩
theorem all_mk {l : PySem.W.OpenLaw} {w : World} {K : PySem.W.Frag} {h : Heap} {mg : Str → Option Value} {fa : Addr} (X : K.In h) (G : h.Ns mainGlobals mg) (hfa : mg "law" = some (.ref fa))
    {f0 f1 f2 f3 f4 f5 f6 f7 f8 f9 f10 f11 f12 f13 f14 f15 f16 f17 f18 f19 f20 f21 f22 f23 f24 f25 f26 : Addr} {od0 an0 od1 an1 od2 an2 od3 an3 od4 an4 od5 an5 od6 an6 od7 an7 od8 an8 od9 an9 od10 an10 od11 an11 od12 an12 od13 an13 od14 an14 od15 an15 od16 an16 od17 an17 od18 an18 od19 an19 od20 an20 od21 an21 od22 an22 od23 an23 od24 an24 od25 an25 od26 an26 : Option Addr} {sl0 sl1 sl2 sl3 sl4 sl5 sl6 sl7 sl8 sl9 sl10 sl11 sl12 sl13 sl14 sl15 sl16 sl17 sl18 sl19 sl20 sl21 sl22 sl23 sl24 sl25 sl26 : Array (Option Value)} {oc0 kV0 dc0 pm0 cd0 ct0 oc1 kV1 dc1 pm1 cd1 ct1 oc2 kV2 dc2 pm2 cd2 ct2 oc3 kV3 dc3 pm3 cd3 ct3 oc4 kV4 dc4 pm4 cd4 ct4 oc5 kV5 dc5 pm5 cd5 ct5 oc6 kV6 dc6 pm6 cd6 ct6 oc7 kV7 dc7 pm7 cd7 ct7 oc8 kV8 dc8 pm8 cd8 ct8 oc9 kV9 dc9 pm9 cd9 ct9 oc10 kV10 dc10 pm10 cd10 ct10 oc11 kV11 dc11 pm11 cd11 ct11 oc12 kV12 dc12 pm12 cd12 ct12 oc13 kV13 dc13 pm13 cd13 ct13 oc14 kV14 dc14 pm14 cd14 ct14 oc15 kV15 dc15 pm15 cd15 ct15 oc16 kV16 dc16 pm16 cd16 ct16 oc17 kV17 dc17 pm17 cd17 ct17 oc18 kV18 dc18 pm18 cd18 ct18 oc19 kV19 dc19 pm19 cd19 ct19 oc20 kV20 dc20 pm20 cd20 ct20 oc21 kV21 dc21 pm21 cd21 ct21 oc22 kV22 dc22 pm22 cd22 ct22 oc23 kV23 dc23 pm23 cd23 ct23 oc24 kV24 dc24 pm24 cd24 ct24 oc25 kV25 dc25 pm25 cd25 ct25 oc26 kV26 dc26 pm26 cd26 ct26 : Value}
    (a0 : PySem.W.nsIn K mainGlobals "_law_pen" = some (some (.ref f0))) (l0 : K.lookup f0 = some ⟨oc0, od0, .func (PySem.W.fnOf "_law_pen" "_law_pen" (defArgs s_l_pen) (defBody s_l_pen) (defScope s_l_pen) .none kV0 dc0 pm0 an0 cd0 ct0), sl0⟩) (c0 : PySem.W.codeIn K cd0 "_law_pen" = true) (k0 : PySem.W.keepIn K (.ref f0) = true)
    (a1 : PySem.W.nsIn K mainGlobals "_law_draw" = some (some (.ref f1))) (l1 : K.lookup f1 = some ⟨oc1, od1, .func (PySem.W.fnOf "_law_draw" "_law_draw" (defArgs s_l_draw) (defBody s_l_draw) (defScope s_l_draw) .none kV1 dc1 pm1 an1 cd1 ct1), sl1⟩) (c1 : PySem.W.codeIn K cd1 "_law_draw" = true) (k1 : PySem.W.keepIn K (.ref f1) = true)
    (a2 : PySem.W.nsIn K mainGlobals "_law_pick" = some (some (.ref f2))) (l2 : K.lookup f2 = some ⟨oc2, od2, .func (PySem.W.fnOf "_law_pick" "_law_pick" (defArgs s_l_pick) (defBody s_l_pick) (defScope s_l_pick) .none kV2 dc2 pm2 an2 cd2 ct2), sl2⟩) (c2 : PySem.W.codeIn K cd2 "_law_pick" = true) (k2 : PySem.W.keepIn K (.ref f2) = true)
    (a3 : PySem.W.nsIn K mainGlobals "_law_great" = some (some (.ref f3))) (l3 : K.lookup f3 = some ⟨oc3, od3, .func (PySem.W.fnOf "_law_great" "_law_great" (defArgs s_l_great) (defBody s_l_great) (defScope s_l_great) .none kV3 dc3 pm3 an3 cd3 ct3), sl3⟩) (c3 : PySem.W.codeIn K cd3 "_law_great" = true) (k3 : PySem.W.keepIn K (.ref f3) = true)
    (a4 : PySem.W.nsIn K mainGlobals "_law_signed" = some (some (.ref f4))) (l4 : K.lookup f4 = some ⟨oc4, od4, .func (PySem.W.fnOf "_law_signed" "_law_signed" (defArgs s_l_signed) (defBody s_l_signed) (defScope s_l_signed) .none kV4 dc4 pm4 an4 cd4 ct4), sl4⟩) (c4 : PySem.W.codeIn K cd4 "_law_signed" = true) (k4 : PySem.W.keepIn K (.ref f4) = true)
    (a5 : PySem.W.nsIn K mainGlobals "_law_gcd" = some (some (.ref f5))) (l5 : K.lookup f5 = some ⟨oc5, od5, .func (PySem.W.fnOf "_law_gcd" "_law_gcd" (defArgs s_l_gcd) (defBody s_l_gcd) (defScope s_l_gcd) .none kV5 dc5 pm5 an5 cd5 ct5), sl5⟩) (c5 : PySem.W.codeIn K cd5 "_law_gcd" = true) (k5 : PySem.W.keepIn K (.ref f5) = true)
    (a6 : PySem.W.nsIn K mainGlobals "_law_lowest" = some (some (.ref f6))) (l6 : K.lookup f6 = some ⟨oc6, od6, .func (PySem.W.fnOf "_law_lowest" "_law_lowest" (defArgs s_l_lowest) (defBody s_l_lowest) (defScope s_l_lowest) .none kV6 dc6 pm6 an6 cd6 ct6), sl6⟩) (c6 : PySem.W.codeIn K cd6 "_law_lowest" = true) (k6 : PySem.W.keepIn K (.ref f6) = true)
    (a7 : PySem.W.nsIn K mainGlobals "_law_rule" = some (some (.ref f7))) (l7 : K.lookup f7 = some ⟨oc7, od7, .func (PySem.W.fnOf "_law_rule" "_law_rule" (defArgs s_l_rule) (defBody s_l_rule) (defScope s_l_rule) .none kV7 dc7 pm7 an7 cd7 ct7), sl7⟩) (c7 : PySem.W.codeIn K cd7 "_law_rule" = true) (k7 : PySem.W.keepIn K (.ref f7) = true)
    (a8 : PySem.W.nsIn K mainGlobals "_law_far_rule" = some (some (.ref f8))) (l8 : K.lookup f8 = some ⟨oc8, od8, .func (PySem.W.fnOf "_law_far_rule" "_law_far_rule" (defArgs s_l_far_rule) (defBody s_l_far_rule) (defScope s_l_far_rule) .none kV8 dc8 pm8 an8 cd8 ct8), sl8⟩) (c8 : PySem.W.codeIn K cd8 "_law_far_rule" = true) (k8 : PySem.W.keepIn K (.ref f8) = true)
    (a9 : PySem.W.nsIn K mainGlobals "is_integer" = some (some (.ref f9))) (l9 : K.lookup f9 = some ⟨oc9, od9, .func (PySem.W.fnOf "is_integer" "is_integer" (defArgs s_is_integer) (defBody s_is_integer) (defScope s_is_integer) .none kV9 dc9 pm9 an9 cd9 ct9), sl9⟩) (c9 : PySem.W.codeIn K cd9 "is_integer" = true) (k9 : PySem.W.keepIn K (.ref f9) = true)
    (a10 : PySem.W.nsIn K mainGlobals "_law_tally" = some (some (.ref f10))) (l10 : K.lookup f10 = some ⟨oc10, od10, .func (PySem.W.fnOf "_law_tally" "_law_tally" (defArgs s_l_tally) (defBody s_l_tally) (defScope s_l_tally) .none kV10 dc10 pm10 an10 cd10 ct10), sl10⟩) (c10 : PySem.W.codeIn K cd10 "_law_tally" = true) (k10 : PySem.W.keepIn K (.ref f10) = true)
    (a11 : PySem.W.nsIn K mainGlobals "_law_anything" = some (some (.ref f11))) (l11 : K.lookup f11 = some ⟨oc11, od11, .func (PySem.W.fnOf "_law_anything" "_law_anything" (defArgs s_l_anything) (defBody s_l_anything) (defScope s_l_anything) .none kV11 dc11 pm11 an11 cd11 ct11), sl11⟩) (c11 : PySem.W.codeIn K cd11 "_law_anything" = true) (k11 : PySem.W.keepIn K (.ref f11) = true)
    (a12 : PySem.W.nsIn K mainGlobals "is_counts" = some (some (.ref f12))) (l12 : K.lookup f12 = some ⟨oc12, od12, .func (PySem.W.fnOf "is_counts" "is_counts" (defArgs s_is_counts) (defBody s_is_counts) (defScope s_is_counts) .none kV12 dc12 pm12 an12 cd12 ct12), sl12⟩) (c12 : PySem.W.codeIn K cd12 "is_counts" = true) (k12 : PySem.W.keepIn K (.ref f12) = true)
    (a13 : PySem.W.nsIn K mainGlobals "uneven" = some (some (.ref f13))) (l13 : K.lookup f13 = some ⟨oc13, od13, .func (PySem.W.fnOf "uneven" "uneven" (defArgs s_uneven) (defBody s_uneven) (defScope s_uneven) .none kV13 dc13 pm13 an13 cd13 ct13), sl13⟩) (c13 : PySem.W.codeIn K cd13 "uneven" = true) (k13 : PySem.W.keepIn K (.ref f13) = true)
    (a14 : PySem.W.nsIn K mainGlobals "_law_is_int" = some (some (.ref f14))) (l14 : K.lookup f14 = some ⟨oc14, od14, .func (PySem.W.fnOf "_law_is_int" "_law_is_int" (defArgs s_l_is_int) (defBody s_l_is_int) (defScope s_l_is_int) .none kV14 dc14 pm14 an14 cd14 ct14), sl14⟩) (c14 : PySem.W.codeIn K cd14 "_law_is_int" = true) (k14 : PySem.W.keepIn K (.ref f14) = true)
    (a15 : PySem.W.nsIn K mainGlobals "_law_is_even" = some (some (.ref f15))) (l15 : K.lookup f15 = some ⟨oc15, od15, .func (PySem.W.fnOf "_law_is_even" "_law_is_even" (defArgs s_l_is_even) (defBody s_l_is_even) (defScope s_l_is_even) .none kV15 dc15 pm15 an15 cd15 ct15), sl15⟩) (c15 : PySem.W.codeIn K cd15 "_law_is_even" = true) (k15 : PySem.W.keepIn K (.ref f15) = true)
    (a16 : PySem.W.nsIn K mainGlobals "_law_refused" = some (some (.ref f16))) (l16 : K.lookup f16 = some ⟨oc16, od16, .func (PySem.W.fnOf "_law_refused" "_law_refused" (defArgs s_l_refused) (defBody s_l_refused) (defScope s_l_refused) .none kV16 dc16 pm16 an16 cd16 ct16), sl16⟩) (c16 : PySem.W.codeIn K cd16 "_law_refused" = true) (k16 : PySem.W.keepIn K (.ref f16) = true)
    (a17 : PySem.W.nsIn K mainGlobals "_law_bent" = some (some (.ref f17))) (l17 : K.lookup f17 = some ⟨oc17, od17, .func (PySem.W.fnOf "_law_bent" "_law_bent" (defArgs s_l_bent) (defBody s_l_bent) (defScope s_l_bent) .none kV17 dc17 pm17 an17 cd17 ct17), sl17⟩) (c17 : PySem.W.codeIn K cd17 "_law_bent" = true) (k17 : PySem.W.keepIn K (.ref f17) = true)
    (a18 : PySem.W.nsIn K mainGlobals "falls_at" = some (some (.ref f18))) (l18 : K.lookup f18 = some ⟨oc18, od18, .func (PySem.W.fnOf "falls_at" "falls_at" (defArgs s_falls_at) (defBody s_falls_at) (defScope s_falls_at) .none kV18 dc18 pm18 an18 cd18 ct18), sl18⟩) (c18 : PySem.W.codeIn K cd18 "falls_at" = true) (k18 : PySem.W.keepIn K (.ref f18) = true)
    (a19 : PySem.W.nsIn K mainGlobals "windows_differ" = some (some (.ref f19))) (l19 : K.lookup f19 = some ⟨oc19, od19, .func (PySem.W.fnOf "windows_differ" "windows_differ" (defArgs s_windows_differ) (defBody s_windows_differ) (defScope s_windows_differ) .none kV19 dc19 pm19 an19 cd19 ct19), sl19⟩) (c19 : PySem.W.codeIn K cd19 "windows_differ" = true) (k19 : PySem.W.keepIn K (.ref f19) = true)
    (a20 : PySem.W.nsIn K mainGlobals "is_uneven_certificate" = some (some (.ref f20))) (l20 : K.lookup f20 = some ⟨oc20, od20, .func (PySem.W.fnOf "is_uneven_certificate" "is_uneven_certificate" (defArgs s_is_uneven_certificate) (defBody s_is_uneven_certificate) (defScope s_is_uneven_certificate) .none kV20 dc20 pm20 an20 cd20 ct20), sl20⟩) (c20 : PySem.W.codeIn K cd20 "is_uneven_certificate" = true) (k20 : PySem.W.keepIn K (.ref f20) = true)
    (a21 : PySem.W.nsIn K mainGlobals "_law_certifies" = some (some (.ref f21))) (l21 : K.lookup f21 = some ⟨oc21, od21, .func (PySem.W.fnOf "_law_certifies" "_law_certifies" (defArgs s_l_certifies) (defBody s_l_certifies) (defScope s_l_certifies) .none kV21 dc21 pm21 an21 cd21 ct21), sl21⟩) (c21 : PySem.W.codeIn K cd21 "_law_certifies" = true) (k21 : PySem.W.keepIn K (.ref f21) = true)
    (a22 : PySem.W.nsIn K mainGlobals "_law_pattern" = some (some (.ref f22))) (l22 : K.lookup f22 = some ⟨oc22, od22, .func (PySem.W.fnOf "_law_pattern" "_law_pattern" (defArgs s_l_pattern) (defBody s_l_pattern) (defScope s_l_pattern) .none kV22 dc22 pm22 an22 cd22 ct22), sl22⟩) (c22 : PySem.W.codeIn K cd22 "_law_pattern" = true) (k22 : PySem.W.keepIn K (.ref f22) = true)
    (a23 : PySem.W.nsIn K mainGlobals "_law_long_row" = some (some (.ref f23))) (l23 : K.lookup f23 = some ⟨oc23, od23, .func (PySem.W.fnOf "_law_long_row" "_law_long_row" (defArgs s_l_long_row) (defBody s_l_long_row) (defScope s_l_long_row) .none kV23 dc23 pm23 an23 cd23 ct23), sl23⟩) (c23 : PySem.W.codeIn K cd23 "_law_long_row" = true) (k23 : PySem.W.keepIn K (.ref f23) = true)
    (a24 : PySem.W.nsIn K mainGlobals "_law_row" = some (some (.ref f24))) (l24 : K.lookup f24 = some ⟨oc24, od24, .func (PySem.W.fnOf "_law_row" "_law_row" (defArgs s_l_row) (defBody s_l_row) (defScope s_l_row) .none kV24 dc24 pm24 an24 cd24 ct24), sl24⟩) (c24 : PySem.W.codeIn K cd24 "_law_row" = true) (k24 : PySem.W.keepIn K (.ref f24) = true)
    (a25 : PySem.W.nsIn K mainGlobals "_law_things" = some (some (.ref f25))) (l25 : K.lookup f25 = some ⟨oc25, od25, .func (PySem.W.fnOf "_law_things" "_law_things" (defArgs s_l_things) (defBody s_l_things) (defScope s_l_things) .none kV25 dc25 pm25 an25 cd25 ct25), sl25⟩) (c25 : PySem.W.codeIn K cd25 "_law_things" = true) (k25 : PySem.W.keepIn K (.ref f25) = true)
    (a26 : PySem.W.nsIn K mainGlobals "law" = some (some (.ref f26))) (l26 : K.lookup f26 = some ⟨oc26, od26, .func (PySem.W.fnOf "law" "law" (defArgs s_law) (defBody s_law) (defScope s_law) .none kV26 dc26 pm26 an26 cd26 ct26), sl26⟩) (c26 : PySem.W.codeIn K cd26 "law" = true) (k26 : PySem.W.keepIn K (.ref f26) = true)
    (z0 : PySem.W.nsIn K mainGlobals "len" = some none) (z1 : PySem.W.nsIn K mainGlobals "abs" = some none) (z2 : PySem.W.nsIn K mainGlobals "list" = some none) (z3 : PySem.W.nsIn K mainGlobals "range" = some none) (z4 : PySem.W.nsIn K mainGlobals "sum" = some none) (z5 : PySem.W.nsIn K mainGlobals "repr" = some none) (z6 : PySem.W.nsIn K mainGlobals "max" = some none) (z7 : PySem.W.nsIn K mainGlobals "min" = some none) (z8 : PySem.W.nsIn K mainGlobals "reversed" = some none) (z9 : PySem.W.nsIn K mainGlobals "divmod" = some none) (z10 : PySem.W.nsIn K mainGlobals "isinstance" = some none) (z11 : PySem.W.nsIn K mainGlobals "all" = some none) (z12 : PySem.W.nsIn K mainGlobals "int" = some none) (z13 : PySem.W.nsIn K mainGlobals "bool" = some none) (z14 : PySem.W.nsIn K mainGlobals "tuple" = some none) (z15 : PySem.W.nsIn K mainGlobals "sorted" = some none) (z16 : PySem.W.nsIn K mainGlobals "zip" = some none) (z17 : PySem.W.nsIn K mainGlobals "enumerate" = some none) (z18 : PySem.W.nsIn K mainGlobals "set" = some none) (z19 : PySem.W.nsIn K mainGlobals "str" = some none)
    {vC0 vI0 vD0 vX0 vN0 : Addr} {vnm0 vqn0 : Str} {vbs0 vbm0 vsb0 : List Value} {vsn0 : List Str} {vab0 : Bool} {vcl0 : Option Bool} {vdd0 von0 vcd0 vce0 van0 : Option Addr} {vk00 vk10 vk20 vk30 vk50 : Option Value} {voc0 vkV0 vdc0 vpm0 vct0 vcc0 vce20 : Value} {vsl0 vcs0 vcs20 : Array (Option Value)} {vvs0 : Array Value} {vfl0 : Str} {vtf0 : Tok} (v0_0 : PySem.W.nsIn K mainGlobals "InvalidCounts" = some (some (.ref vC0))) (v0_1 : K.lookup vC0 = some (excClassObj vnm0 vqn0 vC0 vN0 vbs0 vbm0 true vsn0 vsb0 vab0 vcl0 vdd0 vk00 vk10 vk20 vk30 vk50 "ValueError.__new__")) (v0_2 : PySem.HandSPX.refsVE vbm0 = true) (v0_3 : PySem.W.findIn K (.ref vC0) "__setattr__" = some (some (.builtin "object.__setattr__"))) (v0_4 : PySem.W.subIn K (.ref vC0) (.type "BaseException") = some true) (v0_5 : PySem.W.typeIn K (.ref vC0) = some (.type "type")) (v0_6 : PySem.W.keepIn K (.ref vC0) = true) (v0_7 : PySem.W.findIn K (.ref vC0) "__init__" = some (some (.ref vI0))) (v0_8 : K.lookup vI0 = some ⟨voc0, von0, .func (PySem.W.ksFn "__init__" "InvalidCounts.__init__" (defArgs sI_InvalidCounts) (defBody sI_InvalidCounts) (defScope sI_InvalidCounts) .none vkV0 vdc0 vpm0 van0 (.ref vD0) vct0 vX0), vsl0⟩) (v0_9 : PySem.W.codeIn K (.ref vD0) "InvalidCounts.__init__" = true) (v0_10 : K.lookup vD0 = some ⟨vcc0, vcd0, .fields vvs0, vcs0⟩) (v0_11 : vvs0[2]? = some (.str vfl0 vtf0)) (v0_12 : ((l.prog.main.file : Str) == vfl0) = true) (v0_13 : K.lookup vX0 = some ⟨vce20, vce0, .cell (some (.ref vC0)), vcs20⟩) (v0_14 : PySem.W.mroIn K vC0 (.ref vC0) = some true) (v0_15 : PySem.W.ks_superIn K vC0 vC0 "__init__" = some (some (.builtin "ValueError.__init__"))) (v0_16 : PySem.W.subIn K (.ref vC0) (.type "ValueError") = some true) (v0_17 : PySem.W.findIn K (.ref vC0) "value" = some none) (v0_18 : PySem.W.typeIn K (.ref vI0) = some (.type "function")) (v0_19 : PySem.W.findIn K (.ref vC0) "__getattribute__" = some (some (.builtin "BaseException.__getattribute__"))) (v0_20 : PySem.W.findIn K (.ref vC0) "__getattr__" = some none) (v0_21 : PySem.W.hasDictIn K vC0 = true) (v0_22 : PySem.W.findIn K (.ref vC0) "__class__" = some (some (.builtin "object.__class__"))) (v0_23 : PySem.W.mroIn K vC0 (.type "object") = some true) (v0_24 : PySem.W.subIn K (.ref vC0) (.ref vC0) = some true) (vu0 : PySem.W.nsIn K cStatics "thirdparty.any" = some none) (vu1 : PySem.W.specialIn K (.builtin "object.__class__") "__get__" = some (some (.builtin "getset_descriptor.__get__"))) (vu2 : PySem.W.takesIn K (.builtin "object.__class__") = some true) (vu3 : (l.prog.main.scope.names.lookup ("super" : Str)).isSome = false) (vu4 : PySem.W.nsIn K mainGlobals "super" = some none)
    {cL PT : Addr} {eL : Value} {dL : Option Addr} {vL : Array Value} {sL : Array (Option Value)}
    {tM : Tok} (xM : PySem.W.nsIn K mainGlobals "MOST_ITEMS" = some (some (.int 200 tM)))
    {Lc Nc Rc Ec Fc : Addr} (x7 : PySem.W.nsIn K mainGlobals "LeapfitError" = some (some (.ref Lc))) (x8 : PySem.W.nsIn K mainGlobals "InvalidNumber" = some (some (.ref Nc))) (x9 : PySem.W.nsIn K mainGlobals "InvalidRule" = some (some (.ref Rc))) (x10 : PySem.W.nsIn K mainGlobals "NoEvents" = some (some (.ref Ec))) (x11 : PySem.W.nsIn K mainGlobals "NoRule" = some (some (.ref Fc)))
    (x12 : PySem.W.kitOne K (.ref vC0) (.ref Lc) = some true) (x13 : PySem.W.kitAny K (.ref vC0) [.ref Nc, .ref Rc, .ref Ec, .ref Fc] = some false)
    (v0 : cd26 = .ref cL) (v1 : K.lookup cL = some ⟨eL, dL, .fields vL, sL⟩) (v2 : vL[11]? = some (.ref PT)) (v3 : K.lookup PT = none) (v4 : PySem.W.codeHdIn K cL PT = true) (v5 : h.get? PT = some { cls := .none, data := .fields #[] }) :
    LawGT1 l w K 8 "_law_script" mg fa h := by
  have e := hfa.symm.trans (PySem.W.mg_of X G a26)
  cases e
  subst v0
  have B : Bi mg := ⟨PySem.W.mg_none_of X G z0, PySem.W.mg_none_of X G z1, PySem.W.mg_none_of X G z2, PySem.W.mg_none_of X G z3, PySem.W.mg_none_of X G z4, PySem.W.mg_none_of X G z5, PySem.W.mg_none_of X G z6, PySem.W.mg_none_of X G z7, PySem.W.mg_none_of X G z8, PySem.W.mg_none_of X G z9, PySem.W.mg_none_of X G z10, PySem.W.mg_none_of X G z11, PySem.W.mg_none_of X G z12, PySem.W.mg_none_of X G z13, PySem.W.mg_none_of X G z14, PySem.W.mg_none_of X G z15, PySem.W.mg_none_of X G z16, PySem.W.mg_none_of X G z17, PySem.W.mg_none_of X G z18, PySem.W.mg_none_of X G z19⟩
  have UE : Be mg := ⟨⟨tM, PySem.W.mg_of X G xM⟩⟩
  have V_InvalidCounts : ValC l.prog K mg vC0 "InvalidCounts" "value" := ⟨PySem.W.mg_of X G v0_0, ⟨vI0, vD0, vX0, "InvalidCounts.__init__", defArgs sI_InvalidCounts, defBody sI_InvalidCounts, defScope sI_InvalidCounts, vkV0, vdc0, vpm0, vct0, voc0, van0, von0, vsl0, v0_8, v0_9, iniT_InvalidCounts, ⟨⟨⟨vnm0, vqn0, vN0, vbs0, vbm0, vsn0, vsb0, vab0, vcl0, vdd0, vk00, vk10, vk20, vk30, vk50, v0_1, v0_2⟩, v0_3, v0_4, v0_5, v0_6⟩, ⟨_, _, _, _, _, _, v0_10, v0_11, v0_12⟩, ⟨_, _, _, v0_13⟩, v0_14, vu0, v0_15, v0_16, v0_17, vu3⟩, v0_7, v0_18, .all fun us hl => match us, hl with | [_, _], _ => rfl⟩, PySem.W.mg_none_of X G vu4, ⟨v0_19, v0_20, v0_4, v0_21, v0_22, vu1, vu2, v0_23⟩, v0_24⟩
  have F0 := fun_mk (st := s_l_pen) l0 c0 k0
  have D_l_pen : Df K mg "_law_pen" s_l_pen P_l_pen := ⟨f0, _, F0, PySem.W.mg_of X G a0, F0.binds fun _ _ _ _ _ _ us hl => match us, hl with | [_], _ => rfl⟩
  have F1 := fun_mk (st := s_l_draw) l1 c1 k1
  have D_l_draw : Df K mg "_law_draw" s_l_draw P_l_draw := ⟨f1, _, F1, PySem.W.mg_of X G a1, F1.binds fun _ _ _ _ _ _ us hl => match us, hl with | [_, _], _ => rfl⟩
  have F2 := fun_mk (st := s_l_pick) l2 c2 k2
  have D_l_pick : Df K mg "_law_pick" s_l_pick P_l_pick := ⟨f2, _, F2, PySem.W.mg_of X G a2, F2.binds fun _ _ _ _ _ _ us hl => match us, hl with | [_, _], _ => rfl⟩
  have F3 := fun_mk (st := s_l_great) l3 c3 k3
  have D_l_great : Df K mg "_law_great" s_l_great P_l_great := ⟨f3, _, F3, PySem.W.mg_of X G a3, F3.binds fun _ _ _ _ _ _ us hl => match us, hl with | [_, _], _ => rfl⟩
  have F4 := fun_mk (st := s_l_signed) l4 c4 k4
  have D_l_signed : Df K mg "_law_signed" s_l_signed P_l_signed := ⟨f4, _, F4, PySem.W.mg_of X G a4, F4.binds fun _ _ _ _ _ _ us hl => match us, hl with | [_, _], _ => rfl⟩
  have F5 := fun_mk (st := s_l_gcd) l5 c5 k5
  have D_l_gcd : Df K mg "_law_gcd" s_l_gcd P_l_gcd := ⟨f5, _, F5, PySem.W.mg_of X G a5, F5.binds fun _ _ _ _ _ _ us hl => match us, hl with | [_, _], _ => rfl⟩
  have F6 := fun_mk (st := s_l_lowest) l6 c6 k6
  have D_l_lowest : Df K mg "_law_lowest" s_l_lowest P_l_lowest := ⟨f6, _, F6, PySem.W.mg_of X G a6, F6.binds fun _ _ _ _ _ _ us hl => match us, hl with | [_, _, _], _ => rfl⟩
  have F7 := fun_mk (st := s_l_rule) l7 c7 k7
  have D_l_rule : Df K mg "_law_rule" s_l_rule P_l_rule := ⟨f7, _, F7, PySem.W.mg_of X G a7, F7.binds fun _ _ _ _ _ _ us hl => match us, hl with | [_, _], _ => rfl⟩
  have F8 := fun_mk (st := s_l_far_rule) l8 c8 k8
  have D_l_far_rule : Df K mg "_law_far_rule" s_l_far_rule P_l_far_rule := ⟨f8, _, F8, PySem.W.mg_of X G a8, F8.binds fun _ _ _ _ _ _ us hl => match us, hl with | [_, _], _ => rfl⟩
  have F9 := fun_mk (st := s_is_integer) l9 c9 k9
  have D_is_integer : Df K mg "is_integer" s_is_integer P_is_integer := ⟨f9, _, F9, PySem.W.mg_of X G a9, F9.binds fun _ _ _ _ _ _ us hl => match us, hl with | [_], _ => rfl⟩
  have F10 := fun_mk (st := s_l_tally) l10 c10 k10
  have D_l_tally : Df K mg "_law_tally" s_l_tally P_l_tally := ⟨f10, _, F10, PySem.W.mg_of X G a10, F10.binds fun _ _ _ _ _ _ us hl => match us, hl with | [_, _], _ => rfl⟩
  have F11 := fun_mk (st := s_l_anything) l11 c11 k11
  have D_l_anything : Df K mg "_law_anything" s_l_anything P_l_anything := ⟨f11, _, F11, PySem.W.mg_of X G a11, F11.binds fun _ _ _ _ _ _ us hl => match us, hl with | [_, _], _ => rfl⟩
  have F12 := fun_mk (st := s_is_counts) l12 c12 k12
  have D_is_counts : Df K mg "is_counts" s_is_counts P_is_counts := ⟨f12, _, F12, PySem.W.mg_of X G a12, F12.binds fun _ _ _ _ _ _ us hl => match us, hl with | [_], _ => rfl⟩
  have F13 := fun_mk (st := s_uneven) l13 c13 k13
  have D_uneven : Df K mg "uneven" s_uneven P_uneven := ⟨f13, _, F13, PySem.W.mg_of X G a13, F13.binds fun _ _ _ _ _ _ us hl => match us, hl with | [_], _ => rfl⟩
  have F14 := fun_mk (st := s_l_is_int) l14 c14 k14
  have D_l_is_int : Df K mg "_law_is_int" s_l_is_int P_l_is_int := ⟨f14, _, F14, PySem.W.mg_of X G a14, F14.binds fun _ _ _ _ _ _ us hl => match us, hl with | [_], _ => rfl⟩
  have F15 := fun_mk (st := s_l_is_even) l15 c15 k15
  have D_l_is_even : Df K mg "_law_is_even" s_l_is_even P_l_is_even := ⟨f15, _, F15, PySem.W.mg_of X G a15, F15.binds fun _ _ _ _ _ _ us hl => match us, hl with | [_], _ => rfl⟩
  have F16 := fun_mk (st := s_l_refused) l16 c16 k16
  have D_l_refused : Df K mg "_law_refused" s_l_refused P_l_refused := ⟨f16, _, F16, PySem.W.mg_of X G a16, F16.binds fun _ _ _ _ _ _ us hl => match us, hl with | [_], _ => rfl⟩
  have F17 := fun_mk (st := s_l_bent) l17 c17 k17
  have D_l_bent : Df K mg "_law_bent" s_l_bent P_l_bent := ⟨f17, _, F17, PySem.W.mg_of X G a17, F17.binds fun _ _ _ _ _ _ us hl => match us, hl with | [_, _], _ => rfl⟩
  have F18 := fun_mk (st := s_falls_at) l18 c18 k18
  have D_falls_at : Df K mg "falls_at" s_falls_at P_falls_at := ⟨f18, _, F18, PySem.W.mg_of X G a18, F18.binds fun _ _ _ _ _ _ us hl => match us, hl with | [_, _], _ => rfl⟩
  have F19 := fun_mk (st := s_windows_differ) l19 c19 k19
  have D_windows_differ : Df K mg "windows_differ" s_windows_differ P_windows_differ := ⟨f19, _, F19, PySem.W.mg_of X G a19, F19.binds fun _ _ _ _ _ _ us hl => match us, hl with | [_, _, _, _], _ => rfl⟩
  have F20 := fun_mk (st := s_is_uneven_certificate) l20 c20 k20
  have D_is_uneven_certificate : Df K mg "is_uneven_certificate" s_is_uneven_certificate P_is_uneven_certificate := ⟨f20, _, F20, PySem.W.mg_of X G a20, F20.binds fun _ _ _ _ _ _ us hl => match us, hl with | [_, _], _ => rfl⟩
  have F21 := fun_mk (st := s_l_certifies) l21 c21 k21
  have D_l_certifies : Df K mg "_law_certifies" s_l_certifies P_l_certifies := ⟨f21, _, F21, PySem.W.mg_of X G a21, F21.binds fun _ _ _ _ _ _ us hl => match us, hl with | [_, _], _ => rfl⟩
  have F22 := fun_mk (st := s_l_pattern) l22 c22 k22
  have D_l_pattern : Df K mg "_law_pattern" s_l_pattern P_l_pattern := ⟨f22, _, F22, PySem.W.mg_of X G a22, F22.binds fun _ _ _ _ _ _ us hl => match us, hl with | [_, _, _], _ => rfl⟩
  have F23 := fun_mk (st := s_l_long_row) l23 c23 k23
  have D_l_long_row : Df K mg "_law_long_row" s_l_long_row P_l_long_row := ⟨f23, _, F23, PySem.W.mg_of X G a23, F23.binds fun _ _ _ _ _ _ us hl => match us, hl with | [_, _], _ => rfl⟩
  have F24 := fun_mk (st := s_l_row) l24 c24 k24
  have D_l_row : Df K mg "_law_row" s_l_row P_l_row := ⟨f24, _, F24, PySem.W.mg_of X G a24, F24.binds fun _ _ _ _ _ _ us hl => match us, hl with | [_, _], _ => rfl⟩
  have F25 := fun_mk (st := s_l_things) l25 c25 k25
  have D_l_things : Df K mg "_law_things" s_l_things P_l_things := ⟨f25, _, F25, PySem.W.mg_of X G a25, F25.binds fun _ _ _ _ _ _ us hl => match us, hl with | [_, _, _], _ => rfl⟩
  have F26 := fun_mk (st := s_law) l26 c26 k26
  refine ⟨PySem.W.fnOf "law" "law" (defArgs s_law) (defBody s_law) (defScope s_law) .none kV26 dc26 pm26 an26 (.ref cL) ct26, cL, PT, spLawT K PT, v5, v3, PySem.W.codeHd_of_K X v4, fun s v => .of_eq rfl, fun H a ns hl ht hS => ⟨a, ns, rfl, hS, hl, ht, fun _ => rfl⟩, fun base _ _ o1 TB => ?_⟩
  have T := V_InvalidCounts
  have c_l_pen := ok_l_pen (P := l.prog) (w := w) (base := base) D_l_pen B
  have c_l_draw := ok_l_draw (P := l.prog) (w := w) (base := base) D_l_draw B
  have c_l_pick := ok_l_pick (P := l.prog) (w := w) (base := base) D_l_pick B c_l_draw
  have c_l_great := ok_l_great (P := l.prog) (w := w) (base := base) D_l_great B c_l_draw
  have c_l_signed := ok_l_signed (P := l.prog) (w := w) (base := base) D_l_signed B c_l_draw c_l_pick c_l_great
  have c_l_gcd := ok_l_gcd (P := l.prog) (w := w) (base := base) D_l_gcd
  have c_l_lowest := ok_l_lowest (P := l.prog) (w := w) (base := base) D_l_lowest c_l_gcd
  have c_l_rule := ok_l_rule (P := l.prog) (w := w) (base := base) D_l_rule B c_l_draw c_l_pick c_l_lowest
  have c_l_far_rule := ok_l_far_rule (P := l.prog) (w := w) (base := base) D_l_far_rule B c_l_pick c_l_great c_l_signed c_l_lowest
  have cA_is_integer := okA_is_integer (P := l.prog) (w := w) (base := base) D_is_integer B
  have c_is_integer := ok_is_integer (P := l.prog) (w := w) (base := base) D_is_integer B
  have c_l_tally := ok_l_tally (P := l.prog) (w := w) (base := base) D_l_tally
  have cA_l_anything := okA_l_anything (P := l.prog) (w := w) (base := base) D_l_anything B c_l_draw
  have c_l_anything := ok_l_anything (P := l.prog) (w := w) (base := base) D_l_anything B c_l_draw
  have c_is_counts := ok_is_counts (P := l.prog) (w := w) (base := base) D_is_counts B UE cA_is_integer
  have cx_uneven := okx_uneven (P := l.prog) (w := w) (base := base) D_uneven V_InvalidCounts B c_is_counts
  have c_uneven := ok_uneven (P := l.prog) (w := w) (base := base) D_uneven B c_is_counts
  have c_l_is_int := ok_l_is_int (P := l.prog) (w := w) (base := base) D_l_is_int B
  have c_l_is_even := ok_l_is_even (P := l.prog) (w := w) (base := base) D_l_is_even B
  have c_l_bent := ok_l_bent (P := l.prog) (w := w) (base := base) D_l_bent B c_l_draw c_l_anything
  have c_falls_at := ok_falls_at (P := l.prog) (w := w) (base := base) D_falls_at B
  have c_windows_differ := ok_windows_differ (P := l.prog) (w := w) (base := base) D_windows_differ B
  have cx_is_uneven_certificate := okx_is_uneven_certificate (P := l.prog) (w := w) (base := base) D_is_uneven_certificate V_InvalidCounts B c_is_counts
  have c_is_uneven_certificate := ok_is_uneven_certificate (P := l.prog) (w := w) (base := base) D_is_uneven_certificate B c_is_counts cA_is_integer c_falls_at c_windows_differ
  have c_l_certifies := ok_l_certifies (P := l.prog) (w := w) (base := base) D_l_certifies B c_l_is_int
  have c_l_pattern := ok_l_pattern (P := l.prog) (w := w) (base := base) D_l_pattern B c_l_tally
  have c_l_long_row := ok_l_long_row (P := l.prog) (w := w) (base := base) D_l_long_row B c_l_draw c_l_pick c_l_signed c_l_rule c_l_far_rule c_l_pattern
  have c_l_row := ok_l_row (P := l.prog) (w := w) (base := base) D_l_row B c_l_draw c_l_pick c_l_signed c_l_rule c_l_far_rule c_l_tally
  have c_l_things := ok_l_things (P := l.prog) (w := w) (base := base) D_l_things B c_l_draw c_l_pick cA_l_anything c_l_bent
  have U : Cls20 K mg vC0 Lc Nc Rc Ec Fc := ⟨PySem.W.mg_of X G x7, PySem.W.mg_of X G x8, PySem.W.mg_of X G x9, PySem.W.mg_of X G x10, PySem.W.mg_of X G x11, x12, x13⟩
  exact ok_law (P := l.prog) (w := w) (base := base) l26 c26 TB o1 V_InvalidCounts U B D_l_refused c_l_pen c_l_draw c_l_pick c_l_signed c_l_row c_l_long_row c_l_things c_l_is_even c_l_certifies c_uneven c_is_uneven_certificate cx_is_uneven_certificate
end Lf
open PySem PySem.W PyProof.Rows
set_option maxRecDepth 100000 in
set_option maxHeartbeats 0 in
theorem PySem.Challenge.cw_leapfit_k21_certificates_of_unevenness_holds : PySem.Challenge.rw_leapfit_k21_certificates_of_unevenness.Holds := by
  w_on; o_law; k_head; (case hw => w_witness2)
  k_fill
  refine Lf.walkGT1 (l := PySem.Challenge.rw_leapfit_k21_certificates_of_unevenness) (k := 8) (x := "_law_script") rfl rfl rfl ⟨rfl, by decide, by decide⟩ (fun w h Y => PySem.W.km_in_of Y) ?F
  case F =>
    intro w mg fa h Y KX G hmg
    refine' Lf.all_mk KX G hmg ?a0 ?l0 ?c0 ?k0 ?a1 ?l1 ?c1 ?k1 ?a2 ?l2 ?c2 ?k2 ?a3 ?l3 ?c3 ?k3 ?a4 ?l4 ?c4 ?k4 ?a5 ?l5 ?c5 ?k5 ?a6 ?l6 ?c6 ?k6 ?a7 ?l7 ?c7 ?k7 ?a8 ?l8 ?c8 ?k8 ?a9 ?l9 ?c9 ?k9 ?a10 ?l10 ?c10 ?k10 ?a11 ?l11 ?c11 ?k11 ?a12 ?l12 ?c12 ?k12 ?a13 ?l13 ?c13 ?k13 ?a14 ?l14 ?c14 ?k14 ?a15 ?l15 ?c15 ?k15 ?a16 ?l16 ?c16 ?k16 ?a17 ?l17 ?c17 ?k17 ?a18 ?l18 ?c18 ?k18 ?a19 ?l19 ?c19 ?k19 ?a20 ?l20 ?c20 ?k20 ?a21 ?l21 ?c21 ?k21 ?a22 ?l22 ?c22 ?k22 ?a23 ?l23 ?c23 ?k23 ?a24 ?l24 ?c24 ?k24 ?a25 ?l25 ?c25 ?k25 ?a26 ?l26 ?c26 ?k26 ?z0 ?z1 ?z2 ?z3 ?z4 ?z5 ?z6 ?z7 ?z8 ?z9 ?z10 ?z11 ?z12 ?z13 ?z14 ?z15 ?z16 ?z17 ?z18 ?z19 ?v0_0 ?v0_1 ?v0_2 ?v0_3 ?v0_4 ?v0_5 ?v0_6 ?v0_7 ?v0_8 ?v0_9 ?v0_10 ?v0_11 ?v0_12 ?v0_13 ?v0_14 ?v0_15 ?v0_16 ?v0_17 ?v0_18 ?v0_19 ?v0_20 ?v0_21 ?v0_22 ?v0_23 ?v0_24 ?vu0 ?vu1 ?vu2 ?vu3 ?vu4 ?xM ?x7 ?x8 ?x9 ?x10 ?x11 ?x12 ?x13 ?v0 ?v1 ?v2 ?v3 ?v4 ?v5
    (case a0 => k_is); (case l0 => k_is); (case c0 => k_is); (case k0 => k_is)
    (case a1 => k_is); (case l1 => k_is); (case c1 => k_is); (case k1 => k_is)
    (case a2 => k_is); (case l2 => k_is); (case c2 => k_is); (case k2 => k_is)
    (case a3 => k_is); (case l3 => k_is); (case c3 => k_is); (case k3 => k_is)
    (case a4 => k_is); (case l4 => k_is); (case c4 => k_is); (case k4 => k_is)
    (case a5 => k_is); (case l5 => k_is); (case c5 => k_is); (case k5 => k_is)
    (case a6 => k_is); (case l6 => k_is); (case c6 => k_is); (case k6 => k_is)
    (case a7 => k_is); (case l7 => k_is); (case c7 => k_is); (case k7 => k_is)
    (case a8 => k_is); (case l8 => k_is); (case c8 => k_is); (case k8 => k_is)
    (case a9 => k_is); (case l9 => k_is); (case c9 => k_is); (case k9 => k_is)
    (case a10 => k_is); (case l10 => k_is); (case c10 => k_is); (case k10 => k_is)
    (case a11 => k_is); (case l11 => k_is); (case c11 => k_is); (case k11 => k_is)
    (case a12 => k_is); (case l12 => k_is); (case c12 => k_is); (case k12 => k_is)
    (case a13 => k_is); (case l13 => k_is); (case c13 => k_is); (case k13 => k_is)
    (case a14 => k_is); (case l14 => k_is); (case c14 => k_is); (case k14 => k_is)
    (case a15 => k_is); (case l15 => k_is); (case c15 => k_is); (case k15 => k_is)
    (case a16 => k_is); (case l16 => k_is); (case c16 => k_is); (case k16 => k_is)
    (case a17 => k_is); (case l17 => k_is); (case c17 => k_is); (case k17 => k_is)
    (case a18 => k_is); (case l18 => k_is); (case c18 => k_is); (case k18 => k_is)
    (case a19 => k_is); (case l19 => k_is); (case c19 => k_is); (case k19 => k_is)
    (case a20 => k_is); (case l20 => k_is); (case c20 => k_is); (case k20 => k_is)
    (case a21 => k_is); (case l21 => k_is); (case c21 => k_is); (case k21 => k_is)
    (case a22 => k_is); (case l22 => k_is); (case c22 => k_is); (case k22 => k_is)
    (case a23 => k_is); (case l23 => k_is); (case c23 => k_is); (case k23 => k_is)
    (case a24 => k_is); (case l24 => k_is); (case c24 => k_is); (case k24 => k_is)
    (case a25 => k_is); (case l25 => k_is); (case c25 => k_is); (case k25 => k_is)
    (case a26 => k_is); (case l26 => k_is); (case c26 => k_is); (case k26 => k_is)
    (case z0 => k_is); (case z1 => k_is); (case z2 => k_is); (case z3 => k_is); (case z4 => k_is); (case z5 => k_is); (case z6 => k_is); (case z7 => k_is); (case z8 => k_is); (case z9 => k_is); (case z10 => k_is); (case z11 => k_is); (case z12 => k_is); (case z13 => k_is); (case z14 => k_is); (case z15 => k_is); (case z16 => k_is); (case z17 => k_is); (case z18 => k_is); (case z19 => k_is)
    (case v0_0 => k_is)
    (case v0_1 => k_is)
    (case v0_2 => first | rfl | decide +kernel)
    (case v0_3 => k_is)
    (case v0_4 => k_is)
    (case v0_5 => k_is)
    (case v0_6 => k_is)
    (case v0_7 => k_is)
    (case v0_8 => k_is)
    (case v0_9 => k_is)
    (case v0_10 => k_is)
    (case v0_11 => first | rfl | k_is)
    (case v0_12 => first | rfl | decide +kernel)
    (case v0_13 => k_is)
    (case v0_14 => first | k_is | kernel_rfl)
    (case v0_15 => kernel_rfl)
    (case v0_16 => k_is)
    (case v0_17 => k_is)
    (case v0_18 => k_is)
    (case v0_19 => k_is)
    (case v0_20 => k_is)
    (case v0_21 => k_is)
    (case v0_22 => k_is)
    (case v0_23 => k_is)
    (case v0_24 => first | rfl | k_is)
    (case vu0 => k_is)
    (case vu1 => k_is)
    (case vu2 => k_is)
    (case vu3 => first | rfl | decide +kernel)
    (case vu4 => k_is)
    (case xM => k_is); (case x7 => k_is); (case x8 => k_is); (case x9 => k_is); (case x10 => k_is); (case x11 => k_is); (case x12 => first | kernel_rfl | k_is); (case x13 => first | kernel_rfl | k_is)
    (case v0 => first | rfl | k_is); (case v1 => k_is); (case v2 => first | rfl | k_is); (case v3 => kernel_rfl); (case v4 => kernel_rfl); (case v5 => exact PySem.W.km_tabs_of Y _ (by decide))
