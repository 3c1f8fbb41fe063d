import PyProof.Rows.All
import Wide.All
import OpenK.AllK
import Wide.FinOn
import HandS.ForMost
import HandS.Codes
import HandS.Wide
import HandS.WideBits
import HandS.IsInst
import HandS.RaiseMore
import HandS.Style
import HandS.NoneIn
import HandS.TupMul
import HandS.TupAny
import HandS.Walk
import HandS.SetFor
import HandS.Strs
import KE.LtSeq
import HandS.Conv
import HandS.Exc
import HandS.TryOnly
import HandS.ExcOwn
import HandS.ExcIs
import HandS.WordsExc
import HandS.Lambda
import HandS.EndTab
import HandS.EndOwn
import KE.KNestM
import HandS.ExcInit
import HandS.ExcField
import KE.KExcSuper
import KE.KExcIs
import HandS.Defaults
import KE.DatumOrd
import KE.SortData
import KE.SortKeyHeap
import KE.KSortKey
import KE.GoesMore
import HandS.SortInts
import HandS.Deep
import HandS.DictComp
import HandS.Evl
import HandS.SortKw
import HandS.RevRange
import HandS.TupLe
import KE.KDictZip
import PyProof.ListNew
import PySem.Challenge.RW_leapfit_k47_least_repairs_by_subsets
set_option Elab.async false
set_option linter.all false
set_option maxRecDepth 100000
set_option maxHeartbeats 4000000
set_option linter.all false
namespace Lf
/-! ### sums of rounded quotients -/
def fs : Nat → Int → Int → Int → Int
  | 0, _, _, _ => 0
  | n + 1, a, b, m => fs n a b m + (a * n + b) / m
def tri (n : Int) : Int := n * (n - 1) / 2
theorem tri_succ (n : Int) : tri (n + 1) = tri n + n := by
  unfold tri
  rw [show (n + 1) * (n + 1 - 1) = n * (n - 1) + n * 2 by
    rw [Int.add_sub_cancel, Int.mul_sub, Int.add_mul]; omega]
  rw [Int.add_mul_ediv_right _ _ (by decide)]
theorem tri_zero : tri 0 = 0 := rfl
theorem div_shift (x k m : Int) (h : 0 < m) : (x + m * k) / m = x / m + k := by
  rw [Int.add_mul_ediv_left _ _ (by omega)]
theorem fs_red (n : Nat) (a b m : Int) (h : 0 < m) : fs n a b m = fs n (a % m) b m + a / m * tri n := by
  induction n with
  | zero => simp [fs, tri_zero]
  | succ n ih =>
    show fs n a b m + (a * n + b) / m = fs n (a % m) b m + (a % m * n + b) / m + a / m * tri ((n + 1 : Nat) : Int)
    have e : a * n + b = (a % m * n + b) + m * (a / m * n) := by
      have q := Int.emod_add_mul_ediv a m
      have q2 : a * n = (a % m + m * (a / m)) * n := by rw [q]
      rw [q2, Int.add_mul, Int.mul_assoc]; omega
    rw [e, div_shift _ _ _ h, ih, Int.natCast_add, Int.natCast_one, tri_succ, Int.mul_add]
    omega
theorem fs_redb (n : Nat) (a b m : Int) (h : 0 < m) : fs n a b m = fs n a (b % m) m + b / m * n := by
  induction n with
  | zero => simp [fs]
  | succ n ih =>
    show fs n a b m + (a * n + b) / m = fs n a (b % m) m + (a * n + b % m) / m + b / m * ((n + 1 : Nat) : Int)
    have e : a * n + b = (a * n + b % m) + m * (b / m) := by
      have q := Int.emod_add_mul_ediv b m
      omega
    rw [e, div_shift _ _ _ h, ih, Int.natCast_add, Int.natCast_one, Int.mul_add, Int.mul_one]
    omega
/-- each term of the second sum grows by one when its offset grows by its divisor -/
theorem fs_up (n : Nat) (a b m : Int) (h : 0 < m) : fs n a (b + m) m = fs n a b m + n := by
  induction n with
  | zero => simp [fs]
  | succ n ih =>
    show fs n a (b + m) m + (a * n + (b + m)) / m = fs n a b m + (a * n + b) / m + ((n + 1 : Nat) : Int)
    rw [show a * n + (b + m) = (a * n + b) + m * 1 by omega, div_shift _ _ _ h, ih]
    omega
/-- the first term apart -/
theorem fs_first (n : Nat) (a b m : Int) : fs (n + 1) a b m = b / m + fs n a (b + a) m := by
  induction n with
  | zero => show 0 + (a * ((0 : Nat) : Int) + b) / m = b / m + 0; simp
  | succ n ih =>
    show fs (n + 1) a b m + (a * ((n + 1 : Nat) : Int) + b) / m = b / m + (fs n a (b + a) m + (a * n + (b + a)) / m)
    rw [ih, show a * ((n + 1 : Nat) : Int) + b = a * n + (b + a) by
      rw [Int.natCast_add, Int.natCast_one, Int.mul_add]; omega]
    omega
theorem fs_swap (n : Nat) (a b m : Int) (ha : 0 < a) (ham : a < m) (hb : 0 ≤ b) (hbm : b < m) :
    fs n a b m = fs ((a * n + b) / m).toNat m ((a * n + b) % m) a := by
  induction n with
  | zero =>
    have e : (a * ((0 : Nat) : Int) + b) / m = 0 := by
      rw [show a * ((0 : Nat) : Int) + b = b by simp]
      exact Int.ediv_eq_zero_of_lt hb hbm
    rw [e]; rfl
  | succ n ih =>
    show fs n a b m + (a * n + b) / m = fs ((a * ((n + 1 : Nat) : Int) + b) / m).toNat m ((a * ((n + 1 : Nat) : Int) + b) % m) a
    rw [ih]
    have hm : 0 < m := by omega
    have hy : 0 ≤ a * n + b := by
      have := Int.mul_nonneg (Int.le_of_lt ha) (Int.natCast_nonneg n); omega
    generalize hyd : a * (n : Int) + b = y at hy
    have e : a * ((n + 1 : Nat) : Int) + b = y + a := by
      rw [Int.natCast_add, Int.natCast_one, Int.mul_add]; omega
    rw [e]
    have hq : 0 ≤ y / m := Int.ediv_nonneg hy (by omega)
    have hr0 : 0 ≤ y % m := Int.emod_nonneg _ (by omega)
    have hr1 : y % m < m := Int.emod_lt_of_pos _ hm
    have hd := Int.emod_add_mul_ediv y m
    generalize y / m = q at *
    generalize y % m = r at *
    by_cases hc : r + a < m
    · have e1 : (y + a) / m = q := by
        rw [show y + a = (r + a) + m * q by omega, div_shift _ _ _ hm, Int.ediv_eq_zero_of_lt (by omega) hc]
        omega
      have e2 : (y + a) % m = r + a := by
        have := Int.emod_add_mul_ediv (y + a) m
        rw [e1] at this
        omega
      rw [e1, e2, fs_up _ _ _ _ ha]
      omega
    · have e1 : (y + a) / m = q + 1 := by
        rw [show y + a = (r + a - m) + m * (q + 1) by rw [Int.mul_add]; omega, div_shift _ _ _ hm, Int.ediv_eq_zero_of_lt (by omega) (by omega)]
        omega
      have e2 : (y + a) % m = r + a - m := by
        have := Int.emod_add_mul_ediv (y + a) m
        rw [e1, Int.mul_add] at this
        omega
      rw [e1, e2, show (q + 1).toNat = q.toNat + 1 by omega, fs_first, Int.ediv_eq_zero_of_lt (by omega) (by omega), show r + a - m + m = r + a by omega, fs_up _ _ _ _ ha]
      omega
/-- a whole turn of the loop -/
theorem fs_turn (n a b m : Int) (hn : 0 ≤ n) (hm : 0 < m) :
    fs n.toNat a b m = a / m * tri n + b / m * n + fs ((a % m * n + b % m) / m).toNat m ((a % m * n + b % m) % m) (a % m) := by
  have h1 := fs_red n.toNat a b m hm
  have h2 := fs_redb n.toNat (a % m) b m hm
  have en : ((n.toNat : Nat) : Int) = n := by omega
  rw [en] at h1 h2
  have ha0 : 0 ≤ a % m := Int.emod_nonneg _ (by omega)
  have ha1 : a % m < m := Int.emod_lt_of_pos _ hm
  have hb0 : 0 ≤ b % m := Int.emod_nonneg _ (by omega)
  have hb1 : b % m < m := Int.emod_lt_of_pos _ hm
  by_cases hz : a % m = 0
  · have e0 : (a % m * n + b % m) / m = 0 := by
      rw [hz, Int.zero_mul, Int.zero_add]
      exact Int.ediv_eq_zero_of_lt hb0 hb1
    have z : fs n.toNat (a % m) (b % m) m = 0 := by
      rw [hz]
      have : ∀ k : Nat, fs k 0 (b % m) m = 0 := fun k => by
        induction k with
        | zero => rfl
        | succ k ih =>
          show fs k 0 (b % m) m + (0 * (k : Int) + b % m) / m = 0
          rw [ih, Int.zero_mul, Int.zero_add, Int.zero_add]
          exact Int.ediv_eq_zero_of_lt hb0 hb1
      exact this _
    rw [e0]
    show _ = _ + fs 0 m _ _
    have e3 : fs 0 m ((a % m * n + b % m) % m) (a % m) = 0 := rfl
    have e4 : (0 : Int).toNat = 0 := rfl
    rw [e3, h1, h2, z]
    omega
  · have h3 := fs_swap n.toNat (a % m) (b % m) m (by omega) ha1 hb0 hb1
    rw [en] at h3
    rw [h1, h2, h3]
    omega
theorem turn_le (n a b m : Int) (hn : 0 < n) (hm : 0 < m) : (a % m * n + b % m) / m ≤ n ∧ 0 ≤ (a % m * n + b % m) / m := by
  have ha0 : 0 ≤ a % m := Int.emod_nonneg _ (by omega)
  have ha1 : a % m < m := Int.emod_lt_of_pos _ hm
  have hb0 : 0 ≤ b % m := Int.emod_nonneg _ (by omega)
  have hb1 : b % m < m := Int.emod_lt_of_pos _ hm
  have h0 : 0 ≤ a % m * n := Int.mul_nonneg ha0 (by omega)
  refine ⟨?_, Int.ediv_nonneg (by omega) (by omega)⟩
  have h1 : a % m * n ≤ (m - 1) * n := Int.mul_le_mul_of_nonneg_right (by omega) (by omega)
  rw [Int.sub_mul, Int.one_mul] at h1
  have h2 : (a % m * n + b % m) / m < n + 1 := by
    apply Int.ediv_lt_of_lt_mul hm
    rw [Int.add_mul, Int.one_mul, Int.mul_comm n m]
    omega
  omega
theorem turn_zero (n a b m : Int) (hm : 0 < m) (hz : a % m = 0) : (a % m * n + b % m) / m = 0 := by
  rw [hz, Int.zero_mul, Int.zero_add]
  exact Int.ediv_eq_zero_of_lt (Int.emod_nonneg _ (by omega)) (Int.emod_lt_of_pos _ hm)
/-! ### sizes -/
def Bd (k : Nat) (i : Int) : Prop := i.natAbs < 2 ^ k
theorem Bd.mono {k j : Nat} {i : Int} (h : Bd k i) (e : k ≤ j) : Bd j i := Nat.lt_of_lt_of_le h (Nat.pow_le_pow_right (by decide) e)
theorem Bd.le {k : Nat} {i j : Int} (h : Bd k j) (e : i.natAbs ≤ j.natAbs) : Bd k i := Nat.lt_of_le_of_lt e h
theorem Bd.mul {k j : Nat} {x y : Int} (h : Bd k x) (h2 : Bd j y) : Bd (k + j) (x * y) := by
  unfold Bd
  rw [Int.natAbs_mul, Nat.pow_add]
  exact Nat.mul_lt_mul'' h h2
theorem Bd.add {k : Nat} {x y : Int} (h : Bd k x) (h2 : Bd k y) : Bd (k + 1) (x + y) := by
  unfold Bd at *
  rw [Nat.pow_succ]
  omega
theorem Bd.sub {k : Nat} {x y : Int} (h : Bd k x) (h2 : Bd k y) : Bd (k + 1) (x - y) := by
  unfold Bd at *
  rw [Nat.pow_succ]
  omega
theorem Bd.neg {k : Nat} {x : Int} (h : Bd k x) : Bd k (-x) := by
  unfold Bd at *
  omega
theorem Bd.ediv {k : Nat} {x m : Int} (h : Bd k x) (hm : 0 < m) : Bd k (x / m) := by
  refine h.le ?_
  rcases Int.lt_or_le x 0 with hx | hx
  · have h1 : x / m < 0 := Int.ediv_neg_of_neg_of_pos hx hm
    have h2 : x ≤ x / m := by
      apply Int.le_ediv_of_mul_le hm
      have : (-x) * 1 ≤ (-x) * m := Int.mul_le_mul_of_nonneg_left (by omega) (by omega)
      rw [Int.neg_mul, Int.neg_mul, Int.mul_one] at this
      omega
    omega
  · have h1 : 0 ≤ x / m := Int.ediv_nonneg hx (by omega)
    have h2 : x / m ≤ x := Int.ediv_le_self _ hx
    omega
theorem Bd.emod {k : Nat} {x m : Int} (h : Bd k m) (hm : 0 < m) : Bd k (x % m) := by
  refine h.le ?_
  have := Int.emod_nonneg x (show m ≠ 0 by omega)
  have := Int.emod_lt_of_pos x hm
  omega
theorem Bd.log {k : Nat} {i : Int} (h : Bd k i) (hk : 0 < k) : i.natAbs.log2 < k := by
  by_cases e : i.natAbs = 0
  · rw [e]; exact hk
  · exact (Nat.log2_lt e).mpr h
theorem Bd.small {k : Nat} {i : Int} (c : Nat) (h : i.natAbs < 2 ^ c) (e : c ≤ k) : Bd k i := Bd.mono (k := c) h e
theorem Bd.between {k : Nat} {x y : Int} (h : Bd k y) (h0 : 0 ≤ x) (h1 : x ≤ y) : Bd k x := h.le (by omega)
/-! ### the greatest common divisor -/
theorem gcd_turn (x y : Int) (hx : 0 ≤ x) (hy : 0 < y) : Int.gcd y (x % y) = Int.gcd x y := by
  unfold Int.gcd
  rw [show (x % y).natAbs = x.natAbs % y.natAbs by
    obtain ⟨a, rfl⟩ := Int.eq_ofNat_of_zero_le hx
    obtain ⟨b, rfl⟩ := Int.eq_ofNat_of_zero_le (Int.le_of_lt hy)
    rfl]
  rw [Nat.gcd_comm, ← Nat.gcd_rec, Nat.gcd_comm]
end Lf
namespace Lf
theorem nab_ediv {x m : Int} (hm : 0 < m) : (x / m).natAbs ≤ x.natAbs := by
  rcases Int.lt_or_le x 0 with hx | hx
  · have h1 : x / m < 0 := Int.ediv_neg_of_neg_of_pos hx hm
    have h2 : x ≤ x / m := by
      apply Int.le_ediv_of_mul_le hm
      have : (-x) * 1 ≤ (-x) * m := Int.mul_le_mul_of_nonneg_left (by omega) (by omega)
      rw [Int.neg_mul, Int.neg_mul, Int.mul_one] at this
      omega
    omega
  · have h1 : 0 ≤ x / m := Int.ediv_nonneg hx (by omega)
    have h2 : x / m ≤ x := Int.ediv_le_self _ hx
    omega
theorem fs_nab (n : Nat) (a b m : Int) (hm : 0 < m) : (fs n a b m).natAbs ≤ n * (a.natAbs * n + b.natAbs) := by
  induction n with
  | zero => show (0 : Int).natAbs ≤ _; simp
  | succ n ih =>
    show (fs n a b m + (a * n + b) / m).natAbs ≤ (n + 1) * (a.natAbs * (n + 1) + b.natAbs)
    have h1 := nab_ediv (x := a * n + b) hm
    have h2 := Int.natAbs_add_le (a * n) b
    have h3 := Int.natAbs_add_le (fs n a b m) ((a * n + b) / m)
    have h4 : (a * (n : Int)).natAbs = a.natAbs * n := by rw [Int.natAbs_mul]; rfl
    rw [h4] at h2
    have h5 : n * (a.natAbs * n + b.natAbs) ≤ n * (a.natAbs * (n + 1) + b.natAbs) := Nat.mul_le_mul_left _ (Nat.add_le_add_right (Nat.mul_le_mul_left _ (by omega)) _)
    have h6 : a.natAbs * n ≤ a.natAbs * (n + 1) := Nat.mul_le_mul_left _ (by omega)
    rw [Nat.add_mul, Nat.one_mul]
    omega
theorem fs_bd {n k j : Nat} {a b m : Int} (hm : 0 < m) (hn : n < 2 ^ j) (ha : Bd k a) (hb : Bd k b) : Bd (j + (k + j + 1)) (fs n a b m) := by
  unfold Bd at *
  have h := fs_nab n a b m hm
  refine Nat.lt_of_le_of_lt h ?_
  rw [Nat.pow_add 2 j]
  have h1 : a.natAbs * n + b.natAbs < 2 ^ (k + j + 1) := by
    have e : a.natAbs * n ≤ 2 ^ k * 2 ^ j := Nat.mul_le_mul (Nat.le_of_lt ha) (Nat.le_of_lt hn)
    have e2 : 2 ^ k ≤ 2 ^ k * 2 ^ j := Nat.le_mul_of_pos_right _ (Nat.pow_pos (by decide))
    rw [Nat.pow_succ, Nat.pow_add]
    omega
  exact Nat.mul_lt_mul'' hn h1
def trm (p q c s : Int) (i : Nat) : Int := (p * (s + i) + c) / q
theorem trm_sum (p q c s : Int) (n : Nat) : ((List.range n).map (trm p q c s)).sum = fs n p (p * s + c) q := by
  induction n with
  | zero => rfl
  | succ n ih =>
    rw [List.range_succ, List.map_append, List.sum_append, ih]
    show _ + (trm p q c s n + 0) = fs n p (p * s + c) q + (p * n + (p * s + c)) / q
    unfold trm
    rw [show p * (s + (n : Int)) + c = p * n + (p * s + c) by rw [Int.mul_add]; omega]
    omega
end Lf
namespace Lf
/-! ### triples in lowest terms -/
def gg (p q : Int) : Int := (Int.gcd p q : Int)
theorem gg_pos {p q : Int} (h : 1 ≤ q) : 0 < gg p q := by
  have : 0 < Int.gcd p q := Int.gcd_pos_of_ne_zero_right _ (by omega)
  unfold gg
  omega
theorem gg_p (p q : Int) : p = gg p q * (p / gg p q) := (Int.mul_ediv_cancel' (Int.gcd_dvd_left ..)).symm
theorem gg_q (p q : Int) : q = gg p q * (q / gg p q) := (Int.mul_ediv_cancel' (Int.gcd_dvd_right ..)).symm
theorem gg_mul (g x y : Int) (h : 0 ≤ g) : gg (g * x) (g * y) = g * gg x y := by
  unfold gg
  rw [Int.gcd_mul_left, Int.natCast_mul, Int.natAbs_of_nonneg h]
/-- reduced, multiplied, reduced again -/
theorem gg_twice (p q u v : Int) (h : 1 ≤ q) : gg (u * p) (v * q) = gg p q * gg (u * (p / gg p q)) (v * (q / gg p q)) := by
  have hg := gg_pos (p := p) h
  rw [← gg_mul _ _ _ (Int.le_of_lt hg)]
  congr 1
  · rw [Int.mul_left_comm, ← gg_p]
  · rw [Int.mul_left_comm, ← gg_q]
theorem red_p (p q u v : Int) (h : 1 ≤ q) (hv : 1 ≤ v) : u * (p / gg p q) / gg (u * (p / gg p q)) (v * (q / gg p q)) = u * p / gg (u * p) (v * q) := by
  have hg := gg_pos (p := p) h
  have e := gg_twice p q u v h
  rw [e]
  have e2 : u * p = gg p q * (u * (p / gg p q)) := by rw [Int.mul_left_comm, ← gg_p]
  rw [e2, Int.mul_ediv_mul_of_pos _ _ hg]
theorem red_q (p q u v : Int) (h : 1 ≤ q) (hv : 1 ≤ v) : v * (q / gg p q) / gg (u * (p / gg p q)) (v * (q / gg p q)) = v * q / gg (u * p) (v * q) := by
  have hg := gg_pos (p := p) h
  have e := gg_twice p q u v h
  rw [e]
  have e2 : v * q = gg p q * (v * (q / gg p q)) := by rw [Int.mul_left_comm, ← gg_q]
  rw [e2, Int.mul_ediv_mul_of_pos _ _ hg]
theorem red_c (p q u v c : Int) (h : 1 ≤ q) (hv : 1 ≤ v) : c / gg p q / gg (u * (p / gg p q)) (v * (q / gg p q)) = c / gg (u * p) (v * q) := by
  have hg := gg_pos (p := p) h
  rw [gg_twice p q u v h, Int.ediv_ediv_of_nonneg (Int.le_of_lt hg)]
theorem red_shift (p q a b c : Int) (h : 1 ≤ q) : (p * a + q * b + c) / gg p q = p / gg p q * a + q / gg p q * b + c / gg p q := by
  have hg := gg_pos (p := p) h
  have e : p * a + q * b + c = c + gg p q * (p / gg p q * a + q / gg p q * b) := by
    rw [Int.mul_add, ← Int.mul_assoc, ← Int.mul_assoc, ← gg_p, ← gg_q]
    omega
  rw [e, div_shift _ _ _ hg]
  omega
theorem div_neg1 (c g : Int) (hg : 0 < g) : (-1 - c) / g = -1 - c / g := by
  have e := Int.emod_add_mul_ediv c g
  have h0 := Int.emod_nonneg c (show g ≠ 0 by omega)
  have h1 := Int.emod_lt_of_pos c hg
  have e2 : -1 - c = (g - 1 - c % g) + g * (-1 - c / g) := by
    rw [Int.mul_sub]
    omega
  rw [e2, div_shift _ _ _ hg, Int.ediv_eq_zero_of_lt (by omega) (by omega)]
  omega
theorem red_mirror (p q c : Int) (h : 1 ≤ q) : (q - 1 - c) / gg p q = q / gg p q - 1 - c / gg p q := by
  have hg := gg_pos (p := p) h
  have e : q - 1 - c = (-1 - c) + gg p q * (q / gg p q) := by
    rw [← gg_q]
    omega
  rw [e, div_shift _ _ _ hg, div_neg1 _ _ hg]
  omega
end Lf
namespace Lf
theorem gg1 {p q : Int} (h : Int.gcd p q = 1) : gg p q = 1 := by
  unfold gg
  rw [h]
  rfl
theorem thin2 (p q c j k : Int) (h : 1 ≤ q * j) (hk : 1 ≤ k) :
    p / gg p (q * j) / gg (p / gg p (q * j)) (q * j / gg p (q * j) * k) = p / gg p (q * (j * k)) ∧
    q * j / gg p (q * j) * k / gg (p / gg p (q * j)) (q * j / gg p (q * j) * k) = q * (j * k) / gg p (q * (j * k)) ∧
    c / gg p (q * j) / gg (p / gg p (q * j)) (q * j / gg p (q * j) * k) = c / gg p (q * (j * k)) := by
  have e : q * (j * k) = k * (q * j) := by rw [← Int.mul_assoc, Int.mul_comm]
  have h1 := red_p p (q * j) 1 k h hk
  have h2 := red_q p (q * j) 1 k h hk
  have h3 := red_c p (q * j) 1 k c h hk
  simp only [Int.one_mul] at h1 h2 h3
  rw [Int.mul_comm (q * j / gg p (q * j)) k, e]
  exact ⟨h1, h2, h3⟩
theorem sample2 (p q c j k : Int) (h : 1 ≤ q) :
    p * j / gg (p * j) q * k / gg (p * j / gg (p * j) q * k) (q / gg (p * j) q) = p * (j * k) / gg (p * (j * k)) q ∧
    q / gg (p * j) q / gg (p * j / gg (p * j) q * k) (q / gg (p * j) q) = q / gg (p * (j * k)) q ∧
    c / gg (p * j) q / gg (p * j / gg (p * j) q * k) (q / gg (p * j) q) = c / gg (p * (j * k)) q := by
  have e : p * (j * k) = k * (p * j) := by rw [← Int.mul_assoc, Int.mul_comm]
  have h1 := red_p (p * j) q k 1 h (by decide)
  have h2 := red_q (p * j) q k 1 h (by decide)
  have h3 := red_c (p * j) q k 1 c h (by decide)
  simp only [Int.one_mul] at h1 h2 h3
  rw [Int.mul_comm (p * j / gg (p * j) q) k, e]
  exact ⟨h1, h2, h3⟩
theorem both2 (p q c k : Int) (h : 1 ≤ q) (hk : 1 ≤ k) :
    p * k / gg (p * k) q / gg (p * k / gg (p * k) q) (q / gg (p * k) q * k) = k * p / gg (k * p) (k * q) ∧
    q / gg (p * k) q * k / gg (p * k / gg (p * k) q) (q / gg (p * k) q * k) = k * q / gg (k * p) (k * q) ∧
    c / gg (p * k) q / gg (p * k / gg (p * k) q) (q / gg (p * k) q * k) = c / gg (k * p) (k * q) := by
  have h1 := red_p (p * k) q 1 k h hk
  have h2 := red_q (p * k) q 1 k h hk
  have h3 := red_c (p * k) q 1 k c h hk
  simp only [Int.one_mul] at h1 h2 h3
  rw [Int.mul_comm (q / gg (p * k) q) k, Int.mul_comm k p]
  exact ⟨h1, h2, h3⟩
theorem one_le_mul {x y : Int} (h : 1 ≤ x) (h2 : 1 ≤ y) : 1 ≤ x * y := by
  have := Int.mul_le_mul h h2 (by decide) (by omega)
  omega
end Lf
namespace Lf
/-! ### sums over ranges -/
theorem fs_add (n m : Nat) (a b q : Int) : fs (n + m) a b q = fs n a b q + fs m a (a * n + b) q := by
  induction m with
  | zero => show fs n a b q = fs n a b q + 0; omega
  | succ m ih =>
    show fs (n + m) a b q + (a * ((n + m : Nat) : Int) + b) / q = fs n a b q + (fs m a (a * n + b) q + (a * m + (a * n + b)) / q)
    rw [ih, show a * ((n + m : Nat) : Int) + b = a * m + (a * n + b) by rw [Int.natCast_add, Int.mul_add]; omega]
    omega
/-- two neighbouring ranges -/
theorem fs_split (p q c s m e : Int) (h1 : s ≤ m) (h2 : m ≤ e) : fs (m - s).toNat p (p * s + c) q + fs (e - m).toNat p (p * m + c) q = fs (e - s).toNat p (p * s + c) q := by
  have e1 : (e - s).toNat = (m - s).toNat + (e - m).toNat := by omega
  rw [e1, fs_add, show ((m - s).toNat : Int) = m - s by omega, show p * (m - s) + (p * s + c) = p * m + c by rw [Int.mul_sub]; omega]
theorem fs_one (p b q : Int) : fs 1 p b q = b / q := by
  show 0 + (p * ((0 : Nat) : Int) + b) / q = b / q
  simp
/-- one step of the offset: a term grows by one exactly where the divisor divides -/
theorem step_div (x q : Int) (h : 0 < q) : (x + 1) / q = x / q + (if (x + 1) % q = 0 then 1 else 0) := by
  have e := Int.emod_add_mul_ediv x q
  have h0 := Int.emod_nonneg x (show q ≠ 0 by omega)
  have h1 := Int.emod_lt_of_pos x h
  by_cases hc : x % q + 1 = q
  · have e2 : x + 1 = 0 + q * (x / q + 1) := by rw [Int.mul_add]; omega
    have e3 : (x + 1) % q = 0 := by rw [e2, Int.zero_add, Int.mul_emod_right]
    rw [if_pos e3, e2, div_shift _ _ _ h, Int.zero_ediv]
    omega
  · have e2 : x + 1 = (x % q + 1) + q * (x / q) := by omega
    have e3 : (x + 1) % q = x % q + 1 := by
      rw [e2, Int.add_mul_emod_self_left]
      exact Int.emod_eq_of_lt (by omega) (by omega)
    rw [if_neg (by omega)]
    rw [e2, div_shift _ _ _ h, Int.ediv_eq_zero_of_lt (by omega) (by omega)]
    omega
theorem hit_once (p q b : Int) (hg : Int.gcd p q = 1) (i j : Int) (hi : 0 ≤ i) (hij : i < j) (hj : j < q) (h1 : (p * i + b) % q = 0) (h2 : (p * j + b) % q = 0) : False := by
  have d1 := Int.dvd_of_emod_eq_zero h1
  have d2 := Int.dvd_of_emod_eq_zero h2
  have d3 : q ∣ p * (j - i) := by
    have := Int.dvd_sub d2 d1
    rw [show p * j + b - (p * i + b) = p * (j - i) by rw [Int.mul_sub]; omega] at this
    exact this
  have d4 : q ∣ j - i := by
    have n1 : q.natAbs ∣ p.natAbs * (j - i).natAbs := by
      rw [← Int.natAbs_mul]
      exact Int.natAbs_dvd_natAbs.mpr d3
    have n2 : Nat.Coprime q.natAbs p.natAbs := by
      unfold Nat.Coprime
      rw [Nat.gcd_comm]
      exact hg
    exact Int.natAbs_dvd_natAbs.mp (Nat.Coprime.dvd_of_dvd_mul_left n2 n1)
  have := Int.le_of_dvd (by omega) d4
  omega
theorem fs_step_le (p q b : Int) (hq : 0 < q) (hg : Int.gcd p q = 1) (n : Nat) (hn : (n : Int) ≤ q) :
    fs n p (b + 1) q - fs n p b q = 0 ∧ (∀ i : Nat, i < n → (p * i + (b + 1)) % q ≠ 0) ∨ fs n p (b + 1) q - fs n p b q = 1 ∧ (∃ i : Nat, i < n ∧ (p * i + (b + 1)) % q = 0) := by
  induction n with
  | zero => exact .inl ⟨rfl, fun i h => absurd h (by omega)⟩
  | succ n ih =>
    have e : fs (n + 1) p (b + 1) q - fs (n + 1) p b q = (fs n p (b + 1) q - fs n p b q) + ((p * n + (b + 1)) / q - (p * n + b) / q) := by
      show fs n p (b + 1) q + (p * n + (b + 1)) / q - (fs n p b q + (p * n + b) / q) = _
      omega
    have s := step_div (p * n + b) q hq
    rw [show p * (n : Int) + b + 1 = p * n + (b + 1) by omega] at s
    rw [e]
    rcases ih (by omega) with ⟨h1, h2⟩ | ⟨h1, i, hi, h2⟩
    · by_cases hc : (p * (n : Int) + (b + 1)) % q = 0
      · rw [if_pos hc] at s
        exact .inr ⟨by omega, n, by omega, hc⟩
      · rw [if_neg hc] at s
        refine .inl ⟨by omega, fun i hi => ?_⟩
        by_cases hin : i = n
        · subst hin; exact hc
        · exact h2 i (by omega)
    · have hc : ¬ (p * (n : Int) + (b + 1)) % q = 0 := fun z => hit_once p q (b + 1) hg i n (by omega) (by omega) (by omega) h2 z
      rw [if_neg hc] at s
      exact .inr ⟨by omega, i, by omega, h2⟩
theorem fs_step (p q b : Int) (hq : 0 < q) (hg : Int.gcd p q = 1) : fs q.toNat p (b + 1) q = fs q.toNat p b q + 1 := by
  have hle : ∀ b, fs q.toNat p (b + 1) q - fs q.toNat p b q ≤ 1 := fun b => by
    rcases fs_step_le p q b hq hg q.toNat (by omega) with ⟨h, _⟩ | ⟨h, _⟩ <;> omega
  have many : ∀ (k : Nat) (b : Int), fs q.toNat p (b + k) q - fs q.toNat p b q ≤ k := fun k => by
    induction k with
    | zero => intro b; simp
    | succ k ih =>
      intro b
      have h1 := ih b
      have h2 := hle (b + k)
      rw [show b + ((k + 1 : Nat) : Int) = b + k + 1 by omega]
      omega
  have up := fs_up q.toNat p b q hq
  have h1 := many (q.toNat - 1) (b + 1)
  rw [show b + 1 + ((q.toNat - 1 : Nat) : Int) = b + q by omega] at h1
  have h2 := hle b
  omega
theorem fs_from (p q : Int) (hq : 0 < q) (hg : Int.gcd p q = 1) (k : Nat) (b : Int) : fs q.toNat p (b + k) q = fs q.toNat p b q + k := by
  induction k with
  | zero => simp
  | succ k ih =>
    rw [show b + ((k + 1 : Nat) : Int) = b + k + 1 by omega, fs_step p q _ hq hg, ih]
    omega
theorem fs_any (p q b : Int) (hq : 0 < q) (hg : Int.gcd p q = 1) : fs q.toNat p b q = fs q.toNat p 0 q + b := by
  rcases Int.lt_or_le b 0 with h | h
  · have := fs_from p q hq hg (-b).toNat b
    rw [show b + ((-b).toNat : Int) = 0 by omega] at this
    omega
  · have := fs_from p q hq hg b.toNat 0
    rw [show 0 + (b.toNat : Int) = b by omega] at this
    omega
/-- terms in reverse order -/
theorem fs_rev (n : Nat) (a b q : Int) : fs n a b q = fs n (-a) (a * (n - 1) + b) q := by
  induction n with
  | zero => rfl
  | succ n ih =>
    rw [fs_first n (-a)]
    show fs n a b q + (a * n + b) / q = _
    rw [ih, show a * (((n + 1 : Nat) : Int) - 1) + b = a * n + b by rw [show ((n + 1 : Nat) : Int) - 1 = n by omega],
      show a * (n : Int) + b + -a = a * (n - 1) + b by rw [Int.mul_sub]; omega]
    omega
/-- negated terms -/
theorem fs_neg (n : Nat) (a b q : Int) (hq : 0 < q) : fs n (-a) (-b) q = - fs n a (b + q - 1) q := by
  induction n with
  | zero => rfl
  | succ n ih =>
    show fs n (-a) (-b) q + (-a * n + -b) / q = - (fs n a (b + q - 1) q + (a * n + (b + q - 1)) / q)
    rw [ih]
    have h1 := div_neg1 (a * n + (b - 1)) q hq
    have h2 := div_shift (a * n + (b - 1)) 1 q hq
    rw [show -1 - (a * (n : Int) + (b - 1)) = -a * n + -b by rw [Int.neg_mul]; omega] at h1
    rw [show a * (n : Int) + (b - 1) + q * 1 = a * n + (b + q - 1) by omega] at h2
    omega
theorem fs_cycle (p q b : Int) (hq : 0 < q) (hg : Int.gcd p q = 1) : fs q.toNat p b q = b + (p - 1) * (q - 1) / 2 := by
  have h0 := fs_any p q b hq hg
  have r := fs_rev q.toNat p 0 q
  have ng := fs_neg q.toNat p (-(p * (q - 1))) q hq
  rw [show ((q.toNat : Nat) : Int) = q by omega, Int.add_zero] at r
  rw [Int.neg_neg] at ng
  have h2 := fs_any p q (-(p * (q - 1)) + q - 1) hq hg
  have key : 2 * fs q.toNat p 0 q = (p - 1) * (q - 1) := by
    have e : (p - 1) * (q - 1) = p * (q - 1) - (q - 1) := by rw [Int.sub_mul, Int.one_mul]
    omega
  have : (p - 1) * (q - 1) / 2 = fs q.toNat p 0 q := by
    rw [← key, Int.mul_ediv_cancel_left _ (by decide)]
  omega
/-- Hermite's identity -/
theorem fs_hermite (k y : Int) (hk : 0 < k) : fs k.toNat 1 y k = y := by
  have := fs_cycle 1 k y hk (by simp [Int.gcd])
  rw [this]
  simp
/-- mirrored -/
theorem fs_mirror (n : Nat) (p q c s : Int) (hq : 0 < q) : fs n p (p * (1 - (s + n)) + (q - 1 - c)) q = - fs n p (p * s + c) q := by
  induction n with
  | zero => rfl
  | succ n ih =>
    rw [fs_first]
    show _ = -(fs n p (p * s + c) q + (p * n + (p * s + c)) / q)
    have e1 : p * (1 - (s + ((n + 1 : Nat) : Int))) + (q - 1 - c) + p = p * (1 - (s + n)) + (q - 1 - c) := by
      rw [show (1 - (s + ((n + 1 : Nat) : Int))) = (1 - (s + n)) - 1 by omega, Int.mul_sub p _ 1]
      omega
    rw [e1, ih]
    have h1 := div_neg1 (p * n + (p * s + c)) q hq
    have h2 := div_shift (-1 - (p * n + (p * s + c))) 1 q hq
    rw [show -1 - (p * (n : Int) + (p * s + c)) + q * 1 = p * (1 - (s + ((n + 1 : Nat) : Int))) + (q - 1 - c) by
      rw [show (1 - (s + ((n + 1 : Nat) : Int))) = -(n : Int) - s by omega, Int.mul_sub, Int.mul_neg]; omega] at h2
    omega
theorem fs_lowest (n : Nat) (p q c s : Int) (hq : 1 ≤ q) : fs n (p / gg p q) (p / gg p q * s + c / gg p q) (q / gg p q) = fs n p (p * s + c) q := by
  have hg := gg_pos (p := p) hq
  induction n with
  | zero => rfl
  | succ n ih =>
    show fs n (p / gg p q) (p / gg p q * s + c / gg p q) (q / gg p q) + (p / gg p q * n + (p / gg p q * s + c / gg p q)) / (q / gg p q) = fs n p (p * s + c) q + (p * n + (p * s + c)) / q
    rw [ih]
    have e1 : p / gg p q * n + (p / gg p q * s + c / gg p q) = (p * n + (p * s + c)) / gg p q := by
      have : p * n + (p * s + c) = c + gg p q * (p / gg p q * n + p / gg p q * s) := by
        rw [Int.mul_add, ← Int.mul_assoc, ← Int.mul_assoc, ← gg_p]
        omega
      rw [this, div_shift _ _ _ hg]
      omega
    have e2 : (p * n + (p * s + c)) / gg p q / (q / gg p q) = (p * n + (p * s + c)) / q := by
      rw [Int.ediv_ediv_of_nonneg (Int.le_of_lt hg), ← gg_q]
    rw [e1, e2]
theorem sum_map_add {α : Type} (l : List α) (f g : α → Int) : (l.map fun x => f x + g x).sum = (l.map f).sum + (l.map g).sum := by
  induction l with
  | nil => rfl
  | cons x r ih => simp only [List.map_cons, List.sum_cons, ih]; omega
theorem range_fs (k : Nat) (a b q : Int) : ((List.range k).map fun (j : Nat) => (a * j + b) / q).sum = fs k a b q := by
  induction k with
  | zero => rfl
  | succ k ih =>
    rw [List.range_succ, List.map_append, List.sum_append, ih]
    show _ + ((a * k + b) / q + 0) = fs k a b q + (a * k + b) / q
    omega
theorem fs_thin (n : Nat) (p q b k : Int) (hq : 0 < q) (hk : 0 < k) : ((List.range k.toNat).map fun (j : Nat) => fs n p (b + q * j) (q * k)).sum = fs n p b q := by
  induction n with
  | zero =>
    show ((List.range k.toNat).map fun _ => (0 : Int)).sum = 0
    induction k.toNat with
    | zero => rfl
    | succ m ih => rw [List.range_succ, List.map_append, List.sum_append, ih]; rfl
  | succ n ih =>
    have e : (List.range k.toNat).map (fun (j : Nat) => fs (n + 1) p (b + q * j) (q * k)) = (List.range k.toNat).map (fun (j : Nat) => fs n p (b + q * j) (q * k) + (1 * (j : Int) + (p * n + b) / q) / k) := by
      apply List.map_congr_left
      intro j _
      show fs n p (b + q * j) (q * k) + (p * n + (b + q * j)) / (q * k) = _
      rw [← Int.ediv_ediv_of_nonneg (Int.le_of_lt hq), show p * (n : Int) + (b + q * j) = (p * n + b) + q * j by omega, div_shift _ _ _ hq, Int.one_mul, Int.add_comm]
      rw [Int.add_comm (j : Int)]
      omega
    rw [e, sum_map_add, ih, range_fs, fs_hermite _ _ hk]
    rfl
theorem fs_sample (n : Nat) (p q b k : Int) (hk : 0 ≤ k) : ((List.range k.toNat).map fun (j : Nat) => fs n (p * k) (b + p * j) q).sum = fs (k.toNat * n) p b q := by
  induction n with
  | zero =>
    show ((List.range k.toNat).map fun _ => (0 : Int)).sum = 0
    induction k.toNat with
    | zero => rfl
    | succ m ih => rw [List.range_succ, List.map_append, List.sum_append, ih]; rfl
  | succ n ih =>
    have e : (List.range k.toNat).map (fun (j : Nat) => fs (n + 1) (p * k) (b + p * j) q) = (List.range k.toNat).map (fun (j : Nat) => fs n (p * k) (b + p * j) q + (p * (j : Int) + (p * ((k.toNat * n : Nat) : Int) + b)) / q) := by
      apply List.map_congr_left
      intro j _
      show fs n (p * k) (b + p * j) q + (p * k * n + (b + p * j)) / q = _
      rw [Int.natCast_mul, show ((k.toNat : Nat) : Int) = k by omega, ← Int.mul_assoc]
      rw [show p * k * (n : Int) + (b + p * j) = p * j + (p * k * n + b) by omega]
    rw [e, sum_map_add, ih, range_fs, Nat.mul_succ, fs_add]
end Lf
namespace Lf
theorem fs_lin (n : Nat) (a b m i j : Int) (hm : 0 < m) : fs n (a + i * m) (b + j * m) m = fs n a b m + i * tri n + j * n := by
  induction n with
  | zero => simp [fs, tri_zero]
  | succ n ih =>
    show fs n (a + i * m) (b + j * m) m + ((a + i * m) * n + (b + j * m)) / m = fs n a b m + (a * n + b) / m + i * tri ((n + 1 : Nat) : Int) + j * ((n + 1 : Nat) : Int)
    rw [ih, show (a + i * m) * (n : Int) + (b + j * m) = (a * n + b) + m * (i * n + j) by
      rw [Int.add_mul, Int.mul_add, Int.mul_comm i m, Int.mul_assoc, Int.mul_comm j m]; omega, div_shift _ _ _ hm, Int.natCast_add, Int.natCast_one, tri_succ, Int.mul_add, Int.mul_add]
    omega
theorem fs_scale (n : Nat) (a b m k : Int) (hk : 0 < k) : fs n (a * k) (b * k) (m * k) = fs n a b m := by
  induction n with
  | zero => rfl
  | succ n ih =>
    show fs n (a * k) (b * k) (m * k) + (a * k * n + b * k) / (m * k) = fs n a b m + (a * n + b) / m
    rw [ih, show a * k * (n : Int) + b * k = (a * n + b) * k by rw [Int.add_mul, Int.mul_right_comm], Int.mul_ediv_mul_of_pos_left _ _ hk]
theorem fs_last (n a b m : Int) (hn : 0 < n) : fs n.toNat a b m - fs (n - 1).toNat a b m = (a * (n - 1) + b) / m := by
  have e : n.toNat = (n - 1).toNat + 1 := by omega
  rw [e]
  show fs (n - 1).toNat a b m + (a * ((n - 1).toNat : Int) + b) / m - fs (n - 1).toNat a b m = _
  rw [show ((n - 1).toNat : Int) = n - 1 by omega]
  omega
theorem fs_part (n k a b m : Int) (h0 : 0 ≤ k) (h1 : k ≤ n) : fs k.toNat a b m + fs (n - k).toNat a (a * k + b) m = fs n.toNat a b m := by
  rw [show n.toNat = k.toNat + (n - k).toNat by omega, fs_add, show ((k.toNat : Nat) : Int) = k by omega]
theorem Bd.grow3 {k : Nat} {r d : Int} (h0 : 0 ≤ r) (h : Bd k r) (d0 : 0 ≤ d) (d1 : d < 1000) : Bd (k + 10) (1000 * r + d) := by
  unfold Bd at *
  have e : (2 : Nat) ^ (k + 10) = 2 ^ k * 1024 := by rw [Nat.pow_add]
  rw [e]
  generalize (2 : Nat) ^ k = m at h
  omega
theorem Bd.grow1 {k : Nat} {r d : Int} (h0 : 0 ≤ r) (h : Bd k r) (d0 : 0 ≤ d) (d1 : d < 10) : Bd (k + 4) (10 * r + d) := by
  unfold Bd at *
  have e : (2 : Nat) ^ (k + 4) = 2 ^ k * 16 := by rw [Nat.pow_add]
  rw [e]
  generalize (2 : Nat) ^ k = m at h
  omega
end Lf
namespace Lf
/-! ### events -/
theorem gal {p q : Int} (c m t : Int) (hp : 1 ≤ p) (hq : 1 ≤ q) : m ≤ (p * t + c) / q ↔ (q * m + (p - 1 - c)) / p ≤ t := by
  rw [Int.le_ediv_iff_mul_le (by omega), ← Int.lt_add_one_iff (a := (q * m + (p - 1 - c)) / p), Int.ediv_lt_iff_lt_mul (by omega), Int.mul_comm m q, Int.add_mul, Int.one_mul, Int.mul_comm t p]
  omega
theorem ct_mono {p q c s t : Int} (hp : 0 ≤ p) (hq : 1 ≤ q) (h : s ≤ t) : (p * s + c) / q ≤ (p * t + c) / q := by
  apply Int.ediv_le_ediv (by omega)
  have := Int.mul_le_mul_of_nonneg_left h hp
  omega
theorem ev_at {p q c m t : Int} (hp : 1 ≤ p) (hq : 1 ≤ q) (h1 : (p * (t - 1) + c) / q < m) (h2 : m ≤ (p * t + c) / q) : (q * m + (p - 1 - c)) / p = t := by
  have a := (gal c m t hp hq).mp h2
  have b : ¬ (q * m + (p - 1 - c)) / p ≤ t - 1 := fun h => by
    have := (gal c m (t - 1) hp hq).mpr h
    omega
  omega
theorem fs_const (k : Nat) (a b m v : Int) (h : ∀ i : Nat, i < k → (a * i + b) / m = v) : fs k a b m = k * v := by
  induction k with
  | zero => simp [fs]
  | succ k ih =>
    show fs k a b m + (a * k + b) / m = ((k + 1 : Nat) : Int) * v
    rw [ih (fun i hi => h i (by omega)), h k (by omega), Int.natCast_add, Int.natCast_one, Int.add_mul]
    omega
/-- the sum of the counts of a range by the times of its events -/
theorem fs_dual (p q c s : Int) (hp : 1 ≤ p) (hq : 1 ≤ q) (n : Nat) :
    fs n p (p * s + c) q = n * ((p * (s - 1) + c) / q) + ((p * (s + n - 1) + c) / q - (p * (s - 1) + c) / q) * (s + n) - fs ((p * (s + n - 1) + c) / q - (p * (s - 1) + c) / q).toNat q (q * ((p * (s - 1) + c) / q + 1) + (p - 1 - c)) p := by
  induction n with
  | zero =>
    rw [show s + ((0 : Nat) : Int) - 1 = s - 1 by omega, Int.sub_self]
    simp [fs]
  | succ n ih =>
    show fs n p (p * s + c) q + (p * n + (p * s + c)) / q = _
    rw [ih]
    have e0 : p * (n : Int) + (p * s + c) = p * (s + ((n + 1 : Nat) : Int) - 1) + c := by
      rw [show s + ((n + 1 : Nat) : Int) - 1 = s + n by omega, Int.mul_add]
      omega
    rw [e0]
    have m1 : (p * (s - 1) + c) / q ≤ (p * (s + n - 1) + c) / q := ct_mono (by omega) hq (by omega)
    have m2 : (p * (s + n - 1) + c) / q ≤ (p * (s + ((n + 1 : Nat) : Int) - 1) + c) / q := ct_mono (by omega) hq (by omega)
    have key : ∀ i : Nat, (i : Int) < (p * (s + ((n + 1 : Nat) : Int) - 1) + c) / q - (p * (s + n - 1) + c) / q → (q * ((p * (s + n - 1) + c) / q + 1 + i) + (p - 1 - c)) / p = s + n := fun i hi => by
      apply ev_at hp hq
      · show (p * (s + n - 1) + c) / q < _
        omega
      · rw [show s + (n : Int) = s + ((n + 1 : Nat) : Int) - 1 by omega] at *
        omega
    generalize hl : (p * (s - 1) + c) / q = low at *
    generalize hh : (p * (s + n - 1) + c) / q = hi at *
    generalize hh2 : (p * (s + ((n + 1 : Nat) : Int) - 1) + c) / q = hi2 at *
    rw [show (hi2 - low).toNat = (hi - low).toNat + (hi2 - hi).toNat by omega, fs_add, show ((hi - low).toNat : Int) = hi - low by omega]
    have fc := fs_const (hi2 - hi).toNat q (q * (hi - low) + (q * (low + 1) + (p - 1 - c))) p (s + n) (fun i h => by
      have := key i (by omega)
      rw [show q * (i : Int) + (q * (hi - low) + (q * (low + 1) + (p - 1 - c))) = q * (hi + 1 + i) + (p - 1 - c) by
        have : q * (hi + 1 + i) = q * i + q * (hi - low) + q * (low + 1) := by rw [← Int.mul_add, ← Int.mul_add]; congr 1; omega
        omega]
      exact this)
    rw [fc, show ((hi2 - hi).toNat : Int) = hi2 - hi by omega]
    rw [show s + ((n + 1 : Nat) : Int) = s + n + 1 by omega, show ((n + 1 : Nat) : Int) = n + 1 by omega]
    generalize s + (n : Int) = x
    have e3 : (hi2 - low) * (x + 1) = hi2 * x - low * x + hi2 - low := by rw [Int.mul_add, Int.sub_mul]; omega
    have e4 : (hi - low) * x = hi * x - low * x := by rw [Int.sub_mul]
    have e5 : (hi2 - hi) * x = hi2 * x - hi * x := by rw [Int.sub_mul]
    have e6 : ((n : Int) + 1) * low = n * low + low := by rw [Int.add_mul, Int.one_mul]
    rw [e3, e4, e5, e6]
    omega
theorem ct_fast {p q c s : Int} (hq : 1 ≤ q) (h : q ≤ p) (n : Nat) : (n : Int) ≤ (p * (s + n) + c) / q - (p * s + c) / q := by
  induction n with
  | zero => simp
  | succ n ih =>
    have : (p * (s + n) + c) / q + 1 ≤ (p * (s + ((n + 1 : Nat) : Int)) + c) / q := by
      have e := div_shift (p * (s + n) + c) 1 q (by omega)
      rw [← e]
      apply Int.ediv_le_ediv (by omega)
      rw [show s + ((n + 1 : Nat) : Int) = s + n + 1 by omega, Int.mul_add p (s + n) 1]
      omega
    omega
theorem ct_slow {p q c s : Int} (hq : 1 ≤ q) (h : p ≤ q) (n : Nat) : (p * (s + n) + c) / q - (p * s + c) / q ≤ n := by
  induction n with
  | zero => simp
  | succ n ih =>
    have : (p * (s + ((n + 1 : Nat) : Int)) + c) / q ≤ (p * (s + n) + c) / q + 1 := by
      have e := div_shift (p * (s + n) + c) 1 q (by omega)
      rw [← e]
      apply Int.ediv_le_ediv (by omega)
      rw [show s + ((n + 1 : Nat) : Int) = s + n + 1 by omega, Int.mul_add p (s + n) 1]
      omega
    omega
end Lf

namespace Lf
open PySem PySem.Spec PyProof.Rows L2
def topS (i : Nat) : Stmt := PySem.Challenge.pw_leapfit_k47_least_repairs_by_subsets.main.body.getD i (.Pass ⟨0, 0, 0, 0⟩)
/-! ### heaps -/
theorem len10 {n : Nat} (h : n ≤ 1000) : n ≤ sizeLine := Nat.le_of_lt (small1000 h)
def penD (l : Addr) (t r : Int) : List (Key × V) := [(Sum.inr "cells", .ref l), (Sum.inr "spot", .int t), (Sum.inr "more", .int r)]
/-- all but the source's own dict stays -/
structure Fr (H H' : Hp) : Prop where
  k : ∀ b o, H b = some o → (∀ x : Addr × Int × Int, o ≠ .dK (penD x.1 x.2.1 x.2.2)) → H' b = some o
theorem Fr.t {H H' : Hp} (f : Fr H H') (b : Addr) (xs : List V) (h : H b = some (.tup xs)) : H' b = some (.tup xs) := f.k b _ h fun _ z => by cases z
theorem Fr.l {H H' : Hp} (f : Fr H H') (b : Addr) (xs : List V) (h : H b = some (.lst xs)) : H' b = some (.lst xs) := f.k b _ h fun _ z => by cases z
theorem Fr.refl (H : Hp) : Fr H H := ⟨fun _ _ h _ => h⟩
theorem Fr.trans {H H1 H2 : Hp} (a : Fr H H1) (b : Fr H1 H2) : Fr H H2 := ⟨fun c o h n => b.k c o (a.k c o h n) n⟩
theorem Fr.same {H H1 : Hp} (a : Same H H1) : Fr H H1 := ⟨fun c o h _ => a c _ h⟩
theorem sm_upd {H : Hp} {p : Addr} {o : HO} (h : H p = none) : Same H (upd H p o) := fun b x e => by
  rw [upd_ne (ne_of_none e h)]
  exact e
theorem Fr.new {H : Hp} {p : Addr} {o : HO} (h : H p = none) : Fr H (upd H p o) := Fr.same (sm_upd h)
theorem Fr.dict {H : Hp} {p l : Addr} {t r : Int} {o : HO} (h : H p = some (.dK (penD l t r))) : Fr H (upd H p o) :=
  ⟨fun b o e n => by rw [upd_ne (ne_of e h (n (l, t, r)))]; exact e⟩
theorem Fr.d0 {H H' : Hp} (f : Fr H H') (b : Addr) (h : H b = some (.dK [])) : H' b = some (.dK []) := f.k b _ h fun _ z => by cases z
/-! ### the source of numbers -/
theorem sct : ¬ ("cells" : Str) = "spot" := by decide +kernel
theorem scr : ¬ ("cells" : Str) = "more" := by decide +kernel
theorem str_ : ¬ ("spot" : Str) = "more" := by decide +kernel
theorem srt : ¬ ("more" : Str) = "spot" := by decide +kernel
theorem kct : ¬ (Sum.inr ("cells" : Str) : Key) = Sum.inr ("spot" : Str) := fun h => sct (Sum.inr.inj h)
theorem kcr : ¬ (Sum.inr ("cells" : Str) : Key) = Sum.inr ("more" : Str) := fun h => scr (Sum.inr.inj h)
theorem ktr : ¬ (Sum.inr ("spot" : Str) : Key) = Sum.inr ("more" : Str) := fun h => str_ (Sum.inr.inj h)
theorem krt : ¬ (Sum.inr ("more" : Str) : Key) = Sum.inr ("spot" : Str) := fun h => srt (Sum.inr.inj h)
theorem dg_rest {H : Hp} {a l : Addr} {t r : Int} (h : H a = some (.dK (penD l t r))) : DGet H a (.str "more") (some (.int r)) := by
  have e : valV (penD l t r) (Sum.inr "more" : Key) = some (.int r) := by
    unfold penD
    rw [valV_neg kcr, valV_neg ktr, valV_pos rfl]
  rw [← e]
  exact DGet.k (k := Sum.inr "more") h
theorem dg_turn {H : Hp} {a l : Addr} {t r : Int} (h : H a = some (.dK (penD l t r))) : DGet H a (.str "spot") (some (.int t)) := by
  have e : valV (penD l t r) (Sum.inr "spot" : Key) = some (.int t) := by
    unfold penD
    rw [valV_neg kct, valV_pos rfl]
  rw [← e]
  exact DGet.k (k := Sum.inr "spot") h
theorem dg_cells {H : Hp} {a l : Addr} {t r : Int} (h : H a = some (.dK (penD l t r))) : DGet H a (.str "cells") (some (.ref l)) := by
  have e : valV (penD l t r) (Sum.inr "cells" : Key) = some (.ref l) := by
    unfold penD
    rw [valV_pos rfl]
  rw [← e]
  exact DGet.k (k := Sum.inr "cells") h
theorem dp_rest {H : Hp} {a l : Addr} {t r y : Int} (h : H a = some (.dK (penD l t r))) : DPut H a (.str "more") (.int y) (upd H a (.dK (penD l t y))) := by
  have e : putK (penD l t r) (Sum.inr "more" : Key) (.int y) = penD l t y := by
    simp [putK, penD, scr, str_]
  rw [← e]
  exact DPut.k (k := Sum.inr "more") h (by show 3 < sizeLine; exact small1000 (by decide))
theorem dp_turn {H : Hp} {a l : Addr} {t r y : Int} (h : H a = some (.dK (penD l t r))) : DPut H a (.str "spot") (.int y) (upd H a (.dK (penD l y r))) := by
  have e : putK (penD l t r) (Sum.inr "spot" : Key) (.int y) = penD l y r := by
    simp [putK, penD, sct, srt]
  rw [← e]
  exact DPut.k (k := Sum.inr "spot") h (by show 3 < sizeLine; exact small1000 (by decide))
/-- where the source stands: its dict, its list of cells -/
structure PA where
  d : Addr
  l : Addr
instance : Coe PA Addr := ⟨PA.d⟩
structure Pen (H : Hp) (a : PA) (n : Nat) : Prop where
  ex : ∃ (cs : List Int) (t r : Int), H a.d = some (.dK (penD a.l t r)) ∧ H a.l = some (.lst (cs.map V.int)) ∧ cs.length ≤ 63 ∧ 0 ≤ t ∧ t ≤ n ∧ 0 ≤ r
theorem Pen.same {H H' : Hp} {a : PA} {n : Nat} (p : Pen H a n) (s : Same H H') : Pen H' a n := by
  obtain ⟨cs, t, r, h1, h2, h3⟩ := p.ex
  exact ⟨cs, t, r, s _ _ h1, s _ _ h2, h3⟩
theorem Pen.new {H : Hp} {a : PA} {p : Addr} {n : Nat} {o : HO} (q : Pen H a n) (h : H p = none) : Pen (upd H p o) a n := q.same (sm_upd h)
theorem Pen.mono {H : Hp} {a : PA} {n m : Nat} (p : Pen H a n) (h : n ≤ m) : Pen H a m := by
  obtain ⟨cs, t, r, h1, h2, h3, h4, h5, h6⟩ := p.ex
  exact ⟨cs, t, r, h1, h2, h3, h4, by omega, h6⟩
theorem Pen.put {H : Hp} {a l : Addr} {cs : List Int} {t r : Int} {n : Nat} {kvs : List (Key × V)} (ha : H a = some (.dK kvs)) (hl : H l = some (.lst (cs.map V.int))) (h1 : cs.length ≤ 63) (h2 : 0 ≤ t) (h3 : t ≤ n) (h4 : 0 ≤ r) :
    Pen (upd H a (.dK (penD l t r))) ⟨a, l⟩ n :=
  ⟨cs, t, r, upd_same, by show upd H a _ l = _; rw [upd_ne (ne_of hl ha (by intro z; cases z))]; exact hl, h1, h2, h3, h4⟩
/-- an address that was free when the source stood already -/
theorem Pen.over {H H' : Hp} {a : PA} {L : Addr} {n m : Nat} {o : HO} (p0 : Pen H a m) (hL : H L = none) (p : Pen H' a n) : Pen (upd H' L o) a n := by
  obtain ⟨_, _, _, g1, g2, _⟩ := p0.ex
  obtain ⟨cs, t, r, h1, h2, h3⟩ := p.ex
  exact ⟨cs, t, r, by rw [upd_ne (ne_of_none g1 hL)]; exact h1, by rw [upd_ne (ne_of_none g2 hL)]; exact h2, h3⟩
theorem Fr.over {H H' : Hp} {L : Addr} {o : HO} (f : Fr H H') (hL : H L = none) : Fr H (upd H' L o) :=
  ⟨fun b o e n => by rw [upd_ne (ne_of_none e hL)]; exact f.k _ _ e n⟩
/-! ### defs by their names -/
def Df (K : PySem.W.Frag) (mg : Str → Option Value) (x : Str) (st : Stmt) (ps : List Str) : Prop := ∃ f fd, Fun K x x st f fd ∧ mg x = some (.ref f) ∧ Binds K fd ps []
structure Bi (mg : Str → Option Value) : Prop where
  len_ : mg "len" = none
  abs_ : mg "abs" = none
  list_ : mg "list" = none
  range_ : mg "range" = none
  sum_ : mg "sum" = none
  repr_ : mg "repr" = none
  max_ : mg "max" = none
  min_ : mg "min" = none
  reversed_ : mg "reversed" = none
  divmod_ : mg "divmod" = none
  isinstance_ : mg "isinstance" = none
  all_ : mg "all" = none
  int_ : mg "int" = none
  bool_ : mg "bool" = none
  tuple_ : mg "tuple" = none
  sorted_ : mg "sorted" = none
  zip_ : mg "zip" = none
  enumerate_ : mg "enumerate" = none
  set_ : mg "set" = none
  str_ : mg "str" = none
theorem bt_len : bootBuiltins ("len" : Str) = Option.some (Value.builtin "len") := by decide +kernel
theorem bt_abs : bootBuiltins ("abs" : Str) = Option.some (Value.builtin "abs") := by decide +kernel
theorem bt_sum : bootBuiltins ("sum" : Str) = Option.some (Value.builtin "sum") := by decide +kernel
theorem bt_repr : bootBuiltins ("repr" : Str) = Option.some (Value.builtin "repr") := by decide +kernel
theorem bt_max : bootBuiltins ("max" : Str) = Option.some (Value.builtin "max") := by decide +kernel
theorem bt_min : bootBuiltins ("min" : Str) = Option.some (Value.builtin "min") := by decide +kernel
theorem bt_divmod : bootBuiltins ("divmod" : Str) = Option.some (Value.builtin "divmod") := by decide +kernel
theorem bt_isinstance : bootBuiltins ("isinstance" : Str) = Option.some (Value.builtin "isinstance") := by decide +kernel
theorem bt_all : bootBuiltins ("all" : Str) = Option.some (Value.builtin "all") := by decide +kernel
theorem bt_set : bootBuiltins ("set" : Str) = Option.some (Value.type "set") := by decide +kernel
theorem bt_str : bootBuiltins ("str" : Str) = Option.some (Value.type "str") := by decide +kernel
theorem bt_sorted : bootBuiltins ("sorted" : Str) = Option.some (Value.builtin "sorted") := by decide +kernel
theorem bt_list : bootBuiltins ("list" : Str) = Option.some (Value.type "list") := by decide +kernel
theorem bt_int : bootBuiltins ("int" : Str) = Option.some (Value.type "int") := by decide +kernel
theorem bt_bool : bootBuiltins ("bool" : Str) = Option.some (Value.type "bool") := by decide +kernel
theorem bt_tuple : bootBuiltins ("tuple" : Str) = Option.some (Value.type "tuple") := by decide +kernel
section
variable {P : Program} {w : World} {K : PySem.W.Frag} {mg : Str → Option Value} {base : Heap}
theorem cal_of {x : Str} {st : Stmt} {N ps : List Str} {k : Nat} {sp : Sp} (D : Df K mg x st ps) (S : FnScope N ps (defScope st)) (len : ∀ vs H Q E, sp vs H Q E → vs.length = ps.length)
    (hb : ∀ (f : Addr) (cdv : Value) (A : Around) (outer : List Env) (s : Shared) (H : Hp) (vs : List V) (Q : VK) (E : XK), Room k (A.deeper (envOfC x (defScope st) s.heap.objs.size f cdv)) → sp vs H Q E →
      ∃ t, PSs (cxOf CX0 P w K mg base N x (defScope st) f cdv A outer s H E).nox (defBody st) t ∧ t { nx := fun _ H' => Q .non H', rt := Q } (start N vs) H) : C8.Cal P w K mg base (k + 1) x sp [] := by
  obtain ⟨f, fd, F, hm, b⟩ := D
  exact ⟨⟨f, fd, ps, [], F.ok S len (fun cdv A outer s H vs Q E hr h => hb f cdv A outer s H vs Q E hr h), hm, F.kp, b, .nil⟩⟩
/-- the same, its own row known (for calls with keywords) -/
def CalF (P : Program) (w : World) (K : PySem.W.Frag) (mg : Str → Option Value) (base : Heap) (k : Nat) (x : Str) (st : Stmt) (ps : List Str) (sp : Sp) : Prop :=
  ∃ f fd, Fun K x x st f fd ∧ mg x = some (.ref f) ∧ FnOk P w K mg base CX0 k f fd ps sp ∧ Binds K fd ps []
theorem calF_of {x : Str} {st : Stmt} {N ps : List Str} {k : Nat} {sp : Sp} (D : Df K mg x st ps) (S : FnScope N ps (defScope st)) (len : ∀ vs H Q E, sp vs H Q E → vs.length = ps.length)
    (hb : ∀ (f : Addr) (cdv : Value) (A : Around) (outer : List Env) (s : Shared) (H : Hp) (vs : List V) (Q : VK) (E : XK), Room k (A.deeper (envOfC x (defScope st) s.heap.objs.size f cdv)) → sp vs H Q E →
      ∃ t, PSs (cxOf CX0 P w K mg base N x (defScope st) f cdv A outer s H E).nox (defBody st) t ∧ t { nx := fun _ H' => Q .non H', rt := Q } (start N vs) H) : CalF P w K mg base (k + 1) x st ps sp := by
  obtain ⟨f, fd, F, hm, b⟩ := D
  exact ⟨f, fd, F, hm, F.ok S len (fun cdv A outer s H vs Q E hr h => hb f cdv A outer s H vs Q E hr h), b⟩
theorem CalF.cal {x : Str} {st : Stmt} {ps : List Str} {k : Nat} {sp : Sp} (c : CalF P w K mg base k x st ps sp) : C8.Cal P w K mg base k x sp [] := by
  obtain ⟨f, fd, F, hm, G, b⟩ := c
  exact ⟨⟨f, fd, ps, [], G, hm, F.kp, b, .nil⟩⟩
/-! ### _law_pen -/
theorem cut_ints (ns : List Int) : ∃ cs : List Int, cutV (ns.map V.int) none (some 63) = cs.map V.int ∧ cs.length ≤ 63 := by
  refine ⟨ns.take 63, ?_, by rw [List.length_take]; omega⟩
  unfold cutV
  rw [HT.sIx_none, show HT.sIx (ns.map V.int).length (ns.map V.int).length (some 63) = min 63 (ns.map V.int).length from HT.sIx_nat _ _ 63]
  rw [List.drop_zero, Nat.sub_zero, List.map_take, List.length_map]
  by_cases h : 63 ≤ ns.length
  · rw [Nat.min_eq_left h]
  · rw [Nat.min_eq_right (by omega), List.take_of_length_le (by rw [List.length_map]; omega), List.take_of_length_le (by rw [List.length_map]; omega)]
def spPen (K : PySem.W.Frag) : Sp := fun vs H Q _ => ∃ (s : Addr) (ns : List Int), vs = [.ref s] ∧ SqL K H s (ns.map V.int) ∧ ∀ (a : PA) H', Pen H' a 0 → Same H H' → Q (.ref a) H'
abbrev s_l_pen : Stmt := topS 32
abbrev N_l_pen : List Str := ["_law_script"]
abbrev P_l_pen : List Str := ["_law_script"]
theorem sc_l_pen : FnScope N_l_pen P_l_pen (defScope s_l_pen) := ⟨rfl, rfl, rfl, by decide +kernel, rfl, by decide +kernel, by decide +kernel⟩
theorem ok_l_pen (D : Df K mg "_law_pen" s_l_pen P_l_pen) (B : Bi mg) : C8.Cal P w K mg base 1 "_law_pen" (spPen K) [] := by
  refine cal_of D sc_l_pen (fun vs H Q E h => ?_) (fun f cdv A outer s H vs Q E hr h => ?_)
  · obtain ⟨a, ns, rfl, _⟩ := h
    rfl
  · obtain ⟨a, ns, rfl, hS, q⟩ := h
    refine ⟨_, (pss_one (ps_ret (pe_disp (pps_cons pe_str (pe_callTy (call_list_of) (by rfl) B.list_ bt_list (pa_cons (pe_slice sl_list (pv 0) po_none (po_some pe_int)) pa_nil)) (pps_cons pe_str pe_int (pps_cons pe_str pe_int pps_nil))) (by rfl) (by rfl) (fun z => by cases z) (by decide)))), ?_⟩
    refine fun p np => ?_
    have s1 : Same H (upd H p (.dK [])) := sm_upd np
    refine ⟨_, rfl, 63, rfl, a, _, rfl, s1.seq hS, fun c nc => ?_⟩
    obtain ⟨cs, ec, hc⟩ := cut_ints ns
    rw [ec]
    refine ⟨c, _, rfl, .inl (SqL.of upd_same), fun l nl => ?_⟩
    have ncp : p ≠ c := ne_of_none upd_same nc
    have nlc : c ≠ l := ne_of_none upd_same nl
    have nlp : p ≠ l := ne_of_none (by rw [upd_ne ncp]; exact upd_same) nl
    refine ⟨by rw [upd_ne nlp, upd_ne ncp, upd_same], penD l 0 0, rfl, by show 3 ≤ 15; decide, ?_⟩
    have e : mergeK [] (penD l 0 0) = penD l 0 0 := by
      simp [mergeK, penD, putK, sct, scr, str_]
    rw [e]
    refine q ⟨p, l⟩ _ ⟨cs, 0, 0, upd_same, ?_, hc, by omega, by omega, by omega⟩ ?_
    · show upd _ p _ l = _
      rw [upd_ne nlp.symm, upd_same]
    · intro b o eb
      have nb : b ≠ p := ne_of_none eb np
      have nb2 : b ≠ c := ne_of_none (s1 _ _ eb) nc
      have nb3 : b ≠ l := ne_of_none (sm_upd nc _ _ (s1 _ _ eb)) nl
      rw [upd_ne nb, upd_ne nb3, upd_ne nb2, upd_ne nb]
      exact eb
end
end Lf
namespace Lf
open PySem PySem.Spec PyProof.Rows L2
/-! ### a try that catches, and keeps the exception in a name -/
abbrev dead : Ends := { nx := fun _ _ => False, rt := fun _ _ => False }
/-- the wish: the clause's class; then the suite; then, with the exception known, what follows -/
def wKeep (K : PySem.W.Frag) (c : Value) (i : Nat) (ts : Addr → TS) (go : Addr → Value → Option Addr → L2.St → Hp → Prop) : WX := fun cls d σ H =>
  PySem.W.exmOne K cls c = some true ∧ ∀ a, H a = none → ts a { nx := fun σ' H' => go a cls d (σ'.set i none) H', rt := fun _ _ => False } (σ.set i (some (.ref a))) H
/-- slots are as many as names -/
theorem takes_len {X : Cx} {W : WX} (t : Takes X W) : Takes X (fun cls d σ H => σ.length = X.N.length → W cls d σ H) := fun u s' ⟨a, B, sI, pins, σ, H, cls, d, e, I, nb, up, sky, na, os, ag, ww⟩ =>
  t u s' ⟨a, B, sI, pins, σ, H, cls, d, e, I, nb, up, sky, na, os, ag, ww I.len⟩
section
variable {X : Cx} {pins : List (Addr × Obj)} {σ : L2.St} {H : Hp} {s : Shared}
/-- an exception's object, known from now on -/
theorem pin_in (J : Inv X pins σ H s) {a : Addr} {oe : Obj} {vs : Array Value} (ge : s.heap.get? a = some oe) (dt : oe.data = .fields vs) (na : H a = none) (n1 : a ≠ X.env.locals) (n2 : a ∉ X.fs) : Inv (X.tr ((a, oe) :: (X.pn ++ pins)) X.xe) [] σ H s := by
  refine ⟨J.ok.toTry _ _, J.os, J.bare, J.base, J.loc, J.cell, J.free, J.freeC, fun p hp => ?_, J.hok, J.len⟩
  rw [List.append_nil] at hp
  rcases List.mem_cons.mp hp with rfl | hp
  · refine ⟨ge, na, n1, n2, fun v z => ?_⟩
    have z : oe.data = .cell v := z
    rw [dt] at z
    cases z
  · exact J.pin p hp
theorem pin_out {a : Addr} {oe : Obj} {pn : List (Addr × Obj)} (ok : X.Ok) (J : Inv (X.tr ((a, oe) :: (X.pn ++ pins)) X.xe) pn σ H s) : Inv X pins σ H s :=
  ⟨ok, J.os, J.bare, J.base, J.loc, J.cell, J.free, J.freeC, fun p hp => J.pin p (List.mem_append.mpr (.inl (List.mem_cons_of_mem _ hp))), J.hok, J.len⟩
theorem out_suite {a : Addr} {oe : Obj} {pn : List (Addr × Obj)} (ok : X.Ok) (J : Inv (X.suite a ((a, oe) :: (X.pn ++ pins))) pn σ H s) : Inv (X.tr ((a, oe) :: (X.pn ++ pins)) X.xe) [] σ H s :=
  ⟨ok.toTry _ _, J.os, J.bare, J.base, J.loc, J.cell, J.free, J.freeC, fun p hp => J.pin p (List.mem_append.mpr (.inl (by rw [List.append_nil] at hp; exact hp))), J.hok, J.len⟩
end
section
variable {X : Cx} {x n : Str} {c : Value} {i : Nat} {body suite rest : List Stmt} {b0 : Stmt} {np po pq : Pos} {tb : WX → TS} {ts : Addr → TS} {tr : Addr → Value → Option Addr → TS}
theorem pss_keep (stk : X.stack = X.env :: X.outer) (fr : X.env.frame = some X.env.locals) (nd : X.N.Nodup) (ni : X.N[i]? = some n) (kn : X.env.kindOf n = some .local) (hc : Names X x c)
    (hb : ∀ (W : WX) (pn : List (Addr × Obj)) (xe : Value → Shared → Prop), Takes (X.tr pn xe) W → PSs (X.tr pn xe) body (tb W))
    (hsu : ∀ (a : Addr) (oe : Obj) (pn : List (Addr × Obj)), PSs (X.suite a ((a, oe) :: pn)) (b0 :: suite) (ts a))
    (hre : ∀ (a : Addr) (oe : Obj) (cls : Value) (d : Option Addr) (pn : List (Addr × Obj)), Zc cls d oe → (∃ vs, oe.data = .fields vs) → PSs (X.tr ((a, oe) :: pn) X.xe) rest (tr a cls d)) :
    PSs X (.Try body [.ExceptHandler (some (.Name x np)) (some n) (b0 :: suite) pq] [] [] po :: rest) (fun D σ H => tb (wKeep X.K c i ts (fun a cls d σ' H' => tr a cls d D σ' H')) dead σ H) := by
  refine ⟨fun pins s σ H D I h => wpAny_execs_cons (wpAny_Try_except ?_)⟩
  have ok := I.ok
  have frm : X.A.frames = some (X.env :: X.outer) := by rw [ok.frames, stk]
  refine wpAny_mono ((hb (wKeep X.K c i ts (fun a cls d σ' H' => tr a cls d D σ' H')) (X.pn ++ pins) _ (fun u s' air => ?_)).run [] s σ H dead (I.toTry _) h) (fun f s1 z => ?_) (fun e s1 he => he)
  · obtain ⟨a, B, sI, pins', σ1, H1, cls, d, rfl, J0, nb, up, sky, na, os, ag, em, go⟩ := air
    have J : Inv X pins σ1 H1 sI := J0.ofTry ok
    rw [stk] at sky
    refine Sky.land Zc.steady frm fr sky fun h3 f3 u3 => ?_
    have J3 : Inv X pins σ1 H1 { s' with heap := h3 } := J.landed nb f3.1 (up.trans u3) os ag
    obtain ⟨o3, v3, g3, z3, d3⟩ := f3.there
    have nf : a ∉ frs (X.env :: X.outer) := fun hm => by
      obtain ⟨_, o', e', hn⟩ := f3.2.2.1.mem hm
      rw [g3] at e'
      cases e'
      exact hn _ d3
    have n1 : a ≠ X.env.locals := fun z => nf (List.mem_filterMap.mpr ⟨X.env, List.mem_cons_self, by rw [fr, z]⟩)
    have n2 : a ∉ X.fs := fun hm => by
      obtain ⟨e, he, q⟩ := List.mem_filterMap.mp hm
      exact nf (List.mem_filterMap.mpr ⟨e, List.mem_cons_of_mem _ he, q⟩)
    have S3 := J3.suite g3 d3 na n1 n2
    refine wpAny_handleBy_cons (codeAny_handlers_test ?_) (by intro q; cases q)
    have lt : PySem.W.Looks (model X.prog X.w) h3 (typeOf (.ref a)) cls := fun A Q E s k q => wpAny_typeOf_ref (k _ _ g3) (by rw [z3.1]; exact q)
    have lm := PySem.W.exm_one (M := model X.prog X.w) J3.kIn lt em
    have seen : ∀ {Q : Value → Shared → Prop} {E : Value → Shared → Prop}, Q c { s' with heap := h3 } → wpAny (model X.prog X.w) (X.A.mark (some (.ref a))) (eval (.Name x np) X.env) Q E { s' with heap := h3 } := fun {Q E} q => by
      obtain ⟨hg, hd, hm | ⟨hm, hv, hw⟩⟩ := hc
      · exact ld_glob S3 hg hm q hd
      · exact ld_blt S3 hg hm hv q hw hd
    refine seen (lm.here (codeAny_handlers_suite_as (HandSPX.lands_againZ f3 fun h4 f4 u4 => ?_)))
    have J4 : Inv X pins σ1 H1 { s' with heap := h4 } := J.landed nb f4.1 ((up.trans u3).trans u4) os ag
    obtain ⟨o4, v4, g4, z4, d4⟩ := f4.there
    have S4 := J4.suite g4 d4 na n1 n2
    refine store_ok (X := X.suite a ((a, o4) :: (X.pn ++ pins))) (v := .ref a) S4 nd ni (.inl kn) rfl (fun s5 S5 => ?_) (.inr kn)
    refine wpAny_mono ((hsu a o4 (X.pn ++ pins)).run [] s5 _ H1 _ S5 (go a na)) (fun f s6 q => ?_) (fun _ _ z => False.elim z)
    cases f with
    | next =>
      obtain ⟨σ6, H6, S6, q6⟩ := q
      refine gone_ok (X := X.tr ((a, o4) :: (X.pn ++ pins)) X.xe) (out_suite ok S6) nd ni kn fun s7 J7 => ?_
      refine wpAny_mono ((hre a o4 cls d (X.pn ++ pins) z4 ⟨_, d4⟩).run [] s7 _ H6 D J7 q6) (fun f s8 r => ?_) (fun _ _ z => z)
      cases f with
      | next =>
        obtain ⟨σ8, H8, J8, q8⟩ := r
        exact ⟨σ8, H8, pin_out ok J8, q8⟩
      | brk =>
        obtain ⟨σ8, H8, J8, q8⟩ := r
        exact ⟨σ8, H8, pin_out ok J8, q8⟩
      | cont =>
        obtain ⟨σ8, H8, J8, q8⟩ := r
        exact ⟨σ8, H8, pin_out ok J8, q8⟩
      | ret u =>
        obtain ⟨v8, σ8, H8, J8, r8, q8⟩ := r
        exact ⟨v8, σ8, H8, pin_out ok J8, r8, q8⟩
    | brk =>
      obtain ⟨_, _, _, q6⟩ := q
      exact False.elim q6
    | cont =>
      obtain ⟨_, _, _, q6⟩ := q
      exact False.elim q6
    | ret u =>
      obtain ⟨_, _, _, _, _, q6⟩ := q
      exact False.elim q6
  · cases f with
    | next =>
      obtain ⟨_, _, _, q6⟩ := z
      exact False.elim q6
    | brk =>
      obtain ⟨_, _, _, q6⟩ := z
      exact False.elim q6
    | cont =>
      obtain ⟨_, _, _, q6⟩ := z
      exact False.elim q6
    | ret u =>
      obtain ⟨_, _, _, _, _, q6⟩ := z
      exact False.elim q6
end
/-! ### isinstance of a known exception -/
/-- by one class, or by a tuple of classes -/
def rIsK (K : PySem.W.Frag) (D a : Addr) : List V → Hp → VK → Prop := fun xs H Q => ∃ (y : V) (b : Bool), xs = [.ref a, y] ∧ Q (.bl b) H ∧
  ((∃ cv, (∀ u, RelV y u → u = cv) ∧ PySem.W.kitOne K (.ref D) cv = some b) ∨ ∃ (tp : Addr) (cs : List Addr), y = .ref tp ∧ SqT K H tp (cs.map V.ref) ∧ PySem.W.kitAny K (.ref D) (cs.map Value.ref) = some b)
theorem vals_refs : ∀ {cs : List Addr} {us : List Value}, Vals (cs.map V.ref) us → us = cs.map Value.ref
  | [], _, r => by cases r; rfl
  | c :: cs, _, r => by
    cases r with
    | cons r1 r2 =>
      rw [vals_refs r2]
      cases r1
      rfl
theorem call_isK {X : Cx} {a D : Addr} {oe : Obj} {pn : List (Addr × Obj)} {xe : Value → Shared → Prop} (C : ExcC X.K D) (hz : Zc (.ref D) none oe) (hf : ∃ vs, oe.data = .fields vs) : CallR (X.tr ((a, oe) :: pn) xe) (.builtin "isinstance") (rIsK X.K D a) := by
  intro pins s σ H xs us Q I r h
  obtain ⟨y, b, rfl, q, h⟩ := h
  cases r with
  | cons rx rr =>
    cases rr with
    | cons rt rr =>
      cases rr
      cases rx
      obtain ⟨ge, _⟩ := I.pin (a, oe) (List.mem_append.mpr (.inl List.mem_cons_self))
      obtain ⟨vs, hv⟩ := hf
      have J : PySem.W.InstAt s.heap a oe D none := by
        obtain ⟨oc, od, oda, osl⟩ := oe
        obtain ⟨h1, h2⟩ := hz
        dsimp only at h1 h2 hv
        subst h1 h2 hv
        exact ⟨ge, rfl, rfl, trivial⟩
      have kx := PySem.W.handS_kitx_exc (x := a) (ox := oe) C.hg C.hk C.hs C.hd C.ha C.hn C.ht C.hm
      rcases h with ⟨cv, hcv, e⟩ | ⟨tp, cs, rfl, hT, e⟩
      · have ec := hcv _ rt
        subst ec
        exact PySem.W.kia_one kx I.kIn J e (fun z => nomatch z) fun tk => ⟨.bl b, H, I.kept (t' := tk) fun _ _ z => z, rfl, q⟩
      · obtain ⟨its, rv, ⟨o, e1, e2, nn, e3⟩, _⟩ := I.tuple hT
        have ei := vals_refs rv
        subst ei
        cases rt
        obtain ⟨oc, od, oda, osl⟩ := o
        dsimp only at e2 e3
        subst e2 e3
        exact PySem.W.kia_tup kx I.kIn J e1 e (fun z => nomatch z) fun tk => ⟨.bl b, H, I.kept (t' := tk) fun _ _ z => z, rfl, q⟩
/-! ### an own exception without arguments, made -/
theorem pmk_none {X : Cx} {C : Addr} {bmB : List Value} {B newId initId : String} {x : Str} {p po : Pos} (F : ExcBaseFacts B newId initId bmB) (q : PySem.W.excIn X.K C bmB newId = true) (gC : X.mg x = some (.ref C)) (kC : PySem.W.keepIn X.K (.ref C) = true) (r : Raises X (.ref C)) (hg : Gl X x)
    (hdb : (x == ("__debug__" : Str)) = false := by decide) : PMk X (.Call (.Name x p) [] [] po) (fun _ H Q => Q (.ref C) none H) := by
  intro pins s σ H Q I h
  refine wpAny_Call_Name_kw (ld_glob I hg gC ?_ hdb)
  refine PySem.W.callWith_K0 I.kIn kC ?_
  show wpAny _ _ (call (.ref C) []) _ _ _
  obtain ⟨bm, N, nm, qn, bs, hdct, sn, sub, ab, col, dd, k0, k1, k2, k3, k5, mN, hC, hN, hni, T⟩ := exc_obj I.kIn q
  refine wpAny_call_exc_subT F T hC hN hni (fun h' e hm => ?_) (by show 0 ≤ sizeLine; omega)
  exact mk_of I hm r h (I.hok.gone hm.new)
/-! ### what the top tells of the class NoEvents, at C, and of the classes beside it -/
structure NoEv (K : PySem.W.Frag) (mg : Str → Option Value) (C : Addr) : Prop where
  gC : mg "NoEvents" = some (.ref C)
  kC : PySem.W.keepIn K (.ref C) = true
  xi : PySem.W.excIn K C [.type "ValueError", .type "Exception", .type "BaseException", .type "object"] "ValueError.__new__" = true
  ex : ExcC K C
  ty : PySem.W.typeIn K (.ref C) = some (.type "type")
  sf : PySem.W.subIn K (.ref C) (.ref C) = some true
structure NoEvB (K : PySem.W.Frag) (mg : Str → Option Value) (C L N R E I : Addr) : Prop where
  gL : mg "LeapfitError" = some (.ref L)
  gN : mg "InvalidNumber" = some (.ref N)
  gR : mg "InvalidRule" = some (.ref R)
  gE : mg "NoRule" = some (.ref E)
  gI : mg "InvalidCounts" = some (.ref I)
  bV : mg "ValueError" = none
  oL : PySem.W.kitOne K (.ref C) (.ref L) = some true
  oV : PySem.W.kitOne K (.ref C) (.type "ValueError") = some true
  oN : PySem.W.kitAny K (.ref C) [.ref N, .ref R, .ref E, .ref I] = some false
theorem NoEv.raises {X : Cx} {C : Addr} (T : NoEv X.K X.mg C) : Raises X (.ref C) := raises_own T.ex.hs T.ty
theorem NoEv.meets {K : PySem.W.Frag} {mg : Str → Option Value} {C : Addr} (T : NoEv K mg C) : PySem.W.exmOne K (.ref C) (.ref C) = some true := PySem.W.exm_ref T.ex.hs T.ex.hd T.ty T.sf
/-- a def that raises, by its name -/
def CalX (P : Program) (w : World) (K : PySem.W.Frag) (mg : Str → Option Value) (base : Heap) (k : Nat) (x : Str) (sp : Sp) : Prop :=
  ∃ f fd ps, FnOk P w K mg base (L2.CX P w) k f fd ps sp ∧ mg x = some (.ref f) ∧ PySem.W.keepIn K (.ref f) = true ∧ Binds K fd ps []
theorem calx_of {P : Program} {w : World} {K : PySem.W.Frag} {mg : Str → Option Value} {base : Heap} {x : Str} {st : Stmt} {N ps : List Str} {k : Nat} {sp : Sp} (D : Df K mg x st ps) (S : FnScope N ps (defScope st)) (len : ∀ vs H Q E, sp vs H Q E → vs.length = ps.length)
    (hb : ∀ (f : Addr) (cdv : Value) (A : Around) (outer : List Env) (s : Shared) (H : Hp) (vs : List V) (Q : VK) (E : XK), Room k (A.deeper (envOfC x (defScope st) s.heap.objs.size f cdv)) → sp vs H Q E →
      ∃ t, PSs (cxOf (L2.CX P w) P w K mg base N x (defScope st) f cdv A outer s H E) (defBody st) t ∧ t { nx := fun _ H' => Q .non H', rt := Q } (start N vs) H) : CalX P w K mg base (k + 1) x sp := by
  obtain ⟨f, fd, F, hm, b⟩ := D
  exact ⟨f, fd, ps, F.okX S len (fun cdv A outer s H vs Q E hr h => hb f cdv A outer s H vs Q E hr h), hm, F.kp, b⟩
section
variable {X : Cx} {x : Str} {sp : Sp} {W : WX} {j k : Nat} {e : Expr} {es : List Expr} {t : TA} {p po : Pos}
/-- it is called where what it raises is taken -/
theorem pe_cx (c : CalX X.prog X.w X.K X.mg X.base k x sp) (hr : Room j X.A) (hk : k ≤ j) (tk : Takes X W) (hg : Gl X x) (ha : L2.PA X (e :: es) t)
    (hdb : (x == ("__debug__" : Str)) = false := by decide) (he : starEach (e :: es) X.env = (false, eval e X.env) :: starEach es X.env := by rfl) (hpl : (backTo po (starEach es X.env)).any (·.1) = false := by rfl) :
    PE X (.Call (.Name x p) (e :: es) [] po) (tCallS sp (WE W) t) := by
  obtain ⟨f, fd, ps, F, hm, kp, b⟩ := c
  exact pe_callS F (hr.mono hk) hg hm kp b (fun σ => passAt tk σ) ha hdb he hpl
end
end Lf
namespace Lf
open PySem PySem.Spec PyProof.Rows L2
/-! ### a def called where no repr is under way -/
structure FnG (P : Program) (w : World) (K : PySem.W.Frag) (mg : Str → Option Value) (base : Heap) (k : Nat) (f : Addr) (fd : FuncData) (ps : List Str) (sp : Sp) : Prop where
  lenG : ∀ vs H Q E, sp vs H Q E → vs.length = ps.length
  runG : ∀ (A : Around) (out : List Env) (sh : Shared) (H : Hp) (ar : Args) (us : List Value) (vs : List V) (Q : VK) (E : XK), Room k A → A.guards = some [] → Env0 P w K mg base A out sh H → BindsTo sh fd ar (ps.zip us) → Vals vs us → sp vs H Q E →
    codeAny (model P w) A (.call (.ref f) ar) (CR CX0 out P w H sh Q E) sh
theorem fnG_of {P : Program} {w : World} {K : PySem.W.Frag} {mg : Str → Option Value} {base : Heap} {x qual : Str} {st : Stmt} {f : Addr} {fd : FuncData} {N ps : List Str} {k : Nat} {sp : Sp} (F : Fun K x qual st f fd) (S : FnScope N ps (defScope st)) (ln : ∀ vs H Q E, sp vs H Q E → vs.length = ps.length)
    (bd : ∀ (cdv : Value) (A : Around) (out : List Env) (sh : Shared) (H : Hp) (vs : List V) (Q : VK) (E : XK), Room k (A.deeper (envOfC qual (defScope st) sh.heap.objs.size f cdv)) → A.guards = some [] → sp vs H Q E →
      ∃ t, PSs (cxOf CX0 P w K mg base N qual (defScope st) f cdv A out sh H E).nox (defBody st) t ∧ t { nx := fun _ H' => Q .non H', rt := Q } (start N vs) H) : FnG P w K mg base (k + 1) f fd ps sp := by
  obtain ⟨oc, od, kV, doc, pm, an, cdv, ct, osl, rfl, lkp, cin⟩ := F.ex
  refine ⟨ln, fun A out sh H ar us vs Q E rm gd en bnd rel pr => ?_⟩
  have lv := ln _ _ _ _ pr
  have inK : K.In sh.heap := en.mod.kin.keeps fun b o e => (en.bs b o e).1
  have nol : sh.heap.NoLimit := en.mod.nolimit.keeps fun b o e => (en.bs b o e).1
  have knd : ∀ y ∈ ps.zip us, (defScope st).names.lookup y.1 = some .local ∨ ((defScope st).names.lookup y.1 = some .cell ∧ ((cellsFrom (sh.heap.objs.size + 1) (defScope st).names []).lookup y.1).isSome = true) := fun ⟨n, v⟩ hy => by
    rcases S.par n (List.of_mem_zip hy).1 with z | z
    · exact .inl z
    · exact .inr ⟨z, PySem.W.cellsFrom_some _ _ _ (.inl z)⟩
  refine codeAny_call_function rm.depth (inK _ _ lkp) rfl S.co S.gen rfl (PySem.W.codeRec_of inK cin) (bnd _ _ _ _ ?_)
  refine wpAny_newFunctionEnv_cells S.kind knd fun env he sh1 x1 => ?_
  subst he
  refine ⟨nol.keeps x1.toInCall.keep, codeAny_func ?_⟩
  obtain ⟨t, ht, hq⟩ := bd cdv A out sh H vs Q E (rm.deeper _) gd pr
  have inv := inv_start (CX := CX0) (P := P) (w := w) (K := K) (mg := mg) (base := base) (E := E) (f := f) (cd := cdv) (qual := qual) S rm.hd en lv rel x1
  refine wpAny_mono (ht.nox.run [] sh1 (start N vs) H _ inv hq) (fun fl sh' hs => ?_) fun e sh' hs => hs
  cases fl with
  | ret u =>
    obtain ⟨v, σ', H', J, rv, z⟩ := hs
    exact ⟨v, H', J.os, J.bare, J.base, J.hok, rv, z⟩
  | next =>
    obtain ⟨σ', H', J, z⟩ := hs
    exact ⟨V.non, H', J.os, J.bare, J.base, J.hok, rfl, z⟩
  | brk =>
    obtain ⟨_, _, _, z⟩ := hs
    exact False.elim z
  | cont =>
    obtain ⟨_, _, _, z⟩ := hs
    exact False.elim z
/-- the law called, at the heap behind the top -/
theorem lawG {P : Program} {w : World} {K : PySem.W.Frag} {mg mb : Str → Option Value} {k : Nat} {fa ad : Addr} {fd : FuncData} {x : Str} {sp : Sp} {sh : Shared} {vs : List Value} {ns : List Int}
    (inK : K.In sh.heap) (nsm : sh.heap.Ns mainGlobals mg) (nsb : sh.heap.Ns builtinsNs mb) (bb : ∀ x : Str, x ≠ "__name__" → mb x = bootBuiltins x) (nol : sh.heap.NoLimit) (gn : sh.gens = #[])
    (ga : sh.heap.get? ad = some { cls := .type "list", data := .seq vs.toArray }) (isI : IntsAre vs ns) (len : ns.length ≤ sizeLine) (rm : Room k callerA)
    (F : ∀ base : Heap, K.In base → base.Ns mainGlobals mg → FnG P w K mg base k fa fd [x] sp) (bnd : ∀ (s : Shared) (u : Value), BindsTo s fd ⟨[u], []⟩ [(x, u)])
    (pr : ∀ H : Hp, SqL K H ad (ns.map V.int) → sp [.ref ad] H (fun v _ => v = .bl true) fun _ _ _ => False) :
    codeAny (model P w) callerA (.call (.ref fa) ⟨[.ref ad], []⟩) (fun r sh' => r = .ok (.ret (.bool true)) ∧ OldK sh.heap sh'.heap ∧ sh'.os = sh.os ∧ AllBare sh'.gens) sh := by
  have rel := vals_ints isI
  have lnv := isI.length
  have main : ∀ H : Hp, Only H → SqL K H ad (ns.map V.int) → HOk P w H sh.heap → (∀ b, H b ≠ none → b = ad) → (H ad ≠ none → K.lookup ad = none) →
      codeAny (model P w) callerA (.call (.ref fa) ⟨[.ref ad], []⟩) (fun r sh' => r = .ok (.ret (.bool true)) ∧ OldK sh.heap sh'.heap ∧ sh'.os = sh.os ∧ AllBare sh'.gens) sh := by
    intro H only seq hok one nk
    have lay : ∀ {b : Addr} {o : Obj}, sh.heap.get? b = some o → H b = none → (hidT sh.heap H).get? b = some o := fun e n => hidT_get e n
    have nod : ∀ {b : Addr} {o : Obj} {es : Array DictEntry} {ep : Nat}, sh.heap.get? b = some o → o.data = .dict es ep → H b = none := fun {b o es ep} e d => by
      cases z : H b with
      | none => rfl
      | some u =>
        have eb : b = ad := one b (by rw [z]; simp)
        subst eb
        rw [ga] at e
        cases e
        exact (nomatch (show Data.seq vs.toArray _ = Data.dict es ep from d))
    have nsL : ∀ {b : Addr} {m : Str → Option Value}, sh.heap.Ns b m → (hidT sh.heap H).Ns b m := fun {b m} ⟨o, es, ep, e, d, r⟩ => ⟨o, es, ep, lay e (nod e d), d, r⟩
    have inB : K.In (hidT sh.heap H) := fun b o e => lay (inK b o e) (by
      cases z : H b with
      | none => rfl
      | some u =>
        have eb : b = ad := one b (by rw [z]; simp)
        subst eb
        rw [nk (by rw [z]; simp)] at e
        cases e)
    have md : Mod K mg (hidT sh.heap H) := ⟨inB, nsL nsm, ⟨mb, nsL nsb, bb⟩, let ⟨mc, h1, h2⟩ := nol; ⟨mc, nsL h1, h2⟩⟩
    have en : Env0 P w K mg (hidT sh.heap H) callerA [] sh H := ⟨rfl, md, fun b o e => of_hidT e, Nat.le_of_eq (hidT_size _ _), trivial, fun b hb => absurd (show b ∈ ([] : List Addr) from hb) (by simp), hok, .of_eq gn⟩
    refine codeAny_mono ((F _ inB (nsL nsm)).runG callerA [] sh H ⟨[.ref ad], []⟩ [.ref ad] [.ref ad] _ _ rm rfl en (bnd sh (.ref ad)) (.cons rfl .nil) (pr H seq)) fun r sh' h => ?_
    match r, h with
    | .error e, h => exact (show False from h).elim
    | .ok .next, h => exact False.elim h
    | .ok .brk, h => exact False.elim h
    | .ok .cont, h => exact False.elim h
    | .ok (.ret u), h =>
      obtain ⟨v, H', os, bare, un, hok', rv, z⟩ := h
      have z' : v = .bl true := z
      subst z'
      have eu : u = Value.bool true := rv
      subst eu
      refine ⟨rfl, OldK.of_keep (fun b o e => ?_), os, bare⟩
      cases zb : H b with
      | none => exact un.keep b o e zb (fun z => absurd (show b ∈ ([] : List Addr) from z) (by simp)) (by simp)
      | some u =>
        rcases only b with z | ⟨ob, xs, z⟩
        · rw [zb] at z
          cases z
        · have e1 := (hok b _ z).1
          have e2 := (hok' b _ (un.frzs b ob _ z)).1
          rw [e] at e1
          cases e1
          exact e2
  cases hk : K.lookup ad with
  | some o =>
    have e := inK ad o hk
    rw [ga] at e
    cases e
    exact main (fun _ => none) (fun _ => .inl rfl) (.inr ⟨_, vs.toArray, _, hk, rfl, rfl, rfl, by rw [List.size_toArray, lnv]; exact len, by simpa using rel⟩) (fun b u z => nomatch (show (none : Option HO) = some u from z)) (fun b z => absurd rfl z) (fun z => absurd rfl z)
  | none =>
    refine main (fun b => if b = ad then some (.frz { cls := .type "list", data := .seq vs.toArray } (.lst (ns.map V.int))) else none) (fun b => ?_) (.inl (.inr ⟨{ cls := .type "list", data := .seq vs.toArray }, if_pos rfl⟩)) (fun b u z => ?_) (fun b z => ?_) (fun _ => hk)
    · by_cases eb : b = ad
      · exact .inr ⟨_, _, if_pos eb⟩
      · exact .inl (if_neg eb)
    · by_cases eb : b = ad
      · subst eb
        have z' := (if_pos rfl).symm.trans z
        cases z'
        exact ⟨ga, by rw [List.length_map]; exact len, vs, _, rel, ga⟩
      · exact (nomatch (if_neg eb).symm.trans z)
    · by_cases eb : b = ad
      · exact eb
      · exact absurd (if_neg eb) z
theorem walkG {l : PySem.W.OpenLaw} {n k : Nat} {q : Program} {loose : List Str} {XP : (Str → Option Value) → Heap → Prop} {YP : World → Heap → Prop} {d : DefRec} {K : Params → PySem.W.Frag} {sp : World → Sp} {x : Str}
    (most : l.most = some n) (nsz : n ≤ sizeLine) (nodf : d.params.defaults = []) (rm : Room k callerA) (inY : ∀ (w : World) (h : Heap), YP w h → (K w.params).In h)
    (F : ∀ (w : World) (mg : Str → Option Value) (fa : Addr) (h : Heap), (K w.params).In h → h.Ns mainGlobals mg → mg d.name = some (.ref fa) → ∃ fd : FuncData, (∀ (s : Shared) (u : Value), BindsTo s fd ⟨[u], []⟩ [(x, u)]) ∧ ∀ base : Heap, (K w.params).In base → base.Ns mainGlobals mg → FnG l.prog w (K w.params) mg base k fa fd [x] (sp w))
    (pr : ∀ (w : World) (H : Hp) (a : Addr) (ns : List Int), ns.length ≤ n → SqL (K w.params) H a (ns.map V.int) → sp w [.ref a] H (fun v _ => v = .bl true) fun _ _ _ => False) : PySem.W.WalkO q loose XP YP l.row.toRowW d [] (fun f vs => PySem.call f vs) := by
  refine Att.attach_call most nodf fun w s₀ sh mg mb fa o pm cd doc a vs ns G Y ho hd hcd hmg hobj hints hlen hg => ?_
  have inK := inY w _ Y
  obtain ⟨fd, hb, hF⟩ := F w mg fa _ inK G.T.g hmg
  exact lawG inK G.T.g G.T.b G.T.builtins G.T.nolimit hg hobj hints (Nat.le_trans hlen nsz) rm hF hb (fun H hS => pr w H a ns hlen hS)
/-! ### repr of data -/
theorem repr_data {X : Cx} (gd : X.A.guards = some []) (hu : X.A.units + 70 < cLine) : CallR X (.builtin "repr") (fun xs H Q => ∃ (a : Addr) (d : PyData), xs = [.ref a] ∧ Dp X.K H (.ref a) d ∧ d.showable = true ∧ d.hasDict = false ∧ d.depth ≤ 60 ∧ d.shown.length ≤ sizeLine ∧ Q (.str d.shown) H) := by
  intro pins s σ H xs us Q I rel h
  obtain ⟨a, d, rfl, dp, sw, nd, dd, sz, hq⟩ := h
  obtain ⟨u, hu1, ru⟩ := vals1 rel
  subst hu1
  obtain ⟨as, rd⟩ := Dp.reads I d (.ref a) u dp ru
  have eu : u = Value.ref a := ru
  subst eu
  refine repr_of_reads' rd sw (fun z => by rw [nd] at z; cases z) gd (by omega) (fun _ _ e => e) (fun h' u tk hk => ?_) sz
  exact ⟨.str d.shown, H, I.kept hk, ⟨u, rfl⟩, hq⟩
theorem show_fits (ds : List Int) (hb : ∀ z ∈ ds, Bd 1900 z) (hl : ds.length ≤ 100) : (PyData.tuple (ds.map PyData.int)).showable = true ∧ (PyData.tuple (ds.map PyData.int)).hasDict = false ∧ (PyData.tuple (ds.map PyData.int)).depth ≤ 60 ∧ (PyData.tuple (ds.map PyData.int)).shown.length ≤ sizeLine := by
  have lg : ∀ z ∈ ds, z.natAbs.log2 < 1920 := fun z hz => ((hb z hz).mono (show 1900 ≤ 1920 by decide)).log (by decide)
  have key : ∀ l : List Int, (∀ z ∈ l, z.natAbs.log2 < 1920) → PyData.showableAll (l.map PyData.int) = true ∧ PyData.hasDictAll (l.map PyData.int) = false ∧ PyData.depthAll (l.map PyData.int) = 0 ∧ ((PyData.shownAll (l.map PyData.int)).map (·.length)).sum ≤ 1921 * l.length ∧ (PyData.shownAll (l.map PyData.int)).length = l.length := by
    intro l
    induction l with
    | nil => intro _; exact ⟨rfl, rfl, rfl, by simp [PyData.shownAll], rfl⟩
    | cons z r ih =>
      intro h
      obtain ⟨i1, i2, i3, i4, i5⟩ := ih fun y hy => h y (List.mem_cons_of_mem _ hy)
      have hz := h z (List.mem_cons_self ..)
      refine ⟨?_, ?_, ?_, ?_, ?_⟩
      · simp [PyData.showableAll, PyData.showable, hz, i1]
      · simp [PyData.hasDictAll, PyData.hasDict, i2]
      · simp [PyData.depthAll, PyData.depth, i3]
      · have := PyProof.Rows.int_text_len_1921 hz
        simp only [List.map_cons, PyData.shownAll, PyData.shown, List.sum_cons, List.length_cons]
        omega
      · simp [PyData.shownAll, i5]
  obtain ⟨k1, k2, k3, k4, k5⟩ := key ds lg
  refine ⟨by simpa [PyData.showable] using k1, by simpa [PyData.hasDict] using k2, by simp [PyData.depth, k3], ?_⟩
  have := tupleText_len_le (PyData.shownAll (ds.map PyData.int))
  rw [k5] at this
  show (tupleText (PyData.shownAll (ds.map PyData.int))).length ≤ sizeLine
  rw [sizeLine_eq]
  omega
theorem dpAll_ints {K : PySem.W.Frag} {H : Hp} : ∀ ds : List Int, DpAll K H (ds.map V.int) (ds.map PyData.int)
  | [] => .nil
  | c :: r => .cons (.int c) (dpAll_ints r)
/-- repr of a tuple of ints -/
theorem rp_ints {K : PySem.W.Frag} {H : Hp} {a : Addr} {Q : VK} (ds : List Int) (e : H a = some (.tup (ds.map V.int))) (hb : ∀ z ∈ ds, Bd 1900 z) (hl : ds.length ≤ 100) (h : Q (.str (PyData.tuple (ds.map PyData.int)).shown) H) :
    ∃ (a' : Addr) (d : PyData), [V.ref a] = [.ref a'] ∧ Dp K H (.ref a') d ∧ d.showable = true ∧ d.hasDict = false ∧ d.depth ≤ 60 ∧ d.shown.length ≤ sizeLine ∧ Q (.str d.shown) H := by
  obtain ⟨f1, f2, f3, f4⟩ := show_fits ds hb hl
  exact ⟨a, _, rfl, Dp.tup (SqT.of e) (dpAll_ints ds), f1, f2, f3, f4, h⟩
end Lf
namespace Lf
open PySem PySem.Spec PyProof.Rows L2
/-! ### guards and a table of code objects together -/
theorem lawGT {P : Program} {w : World} {K : PySem.W.Frag} {mg mb : Str → Option Value} {k : Nat} {fa ad cT PT : Addr} {fd : FuncData} {x : Str} {sp : Sp} {sh : Shared} {vs : List Value} {ns : List Int}
    (inK : K.In sh.heap) (nsm : sh.heap.Ns mainGlobals mg) (nsb : sh.heap.Ns builtinsNs mb) (bb : ∀ x : Str, x ≠ "__name__" → mb x = bootBuiltins x) (nol : sh.heap.NoLimit) (gn : sh.gens = #[])
    (tP : sh.heap.get? PT = some { cls := .none, data := .fields #[] }) (nP : K.lookup PT = none) (hC : PySem.W.CodeHd sh.heap cT PT)
    (bM : ∃ (bm : Addr) (ob : Obj), mg "__builtins__" = some (.ref bm) ∧ bm ≠ builtinsNs ∧ sh.heap.get? bm = some ob ∧ ob.cls = .type "module" ∧ ob.dict = some builtinsNs ∧ ob.data = .plain)
    (ga : sh.heap.get? ad = some { cls := .type "list", data := .seq vs.toArray }) (isI : IntsAre vs ns) (len : ns.length ≤ sizeLine) (rm : Room k callerA)
    (F : ∀ base : Heap, K.In base → base.Ns mainGlobals mg → LamX.TabB base mg cT PT → FnG P w K mg base k fa fd [x] sp) (bnd : ∀ (s : Shared) (u : Value), BindsTo s fd ⟨[u], []⟩ [(x, u)])
    (pr : ∀ H : Hp, H PT = some (.tbl #[]) → SqL K H ad (ns.map V.int) → sp [.ref ad] H (fun v _ => v = .bl true) fun _ _ _ => False) :
    codeAny (model P w) callerA (.call (.ref fa) ⟨[.ref ad], []⟩) (fun r sh' => r = .ok (.ret (.bool true)) ∧ OldK sh.heap sh'.heap ∧ sh'.os = sh.os ∧ AllBare sh'.gens) sh := by
  have rel := vals_ints isI
  have lnv := isI.length
  have nab : ¬ ad = PT := fun z => by
    rw [z, tP] at ga
    cases ga
  have main : ∀ H : Hp, H PT = some (.tbl #[]) → (∀ b, H b = none ∨ b = PT ∨ ∃ o xs, H b = some (.frz o (.lst xs))) → SqL K H ad (ns.map V.int) → HOk P w H sh.heap → (∀ b, H b ≠ none → b = ad ∨ b = PT) → (H ad ≠ none → K.lookup ad = none) →
      codeAny (model P w) callerA (.call (.ref fa) ⟨[.ref ad], []⟩) (fun r sh' => r = .ok (.ret (.bool true)) ∧ OldK sh.heap sh'.heap ∧ sh'.os = sh.os ∧ AllBare sh'.gens) sh := by
    intro H hT only seq hok one nk
    have lay : ∀ {b : Addr} {o : Obj}, sh.heap.get? b = some o → H b = none → (hidT sh.heap H).get? b = some o := fun e n => hidT_get e n
    -- what is no list and no empty record is not tracked
    have off : ∀ {b : Addr} {o : Obj}, sh.heap.get? b = some o → (∀ zs m, o.data ≠ .seq zs m) → o.data ≠ .fields #[] → H b = none := fun {b o} e n1 n2 => by
      cases z : H b with
      | none => rfl
      | some u =>
        rcases one b (by rw [z]; simp) with eb | eb
        · rw [eb, ga] at e
          cases e
          exact absurd rfl (n1 _ _)
        · rw [eb, tP] at e
          cases e
          exact absurd rfl n2
    have nsL : ∀ {b : Addr} {m : Str → Option Value}, sh.heap.Ns b m → (hidT sh.heap H).Ns b m := fun {b m} ⟨o, es, ep, e, d, r⟩ =>
      ⟨o, es, ep, lay e (off e (fun zs m z => by rw [d] at z; cases z) (fun z => by rw [d] at z; cases z)), d, r⟩
    have inB : K.In (hidT sh.heap H) := fun b o e => lay (inK b o e) (by
      cases z : H b with
      | none => rfl
      | some u =>
        rcases one b (by rw [z]; simp) with eb | eb
        · subst eb
          rw [nk (by rw [z]; simp)] at e
          cases e
        · rw [eb, nP] at e
          cases e)
    have md : Mod K mg (hidT sh.heap H) := ⟨inB, nsL nsm, ⟨mb, nsL nsb, bb⟩, let ⟨mc, h1, h2⟩ := nol; ⟨mc, nsL h1, h2⟩⟩
    have gP : ¬ mainGlobals = PT := fun z => by
      obtain ⟨o, es, ep, e, d, _⟩ := nsm
      rw [z, tP] at e
      cases e
      cases d
    have tb : LamX.TabB (hidT sh.heap H) mg cT PT := by
      refine ⟨?_, ?_, gP⟩
      · obtain ⟨o, us, fi, tf, fl, tg, iF, tx, tt, e1, r1, r2, r3, rr⟩ := hC
        refine ⟨o, us, fi, tf, fl, tg, iF, tx, tt, lay e1 (off e1 (fun zs m z => by rw [r2] at z; cases z) (fun z => ?_)), r1, r2, r3, rr⟩
        rw [r2] at z
        cases z
        simp at r3
      · obtain ⟨bm, ob, b1, b2, b3, b4, b5, b6⟩ := bM
        refine ⟨bm, ob, b1, b2, fun z => ?_, fun z => ?_, lay b3 (off b3 (fun zs m z => by rw [b6] at z; cases z) (fun z => by rw [b6] at z; cases z)), b4, b5, b6⟩
        · obtain ⟨o, es, ep, e, d, _⟩ := nsm
          rw [z, e] at b3
          cases b3
          rw [d] at b6
          cases b6
        · rw [z, tP] at b3
          cases b3
          cases b6
    have en : Env0 P w K mg (hidT sh.heap H) callerA [] sh H := ⟨rfl, md, fun b o e => of_hidT e, Nat.le_of_eq (hidT_size _ _), trivial, fun b hb => absurd (show b ∈ ([] : List Addr) from hb) (by simp), hok, .of_eq gn⟩
    refine codeAny_mono ((F _ inB (nsL nsm) tb).runG callerA [] sh H ⟨[.ref ad], []⟩ [.ref ad] [.ref ad] _ _ rm rfl en (bnd sh (.ref ad)) (.cons rfl .nil) (pr H hT seq)) fun r sh' h => ?_
    match r, h with
    | .error e, h => exact (show False from h).elim
    | .ok .next, h => exact False.elim h
    | .ok .brk, h => exact False.elim h
    | .ok .cont, h => exact False.elim h
    | .ok (.ret u), h =>
      obtain ⟨v, H', os, bare, un, hok', rv, z⟩ := h
      have z' : v = .bl true := z
      subst z'
      have eu : u = Value.bool true := rv
      subst eu
      have old : ∀ b o, ¬ b = PT → sh.heap.get? b = some o → sh'.heap.get? b = some o := fun b o nb e => by
        cases zb : H b with
        | none => exact un.keep b o e zb (fun z => absurd (show b ∈ ([] : List Addr) from z) (by simp)) (by simp)
        | some u =>
          rcases only b with z | z | ⟨ob, xs, z⟩
          · rw [zb] at z
            cases z
          · exact absurd z nb
          · have e1 := (hok b _ z).1
            have e2 := (hok' b _ (un.frzs b ob _ z)).1
            rw [e] at e1
            cases e1
            exact e2
      obtain ⟨more, zm⟩ := un.tbls PT #[] hT
      have grown : sh'.heap.get? PT = some { cls := .none, data := .fields (#[] ++ more) } := hok' PT _ zm
      refine ⟨rfl, ⟨fun b o e => ?_, fun b o e => ?_⟩, os, bare⟩
      · by_cases hb : b = PT
        · rw [hb] at e ⊢
          rw [tP] at e
          cases e
          exact .inr (.inl ⟨(hC.tab tP).isCodeTable, rfl, #[], more, rfl, grown⟩)
        · exact .inl (old b o hb e)
      · by_cases hb : b = PT
        · rw [hb]
          exact ⟨_, grown⟩
        · exact ⟨o, old b o hb e⟩
  cases hk : K.lookup ad with
  | some o =>
    have e := inK ad o hk
    rw [ga] at e
    cases e
    refine main (fun b => if b = PT then some (.tbl #[]) else none) (if_pos rfl) (fun b => ?_) (.inr ⟨_, vs.toArray, _, hk, rfl, rfl, rfl, by rw [List.size_toArray, lnv]; exact len, by simpa using rel⟩) (fun b u z => ?_) (fun b z => ?_) (fun z => absurd (if_neg nab) z)
    · by_cases hb : b = PT
      · exact .inr (.inl hb)
      · exact .inl (if_neg hb)
    · by_cases hb : b = PT
      · rw [hb] at z ⊢
        have z' := (if_pos rfl).symm.trans z
        cases z'
        exact tP
      · exact (nomatch (if_neg hb).symm.trans z)
    · by_cases hb : b = PT
      · exact .inr hb
      · exact absurd (if_neg hb) z
  | none =>
    refine main (fun b => if b = ad then some (.frz { cls := .type "list", data := .seq vs.toArray } (.lst (ns.map V.int))) else if b = PT then some (.tbl #[]) else none) ((if_neg (fun z => nab z.symm)).trans (if_pos rfl)) (fun b => ?_) (.inl (.inr ⟨{ cls := .type "list", data := .seq vs.toArray }, if_pos rfl⟩)) (fun b u z => ?_) (fun b z => ?_) (fun _ => hk)
    · by_cases eb : b = ad
      · exact .inr (.inr ⟨_, _, if_pos eb⟩)
      · by_cases hb : b = PT
        · exact .inr (.inl hb)
        · exact .inl ((if_neg eb).trans (if_neg hb))
    · by_cases eb : b = ad
      · subst eb
        have z' := (if_pos rfl).symm.trans z
        cases z'
        exact ⟨ga, by rw [List.length_map]; exact len, vs, _, rel, ga⟩
      · have z1 := (if_neg eb).symm.trans z
        by_cases hb : b = PT
        · rw [hb] at z1 ⊢
          have z' := (if_pos rfl).symm.trans z1
          cases z'
          exact tP
        · exact (nomatch (if_neg hb).symm.trans z1)
    · by_cases eb : b = ad
      · exact .inl eb
      · by_cases hb : b = PT
        · exact .inr hb
        · exact absurd ((if_neg eb).trans (if_neg hb)) z
/-- what the head tells of the law, of the table PT of the code object cT -/
structure LawGT (l : PySem.W.OpenLaw) (w : World) (K : PySem.W.Frag) (k : Nat) (x : Str) (mg : Str → Option Value) (fa : Addr) (h : Heap) : Prop where
  ex : ∃ (fd : FuncData) (cT PT : Addr) (sp : Sp), h.get? PT = some { cls := .none, data := .fields #[] } ∧ K.lookup PT = none ∧ PySem.W.CodeHd h cT PT ∧ (∀ (s : Shared) (u : Value), BindsTo s fd ⟨[u], []⟩ [(x, u)]) ∧
    (∀ (H : Hp) (a : Addr) (ns : List Int), ns.length ≤ 63 → H PT = some (.tbl #[]) → SqL K H a (ns.map V.int) → sp [.ref a] H (fun v _ => v = .bl true) fun _ _ _ => False) ∧
    ∀ base : Heap, K.In base → base.Ns mainGlobals mg → LamX.TabB base mg cT PT → FnG l.prog w K mg base k fa fd [x] sp
theorem walkGT {l : PySem.W.OpenLaw} {k : Nat} {q : Program} {loose : List Str} {XP : (Str → Option Value) → Heap → Prop} {YP : World → Heap → Prop} {d : DefRec} {K : Params → PySem.W.Frag} {x : Str}
    (most : l.most = some 63) (nodf : d.params.defaults = []) (rm : Room k callerA) (inY : ∀ (w : World) (h : Heap), YP w h → (K w.params).In h)
    (F : ∀ (w : World) (mg : Str → Option Value) (fa : Addr) (h : Heap), YP w h → (K w.params).In h → h.Ns mainGlobals mg → mg d.name = some (.ref fa) → LawGT l w (K w.params) k x mg fa h) : PySem.W.WalkO q loose XP YP l.row.toRowW d [] (fun f vs => PySem.call f vs) := by
  refine Att.attach_call most nodf fun w s₀ sh mg mb fa o pm cd doc a vs ns G Y ho hd hcd hmg hobj hints hlen hg => ?_
  have inK := inY w _ Y
  obtain ⟨fd, cT, PT, sp, tP, nP, hC, hb, hp, hF⟩ := (F w mg fa _ Y inK G.T.g hmg).ex
  exact lawGT inK G.T.g G.T.b G.T.builtins G.T.nolimit hg tP nP hC G.T.bmain hobj hints (Nat.le_trans hlen (by decide)) rm hF hb (fun H hH hS => hp H a ns hlen hH hS)
/-! ### a def by its row, called where no repr is under way -/
theorem fnG_lk {P : Program} {w : World} {K : PySem.W.Frag} {mg : Str → Option Value} {base : Heap} {x : Str} {st : Stmt} {f : Addr} {N ps : List Str} {k : Nat} {sp : Sp} {oc kV doc pm cdv ct : Value} {od an : Option Addr} {osl : Array (Option Value)}
    (lkp : K.lookup f = some ⟨oc, od, .func (PySem.W.fnOf x x (defArgs st) (defBody st) (defScope st) .none kV doc pm an cdv ct), osl⟩) (cin : PySem.W.codeIn K cdv x = true) (S : FnScope N ps (defScope st)) (ln : ∀ vs H Q E, sp vs H Q E → vs.length = ps.length)
    (bd : ∀ (A : Around) (out : List Env) (sh : Shared) (H : Hp) (vs : List V) (Q : VK) (E : XK), Room k (A.deeper (envOfC x (defScope st) sh.heap.objs.size f cdv)) → A.guards = some [] → sp vs H Q E →
      ∃ t, PSs (cxOf CX0 P w K mg base N x (defScope st) f cdv A out sh H E).nox (defBody st) t ∧ t { nx := fun _ H' => Q .non H', rt := Q } (start N vs) H) : FnG P w K mg base (k + 1) f (PySem.W.fnOf x x (defArgs st) (defBody st) (defScope st) .none kV doc pm an cdv ct) ps sp := by
  refine ⟨ln, fun A out sh H ar us vs Q E rm gd en bnd rel pr => ?_⟩
  have lv := ln _ _ _ _ pr
  have kIn : K.In sh.heap := en.mod.kin.keeps fun b o e => (en.bs b o e).1
  have nol : sh.heap.NoLimit := en.mod.nolimit.keeps fun b o e => (en.bs b o e).1
  have knd : ∀ y ∈ ps.zip us, (defScope st).names.lookup y.1 = some .local ∨ ((defScope st).names.lookup y.1 = some .cell ∧ ((cellsFrom (sh.heap.objs.size + 1) (defScope st).names []).lookup y.1).isSome = true) := fun ⟨n, v⟩ hy => by
    rcases S.par n (List.of_mem_zip hy).1 with z | z
    · exact .inl z
    · exact .inr ⟨z, PySem.W.cellsFrom_some _ _ _ (.inl z)⟩
  refine codeAny_call_function rm.depth (kIn _ _ lkp) rfl S.co S.gen rfl (PySem.W.codeRec_of kIn cin) (bnd _ _ _ _ ?_)
  refine wpAny_newFunctionEnv_cells S.kind knd fun env he sh1 x1 => ?_
  subst he
  refine ⟨nol.keeps x1.toInCall.keep, codeAny_func ?_⟩
  obtain ⟨t, ht, hq⟩ := bd A out sh H vs Q E (rm.deeper _) gd pr
  have inv := inv_start (CX := CX0) (P := P) (w := w) (K := K) (mg := mg) (base := base) (E := E) (f := f) (cd := cdv) (qual := x) S rm.hd en lv rel x1
  refine wpAny_mono (ht.nox.run [] sh1 (start N vs) H _ inv hq) (fun fl sh' hs => ?_) fun e sh' hs => hs
  cases fl with
  | ret u =>
    obtain ⟨v, σ', H', J, rv, z⟩ := hs
    exact ⟨v, H', J.os, J.bare, J.base, J.hok, rv, z⟩
  | next =>
    obtain ⟨σ', H', J, z⟩ := hs
    exact ⟨V.non, H', J.os, J.bare, J.base, J.hok, rfl, z⟩
  | brk =>
    obtain ⟨_, _, _, z⟩ := hs
    exact False.elim z
  | cont =>
    obtain ⟨_, _, _, z⟩ := hs
    exact False.elim z
section
variable {X : Cx} {x : Str} {sp : Sp} {W : WX} {j k i : Nat} {f : Addr} {fd : FuncData} {ps : List Str} {e : Expr} {es : List Expr} {t : TA} {p po : Pos}
/-- such a def, called by its name -/
theorem pe_g (F : FnG X.prog X.w X.K X.mg X.base k f fd ps sp) (gd : X.A.guards = some []) (hr : Room j X.A) (hk : k ≤ j) (hg : Gl X x) (hm : X.mg x = some (.ref f)) (kp : PySem.W.keepIn X.K (.ref f) = true) (hb : Binds X.K fd ps []) (ha : L2.PA X (e :: es) t)
    (hdb : (x == ("__debug__" : Str)) = false := by decide) (he : starEach (e :: es) X.env = (false, eval e X.env) :: starEach es X.env := by rfl) (hpl : (backTo po (starEach es X.env)).any (·.1) = false := by rfl) :
    PE X (.Call (.Name x p) (e :: es) [] po) (fun σ H Q => t σ H fun vs H1 => sp vs H1 Q (fun _ _ _ => False)) := by
  refine ⟨fun pins s σ H Q I h => wpAny_Call_Name_kw (ld_glob I hg hm ?_ hdb)⟩
  refine PySem.W.callWith_K (h₀ := X.base) I.ok.mod.kin kp (thn (ha.run po pins s σ H _ I h) fun us s1 ⟨vs, H1, I1, rv, q⟩ => ⟨I1.kIn, ?_⟩) he hpl
  have hl : us.length = ps.length := by rw [← rv.length]; exact F.lenG _ _ _ _ q
  have b := hb s1 us I1.kIn (by rw [List.append_nil]; exact hl)
  rw [List.append_nil] at b
  refine wpAny_call (codeAny_mono (F.runG X.A X.stack s1 H1 ⟨us, []⟩ us vs Q _ (hr.mono hk) gd I1.env0 b rv q) fun r s' hq => ?_)
  cases r with
  | error e => exact (show False from hq).elim
  | ok fl =>
    cases fl with
    | ret u => exact I1.after hq
    | next => exact False.elim hq
    | brk => exact False.elim hq
    | cont => exact False.elim hq
/-- a name that holds one of some defs that raise -/
theorem pe_vx (S : Addr → Prop) (hS : ∀ f, S f → ∃ fd ps, FnOk X.prog X.w X.K X.mg X.base (L2.CX X.prog X.w) k f fd ps sp ∧ PySem.W.keepIn X.K (.ref f) = true ∧ Binds X.K fd ps []) (hr : Room j X.A) (hk : k ≤ j) (tk : Takes X W) (hN : X.N[i]? = some x) (hv : Vis X.env.scope x) (ha : L2.PA X (e :: es) t)
    (hd : (x == ("__debug__" : Str)) = false := by decide) (hcd : (x == ("__classdict__" : Str)) = false := by decide) (he : starEach (e :: es) X.env = (false, eval e X.env) :: starEach es X.env := by rfl) (hpl : (backTo po (starEach es X.env)).any (·.1) = false := by rfl) :
    PE X (.Call (.Name x p) (e :: es) [] po) (fun σ H Q => ∃ f, σ[i]? = some (some (.ref f)) ∧ S f ∧ t σ H fun vs H1 => sp vs H1 Q (WE W σ)) := by
  refine ⟨fun pins s σ H Q I h => ?_⟩
  obtain ⟨f, hs, hf, h⟩ := h
  obtain ⟨fd, ps, F, kp, b⟩ := hS f hf
  refine wpAny_Call_Name_kw (thn ((pe_var (pos := p) (i := i) hN hv hd hcd).run pins s σ H (fun v H1 => v = .ref f ∧ H1 = H) I ⟨.ref f, hs, rfl, rfl⟩) fun u s1 ⟨v, H1, I1, r1, q1, q2⟩ => ?_)
  subst q1
  rw [q2] at I1
  cases r1
  refine PySem.W.callWith_K (h₀ := X.base) I1.ok.mod.kin kp (thn (ha.run po pins s1 σ H _ I1 h) fun us s2 ⟨vs, H2, I2, rv, q⟩ => ⟨I2.kIn, ?_⟩) he hpl
  exact run_fnS F (hr.mono hk) b (passAt tk σ) I2 rv q
end
end Lf
namespace Lf
open PySem PySem.Spec PyProof.Rows L2
/-! ### an own exception class over ValueError whose __init__ says super().__init__(text), self.x = x -/
/-- the context of such an __init__ at its entry -/
def cxSup (P : Program) (w : World) (K : PySem.W.Frag) (mg : Str → Option Value) (base : Heap) (N : List Str) (env : Env) (A : Around) (outer : List Env) (s : Shared) (H : Hp) : Cx where
  prog := P
  w := w
  K := K
  mg := mg
  base := base
  A := A.deeper env
  N := N
  s_0 := s
  H_0 := H
  env := env
  outer := outer
  stack := env :: outer
  ex := []
  calm := true
  fn := fun _ => false
  pn := []
  xe := fun _ _ => False
/-- what it promises -/
def spIni (C : Addr) (x : Str) : Sp := fun vs H Q _ => ∃ (a : Addr) (v : V), vs = [.ref a, v] ∧ H a = some (exo a C none) ∧
  ∀ dx, H dx = none → dx ≠ a → Q .non (upd (upd H dx (exd dx [(x, v)])) a (exo a C (some dx)))
/-- its text -/
structure IniT (x : Str) (params : Arguments) (body : List Stmt) (scope : Scope) : Prop where
  pa : ∃ ar, (params.posonlyargs ++ params.args).head? = some ar ∧ ar.arg = "self"
  bd : ∃ txt p0 p1 p2 p3 p4 p5 p6 p7 p8 p9 j, body = [.Expr (.Call (.Attribute (.Call (.Name "super" p0) [] [] p1) "__init__" p2) [.Constant (.str txt) j p3] [] p4) p5, .Assign [.Attribute (.Name "self" p6) x p7] (.Name x p8) p9] ∧
    ∃ pl : Env → Sem Bool, ∀ env : Env, eval (.Call (.Attribute (.Call (.Name "super" p0) [] [] p1) "__init__" p2) [.Constant (.str txt) j p3] [] p4) env = (do
      let ov ← attributeBase (.Call (.Name "super" p0) [] [] p1) "__init__" env (eval (.Call (.Name "super" p0) [] [] p1) env)
      standAt p2.atName
      let (f, first) ← holding [ov] (getMethod ov "__init__" (pl env))
      callWith p4 f first (backTo p4 (starEach [.Constant (.str txt) j p3] env)) [])
  ls : scope.names.lookup ("self" : Str) = some .local
  lx : scope.names.lookup x = some .local
  lc : scope.names.lookup ("__class__" : Str) = some .free
  lu : scope.names.lookup ("super" : Str) = some .globalImplicit
  nc : ∀ y ∈ scope.names, y.2 ≠ .cell
  nf : ∀ y ∈ scope.names, y.2 = .free → y.1 = "__class__"
  co : scope.isCoroutine = false
  ge : scope.isGenerator = false
  kd : scope.kind = .function
  ne : x ≠ "self"
  dx : (x == ("__debug__" : Str)) = false
  dc : (x == ("__classdict__" : Str)) = false
/-- what the written part tells of it -/
structure SupC (P : Program) (K : PySem.W.Frag) (C cda cc : Addr) (x : Str) : Prop where
  cls : OexC K C
  code : ∃ ccl cdd vs ccs file tf, K.lookup cda = some ⟨ccl, cdd, .fields vs, ccs⟩ ∧ vs[2]? = some (.str file tf) ∧ ((P.main.file : Str) == file) = true
  cell : ∃ cl cld csl, K.lookup cc = some ⟨cl, cld, .cell (some (.ref C)), csl⟩
  sub : PySem.W.mroIn K C (.ref C) = some true
  st : PySem.W.nsIn K cStatics "thirdparty.any" = some none
  sup : PySem.W.ks_superIn K C C "__init__" = some (some (.builtin "ValueError.__init__"))
  ve : PySem.W.subIn K (.ref C) (.type "ValueError") = some true
  no : PySem.W.findIn K (.ref C) x = some none
  top : (P.main.scope.names.lookup ("super" : Str)).isSome = false
theorem bt_super : bootBuiltins ("super" : Str) = Option.some (Value.type "super") := by decide +kernel
section
variable {P : Program} {w : World} {K : PySem.W.Frag} {mg : Str → Option Value} {base : Heap}
theorem fn_sup {CX : CXT} {C f cda cc : Addr} {name qual x : Str} {params : Arguments} {body : List Stmt} {scope : Scope} {dV kV doc pm ct oc : Value} {an od : Option Addr} {osl : Array (Option Value)}
    (lk : K.lookup f = some ⟨oc, od, .func (PySem.W.ksFn name qual params body scope dV kV doc pm an (.ref cda) ct cc), osl⟩) (hcd : PySem.W.codeIn K (.ref cda) qual = true) (T : IniT x params body scope) (S : SupC P K C cda cc x) (ms : mg "super" = none) :
    FnOk P w K mg base CX 1 f (PySem.W.ksFn name qual params body scope dV kV doc pm an (.ref cda) ct cc) ["self", x] (spIni C x) := by
  refine ⟨fun vs H Q E h => ?_, fun A outer s H args us vs Q E hr e0 hb r hsp => ?_⟩
  · obtain ⟨a, v, rfl, _⟩ := h
    rfl
  obtain ⟨a, v, rfl, ea, q⟩ := hsp
  obtain ⟨u, rfl, ru⟩ : ∃ u, us = [.ref a, u] ∧ RelV v u := by
    cases r with
    | cons ra r =>
      cases r with
      | cons rv r =>
        cases r
        cases ra
        exact ⟨_, rfl, rv⟩
  have KX : K.In s.heap := e0.mod.kin.keeps fun b o e => (e0.bs b o e).1
  have lim : s.heap.NoLimit := e0.mod.nolimit.keeps fun b o e => (e0.bs b o e).1
  refine ks_codeAny_call_defAt (fd := PySem.W.ksFn name qual params body scope dV kV doc pm an (.ref cda) ct cc) (body := body) hr.depth (KX _ _ lk) rfl lim (PySem.W.codeRec_of KX hcd) rfl hb T.nc (fun y hy => ?_) (fun h₀ hns hk => ?_) T.co T.ge T.kd
  · have : y = (("self" : Str), Value.ref a) ∨ y = (x, u) := by simpa using hy
    rcases this with rfl | rfl
    · exact T.ls
    · exact T.lx
  obtain ⟨txt, p0, p1, p2, p3, p4, p5, p6, p7, p8, p9, j, rfl, pl, hpl⟩ := T.bd
  obtain ⟨ar, har, ear⟩ := T.pa
  obtain ⟨cl, cld, csl, hcell⟩ := S.cell
  obtain ⟨ccl, cdd, fvs, ccs, file, tf, hcode, hvs, hfile⟩ := S.code
  show _root_.PySem.wpAt _ (A.deeper (PySem.W.ksEnv qual scope s.heap.objs.size f (.ref cda) cc)) (.func _ (PySem.W.ksEnv qual scope s.heap.objs.size f (.ref cda) cc)) (execs _ (PySem.W.ksEnv qual scope s.heap.objs.size f (.ref cda) cc)) _ _ _
  generalize hX : cxSup P w K mg base ["self", x] (PySem.W.ksEnv qual scope s.heap.objs.size f (.ref cda) cc) A outer s H = X
  have bcell : base.get? cc = some ⟨cl, cld, .cell (some (.ref C)), csl⟩ := e0.mod.kin _ _ hcell
  have luc : ∀ y c, List.lookup y [(("__class__" : Str), cc)] = some c → y = "__class__" ∧ c = cc := fun y c h => by
    rw [List.lookup_cons] at h
    by_cases hy : (y == ("__class__" : Str)) = true
    · rw [hy] at h
      exact ⟨by simpa using hy, (Option.some.inj h).symm⟩
    · rw [Bool.not_eq_true] at hy
      rw [hy] at h
      cases h
  have noA : ∀ b : Addr, b ∉ ([] : List Addr) := fun b z => nomatch z
  have I : Inv X [] [some (.ref a), some v] H { s with heap := h₀, toks := s.toks + [(("self" : Str), Value.ref a), (x, u)].length } := by
    subst hX
    refine ⟨⟨e0.mod, T.kd, rfl, rfl, Nat.le_refl _, fun y z c h1 h2 => ?_, fun y hy => ?_, fun y c z _ => (nomatch z), fun _ => hr.hd, Around.frames_deeper e0.frames, .inr ⟨rfl, rfl⟩, fun b z => absurd z (noA b), e0.bs, e0.bsz, fun b _ _ => noA b, fun b z => absurd z (noA b), e0.funs, e0.frf⟩,
      rfl, e0.bare, Un.kept hk, ⟨_, hns, fun i y v' h1 h2 h3 => ?_⟩, fun y c h => ?_, e0.hok.fresh (Nat.le_refl _), fun y c h => ?_, fun p hp => absurd (show p ∈ ([] : List (Addr × Obj)) from hp) (by simp), e0.hok.kept hk, rfl⟩
    · rw [(luc y c h1).1, (luc z c h2).1]
    · have hy : scope.names.lookup y = some .cell ∨ scope.names.lookup y = some .free := hy
      rcases hy with hy | hy
      · exact absurd rfl (T.nc _ (PySem.mem_of_lookup hy))
      · have := T.nf _ (PySem.mem_of_lookup hy) rfl
        dsimp only at this
        subst this
        exact ⟨cc, rfl⟩
    · match i, h1, h2 with
      | 0, h1, h2 =>
        cases h1
        cases h2
        refine ⟨.ref a, rfl, .inl ⟨T.ls, ?_⟩⟩
        show List.lookup _ [(x, u), ("self", .ref a)] = _
        rw [List.lookup_cons, show (("self" : Str) == x) = false by simpa using fun z => T.ne z.symm]
        rfl
      | 1, h1, h2 =>
        cases h1
        cases h2
        refine ⟨u, ru, .inl ⟨T.lx, ?_⟩⟩
        show List.lookup _ [(x, u), ("self", .ref a)] = _
        rw [List.lookup_cons, beq_self_eq_true]
    · obtain ⟨_, rfl⟩ := luc y c h
      exact ⟨_, _, hk _ _ ((e0.bs _ _ bcell).1), rfl⟩
    · obtain ⟨_, rfl⟩ := luc y c h
      exact (e0.bs _ _ bcell).2
  have eE : X.env = PySem.W.ksEnv qual scope s.heap.objs.size f (.ref cda) cc := by subst hX; rfl
  have eA : X.A = A.deeper (PySem.W.ksEnv qual scope s.heap.objs.size f (.ref cda) cc) := by subst hX; rfl
  have eP : X.prog = P ∧ X.w = w ∧ X.K = K ∧ X.mg = mg ∧ X.base = base ∧ X.N = [("self" : Str), x] ∧ X.stack = PySem.W.ksEnv qual scope s.heap.objs.size f (.ref cda) cc :: outer ∧ X.s_0 = s ∧ X.H_0 = H ∧ X.outer = outer ∧ X.ex = [] := by subst hX; exact ⟨rfl, rfl, rfl, rfl, rfl, rfl, rfl, rfl, rfl, rfl, rfl⟩
  have Z : ∀ s', (∃ σ' H', Inv X [] σ' H' s' ∧ Q .non H') → CR CX outer P w H s Q E (.ok (.ret .none)) s' := fun s' ⟨σ', H', J, q'⟩ => by
    subst hX
    exact ⟨.non, H', J.os, J.bare, J.base, J.hok, rfl, q'⟩
  have hxe : ∀ e s', X.xe e s' → False := by subst hX; exact fun _ _ z => z
  have hprog : X.prog = P := by subst hX; rfl
  have hw : X.w = w := by subst hX; rfl
  have hK : X.K = K := by subst hX; rfl
  have hmg : X.mg = mg := by subst hX; rfl
  have hN : X.N = [("self" : Str), x] := by subst hX; rfl
  subst hprog hw hK hmg
  rw [← eA, ← eE]
  obtain ⟨nm, qn, N, bs, bm, sn, sub, ab, col, dd, k0, k1, k2, k3, k5, hC, hbm⟩ := S.cls.cls
  obtain ⟨t1, ho⟩ := exo_at I.hok ea
  obtain ⟨cdD, hcl⟩ : ∃ cdD, PySem.W.clsIn X.K C = some cdD := ⟨_, by unfold PySem.W.clsIn; rw [hC] <;> rfl⟩
  have hne : ¬ (("__init__" : Str) == ("__class__" : Str)) = true := by decide
  have hbase : ∀ s', Inv X [] [some (.ref a), some v] H s' → (∃ m, s'.heap.Ns X.env.locals m ∧ m "self" = some (.ref a)) := fun s' J => by
    obtain ⟨m, hn, hl⟩ := J.loc
    obtain ⟨u', ru', lk'⟩ := hl 0 "self" (.ref a) (by rw [hN]; rfl) rfl (by rw [eE]; exact .inl T.ls)
    cases ru'
    rcases lk' with ⟨_, e⟩ | ⟨z, _⟩
    · exact ⟨m, hn, e⟩
    · rw [eE] at z
      have z : scope.names.lookup ("self" : Str) = some .cell ∨ scope.names.lookup ("self" : Str) = some .free := z
      rw [T.ls] at z
      rcases z with z | z <;> cases z
  obtain ⟨m, hn, hself⟩ := hbase _ I
  obtain ⟨mb, hb1, hb2⟩ := I.mod.blt
  have hfr : ∀ {s'} , Inv X [] [some (.ref a), some v] H s' → ∃ o, s'.heap.get? a = some o ∧ o.cls = .ref C ∧ ∀ c, o.data ≠ .cls c := fun {s'} J => by
    obtain ⟨t1, h1⟩ := exo_at J.hok ea
    exact ⟨_, h1, rfl, fun c z => by cases z⟩
  obtain ⟨oD, hD1, hD2⟩ : ∃ oD, h₀.get? C = some oD ∧ oD.data = .cls cdD := by
    unfold PySem.W.clsIn at hcl
    split at hcl
    · rename_i c d cd' sl hoo
      cases hcl
      exact ⟨_, I.kIn _ _ hoo, rfl⟩
    · cases hcl
  refine ks_wpAt_execs_cons (ks_wpAt_Expr_any (ks_wpAt_MethodCall (pl := pl X.env) ?_ (hpl X.env)) ?hi ?hs)
  case hi => exact I.quiet
  case hs => rfl
  refine ks_wpAt_super_base (env := X.env) (attr := "__init__") (f := f) (cc := cda) (fd := PySem.W.ksFn name qual params _ scope dV kV doc pm an (.ref cda) ct cc) (ar := ar) (by rw [eE]; exact T.lu) (by rw [eE]; exact T.lc) (by decide) (by rw [eE]) (I.kIn _ _ lk) rfl har (by rw [eE]) (I.kIn _ _ hcode) rfl hvs hfile S.top ?_
  refine PySem.W.ks_loadName_global I.ok.kind (by rw [eE]; exact T.lu) (Calls.loadGlobal_builtin (by rw [I.ok.glob]; exact I.mod.glob.keeps I.bk) ms (by rw [I.ok.blt]; exact hb1.keeps I.bk) ((hb2 _ (by decide)).trans bt_super) ⟨rfl, ?_⟩)
  refine wpAny_loadName_free I.ok.kind (by rw [eE]; exact T.lc) (by rw [eE]; rfl) ⟨_, I.kIn _ _ hcell, rfl⟩ ?_
  rw [ear]
  refine wpAny_loadName_local I.ok.kind (by rw [eE]; exact T.ls) hn hself ?_
  refine ks_wpAny_isType_cls hD1 hD2 ⟨rfl, ?_⟩
  refine ks_wpAny_call_super hD1 hD2 ho rfl (fun c z => by cases z) (PySem.W.looks_mroIn I.kIn S.sub) (fun h1 e1 kk1 => ?_)
  have I1 := I.kept (t' := s.toks + [(("self" : Str), Value.ref a), (x, u)].length) kk1
  have hm : PySem.W.alongIn X.K "__init__" ((cdD.mro.dropWhile (· != .ref C)).drop 1) = some (some (.builtin "ValueError.__init__")) := by
    have z := S.sup
    unfold PySem.W.ks_superIn at z
    rw [hcl, Option.bind_some] at z
    exact z
  obtain ⟨t2, ho1⟩ := exo_at I1.hok ea
  have IA : PySem.W.InstAt h1 a { cls := .ref C, dict := none, data := .fields #[.ref t2, .none, .none, .none, .bool false, .none] } C none := ⟨ho1, rfl, rfl, trivial⟩
  refine PySem.W.kxs_getMethod PySem.W.kxs_ValueError e1 (PySem.W.looks_opaque I1.kIn S.st) (l₀ := cdD.mro) (fun A Q E s k q => wpAny_bind ((PySem.W.looks_clsIn I1.kIn hcl) A _ E s k (wpAny_pure q))) rfl I1.kIn hm (IA.type.andThen (PySem.W.looks_subIn I1.kIn S.ve)) (PySem.W.ks_ne I1.kIn IA hcl) (by decide) ?_
  have I2 := I1.kept (h' := h1.push (PySem.W.kxs_mw "ValueError.__init__" a)) (t' := s.toks + [(("self" : Str), Value.ref a), (x, u)].length + 1) (fun b o e => Heap.get?_push_of_some _ e)
  have hmw : (h1.push (PySem.W.kxs_mw "ValueError.__init__" a)).get? h1.objs.size = some (PySem.W.kxs_mw "ValueError.__init__" a) := Heap.get?_push_at rfl rfl
  have I3 : Inv X [(h1.objs.size, PySem.W.kxs_mw "ValueError.__init__" a)] [some (.ref a), some v] H _ := I2.pins_of (fun p hp => by
    have hp : p = (h1.objs.size, PySem.W.kxs_mw "ValueError.__init__" a) := by simpa using hp
    subst hp
    exact ⟨hmw, I1.hok.fresh (Nat.le_refl _), fun z => absurd I1.lt (by rw [← z]; exact Nat.lt_irrefl _), I1.nofs (Nat.le_refl _), fun v z => by cases z⟩)
  have hst : starEach [Expr.Constant (Const.str txt) j p3] X.env = (false, eval (Expr.Constant (Const.str txt) j p3) X.env) :: starEach [] X.env := rfl
  refine PySem.W.kxs_callWith (i := "ValueError.__init__") (x := a) (by rfl) ?_
  show wpAny _ _ (evalArgs _ true ((false, eval (Expr.Constant (Const.str txt) j p3) X.env) :: _) []) _ _ _
  refine Calls.evalArgs_plain ?_
  have hpa : L2.PA X [Expr.Constant (Const.str txt) j p3] (tCons (tC (.str txt)) tNil) := pa_cons pe_str pa_nil
  refine thn (hpa.run p4 _ _ _ H (fun vs H' => H' = H ∧ vs = [.str txt]) I3 ⟨rfl, rfl⟩) fun us s4 ⟨vs, H4, I4, r4, eH, ev⟩ => ?_
  subst eH ev
  have hu4 := (I4.pin (h1.objs.size, PySem.W.kxs_mw "ValueError.__init__" a) (by simp)).1
  refine ⟨hu4, ?_⟩
  obtain ⟨t3, ho4⟩ := exo_at I4.hok ea
  have hlen : us.length ≤ sizeLine := by
    rw [← r4.length]
    rw [sizeLine_eq]; exact (by show 1 ≤ _; omega)
  obtain ⟨h4, g4, d4, t4, os4⟩ := s4
  refine wpAny_call (codeAny_of_tree ?_)
  show wpAny _ _ (callAny (.ref h1.objs.size) ⟨us, []⟩) _ _ _
  simp only [callAny]
  refine wpAny_bind (wpAny_load hu4 ?_)
  simp only [PySem.W.kxs_mw, show (Value.type "method-wrapper" == Value.type "method" || Value.type "method-wrapper" == Value.type "builtin_function_or_method" || Value.type "method-wrapper" == Value.type "method-wrapper") = true by decide, if_true]
  refine PySem.W.KFB.if_so (by decide) ?_
  refine wpAny_bind (PySem.W.check_bound_init F.excBase_ValueError.toExcCallFacts (I4.kIn _ _ hC) ho4 rfl ?_)
  refine wpAny_bind (wpAny_pure (wpAny_pure ?_))
  refine ⟨plainId_quiet F.excBase_ValueError.init.plain _, codeAny_builtin F.excBase_ValueError.initEntry ?_⟩
  refine PySem.W.exc_init_tree (cls := .ref C) (t0 := t3) (dv := none) (c2 := .none) (c3 := .none) (b4 := .bool false) ho4 hlen (fun h5 k5 e5 _ => ?_)
  have J5 := I4.write (t' := t4) (x := a) (e := a) (o := exo a C none) (by rw [ea]; exact True.intro) (.inl rfl) k5 ⟨_, e5⟩ (exo_ok e5)
  have eu : upd H4 a (exo a C none) = H4 := by
    funext b
    by_cases hb : b = a
    · rw [hb, upd_same, ea]
    · rw [upd_ne hb]
  rw [eu] at J5
  have J6 : Inv X [] [some (.ref a), some v] H4 _ := J5.pins_of (fun p hp => nomatch hp)
  have hps : PSs X [Stmt.Assign [(Expr.Name "self" p6).Attribute x p7] (Expr.Name x p8) p9] (tOst X.K x (tVar 0) (tVar 1)) :=
    pss_one (ps_ost (pe_var (by rw [hN]; rfl) (by rw [eE]; exact .inl T.ls) (by decide) (by decide)) (pe_var (by rw [hN]; rfl) (by rw [eE]; exact .inl T.lx) T.dx T.dc))
  show _root_.PySem.wpAt _ _ _ _ _ _ _
  refine wpAt_of_wpAny (wpAny_mono (hps.run [] _ _ H4 { nx := fun _ H' => Q .non H', rt := fun _ _ => False } J6 ?_) (fun fl s' hs => ?_) fun e s' hs => ?_)
  · exact ⟨_, rfl, _, rfl, a, C, rfl, S.cls, S.no, .inl ⟨ea, fun dx n ne => q dx n ne⟩⟩
  · cases fl with
    | ret u =>
      obtain ⟨v, σ', H', J, rv, q⟩ := hs
      exact False.elim q
    | next =>
      obtain ⟨σ', H', J, q⟩ := hs
      exact Z s' ⟨σ', H', J, q⟩
    | brk =>
      obtain ⟨_, _, _, q⟩ := hs
      exact False.elim q
    | cont =>
      obtain ⟨_, _, _, q⟩ := hs
      exact False.elim q
  · exact (hxe _ _ hs).elim
end

section
variable {P : Program} {w : World} {K : PySem.W.Frag} {mg : Str → Option Value} {base : Heap}
/-- what the top tells of such a class: at C, its __init__ at fI, its name nm, its field x -/
structure ValC (P : Program) (K : PySem.W.Frag) (mg : Str → Option Value) (C : Addr) (nm x : Str) : Prop where
  gC : mg nm = some (.ref C)
  ini : ∃ (fI cda cc : Addr) (qual : Str) (params : Arguments) (body : List Stmt) (scope : Scope) (kV doc pm ct oc : Value) (an od : Option Addr) (osl : Array (Option Value)),
    K.lookup fI = some ⟨oc, od, .func (PySem.W.ksFn "__init__" qual params body scope .none kV doc pm an (.ref cda) ct cc), osl⟩ ∧ PySem.W.codeIn K (.ref cda) qual = true ∧ IniT x params body scope ∧ SupC P K C cda cc x ∧
    PySem.W.findIn K (.ref C) "__init__" = some (some (.ref fI)) ∧ PySem.W.typeIn K (.ref fI) = some (.type "function") ∧ Binds K (PySem.W.ksFn "__init__" qual params body scope .none kV doc pm an (.ref cda) ct cc) ["self", x] []
  ms : mg "super" = none
  ex : ExcC K C
  sf : PySem.W.subIn K (.ref C) (.ref C) = some true
theorem ValC.oex {C : Addr} {nm x : Str} (T : ValC P K mg C nm x) : OexC K C := by
  obtain ⟨fI, cda, cc, qual, params, body, scope, kV, doc, pm, ct, oc, an, od, osl, _, _, _, S, _⟩ := T.ini
  exact S.cls
theorem ValC.raises {X : Cx} {C : Addr} {nm x : Str} (T : ValC P X.K X.mg C nm x) : Raises X (.ref C) := raises_own T.oex.exC T.oex.tyC
theorem ValC.meets {C : Addr} {nm x : Str} (T : ValC P K mg C nm x) : PySem.W.exmOne K (.ref C) (.ref C) = some true := PySem.W.exm_ref T.ex.hs T.ex.hd T.oex.tyC T.sf
theorem ValC.no {C : Addr} {nm x : Str} (T : ValC P K mg C nm x) : PySem.W.findIn K (.ref C) x = some none := by
  obtain ⟨fI, cda, cc, qual, params, body, scope, kV, doc, pm, ct, oc, an, od, osl, _, _, _, S, _⟩ := T.ini
  exact S.no
theorem ValC.xf {C : Addr} {nm x : Str} (T : ValC P K mg C nm x) : XfC K C := ⟨T.ex.hg, T.ex.hk, T.ex.hs, T.ex.hd⟩
theorem back_to {H1 : Hp} {a d C : Addr} {fs : List (Str × V)} (ha : H1 a = none) (hd : d ≠ a) :
    upd (del (upd (upd (upd H1 a (exo a C none)) d (exd d fs)) a (exo a C (some d))) a) d (.xd fs) = upd H1 d (.xd fs) := by
  funext b
  by_cases h1 : b = d
  · subst h1
    rw [upd_same, upd_same]
  · rw [upd_ne h1, upd_ne h1]
    by_cases h2 : b = a
    · subst h2
      rw [del_same, ha]
    · rw [del_ne h2, upd_ne h2, upd_ne h1, upd_ne h2]
/-- nm(e): the exception, its value -/
theorem pmk_val {X : Cx} {C : Addr} {nm x : Str} {e : Expr} {te : TE} {p pos : Pos} {j : Nat} (T : ValC X.prog X.K X.mg C nm x) (hr : Room j X.A) (hj : 2 ≤ j) (hg : Gl X nm) (he : PE X e te)
    (hdb : (nm == ("__debug__" : Str)) = false := by decide) (hs : starEach [e] X.env = (false, eval e X.env) :: starEach [] X.env := by rfl) :
    PMk X (.Call (.Name nm p) [e] [] pos) (tMkO C (spIni C x) [] (tCons te tNil)) := by
  obtain ⟨fI, cda, cc, qual, params, body, scope, kV, doc, pm, ct, oc, an, od, osl, lk, hcd, iT, S, fi, ti, bi⟩ := T.ini
  have F := fn_sup (P := X.prog) (w := X.w) (base := X.base) (CX := CX0) lk hcd iT S T.ms
  exact pmk_oex (X := X) (p := p) (pos := pos) (x := nm) S.cls fi ti F (hr.mono hj) bi .nil (fun _ _ _ _ _ _ _ z => z.elim) hg T.gC (pa_cons he pa_nil hs) hdb hs
theorem mkv {C : Addr} {x : Str} {v : V} {H1 : Hp} {Q : XK} (h : ∀ d, H1 d = none → Q (.ref C) (some d) (upd H1 d (.xd [(x, v)]))) : [v].length ≤ 1000 ∧ ∀ a, H1 a = none → spIni C x (.ref a :: ([v] ++ [])) (upd H1 a (exo a C none))
    (fun v H2 => v = .non ∧ ∃ (d : Addr) (fs : List (Str × V)), H2 a = some (exo a C (some d)) ∧ H2 d = some (exd d fs) ∧ H1 d = none ∧ Q (.ref C) (some d) (upd (del H2 a) d (.xd fs))) (fun _ _ _ => False) := by
  refine ⟨by show 1 ≤ 1000; decide, fun a ha => ⟨a, v, rfl, upd_same, fun dx hx hne => ⟨rfl, dx, [(x, v)], upd_same, ?_, ?_, ?_⟩⟩⟩
  · rw [upd_ne hne, upd_same]
  · rw [upd_ne hne] at hx
    exact hx
  · rw [back_to ha hne]
    rw [upd_ne hne] at hx
    exact h dx hx
/-! ### isinstance of a caught exception that has its dict -/
/-- in the suite -/
def rIsV (K : PySem.W.Frag) (D a dd : Addr) : List V → Hp → VK → Prop := fun xs H Q => ∃ (c : V) (cv : Value) (b : Bool) (fs : List (Str × V)), xs = [.ref a, c] ∧ (∀ u, RelV c u → u = cv) ∧ PySem.W.kitOne K (.ref D) cv = some b ∧ H dd = some (.xd fs) ∧ Q (.bl b) H
theorem call_isV {X : Cx} {a D dd : Addr} {oe : Obj} {pn : List (Addr × Obj)} (C : ExcC X.K D) (hz : Zc (.ref D) (some dd) oe) (hf : ∃ vs, oe.data = .fields vs) : CallR (X.suite a ((a, oe) :: pn)) (.builtin "isinstance") (rIsV X.K D a dd) := by
  intro pins s σ H xs us Q I r h
  obtain ⟨c, cv, b, fs, rfl, hcv, e, ed, q⟩ := h
  cases r with
  | cons rx rr =>
    cases rr with
    | cons rt rr =>
      cases rr
      cases rx
      obtain ⟨ge, _⟩ := I.pin (a, oe) (List.mem_append.mpr (.inl List.mem_cons_self))
      obtain ⟨vs, hv⟩ := hf
      obtain ⟨mA, hns, _⟩ := (show ObjOk X.prog X.w H s.heap dd (.xd fs) from I.hok dd _ ed)
      obtain ⟨od, _, _, ho, _⟩ := hns
      have J : PySem.W.InstAt s.heap a oe D (some od) := by
        obtain ⟨oc, od', oda, osl⟩ := oe
        obtain ⟨h1, h2⟩ := hz
        dsimp only at h1 h2 hv
        subst h1 h2 hv
        exact ⟨ge, rfl, rfl, ho⟩
      have hcl : (PySem.W.clsIn X.K D).isSome = true := by
        obtain ⟨cd, hc, _⟩ := PySem.W.any_some C.hd
        rw [hc]
        rfl
      have kx := PySem.W.kitx_exc (x := a) (ox := oe) (od := some od) hcl C.hg C.hk C.hs C.ha C.hn C.ht C.hm
      have ec := hcv _ rt
      subst ec
      exact PySem.W.kia_one kx I.kIn J e (fun z => nomatch z) fun tk => ⟨.bl b, H, I.kept (t' := tk) fun _ _ z => z, rfl, q⟩
end
end Lf
namespace Lf
open PySem PySem.Spec PyProof.Rows L2
/-! ### data of any kind -/
mutual
inductive Dv (H : Hp) : V → PyData → Prop
  | non : Dv H .non .none
  | bl (b : Bool) : Dv H (.bl b) (.bool b)
  | int (i : Int) : Dv H (.int i) (.int i)
  | str (x : Str) : Dv H (.str x) (.str x)
  | lst {a : Addr} {xs : List V} {ds : List PyData} : a ≠ 1 → H a = some (.lst xs) → DvAll H xs ds → Dv H (.ref a) (.list ds)
  | tup {a : Addr} {xs : List V} {ds : List PyData} : H a = some (.tup xs) → DvAll H xs ds → Dv H (.ref a) (.tuple ds)
  | dk0 {a : Addr} : H a = some (.dK []) → Dv H (.ref a) (.dict [])
  | dk1 {a : Addr} {x : Str} {v : V} {d : PyData} : H a = some (.dK [(Sum.inr x, v)]) → Dv H v d → Dv H (.ref a) (.dict [(.str x, d)])
inductive DvAll (H : Hp) : List V → List PyData → Prop
  | nil : DvAll H [] []
  | cons {v : V} {vs : List V} {d : PyData} {ds : List PyData} : Dv H v d → DvAll H vs ds → DvAll H (v :: vs) (d :: ds)
end
/-- what such data leans on stays -/
structure Kp (H H' : Hp) : Prop where
  l : ∀ b xs, H b = some (.lst xs) → H' b = some (.lst xs)
  t : ∀ b xs, H b = some (.tup xs) → H' b = some (.tup xs)
  d0 : ∀ b, H b = some (.dK []) → H' b = some (.dK [])
  d1 : ∀ b x v, H b = some (.dK [(Sum.inr x, v)]) → H' b = some (.dK [(Sum.inr x, v)])
theorem Fr.kp {H H' : Hp} (f : Fr H H') : Kp H H' := ⟨f.l, f.t, f.d0, fun b x v h => f.k _ _ h fun _ z => by cases z⟩
theorem ext_kp {H H' : Hp} (e : LamX.ExtN H H') : Kp H H' := ⟨fun _ _ h => e _ _ h (fun _ z => by cases z), fun _ _ h => e _ _ h (fun _ z => by cases z), fun _ h => e _ _ h (fun _ z => by cases z), fun _ _ _ h => e _ _ h (fun _ z => by cases z)⟩
mutual
theorem Dv.kp {H H' : Hp} (f : Kp H H') : ∀ (d : PyData) (v : V), Dv H v d → Dv H' v d
  | .none, _, .non => .non
  | .bool _, _, .bl b => .bl b
  | .int _, _, .int i => .int i
  | .str _, _, .str x => .str x
  | .list ds, _, .lst n h hs => .lst n (f.l _ _ h) (Dv.kpAll f ds _ hs)
  | .tuple ds, _, .tup h hs => .tup (f.t _ _ h) (Dv.kpAll f ds _ hs)
  | .dict [], _, .dk0 h => .dk0 (f.d0 _ h)
  | .dict [(.str _, d)], _, .dk1 h h2 => .dk1 (f.d1 _ _ _ h) (Dv.kp f d _ h2)
theorem Dv.kpAll {H H' : Hp} (f : Kp H H') : ∀ (ds : List PyData) (vs : List V), DvAll H vs ds → DvAll H' vs ds
  | [], _, .nil => .nil
  | d :: ds, _, .cons h hs => .cons (Dv.kp f d _ h) (Dv.kpAll f ds _ hs)
end
theorem Dv.fr {H H' : Hp} (f : Fr H H') (d : PyData) (v : V) (h : Dv H v d) : Dv H' v d := Dv.kp f.kp d v h
section
variable {X : Cx} {pins : List (Addr × Obj)} {σ : L2.St} {H : Hp} {s : Shared}
mutual
theorem Dv.reads (I : Inv X pins σ H s) : ∀ (d : PyData) (v : V) (u : Value), Dv H v d → RelV v u → ∃ as, Reads s.heap u d as ∧ sysModules ∉ as
  | .none, _, _, .non, r => by
    cases r
    exact ⟨_, Reads.none, by simp⟩
  | .bool b, _, _, .bl _, r => by
    cases r
    exact ⟨_, Reads.bool b, by simp⟩
  | .int i, _, _, .int _, r => by
    obtain ⟨t, rfl⟩ := r
    exact ⟨_, Reads.int i t, by simp⟩
  | .str x, _, _, .str _, r => by
    obtain ⟨t, rfl⟩ := r
    exact ⟨_, Reads.str x t, by simp⟩
  | .list ds, _, _, .lst n1 h hs, r => by
    cases r
    obtain ⟨its, rv, ⟨o, n, ho, hc, _, hd⟩, _⟩ := I.list (SqL.of h)
    obtain ⟨as, hr, ns⟩ := Dv.readsAll I ds _ its hs rv
    exact ⟨_, Reads.list ho hc hd hr, fun z => (List.mem_cons.mp z).elim (fun e => n1 e.symm) ns⟩
  | .tuple ds, _, _, .tup h hs, r => by
    cases r
    obtain ⟨its, rv, ⟨o, ho, hc, n, hd⟩, _⟩ := I.tuple (SqT.of h)
    obtain ⟨as, hr, ns⟩ := Dv.readsAll I ds _ its hs rv
    exact ⟨_, Reads.tuple ho hc hd hr, ns⟩
  | .dict [], _, _, .dk0 (a := a) h, r => by
    cases r
    obtain ⟨_, hne, vs, kv, o, es, ep, ho, hx, hd, hk, hp, hn⟩ := (show ObjOk X.prog X.w H s.heap a (.dK []) from I.hok a _ h)
    cases kv
    have he : es.toList = [] := by
      cases hE : es.toList with
      | nil => rfl
      | cons x y => rw [hE] at hp; cases hp
    refine ⟨_, Reads.dict (kvs := []) ho hx.1 hd (by rw [he]; exact .nil) (by rw [he]; exact .nil), ?_⟩
    intro z
    have z' : sysModules = a := by simpa using z
    rw [z'] at hne
    simp at hne
  | .dict [(.str x, d)], _, _, .dk1 (a := a) (v := v) h h2, r => by
    cases r
    obtain ⟨_, hne, vs, kv, o, es, ep, ho, hx, hd, hk, hp, hn⟩ := (show ObjOk X.prog X.w H s.heap a (.dK [(Sum.inr x, v)]) from I.hok a _ h)
    cases kv with
    | @cons _ q _ _ k1 k2 =>
      cases k2
      obtain ⟨qk, qv⟩ := q
      obtain ⟨ek, rv⟩ := k1
      dsimp only at ek rv
      subst ek
      obtain ⟨as, hr, ns⟩ := Dv.reads I d v qv h2 rv
      have hE : ∃ e t, es.toList = [e] ∧ e.key = .str x t ∧ e.val = qv := by
        generalize es.toList = l at hp
        cases hp with
        | @cons e _ es' _ hi hv hr =>
          cases hr
          rcases keyIs_shape (show keyIs (Sum.inr x) e.key = true from hi) with ⟨i, t, z, _⟩ | ⟨y, t, z, ev⟩
          · cases z
          · cases z
            exact ⟨e, t, rfl, ev, hv⟩
      obtain ⟨e, t, hE1, hE2, hE3⟩ := hE
      have q1 : ReadsAll s.heap (es.toList.map (·.key)) [PyData.str x] ([] ++ []) := by
        rw [hE1]
        simp only [List.map_cons, List.map_nil]
        rw [hE2]
        exact .cons (Reads.str x t) .nil
      have q2 : ReadsAll s.heap (es.toList.map (·.val)) [d] (as ++ []) := by
        rw [hE1]
        simp only [List.map_cons, List.map_nil]
        rw [hE3]
        exact .cons hr .nil
      refine ⟨_, Reads.dict (kvs := [(.str x, d)]) ho hx.1 hd q1 q2, fun z => ?_⟩
      have z' : sysModules = a ∨ sysModules ∈ as := by simpa using z
      rcases z' with z' | z'
      · rw [z'] at hne
        simp at hne
      · exact ns z'
theorem Dv.readsAll (I : Inv X pins σ H s) : ∀ (ds : List PyData) (vs : List V) (us : List Value), DvAll H vs ds → Vals vs us → ∃ as, ReadsAll s.heap us ds as ∧ sysModules ∉ as
  | [], _, _, .nil, r => by
    cases r
    exact ⟨_, ReadsAll.nil, by simp⟩
  | d :: ds, _, _, .cons h1 h2, r => by
    cases r with
    | cons r1 r2 =>
      obtain ⟨as, q1, n1⟩ := Dv.reads I d _ _ h1 r1
      obtain ⟨bs, q2, n2⟩ := Dv.readsAll I ds _ _ h2 r2
      exact ⟨_, ReadsAll.cons q1 q2, fun z => (List.mem_append.mp z).elim n1 n2⟩
end
end
/-- repr of such data -/
theorem repr_any {X : Cx} (gd : X.A.guards = some []) (hu : X.A.units + 70 < cLine) : CallR X (.builtin "repr") (fun xs H Q => ∃ (v : V) (d : PyData), xs = [v] ∧ Dv H v d ∧ d.showable = true ∧ d.depth ≤ 60 ∧ d.shown.length ≤ sizeLine ∧ Q (.str d.shown) H) := by
  intro pins s σ H xs us Q I rel h
  obtain ⟨v, d, rfl, dp, sw, dd, sz, hq⟩ := h
  obtain ⟨u, hu1, ru⟩ := vals1 rel
  subst hu1
  obtain ⟨as, rd, hsm⟩ := Dv.reads I d v u dp ru
  have big : ∀ a, u = Value.ref a → wpAny (model X.prog X.w) X.A (call (.builtin "repr") [u]) (EP X pins σ Q) X.xe s := fun a ea => by
    subst ea
    refine repr_of_reads' rd sw (fun _ => hsm) gd (by omega) (fun _ _ e => e) (fun h' u tk hk => ?_) sz
    exact ⟨.str d.shown, H, I.kept hk, ⟨u, rfl⟩, hq⟩
  cases dp with
  | non =>
    have eu : u = Value.none := ru
    subst eu
    exact PySem.P.repr_of_none ⟨.str "None", H, I.tok _, ⟨_, rfl⟩, hq⟩
  | bl b =>
    have eu : u = Value.bool b := ru
    subst eu
    refine PySem.P.repr_of_bool ⟨.str (if b then "True" else "False"), H, I.tok _, ⟨_, rfl⟩, ?_⟩
    cases b <;> exact hq
  | int i =>
    obtain ⟨t, rfl⟩ := ru
    refine PySem.P.repr_of_int (by simpa [PyData.showable] using sw) ⟨.str (toString i), H, I.tok _, ⟨_, rfl⟩, hq⟩
  | str x =>
    obtain ⟨t, rfl⟩ := ru
    exact PySem.P.repr_of_str ⟨.str (reprText x), H, I.tok _, ⟨_, rfl⟩, hq⟩ sz
  | lst _ h hs => exact big _ ru
  | tup h hs => exact big _ ru
  | dk0 h => exact big _ ru
  | dk1 h h2 => exact big _ ru
/-- the name of its type -/
def tyN : PyData → String
  | .none => "NoneType"
  | .bool _ => "bool"
  | .int _ => "int"
  | .str _ => "str"
  | .list _ => "list"
  | .tuple _ => "tuple"
  | .dict _ => "dict"
def isB : PyData → Bool
  | .bool _ => true
  | _ => false
def isIB : PyData → Bool
  | .bool _ => true
  | .int _ => true
  | _ => false
/-- an integer, not a bool -/
def isI : PyData → Bool
  | .int _ => true
  | _ => false
theorem Dv.ty {K : PySem.W.Frag} {H : Hp} {v : V} {d : PyData} (h : Dv H v d) : TyX K H v (.type (tyN d)) := by
  cases h with
  | non => exact .base .non
  | bl b => exact .base (.bl b)
  | int i => exact .base (.int i)
  | str x => exact .base (.str x)
  | lst _ h _ => exact .base (.lst h)
  | tup h _ => exact .base (.tup h)
  | dk0 h => exact .base (.dK h)
  | dk1 h _ => exact .base (.dK h)
theorem kit_int (d : PyData) : kitB (tyN d) "int" = some (isIB d) := by
  cases d
  · show kitB "NoneType" "int" = some false; decide +kernel
  · show kitB "bool" "int" = some true; decide +kernel
  · show kitB "int" "int" = some true; decide +kernel
  · show kitB "str" "int" = some false; decide +kernel
  · show kitB "list" "int" = some false; decide +kernel
  · show kitB "tuple" "int" = some false; decide +kernel
  · show kitB "dict" "int" = some false; decide +kernel
theorem kit_bool (d : PyData) : kitB (tyN d) "bool" = some (isB d) := by
  cases d
  · show kitB "NoneType" "bool" = some false; decide +kernel
  · show kitB "bool" "bool" = some true; decide +kernel
  · show kitB "int" "bool" = some false; decide +kernel
  · show kitB "str" "bool" = some false; decide +kernel
  · show kitB "list" "bool" = some false; decide +kernel
  · show kitB "tuple" "bool" = some false; decide +kernel
  · show kitB "dict" "bool" = some false; decide +kernel
/-- a new list is not where the modules are -/
def tLst1 (t : TA) : TE := fun σ H Q => t σ H fun xs H1 => xs.length ≤ sizeLine ∧ ∀ l, H1 l = none → l ≠ 1 → Q (.ref l) (upd H1 l (.lst xs))
theorem pe_lst1 {X : Cx} {es : List Expr} {t : TA} {pos : Pos} (h : L2.PA X es t) : PE X (.List es pos) (tLst1 t) := by
  constructor
  intro pins s σ H Q I hq
  refine wpAny_List_spliced (thn (h.run pos pins s σ H _ I hq) fun us s1 ⟨xs, H1, J, r, z, q⟩ => ?_)
  refine ⟨r.length ▸ z, ?_⟩
  have fresh := J.hok.fresh (Nat.le_refl s1.heap.objs.size)
  have n1 : s1.heap.objs.size ≠ 1 := by
    obtain ⟨o, _, _, e, _⟩ := J.mod.glob
    have lt := Heap.lt_size (J.bk _ _ e)
    intro c
    rw [c] at lt
    exact absurd lt (by decide)
  refine ⟨.ref s1.heap.objs.size, upd H1 s1.heap.objs.size (.lst xs), ?_, rfl, q _ fresh n1⟩
  exact J.laid (t' := s1.toks) (fun b u e => Heap.get?_push_of_some _ e) (Nat.le_refl _) ⟨z, us, 0, r, Heap.get?_push_size _ rfl⟩
end Lf
namespace Lf
open PySem PySem.Spec PyProof.Rows L2
/-! ### enumerate of a tuple; of a list or a tuple -/
set_option maxHeartbeats 4000000 in
theorem meets_enum1 {v : Value} {o : Obj} {G : Heap → Prop} (B : Begins v o G) :
    Meets (Builtin.«enumerate.__new__» ⟨[.type "enumerate", v], []⟩) (fun _ R s => G s.heap ∧
      R (.ok (.ret (.ref (s.heap.push o).objs.size))) { s with heap := (s.heap.push o).push { cls := .type "enumerate", data := .fields #[.none, .bool false, .ref s.heap.objs.size, rawInt 0, .none, .none] } }) :=
  .of_wp fun prog w A R s h => by
    obtain ⟨hp, g, d, tk, os⟩ := s
    obtain ⟨h1, h⟩ := h
    have hsub := sub_enumerate
    have q1 : ∀ {A' : Around} {E : Value → Shared → Prop} {Q : Value → Shared → Prop}, Q (.ref hp.objs.size) ⟨hp.push o, g, d, tk, os⟩ → wpAny (model prog w) A' (pyIter v) Q E ⟨hp, g, d, tk, os⟩ :=
      fun q => B.iter prog w _ _ ⟨hp, g, d, tk, os⟩ _ h1 q
    wp_walk using q1
    refine wpAny_stack_any fun st => wpAny_pure ?_
    split
    · rename_i c _ _ _ _ _
      cases (c == Value.type "enumerate")
      · wp_walk using q1
        exact ⟨_, rfl, h⟩
      · wp_walk using q1
        exact ⟨_, rfl, h⟩
    · wp_walk using q1
      exact ⟨_, rfl, h⟩
theorem enum_begins1 {prog : Program} {w : World} {A : Around} {E : Value → Shared → Prop} {s : Shared} {v : Value} {o : Obj} {G : Heap → Prop} {Q : Value → Shared → Prop} (B : Begins v o G) (h1 : G s.heap)
    (h : ∀ h', IsEnum h' (s.heap.objs.size + 1) s.heap.objs.size 0 .none → h'.get? s.heap.objs.size = some o → h'.objs.size = s.heap.objs.size + 2 →
      (∀ b o, s.heap.get? b = some o → h'.get? b = some o) → Q (.ref (s.heap.objs.size + 1)) { s with heap := h' }) :
    wpAny (model prog w) A (call (.type "enumerate") [v]) Q E s := by
  refine callType_new F.called_enumerate (by decide) (F.typeCall_enumerate_1 _) (F.newCall_enumerate_1 _) (fun obj => F.args_object_init_2 obj _) F.entry_enumerate_new
    (meets_enum1 B) ⟨h1, ?_⟩
  have hz : (s.heap.push o).objs.size = s.heap.objs.size + 1 := Heap.size_push ..
  show _ ∧ _
  rw [hz]
  have he : IsEnum ((s.heap.push o).push { cls := .type "enumerate", data := .fields #[.none, .bool false, .ref s.heap.objs.size, rawInt 0, .none, .none] }) (s.heap.objs.size + 1) s.heap.objs.size 0 .none := by
    have := Heap.get?_push_size (s.heap.push o) (o := { cls := .type "enumerate", data := .fields #[.none, .bool false, .ref s.heap.objs.size, rawInt 0, .none, .none] }) rfl
    rw [hz] at this
    exact this
  exact ⟨⟨_, he, rfl⟩, h _ he (Heap.get?_push_of_some _ (Heap.get?_push_size _ B.free)) (by rw [Heap.size_push, hz]) fun b o x => Heap.get?_push_of_some _ (Heap.get?_push_of_some _ x)⟩
def IteT (K : PySem.W.Frag) (a : Addr) : It :=
  ⟨fun i H => ∃ (xs : List V) (x : V), SqT K H a xs ∧ xs[i]? = some x, fun i H v H' => ∃ T x, v = .ref T ∧ H T = none ∧ H' = upd H T (.tup [.int (i : Nat), x]) ∧ ∀ xs, SqT K H a xs → xs[i]? = some x, fun i H => ∃ xs : List V, SqT K H a xs ∧ xs.length = i⟩
theorem turn_enumT {P : Program} {w : World} {K : PySem.W.Frag} {elts : List Expr} {kk : Nat} {tpos : Pos} (a e it : Addr) (ne1 : e ≠ it) (ne2 : a ≠ it) (ne3 : e ≠ a) :
    Turn P w K (.Tuple elts kk tpos) (IteT K a) [e, it] e (fun i h => (∃ old, IsEnum h e it ((i : Nat) : Int) old) ∧ h.IsTupleIter it a i) where
  mem := by simp
  obj := fun i h st b hb => by
    obtain ⟨⟨old, he⟩, ⟨o, ho, hc, hd⟩⟩ := st
    have e' : b = e ∨ b = it := by simpa using hb
    rcases e' with z | z
    · rw [z]; exact ⟨_, he, fun v q => nomatch q⟩
    · rw [z]; exact ⟨o, ho, fun v q => by rw [hd] at q; cases q⟩
  keep := fun i h h' st k => let ⟨⟨old, he⟩, hi⟩ := st; ⟨⟨old, k e (by simp) _ he⟩, hi.at fun o q => k it (by simp) o q⟩
  item := by
    intro X hP hw hK hc i pins s σ H E I hf st hg
    subst hP hw hK
    obtain ⟨⟨old, he⟩, hit⟩ := st
    obtain ⟨xs, x, hq, hx⟩ := hg
    obtain ⟨its, rv, p, hz⟩ := I.tuple hq
    obtain ⟨u, hu, ru⟩ := rv.get hx
    have hel : e < s.heap.objs.size := Heap.lt_size he
    have hil : it < s.heap.objs.size := by obtain ⟨_, q, _⟩ := hit; exact Heap.lt_size q
    have hlt : i < its.toArray.size := by
      have := (List.getElem?_eq_some_iff.mp hu).1
      simpa using this
    have D := Draws.tuple (prog := X.prog) (w := X.w) (A := X.A.in1) (I.ok.hd hc) it a ne2 its.toArray
    refine wpAny_pyNext_enum_itemD D he ⟨hit, p⟩ hlt ne1 (by simp [ne1, ne3]) fun x' h' tk hP ho hit' hT hsz hk => ?_
    have eu : x' = u := by
      have hP : its.toArray[i]? = some x' := hP
      rw [show its.toArray[i]? = some u by simpa using hu] at hP
      exact (Option.some.inj hP).symm
    subst eu
    refine ⟨_, rfl, wpAny_letOwnedTupleGo_enum (s := { s with heap := h', toks := tk + 1 }) ho fun h'' he' sb => ?_⟩
    have hT2 : h''.get? s.heap.objs.size = some { cls := .type "tuple", data := .seq #[.int i tk, x'] } := (sb.2 _ (Nat.ne_of_gt hel)).trans hT
    have new : ObjOk X.prog X.w (upd H s.heap.objs.size (.tup [.int (i : Nat), x])) h'' s.heap.objs.size (.tup [.int (i : Nat), x]) :=
      ⟨by show 2 ≤ sizeLine; decide, [.int i tk, x'], .cons ⟨_, rfl⟩ (.cons ru .nil), ⟨_, hT2, rfl, _, rfl⟩⟩
    have I1 : Inv X pins σ (upd H s.heap.objs.size (.tup [.int (i : Nat), x])) { s with heap := h'', toks := tk + 1 } :=
      I.turnedNew (ch := [e, it]) (fun b ob hb q => (sb.2 b (fun z => hb (by simp [z]))).trans (hk b ob (fun z => hb (by simp [z])) (fun z => hb (by simp [z])) q)) hf (Nat.le_refl _) new
    refine ⟨.ref s.heap.objs.size, _, I1, rfl, ⟨_, x, rfl, I.hok.fresh (Nat.le_refl _), rfl, fun ys hy => by rw [I.tuple_inj hy hq]; exact hx⟩, ⟨⟨x', ?_⟩, hit'.1.at fun o q => (sb.2 it (Ne.symm ne1)).trans q⟩, fun b hb => ?_⟩
    · have e1 : ((i + 1 : Nat) : Int) = (i : Int) + 1 := by omega
      rw [e1]; exact he'
    · have hb' : b < s.heap.objs.size := by
        have e' : b = e ∨ b = it := by simpa using hb
        rcases e' with z | z
        · rw [z]; exact hel
        · rw [z]; exact hil
      rw [upd_ne (Nat.ne_of_lt hb')]
      exact (hf b hb).1
  done := by
    intro X hP hw hK hc i pins s σ H E I hf st hg
    subst hP hw hK
    obtain ⟨⟨old, he⟩, hit⟩ := st
    obtain ⟨xs, hq, hx⟩ := hg
    obtain ⟨its, rv, p, hz⟩ := I.tuple hq
    obtain ⟨f0, f1, f2, f3, f4, f5⟩ := hf it (by simp)
    have hl := rv.length
    have ei : i = its.toArray.size := by
      simp
      omega
    have D := Draws.tuple (prog := X.prog) (w := X.w) (A := X.A.in1) (I.ok.hd hc) it a ne2 its.toArray
    refine wpAny_pyNext_enum_endD D he ⟨ei ▸ hit, p⟩ fun h' eb => ⟨rfl, I.turned (t' := s.toks) (fun b o hb q => eb b o hb q) f0 f1 f3 f4 f5⟩
  self := fun A i s Q E st h => let ⟨⟨_, he⟩, _⟩ := st; wpAny_pyIter_enum he h
/-! ### a list or a tuple -/
def SqB (K : PySem.W.Frag) : Bool → Hp → Addr → List V → Prop
  | true => SqL K
  | false => SqT K
def sqO : Bool → List V → HO
  | true, xs => .lst xs
  | false, xs => .tup xs
theorem SqB.of {K : PySem.W.Frag} {b : Bool} {H : Hp} {a : Addr} {xs : List V} (h : H a = some (sqO b xs)) : SqB K b H a xs := by
  cases b
  · exact SqT.of h
  · exact SqL.of h
def Itb (K : PySem.W.Frag) : Bool → Addr → It
  | true => Itl K
  | false => Itt K
def IteB (K : PySem.W.Frag) : Bool → Addr → It
  | true => Ite K
  | false => IteT K
theorem walk_seq {K : PySem.W.Frag} {b : Bool} {a : Addr} {xs : List V} : Walk (Itb K b a) xs.length (fun H => SqB K b H a xs) (YAt xs) := by
  cases b
  · exact walk_tup
  · exact walk_list
theorem walk_enumT {K : PySem.W.Frag} {a : Addr} {xs : List V} : Walk (IteT K a) xs.length (fun H => SqT K H a xs) (YPair (fun i => some (.int (i : Nat))) (fun i => xs[i]?)) := by
  refine ⟨fun i _ hi q => ⟨xs, xs[i], q, by simp [hi]⟩, fun _ q => ⟨xs, q, rfl⟩, fun i H v H' _ q y => ?_⟩
  obtain ⟨T, x, h1, h2, h3, h4⟩ := y
  exact ⟨T, .int (i : Nat), x, h1, h2, h3, rfl, h4 xs q⟩
theorem walk_enumB {K : PySem.W.Frag} {b : Bool} {a : Addr} {xs : List V} : Walk (IteB K b a) xs.length (fun H => SqB K b H a xs) (YPair (fun i => some (.int (i : Nat))) (fun i => xs[i]?)) := by
  cases b
  · exact walk_enumT
  · exact walk_enum
def iSeq (K : PySem.W.Frag) (tl : TE) : TI := fun σ H R => tl σ H fun x H1 => ∃ a b xs, x = .ref a ∧ SqB K b H1 a xs ∧ R (Itb K b a) H1
theorem pi_seq {X : Cx} {tg l : Expr} {tl : TE} (hl : PE X l tl) : PI X tg l (iSeq X.K tl) := by
  refine ⟨fun pins s σ H R I h => ?_⟩
  refine thn (hl.run pins s σ H _ I h) fun v s1 ⟨x, H1, I1, r1, q1⟩ => ?_
  obtain ⟨a, b, xs, e, hq, q⟩ := q1
  subst e
  cases r1
  cases b with
  | true =>
    obtain ⟨its, rv, p, hz⟩ := I1.list hq
    refine wpAny_pyIter_list p.isList ?_
    refine ⟨s1.heap.objs.size, [s1.heap.objs.size], _, _, H1, rfl, I1.kept (t' := s1.toks) fun b o e => Heap.get?_push_of_some _ e, turn_list a _, ⟨_, Heap.get?_push_size _ rfl, rfl, rfl⟩, fun b hb => ?_, q⟩
    have e : b = s1.heap.objs.size := by simpa using hb
    subst e
    exact I1.fpOk (Nat.le_refl _) (I1.hok.fresh (Nat.le_refl _))
  | false =>
    obtain ⟨its, rv, p, hz⟩ := I1.tuple hq
    refine wpAny_pyIter_tuple (show s1.heap.IsTuple a its.toArray from p) ?_
    refine ⟨s1.heap.objs.size, [s1.heap.objs.size], _, _, H1, rfl, I1.kept (t' := s1.toks) fun b o e => Heap.get?_push_of_some _ e, turn_tuple a _, ⟨_, Heap.get?_push_size _ rfl, rfl, rfl⟩, fun b hb => ?_, q⟩
    have e : b = s1.heap.objs.size := by simpa using hb
    subst e
    exact I1.fpOk (Nat.le_refl _) (I1.hok.fresh (Nat.le_refl _))
def iEnumB (K : PySem.W.Frag) (ta : TA) : TI := fun σ H R => ta σ H fun vs H1 => ∃ a b xs, vs = [.ref a] ∧ SqB K b H1 a xs ∧ R (IteB K b a) H1
theorem pi_enumB {X : Cx} {e : Expr} {ta : TA} {p pos tpos : Pos} {elts : List Expr} {kk : Nat} (hg : Gl X "enumerate") (hm : X.mg "enumerate" = none) (ha : L2.PA X [e] ta) (hs : starEach [e] X.env = [(false, eval e X.env)] := by rfl) :
    PI X (.Tuple elts kk tpos) (.Call (.Name "enumerate" p) [e] [] pos) (iEnumB X.K ta) := by
  refine ⟨fun pins s σ H R I h => ?_⟩
  refine Call_ (ld_blt I hg hm boot_enumerate (PyProof.Rows.callWith_type1 (thn (ha.run pos pins s σ H _ I h) fun us s1 ⟨vs, H1, I1, r1, q1⟩ => ?_) hs rfl))
  obtain ⟨a, b, xs, ex, hq, q⟩ := q1
  subst ex
  cases r1 with
  | cons r rr =>
    cases rr
    cases r
    cases b with
    | true =>
      obtain ⟨its, rv, p', hz⟩ := I1.list hq
      refine call_enumerate_list p'.isList fun h' he hit hsz hk => wpAny_pyIter_enum he ?_
      have I2 : Inv X pins σ H1 { s1 with heap := h' } := I1.kept (t' := s1.toks) hk
      refine ⟨s1.heap.objs.size + 1, [s1.heap.objs.size + 1, s1.heap.objs.size], _, _, H1, rfl, I2, turn_enum a (s1.heap.objs.size + 1) s1.heap.objs.size, ⟨⟨.none, he⟩, hit, Nat.succ_ne_self _⟩, fun b hb => ?_, q⟩
      have e' : b = s1.heap.objs.size + 1 ∨ b = s1.heap.objs.size := by simpa using hb
      have hle : s1.heap.objs.size ≤ b := by
        rcases e' with z | z
        · rw [z]; exact Nat.le_add_right _ _
        · rw [z]; exact Nat.le_refl _
      exact I1.fpOk hle (I1.hok.fresh hle)
    | false =>
      obtain ⟨its, rv, p', hz⟩ := I1.tuple hq
      have hal : a < s1.heap.objs.size := by
        obtain ⟨_, q, _⟩ := p'
        exact Heap.lt_size q
      refine enum_begins1 (begins_tuple a its.toArray) p' fun h' he hit hsz hk => wpAny_pyIter_enum he ?_
      have I2 : Inv X pins σ H1 { s1 with heap := h' } := I1.kept (t' := s1.toks) hk
      refine ⟨s1.heap.objs.size + 1, [s1.heap.objs.size + 1, s1.heap.objs.size], _, _, H1, rfl, I2, turn_enumT a (s1.heap.objs.size + 1) s1.heap.objs.size (Nat.succ_ne_self _) (Nat.ne_of_lt hal) (Nat.ne_of_gt (Nat.lt_succ_of_lt hal)), ⟨⟨.none, he⟩, ⟨_, hit, rfl, rfl⟩⟩, fun b hb => ?_, q⟩
      have e' : b = s1.heap.objs.size + 1 ∨ b = s1.heap.objs.size := by simpa using hb
      have hle : s1.heap.objs.size ≤ b := by
        rcases e' with z | z
        · rw [z]; exact Nat.le_add_right _ _
        · rw [z]; exact Nat.le_refl _
      exact I1.fpOk hle (I1.hok.fresh hle)
end Lf
namespace Lf
open PySem PySem.Spec PyProof.Rows L2
section
variable {P : Program} {w : World} {K : PySem.W.Frag} {mg : Str → Option Value} {base : Heap}
/-! ### _law_draw -/
theorem at_mod (cs : List Int) (t : Int) (h : cs ≠ []) : ∃ c, atI (cs.map V.int) (t % ((cs.map V.int).length : Int)) = some (.int c) := by
  have hl : 0 < cs.length := List.length_pos_iff.mpr h
  rw [List.length_map]
  have h0 := Int.emod_nonneg t (show (cs.length : Int) ≠ 0 by omega)
  have h1 := Int.emod_lt_of_pos t (show (0 : Int) < cs.length by omega)
  generalize t % (cs.length : Int) = i at h0 h1
  obtain ⟨j, rfl⟩ := Int.eq_ofNat_of_zero_le h0
  have hj : j < cs.length := by omega
  refine ⟨cs[j], atI_nat ?_⟩
  rw [List.getElem?_map, List.getElem?_eq_getElem hj]
  rfl
theorem dp_ints {K : PySem.W.Frag} {H : Hp} : ∀ cs : List Int, DpAll K H (cs.map V.int) (cs.map PyData.int)
  | [] => .nil
  | c :: r => .cons (.int c) (dp_ints r)
theorem sh_ints (cs : List Int) : SeqAt.shaped (.list (cs.map PyData.int)) = true := by
  have h : ∀ cs : List Int, PyData.canLayAll0 (cs.map PyData.int) = true ∧ PyData.depthAll (cs.map PyData.int) = 0 := by
    intro cs
    induction cs with
    | nil => exact ⟨rfl, rfl⟩
    | cons c r ih => exact ⟨by simpa [PyData.canLayAll0, PyData.canLay0] using ih.1, by simpa [PyData.depthAll, PyData.depth] using ih.2⟩
  simp [SeqAt.shaped, PyData.canLay0, PyData.depth, (h cs).1, (h cs).2]
def spDraw : Sp := fun vs H Q _ => ∃ (a : PA) (n : Nat) (many : Int), vs = [.ref a, .int many] ∧ Pen H a n ∧ n < 2 ^ 40 ∧ 0 < many ∧ Bd 9000 many ∧
  ∀ d H', 0 ≤ d → d < many → Pen H' a (n + 1) → Fr H H' → Q (.int d) H'
end
end Lf
namespace Lf
open PySem PySem.Spec PyProof.Rows L2
section
variable {P : Program} {w : World} {K : PySem.W.Frag} {mg : Str → Option Value} {base : Heap}
abbrev s_l_draw : Stmt := topS 33
abbrev N_l_draw : List Str := ["_law_pen_here", "_law_many", "_law_digit", "_law_spot", "_law_cell", "_law_mix"]
abbrev P_l_draw : List Str := ["_law_pen_here", "_law_many"]
theorem sc_l_draw : FnScope N_l_draw P_l_draw (defScope s_l_draw) := ⟨rfl, rfl, rfl, by decide +kernel, rfl, by decide +kernel, by decide +kernel⟩
theorem ok_l_draw (D : Df K mg "_law_draw" s_l_draw P_l_draw) (B : Bi mg) : C8.Cal P w K mg base 1 "_law_draw" spDraw [] := by
  refine cal_of D sc_l_draw (fun vs H Q E h => ?_) (fun f cdv A outer s H vs Q E hr h => ?_)
  · obtain ⟨a, n, many, rfl, _⟩ := h
    rfl
  · obtain ⟨⟨a, l⟩, n, many, rfl, hP, hn, h0, hb, q⟩ := h
    have hu := hu_of hr
    have hd : CDivW 0 many := ⟨h0, hb.log (by decide)⟩
    obtain ⟨cs, t, r, ea, el, hl, ht0, htn, hr0⟩ := hP.ex
    have ea : H a = some (.dK (penD l t r)) := ea
    have el : H l = some (.lst (cs.map V.int)) := el
    refine ⟨_, (pss_cons (ps_if (pt_cmpR op_gt (pe_dget hu (pv 0) pe_str (fun _ _ => rfl)) pe_int (nomark _))
      (pss_cons (ps_set (i := 2) sc_l_draw.nd rfl (Or.inl rfl) (pe_op op_mod (pe_dget hu (pv 0) pe_str (fun _ _ => rfl)) (pv 1)))
    (pss_cons (ps_dput hu (pv 0) pe_str (pe_op op_fdivW (pe_dget hu (pv 0) pe_str (fun _ _ => rfl)) (pv 1)) rfl)
    (pss_one (ps_ret (pv 2)))))
      pss_nil)
    (pss_cons (ps_set (i := 3) sc_l_draw.nd rfl (Or.inl rfl) (pe_dget hu (pv 0) pe_str (fun _ _ => rfl)))
    (pss_cons (ps_dput hu (pv 0) pe_str (pe_op op_add (pv 3) pe_int) rfl)
    (C8.pss_cut (ps_set (i := 4) sc_l_draw.nd rfl (Or.inl rfl) (pe_ifExp (pt_cmpR (op_neD hr.units) (pe_dget hu (pv 0) pe_str (fun _ _ => rfl)) (pe_lst pa_nil) (nomark _)) (pe_ix (r := rIxL K) ix_list (pe_dget hu (pv 0) pe_str (fun _ _ => rfl)) (pe_op op_mod (pv 3) (pe_callB (call_len_seq) (by rfl) B.len_ bt_len (pa_cons (pe_dget hu (pv 0) pe_str (fun _ _ => rfl)) pa_nil))) (fun _ _ => rfl)) (pe_op op_add (pe_op op_mul pe_int (pv 3)) pe_int)))
    (C8.pss_cut (ps_if (PW.pt (pw_and (pt_cmpR op_lt (pv 3) (pe_callB (call_len_seq) (by rfl) B.len_ bt_len (pa_cons (pe_dget hu (pv 0) pe_str (fun _ _ => rfl)) pa_nil)) (nomark _)) (pw_and1 (pt_cmpR op_ge (pe_callB (call_abs) (by rfl) B.abs_ bt_abs (pa_cons (pv 4) pa_nil)) (pe_op op_pow pe_int pe_int) (nomark _)))))
      (pss_cons (ps_dput hu (pv 0) pe_str (pe_op op_fdivW (pe_op op_sub (pe_callB (call_abs) (by rfl) B.abs_ bt_abs (pa_cons (pv 4) pa_nil)) (pe_op op_pow pe_int pe_int)) (pv 1)) rfl)
    (pss_one (ps_ret (pe_op op_mod (pe_op op_sub (pe_callB (call_abs) (by rfl) B.abs_ bt_abs (pa_cons (pv 4) pa_nil)) (pe_op op_pow pe_int pe_int)) (pv 1)))))
      pss_nil)
    (pss_cons (ps_set (i := 5) sc_l_draw.nd rfl (Or.inl rfl) (pe_op op_mod (pe_op op_add (pe_op op_add (pe_op op_add (pe_op op_mul (pe_op op_mod (pv 4) pe_int) pe_int) (pe_op op_mul (pe_op op_mul pe_int (pv 3)) (pv 3))) (pe_op op_mul pe_int (pv 3))) pe_int) pe_int))
    (pss_cons (ps_set (i := 5) sc_l_draw.nd rfl (Or.inl rfl) (pe_op op_mod (pe_op op_add (pe_op op_add (pe_op op_add (pe_op op_mul (pv 5) (pv 5)) (pe_op op_mul pe_int (pv 5))) (pe_op op_mul pe_int (pv 3))) pe_int) pe_int))
    (pss_one (ps_ret (pe_op op_mod (pe_op op_fdiv (pe_op op_mod (pe_op op_mul (pv 5) (pe_op op_add (pv 5) pe_int)) pe_int) pe_int) (pv 1))))))))))), ?_⟩
    -- the rest > 0
    refine ⟨_, rfl, a, _, rfl, dg_rest ea, _, _, rfl, rfl, _, rfl, ite2 (fun e => ?_) (fun e => ?_)⟩
    · refine ⟨_, rfl, a, _, rfl, dg_rest ea, _, rfl, _, _, rfl, rfl, h0, ?_⟩
      refine ⟨_, rfl, a, _, rfl, dg_rest ea, _, rfl, _, _, rfl, rfl, hd, _, rfl, a, _, rfl, dp_rest ea, ?_⟩
      refine ⟨_, rfl, ?_⟩
      exact q _ _ (Int.emod_nonneg _ (by omega)) (Int.emod_lt_of_pos _ h0) (Pen.put ea el hl ht0 (by omega) (Int.ediv_nonneg hr0 (by omega))) (Fr.dict ea)
    · refine ⟨_, rfl, a, _, rfl, dg_turn ea, ?_⟩
      refine ⟨_, rfl, _, _, rfl, rfl, _, rfl, a, _, rfl, dp_turn ea, ?_⟩
      have ea1 : upd H a (.dK (penD l (t + 1) r)) a = some (.dK (penD l (t + 1) r)) := upd_same
      have nla : l ≠ a := ne_of el ea (by intro z; cases z)
      have el1 : upd H a (.dK (penD l (t + 1) r)) l = some (.lst (cs.map V.int)) := by rw [upd_ne nla]; exact el
      have f1 : Fr H (upd H a (.dK (penD l (t + 1) r))) := Fr.dict ea
      generalize upd H a (.dK (penD l (t + 1) r)) = H1 at ea1 el1 f1
      refine ⟨fun σ' H' => ∃ c : Int, σ' = [some (.ref a), some (.int many), none, some (.int t), some (.int c), none] ∧ Same H1 H', ?_, ?_⟩
      · refine ⟨_, rfl, a, _, rfl, dg_cells ea1, Nat.zero_le _, fun p np => ?_⟩
        have s1 : Same H1 (upd H1 p (.lst [])) := sm_upd np
        refine ⟨.list (cs.map PyData.int), .list [], Dp.lst (SqL.of (s1 _ _ el1)) (dp_ints cs), Dp.lst (SqL.of upd_same) .nil, sh_ints cs, rfl, _, rfl, ?_⟩
        by_cases hc : cs = []
        · subst hc
          refine iteF ?_
          refine ⟨_, rfl, _, _, rfl, rfl, .inl ⟨by decide, by decide⟩, _, _, rfl, rfl, ?_⟩
          exact ⟨_, rfl, s1⟩
        · obtain ⟨c, r', rfl⟩ : ∃ c r', cs = c :: r' := by
            cases cs with
            | nil => exact absurd rfl hc
            | cons c r' => exact ⟨c, r', rfl⟩
          refine iteT ?_
          obtain ⟨v, hv⟩ := at_mod (c :: r') t hc
          refine ⟨_, rfl, a, _, rfl, dg_cells (s1 _ _ ea1), _, rfl, _, rfl, a, _, rfl, dg_cells (s1 _ _ ea1), l, _, rfl, .inl (SqL.of (s1 _ _ el1)), _, _, rfl, rfl, ?_, l, _, _, _, rfl, rfl, SqL.of (s1 _ _ el1), hv, ?_⟩
          · show (0 : Int) < (((c :: r').map V.int).length : Int)
            rw [List.length_map, List.length_cons]
            omega
          · exact ⟨v, rfl, s1⟩
      · rintro σ' H2 ⟨c, rfl, s2⟩
        have ea2 := s2 _ _ ea1
        have el2 := s2 _ _ el1
        have f2 : Fr H H2 := f1.trans (Fr.same s2)
        refine ⟨fun σ' H' => σ' = [some (.ref a), some (.int many), none, some (.int t), some (.int c), none] ∧ H' = H2, ?_, ?_⟩
        · refine ⟨_, rfl, _, rfl, a, _, rfl, dg_cells ea2, l, _, rfl, .inl (SqL.of el2), _, _, rfl, rfl, _, rfl, ite2 (fun e1 => ?_) (fun e1 => ?_)⟩
          · refine ⟨_, rfl, _, rfl, _, _, rfl, rfl, ⟨by decide, by decide, by decide⟩, _, _, rfl, rfl, _, rfl, ite2 (fun e2 => ?_) (fun e2 => ?_)⟩
            · have e3 := of_decide_eq_true e2
              refine ⟨_, rfl, _, rfl, _, _, rfl, rfl, ⟨by decide, by decide, by decide⟩, _, _, rfl, rfl, _, rfl, _, _, rfl, rfl, hd, _, rfl, a, _, rfl, dp_rest ea2, ?_⟩
              refine ⟨_, rfl, _, rfl, _, _, rfl, rfl, ⟨by decide, by decide, by decide⟩, _, _, rfl, rfl, _, rfl, _, _, rfl, rfl, h0, ?_⟩
              exact q _ _ (Int.emod_nonneg _ (by omega)) (Int.emod_lt_of_pos _ h0) (Pen.put ea2 el2 hl (by omega) (by omega) (Int.ediv_nonneg (by omega) (by omega))) (f2.trans (Fr.dict ea2))
            · exact ⟨rfl, rfl⟩
          · exact iteF ⟨rfl, rfl⟩
        · rintro σ' H' ⟨rfl, rfl⟩
          refine ⟨_, rfl, _, _, rfl, rfl, (by show (0 : Int) < 2147483647; decide), _, _, rfl, rfl, .inr ⟨by decide, by decide⟩, _, rfl, _, _, rfl, rfl, .inl ⟨by decide, by decide⟩, _, rfl, _, _, rfl, rfl, .inr ⟨by omega, by omega⟩, _, _, rfl, rfl, _, rfl, _, _, rfl, rfl, .inl ⟨by decide, by decide⟩, _, _, rfl, rfl, _, _, rfl, rfl, _, _, rfl, rfl, (by show (0 : Int) < 2147483629; decide), ?_⟩
          have d0 := Int.emod_nonneg (c % 2147483647 * 69621 + 48271 * t * t + 30011 * t + 13) (show (2147483629 : Int) ≠ 0 by decide)
          have d1 := Int.emod_lt_of_pos (c % 2147483647 * 69621 + 48271 * t * t + 30011 * t + 13) (show (0 : Int) < 2147483629 by decide)
          dsimp only
          generalize (c % 2147483647 * 69621 + 48271 * t * t + 30011 * t + 13) % 2147483629 = x1 at d0 d1
          refine ⟨_, rfl, _, rfl, _, _, rfl, rfl, .inl ⟨by omega, by omega⟩, _, rfl, _, _, rfl, rfl, .inl ⟨by decide, by decide⟩, _, _, rfl, rfl, _, rfl, _, _, rfl, rfl, .inl ⟨by decide, by decide⟩, _, _, rfl, rfl, _, _, rfl, rfl, _, _, rfl, rfl, (by show (0 : Int) < 2147483587; decide), ?_⟩
          have d20 := Int.emod_nonneg (x1 * x1 + 40692 * x1 + 7 * t + 3) (show (2147483587 : Int) ≠ 0 by decide)
          have d21 := Int.emod_lt_of_pos (x1 * x1 + 40692 * x1 + 7 * t + 3) (show (0 : Int) < 2147483587 by decide)
          dsimp only
          generalize (x1 * x1 + 40692 * x1 + 7 * t + 3) % 2147483587 = x2 at d20 d21
          refine ⟨_, rfl, _, rfl, _, _, rfl, rfl, _, _, rfl, rfl, .inl ⟨by omega, by omega⟩, _, _, rfl, rfl, (by show (0 : Int) < 2147483579; decide), _, _, rfl, rfl, ⟨by decide, by decide⟩, _, rfl, _, _, rfl, rfl, h0, ?_⟩
          have hP2 : Pen H' ⟨a, l⟩ (n + 1) := ⟨cs, t + 1, r, ea2, el2, hl, by omega, by omega, hr0⟩
          exact q _ _ (Int.emod_nonneg _ (by omega)) (Int.emod_lt_of_pos _ h0) hP2 f2
end
end Lf
namespace Lf
open PySem PySem.Spec PyProof.Rows L2
section
variable {P : Program} {w : World} {K : PySem.W.Frag} {mg : Str → Option Value} {base : Heap}
/-! ### _law_pick -/
def spPick : Sp := fun vs H Q _ => ∃ (a : PA) (l : Addr) (n : Nat) (xs : List V), vs = [.ref a, .ref l] ∧ Pen H a n ∧ n < 2 ^ 40 ∧ H l = some (.lst xs) ∧ xs ≠ [] ∧ xs.length ≤ 1000 ∧
  ∀ x H', x ∈ xs → Pen H' a (n + 1) → Fr H H' → Q x H'
abbrev s_l_pick : Stmt := topS 34
abbrev N_l_pick : List Str := ["_law_pen_here", "_law_some"]
abbrev P_l_pick : List Str := ["_law_pen_here", "_law_some"]
theorem sc_l_pick : FnScope N_l_pick P_l_pick (defScope s_l_pick) := ⟨rfl, rfl, rfl, by decide +kernel, rfl, by decide +kernel, by decide +kernel⟩
theorem ok_l_pick (D : Df K mg "_law_pick" s_l_pick P_l_pick) (B : Bi mg) (c_l_draw : C8.Cal P w K mg base 1 "_law_draw" spDraw []) : C8.Cal P w K mg base 2 "_law_pick" spPick [] := by
  refine cal_of D sc_l_pick (fun vs H Q E h => ?_) (fun f cdv A outer s H vs Q E hr h => ?_)
  · obtain ⟨a, l, n, xs, rfl, _⟩ := h
    rfl
  · obtain ⟨a, l, n, xs, rfl, hP, hn, el, hx, hxl, q⟩ := h
    have hu := hu_of hr
    refine ⟨_, (pss_one (ps_ret (pe_ix (r := rIxL K) ix_list (pv 1) (C8.pe_c c_l_draw hr (by decide) (by rfl) (pa_cons (pv 0) (pa_cons (pe_callB (call_len_seq) (by rfl) B.len_ bt_len (pa_cons (pv 1) pa_nil)) pa_nil))) (fun _ _ => rfl)))), ?_⟩
    have hl : 0 < xs.length := List.length_pos_iff.mpr hx
    refine ⟨_, rfl, _, rfl, _, rfl, l, _, rfl, .inl (SqL.of el), a, n, _, rfl, hP, hn, by omega, Bd.small 20 (by omega) (by decide), fun d H' d0 d1 hP' f' => ?_⟩
    obtain ⟨j, rfl⟩ := Int.eq_ofNat_of_zero_le d0
    have hj : j < xs.length := by omega
    refine ⟨l, _, _, _, rfl, rfl, SqL.of (f'.l _ _ el), atI_nat (List.getElem?_eq_getElem hj), ?_⟩
    exact q _ _ (List.getElem_mem hj) hP' f'
end
end Lf
namespace Lf
open PySem PySem.Spec PyProof.Rows L2
theorem Bd.grow {k : Nat} {r d : Int} (h0 : 0 ≤ r) (h : Bd k r) (d0 : 0 ≤ d) (d1 : d < 10 ^ 6) : Bd (k + 20) (r * 10 ^ 6 + d) := by
  unfold Bd at *
  have e : (2 : Nat) ^ (k + 20) = 2 ^ k * 1048576 := by rw [Nat.pow_add]
  rw [e]
  generalize (2 : Nat) ^ k = m at h
  omega
/-- a rule, its numbers within k bits -/
structure RuleB (k : Nat) (p q c : Int) : Prop where
  p0 : 0 ≤ p
  q1 : 1 ≤ q
  g : Int.gcd p q = 1
  bp : Bd k p
  bq : Bd k q
  bc : Bd k c
theorem RuleB.mono {k j : Nat} {p q c : Int} (h : RuleB k p q c) (e : k ≤ j) : RuleB j p q c := ⟨h.p0, h.q1, h.g, h.bp.mono e, h.bq.mono e, h.bc.mono e⟩
theorem gcd_pos {p q : Int} (h : 1 ≤ q) : 0 < (Int.gcd p q : Int) := by
  have : 0 < Int.gcd p q := Int.gcd_pos_of_ne_zero_right _ (by omega)
  omega
theorem gcd_le {p q : Int} (h : 1 ≤ q) : (Int.gcd p q : Int) ≤ q := Int.le_of_dvd (by omega) (Int.gcd_dvd_right ..)
theorem low_rule {k : Nat} {p q c : Int} (h0 : 0 ≤ p) (h1 : 1 ≤ q) (bp : Bd k p) (bq : Bd k q) (bc : Bd k c) : RuleB k (p / (Int.gcd p q : Int)) (q / (Int.gcd p q : Int)) (c / (Int.gcd p q : Int)) := by
  have hg := gcd_pos (p := p) h1
  refine ⟨Int.ediv_nonneg h0 (by omega), ?_, ?_, bp.ediv hg, bq.ediv hg, bc.ediv hg⟩
  · exact Int.le_ediv_of_mul_le hg (by rw [Int.one_mul]; exact gcd_le h1)
  · have : 0 < Int.gcd p q := by omega
    exact Int.gcd_ediv_gcd_ediv_gcd this
/-- a new rule stands at r -/
abbrev tup3 (p q c : Int) : HO := .tup [.int p, .int q, .int c]
theorem low_rule' {k : Nat} {p q c : Int} (h0 : 0 ≤ p) (h1 : 1 ≤ q) (bp : Bd k p) (bq : Bd k q) (bc : Bd k c) : RuleB k (p / gg p q) (q / gg p q) (c / gg p q) := low_rule h0 h1 bp bq bc
theorem low_le {p q : Int} (h1 : 1 ≤ q) : q / (Int.gcd p q : Int) ≤ q := Int.ediv_le_self _ (by omega)
section
variable {P : Program} {w : World} {K : PySem.W.Frag} {mg : Str → Option Value} {base : Heap}
/-! ### _law_gcd, _law_lowest -/
def spGcd : Sp := fun vs H Q _ => ∃ (x y : Int), vs = [.int x, .int y] ∧ 0 ≤ x ∧ 0 ≤ y ∧ Q (.int (Int.gcd x y : Int)) H
def mu1 : L2.St → Hp → Nat := fun σ _ => match σ with
  | _ :: some (.int v) :: _ => v.toNat
  | _ => 0
abbrev s_l_gcd : Stmt := topS 36
abbrev N_l_gcd : List Str := ["_law_one", "_law_other"]
abbrev P_l_gcd : List Str := ["_law_one", "_law_other"]
theorem sc_l_gcd : FnScope N_l_gcd P_l_gcd (defScope s_l_gcd) := ⟨rfl, rfl, rfl, by decide +kernel, rfl, by decide +kernel, by decide +kernel⟩
theorem ok_l_gcd (D : Df K mg "_law_gcd" s_l_gcd P_l_gcd) : C8.Cal P w K mg base 1 "_law_gcd" spGcd [] := by
  refine cal_of D sc_l_gcd (fun vs H Q E h => ?_) (fun f cdv A outer s H vs Q E hr h => ?_)
  · obtain ⟨x, y, rfl, _⟩ := h
    rfl
  · obtain ⟨x, y, rfl, hx, hy, q⟩ := h
    refine ⟨_, (pss_cons (ps_while PassesOwn.never (pt_cmpR op_gt (pv 1) pe_int (nomark _))
      (pss_one (ps_par (i := 0) (j := 1) rfl sc_l_gcd.nd rfl rfl (by decide) rfl rfl (pa_cons (pv 1) (pa_cons (pe_op op_mod (pv 0) (pv 1)) pa_nil)) rfl)))
    (pss_one (ps_ret (pv 0)))), ?_⟩
    refine while_by (fun σ H' => ∃ u v : Int, σ = [some (.int u), some (.int v)] ∧ 0 ≤ u ∧ 0 ≤ v ∧ Int.gcd u v = Int.gcd x y ∧ H' = H) mu1 ⟨x, y, rfl, hx, hy, rfl, rfl⟩ ?_ ?_
    · rintro σ H' ⟨u, v, rfl, hu, hv, e, rfl⟩
      refine ⟨_, rfl, _, _, rfl, rfl, _, rfl, ite2 (fun c => ?_) (fun c => ?_)⟩
      · have hv0 : 0 < v := of_decide_eq_true c
        refine ⟨_, rfl, _, rfl, _, rfl, _, _, rfl, rfl, hv0, _, _, rfl, ⟨v, u % v, rfl, hv, Int.emod_nonneg _ (by omega), ?_, rfl⟩, ?_⟩
        · rw [gcd_turn u v hu hv0]; exact e
        · show (u % v).toNat < v.toNat
          have := Int.emod_lt_of_pos u hv0
          omega
      · have hv0 : v = 0 := by
          have : ¬ 0 < v := fun z => c (decide_eq_true z)
          omega
        subst hv0
        refine ⟨_, rfl, ?_⟩
        have e2 : (Int.gcd x y : Int) = u := by
          rw [← e, Int.gcd_zero_right]
          omega
        rw [← e2]
        exact q
    · rintro σ H' Q1 Q2 hQ ⟨v, h1, i, j, h2, h3, b, h4, h5⟩
      exact ⟨v, h1, i, j, h2, h3, b, h4, hQ _ _ h5⟩
end
end Lf
namespace Lf
open PySem PySem.Spec PyProof.Rows L2
/-! ### objects in a row -/
inductive Obs {α : Type} (O : α → HO) (H : Hp) : List V → List α → Prop
  | nil : Obs O H [] []
  | cons {r : Addr} {vs : List V} {d : α} {ds : List α} : H r = some (O d) → Obs O H vs ds → Obs O H (.ref r :: vs) (d :: ds)
section
variable {α : Type} {O : α → HO} {H H' : Hp}
theorem Obs.len {vs : List V} {ds : List α} (h : Obs O H vs ds) : vs.length = ds.length := by
  induction h with
  | nil => rfl
  | cons _ _ ih => rw [List.length_cons, List.length_cons, ih]
theorem Obs.at {vs : List V} {ds : List α} (h : Obs O H vs ds) : ∀ {i : Nat} {x : V}, vs[i]? = some x → ∃ r d, x = .ref r ∧ H r = some (O d) ∧ ds[i]? = some d := by
  induction h with
  | nil =>
    intro i x e
    cases e
  | cons e0 _ ih =>
    intro i x e
    cases i with
    | zero =>
      cases e
      exact ⟨_, _, rfl, e0, rfl⟩
    | succ i => exact ih e
theorem Obs.on {vs : List V} {ds : List α} (h : Obs O H vs ds) : ∀ {i : Nat} {d : α}, ds[i]? = some d → ∃ r, vs[i]? = some (.ref r) ∧ H r = some (O d) := by
  induction h with
  | nil =>
    intro i x e
    cases e
  | cons e0 _ ih =>
    intro i x e
    cases i with
    | zero =>
      cases e
      exact ⟨_, rfl, e0⟩
    | succ i => exact ih e
theorem Obs.keep {vs : List V} {ds : List α} (h : Obs O H vs ds) (f : ∀ b d, H b = some (O d) → H' b = some (O d)) : Obs O H' vs ds := by
  induction h with
  | nil => exact .nil
  | cons e0 _ ih => exact .cons (f _ _ e0) ih
theorem Obs.same {vs : List V} {ds : List α} (h : Obs O H vs ds) (s : Same H H') : Obs O H' vs ds := h.keep fun b d e => s _ _ e
theorem Obs.snoc {vs : List V} {ds : List α} {r : Addr} {d : α} (h : Obs O H vs ds) (e : H r = some (O d)) : Obs O H (vs ++ [.ref r]) (ds ++ [d]) := by
  induction h with
  | nil => exact .cons e .nil
  | cons e0 _ ih => exact .cons e0 ih
theorem Obs.app {vs us : List V} {ds es : List α} (h : Obs O H vs ds) (h2 : Obs O H us es) : Obs O H (vs ++ us) (ds ++ es) := by
  induction h with
  | nil => exact h2
  | cons e0 _ ih => exact .cons e0 ih
theorem Obs.drop {vs : List V} {ds : List α} (h : Obs O H vs ds) : ∀ n, Obs O H (vs.drop n) (ds.drop n) := by
  induction h with
  | nil =>
    intro n
    rw [List.drop_nil, List.drop_nil]
    exact .nil
  | cons e0 h ih =>
    intro n
    cases n with
    | zero => exact .cons e0 h
    | succ n => exact ih n
theorem Obs.take {vs : List V} {ds : List α} (h : Obs O H vs ds) : ∀ n, Obs O H (vs.take n) (ds.take n) := by
  induction h with
  | nil =>
    intro n
    rw [List.take_nil, List.take_nil]
    exact .nil
  | cons e0 h ih =>
    intro n
    cases n with
    | zero => exact .nil
    | succ n => exact .cons e0 (ih n)
end
/-! ### records -/
structure Rec where
  lo : Bool
  t : Int
  n : Int
def wd : Bool → Str
  | true => "at least"
  | false => "at most"
abbrev rcO (d : Rec) : HO := .tup [.str (wd d.lo), .int d.t, .int d.n]
theorem w_lo (b : Bool) : decide (V.str (wd b) = V.str ("at least" : Str)) = b := by
  cases b
  · exact decide_eq_false (by intro z; exact absurd (V.str.inj z) (by decide +kernel))
  · exact decide_eq_true rfl
theorem w_hi (b : Bool) : decide (V.str (wd b) = V.str ("at most" : Str)) = !b := by
  cases b
  · exact decide_eq_true rfl
  · exact decide_eq_false (by intro z; exact absurd (V.str.inj z) (by decide +kernel))
def RcB (k : Nat) (ds : List Rec) : Prop := ∀ d ∈ ds, Bd k d.t ∧ Bd k d.n
theorem RcB.mono {k j : Nat} {ds : List Rec} (h : RcB k ds) (e : k ≤ j) : RcB j ds := fun d hd => ⟨(h d hd).1.mono e, (h d hd).2.mono e⟩
theorem Obs.fr {H H' : Hp} {vs : List V} {ds : List Rec} (h : Obs rcO H vs ds) (f : Fr H H') : Obs rcO H' vs ds := h.keep fun b d e => f.t _ _ e
/-- what split_records gives: index, time, count -/
abbrev T3 := Int × Int × Int
abbrev trO (x : T3) : HO := .tup [.int x.1, .int x.2.1, .int x.2.2]
def sel (b : Bool) : Nat → List Rec → List T3
  | _, [] => []
  | k, d :: ds => if d.lo = b then ((k : Int), d.t, d.n) :: sel b (k + 1) ds else sel b (k + 1) ds
theorem sel_snoc (b : Bool) (k : Nat) (ds : List Rec) (d : Rec) : sel b k (ds ++ [d]) = sel b k ds ++ (if d.lo = b then [(((k + ds.length : Nat) : Int), d.t, d.n)] else []) := by
  induction ds generalizing k with
  | nil =>
    show (if d.lo = b then _ else _) = _
    by_cases h : d.lo = b
    · rw [if_pos h, if_pos h]
      rfl
    · rw [if_neg h, if_neg h]
      rfl
  | cons e r ih =>
    show (if e.lo = b then ((k : Int), e.t, e.n) :: sel b (k + 1) (r ++ [d]) else sel b (k + 1) (r ++ [d])) = (if e.lo = b then _ else _) ++ _
    rw [ih (k + 1), List.length_cons, show k + 1 + r.length = k + (r.length + 1) by omega]
    by_cases h : e.lo = b
    · rw [if_pos h, if_pos h]
      rfl
    · rw [if_neg h, if_neg h]
theorem sel_len (b : Bool) (k : Nat) (ds : List Rec) : (sel b k ds).length ≤ ds.length := by
  induction ds generalizing k with
  | nil => exact Nat.le_refl _
  | cons e r ih =>
    show (if e.lo = b then _ else _ : List T3).length ≤ _
    have := ih (k + 1)
    by_cases h : e.lo = b
    · rw [if_pos h, List.length_cons, List.length_cons]
      omega
    · rw [if_neg h, List.length_cons]
      omega
theorem sel_take {b : Bool} {ds : List Rec} {i : Nat} {d : Rec} (e : ds[i]? = some d) : sel b 0 (ds.take (i + 1)) = sel b 0 (ds.take i) ++ (if d.lo = b then [((i : Int), d.t, d.n)] else []) := by
  have hi : i < ds.length := (List.getElem?_eq_some_iff.mp e).1
  rw [List.take_add_one, e]
  show sel b 0 (ds.take i ++ [d]) = _
  rw [sel_snoc, List.length_take, Nat.min_eq_left (by omega), Nat.zero_add]
/-- each of them speaks of a record at its index -/
theorem sel_mem {b : Bool} {k : Nat} {ds : List Rec} {x : T3} (h : x ∈ sel b k ds) : ∃ (i : Nat) (d : Rec), ds[i]? = some d ∧ d.lo = b ∧ x = (((k + i : Nat) : Int), d.t, d.n) := by
  induction ds generalizing k with
  | nil => cases h
  | cons e r ih =>
    have h : x ∈ (if e.lo = b then ((k : Int), e.t, e.n) :: sel b (k + 1) r else sel b (k + 1) r) := h
    have up : x ∈ sel b (k + 1) r → ∃ (i : Nat) (d : Rec), (e :: r)[i]? = some d ∧ d.lo = b ∧ x = (((k + i : Nat) : Int), d.t, d.n) := fun z => by
      obtain ⟨i, d, h1, h2, h3⟩ := ih z
      exact ⟨i + 1, d, h1, h2, by rw [h3, show k + 1 + i = k + (i + 1) by omega]⟩
    by_cases hb : e.lo = b
    · rw [if_pos hb] at h
      rcases List.mem_cons.mp h with rfl | h
      · exact ⟨0, e, rfl, hb, rfl⟩
      · exact up h
    · rw [if_neg hb] at h
      exact up h
theorem mem_sel {b : Bool} {ds : List Rec} {i : Nat} {d : Rec} (e : ds[i]? = some d) (hb : d.lo = b) : ∀ k, (((k + i : Nat) : Int), d.t, d.n) ∈ sel b k ds := by
  induction ds generalizing i with
  | nil => cases e
  | cons f r ih =>
    intro k
    show _ ∈ (if f.lo = b then _ else _)
    cases i with
    | zero =>
      cases e
      rw [if_pos hb]
      exact List.mem_cons_self
    | succ i =>
      have := ih e (k + 1)
      rw [show k + 1 + i = k + (i + 1) by omega] at this
      by_cases h : f.lo = b
      · rw [if_pos h]
        exact List.mem_cons_of_mem _ this
      · rw [if_neg h]
        exact this
theorem sel_bd {k : Nat} {b : Bool} {ds : List Rec} (h : RcB k ds) {x : T3} (hx : x ∈ sel b 0 ds) : Bd k x.2.1 ∧ Bd k x.2.2 := by
  obtain ⟨i, d, e, _, rfl⟩ := sel_mem hx
  exact h d (List.mem_of_getElem? e)
/-- what a list has as its greatest -/
def IsMx (l : List Int) : Option Int → Prop
  | none => l = []
  | some m => m ∈ l ∧ ∀ y ∈ l, y ≤ m
def IsMn (l : List Int) : Option Int → Prop
  | none => l = []
  | some m => m ∈ l ∧ ∀ y ∈ l, m ≤ y
def oV : Option Int → V
  | none => .non
  | some i => .int i
theorem maxOf_mx (x : Int) (xs : List Int) : PySem.W.maxOf x xs ∈ x :: xs ∧ ∀ y ∈ x :: xs, y ≤ PySem.W.maxOf x xs := by
  induction xs generalizing x with
  | nil => exact ⟨List.mem_cons_self, fun y hy => by rw [List.mem_singleton.mp hy]; exact Int.le_refl _⟩
  | cons z r ih =>
    have e : PySem.W.maxOf x (z :: r) = PySem.W.maxOf (if decide (x < z) = true then z else x) r := rfl
    rw [e]
    obtain ⟨h1, h2⟩ := ih (if decide (x < z) = true then z else x)
    refine ⟨?_, fun y hy => ?_⟩
    · rcases List.mem_cons.mp h1 with h | h
      · rw [h]
        by_cases c : x < z
        · rw [if_pos (decide_eq_true c)]
          exact List.mem_cons_of_mem _ List.mem_cons_self
        · rw [if_neg (fun h => c (of_decide_eq_true h))]
          exact List.mem_cons_self
      · exact List.mem_cons_of_mem _ (List.mem_cons_of_mem _ h)
    · have g := h2 _ List.mem_cons_self
      have gx : x ≤ PySem.W.maxOf (if decide (x < z) = true then z else x) r ∧ z ≤ PySem.W.maxOf (if decide (x < z) = true then z else x) r := by
        by_cases c : x < z
        · rw [if_pos (decide_eq_true c)] at g ⊢
          exact ⟨by omega, g⟩
        · rw [if_neg (fun h => c (of_decide_eq_true h))] at g ⊢
          exact ⟨g, by omega⟩
      rcases List.mem_cons.mp hy with rfl | hy
      · exact gx.1
      · rcases List.mem_cons.mp hy with rfl | hy
        · exact gx.2
        · exact h2 _ (List.mem_cons_of_mem _ hy)
theorem minOf_mn (x : Int) (xs : List Int) : PySem.W.minOf x xs ∈ x :: xs ∧ ∀ y ∈ x :: xs, PySem.W.minOf x xs ≤ y := by
  induction xs generalizing x with
  | nil => exact ⟨List.mem_cons_self, fun y hy => by rw [List.mem_singleton.mp hy]; exact Int.le_refl _⟩
  | cons z r ih =>
    have e : PySem.W.minOf x (z :: r) = PySem.W.minOf (if decide (z < x) = true then z else x) r := rfl
    rw [e]
    obtain ⟨h1, h2⟩ := ih (if decide (z < x) = true then z else x)
    refine ⟨?_, fun y hy => ?_⟩
    · rcases List.mem_cons.mp h1 with h | h
      · rw [h]
        by_cases c : z < x
        · rw [if_pos (decide_eq_true c)]
          exact List.mem_cons_of_mem _ List.mem_cons_self
        · rw [if_neg (fun h => c (of_decide_eq_true h))]
          exact List.mem_cons_self
      · exact List.mem_cons_of_mem _ (List.mem_cons_of_mem _ h)
    · have g := h2 _ List.mem_cons_self
      have gx : PySem.W.minOf (if decide (z < x) = true then z else x) r ≤ x ∧ PySem.W.minOf (if decide (z < x) = true then z else x) r ≤ z := by
        by_cases c : z < x
        · rw [if_pos (decide_eq_true c)] at g ⊢
          exact ⟨by omega, g⟩
        · rw [if_neg (fun h => c (of_decide_eq_true h))] at g ⊢
          exact ⟨g, by omega⟩
      rcases List.mem_cons.mp hy with rfl | hy
      · exact gx.1
      · rcases List.mem_cons.mp hy with rfl | hy
        · exact gx.2
        · exact h2 _ (List.mem_cons_of_mem _ hy)
/-- max(list, default=d), min(list, default=d) -/
def rMxD (K : PySem.W.Frag) : List V → List V → Hp → VK → Prop := fun vs zs H Q => ∃ (a : Addr) (ns : List Int), vs = [V.ref a] ∧ zs = [.non] ∧ SqL K H a (ns.map V.int) ∧ ∀ m, IsMx ns m → Q (oV m) H
def rMnD (K : PySem.W.Frag) : List V → List V → Hp → VK → Prop := fun vs zs H Q => ∃ (a : Addr) (ns : List Int), vs = [V.ref a] ∧ zs = [.non] ∧ SqL K H a (ns.map V.int) ∧ ∀ m, IsMn ns m → Q (oV m) H
theorem cr_maxD {X : Cx} (hc : X.calm = true) (hu : X.A.units + 64 < cLine) : CallRK X (.builtin "max") [Str.ofString "default"] (rMxD X.K) := by
  intro pins s σ H xs zs us ws Q I r rz h
  obtain ⟨a, ns, rfl, rfl, hs, q⟩ := h
  obtain ⟨its, rv, hl, _⟩ := I.list hs
  rw [Vals.ref1 r]
  obtain ⟨d, rfl, rd⟩ := vals1 rz
  have ed : d = Value.none := rd
  subst ed
  refine PySem.W.max_list_datum_default (α := Int) (xs := ns) (I.ok.hd hc) hl.isList (by simpa using PySem.W.HoldAll.of_ints rv.ints) (by show _ + 1 + 0 < _; omega) (fun e h' tk hk => ⟨.non, H, I.kept hk, rfl, q none e⟩) fun y ys i v h' tk e hv hh hk => ?_
  obtain ⟨as, hr⟩ := hh
  obtain ⟨t, rfl⟩ : ∃ t, v = Value.int (PySem.W.maxOf y ys) t := by
    cases hr
    exact ⟨_, rfl⟩
  exact ⟨.int _, H, I.kept hk, ⟨_, rfl⟩, q (some _) (by rw [e]; exact maxOf_mx y ys)⟩
theorem cr_minD {X : Cx} (hc : X.calm = true) (hu : X.A.units + 64 < cLine) : CallRK X (.builtin "min") [Str.ofString "default"] (rMnD X.K) := by
  intro pins s σ H xs zs us ws Q I r rz h
  obtain ⟨a, ns, rfl, rfl, hs, q⟩ := h
  obtain ⟨its, rv, hl, _⟩ := I.list hs
  rw [Vals.ref1 r]
  obtain ⟨d, rfl, rd⟩ := vals1 rz
  have ed : d = Value.none := rd
  subst ed
  refine PySem.W.min_list_datum_default (α := Int) (xs := ns) (I.ok.hd hc) hl.isList (by simpa using PySem.W.HoldAll.of_ints rv.ints) (by show _ + 1 + 0 < _; omega) (fun e h' tk hk => ⟨.non, H, I.kept hk, rfl, q none e⟩) fun y ys i v h' tk e hv hh hk => ?_
  obtain ⟨as, hr⟩ := hh
  obtain ⟨t, rfl⟩ : ∃ t, v = Value.int (PySem.W.minOf y ys) t := by
    cases hr
    exact ⟨_, rfl⟩
  exact ⟨.int _, H, I.kept hk, ⟨_, rfl⟩, q (some _) (by rw [e]; exact minOf_mn y ys)⟩
end Lf
namespace Lf
open PySem PySem.Spec PyProof.Rows L2
theorem iteD {c A B : Prop} [Decidable c] (hc : c) (h : A) : if decide c = true then A else B := by
  rw [if_pos (decide_eq_true hc)]
  exact h
theorem iteDn {c A B : Prop} [Decidable c] (hc : ¬ c) (h : B) : if decide c = true then A else B := by
  rw [if_neg (fun z => hc (of_decide_eq_true z))]
  exact h
theorem iteTs {b : Bool} {A B : Prop} (h : b = true) (hA : A) : if b = true then A else B := by
  rw [h, if_pos rfl]
  exact hA
theorem iteFz {b : Bool} {A B : Prop} (h : b = false) (hB : B) : if b = true then A else B := by
  rw [h, if_neg Bool.false_ne_true]
  exact hB
theorem bool_f {b : Bool} (h : ¬ b = true) : b = false := by
  cases b
  · rfl
  · exact absurd rfl h
theorem lenS {n : Nat} (h : n ≤ 100000) : n ≤ sizeLine := by
  rw [sizeLine_eq]
  omega
theorem ltS {n : Nat} (h : n ≤ 100000) : n < sizeLine := by
  rw [sizeLine_eq]
  omega
theorem flat_is (ns : List Int) : (ns.map V.int).all flatV = true := by
  induction ns with
  | nil => rfl
  | cons n r ih => simpa [flatV] using ih
theorem mulW {a b : Nat} {x y : Int} (h : Bd a x) (h2 : Bd b y) (ha : 0 < a) (hb : 0 < b) (hab : a + b ≤ 1000000) : CMulW x y := wide_mul h h2 ha hb hab
theorem divW {b : Nat} {x y : Int} (h0 : 0 < y) (h : Bd b y) (hb : b ≤ 9000) : CDivW x y := ⟨h0, (h.mono hb).log (by decide)⟩
theorem divP {b : Nat} {x y : Int} (h0 : 0 < y) (h : Bd b y) (hb : b ≤ 9000) : CDivP x y := ⟨h0, PyProof.noPylong_of_log2 ((h.mono hb).log (by decide))⟩
theorem kii : kitB "int" "int" = some true := by decide +kernel
theorem kib : kitB "int" "bool" = some false := by decide +kernel
theorem ktt : kitB "tuple" "tuple" = some true := by decide +kernel
section
variable {P : Program} {w : World} {K : PySem.W.Frag} {mg : Str → Option Value} {base : Heap}
/-! ### integers -/
def spIsInt : Sp := fun vs H Q _ => ∃ i : Int, vs = [.int i] ∧ Q (.bl true) H
abbrev s_is_integer : Stmt := topS 7
abbrev N_is_integer : List Str := ["value"]
abbrev P_is_integer : List Str := ["value"]
theorem sc_is_integer : FnScope N_is_integer P_is_integer (defScope s_is_integer) := ⟨rfl, rfl, rfl, by decide +kernel, rfl, by decide +kernel, by decide +kernel⟩
theorem ok_is_integer (D : Df K mg "is_integer" s_is_integer P_is_integer) (B : Bi mg) : C8.Cal P w K mg base 1 "is_integer" spIsInt [] := by
  refine cal_of D sc_is_integer (fun vs H Q E h => ?_) (fun f cdv A outer s H vs Q E hr h => ?_)
  · obtain ⟨i, rfl, _⟩ := h
    rfl
  · obtain ⟨i, rfl, q⟩ := h
    refine ⟨_, (pss_one (ps_ret (pe_and (pe_callB (call_isi) (by rfl) B.isinstance_ bt_isinstance (pa_cons (pv 0) (pa_cons (pe_bltn (v := .ty "int") (by rfl) B.int_ bt_int rfl) pa_nil))) (pe_one (pe_not (pe_callB (call_isi) (by rfl) B.isinstance_ bt_isinstance (pa_cons (pv 0) (pa_cons (pe_bltn (v := .ty "bool") (by rfl) B.bool_ bt_bool rfl) pa_nil)))))))), ?_⟩
    refine ⟨_, rfl, _, _, _, _, true, rfl, .ty "int", .base (.int i), kit_ty kii, true, rfl, iteT ?_⟩
    exact ⟨_, rfl, _, _, _, _, false, rfl, .ty "bool", .base (.int i), kit_ty kib, false, rfl, q⟩
def spCheckInt : Sp := fun vs H Q _ => ∃ i : Int, vs = [.int i] ∧ Q .non H
end
end Lf
namespace Lf
open PySem PySem.Spec PyProof.Rows L2
section
variable {P : Program} {w : World} {K : PySem.W.Frag} {mg : Str → Option Value} {base : Heap}
abbrev s_gcd : Stmt := topS 8
abbrev N_gcd : List Str := ["first", "second"]
abbrev P_gcd : List Str := ["first", "second"]
theorem sc_gcd : FnScope N_gcd P_gcd (defScope s_gcd) := ⟨rfl, rfl, rfl, by decide +kernel, rfl, by decide +kernel, by decide +kernel⟩
theorem ok_gcd (D : Df K mg "gcd" s_gcd P_gcd) : C8.Cal P w K mg base 1 "gcd" spGcd [] := by
  refine cal_of D sc_gcd (fun vs H Q E h => ?_) (fun f cdv A outer s H vs Q E hr h => ?_)
  · obtain ⟨x, y, rfl, _⟩ := h
    rfl
  · obtain ⟨x, y, rfl, hx, hy, q⟩ := h
    refine ⟨_, (pss_cons (ps_while PassesOwn.never (pt_truth (pv 1) (fun _ => rfl))
      (pss_one (ps_par (i := 0) (j := 1) rfl sc_gcd.nd rfl rfl (by decide) rfl rfl (pa_cons (pv 1) (pa_cons (pe_op op_mod (pv 0) (pv 1)) pa_nil)) rfl)))
    (pss_one (ps_ret (pv 0)))), ?_⟩
    refine while_by (fun σ H' => ∃ u v : Int, σ = [some (.int u), some (.int v)] ∧ 0 ≤ u ∧ 0 ≤ v ∧ Int.gcd u v = Int.gcd x y ∧ H' = H) mu1 ⟨x, y, rfl, hx, hy, rfl, rfl⟩ ?_ ?_
    · rintro σ H' ⟨u, v, rfl, hu, hv, e, rfl⟩
      refine ⟨_, rfl, _, rfl, ite2 (fun c => ?_) (fun c => ?_)⟩
      · have hv0 : 0 < v := by
          have : v ≠ 0 := by simpa using c
          omega
        refine ⟨_, rfl, _, rfl, _, rfl, _, _, rfl, rfl, hv0, _, _, rfl, ⟨v, u % v, rfl, hv, Int.emod_nonneg _ (by omega), ?_, rfl⟩, ?_⟩
        · rw [gcd_turn u v hu hv0]; exact e
        · show (u % v).toNat < v.toNat
          have := Int.emod_lt_of_pos u hv0
          omega
      · have hv0 : v = 0 := by simpa using c
        subst hv0
        refine ⟨_, rfl, ?_⟩
        have e2 : (Int.gcd x y : Int) = u := by
          rw [← e, Int.gcd_zero_right]
          omega
        rw [← e2]
        exact q
    · rintro σ H' Q1 Q2 hQ ⟨v, h1, b, h4, h5⟩
      exact ⟨v, h1, b, h4, hQ _ _ h5⟩
/-! ### rules -/
def spIsRule : Sp := fun vs H Q _ => ∃ (r : Addr) (p q c : Int) (k : Nat), vs = [.ref r] ∧ H r = some (.tup [.int p, .int q, .int c]) ∧ RuleB k p q c ∧ ∀ H', Same H H' → Q (.bl true) H'
def spCheckRule : Sp := fun vs H Q _ => ∃ (r : Addr) (p q c : Int) (k : Nat), vs = [.ref r] ∧ H r = some (.tup [.int p, .int q, .int c]) ∧ RuleB k p q c ∧ ∀ H', Same H H' → Q .non H'
end
end Lf
namespace Lf
open PySem PySem.Spec PyProof.Rows L2
def Btw (p q t b x y : Int) : Prop := p * y < x * q ∧ x * b < t * y
structure Sim (p q t b N D : Int) : Prop where
  d1 : 1 ≤ D
  n1 : 1 ≤ N
  bt : Btw p q t b N D
  mi : ∀ x y, 1 ≤ y → Btw p q t b x y → D ≤ y ∧ N ≤ x
theorem pos_of_mul {a b : Int} (h : 0 < a * b) (hb : 0 ≤ b) : 0 < a := by
  rcases Int.lt_or_le 0 a with z | z
  · exact z
  · have := Int.mul_le_mul_of_nonneg_right z hb
    rw [Int.zero_mul] at this
    omega
theorem sim_base {p q t b : Int} (hp : 0 ≤ p) (hq : 1 ≤ q) (h : (p / q + 1) * b < t) : Sim p q t b (p / q + 1) 1 := by
  have w0 : 0 ≤ p / q := Int.ediv_nonneg hp (by omega)
  have w1 : p < (p / q + 1) * q := Int.lt_ediv_add_one_mul_self p (by omega)
  have w2 : p / q * q ≤ p := Int.ediv_mul_le p (by omega)
  generalize p / q = w at *
  refine ⟨by omega, by omega, ⟨by omega, by omega⟩, fun x y hy hb => ⟨hy, ?_⟩⟩
  have h1 := Int.mul_le_mul_of_nonneg_right w2 (show 0 ≤ y by omega)
  have h2 : 0 < (x - w * y) * q := by
    have e : w * q * y = w * y * q := by grind
    have := hb.1
    rw [Int.sub_mul]
    omega
  have h3 := pos_of_mul h2 (by omega)
  have h4 := Int.mul_le_mul_of_nonneg_left hy w0
  omega
theorem sim_step {p q t b N D : Int} (hp : 0 ≤ p) (hq : 1 ≤ q) (s : Sim b (t - p / q * b) q (p - p / q * q) N D) : Sim p q t b (p / q * N + D) N := by
  have w0 : 0 ≤ p / q := Int.ediv_nonneg hp (by omega)
  have w2 : p / q * q ≤ p := Int.ediv_mul_le p (by omega)
  generalize p / q = w at *
  obtain ⟨d1, n1, ⟨b1, b2⟩, mi⟩ := s
  have n0 := Int.mul_nonneg w0 (show 0 ≤ N by omega)
  refine ⟨n1, by omega, ⟨by grind, by grind⟩, fun x y hy ⟨g1, g2⟩ => ?_⟩
  have h1 := Int.mul_le_mul_of_nonneg_right w2 (show 0 ≤ y by omega)
  have h2 : 0 < (x - w * y) * q := by grind
  have h3 := pos_of_mul h2 (by omega)
  obtain ⟨m1, m2⟩ := mi y (x - w * y) (by omega) ⟨by grind, by grind⟩
  have h4 := Int.mul_le_mul_of_nonneg_left m2 w0
  exact ⟨m2, by omega⟩
/-- what the loop of wholes says, read backwards -/
def fold2 : List Int → Int × Int → Int × Int
  | [], x => x
  | w :: r, x => (w * (fold2 r x).1 + (fold2 r x).2, (fold2 r x).1)
theorem fold2_snoc (l : List Int) (w N D : Int) : fold2 (l ++ [w]) (N, D) = fold2 l (w * N + D, N) := by
  induction l with
  | nil => rfl
  | cons v r ih =>
    show (v * (fold2 (r ++ [w]) (N, D)).1 + (fold2 (r ++ [w]) (N, D)).2, (fold2 (r ++ [w]) (N, D)).1) = _
    rw [ih]
    rfl
structure Iv (k : Nat) (p q t b : Int) : Prop where
  p0 : 0 ≤ p
  q1 : 1 ≤ q
  b0 : 0 ≤ b
  lt : p * b < t * q
  bp : Bd k p
  bq : Bd k q
  bt : Bd k t
  bb : Bd k b
theorem Iv.mono {k j : Nat} {p q t b : Int} (I : Iv k p q t b) (h : k ≤ j) : Iv j p q t b := ⟨I.p0, I.q1, I.b0, I.lt, I.bp.mono h, I.bq.mono h, I.bt.mono h, I.bb.mono h⟩
theorem Iv.t1 {k : Nat} {p q t b : Int} (I : Iv k p q t b) : 1 ≤ t := by
  have h1 := Int.mul_nonneg I.p0 I.b0
  have h2 := I.lt
  have := pos_of_mul (a := t) (b := q) (by omega) (by have := I.q1; omega)
  omega
theorem Iv.next {k : Nat} {p q t b : Int} (I : Iv k p q t b) (h : t ≤ (p / q + 1) * b) : Iv k b (t - p / q * b) q (p - p / q * q) ∧ 1 ≤ b ∧ t - p / q * b ≤ b ∧ p - p / q * q < q := by
  have t1 := I.t1
  obtain ⟨p0, q1, b0, lt, bp, bq, bt, bb⟩ := I
  have w0 : 0 ≤ p / q := Int.ediv_nonneg p0 (by omega)
  have w1 : p < (p / q + 1) * q := Int.lt_ediv_add_one_mul_self p (by omega)
  have w2 : p / q * q ≤ p := Int.ediv_mul_le p (by omega)
  generalize p / q = w at *
  have b1 : 1 ≤ b := by
    rcases Int.lt_or_le 0 b with z | z
    · exact z
    · have : b = 0 := by omega
      subst this
      rw [Int.mul_zero] at h
      omega
  have h1 : 0 < (t - w * b) * q := by
    have := Int.mul_le_mul_of_nonneg_right w2 b0
    grind
  have h2 := pos_of_mul h1 (by omega)
  have h3 : t - w * b ≤ b := by
    rw [Int.add_mul] at h
    omega
  have h4 : p - w * q < q := by
    rw [Int.add_mul] at w1
    omega
  exact ⟨⟨b0, by omega, by omega, by grind, bb, bb.between (by omega) h3, bq, bq.between (by omega) (by omega)⟩, b1, h3, h4⟩
theorem Iv.med {k : Nat} {p q t b N D : Int} (I : Iv k p q t b) (s : Sim p q t b N D) : D ≤ q + b ∧ N ≤ p + t := by
  have h := I.lt
  have := I.q1
  have := I.b0
  exact s.mi (p + t) (q + b) (by omega) ⟨by grind, by grind⟩
theorem Iv.bds {k : Nat} {p q t b N D : Int} (I : Iv k p q t b) (s : Sim p q t b N D) : Bd (k + 1) N ∧ Bd (k + 1) D := by
  obtain ⟨m1, m2⟩ := I.med s
  have := s.n1
  have := s.d1
  exact ⟨(Bd.add I.bp I.bt).between (by omega) m2, (Bd.add I.bq I.bb).between (by omega) m1⟩
structure Lw (k : Nat) (p0 q0 t0 b0 : Int) (ws : List Int) (p q t b : Int) : Prop where
  iv : Iv k p q t b
  c : ∀ l1 l2, ws = l1 ++ l2 → ∀ N D, Sim p q t b N D → Bd (k + 1) (fold2 l2 (N, D)).1 ∧ Bd (k + 1) (fold2 l2 (N, D)).2
  a : ∀ N D, Sim p q t b N D → Sim p0 q0 t0 b0 (fold2 ws (N, D)).1 (fold2 ws (N, D)).2
  d : ∀ w ∈ ws, Bd k w
  n : (ws = [] ∧ q = q0 ∧ b = b0) ∨ (q ≤ p ∧ (p * b).toNat * 2 ^ ws.length ≤ (2 * (q0 * b0)).toNat)
theorem Lw.init {k : Nat} {p q t b : Int} (I : Iv k p q t b) : Lw k p q t b [] p q t b :=
  ⟨I, fun l1 l2 e N D s => by
    have : l2 = [] := (List.append_eq_nil_iff.mp e.symm).2
    subst this
    exact I.bds s, fun N D s => s, fun w hw => by simp at hw, .inl ⟨rfl, rfl, rfl⟩⟩
theorem Lw.next {k : Nat} {p0 q0 t0 b0 p q t b : Int} {ws : List Int} (L : Lw k p0 q0 t0 b0 ws p q t b) (h : t ≤ (p / q + 1) * b) : Lw k p0 q0 t0 b0 (ws ++ [p / q]) b (t - p / q * b) q (p - p / q * q) := by
  have I := L.iv
  obtain ⟨I2, b1, h3, h4⟩ := I.next h
  have st : ∀ N D, Sim b (t - p / q * b) q (p - p / q * q) N D → Sim p q t b (p / q * N + D) N := fun N D s => sim_step I.p0 I.q1 s
  refine ⟨I2, fun l1 l2 e N D s => ?_, fun N D s => ?_, fun w hw => ?_, .inr ⟨h3, ?_⟩⟩
  · rcases List.eq_nil_or_concat l2 with rfl | ⟨l', w', rfl⟩
    · exact I2.bds s
    · rw [List.concat_eq_append, ← List.append_assoc] at e
      obtain ⟨e1, e2⟩ := List.append_inj' e rfl
      have e3 : p / q = w' := by simpa using e2
      rw [List.concat_eq_append, ← e3, fold2_snoc]
      exact L.c l1 l' e1 _ _ (st N D s)
  · rw [fold2_snoc]
    exact L.a _ _ (st N D s)
  · rcases List.mem_append.mp hw with z | z
    · exact L.d w z
    · rw [List.mem_singleton.mp z]
      exact I.bp.ediv (by have := I.q1; omega)
  · have r0 := I2.b0
    rw [List.length_append, List.length_singleton, Nat.pow_succ]
    rcases L.n with ⟨rfl, rfl, rfl⟩ | ⟨hq, hn⟩
    · have := Int.mul_le_mul_of_nonneg_left (show p - p / q * q ≤ q by omega) (show 0 ≤ b by omega)
      rw [Int.mul_comm q b]
      simp only [List.length_nil, Nat.pow_zero, Nat.one_mul]
      generalize b * (p - p / q * q) = x at *
      generalize b * q = y at *
      omega
    · refine Nat.le_trans ?_ hn
      rw [Nat.mul_comm (2 ^ ws.length) 2, ← Nat.mul_assoc]
      refine Nat.mul_le_mul_right _ ?_
      have w1 : 1 ≤ p / q := Int.le_ediv_of_mul_le (by have := I.q1; omega) (by omega)
      have h5 := Int.mul_le_mul_of_nonneg_right w1 (show 0 ≤ q by have := I.q1; omega)
      have h6 := Int.mul_le_mul_of_nonneg_left (show 2 * (p - p / q * q) ≤ p by omega) (show 0 ≤ b by omega)
      generalize p - p / q * q = r at *
      have e1 : b * (2 * r) = 2 * (b * r) := by grind
      rw [e1, Int.mul_comm b p] at h6
      have := Int.mul_nonneg (show 0 ≤ b by omega) r0
      generalize b * r = x at *
      generalize p * b = y at *
      omega
theorem Lw.len {k : Nat} {p0 q0 t0 b0 p q t b : Int} {ws : List Int} (L : Lw k p0 q0 t0 b0 ws p q t b) (b1 : 1 ≤ b) (bq : Bd k q0) (bb : Bd k b0) : ws.length < 2 * k + 2 := by
  rcases L.n with ⟨rfl, _⟩ | ⟨hq, hn⟩
  · simp
  · have B1 : Bd (k + k + 1) (2 * (q0 * b0)) := by
      have := Bd.add (Bd.mul bq bb) (Bd.mul bq bb)
      rw [show 2 * (q0 * b0) = q0 * b0 + q0 * b0 by omega]
      exact this
    have p1 : 1 ≤ p * b := by
      have := Int.mul_le_mul (show 1 ≤ p by have := L.iv.q1; omega) b1 (by omega) (by have := L.iv.p0; omega)
      omega
    unfold Bd at B1
    have h2 : 2 ^ ws.length ≤ (p * b).toNat * 2 ^ ws.length := Nat.le_mul_of_pos_left _ (by omega)
    have h3 : 2 ^ ws.length < 2 ^ (k + k + 1) := by omega
    have := (Nat.pow_lt_pow_iff_right (by decide)).mp h3
    omega
section
variable {P : Program} {w : World} {K : PySem.W.Frag} {mg : Str → Option Value} {base : Heap}
/-! ### rates -/
structure Rt (k : Nat) (p q : Int) : Prop where
  p0 : 0 ≤ p
  q1 : 1 ≤ q
  g : Int.gcd p q = 1
  bp : Bd k p
  bq : Bd k q
theorem Rt.mono {k j : Nat} {p q : Int} (h : Rt k p q) (e : k ≤ j) : Rt j p q := ⟨h.p0, h.q1, h.g, h.bp.mono e, h.bq.mono e⟩
abbrev tup2 (p q : Int) : HO := .tup [.int p, .int q]
def spIsRate : Sp := fun vs H Q _ => ∃ (r : Addr) (p q : Int) (k : Nat), vs = [.ref r] ∧ H r = some (tup2 p q) ∧ Rt k p q ∧ Q (.bl true) H
abbrev s_is_rate : Stmt := topS 10
abbrev N_is_rate : List Str := ["value"]
abbrev P_is_rate : List Str := ["value"]
theorem sc_is_rate : FnScope N_is_rate P_is_rate (defScope s_is_rate) := ⟨rfl, rfl, rfl, by decide +kernel, rfl, by decide +kernel, by decide +kernel⟩
theorem ok_is_rate (D : Df K mg "is_rate" s_is_rate P_is_rate) (B : Bi mg) (c_is_integer : C8.Cal P w K mg base 1 "is_integer" spIsInt []) (c_gcd : C8.Cal P w K mg base 1 "gcd" spGcd []) : C8.Cal P w K mg base 2 "is_rate" spIsRate [] := by
  refine cal_of D sc_is_rate (fun vs H Q E h => ?_) (fun f cdv A outer s H vs Q E hr h => ?_)
  · obtain ⟨r, p, q, k, rfl, _⟩ := h
    rfl
  · obtain ⟨r, p, q, k, rfl, er, R, kk⟩ := h
    refine ⟨_, (pss_cons (ps_if (PW.pt (pw_or (pt_not (pt_val (pe_callB (call_isi) (by rfl) B.isinstance_ bt_isinstance (pa_cons (pv 0) (pa_cons (pe_bltn (v := .ty "tuple") (by rfl) B.tuple_ bt_tuple rfl) pa_nil))))) (pw_or1 (pt_cmpR op_ne (pe_callB (call_len_seq) (by rfl) B.len_ bt_len (pa_cons (pv 0) pa_nil)) pe_int (nomark _)))))
      (pss_one (ps_ret pe_bl))
      pss_nil)
    (pss_cons (ps_if (PW.pt (pw_or (pt_not (pt_val (C8.pe_c c_is_integer hr (by decide) (by rfl) (pa_cons (pe_ix (r := rIxT K) ix_tup (pv 0) pe_int (fun _ _ => rfl)) pa_nil)))) (pw_or1 (pt_not (pt_val (C8.pe_c c_is_integer hr (by decide) (by rfl) (pa_cons (pe_ix (r := rIxT K) ix_tup (pv 0) pe_int (fun _ _ => rfl)) pa_nil)))))))
      (pss_one (ps_ret pe_bl))
      pss_nil)
    (pss_one (ps_ret (pe_and (pe_cmpR op_ge (pe_ix (r := rIxT K) ix_tup (pv 0) pe_int (fun _ _ => rfl)) pe_int (nomark _)) (pe_and (pe_cmpR op_ge (pe_ix (r := rIxT K) ix_tup (pv 0) pe_int (fun _ _ => rfl)) pe_int (nomark _)) (pe_one (pe_cmpR op_eq (C8.pe_c c_gcd hr (by decide) (by rfl) (pa_cons (pe_ix (r := rIxT K) ix_tup (pv 0) pe_int (fun _ _ => rfl)) (pa_cons (pe_ix (r := rIxT K) ix_tup (pv 0) pe_int (fun _ _ => rfl)) pa_nil))) pe_int (nomark _))))))))), ?_⟩
    refine ⟨_, rfl, _, _, _, _, true, rfl, .ty "tuple", .base (.tup er), kit_ty ktt, true, rfl, iteF ?_⟩
    refine ⟨_, rfl, r, _, rfl, .inr (SqT.of er), rfl, _, rfl, iteNS rfl ?_⟩
    refine ⟨_, rfl, r, _, _, _, rfl, rfl, SqT.of er, atI_nat (j := 0) rfl, p, rfl, true, rfl, iteF ?_⟩
    refine ⟨_, rfl, r, _, _, _, rfl, rfl, SqT.of er, atI_nat (j := 1) rfl, q, rfl, true, rfl, iteF ?_⟩
    refine ⟨_, rfl, r, _, _, _, rfl, rfl, SqT.of er, atI_nat (j := 0) rfl, _, _, rfl, rfl, _, rfl, iteD R.p0 ?_⟩
    refine ⟨_, rfl, r, _, _, _, rfl, rfl, SqT.of er, atI_nat (j := 1) rfl, _, _, rfl, rfl, _, rfl, iteD R.q1 ?_⟩
    refine ⟨_, rfl, r, _, _, _, rfl, rfl, SqT.of er, atI_nat (j := 0) rfl, _, rfl, r, _, _, _, rfl, rfl, SqT.of er, atI_nat (j := 1) rfl, p, q, rfl, R.p0, by have := R.q1; omega, rfl, ?_⟩
    rw [R.g]
    exact kk
def spCheckRate : Sp := fun vs H Q _ => ∃ (r : Addr) (p q : Int) (k : Nat), vs = [.ref r] ∧ H r = some (tup2 p q) ∧ Rt k p q ∧ Q .non H
abbrev s_check_rate : Stmt := topS 11
abbrev N_check_rate : List Str := ["value"]
abbrev P_check_rate : List Str := ["value"]
theorem sc_check_rate : FnScope N_check_rate P_check_rate (defScope s_check_rate) := ⟨rfl, rfl, rfl, by decide +kernel, rfl, by decide +kernel, by decide +kernel⟩
theorem ok_check_rate (D : Df K mg "check_rate" s_check_rate P_check_rate) (c_is_rate : C8.Cal P w K mg base 2 "is_rate" spIsRate []) : C8.Cal P w K mg base 3 "check_rate" spCheckRate [] := by
  refine cal_of D sc_check_rate (fun vs H Q E h => ?_) (fun f cdv A outer s H vs Q E hr h => ?_)
  · obtain ⟨r, p, q, k, rfl, _⟩ := h
    rfl
  · obtain ⟨r, p, q, k, rfl, er, R, kk⟩ := h
    refine ⟨_, (pss_one (ps_if (pt_not (pt_val (C8.pe_c c_is_rate hr (by decide) (by rfl) (pa_cons (pv 0) pa_nil))))
      (pss_one ps_never)
      pss_nil)), ?_⟩
    exact ⟨_, rfl, r, p, q, k, rfl, er, R, true, rfl, iteF kk⟩
/-! ### simplest_inside -/
def spInside : Sp := fun vs H Q _ => ∃ (l h : Addr) (p q t b : Int) (k : Nat), vs = [.ref l, .ref h] ∧ H l = some (tup2 p q) ∧ H h = some (tup2 t b) ∧ Iv k p q t b ∧ 0 < k ∧ k ≤ 2000 ∧
  ∀ r H' N D, Same H H' → H r = none → H' r = some (tup2 N D) → Sim p q t b N D → Bd (k + 1) N → Bd (k + 1) D → Q (.ref r) H'
def muF : L2.St → Hp → Nat := fun σ _ => match σ with
  | _ :: _ :: _ :: some (.int q) :: _ :: some (.int b) :: _ => (q + b).toNat
  | _ => 0
abbrev s_simplest_inside : Stmt := topS 14
abbrev N_simplest_inside : List Str := ["low", "high", "p", "q", "top", "bottom", "wholes", "whole", "numerator", "denominator"]
abbrev P_simplest_inside : List Str := ["low", "high"]
theorem sc_simplest_inside : FnScope N_simplest_inside P_simplest_inside (defScope s_simplest_inside) := ⟨rfl, rfl, rfl, by decide +kernel, rfl, by decide +kernel, by decide +kernel⟩
theorem ok_simplest_inside (D : Df K mg "simplest_inside" s_simplest_inside P_simplest_inside) (B : Bi mg) : C8.Cal P w K mg base 1 "simplest_inside" spInside [] := by
  refine cal_of D sc_simplest_inside (fun vs H Q E h => ?_) (fun f cdv A outer s H vs Q E hr h => ?_)
  · obtain ⟨l, h, p, q, t, b, k, rfl, _⟩ := h
    rfl
  · obtain ⟨l, h, p0, q0, t0, b0, k, rfl, el, eh, I, k0, k4, kk⟩ := h
    refine ⟨_, (pss_cons (ps_asg (pv 0) (pg_tup rfl (pgs_cons (pg_name (i := 2) sc_simplest_inside.nd rfl (Or.inl rfl)) (pgs_cons (pg_name (i := 3) sc_simplest_inside.nd rfl (Or.inl rfl)) pgs_nil))))
    (pss_cons (ps_asg (pv 1) (pg_tup rfl (pgs_cons (pg_name (i := 4) sc_simplest_inside.nd rfl (Or.inl rfl)) (pgs_cons (pg_name (i := 5) sc_simplest_inside.nd rfl (Or.inl rfl)) pgs_nil))))
    (pss_cons (ps_set (i := 6) sc_simplest_inside.nd rfl (Or.inl rfl) (pe_lst pa_nil))
    (pss_cons (ps_set (i := 7) sc_simplest_inside.nd rfl (Or.inl rfl) (pe_op op_fdivW (pv 2) (pv 3)))
    (pss_cons (ps_while PassesOwn.never (pt_cmpR op_ge (pe_op op_mulW (pe_op op_add (pv 7) pe_int) (pv 5)) (pv 4) (nomark _))
      (pss_cons (ps_expr (pe_bm PySem.F.plainAttrs_list PySem.F.slot_list_append PySem.F.type_list_append mt_append (pv 6) (pa_cons (pv 7) pa_nil)))
    (pss_cons (ps_asg (pe_tup (pa_cons (pv 5) (pa_cons (pe_op op_sub (pv 4) (pe_op op_mulW (pv 7) (pv 5))) (pa_cons (pv 3) (pa_cons (pe_op op_sub (pv 2) (pe_op op_mulW (pv 7) (pv 3))) pa_nil))))) (pg_tup rfl (pgs_cons (pg_name (i := 2) sc_simplest_inside.nd rfl (Or.inl rfl)) (pgs_cons (pg_name (i := 3) sc_simplest_inside.nd rfl (Or.inl rfl)) (pgs_cons (pg_name (i := 4) sc_simplest_inside.nd rfl (Or.inl rfl)) (pgs_cons (pg_name (i := 5) sc_simplest_inside.nd rfl (Or.inl rfl)) pgs_nil))))))
    (pss_one (ps_set (i := 7) sc_simplest_inside.nd rfl (Or.inl rfl) (pe_op op_fdivW (pv 2) (pv 3)))))))
    (pss_cons (ps_par (i := 8) (j := 9) rfl sc_simplest_inside.nd rfl rfl (by decide) rfl rfl (pa_cons (pe_op op_add (pv 7) pe_int) (pa_cons pe_int pa_nil)) rfl)
    (pss_cons (ps_for PassesOwn.never rfl (pi_reversed (by rfl) B.reversed_ (pa_cons (pv 6) pa_nil)) (pg_name (i := 7) sc_simplest_inside.nd rfl (Or.inl rfl))
      (pss_one (ps_par (i := 8) (j := 9) rfl sc_simplest_inside.nd rfl rfl (by decide) rfl rfl (pa_cons (pe_op op_add (pe_op op_mulW (pv 7) (pv 8)) (pv 9)) (pa_cons (pv 8) pa_nil)) rfl)))
    (pss_one (ps_ret (pe_tup (pa_cons (pv 8) (pa_cons (pv 9) pa_nil)))))))))))), ?_⟩
    refine ⟨_, rfl, l, _, rfl, SqT.of el, rfl, _, _, rfl, _, _, rfl, rfl, ?_⟩
    refine ⟨_, rfl, h, _, rfl, SqT.of eh, rfl, _, _, rfl, _, _, rfl, rfl, ?_⟩
    refine ⟨Nat.zero_le _, fun lv nlv => ?_⟩
    refine ⟨_, rfl, _, rfl, _, _, rfl, rfl, divW (by have := I.q1; omega) I.bq (by omega), ?_⟩
    refine while_by (fun σ H' => ∃ (p q t b : Int) (ws : List Int), σ = [some (.ref l), some (.ref h), some (.int p), some (.int q), some (.int t), some (.int b), some (.ref lv), some (.int (p / q)), none, none] ∧ Lw k p0 q0 t0 b0 ws p q t b ∧ Same H H' ∧ H' lv = some (.lst (ws.map V.int))) muF ⟨p0, q0, t0, b0, [], rfl, Lw.init I, sm_upd nlv, upd_same⟩ ?_ ?_
    · rintro σ H1 ⟨p, q, t, b, ws, rfl, L, sH, elv⟩
      have J := L.iv
      have q1 := J.q1
      have bw : Bd k (p / q) := J.bp.ediv (by omega)
      have bw1 : Bd (k + 1) (p / q + 1) := Bd.add bw (Bd.small 1 (by decide) (by omega))
      refine ⟨_, rfl, _, _, rfl, rfl, _, rfl, _, _, rfl, rfl, mulW bw1 J.bb (by omega) k0 (by omega), _, rfl, _, _, rfl, rfl, _, rfl, ite2 (fun c => ?_) (fun c => ?_)⟩
      · have hc : t ≤ (p / q + 1) * b := of_decide_eq_true c
        obtain ⟨_, b1, h3, h4⟩ := J.next hc
        have LN := L.next hc
        have ln := L.len b1 I.bq I.bb
        have q1' := LN.iv.q1
        refine ⟨_, rfl, .inl ⟨rfl, _, SqL.of elv⟩, _, rfl, lv, _, _, rfl, rfl, elv, ?_, ?_⟩
        · rw [List.length_map]
          exact (Nat.lt_of_le_of_lt (show _ ≤ 5000 by omega) (by decide))
        · refine ⟨_, rfl, _, rfl, _, rfl, _, rfl, _, _, rfl, rfl, mulW bw J.bb k0 k0 (by omega), _, _, rfl, rfl, _, rfl, _, rfl, _, rfl, _, rfl, _, _, rfl, rfl, mulW bw J.bq k0 k0 (by omega), _, _, rfl, rfl, len10 (by simp), fun t2 nt2 => ?_⟩
          refine ⟨t2, _, rfl, SqT.of upd_same, rfl, _, _, rfl, _, _, rfl, _, _, rfl, _, _, rfl, rfl, ?_⟩
          refine ⟨_, rfl, _, rfl, _, _, rfl, rfl, divW (by omega) LN.iv.bq (by omega), ?_⟩
          refine ⟨⟨_, _, _, _, ws ++ [p / q], rfl, LN, ?_, ?_⟩, ?_⟩
          · intro x o ex
            have z := sH _ _ ex
            have nx : x ≠ lv := ne_of_none ex nlv
            have z2 : upd H1 lv (.lst (ws.map V.int ++ [.int (p / q)])) x = some o := by
              rw [upd_ne nx]
              exact z
            exact sm_upd nt2 _ _ z2
          · have z2 : upd H1 lv (.lst (ws.map V.int ++ [.int (p / q)])) lv = some (.lst ((ws ++ [p / q]).map V.int)) := by
              rw [upd_same, List.map_append]
              rfl
            exact sm_upd nt2 _ _ z2
          · show (t - p / q * b + (p - p / q * q)).toNat < (q + b).toNat
            have := LN.iv.b0
            omega
      · have hc : (p / q + 1) * b < t := by
          have : ¬ t ≤ (p / q + 1) * b := fun z => c (decide_eq_true z)
          omega
        have S := sim_base J.p0 J.q1 hc
        refine ⟨_, rfl, _, _, rfl, rfl, _, _, rfl, ?_⟩
        refine ⟨_, rfl, lv, _, rfl, SqL.of elv, ?_⟩
        have CC := L.c
        have CA := L.a
        generalize hN : p / q + 1 = N at S
        refine for_it walk_rev (fun i σ H2 => ∃ (y : Option V), σ = [some (.ref l), some (.ref h), some (.int p), some (.int q), some (.int t), some (.int b), some (.ref lv), y, some (.int (fold2 (ws.drop (ws.length - i)) (N, 1)).1), some (.int (fold2 (ws.drop (ws.length - i)) (N, 1)).2)] ∧ H2 = H1) ?_ ?_ ?_ ?_
        · refine ⟨some (.int (p / q)), ?_, rfl⟩
          rw [Nat.sub_zero, List.drop_length, ← hN]
          rfl
        · rintro i σ H2 _ ⟨_, _, rfl⟩
          exact SqL.of elv
        · rintro i x σ H2 H3 hi ⟨y, rfl, rfl⟩ ⟨rfl, hx⟩
          rw [List.length_map] at hi hx
          have hj : ws.length - 1 - i < ws.length := by omega
          rw [List.getElem?_map, List.getElem?_eq_getElem hj] at hx
          have ex : x = V.int ws[ws.length - 1 - i] := (Option.some.inj hx).symm
          subst ex
          have d1 := L.d _ (List.getElem_mem hj)
          have cc := CC (ws.take (ws.length - i)) (ws.drop (ws.length - i)) (List.take_append_drop _ _).symm N 1 S
          have ed : ws.drop (ws.length - (i + 1)) = ws[ws.length - 1 - i] :: ws.drop (ws.length - i) := by
            rw [show ws.length - (i + 1) = ws.length - 1 - i by omega, List.drop_eq_getElem_cons hj, show ws.length - 1 - i + 1 = ws.length - i by omega]
          generalize ws[ws.length - 1 - i] = e at *
          refine ⟨_, rfl, _, rfl, _, _, rfl, rfl, mulW d1 cc.1 k0 (by omega) (by omega), _, rfl, _, _, rfl, rfl, _, rfl, _, _, rfl, ?_⟩
          refine ⟨some (.int e), ?_, rfl⟩
          rw [ed]
          rfl
        · rintro σ H2 ⟨y, rfl, rfl⟩
          have e0 : ws.drop (ws.length - (ws.map V.int).length) = ws := by
            rw [List.length_map, Nat.sub_self]
            rfl
          rw [e0]
          refine ⟨_, rfl, _, rfl, len10 (by simp), fun r nr => ?_⟩
          have F2 := CA N 1 S
          have bd := I.bds F2
          refine kk r _ _ _ (sH.trans (sm_upd nr)) ?_ upd_same F2 bd.1 bd.2
          cases z : H r with
          | none => rfl
          | some o =>
            rw [sH _ _ z] at nr
            cases nr
    · rintro σ H' Q1 Q2 hQ ⟨v, h1, i, j, h2, h3, v2, g1, i2, j2, g2, g3, gm, v3, g4, i3, j3, g5, g6, b, h4, h5⟩
      exact ⟨v, h1, i, j, h2, h3, v2, g1, i2, j2, g2, g3, gm, v3, g4, i3, j3, g5, g6, b, h4, hQ _ _ h5⟩
end
end Lf
namespace Lf
open PySem PySem.Spec PyProof.Rows L2
theorem obs_cut {α : Type} {O : α → HO} {H : Hp} {vs : List V} {ds : List α} (h : Obs O H vs ds) (lo hi : Option Int) : ∃ es, Obs O H (cutV vs lo hi) es ∧ (∀ d ∈ es, d ∈ ds) ∧ es.length ≤ ds.length := by
  unfold cutV
  generalize HT.sIx vs.length 0 lo = i
  generalize HT.sIx vs.length vs.length hi - i = j
  refine ⟨(ds.drop i).take j, (h.drop i).take j, fun d hd => List.mem_of_mem_drop (List.mem_of_mem_take hd), ?_⟩
  rw [List.length_take, List.length_drop]
  omega
theorem at_map {cs : List Int} {i : Nat} {x : V} (h : (cs.map V.int)[i]? = some x) : ∃ c, c ∈ cs ∧ x = .int c := by
  rw [List.getElem?_map] at h
  cases e : cs[i]? with
  | none =>
    rw [e] at h
    cases h
  | some c =>
    rw [e] at h
    cases h
    exact ⟨c, List.mem_of_getElem? e, rfl⟩
theorem in_words (b : Bool) : inV (.str (wd b)) [.str "at least", .str "at most"] = true := by
  cases b <;> decide +kernel
theorem kit_lt {K : PySem.W.Frag} : PySem.W.kitAny K (.type "list") [.type "list", .type "tuple"] = some true :=
  kitAny_cons (b := true) (kit_ty (by decide +kernel)) (fun z => by cases z) (fun _ => rfl)
def lph (p q : Int) (ds : List Rec) : List Int := (sel true 0 ds).map fun x => x.2.2 * q - p * x.2.1
def hph (p q : Int) (ds : List Rec) : List Int := (sel false 0 ds).map fun x => (x.2.2 + 1) * q - p * x.2.1 - 1
def okPh : Option Int → Option Int → Bool
  | some x, some y => decide (x ≤ y)
  | _, _ => true
theorem mx_uniq {l : List Int} {a b : Option Int} (h : IsMx l a) (h2 : IsMx l b) : a = b := by
  cases a with
  | none =>
    cases b with
    | none => rfl
    | some y =>
      have e : l = [] := h
      subst e
      cases h2.1
  | some x =>
    cases b with
    | none =>
      have e : l = [] := h2
      subst e
      cases h.1
    | some y =>
      have h1 := h.2 y h2.1
      have h3 := h2.2 x h.1
      rw [show x = y by omega]
theorem mn_uniq {l : List Int} {a b : Option Int} (h : IsMn l a) (h2 : IsMn l b) : a = b := by
  cases a with
  | none =>
    cases b with
    | none => rfl
    | some y =>
      have e : l = [] := h
      subst e
      cases h2.1
  | some x =>
    cases b with
    | none =>
      have e : l = [] := h2
      subst e
      cases h.1
    | some y =>
      have h1 := h.2 y h2.1
      have h3 := h2.2 x h.1
      rw [show x = y by omega]
def fitB (p q c : Int) (d : Rec) : Bool := if d.lo = true then decide (d.n ≤ (p * d.t + c) / q) else decide ((p * d.t + c) / q ≤ d.n)
structure Bc (mg : Str → Option Value) : Prop where
  most_ : ∃ t, mg "MOST_RECORDS" = some (.int 200 t)
section
variable {P : Program} {w : World} {K : PySem.W.Frag} {mg : Str → Option Value} {base : Heap}
/-! ### is_record, check_records -/
def spIsRec : Sp := fun vs H Q _ => ∃ (r : Addr) (d : Rec), vs = [.ref r] ∧ H r = some (rcO d) ∧ ∀ H', Same H H' → Q (.bl true) H'
abbrev s_is_record : Stmt := topS 17
abbrev N_is_record : List Str := ["value"]
abbrev P_is_record : List Str := ["value"]
theorem sc_is_record : FnScope N_is_record P_is_record (defScope s_is_record) := ⟨rfl, rfl, rfl, by decide +kernel, rfl, by decide +kernel, by decide +kernel⟩
theorem ok_is_record (D : Df K mg "is_record" s_is_record P_is_record) (B : Bi mg) (c_is_integer : C8.Cal P w K mg base 1 "is_integer" spIsInt []) : C8.Cal P w K mg base 2 "is_record" spIsRec [] := by
  refine cal_of D sc_is_record (fun vs H Q E h => ?_) (fun f cdv A outer s H vs Q E hr h => ?_)
  · obtain ⟨r, d, rfl, _⟩ := h
    rfl
  · obtain ⟨r, d, rfl, er, kk⟩ := h
    refine ⟨_, (pss_cons (ps_if (PW.pt (pw_or (pt_not (pt_val (pe_callB (call_isi) (by rfl) B.isinstance_ bt_isinstance (pa_cons (pv 0) (pa_cons (pe_bltn (v := .ty "tuple") (by rfl) B.tuple_ bt_tuple rfl) pa_nil))))) (pw_or1 (pt_cmpR op_ne (pe_callB (call_len_seq) (by rfl) B.len_ bt_len (pa_cons (pv 0) pa_nil)) pe_int (nomark _)))))
      (pss_one (ps_ret pe_bl))
      pss_nil)
    (pss_one (ps_ret (pe_and (pe_cmpR op_in_seq (pe_ix (r := rIxT K) ix_tup (pv 0) pe_int (fun _ _ => rfl)) (pe_tup (pa_cons pe_str (pa_cons pe_str pa_nil))) rfl) (pe_and (C8.pe_c c_is_integer hr (by decide) (by rfl) (pa_cons (pe_ix (r := rIxT K) ix_tup (pv 0) pe_int (fun _ _ => rfl)) pa_nil)) (pe_one (C8.pe_c c_is_integer hr (by decide) (by rfl) (pa_cons (pe_ix (r := rIxT K) ix_tup (pv 0) pe_int (fun _ _ => rfl)) pa_nil)))))))), ?_⟩
    refine ⟨_, rfl, _, _, _, _, true, rfl, .ty "tuple", .base (.tup er), kit_ty ktt, true, rfl, iteF ?_⟩
    refine ⟨_, rfl, r, _, rfl, .inr (SqT.of er), rfl, _, rfl, iteNS rfl ?_⟩
    refine ⟨_, rfl, r, _, _, _, rfl, rfl, SqT.of er, atI_nat (j := 0) rfl, len10 (by simp), fun p np => ?_⟩
    have er1 := sm_upd (o := .tup [.str "at least", .str "at most"]) np _ _ er
    refine ⟨p, _, rfl, .inr (SqT.of upd_same), rfl, rfl, _, rfl, iteTs (in_words d.lo) ?_⟩
    refine ⟨_, rfl, r, _, _, _, rfl, rfl, SqT.of er1, atI_nat (j := 1) rfl, d.t, rfl, true, rfl, iteT ?_⟩
    refine ⟨_, rfl, r, _, _, _, rfl, rfl, SqT.of er1, atI_nat (j := 2) rfl, d.n, rfl, ?_⟩
    exact kk _ (sm_upd np)
def spCkRec : Sp := fun vs H Q _ => ∃ (L : Addr) (xs : List V) (ds : List Rec), vs = [.ref L] ∧ H L = some (.lst xs) ∧ Obs rcO H xs ds ∧ ds.length ≤ 200 ∧ ∀ H', Same H H' → Q .non H'
abbrev s_check_records : Stmt := topS 18
abbrev N_check_records : List Str := ["value", "index", "item"]
abbrev P_check_records : List Str := ["value"]
theorem sc_check_records : FnScope N_check_records P_check_records (defScope s_check_records) := ⟨rfl, rfl, rfl, by decide +kernel, rfl, by decide +kernel, by decide +kernel⟩
theorem ok_check_records (D : Df K mg "check_records" s_check_records P_check_records) (B : Bi mg) (U : Bc mg) (c_is_record : C8.Cal P w K mg base 2 "is_record" spIsRec []) : C8.Cal P w K mg base 3 "check_records" spCkRec [] := by
  refine cal_of D sc_check_records (fun vs H Q E h => ?_) (fun f cdv A outer s H vs Q E hr h => ?_)
  · obtain ⟨L, xs, ds, rfl, _⟩ := h
    rfl
  · obtain ⟨L, xs, ds, rfl, eL, hO, hl, kk⟩ := h
    obtain ⟨tM, hc_MOST_RECORDS⟩ := U.most_
    refine ⟨_, (pss_cons (ps_if (PW.pt (pw_or (pt_not (pt_val (pe_callB (call_isiT) (by rfl) B.isinstance_ bt_isinstance (pa_cons (pv 0) (pa_cons (pe_tup (pa_cons (pe_bltn (v := .ty "list") (by rfl) B.list_ bt_list rfl) (pa_cons (pe_bltn (v := .ty "tuple") (by rfl) B.tuple_ bt_tuple rfl) pa_nil))) pa_nil))))) (pw_or1 (pt_cmpR op_gt (pe_callB (call_len_seq) (by rfl) B.len_ bt_len (pa_cons (pv 0) pa_nil)) (pe_glob (v := .int 200) (by rfl) hc_MOST_RECORDS ⟨_, rfl⟩) (nomark _)))))
      (pss_one ps_never)
      pss_nil)
    (pss_one (ps_for PassesOwn.never rfl (pi_enum (by rfl) B.enumerate_ (pa_cons (pv 0) pa_nil)) (pg_tup rfl (pgs_cons (pg_name (i := 1) sc_check_records.nd rfl (Or.inl rfl)) (pgs_cons (pg_name (i := 2) sc_check_records.nd rfl (Or.inl rfl)) pgs_nil)))
      (pss_one (ps_if (pt_not (pt_val (C8.pe_c c_is_record hr (by decide) (by rfl) (pa_cons (pv 2) pa_nil))))
      (pss_one ps_never)
      pss_nil))))), ?_⟩
    refine ⟨_, rfl, len10 (by simp), fun tp ntp => ?_⟩
    have s1 := sm_upd (o := .tup [.ty "list", .ty "tuple"]) ntp
    refine ⟨_, tp, _, _, _, true, rfl, upd_same, .cons (.ty "list") (.cons (.ty "tuple") .nil), .base (.lst (s1 _ _ eL)), kit_lt, true, rfl, iteF ?_⟩
    refine ⟨_, rfl, L, _, rfl, .inl (SqL.of (s1 _ _ eL)), _, _, rfl, rfl, _, rfl, iteDn (by rw [hO.len]; omega) ?_⟩
    generalize upd H tp (.tup [.ty "list", .ty "tuple"]) = H1 at s1
    refine ⟨_, rfl, L, _, rfl, SqL.of (s1 _ _ eL), ?_⟩
    refine for_it (walk_enum (K := K) (a := L) (xs := xs)) (fun i σ H' => ∃ (y1 y2 : Option V), σ = [some (.ref L), y1, y2] ∧ Same H H') ⟨_, _, rfl, s1⟩ ?_ ?_ ?_
    · rintro i σ H2 _ ⟨_, _, _, s2⟩
      exact SqL.of (s2 _ _ eL)
    · rintro i v σ H2 H3 hi ⟨y1, y2, rfl, s2⟩ ⟨T, x, y, rfl, nT, rfl, hx, hy⟩
      cases hx
      obtain ⟨r, d, rfl, er, _⟩ := hO.at hy
      have s3 := s2.trans (sm_upd (o := .tup [.int (i : Nat), .ref r]) nT)
      refine ⟨T, _, rfl, SqT.of upd_same, rfl, _, _, rfl, _, _, rfl, rfl, ?_⟩
      refine ⟨_, rfl, r, d, rfl, s3 _ _ er, fun H4 s4 => ⟨true, rfl, iteF ?_⟩⟩
      exact ⟨_, _, rfl, s3.trans s4⟩
    · rintro σ H2 ⟨_, _, rfl, s2⟩
      exact kk _ s2
/-! ### split_records -/
def spSplit : Sp := fun vs H Q _ => ∃ (L : Addr) (xs : List V) (ds : List Rec), vs = [.ref L] ∧ H L = some (.lst xs) ∧ Obs rcO H xs ds ∧ ds.length ≤ 1000 ∧
  ∀ T H' A B as bs, Same H H' → H' T = some (.tup [.ref A, .ref B]) → H' A = some (.lst as) → Obs trO H' as (sel true 0 ds) → H' B = some (.lst bs) → Obs trO H' bs (sel false 0 ds) → Q (.ref T) H'
abbrev s_split_records : Stmt := topS 21
abbrev N_split_records : List Str := ["records", "lows", "highs", "i", "word", "t", "n", "j", "u", "m"]
abbrev P_split_records : List Str := ["records"]
theorem sc_split_records : FnScope N_split_records P_split_records (defScope s_split_records) := ⟨rfl, rfl, rfl, by decide +kernel, rfl, by decide +kernel, by decide +kernel⟩
theorem ok_split_records (D : Df K mg "split_records" s_split_records P_split_records) (B : Bi mg) : C8.Cal P w K mg base 1 "split_records" spSplit [] := by
  refine cal_of D sc_split_records (fun vs H Q E h => ?_) (fun f cdv A outer s H vs Q E hr h => ?_)
  · obtain ⟨L, xs, ds, rfl, _⟩ := h
    rfl
  · obtain ⟨L, xs, ds, rfl, eL, hO, hl, kk⟩ := h
    refine ⟨_, (pss_cons (ps_setLc (i := 1) (own := [("i", 3), ("word", 4), ("t", 5), ("n", 6)]) (g := (gTup K 2 (gCons (gName 3) (gCons (gTup K 3 (gCons (gName 4) (gCons (gName 5) (gCons (gName 6) gNil)))) gNil)))) (by rfl) sc_split_records.nd rfl rfl (sw_true rfl rfl rfl (by decide +kernel)) (pi_enum (by rfl) B.enumerate_ (pa_cons (pv 0) pa_nil)) (blkOk_by (own := [("i", 3), ("word", 4), ("t", 5), ("n", 6)]) (N := N_split_records) (sc := defScope s_split_records) (by decide +kernel)) (fun _ _ _ _ _ => (pg_tup rfl (pgs_cons (pg_name (i := 3) sc_split_records.nd rfl (Or.inl rfl)) (pgs_cons (pg_tup rfl (pgs_cons (pg_name (i := 4) sc_split_records.nd rfl (Or.inl rfl)) (pgs_cons (pg_name (i := 5) sc_split_records.nd rfl (Or.inl rfl)) (pgs_cons (pg_name (i := 6) sc_split_records.nd rfl (Or.inl rfl)) pgs_nil)))) pgs_nil)))) (fun _ _ _ _ _ => (pts_one (pt_cmpR op_eq (pv 4) pe_str (nomark _)))) (fun _ _ _ _ _ => (pe_tup (pa_cons (pv 3) (pa_cons (pv 5) (pa_cons (pv 6) pa_nil))))))
    (pss_cons (ps_setLc (i := 2) (own := [("j", 7), ("word", 4), ("u", 8), ("m", 9)]) (g := (gTup K 2 (gCons (gName 7) (gCons (gTup K 3 (gCons (gName 4) (gCons (gName 8) (gCons (gName 9) gNil)))) gNil)))) (by rfl) sc_split_records.nd rfl rfl (sw_true rfl rfl rfl (by decide +kernel)) (pi_enum (by rfl) B.enumerate_ (pa_cons (pv 0) pa_nil)) (blkOk_by (own := [("j", 7), ("word", 4), ("u", 8), ("m", 9)]) (N := N_split_records) (sc := defScope s_split_records) (by decide +kernel)) (fun _ _ _ _ _ => (pg_tup rfl (pgs_cons (pg_name (i := 7) sc_split_records.nd rfl (Or.inl rfl)) (pgs_cons (pg_tup rfl (pgs_cons (pg_name (i := 4) sc_split_records.nd rfl (Or.inl rfl)) (pgs_cons (pg_name (i := 8) sc_split_records.nd rfl (Or.inl rfl)) (pgs_cons (pg_name (i := 9) sc_split_records.nd rfl (Or.inl rfl)) pgs_nil)))) pgs_nil)))) (fun _ _ _ _ _ => (pts_one (pt_cmpR op_eq (pv 4) pe_str (nomark _)))) (fun _ _ _ _ _ => (pe_tup (pa_cons (pv 7) (pa_cons (pv 8) (pa_cons (pv 9) pa_nil))))))
    (pss_one (ps_ret (pe_tup (pa_cons (pv 1) (pa_cons (pv 2) pa_nil))))))), ?_⟩
    refine ⟨_, rfl, L, _, rfl, SqL.of eL, fun A nA => ?_⟩
    refine lc_it (walk_enum (K := K) (a := L) (xs := xs)) (fun i H' => ∃ as, H' A = some (.lst as) ∧ Obs trO H' as (sel true 0 (ds.take i)) ∧ Same H H') ⟨_, upd_same, .nil, sm_upd nA⟩ ?_ ?_ ?_
    · rintro i H1 _ ⟨_, _, _, s1⟩
      exact SqL.of (s1 _ _ eL)
    · rintro i v H1 H2 hi ⟨as, eA, oA, s1⟩ ⟨T, x, y, rfl, nT, rfl, hx, hy⟩
      cases hx
      obtain ⟨r, d, rfl, er, hd⟩ := hO.at hy
      have z := sm_upd (o := .tup [.int (i : Nat), .ref r]) nT
      have s2 := s1.trans z
      have al : as.length < sizeLine := by
        have h1 := oA.len
        have h2 := sel_len true 0 (ds.take i)
        rw [List.length_take] at h2
        exact small1000 (by omega)
      refine ⟨T, _, rfl, SqT.of upd_same, rfl, _, _, rfl, _, _, rfl, r, _, rfl, SqT.of (s2 _ _ er), rfl, _, _, rfl, _, _, rfl, _, _, rfl, rfl, rfl, ?_⟩
      refine ⟨rfl, _, rfl, rfl, _, rfl, ?_⟩
      rw [w_lo]
      cases hb : d.lo with
      | true =>
        refine iteT ⟨_, rfl, _, rfl, _, rfl, len10 (by simp), fun t nt => ?_⟩
        have z2 := sm_upd (o := .tup [.int (i : Nat), .int d.t, .int d.n]) nt
        have nA2 : t ≠ A := (ne_of_none (z _ _ eA) nt).symm
        refine ⟨as, z2 _ _ (z _ _ eA), al, _, upd_same, ?_, ?_⟩
        · rw [sel_take hd, if_pos hb]
          refine Obs.snoc (Obs.keep ((oA.same z).same z2) fun b d' e => ?_) ?_
          · rw [upd_ne (ne_of e (z2 _ _ (z _ _ eA)) (by intro q; cases q))]
            exact e
          · rw [upd_ne nA2]
            exact upd_same
        · intro b o e
          rw [upd_ne (ne_of_none e nA)]
          exact z2 _ _ (s2 _ _ e)
      | false =>
        refine iteF ⟨as, z _ _ eA, ?_, s2⟩
        rw [sel_take hd, if_neg (by rw [hb]; exact Bool.false_ne_true), List.append_nil]
        exact oA.same z
    rintro H1 ⟨as, eA, oA, s1⟩
    rw [List.take_of_length_le (by rw [hO.len]; exact Nat.le_refl _)] at oA
    refine ⟨_, rfl, L, _, rfl, SqL.of (s1 _ _ eL), fun B2 nB => ?_⟩
    refine lc_it (walk_enum (K := K) (a := L) (xs := xs)) (fun i H' => ∃ bs, H' B2 = some (.lst bs) ∧ Obs trO H' bs (sel false 0 (ds.take i)) ∧ Same H1 H') ⟨_, upd_same, .nil, sm_upd nB⟩ ?_ ?_ ?_
    · rintro i H2 _ ⟨_, _, _, s2⟩
      exact SqL.of (s2 _ _ (s1 _ _ eL))
    · rintro i v H2 H3 hi ⟨bs, eB, oB, s2⟩ ⟨T, x, y, rfl, nT, rfl, hx, hy⟩
      cases hx
      obtain ⟨r, d, rfl, er, hd⟩ := hO.at hy
      have z := sm_upd (o := .tup [.int (i : Nat), .ref r]) nT
      have s3 := s2.trans z
      have al : bs.length < sizeLine := by
        have h1 := oB.len
        have h2 := sel_len false 0 (ds.take i)
        rw [List.length_take] at h2
        exact small1000 (by omega)
      refine ⟨T, _, rfl, SqT.of upd_same, rfl, _, _, rfl, _, _, rfl, r, _, rfl, SqT.of (s3 _ _ (s1 _ _ er)), rfl, _, _, rfl, _, _, rfl, _, _, rfl, rfl, rfl, ?_⟩
      refine ⟨rfl, _, rfl, rfl, _, rfl, ?_⟩
      rw [w_hi]
      cases hb : d.lo with
      | false =>
        refine iteT ⟨_, rfl, _, rfl, _, rfl, len10 (by simp), fun t nt => ?_⟩
        have z2 := sm_upd (o := .tup [.int (i : Nat), .int d.t, .int d.n]) nt
        have nB2 : t ≠ B2 := (ne_of_none (z _ _ eB) nt).symm
        refine ⟨bs, z2 _ _ (z _ _ eB), al, _, upd_same, ?_, ?_⟩
        · rw [sel_take hd, if_pos hb]
          refine Obs.snoc (Obs.keep ((oB.same z).same z2) fun b d' e => ?_) ?_
          · rw [upd_ne (ne_of e (z2 _ _ (z _ _ eB)) (by intro q; cases q))]
            exact e
          · rw [upd_ne nB2]
            exact upd_same
        · intro b o e
          rw [upd_ne (ne_of_none e nB)]
          exact z2 _ _ (s3 _ _ e)
      | true =>
        refine iteF ⟨bs, z _ _ eB, ?_, s3⟩
        rw [sel_take hd, if_neg (by rw [hb]; exact fun q => Bool.false_ne_true q.symm), List.append_nil]
        exact oB.same z
    rintro H2 ⟨bs, eB, oB, s2⟩
    rw [List.take_of_length_le (by rw [hO.len]; exact Nat.le_refl _)] at oB
    refine ⟨_, rfl, _, rfl, len10 (by simp), fun T nT => ?_⟩
    have z := sm_upd (o := .tup [.ref A, .ref B2]) nT
    exact kk T _ A B2 as bs ((s1.trans s2).trans z) upd_same (z _ _ (s2 _ _ eA)) ((oA.same s2).same z) (z _ _ eB) (oB.same z)
end
end Lf
namespace Lf
open PySem PySem.Spec PyProof.Rows L2
/-! ### checks of integers: any value -/
def atLeast (l : Int) : PyData → Bool
  | .int i => decide (l ≤ i)
  | _ => false
theorem isI_b {d : PyData} (h : isI d = true) : isIB d = true ∧ isB d = false := by
  cases d <;> first | exact ⟨rfl, rfl⟩ | cases h
section
variable {P : Program} {w : World} {K : PySem.W.Frag} {mg : Str → Option Value} {base : Heap} {C : Addr}
def spIsAny : Sp := fun vs H Q _ => ∃ (v : V) (d : PyData), vs = [v] ∧ Dv H v d ∧ Q (.bl (isI d)) H
theorem okA_is_integer (D : Df K mg "is_integer" s_is_integer P_is_integer) (B : Bi mg) : C8.Cal P w K mg base 1 "is_integer" spIsAny [] := by
  refine cal_of D sc_is_integer (fun vs H Q E h => ?_) (fun f cdv A outer s H vs Q E hr h => ?_)
  · obtain ⟨v, d, rfl, _⟩ := h
    rfl
  · obtain ⟨v, d, rfl, dv, q⟩ := h
    refine ⟨_, (pss_one (ps_ret (pe_and (pe_callB (call_isi) (by rfl) B.isinstance_ bt_isinstance (pa_cons (pv 0) (pa_cons (pe_bltn (v := .ty "int") (by rfl) B.int_ bt_int rfl) pa_nil))) (pe_one (pe_not (pe_callB (call_isi) (by rfl) B.isinstance_ bt_isinstance (pa_cons (pv 0) (pa_cons (pe_bltn (v := .ty "bool") (by rfl) B.bool_ bt_bool rfl) pa_nil)))))))), ?_⟩
    refine ⟨_, rfl, _, _, _, _, isIB d, rfl, .ty "int", dv.ty, kit_ty (kit_int d), isIB d, rfl, ?_⟩
    by_cases hb : isIB d = true
    · rw [if_pos hb]
      refine ⟨_, rfl, _, _, _, _, isB d, rfl, .ty "bool", dv.ty, kit_ty (kit_bool d), isB d, rfl, ?_⟩
      have e : (!isB d) = isI d := by
        cases d <;> first | rfl | cases hb
      rw [e]
      exact q
    · rw [if_neg hb]
      have e : isI d = false := by
        cases d <;> first | rfl | exact absurd rfl hb
      rw [e] at q
      exact q
/-- InvalidNumber, with the value -/
def Out (C : Addr) (v : V) (H : Hp) (E : XK) : Prop := ∀ dd, H dd = none → E (.ref C) (some dd) (upd H dd (.xd [("value", v)]))
def spCkI (C : Addr) : Sp := fun vs H Q E => ∃ (v : V) (d : PyData), vs = [v] ∧ Dv H v d ∧ (isI d = true → Q .non H) ∧ (isI d = false → Out C v H E)
def spCkL (C : Addr) : Sp := fun vs H Q E => ∃ (v : V) (d : PyData) (l : Int), vs = [v, .int l] ∧ Dv H v d ∧ (atLeast l d = true → Q .non H) ∧ (atLeast l d = false → Out C v H E)
end
end Lf
namespace Lf
open PySem PySem.Spec PyProof.Rows L2
/-! ### records: any value -/
/-- x in a tuple whose items are data of any depth -/
def rInDT (K : PySem.W.Frag) : R2 := fun x y H Q => ∃ d ds, Dp K H x d ∧ Dp K H y (.tuple ds) ∧ SeqAt.shaped d = true ∧ SeqAt.shaped (.tuple ds) = true ∧ Q (.bl (ds.any fun z => PyData.eqv z d)) H
theorem op_inDT {X : Cx} (hu : X.A.units + 65 < cLine) : OpR X (compareOp .In) (rInDT X.K) := by
  intro pins s σ H x y v u Q I rx ry h
  obtain ⟨d, ds, hd, he, sd, se, q⟩ := h
  obtain ⟨as, r1⟩ := Dp.reads I d x v hd rx
  obtain ⟨bs, r2⟩ := Dp.reads I (.tuple ds) y u he ry
  exact SeqAt.in_tuple_reads r2 r1 (SeqAt.canLay_of_shaped se) (SeqAt.canLay_of_shaped sd) (room_in_shaped sd hu) ⟨.bl _, H, I, rfl, q⟩
mutual
theorem Dv.dp {K : PySem.W.Frag} {H : Hp} : ∀ (d : PyData) (v : V), Dv H v d → d.hasDict = false → Dp K H v d
  | .none, _, .non, _ => .non
  | .bool _, _, .bl b, _ => .bl b
  | .int _, _, .int i, _ => .int i
  | .str _, _, .str x, _ => .str x
  | .list ds, _, .lst _ h hs, n => .lst (SqL.of h) (Dv.dpAll ds _ hs (by simpa [PyData.hasDict] using n))
  | .tuple ds, _, .tup h hs, n => .tup (SqT.of h) (Dv.dpAll ds _ hs (by simpa [PyData.hasDict] using n))
  | .dict [], _, .dk0 h, n => by simp [PyData.hasDict] at n
  | .dict [(.str _, d)], _, .dk1 h h2, n => by simp [PyData.hasDict] at n
theorem Dv.dpAll {K : PySem.W.Frag} {H : Hp} : ∀ (ds : List PyData) (vs : List V), DvAll H vs ds → PyData.hasDictAll ds = false → DpAll K H vs ds
  | [], _, .nil, _ => .nil
  | d :: ds, _, .cons h hs, n => by
    have n : d.hasDict = false ∧ PyData.hasDictAll ds = false := by simpa [PyData.hasDictAll] using n
    exact .cons (Dv.dp d _ h n.1) (Dv.dpAll ds _ hs n.2)
end
def words : List PyData := [.str "at least", .str "at most"]
def recB : PyData → Bool
  | .tuple [d0, d1, d2] => words.any (fun z => PyData.eqv z d0) && (isI d1 && isI d2)
  | _ => false
/-- its first part may be looked for -/
def rgB : PyData → Bool
  | .tuple [d0, _, _] => !d0.hasDict && SeqAt.shaped d0
  | _ => true
theorem rec_three {ds : List PyData} (h : ds.length ≠ 3) : recB (.tuple ds) = false := by
  match ds, h with
  | [], _ => rfl
  | [_], _ => rfl
  | [_, _], _ => rfl
  | [_, _, _], h => exact absurd rfl h
  | _ :: _ :: _ :: _ :: _, _ => rfl
theorem len_ne3 {n : Nat} (h : n ≠ 3) : (!decide (V.int (n : Int) = V.int 3)) = true := by
  have : ¬ V.int (n : Int) = V.int 3 := fun z => h (by
    have := V.int.inj z
    omega)
  rw [decide_eq_false this]
  rfl
def isT' : PyData → Bool
  | .tuple _ => true
  | _ => false
theorem kit_tup' (d : PyData) : kitB (tyN d) "tuple" = some (isT' d) := by
  cases d
  · show kitB "NoneType" "tuple" = some false; decide +kernel
  · show kitB "bool" "tuple" = some false; decide +kernel
  · show kitB "int" "tuple" = some false; decide +kernel
  · show kitB "str" "tuple" = some false; decide +kernel
  · show kitB "list" "tuple" = some false; decide +kernel
  · show kitB "tuple" "tuple" = some true; decide +kernel
  · show kitB "dict" "tuple" = some false; decide +kernel
theorem dva_length {H : Hp} {vs : List V} {ds : List PyData} (h : DvAll H vs ds) : vs.length = ds.length := by
  induction ds generalizing vs with
  | nil =>
    cases h
    rfl
  | cons d ds ih =>
    cases h with
    | cons _ h2 => rw [List.length_cons, List.length_cons, ih h2]
/-- the exception, with what it keeps -/
def OutY (C : Addr) (x : Str) (v : V) (H : Hp) (E : XK) : Prop := ∀ dd, H dd = none → E (.ref C) (some dd) (upd H dd (.xd [(x, v)]))
def opp (d : Rec) : Rec := ⟨!d.lo, d.t, if d.lo = true then d.n - 1 else d.n + 1⟩
section
variable {P : Program} {w : World} {K : PySem.W.Frag} {mg : Str → Option Value} {base : Heap} {C : Addr}
def spIsRecD : Sp := fun vs H Q _ => ∃ (v : V) (d : PyData), vs = [v] ∧ Dv H v d ∧ rgB d = true ∧ ∀ H', Same H H' → Q (.bl (recB d)) H'
theorem okA_is_record (D : Df K mg "is_record" s_is_record P_is_record) (B : Bi mg) (cA_is_integer : C8.Cal P w K mg base 1 "is_integer" spIsAny []) : C8.Cal P w K mg base 2 "is_record" spIsRecD [] := by
  refine cal_of D sc_is_record (fun vs H Q E h => ?_) (fun f cdv A outer s H vs Q E hr h => ?_)
  · obtain ⟨v, d, rfl, _⟩ := h
    rfl
  · obtain ⟨v, d, rfl, dv, rg, kk⟩ := h
    have c_is_integer := cA_is_integer
    have hu : (A.deeper (envOfC "is_record" (defScope s_is_record) s.heap.objs.size f cdv)).units + 65 < cLine := by
      have := hr.un
      omega
    refine ⟨_, (pss_cons (ps_if (PW.pt (pw_or (pt_not (pt_val (pe_callB (call_isi) (by rfl) B.isinstance_ bt_isinstance (pa_cons (pv 0) (pa_cons (pe_bltn (v := .ty "tuple") (by rfl) B.tuple_ bt_tuple rfl) pa_nil))))) (pw_or1 (pt_cmpR op_ne (pe_callB (call_len_seq) (by rfl) B.len_ bt_len (pa_cons (pv 0) pa_nil)) pe_int (nomark _)))))
      (pss_one (ps_ret pe_bl))
      pss_nil)
    (pss_one (ps_ret (pe_and (pe_cmpR (op_inDT hu) (pe_ix (r := rIxT K) ix_tup (pv 0) pe_int (fun _ _ => rfl)) (pe_tup (pa_cons pe_str (pa_cons pe_str pa_nil))) rfl) (pe_and (C8.pe_c c_is_integer hr (by decide) (by rfl) (pa_cons (pe_ix (r := rIxT K) ix_tup (pv 0) pe_int (fun _ _ => rfl)) pa_nil)) (pe_one (C8.pe_c c_is_integer hr (by decide) (by rfl) (pa_cons (pe_ix (r := rIxT K) ix_tup (pv 0) pe_int (fun _ _ => rfl)) pa_nil)))))))), ?_⟩
    refine ⟨_, rfl, _, _, _, _, isT' d, rfl, .ty "tuple", dv.ty, kit_ty (kit_tup' d), isT' d, rfl, ?_⟩
    cases ht : isT' d with
    | false =>
      have e : recB d = false := by
        cases d <;> first | rfl | cases ht
      rw [e] at kk
      exact iteT (iteT (kk _ (Same.refl _)))
    | true =>
      cases dv with
      | tup er hs =>
        rename_i r xs ds
        refine iteF ⟨_, rfl, r, _, rfl, .inr (SqT.of er), rfl, _, rfl, ?_⟩
        have hl := dva_length hs
        by_cases h3 : xs.length = 3
        · match xs, ds, hs, h3, hl with
          | [v0, v1, v2], [d0, d1, d2], hs, _, _ =>
            cases hs with
            | cons g0 hs =>
              cases hs with
              | cons g1 hs =>
                cases hs with
                | cons g2 hs =>
                  have rg : (!d0.hasDict && SeqAt.shaped d0) = true := rg
                  rw [Bool.and_eq_true] at rg
                  have nd : d0.hasDict = false := by
                    have := rg.1
                    cases h : d0.hasDict with
                    | false => rfl
                    | true =>
                      rw [h] at this
                      cases this
                  refine iteNS rfl ?_
                  refine ⟨_, rfl, r, _, _, _, rfl, rfl, SqT.of er, atI_nat (j := 0) rfl, len10 (by simp), fun p np => ?_⟩
                  have z := sm_upd (o := .tup [.str "at least", .str "at most"]) np
                  have er1 := z _ _ er
                  have kz := (Fr.same z).kp
                  refine ⟨d0, words, Dv.dp d0 _ (Dv.kp kz _ _ g0) nd, Dp.tup (SqT.of upd_same) (.cons (.str _) (.cons (.str _) .nil)), rg.2, by decide +kernel, _, rfl, ?_⟩
                  have kk : ∀ H', Same H H' → Q (.bl (words.any (fun z => PyData.eqv z d0) && (isI d1 && isI d2))) H' := kk
                  cases c0 : words.any (fun z => PyData.eqv z d0) with
                  | false =>
                    rw [c0] at kk
                    exact iteF (kk _ z)
                  | true =>
                    rw [c0] at kk
                    refine iteT ⟨_, rfl, r, _, _, _, rfl, rfl, SqT.of er1, atI_nat (j := 1) rfl, v1, d1, rfl, Dv.kp kz _ _ g1, isI d1, rfl, ?_⟩
                    cases c1 : isI d1 with
                    | false =>
                      rw [c1] at kk
                      exact iteF (kk _ z)
                    | true =>
                      rw [c1] at kk
                      refine iteT ⟨_, rfl, r, _, _, _, rfl, rfl, SqT.of er1, atI_nat (j := 2) rfl, v2, d2, rfl, Dv.kp kz _ _ g2, ?_⟩
                      exact kk _ z
        · rw [rec_three (by omega)] at kk
          exact iteTs (len_ne3 h3) (kk _ (Same.refl _))
      | _ => cases ht
/-! ### opposite -/
def spOpp : Sp := fun vs H Q _ => ∃ (r : Addr) (d : Rec), vs = [.ref r] ∧ H r = some (rcO d) ∧ ∀ e H', Same H H' → H' e = some (rcO (opp d)) → Q (.ref e) H'
def spOppX (C : Addr) : Sp := fun vs H _ E => ∃ (v : V) (d : PyData), vs = [v] ∧ Dv H v d ∧ rgB d = true ∧ recB d = false ∧ ∀ H', Same H H' → OutY C "index" (.int 0) H' E
end
/-- n.x of an exception that a name keeps -/
theorem pe_xk {Y : Cx} {a C : Addr} {oe : Obj} {cls : Value} {d : Option Addr} {e : Expr} {te : TE} {pos : Pos} {n : Str} (T : XfC Y.K C) (hno : PySem.W.findIn Y.K (.ref C) n = some none)
    (hz : Zc cls d oe) (hf : ∃ vs, oe.data = .fields vs) (hin : (a, oe) ∈ Y.pn) (he : PE Y e te) (hb : attributeBase e n Y.env (eval e Y.env) = eval e Y.env := by rfl) : PE Y (.Attribute e n pos) (tXf a cls d C n te) := by
  constructor
  intro pins s σ H Q I h
  refine attr_of hb (thn (he.run pins s σ H _ I h) fun u s1 hh => ?_)
  obtain ⟨x, H1, J1, rx, ex, ec, dd, fs, v, ed, ea, l, q⟩ := hh
  subst ex ec ed
  obtain rfl : u = Value.ref a := rx
  obtain ⟨there, _⟩ := J1.pin (a, oe) (List.mem_append_left _ hin)
  obtain ⟨vs, hd⟩ := hf
  obtain ⟨mA, hns, hr⟩ := (show ObjOk Y.prog Y.w H1 s1.heap dd (.xd fs) from J1.hok dd _ ea)
  obtain ⟨od, ho, hl⟩ := lookIn_ns hns
  obtain ⟨u, hu, ru⟩ := RelO.some_of (v := v) (o := mA n) (by rw [← l]; exact hr n)
  have inst : PySem.W.InstAt s1.heap a oe C (some od) := ⟨there, hz.1, by unfold PySem.W.notCls; rw [hd] <;> rfl, by rw [hz.2]; exact ho⟩
  have found := PySem.W.findObj_own T.hdC hno rfl (by rw [hl, hu])
  exact HandSPX.exc_get J1.kIn inst T.ga T.gg T.exC found (handed_of ru) ⟨v, H1, J1.tok _, ru, q⟩
end Lf
namespace Lf
open PySem PySem.Spec PyProof.Rows L2
/-! ### rates: any value -/
def isT : PyData → Bool
  | .tuple _ => true
  | _ => false
theorem kit_tup (d : PyData) : kitB (tyN d) "tuple" = some (isT d) := by
  cases d
  · show kitB "NoneType" "tuple" = some false; decide +kernel
  · show kitB "bool" "tuple" = some false; decide +kernel
  · show kitB "int" "tuple" = some false; decide +kernel
  · show kitB "str" "tuple" = some false; decide +kernel
  · show kitB "list" "tuple" = some false; decide +kernel
  · show kitB "tuple" "tuple" = some true; decide +kernel
  · show kitB "dict" "tuple" = some false; decide +kernel
def rateD : PyData → Bool
  | .tuple [.int p, .int q] => decide (0 ≤ p) && (decide (1 ≤ q) && decide (V.int (Int.gcd p q : Int) = V.int 1))
  | _ => false
theorem rateD_inv {d : PyData} (h : rateD d = true) : ∃ p q, d = .tuple [.int p, .int q] ∧ 0 ≤ p ∧ 1 ≤ q ∧ Int.gcd p q = 1 := by
  unfold rateD at h
  split at h
  · rename_i p q
    rw [Bool.and_eq_true, Bool.and_eq_true] at h
    have h3 := V.int.inj (of_decide_eq_true h.2.2)
    exact ⟨p, q, rfl, of_decide_eq_true h.1, of_decide_eq_true h.2.1, by omega⟩
  · cases h
theorem dv_rate {H : Hp} {v : V} {p q : Int} (h : Dv H v (.tuple [.int p, .int q])) : ∃ r, v = .ref r ∧ H r = some (tup2 p q) := by
  cases h with
  | tup e hs =>
    cases hs with
    | cons h1 hs =>
      cases hs with
      | cons h2 hs =>
        cases hs
        cases h1
        cases h2
        exact ⟨_, rfl, e⟩
/-- a value's own pair, within bounds, where it is a rate -/
def BR (d : PyData) : Prop := rateD d = true → ∃ p q, d = .tuple [.int p, .int q] ∧ Rt 30 p q
def bad : PyData → Bool
  | .none => false
  | d => !rateD d
def isN : PyData → Bool
  | .none => true
  | _ => false
def pr : PyData → Int × Int
  | .tuple [.int p, .int q] => (p, q)
  | _ => (0, 1)
def due (d1 d2 : PyData) : Option Bool :=
  if bad d1 = true then some true else if bad d2 = true then some false else if isN d2 = true then none
  else if (pr d2).1 * (pr d1).2 ≤ (pr d1).1 * (pr d2).2 then some false else none
theorem dv_non {H : Hp} {v : V} {d : PyData} (h : Dv H v d) : decide (v = .non) = isN d := by
  cases h <;> first | rfl | exact decide_eq_false (by intro z; cases z)
theorem isI_inv {H : Hp} {v : V} {d : PyData} (h : Dv H v d) (hi : isI d = true) : ∃ z, v = .int z ∧ d = .int z := by
  cases h with
  | int z => exact ⟨z, rfl, rfl⟩
  | _ => cases hi
theorem dva_len {H : Hp} {vs : List V} {ds : List PyData} (h : DvAll H vs ds) : vs.length = ds.length := by
  induction ds generalizing vs with
  | nil =>
    cases h
    rfl
  | cons d ds ih =>
    cases h with
    | cons _ h2 => rw [List.length_cons, List.length_cons, ih h2]
theorem rate_two {ds : List PyData} (h : ds.length ≠ 2) : rateD (.tuple ds) = false := by
  unfold rateD
  split
  · rename_i p q e
    cases e
    exact absurd rfl h
  · rfl
theorem rate_i {d0 d1 : PyData} (h : isI d0 = false ∨ isI d1 = false) : rateD (.tuple [d0, d1]) = false := by
  unfold rateD
  split
  · rename_i p q e
    cases e
    rcases h with h | h <;> cases h
  · rfl
theorem len_ne {n : Nat} (h : n ≠ 2) : (!decide (V.int (n : Int) = V.int 2)) = true := by
  have : ¬ V.int (n : Int) = V.int 2 := fun z => h (by
    have := V.int.inj z
    omega)
  rw [decide_eq_false this]
  rfl
section
variable {P : Program} {w : World} {K : PySem.W.Frag} {mg : Str → Option Value} {base : Heap} {C : Addr}
def spIsRateD : Sp := fun vs H Q _ => ∃ (v : V) (d : PyData), vs = [v] ∧ Dv H v d ∧ Q (.bl (rateD d)) H
theorem okA_is_rate (D : Df K mg "is_rate" s_is_rate P_is_rate) (B : Bi mg) (cA_is_integer : C8.Cal P w K mg base 1 "is_integer" spIsAny []) (c_gcd : C8.Cal P w K mg base 1 "gcd" spGcd []) : C8.Cal P w K mg base 2 "is_rate" spIsRateD [] := by
  refine cal_of D sc_is_rate (fun vs H Q E h => ?_) (fun f cdv A outer s H vs Q E hr h => ?_)
  · obtain ⟨v, d, rfl, _⟩ := h
    rfl
  · obtain ⟨v, d, rfl, dv, kk⟩ := h
    have c_is_integer := cA_is_integer
    refine ⟨_, (pss_cons (ps_if (PW.pt (pw_or (pt_not (pt_val (pe_callB (call_isi) (by rfl) B.isinstance_ bt_isinstance (pa_cons (pv 0) (pa_cons (pe_bltn (v := .ty "tuple") (by rfl) B.tuple_ bt_tuple rfl) pa_nil))))) (pw_or1 (pt_cmpR op_ne (pe_callB (call_len_seq) (by rfl) B.len_ bt_len (pa_cons (pv 0) pa_nil)) pe_int (nomark _)))))
      (pss_one (ps_ret pe_bl))
      pss_nil)
    (pss_cons (ps_if (PW.pt (pw_or (pt_not (pt_val (C8.pe_c c_is_integer hr (by decide) (by rfl) (pa_cons (pe_ix (r := rIxT K) ix_tup (pv 0) pe_int (fun _ _ => rfl)) pa_nil)))) (pw_or1 (pt_not (pt_val (C8.pe_c c_is_integer hr (by decide) (by rfl) (pa_cons (pe_ix (r := rIxT K) ix_tup (pv 0) pe_int (fun _ _ => rfl)) pa_nil)))))))
      (pss_one (ps_ret pe_bl))
      pss_nil)
    (pss_one (ps_ret (pe_and (pe_cmpR op_ge (pe_ix (r := rIxT K) ix_tup (pv 0) pe_int (fun _ _ => rfl)) pe_int (nomark _)) (pe_and (pe_cmpR op_ge (pe_ix (r := rIxT K) ix_tup (pv 0) pe_int (fun _ _ => rfl)) pe_int (nomark _)) (pe_one (pe_cmpR op_eq (C8.pe_c c_gcd hr (by decide) (by rfl) (pa_cons (pe_ix (r := rIxT K) ix_tup (pv 0) pe_int (fun _ _ => rfl)) (pa_cons (pe_ix (r := rIxT K) ix_tup (pv 0) pe_int (fun _ _ => rfl)) pa_nil))) pe_int (nomark _))))))))), ?_⟩
    refine ⟨_, rfl, _, _, _, _, isT d, rfl, .ty "tuple", dv.ty, kit_ty (kit_tup d), isT d, rfl, ?_⟩
    cases ht : isT d with
    | false =>
      have e : rateD d = false := by
        cases d <;> first | rfl | cases ht
      rw [e] at kk
      exact iteT (iteT kk)
    | true =>
      cases dv with
      | tup er hs =>
        rename_i r xs ds
        refine iteF ⟨_, rfl, r, _, rfl, .inr (SqT.of er), rfl, _, rfl, ?_⟩
        have hl := dva_len hs
        by_cases h2 : xs.length = 2
        · match xs, ds, hs, h2, hl with
          | [v0, v1], [d0, d1], hs, _, _ =>
            cases hs with
            | cons g0 hs =>
              cases hs with
              | cons g1 hs =>
                refine iteNS rfl ?_
                refine ⟨_, rfl, r, _, _, _, rfl, rfl, SqT.of er, atI_nat (j := 0) rfl, v0, d0, rfl, g0, isI d0, rfl, ?_⟩
                cases i0 : isI d0 with
                | false =>
                  rw [rate_i (.inl i0)] at kk
                  exact iteT (iteT kk)
                | true =>
                  refine iteF ⟨_, rfl, r, _, _, _, rfl, rfl, SqT.of er, atI_nat (j := 1) rfl, v1, d1, rfl, g1, isI d1, rfl, ?_⟩
                  cases i1 : isI d1 with
                  | false =>
                    rw [rate_i (.inr i1)] at kk
                    exact iteT kk
                  | true =>
                    obtain ⟨p, rfl, rfl⟩ := isI_inv g0 i0
                    obtain ⟨q, rfl, rfl⟩ := isI_inv g1 i1
                    have kk : Q (.bl (decide (0 ≤ p) && (decide (1 ≤ q) && decide (V.int (Int.gcd p q : Int) = V.int 1)))) H := kk
                    refine iteF ⟨_, rfl, r, _, _, _, rfl, rfl, SqT.of er, atI_nat (j := 0) rfl, _, _, rfl, rfl, _, rfl, ite2 (fun c => ?_) (fun c => ?_)⟩
                    · have c : p ≥ 0 := of_decide_eq_true c
                      rw [decide_eq_true (show 0 ≤ p from c), Bool.true_and] at kk
                      refine ⟨_, rfl, r, _, _, _, rfl, rfl, SqT.of er, atI_nat (j := 1) rfl, _, _, rfl, rfl, _, rfl, ite2 (fun c2 => ?_) (fun c2 => ?_)⟩
                      · have c2 : q ≥ 1 := of_decide_eq_true c2
                        rw [decide_eq_true (show 1 ≤ q from c2), Bool.true_and] at kk
                        exact ⟨_, rfl, r, _, _, _, rfl, rfl, SqT.of er, atI_nat (j := 0) rfl, _, rfl, r, _, _, _, rfl, rfl, SqT.of er, atI_nat (j := 1) rfl, p, q, rfl, c, by omega, rfl, kk⟩
                      · have c2 : ¬ q ≥ 1 := fun z => c2 (decide_eq_true z)
                        rw [decide_eq_false (show ¬ 1 ≤ q from c2), Bool.false_and] at kk
                        exact kk
                    · have c : ¬ p ≥ 0 := fun z => c (decide_eq_true z)
                      rw [decide_eq_false (show ¬ 0 ≤ p from c), Bool.false_and] at kk
                      exact kk
        · rw [rate_two (by omega)] at kk
          exact iteTs (len_ne h2) kk
      | _ => cases ht
/-- the exception, with the value -/
def OutX (C : Addr) (x : Str) (v : V) (H : Hp) (E : XK) : Prop := ∀ dd, H dd = none → E (.ref C) (some dd) (upd H dd (.xd [(x, v)]))
def spCkRate (C : Addr) : Sp := fun vs H Q E => ∃ (v : V) (d : PyData), vs = [v] ∧ Dv H v d ∧ (rateD d = true → Q .non H) ∧ (rateD d = false → OutX C "value" v H E)
theorem okx_check_rate (D : Df K mg "check_rate" s_check_rate P_check_rate) (T : ValC P K mg C "InvalidRate" "value") (cA_is_rate : C8.Cal P w K mg base 2 "is_rate" spIsRateD []) : CalX P w K mg base 3 "check_rate" (spCkRate C) := by
  refine calx_of D sc_check_rate (fun vs H Q E h => ?_) (fun f cdv A outer s H vs Q E hr h => ?_)
  · obtain ⟨v, d, rfl, _⟩ := h
    rfl
  · obtain ⟨v, d, rfl, dv, hq, he⟩ := h
    have c_is_rate := cA_is_rate
    refine ⟨_, (pss_one (ps_if (pt_not (pt_val (C8.pe_c c_is_rate hr (by decide) (by rfl) (pa_cons (pv 0) pa_nil))))
      (pss_one (ps_raise rfl (takes_of rfl rfl rfl rfl) (pmk_val T hr (by decide) rfl (pv 0))))
      pss_nil)), ?_⟩
    refine ⟨_, rfl, v, d, rfl, dv, rateD d, rfl, ?_⟩
    cases hd : rateD d with
    | true => exact iteF (hq hd)
    | false => exact iteT ⟨_, rfl, mkv (he hd)⟩
end
end Lf
namespace Lf
open PySem PySem.Spec PyProof.Rows L2
def Odp (Pd : PyData → Prop) (H : Hp) (x : V) : Prop := ∃ d, Dv H x d ∧ Pd d
def OdpL (Pd : PyData → Prop) (H : Hp) (xs : List V) : Prop := ∀ x ∈ xs, Odp Pd H x
section
variable {Pd : PyData → Prop} {H H' : Hp} {xs ys : List V}
theorem OdpL.kp (h : OdpL Pd H xs) (f : Kp H H') : OdpL Pd H' xs := fun x hx => by
  obtain ⟨d, h1, h2⟩ := h x hx
  exact ⟨d, Dv.kp f _ _ h1, h2⟩
theorem OdpL.same (h : OdpL Pd H xs) (s : Same H H') : OdpL Pd H' xs := h.kp (Fr.same s).kp
theorem OdpL.snoc {x : V} (h : OdpL Pd H xs) (o : Odp Pd H x) : OdpL Pd H (xs ++ [x]) := fun y hy => by
  rcases List.mem_append.mp hy with hy | hy
  · exact h y hy
  · rw [List.mem_singleton.mp hy]
    exact o
theorem OdpL.app (h : OdpL Pd H xs) (h2 : OdpL Pd H ys) : OdpL Pd H (xs ++ ys) := fun y hy => (List.mem_append.mp hy).elim (h y) (h2 y)
theorem OdpL.nil : OdpL Pd H [] := fun _ z => (nomatch z)
end
def Pd37 (d : PyData) : Prop := rgB d = true ∧ recB d = false
theorem odd_by {d : PyData} (h : (rgB d && !recB d) = true) : Pd37 d := by
  rw [Bool.and_eq_true] at h
  refine ⟨h.1, ?_⟩
  cases e : recB d with
  | false => rfl
  | true =>
    rw [e] at h
    cases h.2
theorem rec_i {d0 d1 d2 : PyData} (h : isI d1 = false ∨ isI d2 = false) : recB (.tuple [d0, d1, d2]) = false := by
  show (words.any (fun z => PyData.eqv z d0) && (isI d1 && isI d2)) = false
  rcases h with h | h <;> rw [h] <;> simp
theorem rec_s {x : Str} {t n : Int} (h : (words.any fun z => PyData.eqv z (.str x)) = false) : recB (.tuple [.str x, .int t, .int n]) = false := by
  show (words.any (fun z => PyData.eqv z (.str x)) && (isI (.int t) && isI (.int n))) = false
  rw [h]
  rfl
theorem rg_w (b : Bool) {d1 d2 : PyData} : rgB (.tuple [.str (wd b), d1, d2]) = true := by
  show (!PyData.hasDict (.str (wd b)) && SeqAt.shaped (.str (wd b))) = true
  cases b <;> decide +kernel
theorem rg_lw (b : Bool) {d1 d2 : PyData} : rgB (.tuple [.list [.str (wd b)], d1, d2]) = true := by
  show (!PyData.hasDict (.list [.str (wd b)]) && SeqAt.shaped (.list [.str (wd b)])) = true
  cases b <;> decide +kernel
theorem mergeK1 {x : Str} {v : V} : mergeK [] [(Sum.inr x, v)] = [(Sum.inr x, v)] := by
  simp [mergeK, putK]
end Lf
namespace Lf
open PySem PySem.Spec PyProof.Rows L2
section
variable {P : Program} {w : World} {K : PySem.W.Frag} {mg : Str → Option Value} {base : Heap}
def spOddR37 : Sp := fun vs H Q _ => ∃ (a : PA) (n : Nat) (r : Addr) (d : Rec), vs = [.ref a, .ref r] ∧ Pen H a n ∧ n < 2 ^ 39 ∧ H r = some (rcO d) ∧ Bd 1900 d.n ∧ ∀ x H', Odp Pd37 H' x → Pen H' a (n + 1) → Fr H H' → Q x H'
end
end Lf
namespace Lf
open PySem PySem.Spec PyProof.Rows L2
theorem at_in {xs : List V} {d : Int} (h0 : 0 ≤ d) (h1 : d < (xs.length : Int)) : ∃ x, atI xs d = some x ∧ x ∈ xs := by
  obtain ⟨j, rfl⟩ := Int.eq_ofNat_of_zero_le h0
  have hj : j < xs.length := by omega
  exact ⟨_, atI_nat (List.getElem?_eq_getElem hj), List.getElem_mem hj⟩
section
variable {P : Program} {w : World} {K : PySem.W.Frag} {mg : Str → Option Value} {base : Heap}
/-! ### _law_far, _law_rule, _law_count, _law_time, _law_record -/
def spFar : Sp := fun vs H Q _ => ∃ (a : PA) (n : Nat) (dg : Int) (m : Nat), vs = [.ref a, .int dg] ∧ Pen H a n ∧ n < 2 ^ 39 ∧ dg / 6 = (m : Int) ∧ 1 ≤ m ∧ m ≤ 60 ∧
  ∀ z H', Bd (20 * m) z → Pen H' a (n + m + 2) → Fr H H' → Q (.int z) H'
abbrev s_l_far : Stmt := topS 35
abbrev N_l_far : List Str := ["_law_pen_here", "_law_digits", "_law_number", "_law_k"]
abbrev P_l_far : List Str := ["_law_pen_here", "_law_digits"]
theorem sc_l_far : FnScope N_l_far P_l_far (defScope s_l_far) := ⟨rfl, rfl, rfl, by decide +kernel, rfl, by decide +kernel, by decide +kernel⟩
theorem ok_l_far (D : Df K mg "_law_far" s_l_far P_l_far) (B : Bi mg) (c_l_draw : C8.Cal P w K mg base 1 "_law_draw" spDraw []) : C8.Cal P w K mg base 2 "_law_far" spFar [] := by
  refine cal_of D sc_l_far (fun vs H Q E h => ?_) (fun f cdv A outer s H vs Q E hr h => ?_)
  · obtain ⟨a, n, dg, m, rfl, _⟩ := h
    rfl
  · obtain ⟨a, n, dg, m, rfl, hP, hn, hm, m1, m40, q⟩ := h
    refine ⟨_, (pss_cons (ps_set (i := 2) sc_l_far.nd rfl (Or.inl rfl) pe_int)
    (pss_cons (ps_for PassesOwn.never rfl (pi_range1 rfl B.range_ (pa_cons (C8.pe_c c_l_draw hr (by decide) (by rfl) (pa_cons (pv 0) (pa_cons (pe_op op_add (pe_op op_fdiv (pv 1) pe_int) pe_int) pa_nil))) pa_nil)) (pg_name (i := 3) sc_l_far.nd rfl (Or.inl rfl))
      (pss_one (ps_set (i := 2) sc_l_far.nd rfl (Or.inl rfl) (pe_op op_add (pe_op op_mul (pv 2) (pe_op op_pow pe_int pe_int)) (C8.pe_c c_l_draw hr (by decide) (by rfl) (pa_cons (pv 0) (pa_cons (pe_op op_pow pe_int pe_int) pa_nil)))))))
    (pss_one (ps_ret (pe_ix (r := rIxL K) ix_list (pe_lst (pa_cons (pv 2) (pa_cons (pe_op op_sub pe_int (pv 2)) pa_nil))) (C8.pe_c c_l_draw hr (by decide) (by rfl) (pa_cons (pv 0) (pa_cons pe_int pa_nil))) (fun _ _ => rfl)))))), ?_⟩
    refine ⟨_, rfl, _, rfl, _, _, rfl, rfl, ⟨by decide, by decide⟩, _, _, rfl, rfl, a, n, _, rfl, hP, by omega, by omega, Bd.small 20 (by omega) (by decide), fun dd H1 d0 d1 hP1 f1 => ?_⟩
    refine ⟨_, rfl, by omega, by omega, ?_⟩
    refine for_range (lo := 0) (n := dd.toNat) (fun i σ H2 => ∃ (r : Int) (y : Option V), σ = [some (.ref a), some (.int dg), some (.int r), y] ∧ 0 ≤ r ∧ Bd (20 * i) r ∧ Pen H2 a (n + 1 + i) ∧ Fr H H2) ?_ ?_ ?_
    · exact ⟨0, none, rfl, by omega, by show (0 : Int).natAbs < 2 ^ 0; decide, hP1, f1⟩
    · rintro i σ H2 hi ⟨r, y, rfl, r0, rb, hP2, f2⟩
      refine ⟨_, rfl, _, _, rfl, rfl, ⟨by decide, by decide, by decide⟩, _, _, rfl, rfl, .inr ⟨by decide, by decide⟩, _, rfl, _, _, rfl, rfl, ⟨by decide, by decide, by decide⟩, a, _, _, rfl, hP2, by omega, by decide, Bd.small 20 (by decide) (by decide), fun e H3 e0 e1 hP3 f3 => ?_⟩
      refine ⟨_, _, rfl, rfl, ?_⟩
      refine ⟨_, _, rfl, ?_, ?_, hP3, f2.trans f3⟩
      · have : (0 : Int) ≤ 10 ^ (6 : Int).toNat := by decide
        have := Int.mul_nonneg r0 this
        omega
      · exact Bd.grow r0 rb e0 e1
    · rintro σ H2 ⟨r, y, rfl, r0, rb, hP2, f2⟩
      have rm : Bd (20 * m) r := rb.mono (by omega)
      refine ⟨_, rfl, _, rfl, _, _, rfl, rfl, len10 (by simp), fun l nl => ?_⟩
      refine ⟨_, rfl, a, _, _, rfl, hP2.new nl, by omega, by decide, Bd.small 20 (by decide) (by decide), fun d H3 d20 d21 hP3 f3 => ?_⟩
      have el := f3.l _ _ (upd_same (H := H2) (a := l) (o := .lst [.int r, .int (0 - r)]))
      obtain ⟨x, hx, mx⟩ := at_in (xs := [.int r, .int (0 - r)]) d20 (by show d < 2; omega)
      refine ⟨l, _, _, _, rfl, rfl, SqL.of el, hx, ?_⟩
      have fF : Fr H H3 := f2.trans ((Fr.new nl).trans f3)
      simp only [List.mem_cons, List.not_mem_nil, or_false] at mx
      rcases mx with rfl | rfl
      · exact q _ _ rm (hP3.mono (by omega)) fF
      · exact q _ _ (by rw [Int.zero_sub]; exact rm.neg) (hP3.mono (by omega)) fF
theorem absB {k : Nat} {z : Int} (h : Bd k z) : 0 ≤ (if z < 0 then -z else z) ∧ Bd k (if z < 0 then -z else z) := by
  by_cases c : z < 0
  · rw [if_pos c]
    exact ⟨by omega, h.neg⟩
  · rw [if_neg c]
    exact ⟨by omega, h⟩
def spRule30 : Sp := fun vs H Q _ => ∃ (a : PA) (n : Nat) (dg : Int) (m : Nat), vs = [.ref a, .int dg] ∧ Pen H a n ∧ n < 2 ^ 38 ∧ dg / 6 = (m : Int) ∧ 2 ≤ m ∧ m ≤ 20 ∧
  ∀ r H' p q c, RuleB (20 * m + 4) p q c → H' r = some (.tup [.int p, .int q, .int c]) → Pen H' a (n + 100) → Fr H H' → Q (.ref r) H'
abbrev s_l_rule : Stmt := topS 37
abbrev N_l_rule : List Str := ["_law_pen_here", "_law_digits", "_law_road", "_law_q", "_law_p", "_law_divisor", "_law_c"]
abbrev P_l_rule : List Str := ["_law_pen_here", "_law_digits"]
theorem sc_l_rule : FnScope N_l_rule P_l_rule (defScope s_l_rule) := ⟨rfl, rfl, rfl, by decide +kernel, rfl, by decide +kernel, by decide +kernel⟩
theorem ok_l_rule (D : Df K mg "_law_rule" s_l_rule P_l_rule) (B : Bi mg) (c_l_draw : C8.Cal P w K mg base 1 "_law_draw" spDraw []) (c_l_far : C8.Cal P w K mg base 2 "_law_far" spFar []) (c_l_gcd : C8.Cal P w K mg base 1 "_law_gcd" spGcd []) : C8.Cal P w K mg base 3 "_law_rule" spRule30 [] := by
  refine cal_of D sc_l_rule (fun vs H Q E h => ?_) (fun f cdv A outer s H vs Q E hr h => ?_)
  · obtain ⟨a, n, dg, m, rfl, _⟩ := h
    rfl
  · obtain ⟨a, n, dg, m, rfl, hP, hn, hm, m1, m20, kk⟩ := h
    refine ⟨_, (pss_cons (ps_set (i := 2) sc_l_rule.nd rfl (Or.inl rfl) (C8.pe_c c_l_draw hr (by decide) (by rfl) (pa_cons (pv 0) (pa_cons pe_int pa_nil))))
    (C8.pss_cut (ps_set (i := 3) sc_l_rule.nd rfl (Or.inl rfl) (pe_op op_add pe_int (pe_ix (r := rIxL K) ix_list (pe_lst (pa_cons (C8.pe_c c_l_draw hr (by decide) (by rfl) (pa_cons (pv 0) (pa_cons pe_int pa_nil))) (pa_cons (C8.pe_c c_l_draw hr (by decide) (by rfl) (pa_cons (pv 0) (pa_cons pe_int pa_nil))) (pa_cons (C8.pe_c c_l_draw hr (by decide) (by rfl) (pa_cons (pv 0) (pa_cons (pe_op op_pow pe_int pe_int) pa_nil))) (pa_cons (pe_callB (call_abs) (by rfl) B.abs_ bt_abs (pa_cons (C8.pe_c c_l_far hr (by decide) (by rfl) (pa_cons (pv 0) (pa_cons (pv 1) pa_nil))) pa_nil)) pa_nil))))) (pv 2) (fun _ _ => rfl))))
    (C8.pss_cut (ps_set (i := 4) sc_l_rule.nd rfl (Or.inl rfl) (pe_ix (r := rIxL K) ix_list (pe_lst (pa_cons (C8.pe_c c_l_draw hr (by decide) (by rfl) (pa_cons (pv 0) (pa_cons (pe_op op_add (pe_op op_mul pe_int (pv 3)) pe_int) pa_nil))) (pa_cons (C8.pe_c c_l_draw hr (by decide) (by rfl) (pa_cons (pv 0) (pa_cons pe_int pa_nil))) (pa_cons (pe_callB (call_abs) (by rfl) B.abs_ bt_abs (pa_cons (C8.pe_c c_l_far hr (by decide) (by rfl) (pa_cons (pv 0) (pa_cons (pv 1) pa_nil))) pa_nil)) pa_nil)))) (C8.pe_c c_l_draw hr (by decide) (by rfl) (pa_cons (pv 0) (pa_cons pe_int pa_nil))) (fun _ _ => rfl)))
    (pss_cons (ps_set (i := 5) sc_l_rule.nd rfl (Or.inl rfl) (C8.pe_c c_l_gcd hr (by decide) (by rfl) (pa_cons (pv 4) (pa_cons (pv 3) pa_nil))))
    (C8.pss_cut (ps_set (i := 6) sc_l_rule.nd rfl (Or.inl rfl) (pe_ix (r := rIxL K) ix_list (pe_lst (pa_cons (pe_op op_sub (C8.pe_c c_l_draw hr (by decide) (by rfl) (pa_cons (pv 0) (pa_cons pe_int pa_nil))) pe_int) (pa_cons (C8.pe_c c_l_far hr (by decide) (by rfl) (pa_cons (pv 0) (pa_cons (pv 1) pa_nil))) pa_nil))) (C8.pe_c c_l_draw hr (by decide) (by rfl) (pa_cons (pv 0) (pa_cons pe_int pa_nil))) (fun _ _ => rfl)))
    (pss_one (ps_ret (pe_tup (pa_cons (pe_op op_fdivW (pv 4) (pv 5)) (pa_cons (pe_op op_fdivW (pv 3) (pv 5)) (pa_cons (pv 6) pa_nil))))))))))), ?_⟩
    have sB : ∀ {x : Int}, x.natAbs < 2 ^ 20 → Bd (20 * m) x := fun h => Bd.small 20 h (by omega)
    -- road, q
    refine ⟨_, rfl, a, _, _, rfl, hP, by omega, by decide, Bd.small 20 (by decide) (by decide), fun rd H1 r0 r1 hP1 f1 => ?_⟩
    refine ⟨fun σ' H' => ∃ q : Int, σ' = [some (.ref a), some (.int dg), some (.int rd), some (.int q), none, none, none] ∧ 1 ≤ q ∧ Bd (20 * m + 1) q ∧ Pen H' a (n + 30) ∧ Fr H H', ?_, ?_⟩
    · refine ⟨_, rfl, a, _, _, rfl, hP1, by omega, by decide, Bd.small 20 (by decide) (by decide), fun e1 H2 e10 e11 hP2 f2 => ?_⟩
      refine ⟨_, rfl, a, _, _, rfl, hP2, by omega, by decide, Bd.small 20 (by decide) (by decide), fun e2 H3 e20 e21 hP3 f3 => ?_⟩
      refine ⟨_, rfl, _, _, rfl, rfl, ⟨by decide, by decide, by decide⟩, a, _, _, rfl, hP3, by omega, by decide, Bd.small 20 (by decide) (by decide), fun e3 H4 e30 e31 hP4 f4 => ?_⟩
      refine ⟨_, rfl, _, rfl, a, _, dg, m, rfl, hP4, by omega, hm, by omega, by omega, fun z H5 bz hP5 f5 => ?_⟩
      obtain ⟨z0, zb⟩ := absB bz
      refine ⟨_, rfl, ?_⟩
      have e31 : e3 < 1000000 := e31
      generalize (if z < 0 then -z else z) = z' at z0 zb
      refine ⟨len10 (by simp), fun l nl => ?_⟩
      obtain ⟨x, hx, mx⟩ := at_in (xs := [.int e1, .int e2, .int e3, .int z']) r0 (by show rd < 4; omega)
      refine ⟨_, rfl, l, _, _, _, rfl, rfl, SqL.of upd_same, hx, ?_⟩
      obtain ⟨v, rfl, v0, vb⟩ : ∃ v, x = V.int v ∧ 0 ≤ v ∧ Bd (20 * m) v := by
        simp only [List.mem_cons, List.not_mem_nil, or_false] at mx
        rcases mx with rfl | rfl | rfl | rfl
        · exact ⟨_, rfl, by omega, sB (by omega)⟩
        · exact ⟨_, rfl, by omega, sB (by omega)⟩
        · exact ⟨_, rfl, by omega, sB (by omega)⟩
        · exact ⟨_, rfl, z0, zb⟩
      refine ⟨_, _, rfl, rfl, ?_⟩
      exact ⟨_, rfl, by omega, Bd.add (sB (by decide)) vb, (hP5.new nl).mono (by omega), f1.trans (f2.trans (f3.trans (f4.trans (f5.trans (Fr.new nl)))))⟩
    rintro σ H2 ⟨q, rfl, q1, qb, hP2, f2⟩
    -- p
    refine ⟨fun σ' H' => ∃ p : Int, σ' = [some (.ref a), some (.int dg), some (.int rd), some (.int q), some (.int p), none, none] ∧ 0 ≤ p ∧ Bd (20 * m + 4) p ∧ Pen H' a (n + 60) ∧ Fr H H', ?_, ?_⟩
    · have b3 : Bd (20 * m + 3) (3 * q) := by
        rw [show 3 * q = q + q + q by omega]
        exact Bd.add (Bd.add qb qb) (qb.mono (by omega))
      have b31 : Bd (20 * m + 4) (3 * q + 1) := Bd.add b3 (Bd.small 1 (by decide) (by omega))
      refine ⟨_, rfl, _, rfl, _, _, rfl, rfl, .inl ⟨by decide, by decide⟩, _, _, rfl, rfl, a, _, _, rfl, hP2, by omega, by omega, b31.mono (by omega), fun e1 H3 e10 e11 hP3 f3 => ?_⟩
      refine ⟨_, rfl, a, _, _, rfl, hP3, by omega, by decide, Bd.small 20 (by decide) (by decide), fun e2 H4 e20 e21 hP4 f4 => ?_⟩
      refine ⟨_, rfl, _, rfl, a, _, dg, m, rfl, hP4, by omega, hm, by omega, by omega, fun z H5 bz hP5 f5 => ?_⟩
      obtain ⟨z0, zb⟩ := absB bz
      refine ⟨_, rfl, ?_⟩
      generalize (if z < 0 then -z else z) = z' at z0 zb
      refine ⟨len10 (by simp), fun l nl => ?_⟩
      refine ⟨_, rfl, a, _, _, rfl, hP5.new nl, by omega, by decide, Bd.small 20 (by decide) (by decide), fun d H6 d0 d1 hP6 f6 => ?_⟩
      have el := f6.l _ _ (upd_same (H := H5) (a := l) (o := .lst [.int e1, .int e2, .int z']))
      obtain ⟨x, hx, mx⟩ := at_in (xs := [.int e1, .int e2, .int z']) d0 (by show d < 3; omega)
      refine ⟨l, _, _, _, rfl, rfl, SqL.of el, hx, ?_⟩
      obtain ⟨v, rfl, v0, vb⟩ : ∃ v, x = V.int v ∧ 0 ≤ v ∧ Bd (20 * m + 4) v := by
        simp only [List.mem_cons, List.not_mem_nil, or_false] at mx
        rcases mx with rfl | rfl | rfl
        · exact ⟨_, rfl, by omega, b31.between (by omega) (by omega)⟩
        · exact ⟨_, rfl, by omega, (sB (by omega)).mono (by omega)⟩
        · exact ⟨_, rfl, z0, zb.mono (by omega)⟩
      exact ⟨_, rfl, v0, vb, hP6.mono (by omega), f2.trans (f3.trans (f4.trans (f5.trans ((Fr.new nl).trans f6))))⟩
    rintro σ H3 ⟨p, rfl, p0, pb, hP3, f3⟩
    -- divisor, c
    refine ⟨_, rfl, _, rfl, p, q, rfl, p0, by omega, ?_⟩
    have hg := gcd_pos (p := p) q1
    have hgl := gcd_le (p := p) q1
    have hcop : Int.gcd (p / (Int.gcd p q : Int)) (q / (Int.gcd p q : Int)) = 1 := Int.gcd_ediv_gcd_ediv_gcd (by omega)
    have hq1 : 1 ≤ q / (Int.gcd p q : Int) := Int.le_ediv_of_mul_le hg (by rw [Int.one_mul]; exact hgl)
    have gb : Bd (20 * m + 1) (Int.gcd p q : Int) := qb.between (by omega) hgl
    generalize (Int.gcd p q : Int) = g at hg hgl hcop hq1 gb
    refine ⟨fun σ' H' => ∃ c : Int, σ' = [some (.ref a), some (.int dg), some (.int rd), some (.int q), some (.int p), some (.int g), some (.int c)] ∧ Bd (20 * m + 4) c ∧ Pen H' a (n + 100) ∧ Fr H H', ?_, ?_⟩
    · refine ⟨_, rfl, a, _, _, rfl, hP3, by omega, by decide, Bd.small 20 (by decide) (by decide), fun e1 H4 e10 e11 hP4 f4 => ?_⟩
      refine ⟨_, _, rfl, rfl, _, rfl, _, rfl, a, _, dg, m, rfl, hP4, by omega, hm, by omega, by omega, fun z H5 bz hP5 f5 => ?_⟩
      refine ⟨len10 (by simp), fun l nl => ?_⟩
      refine ⟨_, rfl, a, _, _, rfl, hP5.new nl, by omega, by decide, Bd.small 20 (by decide) (by decide), fun d H6 d0 d1 hP6 f6 => ?_⟩
      have el := f6.l _ _ (upd_same (H := H5) (a := l) (o := .lst [.int (e1 - 20), .int z]))
      obtain ⟨x, hx, mx⟩ := at_in (xs := [.int (e1 - 20), .int z]) d0 (by show d < 2; omega)
      refine ⟨l, _, _, _, rfl, rfl, SqL.of el, hx, ?_⟩
      obtain ⟨v, rfl, vb⟩ : ∃ v, x = V.int v ∧ Bd (20 * m + 4) v := by
        simp only [List.mem_cons, List.not_mem_nil, or_false] at mx
        rcases mx with rfl | rfl
        · exact ⟨_, rfl, (sB (by omega)).mono (by omega)⟩
        · exact ⟨_, rfl, bz.mono (by omega)⟩
      exact ⟨_, rfl, vb, hP6.mono (by omega), f3.trans (f4.trans (f5.trans ((Fr.new nl).trans f6)))⟩
    rintro σ H4 ⟨c, rfl, cb, hP4, f4⟩
    have hd : CDivW 0 g := ⟨hg, (gb.mono (by omega : 20 * m + 1 ≤ 9000)).log (by decide)⟩
    refine ⟨_, rfl, _, rfl, _, _, rfl, rfl, hd, _, rfl, _, rfl, _, _, rfl, rfl, hd, _, rfl, len10 (by simp), fun r nr => ?_⟩
    exact kk r _ _ _ _ ⟨Int.ediv_nonneg p0 (by omega), hq1, hcop, pb.ediv hg, (qb.ediv hg).mono (by omega), cb⟩ upd_same (hP4.new nr) (f4.trans (Fr.new nr))
def spCount30 : Sp := fun vs H Q _ => ∃ (r : Addr) (p q c t : Int) (k : Nat), vs = [.ref r, .int t] ∧ H r = some (.tup [.int p, .int q, .int c]) ∧ RuleB k p q c ∧ Bd k t ∧ 0 < k ∧ k ≤ 3000 ∧ Q (.int ((p * t + c) / q)) H
abbrev s_l_count : Stmt := topS 38
abbrev N_l_count : List Str := ["_law_rule_here", "_law_time_here"]
abbrev P_l_count : List Str := ["_law_rule_here", "_law_time_here"]
theorem sc_l_count : FnScope N_l_count P_l_count (defScope s_l_count) := ⟨rfl, rfl, rfl, by decide +kernel, rfl, by decide +kernel, by decide +kernel⟩
theorem ok_l_count (D : Df K mg "_law_count" s_l_count P_l_count) : C8.Cal P w K mg base 1 "_law_count" spCount30 [] := by
  refine cal_of D sc_l_count (fun vs H Q E h => ?_) (fun f cdv A outer s H vs Q E hr h => ?_)
  · obtain ⟨r, p, q, c, t, k, rfl, _⟩ := h
    rfl
  · obtain ⟨r, p, q, c, t, k, rfl, er, R, bt, k0, k3, kk⟩ := h
    refine ⟨_, (pss_one (ps_ret (pe_op op_fdivW (pe_op op_add (pe_op op_mulW (pe_ix (r := rIxT K) ix_tup (pv 0) pe_int (fun _ _ => rfl)) (pv 1)) (pe_ix (r := rIxT K) ix_tup (pv 0) pe_int (fun _ _ => rfl))) (pe_ix (r := rIxT K) ix_tup (pv 0) pe_int (fun _ _ => rfl))))), ?_⟩
    refine ⟨_, rfl, r, _, _, _, rfl, rfl, SqT.of er, atI_nat (j := 0) rfl, _, rfl, _, _, rfl, rfl, mulW R.bp bt k0 k0 (by omega), ?_⟩
    refine ⟨_, rfl, r, _, _, _, rfl, rfl, SqT.of er, atI_nat (j := 2) rfl, _, _, rfl, rfl, ?_⟩
    refine ⟨_, rfl, r, _, _, _, rfl, rfl, SqT.of er, atI_nat (j := 1) rfl, _, _, rfl, rfl, divW (by have := R.q1; omega) R.bq (by omega), kk⟩
def spTime30 : Sp := fun vs H Q _ => ∃ (a : PA) (n : Nat) (dg : Int) (m : Nat), vs = [.ref a, .int dg] ∧ Pen H a n ∧ n < 2 ^ 38 ∧ dg / 6 = (m : Int) ∧ 1 ≤ m ∧ m ≤ 60 ∧
  ∀ z H', Bd (20 * m) z → Pen H' a (n + m + 5) → Fr H H' → Q (.int z) H'
abbrev s_l_time : Stmt := topS 40
abbrev N_l_time : List Str := ["_law_pen_here", "_law_digits"]
abbrev P_l_time : List Str := ["_law_pen_here", "_law_digits"]
theorem sc_l_time : FnScope N_l_time P_l_time (defScope s_l_time) := ⟨rfl, rfl, rfl, by decide +kernel, rfl, by decide +kernel, by decide +kernel⟩
theorem ok_l_time (D : Df K mg "_law_time" s_l_time P_l_time) (B : Bi mg) (c_l_draw : C8.Cal P w K mg base 1 "_law_draw" spDraw []) (c_l_far : C8.Cal P w K mg base 2 "_law_far" spFar []) : C8.Cal P w K mg base 3 "_law_time" spTime30 [] := by
  refine cal_of D sc_l_time (fun vs H Q E h => ?_) (fun f cdv A outer s H vs Q E hr h => ?_)
  · obtain ⟨a, n, dg, m, rfl, _⟩ := h
    rfl
  · obtain ⟨a, n, dg, m, rfl, hP, hn, hm, m1, m20, kk⟩ := h
    refine ⟨_, (pss_one (ps_ret (pe_ix (r := rIxL K) ix_list (pe_lst (pa_cons (pe_op op_sub (C8.pe_c c_l_draw hr (by decide) (by rfl) (pa_cons (pv 0) (pa_cons pe_int pa_nil))) pe_int) (pa_cons (pe_op op_sub (C8.pe_c c_l_draw hr (by decide) (by rfl) (pa_cons (pv 0) (pa_cons pe_int pa_nil))) pe_int) (pa_cons (C8.pe_c c_l_far hr (by decide) (by rfl) (pa_cons (pv 0) (pa_cons (pv 1) pa_nil))) pa_nil)))) (C8.pe_c c_l_draw hr (by decide) (by rfl) (pa_cons (pv 0) (pa_cons pe_int pa_nil))) (fun _ _ => rfl)))), ?_⟩
    have sB : ∀ {x : Int}, x.natAbs < 2 ^ 20 → Bd (20 * m) x := fun h => Bd.small 20 h (by omega)
    refine ⟨_, rfl, a, _, _, rfl, hP, by omega, by decide, Bd.small 20 (by decide) (by decide), fun e1 H1 e10 e11 hP1 f1 => ?_⟩
    refine ⟨_, _, rfl, rfl, _, rfl, a, _, _, rfl, hP1, by omega, by decide, Bd.small 20 (by decide) (by decide), fun e2 H2 e20 e21 hP2 f2 => ?_⟩
    refine ⟨_, _, rfl, rfl, _, rfl, _, rfl, a, _, dg, m, rfl, hP2, by omega, hm, by omega, by omega, fun z H3 bz hP3 f3 => ?_⟩
    refine ⟨len10 (by simp), fun l nl => ?_⟩
    refine ⟨_, rfl, a, _, _, rfl, hP3.new nl, by omega, by decide, Bd.small 20 (by decide) (by decide), fun d H4 d0 d1 hP4 f4 => ?_⟩
    have el := f4.l _ _ (upd_same (H := H3) (a := l) (o := .lst [.int (e1 - 4), .int (e2 - 30), .int z]))
    obtain ⟨x, hx, mx⟩ := at_in (xs := [.int (e1 - 4), .int (e2 - 30), .int z]) d0 (by show d < 3; omega)
    refine ⟨l, _, _, _, rfl, rfl, SqL.of el, hx, ?_⟩
    have fF := f1.trans (f2.trans (f3.trans ((Fr.new nl).trans f4)))
    simp only [List.mem_cons, List.not_mem_nil, or_false] at mx
    rcases mx with rfl | rfl | rfl
    · exact kk _ _ (sB (by omega)) (hP4.mono (by omega)) fF
    · exact kk _ _ (sB (by omega)) (hP4.mono (by omega)) fF
    · exact kk _ _ bz (hP4.mono (by omega)) fF
def spRec30 : Sp := fun vs H Q _ => ∃ (a : PA) (n : Nat) (r L : Addr) (p q c : Int) (offs : List Int) (dg : Int) (m k : Nat), vs = [.ref a, .ref r, .ref L, .int dg] ∧ Pen H a n ∧ n < 2 ^ 37 ∧ H r = some (.tup [.int p, .int q, .int c]) ∧ RuleB k p q c ∧
  H L = some (.lst (offs.map V.int)) ∧ offs ≠ [] ∧ offs.length ≤ 1000 ∧ (∀ z ∈ offs, Bd 200 z) ∧ dg / 6 = (m : Int) ∧ 1 ≤ m ∧ m ≤ 60 ∧ 100 ≤ k ∧ 20 * m ≤ k ∧ k ≤ 3000 ∧
  ∀ e H' d o, H' e = some (rcO d) → Bd k d.t → Bd (2 * k + 2) d.n → o ∈ offs → d.n = (p * d.t + c) / q + (if d.lo = true then o else -o) → Pen H' a (n + m + 10) → Fr H H' → Q (.ref e) H'
abbrev s_l_record : Stmt := topS 41
abbrev N_l_record : List Str := ["_law_pen_here", "_law_rule_here", "_law_offs", "_law_digits", "_law_time_here", "_law_off"]
abbrev P_l_record : List Str := ["_law_pen_here", "_law_rule_here", "_law_offs", "_law_digits"]
theorem sc_l_record : FnScope N_l_record P_l_record (defScope s_l_record) := ⟨rfl, rfl, rfl, by decide +kernel, rfl, by decide +kernel, by decide +kernel⟩
theorem ok_l_record (D : Df K mg "_law_record" s_l_record P_l_record) (B : Bi mg) (c_l_draw : C8.Cal P w K mg base 1 "_law_draw" spDraw []) (c_l_pick : C8.Cal P w K mg base 2 "_law_pick" spPick []) (c_l_count : C8.Cal P w K mg base 1 "_law_count" spCount30 []) (c_l_time : C8.Cal P w K mg base 3 "_law_time" spTime30 []) : C8.Cal P w K mg base 4 "_law_record" spRec30 [] := by
  refine cal_of D sc_l_record (fun vs H Q E h => ?_) (fun f cdv A outer s H vs Q E hr h => ?_)
  · obtain ⟨a, n, r, L, p, q, c, offs, dg, m, k, rfl, _⟩ := h
    rfl
  · obtain ⟨a, n, r, L, p, q, c, offs, dg, m, k, rfl, hP, hn, er, R, eL, ho0, hol, hob, hm, m1, m20, k0, km, k3, kk⟩ := h
    refine ⟨_, (pss_cons (ps_par (i := 4) (j := 5) rfl sc_l_record.nd rfl rfl (by decide) rfl rfl (pa_cons (C8.pe_c c_l_time hr (by decide) (by rfl) (pa_cons (pv 0) (pa_cons (pv 3) pa_nil))) (pa_cons (C8.pe_c c_l_pick hr (by decide) (by rfl) (pa_cons (pv 0) (pa_cons (pv 2) pa_nil))) pa_nil)) rfl)
    (pss_cons (ps_if (pt_cmpR op_eq (C8.pe_c c_l_draw hr (by decide) (by rfl) (pa_cons (pv 0) (pa_cons pe_int pa_nil))) pe_int (nomark _))
      (pss_one (ps_ret (pe_tup (pa_cons pe_str (pa_cons (pv 4) (pa_cons (pe_op op_add (C8.pe_c c_l_count hr (by decide) (by rfl) (pa_cons (pv 1) (pa_cons (pv 4) pa_nil))) (pv 5)) pa_nil))))))
      pss_nil)
    (pss_one (ps_ret (pe_tup (pa_cons pe_str (pa_cons (pv 4) (pa_cons (pe_op op_sub (C8.pe_c c_l_count hr (by decide) (by rfl) (pa_cons (pv 1) (pa_cons (pv 4) pa_nil))) (pv 5)) pa_nil)))))))), ?_⟩
    refine ⟨_, rfl, _, rfl, a, n, dg, m, rfl, hP, by omega, hm, m1, m20, fun t H1 bt hP1 f1 => ?_⟩
    refine ⟨_, rfl, _, rfl, a, L, _, _, rfl, hP1, by omega, f1.l _ _ eL, by simpa using ho0, by simpa using hol, fun x H2 hx hP2 f2 => ?_⟩
    obtain ⟨o, ho, rfl⟩ := List.mem_map.mp hx
    have bo := hob o ho
    have bt : Bd k t := bt.mono km
    refine ⟨_, _, rfl, ?_⟩
    refine ⟨_, rfl, a, _, _, rfl, hP2, by omega, by decide, Bd.small 20 (by decide) (by decide), fun d H3 d0 d1 hP3 f3 => ?_⟩
    have fF := f1.trans (f2.trans f3)
    have er3 := fF.t _ _ er
    have bc : Bd (2 * k + 1) ((p * t + c) / q) := Bd.ediv (Bd.add ((Bd.mul R.bp bt).mono (by omega)) (R.bc.mono (by omega))) (by have := R.q1; omega)
    refine ⟨rfl, _, rfl, ite2 (fun _ => ?_) (fun _ => ?_)⟩
    · refine ⟨_, rfl, _, rfl, _, rfl, r, p, q, c, t, k, rfl, er3, R, bt, by omega, by omega, ?_⟩
      refine ⟨_, rfl, _, _, rfl, rfl, len10 (by simp), fun e ne => ?_⟩
      refine kk e _ ⟨true, t, (p * t + c) / q + o⟩ o upd_same bt (Bd.add bc (bo.mono (by omega))) ho rfl ((hP3.new ne).mono (by omega)) (fF.trans (Fr.new ne))
    · refine ⟨_, rfl, _, rfl, _, rfl, r, p, q, c, t, k, rfl, er3, R, bt, by omega, by omega, ?_⟩
      refine ⟨_, rfl, _, _, rfl, rfl, len10 (by simp), fun e ne => ?_⟩
      refine kk e _ ⟨false, t, (p * t + c) / q - o⟩ o upd_same bt (Bd.sub bc (bo.mono (by omega))) ho ?_ ((hP3.new ne).mono (by omega)) (fF.trans (Fr.new ne))
      show (p * t + c) / q - o = (p * t + c) / q + -o
      omega
end
end Lf
namespace Lf
open PySem PySem.Spec PyProof.Rows L2
def rcD (d : Rec) : PyData := .tuple [.str (wd d.lo), .int d.t, .int d.n]
theorem dp_rec {K : PySem.W.Frag} {H : Hp} {r : Addr} {d : Rec} (e : H r = some (rcO d)) : Dp K H (.ref r) (rcD d) := Dp.tup (SqT.of e) (.cons (.str _) (.cons (.int _) (.cons (.int _) .nil)))
theorem dp_recs {K : PySem.W.Frag} {H : Hp} {xs : List V} {ds : List Rec} (h : Obs rcO H xs ds) : DpAll K H xs (ds.map rcD) := by
  induction h with
  | nil => exact .nil
  | cons e _ ih => exact .cons (dp_rec e) ih
theorem sh_recs (ds : List Rec) : SeqAt.shaped (.list (ds.map rcD)) = true := by
  have h : ∀ ds : List Rec, PyData.canLayAll0 (ds.map rcD) = true ∧ PyData.depthAll (ds.map rcD) ≤ 1 := by
    intro cs
    induction cs with
    | nil => exact ⟨rfl, by decide⟩
    | cons c r ih =>
      refine ⟨?_, ?_⟩
      · have hw : PyData.strOk (wd c.lo) = true := by
          cases c.lo <;> decide +kernel
        simpa [PyData.canLayAll0, PyData.canLay0, rcD, hw] using ih.1
      · have := ih.2
        simp only [List.map_cons, PyData.depthAll, rcD, PyData.depth]
        omega
  have h2 : (PyData.list (ds.map rcD)).depth ≤ 64 := by
    have := (h ds).2
    simp only [PyData.depth]
    omega
  show (PyData.canLay0 _ && decide _) = true
  rw [Bool.and_eq_true]
  exact ⟨by simpa [PyData.canLay0] using (h ds).1, decide_eq_true h2⟩
section
variable {P : Program} {w : World} {K : PySem.W.Frag} {mg : Str → Option Value} {base : Heap}
def spRecs30 : Sp := fun vs H Q _ => ∃ (a : PA) (n : Nat) (L : Addr) (mo : Int) (offs : List Int) (dg : Int) (m : Nat), vs = [.ref a, .int mo, .ref L, .int dg] ∧ Pen H a n ∧ n < 2 ^ 36 ∧ 0 ≤ mo ∧ mo ≤ 200 ∧
  H L = some (.lst (offs.map V.int)) ∧ offs ≠ [] ∧ offs.length ≤ 1000 ∧ (∀ z ∈ offs, Bd 200 z) ∧ dg / 6 = (m : Int) ∧ 5 ≤ m ∧ m ≤ 20 ∧
  ∀ F H' xs ds, H' F = some (.lst xs) → Obs rcO H' xs ds → (ds.length : Int) ≤ mo → RcB (40 * m + 10) ds → Pen H' a (n + 10000) → Fr H H' → Q (.ref F) H'
end
end Lf
namespace Lf
open PySem PySem.Spec PyProof.Rows L2
/-! ### check_records, split_records: of a list or a tuple, or refused -/
def isLT : PyData → Bool
  | .list _ => true
  | .tuple _ => true
  | _ => false
theorem kit_ltD {K : PySem.W.Frag} (d : PyData) : PySem.W.kitAny K (.type (tyN d)) [.type "list", .type "tuple"] = some (isLT d) := by
  cases d
  · exact kitAny_cons (b := false) (kit_ty (by show kitB "NoneType" "list" = some false; decide +kernel)) (fun _ => kitAny_cons (b := false) (kit_ty (by show kitB "NoneType" "tuple" = some false; decide +kernel)) (fun _ => rfl) (fun z => by cases z)) (fun z => by cases z)
  · exact kitAny_cons (b := false) (kit_ty (by show kitB "bool" "list" = some false; decide +kernel)) (fun _ => kitAny_cons (b := false) (kit_ty (by show kitB "bool" "tuple" = some false; decide +kernel)) (fun _ => rfl) (fun z => by cases z)) (fun z => by cases z)
  · exact kitAny_cons (b := false) (kit_ty (by show kitB "int" "list" = some false; decide +kernel)) (fun _ => kitAny_cons (b := false) (kit_ty (by show kitB "int" "tuple" = some false; decide +kernel)) (fun _ => rfl) (fun z => by cases z)) (fun z => by cases z)
  · exact kitAny_cons (b := false) (kit_ty (by show kitB "str" "list" = some false; decide +kernel)) (fun _ => kitAny_cons (b := false) (kit_ty (by show kitB "str" "tuple" = some false; decide +kernel)) (fun _ => rfl) (fun z => by cases z)) (fun z => by cases z)
  · exact kit_lt
  · exact kitAny_cons (b := false) (kit_ty (by show kitB "tuple" "list" = some false; decide +kernel)) (fun _ => kitAny_cons (b := true) (kit_ty ktt) (fun z => by cases z) (fun _ => rfl)) (fun z => by cases z)
  · exact kitAny_cons (b := false) (kit_ty (by show kitB "dict" "list" = some false; decide +kernel)) (fun _ => kitAny_cons (b := false) (kit_ty (by show kitB "dict" "tuple" = some false; decide +kernel)) (fun _ => rfl) (fun z => by cases z)) (fun z => by cases z)
def sqN (kb : Bool) : String := if kb = true then "list" else "tuple"
theorem sq_ty {K : PySem.W.Frag} {H : Hp} {a : Addr} {kb : Bool} {xs : List V} (h : H a = some (sqO kb xs)) : TyX K H (.ref a) (.type (sqN kb)) := by
  cases kb
  · exact .base (.tup h)
  · exact .base (.lst h)
theorem kit_sq {K : PySem.W.Frag} (kb : Bool) : PySem.W.kitAny K (.type (sqN kb)) [.type "list", .type "tuple"] = some true := by
  cases kb
  · exact kit_ltD (.tuple [])
  · exact kit_ltD (.list [])
theorem SqB.or {K : PySem.W.Frag} {b : Bool} {H : Hp} {a : Addr} {xs : List V} (h : SqB K b H a xs) : SqL K H a xs ∨ SqT K H a xs := by
  cases b
  · exact .inr h
  · exact .inl h
theorem rec_yes (d : Rec) : recB (rcD d) = true := by
  show (words.any (fun z => PyData.eqv z (.str (wd d.lo))) && true) = true
  cases d.lo <;> decide +kernel
theorem rec_rg (d : Rec) : rgB (rcD d) = true := rg_w d.lo
theorem rec_dvS {H : Hp} {e : Addr} {d : Rec} (h : H e = some (rcO d)) : Dv H (.ref e) (rcD d) := .tup h (.cons (.str _) (.cons (.int _) (.cons (.int _) .nil)))
inductive CkBad (H : Hp) : V → Int → Prop
  | kind {v : V} {d : PyData} : Dv H v d → isLT d = false → CkBad H v (-1)
  | long {a : Addr} {kb : Bool} {xs : List V} : H a = some (sqO kb xs) → 200 < xs.length → CkBad H (.ref a) (-1)
  | item {a : Addr} {kb : Bool} {xs : List V} {ds : List Rec} {x : V} {d : PyData} {i : Nat} : H a = some (sqO kb xs) → xs.length ≤ 200 → Obs rcO H (xs.take i) ds → xs[i]? = some x → Dv H x d → rgB d = true → recB d = false → CkBad H (.ref a) (i : Nat)
section
variable {P : Program} {w : World} {K : PySem.W.Frag} {mg : Str → Option Value} {base : Heap} {C : Addr}
def spCkS : Sp := fun vs H Q _ => ∃ (L : Addr) (kb : Bool) (xs : List V) (ds : List Rec), vs = [.ref L] ∧ H L = some (sqO kb xs) ∧ Obs rcO H xs ds ∧ ds.length ≤ 200 ∧ ∀ H', Same H H' → Q .non H'
theorem okS_check_records (D : Df K mg "check_records" s_check_records P_check_records) (B : Bi mg) (U : Bc mg) (c_is_record : C8.Cal P w K mg base 2 "is_record" spIsRec []) : C8.Cal P w K mg base 3 "check_records" spCkS [] := by
  refine cal_of D sc_check_records (fun vs H Q E h => ?_) (fun f cdv A outer s H vs Q E hr h => ?_)
  · obtain ⟨L, kb, xs, ds, rfl, _⟩ := h
    rfl
  · obtain ⟨L, kb, xs, ds, rfl, eL, hO, hl, kk⟩ := h
    obtain ⟨tM, hc_MOST_RECORDS⟩ := U.most_
    refine ⟨_, (pss_cons (ps_if (PW.pt (pw_or (pt_not (pt_val (pe_callB (call_isiT) (by rfl) B.isinstance_ bt_isinstance (pa_cons (pv 0) (pa_cons (pe_tup (pa_cons (pe_bltn (v := .ty "list") (by rfl) B.list_ bt_list rfl) (pa_cons (pe_bltn (v := .ty "tuple") (by rfl) B.tuple_ bt_tuple rfl) pa_nil))) pa_nil))))) (pw_or1 (pt_cmpR op_gt (pe_callB (call_len_seq) (by rfl) B.len_ bt_len (pa_cons (pv 0) pa_nil)) (pe_glob (v := .int 200) (by rfl) hc_MOST_RECORDS ⟨_, rfl⟩) (nomark _)))))
      (pss_one ps_never)
      pss_nil)
    (pss_one (ps_for PassesOwn.never rfl (pi_enumB (by rfl) B.enumerate_ (pa_cons (pv 0) pa_nil)) (pg_tup rfl (pgs_cons (pg_name (i := 1) sc_check_records.nd rfl (Or.inl rfl)) (pgs_cons (pg_name (i := 2) sc_check_records.nd rfl (Or.inl rfl)) pgs_nil)))
      (pss_one (ps_if (pt_not (pt_val (C8.pe_c c_is_record hr (by decide) (by rfl) (pa_cons (pv 2) pa_nil))))
      (pss_one ps_never)
      pss_nil))))), ?_⟩
    refine ⟨_, rfl, len10 (by simp), fun tp ntp => ?_⟩
    have s1 := sm_upd (o := .tup [.ty "list", .ty "tuple"]) ntp
    refine ⟨_, tp, _, _, _, true, rfl, upd_same, .cons (.ty "list") (.cons (.ty "tuple") .nil), sq_ty (s1 _ _ eL), kit_sq kb, true, rfl, iteF ?_⟩
    refine ⟨_, rfl, L, _, rfl, (SqB.of (s1 _ _ eL)).or, _, _, rfl, rfl, _, rfl, iteDn (by rw [hO.len]; omega) ?_⟩
    generalize upd H tp (.tup [.ty "list", .ty "tuple"]) = H1 at s1
    refine ⟨_, rfl, L, kb, xs, rfl, SqB.of (s1 _ _ eL), ?_⟩
    refine for_it (walk_enumB (K := K) (b := kb) (a := L) (xs := xs)) (fun i σ H' => ∃ (y1 y2 : Option V), σ = [some (.ref L), y1, y2] ∧ Same H H') ⟨_, _, rfl, s1⟩ ?_ ?_ ?_
    · rintro i σ H2 _ ⟨_, _, _, s2⟩
      exact SqB.of (s2 _ _ eL)
    · rintro i v σ H2 H3 hi ⟨y1, y2, rfl, s2⟩ ⟨T, x, y, rfl, nT, rfl, hx, hy⟩
      cases hx
      obtain ⟨r, d, rfl, er, _⟩ := hO.at hy
      have s3 := s2.trans (sm_upd (o := .tup [.int (i : Nat), .ref r]) nT)
      refine ⟨T, _, rfl, SqT.of upd_same, rfl, _, _, rfl, _, _, rfl, rfl, ?_⟩
      refine ⟨_, rfl, r, d, rfl, s3 _ _ er, fun H4 s4 => ⟨true, rfl, iteF ?_⟩⟩
      exact ⟨_, _, rfl, s3.trans s4⟩
    · rintro σ H2 ⟨_, _, rfl, s2⟩
      exact kk _ s2
def spCkX (C : Addr) : Sp := fun vs H _ E => ∃ (v : V) (j : Int), vs = [v] ∧ CkBad H v j ∧ ∀ H', Same H H' → OutY C "index" (.int j) H' E
theorem okx_check_records (D : Df K mg "check_records" s_check_records P_check_records) (T : ValC P K mg C "InvalidRecord" "index") (B : Bi mg) (U : Bc mg) (cA_is_record : C8.Cal P w K mg base 2 "is_record" spIsRecD []) : CalX P w K mg base 3 "check_records" (spCkX C) := by
  refine calx_of D sc_check_records (fun vs H Q E h => ?_) (fun f cdv A outer s H vs Q E hr h => ?_)
  · obtain ⟨v, j, rfl, _⟩ := h
    rfl
  · obtain ⟨v, j, rfl, hb, he⟩ := h
    have c_is_record := cA_is_record
    obtain ⟨tM, hc_MOST_RECORDS⟩ := U.most_
    refine ⟨_, (pss_cons (ps_if (PW.pt (pw_or (pt_not (pt_val (pe_callB (call_isiT) (by rfl) B.isinstance_ bt_isinstance (pa_cons (pv 0) (pa_cons (pe_tup (pa_cons (pe_bltn (v := .ty "list") (by rfl) B.list_ bt_list rfl) (pa_cons (pe_bltn (v := .ty "tuple") (by rfl) B.tuple_ bt_tuple rfl) pa_nil))) pa_nil))))) (pw_or1 (pt_cmpR op_gt (pe_callB (call_len_seq) (by rfl) B.len_ bt_len (pa_cons (pv 0) pa_nil)) (pe_glob (v := .int 200) (by rfl) hc_MOST_RECORDS ⟨_, rfl⟩) (nomark _)))))
      (pss_one (ps_raise rfl (takes_of rfl rfl rfl rfl) (pmk_val T hr (by decide) rfl (pe_un un_neg pe_int))))
      pss_nil)
    (pss_one (ps_for (passes_of rfl) rfl (pi_enumB (by rfl) B.enumerate_ (pa_cons (pv 0) pa_nil)) (pg_tup rfl (pgs_cons (pg_name (i := 1) sc_check_records.nd rfl (Or.inl rfl)) (pgs_cons (pg_name (i := 2) sc_check_records.nd rfl (Or.inl rfl)) pgs_nil)))
      (pss_one (ps_if (pt_not (pt_val (C8.pe_c c_is_record hr (by decide) (by rfl) (pa_cons (pv 2) pa_nil))))
      (pss_one (ps_raise rfl (takes_of rfl rfl rfl rfl) (pmk_val T hr (by decide) rfl (pv 1))))
      pss_nil))))), ?_⟩
    refine ⟨_, rfl, len10 (by simp), fun tp ntp => ?_⟩
    have s1 := sm_upd (o := .tup [.ty "list", .ty "tuple"]) ntp
    cases hb with
    | kind dv ik =>
      rename_i d
      refine ⟨_, tp, _, _, _, isLT d, rfl, upd_same, .cons (.ty "list") (.cons (.ty "tuple") .nil), (Dv.kp (Fr.same s1).kp _ _ dv).ty, kit_ltD d, isLT d, rfl, ?_⟩
      rw [ik]
      exact iteT (iteT ⟨1, rfl, mkv (he _ s1)⟩)
    | long eL hl =>
      rename_i L kb xs
      refine ⟨_, tp, _, _, _, true, rfl, upd_same, .cons (.ty "list") (.cons (.ty "tuple") .nil), sq_ty (s1 _ _ eL), kit_sq kb, true, rfl, iteF ?_⟩
      refine ⟨_, rfl, L, _, rfl, (SqB.of (s1 _ _ eL)).or, _, _, rfl, rfl, _, rfl, iteD (by omega) ?_⟩
      exact ⟨1, rfl, mkv (he _ s1)⟩
    | item eL hl hO hx dx rg rb =>
      rename_i L kb xs ds x d k
      refine ⟨_, tp, _, _, _, true, rfl, upd_same, .cons (.ty "list") (.cons (.ty "tuple") .nil), sq_ty (s1 _ _ eL), kit_sq kb, true, rfl, iteF ?_⟩
      refine ⟨_, rfl, L, _, rfl, (SqB.of (s1 _ _ eL)).or, _, _, rfl, rfl, _, rfl, iteDn (by omega) ?_⟩
      generalize upd H tp (.tup [.ty "list", .ty "tuple"]) = H1 at s1
      have hk : k < xs.length := (List.getElem?_eq_some_iff.mp hx).1
      refine ⟨_, rfl, L, kb, xs, rfl, SqB.of (s1 _ _ eL), ?_⟩
      refine for_it (walk_enumB (K := K) (b := kb) (a := L) (xs := xs)) (fun i σ H' => ∃ (y1 y2 : Option V), σ = [some (.ref L), y1, y2] ∧ Same H H' ∧ i ≤ k) ⟨_, _, rfl, s1, Nat.zero_le _⟩ ?_ ?_ ?_
      · rintro i σ H2 _ ⟨_, _, _, s2, _⟩
        exact SqB.of (s2 _ _ eL)
      · rintro i v σ H2 H3 hi ⟨y1, y2, rfl, s2, ik⟩ ⟨T, x', y, rfl, nT, rfl, hx', hy⟩
        cases hx'
        have s3 := s2.trans (sm_upd (o := .tup [.int (i : Nat), y]) nT)
        refine ⟨T, _, rfl, SqT.of upd_same, rfl, _, _, rfl, _, _, rfl, rfl, ?_⟩
        by_cases hik : i = k
        · subst hik
          have hy : xs[i]? = some y := hy
          rw [hx] at hy
          cases hy
          refine ⟨_, rfl, x, d, rfl, Dv.kp (Fr.same s3).kp _ _ dx, rg, fun H4 s4 => ⟨recB d, rfl, ?_⟩⟩
          rw [rb]
          exact iteT ⟨_, rfl, mkv (he _ (s3.trans s4))⟩
        · have hlt : i < k := by omega
          have hy2 : (xs.take k)[i]? = some y := by
            rw [List.getElem?_take_of_lt hlt]
            exact hy
          obtain ⟨r, d', rfl, er, _⟩ := hO.at hy2
          refine ⟨_, rfl, .ref r, rcD d', rfl, rec_dvS (s3 _ _ er), rec_rg d', fun H4 s4 => ⟨recB (rcD d'), rfl, ?_⟩⟩
          rw [rec_yes]
          exact iteF ⟨_, _, rfl, s3.trans s4, by omega⟩
      · rintro σ H2 ⟨_, _, rfl, s2, ik⟩
        omega
/-! ### split_records -/
def spSplitS : Sp := fun vs H Q _ => ∃ (L : Addr) (kb : Bool) (xs : List V) (ds : List Rec), vs = [.ref L] ∧ H L = some (sqO kb xs) ∧ Obs rcO H xs ds ∧ ds.length ≤ 1000 ∧
  ∀ T H' A B as bs, Same H H' → H' T = some (.tup [.ref A, .ref B]) → H' A = some (.lst as) → Obs trO H' as (sel true 0 ds) → H' B = some (.lst bs) → Obs trO H' bs (sel false 0 ds) → Q (.ref T) H'
theorem okS_split_records (D : Df K mg "split_records" s_split_records P_split_records) (B : Bi mg) : C8.Cal P w K mg base 1 "split_records" spSplitS [] := by
  refine cal_of D sc_split_records (fun vs H Q E h => ?_) (fun f cdv A outer s H vs Q E hr h => ?_)
  · obtain ⟨L, kb, xs, ds, rfl, _⟩ := h
    rfl
  · obtain ⟨L, kb, xs, ds, rfl, eL, hO, hl, kk⟩ := h
    refine ⟨_, (pss_cons (ps_setLc (i := 1) (own := [("i", 3), ("word", 4), ("t", 5), ("n", 6)]) (g := (gTup K 2 (gCons (gName 3) (gCons (gTup K 3 (gCons (gName 4) (gCons (gName 5) (gCons (gName 6) gNil)))) gNil)))) (by rfl) sc_split_records.nd rfl rfl (sw_true rfl rfl rfl (by decide +kernel)) (pi_enumB (by rfl) B.enumerate_ (pa_cons (pv 0) pa_nil)) (blkOk_by (own := [("i", 3), ("word", 4), ("t", 5), ("n", 6)]) (N := N_split_records) (sc := defScope s_split_records) (by decide +kernel)) (fun _ _ _ _ _ => (pg_tup rfl (pgs_cons (pg_name (i := 3) sc_split_records.nd rfl (Or.inl rfl)) (pgs_cons (pg_tup rfl (pgs_cons (pg_name (i := 4) sc_split_records.nd rfl (Or.inl rfl)) (pgs_cons (pg_name (i := 5) sc_split_records.nd rfl (Or.inl rfl)) (pgs_cons (pg_name (i := 6) sc_split_records.nd rfl (Or.inl rfl)) pgs_nil)))) pgs_nil)))) (fun _ _ _ _ _ => (pts_one (pt_cmpR op_eq (pv 4) pe_str (nomark _)))) (fun _ _ _ _ _ => (pe_tup (pa_cons (pv 3) (pa_cons (pv 5) (pa_cons (pv 6) pa_nil))))))
    (pss_cons (ps_setLc (i := 2) (own := [("j", 7), ("word", 4), ("u", 8), ("m", 9)]) (g := (gTup K 2 (gCons (gName 7) (gCons (gTup K 3 (gCons (gName 4) (gCons (gName 8) (gCons (gName 9) gNil)))) gNil)))) (by rfl) sc_split_records.nd rfl rfl (sw_true rfl rfl rfl (by decide +kernel)) (pi_enumB (by rfl) B.enumerate_ (pa_cons (pv 0) pa_nil)) (blkOk_by (own := [("j", 7), ("word", 4), ("u", 8), ("m", 9)]) (N := N_split_records) (sc := defScope s_split_records) (by decide +kernel)) (fun _ _ _ _ _ => (pg_tup rfl (pgs_cons (pg_name (i := 7) sc_split_records.nd rfl (Or.inl rfl)) (pgs_cons (pg_tup rfl (pgs_cons (pg_name (i := 4) sc_split_records.nd rfl (Or.inl rfl)) (pgs_cons (pg_name (i := 8) sc_split_records.nd rfl (Or.inl rfl)) (pgs_cons (pg_name (i := 9) sc_split_records.nd rfl (Or.inl rfl)) pgs_nil)))) pgs_nil)))) (fun _ _ _ _ _ => (pts_one (pt_cmpR op_eq (pv 4) pe_str (nomark _)))) (fun _ _ _ _ _ => (pe_tup (pa_cons (pv 7) (pa_cons (pv 8) (pa_cons (pv 9) pa_nil))))))
    (pss_one (ps_ret (pe_tup (pa_cons (pv 1) (pa_cons (pv 2) pa_nil))))))), ?_⟩
    refine ⟨_, rfl, L, kb, xs, rfl, SqB.of eL, fun A nA => ?_⟩
    refine lc_it (walk_enumB (K := K) (b := kb) (a := L) (xs := xs)) (fun i H' => ∃ as, H' A = some (.lst as) ∧ Obs trO H' as (sel true 0 (ds.take i)) ∧ Same H H') ⟨_, upd_same, .nil, sm_upd nA⟩ ?_ ?_ ?_
    · rintro i H1 _ ⟨_, _, _, s1⟩
      exact SqB.of (s1 _ _ eL)
    · rintro i v H1 H2 hi ⟨as, eA, oA, s1⟩ ⟨T, x, y, rfl, nT, rfl, hx, hy⟩
      cases hx
      obtain ⟨r, d, rfl, er, hd⟩ := hO.at hy
      have z := sm_upd (o := .tup [.int (i : Nat), .ref r]) nT
      have s2 := s1.trans z
      have al : as.length < sizeLine := by
        have h1 := oA.len
        have h2 := sel_len true 0 (ds.take i)
        rw [List.length_take] at h2
        exact small1000 (by omega)
      refine ⟨T, _, rfl, SqT.of upd_same, rfl, _, _, rfl, _, _, rfl, r, _, rfl, SqT.of (s2 _ _ er), rfl, _, _, rfl, _, _, rfl, _, _, rfl, rfl, rfl, ?_⟩
      refine ⟨rfl, _, rfl, rfl, _, rfl, ?_⟩
      rw [w_lo]
      cases hb : d.lo with
      | true =>
        refine iteT ⟨_, rfl, _, rfl, _, rfl, len10 (by simp), fun t nt => ?_⟩
        have z2 := sm_upd (o := .tup [.int (i : Nat), .int d.t, .int d.n]) nt
        have nA2 : t ≠ A := (ne_of_none (z _ _ eA) nt).symm
        refine ⟨as, z2 _ _ (z _ _ eA), al, _, upd_same, ?_, ?_⟩
        · rw [sel_take hd, if_pos hb]
          refine Obs.snoc (Obs.keep ((oA.same z).same z2) fun b d' e => ?_) ?_
          · rw [upd_ne (ne_of e (z2 _ _ (z _ _ eA)) (by intro q; cases q))]
            exact e
          · rw [upd_ne nA2]
            exact upd_same
        · intro b o e
          rw [upd_ne (ne_of_none e nA)]
          exact z2 _ _ (s2 _ _ e)
      | false =>
        refine iteF ⟨as, z _ _ eA, ?_, s2⟩
        rw [sel_take hd, if_neg (by rw [hb]; exact Bool.false_ne_true), List.append_nil]
        exact oA.same z
    rintro H1 ⟨as, eA, oA, s1⟩
    rw [List.take_of_length_le (by rw [hO.len]; exact Nat.le_refl _)] at oA
    refine ⟨_, rfl, L, kb, xs, rfl, SqB.of (s1 _ _ eL), fun B2 nB => ?_⟩
    refine lc_it (walk_enumB (K := K) (b := kb) (a := L) (xs := xs)) (fun i H' => ∃ bs, H' B2 = some (.lst bs) ∧ Obs trO H' bs (sel false 0 (ds.take i)) ∧ Same H1 H') ⟨_, upd_same, .nil, sm_upd nB⟩ ?_ ?_ ?_
    · rintro i H2 _ ⟨_, _, _, s2⟩
      exact SqB.of (s2 _ _ (s1 _ _ eL))
    · rintro i v H2 H3 hi ⟨bs, eB, oB, s2⟩ ⟨T, x, y, rfl, nT, rfl, hx, hy⟩
      cases hx
      obtain ⟨r, d, rfl, er, hd⟩ := hO.at hy
      have z := sm_upd (o := .tup [.int (i : Nat), .ref r]) nT
      have s3 := s2.trans z
      have al : bs.length < sizeLine := by
        have h1 := oB.len
        have h2 := sel_len false 0 (ds.take i)
        rw [List.length_take] at h2
        exact small1000 (by omega)
      refine ⟨T, _, rfl, SqT.of upd_same, rfl, _, _, rfl, _, _, rfl, r, _, rfl, SqT.of (s3 _ _ (s1 _ _ er)), rfl, _, _, rfl, _, _, rfl, _, _, rfl, rfl, rfl, ?_⟩
      refine ⟨rfl, _, rfl, rfl, _, rfl, ?_⟩
      rw [w_hi]
      cases hb : d.lo with
      | false =>
        refine iteT ⟨_, rfl, _, rfl, _, rfl, len10 (by simp), fun t nt => ?_⟩
        have z2 := sm_upd (o := .tup [.int (i : Nat), .int d.t, .int d.n]) nt
        have nB2 : t ≠ B2 := (ne_of_none (z _ _ eB) nt).symm
        refine ⟨bs, z2 _ _ (z _ _ eB), al, _, upd_same, ?_, ?_⟩
        · rw [sel_take hd, if_pos hb]
          refine Obs.snoc (Obs.keep ((oB.same z).same z2) fun b d' e => ?_) ?_
          · rw [upd_ne (ne_of e (z2 _ _ (z _ _ eB)) (by intro q; cases q))]
            exact e
          · rw [upd_ne nB2]
            exact upd_same
        · intro b o e
          rw [upd_ne (ne_of_none e nB)]
          exact z2 _ _ (s3 _ _ e)
      | true =>
        refine iteF ⟨bs, z _ _ eB, ?_, s3⟩
        rw [sel_take hd, if_neg (by rw [hb]; exact fun q => Bool.false_ne_true q.symm), List.append_nil]
        exact oB.same z
    rintro H2 ⟨bs, eB, oB, s2⟩
    rw [List.take_of_length_le (by rw [hO.len]; exact Nat.le_refl _)] at oB
    refine ⟨_, rfl, _, rfl, len10 (by simp), fun T nT => ?_⟩
    have z := sm_upd (o := .tup [.ref A, .ref B2]) nT
    exact kk T _ A B2 as bs ((s1.trans s2).trans z) upd_same (z _ _ (s2 _ _ eA)) ((oA.same s2).same z) (z _ _ eB) (oB.same z)
end
end Lf
namespace Lf
open PySem PySem.Spec PyProof.Rows L2
/-! ### the bounds of the rates -/
abbrev T4 := Int × Int × Int × Int
abbrev t4O (z : T4) : HO := .tup [.int z.1, .int z.2.1, .int z.2.2.1, .int z.2.2.2]
def PrV (H : Hp) (v : V) : Option T4 → Prop
  | none => v = .non
  | some z => ∃ r, v = .ref r ∧ H r = some (t4O z)
theorem PrV.same {H H' : Hp} {v : V} {o : Option T4} (h : PrV H v o) (s : Same H H') : PrV H' v o := by
  cases o with
  | none => exact h
  | some z =>
    obtain ⟨r, e, h⟩ := h
    exact ⟨r, e, s _ _ h⟩
def uc (x y : T3) : Prop := ¬ y.2.1 < x.2.1 ∧ (x.2.1 < y.2.1 ∨ x.2.2 > y.2.2)
def bot (x y : T3) : Int := if y.2.1 - x.2.1 > 1 then y.2.1 - x.2.1 else 1
theorem bot_pos (x y : T3) : 1 ≤ bot x y := by
  unfold bot
  by_cases h : y.2.1 - x.2.1 > 1
  · rw [if_pos h]
    omega
  · rw [if_neg h]
    omega
theorem bot_eq {x y : T3} (h : x.2.1 < y.2.1) : bot x y = y.2.1 - x.2.1 := by
  unfold bot
  by_cases h : y.2.1 - x.2.1 > 1
  · rw [if_pos h]
  · rw [if_neg h]
    omega
def LoOk (S : T3 → T3 → Prop) : Option T4 → Prop
  | none => ∀ x y, S x y → ¬ y.2.1 < x.2.1
  | some z => (∃ x y, S x y ∧ y.2.1 < x.2.1 ∧ z = (x.2.2 - y.2.2 - 1, x.2.1 - y.2.1, x.1, y.1)) ∧ ∀ x y, S x y → y.2.1 < x.2.1 → (x.2.2 - y.2.2 - 1) * z.2.1 ≤ z.1 * (x.2.1 - y.2.1)
def UpOk (S : T3 → T3 → Prop) : Option T4 → Prop
  | none => ∀ x y, S x y → ¬ uc x y
  | some z => (∃ x y, S x y ∧ uc x y ∧ z = (y.2.2 + 1 - x.2.2, bot x y, x.1, y.1)) ∧ ∀ x y, S x y → uc x y → z.1 * bot x y ≤ (y.2.2 + 1 - x.2.2) * z.2.1
theorem frac_trans {a b c d e f : Int} (hd : 0 < d) (hb : 0 < b) (hf : 0 < f) (h1 : a * d ≤ c * b) (h2 : c * f ≤ e * d) : a * f ≤ e * b := by
  refine Int.le_of_mul_le_mul_right ?_ hd
  have g1 := Int.mul_le_mul_of_nonneg_right h1 (Int.le_of_lt hf)
  have g2 := Int.mul_le_mul_of_nonneg_right h2 (Int.le_of_lt hb)
  have e1 : a * f * d = a * d * f := by grind
  have e2 : e * b * d = e * d * b := by grind
  have e3 : c * b * f = c * f * b := by grind
  omega
theorem frac_lt {a b c d e f : Int} (hd : 0 < d) (hb : 0 < b) (hf : 0 < f) (h1 : a * d ≤ c * b) (h2 : c * f < e * d) : a * f < e * b := by
  refine Int.lt_of_mul_lt_mul_right ?_ (Int.le_of_lt hd)
  have g1 := Int.mul_le_mul_of_nonneg_right h1 (Int.le_of_lt hf)
  have g2 := Int.mul_lt_mul_of_pos_right h2 hb
  have e1 : a * f * d = a * d * f := by grind
  have e2 : e * b * d = e * d * b := by grind
  have e3 : c * b * f = c * f * b := by grind
  omega
theorem frac_lt' {a b c d e f : Int} (hd : 0 < d) (hb : 0 < b) (hf : 0 < f) (h1 : a * d < c * b) (h2 : c * f ≤ e * d) : a * f < e * b := by
  refine Int.lt_of_mul_lt_mul_right ?_ (Int.le_of_lt hd)
  have g1 := Int.mul_lt_mul_of_pos_right h1 hf
  have g2 := Int.mul_le_mul_of_nonneg_right h2 (Int.le_of_lt hb)
  have e1 : a * f * d = a * d * f := by grind
  have e2 : e * b * d = e * d * b := by grind
  have e3 : c * b * f = c * f * b := by grind
  omega
def ad (S : T3 → T3 → Prop) (x y : T3) : T3 → T3 → Prop := fun x' y' => S x' y' ∨ (x' = x ∧ y' = y)
section
variable {S S' : T3 → T3 → Prop} {x y : T3} {o : Option T4}
theorem LoOk.congr (h : LoOk S o) (e : ∀ x y, S x y ↔ S' x y) : LoOk S' o := by
  have : S = S' := by
    funext x y
    exact propext (e x y)
  rw [← this]
  exact h
theorem UpOk.congr (h : UpOk S o) (e : ∀ x y, S x y ↔ S' x y) : UpOk S' o := by
  have : S = S' := by
    funext x y
    exact propext (e x y)
  rw [← this]
  exact h
theorem LoOk.den (h : LoOk S o) : ∀ z, o = some z → 1 ≤ z.2.1 := fun z e => by
  subst e
  obtain ⟨⟨x, y, _, h1, rfl⟩, _⟩ := h
  show 1 ≤ x.2.1 - y.2.1
  omega
theorem UpOk.den (h : UpOk S o) : ∀ z, o = some z → 1 ≤ z.2.1 := fun z e => by
  subst e
  obtain ⟨⟨x, y, _, h1, rfl⟩, _⟩ := h
  exact bot_pos x y
theorem LoOk.skip (h : LoOk S o) (n : ¬ y.2.1 < x.2.1) : LoOk (ad S x y) o := by
  cases o with
  | none =>
    rintro x' y' (z | ⟨rfl, rfl⟩)
    · exact h _ _ z
    · exact n
  | some z =>
    obtain ⟨⟨x0, y0, s0, h1, h2⟩, h3⟩ := h
    refine ⟨⟨x0, y0, .inl s0, h1, h2⟩, ?_⟩
    rintro x' y' (z | ⟨rfl, rfl⟩) c
    · exact h3 _ _ z c
    · exact absurd c n
theorem UpOk.skip (h : UpOk S o) (n : ¬ uc x y) : UpOk (ad S x y) o := by
  cases o with
  | none =>
    rintro x' y' (z | ⟨rfl, rfl⟩)
    · exact h _ _ z
    · exact n
  | some z =>
    obtain ⟨⟨x0, y0, s0, h1, h2⟩, h3⟩ := h
    refine ⟨⟨x0, y0, .inl s0, h1, h2⟩, ?_⟩
    rintro x' y' (z | ⟨rfl, rfl⟩) c
    · exact h3 _ _ z c
    · exact absurd c n
theorem LoOk.first (h : LoOk S none) (c : y.2.1 < x.2.1) : LoOk (ad S x y) (some (x.2.2 - y.2.2 - 1, x.2.1 - y.2.1, x.1, y.1)) := by
  refine ⟨⟨x, y, .inr ⟨rfl, rfl⟩, c, rfl⟩, ?_⟩
  rintro x' y' (z | ⟨rfl, rfl⟩) c'
  · exact absurd c' (h _ _ z)
  · exact Int.le_refl _
theorem LoOk.keep {z : T4} (h : LoOk S (some z)) (g : (x.2.2 - y.2.2 - 1) * z.2.1 ≤ z.1 * (x.2.1 - y.2.1)) : LoOk (ad S x y) (some z) := by
  obtain ⟨⟨x0, y0, s0, h1, h2⟩, h3⟩ := h
  refine ⟨⟨x0, y0, .inl s0, h1, h2⟩, ?_⟩
  rintro x' y' (z | ⟨rfl, rfl⟩) c
  · exact h3 _ _ z c
  · exact g
theorem LoOk.upd {z : T4} (h : LoOk S (some z)) (c : y.2.1 < x.2.1) (g : z.1 * (x.2.1 - y.2.1) < (x.2.2 - y.2.2 - 1) * z.2.1) : LoOk (ad S x y) (some (x.2.2 - y.2.2 - 1, x.2.1 - y.2.1, x.1, y.1)) := by
  refine ⟨⟨x, y, .inr ⟨rfl, rfl⟩, c, rfl⟩, ?_⟩
  have dz := h.den z rfl
  rintro x' y' (s | ⟨rfl, rfl⟩) c'
  · show (x'.2.2 - y'.2.2 - 1) * (x.2.1 - y.2.1) ≤ (x.2.2 - y.2.2 - 1) * (x'.2.1 - y'.2.1)
    exact frac_trans (by omega : 0 < z.2.1) (by omega) (by omega) (h.2 _ _ s c') (Int.le_of_lt g)
  · exact Int.le_refl _
theorem UpOk.first (h : UpOk S none) (c : uc x y) : UpOk (ad S x y) (some (y.2.2 + 1 - x.2.2, bot x y, x.1, y.1)) := by
  refine ⟨⟨x, y, .inr ⟨rfl, rfl⟩, c, rfl⟩, ?_⟩
  rintro x' y' (z | ⟨rfl, rfl⟩) c'
  · exact absurd c' (h _ _ z)
  · exact Int.le_refl _
theorem UpOk.keep {z : T4} (h : UpOk S (some z)) (g : z.1 * bot x y ≤ (y.2.2 + 1 - x.2.2) * z.2.1) : UpOk (ad S x y) (some z) := by
  obtain ⟨⟨x0, y0, s0, h1, h2⟩, h3⟩ := h
  refine ⟨⟨x0, y0, .inl s0, h1, h2⟩, ?_⟩
  rintro x' y' (z | ⟨rfl, rfl⟩) c
  · exact h3 _ _ z c
  · exact g
theorem UpOk.upd {z : T4} (h : UpOk S (some z)) (c : uc x y) (g : (y.2.2 + 1 - x.2.2) * z.2.1 < z.1 * bot x y) : UpOk (ad S x y) (some (y.2.2 + 1 - x.2.2, bot x y, x.1, y.1)) := by
  refine ⟨⟨x, y, .inr ⟨rfl, rfl⟩, c, rfl⟩, ?_⟩
  have dz := h.den z rfl
  have b1 := bot_pos x y
  rintro x' y' (s | ⟨rfl, rfl⟩) c'
  · have b2 := bot_pos x' y'
    show (y.2.2 + 1 - x.2.2) * bot x' y' ≤ (y'.2.2 + 1 - x'.2.2) * bot x y
    exact frac_trans (by omega : 0 < z.2.1) (by omega) (by omega) (Int.le_of_lt g) (h.2 _ _ s c')
  · exact Int.le_refl _
end
/-- a rate within the bounds -/
def RateIn (lo up : Option T4) (p q : Int) : Prop := (∀ z, lo = some z → z.1 * q < p * z.2.1) ∧ ∀ z, up = some z → p * z.2.1 < z.1 * q
theorem rate_iff {S : T3 → T3 → Prop} {lo up : Option T4} {p q : Int} (hp : 0 ≤ p) (hq : 1 ≤ q) (hl : LoOk S lo) (hu : UpOk S up) : (∀ x y, S x y → p * (y.2.1 - x.2.1) < (y.2.2 + 1 - x.2.2) * q) ↔ RateIn lo up p q := by
  constructor
  · intro h
    constructor
    · rintro z rfl
      obtain ⟨⟨x, y, s, c, rfl⟩, _⟩ := hl
      have := h x y s
      show (x.2.2 - y.2.2 - 1) * q < p * (x.2.1 - y.2.1)
      have e1 : (x.2.2 - y.2.2 - 1) * q = -((y.2.2 + 1 - x.2.2) * q) := by grind
      have e2 : p * (x.2.1 - y.2.1) = -(p * (y.2.1 - x.2.1)) := by grind
      omega
    · rintro z rfl
      obtain ⟨⟨x, y, s, c, rfl⟩, _⟩ := hu
      have g := h x y s
      show p * bot x y < (y.2.2 + 1 - x.2.2) * q
      by_cases c2 : x.2.1 < y.2.1
      · rw [bot_eq c2]
        exact g
      · have e : y.2.1 - x.2.1 = 0 := by
          have := c.1
          omega
        rw [e, Int.mul_zero] at g
        have : 0 < y.2.2 + 1 - x.2.2 := pos_of_mul g (by omega)
        have := c.2
        omega
  · rintro ⟨h1, h2⟩ x y s
    by_cases c : y.2.1 < x.2.1
    · cases lo with
      | none => exact absurd c (hl x y s)
      | some z =>
        have dz := hl.den z rfl
        have g := frac_lt (by omega : 0 < z.2.1) (by omega) (by omega : 0 < q) (hl.2 x y s c) (h1 z rfl)
        have e1 : (x.2.2 - y.2.2 - 1) * q = -((y.2.2 + 1 - x.2.2) * q) := by grind
        have e2 : p * (x.2.1 - y.2.1) = -(p * (y.2.1 - x.2.1)) := by grind
        omega
    · by_cases c2 : x.2.1 < y.2.1 ∨ x.2.2 > y.2.2
      · cases up with
        | none => exact absurd ⟨c, c2⟩ (hu x y s)
        | some z =>
          have dz := hu.den z rfl
          have b1 := bot_pos x y
          have g := frac_lt' (by omega : 0 < z.2.1) (by omega : 0 < q) (by omega : 0 < bot x y) (h2 z rfl) (hu.2 x y s ⟨c, c2⟩)
          have le : y.2.1 - x.2.1 ≤ bot x y := by
            by_cases c3 : x.2.1 < y.2.1
            · rw [bot_eq c3]
              exact Int.le_refl _
            · omega
          have := Int.mul_le_mul_of_nonneg_left le hp
          omega
      · have e : y.2.1 - x.2.1 = 0 := by omega
        rw [e, Int.mul_zero]
        exact Int.mul_pos (by omega) (by omega)
/-- no rate is left -/
def nr : Option T4 → Option T4 → Bool
  | _, none => false
  | none, some h => decide (h.1 ≤ 0)
  | some l, some h => decide (h.1 ≤ 0) || decide (h.1 * l.2.1 ≤ l.1 * h.2.1)
theorem nr_none {S : T3 → T3 → Prop} {lo up : Option T4} {p q : Int} (hp : 0 ≤ p) (hq : 1 ≤ q) (hl : LoOk S lo) (hu : UpOk S up) (h : nr lo up = true) : ¬ RateIn lo up p q := by
  rintro ⟨h1, h2⟩
  cases up with
  | none => cases lo <;> cases h
  | some z =>
    have dz := hu.den z rfl
    have g2 := h2 z rfl
    have pz : z.1 ≤ 0 → False := fun c => by
      have := Int.mul_le_mul_of_nonneg_right c (show 0 ≤ q by omega)
      have := Int.mul_nonneg hp (show 0 ≤ z.2.1 by omega)
      rw [Int.zero_mul] at *
      omega
    cases lo with
    | none => exact pz (of_decide_eq_true h)
    | some l =>
      have dl := hl.den l rfl
      have g1 := h1 l rfl
      rcases Bool.or_eq_true _ _ ▸ h with h | h
      · exact pz (of_decide_eq_true h)
      · have h : z.1 * l.2.1 ≤ l.1 * z.2.1 := of_decide_eq_true h
        have := frac_lt (by omega : 0 < l.2.1) (by omega : 0 < z.2.1) (by omega : 0 < q) h g1
        omega
def PB (k : Nat) (o : Option T4) : Prop := ∀ z, o = some z → Bd (k + 2) z.1 ∧ Bd (k + 2) z.2.1
def TB (k : Nat) (ls : List T3) : Prop := ∀ x ∈ ls, Bd k x.2.1 ∧ Bd k x.2.2
section
variable {P : Program} {w : World} {K : PySem.W.Frag} {mg : Str → Option Value} {base : Heap}
def spTP : Sp := fun vs H Q _ => ∃ (T A B : Addr) (vl vu : V) (lo up : Option T4) (as bs : List V) (ls hs : List T3) (S : T3 → T3 → Prop) (k : Nat), vs = [.ref T, .ref A, .ref B] ∧ H T = some (.tup [vl, vu]) ∧ PrV H vl lo ∧ PrV H vu up ∧ H A = some (.lst as) ∧ Obs trO H as ls ∧ H B = some (.lst bs) ∧ Obs trO H bs hs ∧
  TB k ls ∧ TB k hs ∧ PB k lo ∧ PB k up ∧ LoOk S lo ∧ UpOk S up ∧ 0 < k ∧ k ≤ 10000 ∧
  ∀ R H' wl wu lo' up', Same H H' → H' R = some (.tup [wl, wu]) → PrV H' wl lo' → PrV H' wu up' → PB k lo' → PB k up' → LoOk (fun x y => S x y ∨ (x ∈ ls ∧ y ∈ hs)) lo' → UpOk (fun x y => S x y ∨ (x ∈ ls ∧ y ∈ hs)) up' → Q (.ref R) H'
end
end Lf
namespace Lf
open PySem PySem.Spec PyProof.Rows L2
def EndV (H : Hp) (k : Nat) (v : V) : Option (Int × Int) → Prop
  | none => v = .non
  | some e => ∃ a, v = .ref a ∧ H a = some (tup2 e.1 e.2) ∧ Rt k e.1 e.2
def OkE : Option (Int × Int) → Option (Int × Int) → Prop
  | some l, some h => l.1 * h.2 < h.1 * l.2
  | none, some h => 0 < h.1
  | _, none => True
def ResE : Option (Int × Int) → Option (Int × Int) → Int → Int → Prop
  | none, _, N, D => N = 0 ∧ D = 1
  | some l, some h, N, D => Sim l.1 l.2 h.1 h.2 N D
  | some l, none, N, D => Sim l.1 l.2 1 0 N D
section
variable {P : Program} {w : World} {K : PySem.W.Frag} {mg : Str → Option Value} {base : Heap}
def spSB : Sp := fun vs H Q _ => ∃ (v1 v2 : V) (e1 e2 : Option (Int × Int)) (k : Nat), vs = [v1, v2] ∧ EndV H k v1 e1 ∧ EndV H k v2 e2 ∧ OkE e1 e2 ∧ 0 < k ∧ k ≤ 1998 ∧
  ∀ r H' N D, Same H H' → H r = none → H' r = some (tup2 N D) → ResE e1 e2 N D → Bd (k + 1) N → Bd (k + 1) D → Q (.ref r) H'
abbrev s_simplest_between : Stmt := topS 13
abbrev N_simplest_between : List Str := ["low", "high", "p", "q"]
abbrev P_simplest_between : List Str := ["low", "high"]
theorem sc_simplest_between : FnScope N_simplest_between P_simplest_between (defScope s_simplest_between) := ⟨rfl, rfl, rfl, by decide +kernel, rfl, by decide +kernel, by decide +kernel⟩
theorem okA_simplest_between (D : Df K mg "simplest_between" s_simplest_between P_simplest_between) (c_check_rate : C8.Cal P w K mg base 3 "check_rate" spCheckRate []) (c_simplest_inside : C8.Cal P w K mg base 1 "simplest_inside" spInside []) : CalF P w K mg base 4 "simplest_between" s_simplest_between P_simplest_between spSB := by
  refine calF_of D sc_simplest_between (fun vs H Q E h => ?_) (fun f cdv A outer s H vs Q E hr h => ?_)
  · obtain ⟨v1, v2, e1, e2, k, rfl, _⟩ := h
    rfl
  · obtain ⟨v1, v2, e1, e2, k, rfl, g1, g2, ok, k0, k3, kk⟩ := h
    refine ⟨_, (pss_cons (ps_if (pt_cmpR op_notN (pv 0) pe_non (nomark _))
      (pss_one (ps_expr (C8.pe_c c_check_rate hr (by decide) (by rfl) (pa_cons (pv 0) pa_nil))))
      pss_nil)
    (pss_cons (ps_if (pt_cmpR op_notN (pv 1) pe_non (nomark _))
      (pss_cons (ps_expr (C8.pe_c c_check_rate hr (by decide) (by rfl) (pa_cons (pv 1) pa_nil)))
    (pss_cons (ps_asg (pe_ifExp (pt_cmpR op_isN (pv 0) pe_non (nomark _)) (pe_tup (pa_cons pe_int (pa_cons pe_int pa_nil))) (pv 0)) (pg_tup rfl (pgs_cons (pg_name (i := 2) sc_simplest_between.nd rfl (Or.inl rfl)) (pgs_cons (pg_name (i := 3) sc_simplest_between.nd rfl (Or.inl rfl)) pgs_nil))))
    (pss_one (ps_if (pt_cmpR op_le (pe_op op_mulW (pe_ix (r := rIxT K) ix_tup (pv 1) pe_int (fun _ _ => rfl)) (pv 3)) (pe_op op_mulW (pv 2) (pe_ix (r := rIxT K) ix_tup (pv 1) pe_int (fun _ _ => rfl))) (nomark _))
      (pss_one ps_never)
      pss_nil))))
      pss_nil)
    (pss_cons (ps_if (pt_cmpR op_isN (pv 0) pe_non (nomark _))
      (pss_one (ps_ret (pe_tup (pa_cons pe_int (pa_cons pe_int pa_nil)))))
      pss_nil)
    (pss_one (ps_ret (C8.pe_c c_simplest_inside hr (by decide) (by rfl) (pa_cons (pv 0) (pa_cons (pe_ifExp (pt_cmpR op_isN (pv 1) pe_non (nomark _)) (pe_tup (pa_cons pe_int (pa_cons pe_int pa_nil))) (pv 1)) pa_nil)))))))), ?_⟩
    match e1, e2, g1, g2, ok, kk with
    | none, none, g1, g2, ok, kk =>
      have h1 : v1 = .non := g1
      have h2 : v2 = .non := g2
      subst h1 h2
      refine ⟨_, rfl, rfl, _, rfl, iteF ?_⟩
      refine ⟨_, rfl, rfl, _, rfl, iteF ?_⟩
      refine ⟨_, rfl, rfl, _, rfl, iteT ?_⟩
      refine ⟨len10 (by simp), fun r nr => ?_⟩
      exact kk r _ 0 1 (sm_upd nr) nr upd_same ⟨rfl, rfl⟩ (Bd.small 1 (by decide) (by omega)) (Bd.small 1 (by decide) (by omega))
    | none, some (t, b), g1, ⟨h, h2, eh, R⟩, ok, kk =>
      have h1 : v1 = .non := g1
      subst h1 h2
      have eh : H h = some (tup2 t b) := eh
      have ok : 0 < t := ok
      refine ⟨_, rfl, rfl, _, rfl, iteF ?_⟩
      refine ⟨_, rfl, rfl, _, rfl, iteT ?_⟩
      refine ⟨_, rfl, h, t, b, k, rfl, eh, R, ?_⟩
      refine ⟨_, rfl, rfl, _, rfl, iteT ?_⟩
      refine ⟨len10 (by simp), fun z nz => ⟨z, _, rfl, SqT.of upd_same, rfl, _, _, rfl, _, _, rfl, rfl, ?_⟩⟩
      have s1 : Same H (upd H z (tup2 0 1)) := sm_upd nz
      have eh1 := s1 _ _ eh
      refine ⟨_, rfl, h, _, _, _, rfl, rfl, SqT.of eh1, atI_nat (j := 0) rfl, _, rfl, _, _, rfl, rfl, mulW R.bp (Bd.small 1 (by decide) (Nat.le_refl 1)) k0 (by decide) (by omega), _, rfl, _, rfl, h, _, _, _, rfl, rfl, SqT.of eh1, atI_nat (j := 1) rfl, _, _, rfl, rfl, mulW (Bd.small 1 (by decide) (Nat.le_refl 1)) R.bq (by decide) k0 (by omega), _, _, rfl, rfl, _, rfl, iteDn (by omega) ?_⟩
      refine ⟨_, rfl, rfl, _, rfl, iteT ?_⟩
      refine ⟨len10 (by simp), fun r nr => ?_⟩
      refine kk r _ 0 1 (s1.trans (sm_upd nr)) ?_ upd_same ⟨rfl, rfl⟩ (Bd.small 1 (by decide) (by omega)) (Bd.small 1 (by decide) (by omega))
      cases zz : H r with
      | none => rfl
      | some o =>
        rw [s1 _ _ zz] at nr
        cases nr
    | some (p, q), none, ⟨l, h1, el, R⟩, g2, ok, kk =>
      have h2 : v2 = .non := g2
      subst h1 h2
      have el : H l = some (tup2 p q) := el
      refine ⟨_, rfl, rfl, _, rfl, iteT ?_⟩
      refine ⟨_, rfl, l, p, q, k, rfl, el, R, ?_⟩
      refine ⟨_, rfl, rfl, _, rfl, iteF ?_⟩
      refine ⟨_, rfl, rfl, _, rfl, iteF ?_⟩
      refine ⟨_, rfl, _, rfl, rfl, _, rfl, iteT ?_⟩
      refine ⟨len10 (by simp), fun z nz => ?_⟩
      have s1 : Same H (upd H z (tup2 1 0)) := sm_upd nz
      refine ⟨l, z, p, q, 1, 0, k, rfl, s1 _ _ el, upd_same, ⟨R.p0, R.q1, by decide, by have := R.q1; omega, R.bp, R.bq, Bd.small 1 (by decide) (by omega), Bd.small 1 (by decide) (by omega)⟩, k0, by omega, fun r H' N D s2 nr er S b1 b2 => ?_⟩
      refine kk r H' N D (s1.trans s2) ?_ er S b1 b2
      cases zz : H r with
      | none => rfl
      | some o =>
        rw [s1 _ _ zz] at nr
        cases nr
    | some (p, q), some (t, b), ⟨l, h1, el, R⟩, ⟨h, h2, eh, R2⟩, ok, kk =>
      subst h1 h2
      have el : H l = some (tup2 p q) := el
      have eh : H h = some (tup2 t b) := eh
      have ok : p * b < t * q := ok
      refine ⟨_, rfl, rfl, _, rfl, iteT ?_⟩
      refine ⟨_, rfl, l, p, q, k, rfl, el, R, ?_⟩
      refine ⟨_, rfl, rfl, _, rfl, iteT ?_⟩
      refine ⟨_, rfl, h, t, b, k, rfl, eh, R2, ?_⟩
      refine ⟨_, rfl, rfl, _, rfl, iteF ?_⟩
      refine ⟨_, rfl, l, _, rfl, SqT.of el, rfl, _, _, rfl, _, _, rfl, rfl, ?_⟩
      refine ⟨_, rfl, h, _, _, _, rfl, rfl, SqT.of eh, atI_nat (j := 0) rfl, _, rfl, _, _, rfl, rfl, mulW R2.bp R.bq k0 k0 (by omega), _, rfl, _, rfl, h, _, _, _, rfl, rfl, SqT.of eh, atI_nat (j := 1) rfl, _, _, rfl, rfl, mulW R.bp R2.bq k0 k0 (by omega), _, _, rfl, rfl, _, rfl, iteDn (by omega) ?_⟩
      refine ⟨_, rfl, rfl, _, rfl, iteF ?_⟩
      refine ⟨_, rfl, _, rfl, rfl, _, rfl, iteF ?_⟩
      refine ⟨_, rfl, l, h, p, q, t, b, k, rfl, el, eh, ⟨R.p0, R.q1, by have := R2.q1; omega, ok, R.bp, R.bq, R2.bp, R2.bq⟩, k0, by omega, fun r H' N D s2 nr er S b1 b2 => kk r H' N D s2 nr er S b1 b2⟩
theorem ok_simplest_between (cA_simplest_between : CalF P w K mg base 4 "simplest_between" s_simplest_between P_simplest_between spSB) : C8.Cal P w K mg base 4 "simplest_between" spSB [] := by
  exact cA_simplest_between.cal
end
end Lf
namespace Lf
open PySem PySem.Spec PyProof.Rows L2
def SD (ds : List Rec) : T3 → T3 → Prop := fun x y => x ∈ sel true 0 ds ∧ y ∈ sel false 0 ds
theorem sel_tb {k : Nat} {b : Bool} {ds : List Rec} (h : RcB k ds) : TB k (sel b 0 ds) := fun _ hx => sel_bd h hx
theorem EndV.sm {H H' : Hp} {k : Nat} {v : V} {e : Option (Int × Int)} (h : EndV H k v e) (s : Same H H') : EndV H' k v e := by
  match e, h with
  | none, h => exact h
  | some e, ⟨a, h1, h2, h3⟩ => exact ⟨a, h1, s _ _ h2, h3⟩
theorem EndV.fr {H H' : Hp} {k : Nat} {v : V} {e : Option (Int × Int)} (h : EndV H k v e) (s : Fr H H') : EndV H' k v e := by
  match e, h with
  | none, h => exact h
  | some e, ⟨a, h1, h2, h3⟩ => exact ⟨a, h1, s.t _ _ h2, h3⟩
theorem redRt {k : Nat} {x y : Int} (h0 : 0 ≤ x) (h1 : 1 ≤ y) (bx : Bd k x) (by_ : Bd k y) : Rt k (x / (Int.gcd x y : Int)) (y / (Int.gcd x y : Int)) := by
  have g := gcd_pos (p := x) h1
  refine ⟨Int.ediv_nonneg h0 (by omega), ?_, ?_, bx.ediv g, by_.ediv g⟩
  · have := Int.ediv_le_ediv g (gcd_le (p := x) h1)
    rw [Int.ediv_self (by omega)] at this
    exact this
  · exact Int.gcd_ediv_gcd_ediv_gcd (by omega)
def redE (z : T4) : Int × Int := (z.1 / (Int.gcd z.1 z.2.1 : Int), z.2.1 / (Int.gcd z.1 z.2.1 : Int))
def lowE : Option T4 → Option (Int × Int)
  | none => none
  | some z => if z.1 < 0 then none else some (redE z)
def highE : Option T4 → Option (Int × Int)
  | none => none
  | some z => some (redE z)
theorem red_lt_iff {z : T4} {p q : Int} (d : 1 ≤ z.2.1) : ((redE z).1 * q < p * (redE z).2 ↔ z.1 * q < p * z.2.1) ∧ (p * (redE z).2 < (redE z).1 * q ↔ p * z.2.1 < z.1 * q) := by
  have g := gcd_pos (p := z.1) d
  have e1 : (Int.gcd z.1 z.2.1 : Int) * (z.1 / (Int.gcd z.1 z.2.1 : Int)) = z.1 := Int.mul_ediv_cancel' (Int.gcd_dvd_left ..)
  have e2 : (Int.gcd z.1 z.2.1 : Int) * (z.2.1 / (Int.gcd z.1 z.2.1 : Int)) = z.2.1 := Int.mul_ediv_cancel' (Int.gcd_dvd_right ..)
  unfold redE
  dsimp only
  generalize (Int.gcd z.1 z.2.1 : Int) = gg at *
  generalize z.1 / gg = a at *
  generalize z.2.1 / gg = b at *
  rw [← e1, ← e2]
  have h1 : gg * a * q = gg * (a * q) := by grind
  have h2 : p * (gg * b) = gg * (p * b) := by grind
  rw [h1, h2]
  constructor
  · exact ⟨fun h => Int.mul_lt_mul_of_pos_left h g, fun h => Int.lt_of_mul_lt_mul_left h (Int.le_of_lt g)⟩
  · exact ⟨fun h => Int.mul_lt_mul_of_pos_left h g, fun h => Int.lt_of_mul_lt_mul_left h (Int.le_of_lt g)⟩
/-- strictly between the ends that rates gives -/
def Ins (e1 e2 : Option (Int × Int)) (p q : Int) : Prop := (∀ z, e1 = some z → z.1 * q < p * z.2) ∧ ∀ z, e2 = some z → p * z.2 < z.1 * q
theorem ins_iff {S : T3 → T3 → Prop} {lo up : Option T4} {p q : Int} (hp : 0 ≤ p) (hq : 1 ≤ q) (hl : LoOk S lo) (hu : UpOk S up) : Ins (lowE lo) (highE up) p q ↔ RateIn lo up p q := by
  unfold Ins RateIn
  constructor
  · rintro ⟨h1, h2⟩
    constructor
    · rintro z rfl
      have d := hl.den z rfl
      by_cases c : z.1 < 0
      · have := Int.mul_neg_of_neg_of_pos c (show 0 < q by omega)
        have := Int.mul_nonneg hp (show 0 ≤ z.2.1 by omega)
        omega
      · exact (red_lt_iff d).1.mp (h1 _ (by show (if z.1 < 0 then none else some (redE z)) = _; rw [if_neg c]))
    · rintro z rfl
      exact (red_lt_iff (hu.den z rfl)).2.mp (h2 _ rfl)
  · rintro ⟨h1, h2⟩
    constructor
    · intro z e
      cases lo with
      | none => cases e
      | some y =>
        have e : (if y.1 < 0 then none else some (redE y)) = some z := e
        by_cases c : y.1 < 0
        · rw [if_pos c] at e
          cases e
        · rw [if_neg c] at e
          cases e
          exact (red_lt_iff (hl.den y rfl)).1.mpr (h1 y rfl)
    · intro z e
      cases up with
      | none => cases e
      | some y =>
        cases e
        exact (red_lt_iff (hu.den y rfl)).2.mpr (h2 y rfl)
/-- the phases are there just where all pairs leave room -/
theorem ph_iff {p q : Int} {ds : List Rec} {a b : Option Int} (ha : IsMx (lph p q ds) a) (hb : IsMn (hph p q ds) b) : okPh a b = true ↔ ∀ x y, SD ds x y → p * (y.2.1 - x.2.1) < (y.2.2 + 1 - x.2.2) * q := by
  have key : ∀ x y : T3, (x.2.2 * q - p * x.2.1 ≤ (y.2.2 + 1) * q - p * y.2.1 - 1) ↔ p * (y.2.1 - x.2.1) < (y.2.2 + 1 - x.2.2) * q := fun x y => by
    rw [Int.mul_sub, Int.sub_mul (y.2.2 + 1)]
    omega
  constructor
  · intro h x y ⟨hx, hy⟩
    rw [← key]
    have mx : x.2.2 * q - p * x.2.1 ∈ lph p q ds := List.mem_map.mpr ⟨x, hx, rfl⟩
    have my : (y.2.2 + 1) * q - p * y.2.1 - 1 ∈ hph p q ds := List.mem_map.mpr ⟨y, hy, rfl⟩
    cases a with
    | none =>
      rw [show lph p q ds = [] from ha] at mx
      cases mx
    | some v =>
      cases b with
      | none =>
        rw [show hph p q ds = [] from hb] at my
        cases my
      | some u =>
        have h : v ≤ u := of_decide_eq_true h
        have := ha.2 _ mx
        have := hb.2 _ my
        omega
  · intro h
    cases a with
    | none => rfl
    | some v =>
      cases b with
      | none => rfl
      | some u =>
        obtain ⟨x, hx, ex⟩ := List.mem_map.mp ha.1
        obtain ⟨y, hy, ey⟩ := List.mem_map.mp hb.1
        refine decide_eq_true ?_
        rw [← ex, ← ey]
        exact (key x y).mpr (h x y ⟨hx, hy⟩)
section
variable {P : Program} {w : World} {K : PySem.W.Frag} {mg : Str → Option Value} {base : Heap}
def spRedR : Sp := fun vs H Q _ => ∃ (p q : Int), vs = [.int p, .int q] ∧ 0 ≤ p ∧ 1 ≤ q ∧ Bd 9000 q ∧
  ∀ r H', Same H H' → H r = none → H' r = some (tup2 (p / (Int.gcd p q : Int)) (q / (Int.gcd p q : Int))) → Q (.ref r) H'
abbrev s_reduce_rate : Stmt := topS 12
abbrev N_reduce_rate : List Str := ["p", "q", "divisor"]
abbrev P_reduce_rate : List Str := ["p", "q"]
theorem sc_reduce_rate : FnScope N_reduce_rate P_reduce_rate (defScope s_reduce_rate) := ⟨rfl, rfl, rfl, by decide +kernel, rfl, by decide +kernel, by decide +kernel⟩
theorem ok_reduce_rate (D : Df K mg "reduce_rate" s_reduce_rate P_reduce_rate) (c_gcd : C8.Cal P w K mg base 1 "gcd" spGcd []) : C8.Cal P w K mg base 2 "reduce_rate" spRedR [] := by
  refine cal_of D sc_reduce_rate (fun vs H Q E h => ?_) (fun f cdv A outer s H vs Q E hr h => ?_)
  · obtain ⟨p, q, rfl, _⟩ := h
    rfl
  · obtain ⟨p, q, rfl, hp, hq, hb, k⟩ := h
    refine ⟨_, (pss_cons (ps_set (i := 2) sc_reduce_rate.nd rfl (Or.inl rfl) (C8.pe_c c_gcd hr (by decide) (by rfl) (pa_cons (pv 0) (pa_cons (pv 1) pa_nil))))
    (pss_one (ps_ret (pe_tup (pa_cons (pe_op op_fdivW (pv 0) (pv 2)) (pa_cons (pe_op op_fdivW (pv 1) (pv 2)) pa_nil)))))), ?_⟩
    have hg := gcd_pos (p := p) hq
    have hd : CDivW 0 (Int.gcd p q : Int) := ⟨hg, (hb.between (by omega) (gcd_le hq)).log (by decide)⟩
    refine ⟨_, rfl, _, rfl, p, q, rfl, hp, by omega, ?_⟩
    refine ⟨_, rfl, _, rfl, _, _, rfl, rfl, hd, _, rfl, _, rfl, _, _, rfl, rfl, hd, len10 (by simp), fun r nr => ?_⟩
    exact k r _ (sm_upd nr) nr upd_same
def spTight : Sp := fun vs H Q _ => ∃ (L : Addr) (xs : List V) (ds : List Rec) (k : Nat), vs = [.ref L] ∧ H L = some (.lst xs) ∧ Obs rcO H xs ds ∧ ds.length ≤ 1000 ∧ RcB k ds ∧ 0 < k ∧ k ≤ 8000 ∧
  ∀ R H' wl wu lo up, Same H H' → H' R = some (.tup [wl, wu]) → PrV H' wl lo → PrV H' wu up → PB k lo → PB k up → LoOk (SD ds) lo → UpOk (SD ds) up → Q (.ref R) H'
def spLNR : Sp := fun vs H Q _ => ∃ (R : Addr) (wl wu : V) (lo up : Option T4) (k : Nat), vs = [.ref R] ∧ H R = some (.tup [wl, wu]) ∧ PrV H wl lo ∧ PrV H wu up ∧ PB k lo ∧ PB k up ∧ k ≤ 10000 ∧ Q (.bl (nr lo up)) H
/-- what rate_ends gives -/
def RV (H : Hp) (k : Nat) (v : V) (lo up : Option T4) : Prop := (nr lo up = true ∧ v = .non) ∨ (nr lo up = false ∧ ∃ T a b, v = .ref T ∧ H T = some (.tup [a, b]) ∧ EndV H (k + 2) a (lowE lo) ∧ EndV H (k + 2) b (highE up))
def spRateEnds (m : Nat) : Sp := fun vs H Q _ => ∃ (L : Addr) (xs : List V) (ds : List Rec) (k : Nat), vs = [.ref L] ∧ H L = some (.lst xs) ∧ Obs rcO H xs ds ∧ ds.length ≤ m ∧ RcB k ds ∧ 0 < k ∧ k ≤ 8000 ∧
  ∀ H' v lo up, Same H H' → LoOk (SD ds) lo → UpOk (SD ds) up → PB k lo → PB k up → RV H' k v lo up → Q v H'
end
end Lf
namespace Lf
open PySem PySem.Spec PyProof.Rows L2
section
variable {P : Program} {w : World} {K : PySem.W.Frag} {mg : Str → Option Value} {base : Heap} {C : Addr}
def spTightS : Sp := fun vs H Q _ => ∃ (L : Addr) (kb : Bool) (xs : List V) (ds : List Rec) (k : Nat), vs = [.ref L] ∧ H L = some (sqO kb xs) ∧ Obs rcO H xs ds ∧ ds.length ≤ 1000 ∧ RcB k ds ∧ 0 < k ∧ k ≤ 8000 ∧
  ∀ R H' wl wu lo up, Same H H' → H' R = some (.tup [wl, wu]) → PrV H' wl lo → PrV H' wu up → PB k lo → PB k up → LoOk (SD ds) lo → UpOk (SD ds) up → Q (.ref R) H'
def spRateEndsS (m : Nat) : Sp := fun vs H Q _ => ∃ (L : Addr) (kb : Bool) (xs : List V) (ds : List Rec) (k : Nat), vs = [.ref L] ∧ H L = some (sqO kb xs) ∧ Obs rcO H xs ds ∧ ds.length ≤ m ∧ RcB k ds ∧ 0 < k ∧ k ≤ 8000 ∧
  ∀ H' v lo up, Same H H' → LoOk (SD ds) lo → UpOk (SD ds) up → PB k lo → PB k up → RV H' k v lo up → Q v H'
def spRatesX (C : Addr) : Sp := fun vs H _ E => ∃ (v : V) (j : Int), vs = [v] ∧ CkBad H v j ∧ ∀ H', Same H H' → OutY C "index" (.int j) H' E
end
end Lf
namespace Lf
open PySem PySem.Spec PyProof.Rows L2
/-! ### the bounds of the rates are the same however the pairs are listed -/
theorem cop_dvd {a b c d : Int} (g1 : Int.gcd a b = 1) (e : a * d = c * b) : b ∣ d := by
  have n1 : b.natAbs ∣ a.natAbs * d.natAbs := by
    rw [← Int.natAbs_mul, e]
    exact Int.natAbs_dvd_natAbs.mpr (Int.dvd_mul_left c b)
  have n2 : Nat.Coprime b.natAbs a.natAbs := by
    unfold Nat.Coprime
    rw [Nat.gcd_comm]
    exact g1
  exact Int.natAbs_dvd_natAbs.mp (Nat.Coprime.dvd_of_dvd_mul_left n2 n1)
theorem cop_uniq {a b c d : Int} (hb : 1 ≤ b) (hd : 1 ≤ d) (g1 : Int.gcd a b = 1) (g2 : Int.gcd c d = 1) (e : a * d = c * b) : a = c ∧ b = d := by
  have h1 := Int.le_of_dvd (by omega) (cop_dvd g1 e)
  have h2 := Int.le_of_dvd (by omega) (cop_dvd g2 e.symm)
  have h3 : b = d := by omega
  subst h3
  exact ⟨Int.eq_of_mul_eq_mul_right (by omega) e, rfl⟩
theorem red_eq {z z' : T4} (d : 1 ≤ z.2.1) (d' : 1 ≤ z'.2.1) (e : z.1 * z'.2.1 = z'.1 * z.2.1) : redE z = redE z' := by
  have g := gcd_pos (p := z.1) d
  have g' := gcd_pos (p := z'.1) d'
  have e1 : (Int.gcd z.1 z.2.1 : Int) * (z.1 / (Int.gcd z.1 z.2.1 : Int)) = z.1 := Int.mul_ediv_cancel' (Int.gcd_dvd_left ..)
  have e2 : (Int.gcd z.1 z.2.1 : Int) * (z.2.1 / (Int.gcd z.1 z.2.1 : Int)) = z.2.1 := Int.mul_ediv_cancel' (Int.gcd_dvd_right ..)
  have e3 : (Int.gcd z'.1 z'.2.1 : Int) * (z'.1 / (Int.gcd z'.1 z'.2.1 : Int)) = z'.1 := Int.mul_ediv_cancel' (Int.gcd_dvd_left ..)
  have e4 : (Int.gcd z'.1 z'.2.1 : Int) * (z'.2.1 / (Int.gcd z'.1 z'.2.1 : Int)) = z'.2.1 := Int.mul_ediv_cancel' (Int.gcd_dvd_right ..)
  have c1 : Int.gcd (z.1 / (Int.gcd z.1 z.2.1 : Int)) (z.2.1 / (Int.gcd z.1 z.2.1 : Int)) = 1 := Int.gcd_ediv_gcd_ediv_gcd (by omega)
  have c2 : Int.gcd (z'.1 / (Int.gcd z'.1 z'.2.1 : Int)) (z'.2.1 / (Int.gcd z'.1 z'.2.1 : Int)) = 1 := Int.gcd_ediv_gcd_ediv_gcd (by omega)
  show (z.1 / (Int.gcd z.1 z.2.1 : Int), z.2.1 / (Int.gcd z.1 z.2.1 : Int)) = (z'.1 / (Int.gcd z'.1 z'.2.1 : Int), z'.2.1 / (Int.gcd z'.1 z'.2.1 : Int))
  generalize z.1 / (Int.gcd z.1 z.2.1 : Int) = a at *
  generalize z.2.1 / (Int.gcd z.1 z.2.1 : Int) = b at *
  generalize z'.1 / (Int.gcd z'.1 z'.2.1 : Int) = c at *
  generalize z'.2.1 / (Int.gcd z'.1 z'.2.1 : Int) = f at *
  generalize (Int.gcd z.1 z.2.1 : Int) = G at *
  generalize (Int.gcd z'.1 z'.2.1 : Int) = G' at *
  have hb : 1 ≤ b := by
    have : 0 < b * G := by
      rw [Int.mul_comm]
      omega
    have := pos_of_mul this (by omega)
    omega
  have hf : 1 ≤ f := by
    have : 0 < f * G' := by
      rw [Int.mul_comm]
      omega
    have := pos_of_mul this (by omega)
    omega
  have key : a * f = c * b := by
    have h1 : (a * f) * (G * G') = (c * b) * (G * G') := by
      have h2 : (a * f) * (G * G') = (G * a) * (G' * f) := by grind
      have h3 : (c * b) * (G * G') = (G' * c) * (G * b) := by grind
      rw [h2, h3, e1, e2, e3, e4]
      exact e
    exact Int.eq_of_mul_eq_mul_right (by have := Int.mul_pos (show 0 < G by omega) (show 0 < G' by omega); omega) h1
  obtain ⟨h1, h2⟩ := cop_uniq hb hf c1 c2 key
  rw [h1, h2]
def Cov (S S' : T3 → T3 → Prop) : Prop := ∀ x y, S x y → ∃ x' y', S' x' y' ∧ x'.2 = x.2 ∧ y'.2 = y.2
def SameF : Option T4 → Option T4 → Prop
  | none, none => True
  | some z, some z' => z.1 * z'.2.1 = z'.1 * z.2.1 ∧ 1 ≤ z.2.1 ∧ 1 ≤ z'.2.1
  | _, _ => False
theorem bot_congr {x y x' y' : T3} (e1 : x'.2 = x.2) (e2 : y'.2 = y.2) : bot x' y' = bot x y := by
  unfold bot
  rw [e1, e2]
theorem uc_congr {x y x' y' : T3} (e1 : x'.2 = x.2) (e2 : y'.2 = y.2) (h : uc x y) : uc x' y' := by
  unfold uc at *
  rw [e1, e2]
  exact h
theorem lo_same {S S' : T3 → T3 → Prop} {lo lo' : Option T4} (h : LoOk S lo) (h' : LoOk S' lo') (c : Cov S S') (c' : Cov S' S) : SameF lo lo' := by
  cases lo with
  | none =>
    cases lo' with
    | none => trivial
    | some z' =>
      obtain ⟨⟨x, y, s, g, _⟩, _⟩ := h'
      obtain ⟨x', y', s', e1, e2⟩ := c' x y s
      exact absurd (by rw [e1, e2]; exact g) (h x' y' s')
  | some z =>
    cases lo' with
    | none =>
      obtain ⟨⟨x, y, s, g, _⟩, _⟩ := h
      obtain ⟨x', y', s', e1, e2⟩ := c x y s
      exact absurd (by rw [e1, e2]; exact g) (h' x' y' s')
    | some z' =>
      have d := h.den z rfl
      have d' := h'.den z' rfl
      obtain ⟨⟨x, y, s, g, rfl⟩, m⟩ := h
      obtain ⟨⟨u, v, s', g', rfl⟩, m'⟩ := h'
      obtain ⟨x1, y1, s1, e1, e2⟩ := c x y s
      obtain ⟨u1, v1, s2, e3, e4⟩ := c' u v s'
      have q1 := m' x1 y1 s1 (by rw [e1, e2]; exact g)
      have q2 := m u1 v1 s2 (by rw [e3, e4]; exact g')
      rw [e1, e2] at q1
      rw [e3, e4] at q2
      exact ⟨by show (x.2.2 - y.2.2 - 1) * (u.2.1 - v.2.1) = (u.2.2 - v.2.2 - 1) * (x.2.1 - y.2.1); exact Int.le_antisymm q1 q2, d, d'⟩
theorem up_same {S S' : T3 → T3 → Prop} {up up' : Option T4} (h : UpOk S up) (h' : UpOk S' up') (c : Cov S S') (c' : Cov S' S) : SameF up up' := by
  cases up with
  | none =>
    cases up' with
    | none => trivial
    | some z' =>
      obtain ⟨⟨x, y, s, g, _⟩, _⟩ := h'
      obtain ⟨x', y', s', e1, e2⟩ := c' x y s
      exact absurd (uc_congr e1 e2 g) (h x' y' s')
  | some z =>
    cases up' with
    | none =>
      obtain ⟨⟨x, y, s, g, _⟩, _⟩ := h
      obtain ⟨x', y', s', e1, e2⟩ := c x y s
      exact absurd (uc_congr e1 e2 g) (h' x' y' s')
    | some z' =>
      have d := h.den z rfl
      have d' := h'.den z' rfl
      obtain ⟨⟨x, y, s, g, rfl⟩, m⟩ := h
      obtain ⟨⟨u, v, s', g', rfl⟩, m'⟩ := h'
      obtain ⟨x1, y1, s1, e1, e2⟩ := c x y s
      obtain ⟨u1, v1, s2, e3, e4⟩ := c' u v s'
      have q1 := m' x1 y1 s1 (uc_congr e1 e2 g)
      have q2 := m u1 v1 s2 (uc_congr e3 e4 g')
      rw [bot_congr e1 e2, e1, e2] at q1
      rw [bot_congr e3 e4, e3, e4] at q2
      exact ⟨by show (y.2.2 + 1 - x.2.2) * bot u v = (v.2.2 + 1 - u.2.2) * bot x y; exact Int.le_antisymm q2 q1, d, d'⟩
theorem nonneg_iff {a b c d : Int} (hb : 1 ≤ b) (hd : 1 ≤ d) (e : a * d = c * b) : (a < 0 ↔ c < 0) ∧ (a ≤ 0 ↔ c ≤ 0) := by
  have p1 : a < 0 ↔ a * d < 0 := ⟨fun h => Int.mul_neg_of_neg_of_pos h (by omega), fun h => by
    rcases Int.lt_or_le a 0 with z | z
    · exact z
    · have := Int.mul_nonneg z (show 0 ≤ d by omega)
      omega⟩
  have p2 : c < 0 ↔ c * b < 0 := ⟨fun h => Int.mul_neg_of_neg_of_pos h (by omega), fun h => by
    rcases Int.lt_or_le c 0 with z | z
    · exact z
    · have := Int.mul_nonneg z (show 0 ≤ b by omega)
      omega⟩
  have p3 : 0 < a ↔ 0 < a * d := ⟨fun h => Int.mul_pos h (by omega), fun h => pos_of_mul h (by omega)⟩
  have p4 : 0 < c ↔ 0 < c * b := ⟨fun h => Int.mul_pos h (by omega), fun h => pos_of_mul h (by omega)⟩
  omega
theorem lowE_same {lo lo' : Option T4} (h : SameF lo lo') : lowE lo = lowE lo' := by
  cases lo with
  | none =>
    cases lo' with
    | none => rfl
    | some z => exact h.elim
  | some z =>
    cases lo' with
    | none => exact h.elim
    | some z' =>
      obtain ⟨e, d, d'⟩ := h
      have n := (nonneg_iff d d' e).1
      show (if z.1 < 0 then none else some (redE z)) = (if z'.1 < 0 then none else some (redE z'))
      rw [red_eq d d' e]
      by_cases c : z.1 < 0
      · rw [if_pos c, if_pos (n.mp c)]
      · rw [if_neg c, if_neg (fun q => c (n.mpr q))]
theorem highE_same {up up' : Option T4} (h : SameF up up') : highE up = highE up' := by
  cases up with
  | none =>
    cases up' with
    | none => rfl
    | some z => exact h.elim
  | some z =>
    cases up' with
    | none => exact h.elim
    | some z' =>
      obtain ⟨e, d, d'⟩ := h
      show some (redE z) = some (redE z')
      rw [red_eq d d' e]
theorem le_frac {a b c d a' b' c' d' : Int} (hb : 1 ≤ b) (hd : 1 ≤ d) (hb' : 1 ≤ b') (hd' : 1 ≤ d') (e1 : a * b' = a' * b) (e2 : c * d' = c' * d) (h : a * d ≤ c * b) : a' * d' ≤ c' * b' := by
  have h1 := Int.mul_le_mul_of_nonneg_right h (show 0 ≤ b' * d' by have := Int.mul_pos (show 0 < b' by omega) (show 0 < d' by omega); omega)
  have h2 : a * d * (b' * d') = (a' * d') * (b * d) := by
    have : a * d * (b' * d') = (a * b') * (d * d') := by grind
    rw [this, e1]
    grind
  have h3 : c * b * (b' * d') = (c' * b') * (b * d) := by
    have : c * b * (b' * d') = (c * d') * (b * b') := by grind
    rw [this, e2]
    grind
  rw [h2, h3] at h1
  exact Int.le_of_mul_le_mul_right h1 (Int.mul_pos (by omega) (by omega))
theorem nr_same {lo lo' up up' : Option T4} (h : SameF lo lo') (h2 : SameF up up') : nr lo up = nr lo' up' := by
  cases up with
  | none =>
    cases up' with
    | none => cases lo <;> cases lo' <;> rfl
    | some z => exact h2.elim
  | some z =>
    cases up' with
    | none => exact h2.elim
    | some z' =>
      obtain ⟨e, d, d'⟩ := h2
      have n := (nonneg_iff d d' e).2
      have n' : decide (z.1 ≤ 0) = decide (z'.1 ≤ 0) := decide_eq_decide.mpr n
      cases lo with
      | none =>
        cases lo' with
        | none => exact n'
        | some l => exact h.elim
      | some l =>
        cases lo' with
        | none => exact h.elim
        | some l' =>
          obtain ⟨e0, f, f'⟩ := h
          show (decide (z.1 ≤ 0) || decide (z.1 * l.2.1 ≤ l.1 * z.2.1)) = (decide (z'.1 ≤ 0) || decide (z'.1 * l'.2.1 ≤ l'.1 * z'.2.1))
          rw [n', decide_eq_decide.mpr (⟨fun q => le_frac d f d' f' e e0 q, fun q => le_frac d' f' d f e.symm e0.symm q⟩ : z.1 * l.2.1 ≤ l.1 * z.2.1 ↔ z'.1 * l'.2.1 ≤ l'.1 * z'.2.1)]
theorem nr_zero {S : T3 → T3 → Prop} {lo up : Option T4} {x y : T3} (hu : UpOk S up) (s : S x y) (e1 : x.2.1 = y.2.1) (e2 : y.2.2 + 1 - x.2.2 ≤ 0) : nr lo up = true := by
  have u : uc x y := ⟨by omega, .inr (by omega)⟩
  cases up with
  | none => exact absurd u (hu x y s)
  | some z =>
    have d := hu.den z rfl
    have h := hu.2 x y s u
    have b := bot_pos x y
    have h2 := Int.mul_le_mul_of_nonneg_right e2 (show 0 ≤ z.2.1 by omega)
    rw [Int.zero_mul] at h2
    have le : z.1 ≤ 0 := by
      rcases Int.lt_or_le 0 z.1 with g | g
      · have := Int.mul_pos g (show 0 < bot x y by omega)
        omega
      · exact g
    cases lo with
    | none => exact decide_eq_true le
    | some l =>
      show (decide (z.1 ≤ 0) || _) = true
      rw [decide_eq_true le]
      rfl
/-- what rates gives, as data -/
def endD : Option (Int × Int) → PyData
  | none => .none
  | some e => .tuple [.int e.1, .int e.2]
def resD (lo up : Option T4) : PyData := if nr lo up = true then .none else .tuple [endD (lowE lo), endD (highE up)]
theorem end_dv {H : Hp} {k : Nat} {v : V} {e : Option (Int × Int)} (h : EndV H k v e) : Dv H v (endD e) := by
  cases e with
  | none =>
    have h : v = .non := h
    subst h
    exact .non
  | some e =>
    obtain ⟨a, rfl, ea, _⟩ := h
    exact .tup ea (.cons (.int _) (.cons (.int _) .nil))
theorem show_end {H : Hp} {k : Nat} {v : V} {e : Option (Int × Int)} (hk : k ≤ 1900) (h : EndV H k v e) : (endD e).showable = true ∧ (endD e).depth ≤ 1 ∧ (endD e).shown.length ≤ 10000 := by
  cases e with
  | none => exact ⟨rfl, by decide, by decide +kernel⟩
  | some e =>
    obtain ⟨a, _, _, r⟩ := h
    have bp := r.bp
    have bq := r.bq
    have g1 : e.1.natAbs.log2 < 1920 := (bp.mono (show k ≤ 1920 by omega)).log (by decide)
    have g2 : e.2.natAbs.log2 < 1920 := (bq.mono (show k ≤ 1920 by omega)).log (by decide)
    have l1 := PyProof.Rows.int_text_len_1921 g1
    have l2 := PyProof.Rows.int_text_len_1921 g2
    refine ⟨by simp [endD, PyData.showable, PyData.showableAll, g1, g2], by show 1 ≤ 1; decide, ?_⟩
    have := tupleText_len_le (PyData.shownAll [.int e.1, .int e.2])
    show (tupleText (PyData.shownAll [.int e.1, .int e.2])).length ≤ 10000
    have q : ((PyData.shownAll [.int e.1, .int e.2]).map (·.length)).sum = (toString e.1 : Str).length + ((toString e.2 : Str).length + 0) := rfl
    have q2 : (PyData.shownAll [.int e.1, .int e.2]).length = 2 := rfl
    rw [q, q2] at this
    omega
theorem rv_dv {H : Hp} {k : Nat} {v : V} {lo up : Option T4} (hk : k ≤ 1800) (h : RV H k v lo up) : Dv H v (resD lo up) ∧ (resD lo up).showable = true ∧ (resD lo up).depth ≤ 60 ∧ (resD lo up).shown.length ≤ sizeLine := by
  unfold resD
  rcases h with ⟨e, rfl⟩ | ⟨e, T, a, b, rfl, eT, h1, h2⟩
  · rw [if_pos e]
    exact ⟨.non, rfl, by decide, by rw [sizeLine_eq]; decide +kernel⟩
  · rw [if_neg (by rw [e]; exact Bool.false_ne_true)]
    obtain ⟨s1, d1, l1⟩ := show_end (show k + 2 ≤ 1900 by omega) h1
    obtain ⟨s2, d2, l2⟩ := show_end (show k + 2 ≤ 1900 by omega) h2
    refine ⟨.tup eT (.cons (end_dv h1) (.cons (end_dv h2) .nil)), ?_, ?_, ?_⟩
    · simp [PyData.showable, PyData.showableAll, s1, s2]
    · simp only [PyData.depth, PyData.depthAll]
      omega
    · have := tupleText_len_le (PyData.shownAll [endD (lowE lo), endD (highE up)])
      show (tupleText (PyData.shownAll [endD (lowE lo), endD (highE up)])).length ≤ sizeLine
      have q : ((PyData.shownAll [endD (lowE lo), endD (highE up)]).map (·.length)).sum = (endD (lowE lo)).shown.length + ((endD (highE up)).shown.length + 0) := rfl
      have q2 : (PyData.shownAll [endD (lowE lo), endD (highE up)]).length = 2 := rfl
      rw [q, q2] at this
      rw [sizeLine_eq]
      omega
end Lf
namespace Lf
open PySem PySem.Spec PyProof.Rows L2
section
variable {P : Program} {w : World} {K : PySem.W.Frag} {mg : Str → Option Value} {base : Heap} {C : Addr}
/-! ### _law_handed: a copy as a list or as a tuple -/
def spHanded : Sp := fun vs H Q _ => ∃ (a : PA) (n : Nat) (L : Addr) (xs : List V), vs = [.ref a, .ref L] ∧ Pen H a n ∧ n < 2 ^ 38 ∧ H L = some (.lst xs) ∧
  ∀ F kb H', H' F = some (sqO kb xs) → Pen H' a (n + 1) → Fr H H' → Q (.ref F) H'
abbrev s_l_handed : Stmt := topS 42
abbrev N_l_handed : List Str := ["_law_pen_here", "_law_some"]
abbrev P_l_handed : List Str := ["_law_pen_here", "_law_some"]
theorem sc_l_handed : FnScope N_l_handed P_l_handed (defScope s_l_handed) := ⟨rfl, rfl, rfl, by decide +kernel, rfl, by decide +kernel, by decide +kernel⟩
theorem ok_l_handed (D : Df K mg "_law_handed" s_l_handed P_l_handed) (B : Bi mg) (c_l_draw : C8.Cal P w K mg base 1 "_law_draw" spDraw []) : C8.Cal P w K mg base 2 "_law_handed" spHanded [] := by
  refine cal_of D sc_l_handed (fun vs H Q E h => ?_) (fun f cdv A outer s H vs Q E hr h => ?_)
  · obtain ⟨a, n, L, xs, rfl, _⟩ := h
    rfl
  · obtain ⟨a, n, L, xs, rfl, hP, hn, eL, kk⟩ := h
    refine ⟨_, (pss_one (ps_ret (pe_ix (r := rIxL K) ix_list (pe_lst (pa_cons (pe_callTy (call_list_of) (by rfl) B.list_ bt_list (pa_cons (pv 1) pa_nil)) (pa_cons (pe_callTy (call_tuple_of) (by rfl) B.tuple_ bt_tuple (pa_cons (pv 1) pa_nil)) pa_nil))) (C8.pe_c c_l_draw hr (by decide) (by rfl) (pa_cons (pv 0) (pa_cons pe_int pa_nil))) (fun _ _ => rfl)))), ?_⟩
    refine ⟨_, rfl, L, xs, rfl, .inl (SqL.of eL), fun l1 n1 => ?_⟩
    have z1 := sm_upd (o := .lst xs) n1
    refine ⟨_, rfl, L, xs, rfl, .inl ⟨SqL.of (z1 _ _ eL), fun l2 n2 => ?_⟩⟩
    have z2 := sm_upd (o := .tup xs) n2
    refine ⟨len10 (by simp), fun l nl => ?_⟩
    have z3 := sm_upd (o := .lst [.ref l1, .ref l2]) nl
    have z := (z1.trans z2).trans z3
    refine ⟨_, rfl, a, _, _, rfl, hP.same z, by omega, by decide, Bd.small 20 (by decide) (by decide), fun d H3 d20 d21 hP3 f3 => ?_⟩
    have el := f3.l _ _ (upd_same (H := upd (upd H l1 (.lst xs)) l2 (.tup xs)) (a := l) (o := .lst [.ref l1, .ref l2]))
    have e1 := f3.l _ _ (z3 _ _ (z2 _ _ (upd_same (H := H) (a := l1) (o := .lst xs))))
    have e2 := f3.t _ _ (z3 _ _ (upd_same (H := upd H l1 (.lst xs)) (a := l2) (o := .tup xs)))
    obtain ⟨x, hx, mx⟩ := at_in (xs := [.ref l1, .ref l2]) d20 (by show d < 2; omega)
    refine ⟨l, _, _, _, rfl, rfl, SqL.of el, hx, ?_⟩
    simp only [List.mem_cons, List.not_mem_nil, or_false] at mx
    rcases mx with rfl | rfl
    · exact kk l1 true _ e1 hP3 ((Fr.same z).trans f3)
    · exact kk l2 false _ e2 hP3 ((Fr.same z).trans f3)
end
/-! ### what is refused stays so -/
theorem CkBad.kp {H H' : Hp} {v : V} {j : Int} (h : CkBad H v j) (f : Kp H H') : CkBad H' v j := by
  have sq : ∀ {a : Addr} {kb : Bool} {xs : List V}, H a = some (sqO kb xs) → H' a = some (sqO kb xs) := fun {a kb xs} e => by
    cases kb
    · exact f.t _ _ e
    · exact f.l _ _ e
  cases h with
  | kind dv ik => exact .kind (Dv.kp f _ _ dv) ik
  | long e l => exact .long (sq e) l
  | item e l o hx dx rg rb => exact .item (sq e) l (o.keep fun b d eb => f.t _ _ eb) hx (Dv.kp f _ _ dx) rg rb
theorem sq_kp {H H' : Hp} (f : Kp H H') {a : Addr} {kb : Bool} {xs : List V} (e : H a = some (sqO kb xs)) : H' a = some (sqO kb xs) := by
  cases kb
  · exact f.t _ _ e
  · exact f.l _ _ e
end Lf
namespace Lf
open PySem PySem.Spec PyProof.Rows L2
section
variable {P : Program} {w : World} {K : PySem.W.Frag} {mg : Str → Option Value} {base : Heap} {C CV : Addr}
def spPhES : Sp := fun vs H Q _ => ∃ (L rt : Addr) (kb : Bool) (xs : List V) (ds : List Rec) (p q : Int) (k : Nat), vs = [.ref L, .ref rt] ∧ H L = some (sqO kb xs) ∧ Obs rcO H xs ds ∧ ds.length ≤ 1000 ∧ H rt = some (tup2 p q) ∧ RcB k ds ∧ Bd k p ∧ Bd k q ∧ 0 < k ∧ k ≤ 100000 ∧
  ∀ T H' a b, Same H H' → H T = none → H' T = some (.tup [oV a, oV b]) → IsMx (lph p q ds) a → IsMn (hph p q ds) b → Q (.ref T) H'
def spRFS : Sp := fun vs H Q _ => ∃ (L rt : Addr) (kb : Bool) (xs : List V) (ds : List Rec) (p q : Int) (k : Nat), vs = [.ref L, .ref rt] ∧ H L = some (sqO kb xs) ∧ Obs rcO H xs ds ∧ ds.length ≤ 1000 ∧ H rt = some (tup2 p q) ∧ RcB k ds ∧ Bd k p ∧ Bd k q ∧ 0 < k ∧ k ≤ 100000 ∧
  ∀ H' a b, Same H H' → IsMx (lph p q ds) a → IsMn (hph p q ds) b → Q (.bl (okPh a b)) H'
def spPhasesS : Sp := fun vs H Q _ => ∃ (L rt : Addr) (kb : Bool) (xs : List V) (ds : List Rec) (p q : Int) (k : Nat), vs = [.ref L, .ref rt] ∧ H L = some (sqO kb xs) ∧ Obs rcO H xs ds ∧ ds.length ≤ 200 ∧ H rt = some (tup2 p q) ∧ RcB k ds ∧ Rt k p q ∧ 0 < k ∧ k ≤ 100000 ∧
  ∀ H' a b v, Same H H' → IsMx (lph p q ds) a → IsMn (hph p q ds) b → ((okPh a b = false ∧ v = .non) ∨ (okPh a b = true ∧ ∃ T, v = .ref T ∧ H T = none ∧ H' T = some (.tup [oV a, oV b]))) → Q v H'
/-! ### phases, refused -/
def spPhasesX (C CV : Addr) : Sp := fun vs H _ E => ∃ (v rv : V), vs = [v, rv] ∧ ((∃ j, CkBad H v j ∧ ∀ H', Same H H' → OutY C "index" (.int j) H' E) ∨
  ∃ (L : Addr) (kb : Bool) (xs : List V) (ds : List Rec) (d : PyData), v = .ref L ∧ H L = some (sqO kb xs) ∧ Obs rcO H xs ds ∧ ds.length ≤ 200 ∧ Dv H rv d ∧ rateD d = false ∧ ∀ H', Same H H' → OutX CV "value" rv H' E)
end
end Lf
namespace Lf
open PySem PySem.Spec PyProof.Rows L2
/-! ### what the phases say -/
def geO : Option Int → Int → Prop
  | none, _ => True
  | some x, c => x ≤ c
def leO : Option Int → Int → Prop
  | none, _ => True
  | some x, c => c ≤ x
theorem fit_lo {p q c : Int} {d : Rec} (hq : 1 ≤ q) (h : d.lo = true) : fitB p q c d = true ↔ d.n * q - p * d.t ≤ c := by
  unfold fitB
  rw [if_pos h, decide_eq_true_eq, Int.le_ediv_iff_mul_le (by omega)]
  omega
theorem fit_hi {p q c : Int} {d : Rec} (hq : 1 ≤ q) (h : d.lo = false) : fitB p q c d = true ↔ c ≤ (d.n + 1) * q - p * d.t - 1 := by
  unfold fitB
  rw [if_neg (by rw [h]; exact Bool.false_ne_true), decide_eq_true_eq, ← Int.lt_add_one_iff, Int.ediv_lt_iff_lt_mul (by omega)]
  omega
theorem mem_lph {p q x : Int} {ds : List Rec} : x ∈ lph p q ds ↔ ∃ d ∈ ds, d.lo = true ∧ x = d.n * q - p * d.t := by
  unfold lph
  constructor
  · intro h
    obtain ⟨y, hy, rfl⟩ := List.mem_map.mp h
    obtain ⟨i, d, e, hb, rfl⟩ := sel_mem hy
    exact ⟨d, List.mem_of_getElem? e, hb, rfl⟩
  · rintro ⟨d, hd, hb, rfl⟩
    obtain ⟨i, e⟩ := List.mem_iff_getElem?.mp hd
    exact List.mem_map.mpr ⟨_, mem_sel e hb 0, rfl⟩
theorem mem_hph {p q x : Int} {ds : List Rec} : x ∈ hph p q ds ↔ ∃ d ∈ ds, d.lo = false ∧ x = (d.n + 1) * q - p * d.t - 1 := by
  unfold hph
  constructor
  · intro h
    obtain ⟨y, hy, rfl⟩ := List.mem_map.mp h
    obtain ⟨i, d, e, hb, rfl⟩ := sel_mem hy
    exact ⟨d, List.mem_of_getElem? e, hb, rfl⟩
  · rintro ⟨d, hd, hb, rfl⟩
    obtain ⟨i, e⟩ := List.mem_iff_getElem?.mp hd
    exact List.mem_map.mpr ⟨_, mem_sel e hb 0, rfl⟩
theorem fit_iff {p q c : Int} {ds : List Rec} {a b : Option Int} (hq : 1 ≤ q) (ha : IsMx (lph p q ds) a) (hb : IsMn (hph p q ds) b) : ds.all (fitB p q c) = true ↔ geO a c ∧ leO b c := by
  rw [List.all_eq_true]
  constructor
  · intro h
    constructor
    · cases a with
      | none => trivial
      | some x =>
        obtain ⟨d, hd, hl, rfl⟩ := mem_lph.mp ha.1
        exact (fit_lo hq hl).mp (h d hd)
    · cases b with
      | none => trivial
      | some x =>
        obtain ⟨d, hd, hl, rfl⟩ := mem_hph.mp hb.1
        exact (fit_hi hq hl).mp (h d hd)
  · rintro ⟨h1, h2⟩ d hd
    cases hl : d.lo with
    | true =>
      have m : d.n * q - p * d.t ∈ lph p q ds := mem_lph.mpr ⟨d, hd, hl, rfl⟩
      refine (fit_lo hq hl).mpr ?_
      cases a with
      | none =>
        rw [show lph p q ds = [] from ha] at m
        cases m
      | some x =>
        have := ha.2 _ m
        have h1 : x ≤ c := h1
        omega
    | false =>
      have m : (d.n + 1) * q - p * d.t - 1 ∈ hph p q ds := mem_hph.mpr ⟨d, hd, hl, rfl⟩
      refine (fit_hi hq hl).mpr ?_
      cases b with
      | none =>
        rw [show hph p q ds = [] from hb] at m
        cases m
      | some x =>
        have := hb.2 _ m
        have h2 : c ≤ x := h2
        omega
theorem mx_bd {k : Nat} {p q x : Int} {ds : List Rec} (k0 : 0 < k) (bd : RcB k ds) (bp : Bd k p) (bq : Bd k q) (h : IsMx (lph p q ds) (some x)) : Bd (2 * k + 2) x := by
  obtain ⟨d, hd, _, rfl⟩ := mem_lph.mp h.1
  exact (Bd.sub ((Bd.mul (bd d hd).2 bq).mono (by omega : k + k ≤ 2 * k)) ((Bd.mul bp (bd d hd).1).mono (by omega))).mono (by omega)
theorem mn_bd {k : Nat} {p q x : Int} {ds : List Rec} (k0 : 0 < k) (bd : RcB k ds) (bp : Bd k p) (bq : Bd k q) (h : IsMn (hph p q ds) (some x)) : Bd (2 * k + 3) x := by
  obtain ⟨d, hd, _, rfl⟩ := mem_hph.mp h.1
  have b1 : Bd (k + 1) (d.n + 1) := Bd.add (bd d hd).2 (Bd.small 1 (by decide) (by omega))
  exact Bd.sub (Bd.sub ((Bd.mul b1 bq).mono (by omega : k + 1 + k ≤ 2 * k + 1)) ((Bd.mul bp (bd d hd).1).mono (by omega))) (Bd.small 1 (by decide) (by omega))
end Lf
namespace Lf
open PySem PySem.Spec PyProof.Rows L2
/-! ### rules: any value -/
def ruleD : PyData → Bool
  | .tuple [.int p, .int q, .int _] => decide (0 ≤ p) && (decide (1 ≤ q) && decide (V.int (Int.gcd p q : Int) = V.int 1))
  | _ => false
theorem rule_three {ds : List PyData} (h : ds.length ≠ 3) : ruleD (.tuple ds) = false := by
  unfold ruleD
  split
  · rename_i p q c e
    cases e
    exact absurd rfl h
  · rfl
theorem rule_i {d0 d1 d2 : PyData} (h : ([isI d0, isI d1, isI d2].all fun b => b) = false) : ruleD (.tuple [d0, d1, d2]) = false := by
  unfold ruleD
  split
  · rename_i p q c e
    cases e
    cases h
  · rfl
theorem isI_inv3 {H : Hp} {v : V} {d : PyData} (h : Dv H v d) (hi : isI d = true) : ∃ z, v = .int z ∧ d = .int z := by
  cases h with
  | int z => exact ⟨z, rfl, rfl⟩
  | _ => cases hi
section
variable {P : Program} {w : World} {K : PySem.W.Frag} {mg : Str → Option Value} {base : Heap} {C CV : Addr}
def spIsRuleD : Sp := fun vs H Q _ => ∃ (v : V) (d : PyData), vs = [v] ∧ Dv H v d ∧ ∀ H', Same H H' → Q (.bl (ruleD d)) H'
/-- the exception, with the value -/
def OutX3 (C : Addr) (x : Str) (v : V) (H : Hp) (E : XK) : Prop := ∀ dd, H dd = none → E (.ref C) (some dd) (upd H dd (.xd [(x, v)]))
def spCkRuleX (C : Addr) : Sp := fun vs H Q E => ∃ (v : V) (d : PyData), vs = [v] ∧ Dv H v d ∧ (∀ H', Same H H' → ruleD d = true → Q .non H') ∧ ∀ H', Same H H' → ruleD d = false → OutX3 C "value" v H' E
end
end Lf
namespace Lf
open PySem PySem.Spec PyProof.Rows L2
section
variable {P : Program} {w : World} {K : PySem.W.Frag} {mg : Str → Option Value} {base : Heap} {C CV : Addr}
/-! ### fits_record, fits -/
def spFitsRec : Sp := fun vs H Q _ => ∃ (r e : Addr) (p q c : Int) (d : Rec) (k : Nat), vs = [.ref r, .ref e] ∧ H r = some (.tup [.int p, .int q, .int c]) ∧ H e = some (rcO d) ∧ 1 ≤ q ∧ Bd k p ∧ Bd k q ∧ Bd k d.t ∧ 0 < k ∧ k ≤ 9000 ∧ Q (.bl (fitB p q c d)) H
abbrev s_fits_record : Stmt := topS 20
abbrev N_fits_record : List Str := ["rule", "record", "p", "q", "c", "word", "time", "number", "reached"]
abbrev P_fits_record : List Str := ["rule", "record"]
theorem sc_fits_record : FnScope N_fits_record P_fits_record (defScope s_fits_record) := ⟨rfl, rfl, rfl, by decide +kernel, rfl, by decide +kernel, by decide +kernel⟩
theorem ok_fits_record (D : Df K mg "fits_record" s_fits_record P_fits_record) : C8.Cal P w K mg base 1 "fits_record" spFitsRec [] := by
  refine cal_of D sc_fits_record (fun vs H Q E h => ?_) (fun f cdv A outer s H vs Q E hr h => ?_)
  · obtain ⟨r, e, p, q, c, d, k, rfl, _⟩ := h
    rfl
  · obtain ⟨r, e, p, q, c, d, k, rfl, er, ee, q1, bp, bq, bt, k0, k1, kk⟩ := h
    refine ⟨_, (pss_cons (ps_asg (pv 0) (pg_tup rfl (pgs_cons (pg_name (i := 2) sc_fits_record.nd rfl (Or.inl rfl)) (pgs_cons (pg_name (i := 3) sc_fits_record.nd rfl (Or.inl rfl)) (pgs_cons (pg_name (i := 4) sc_fits_record.nd rfl (Or.inl rfl)) pgs_nil)))))
    (pss_cons (ps_asg (pv 1) (pg_tup rfl (pgs_cons (pg_name (i := 5) sc_fits_record.nd rfl (Or.inl rfl)) (pgs_cons (pg_name (i := 6) sc_fits_record.nd rfl (Or.inl rfl)) (pgs_cons (pg_name (i := 7) sc_fits_record.nd rfl (Or.inl rfl)) pgs_nil)))))
    (pss_cons (ps_set (i := 8) sc_fits_record.nd rfl (Or.inl rfl) (pe_op op_fdivW (pe_op op_add (pe_op op_mulW (pv 2) (pv 6)) (pv 4)) (pv 3)))
    (pss_one (ps_ret (pe_ifExp (pt_cmpR op_eq (pv 5) pe_str (nomark _)) (pe_cmpR op_ge (pv 8) (pv 7) (nomark _)) (pe_cmpR op_le (pv 8) (pv 7) (nomark _)))))))), ?_⟩
    refine ⟨_, rfl, r, _, rfl, SqT.of er, rfl, _, _, rfl, _, _, rfl, _, _, rfl, rfl, ?_⟩
    refine ⟨_, rfl, e, _, rfl, SqT.of ee, rfl, _, _, rfl, _, _, rfl, _, _, rfl, rfl, ?_⟩
    refine ⟨_, rfl, _, rfl, _, _, rfl, rfl, mulW bp bt k0 k0 (by omega), _, rfl, _, _, rfl, rfl, _, rfl, _, _, rfl, rfl, divW (by omega) bq (by omega), ?_⟩
    refine ⟨_, rfl, rfl, _, rfl, ?_⟩
    rw [w_lo]
    have kk : Q (.bl (if d.lo = true then decide (d.n ≤ (p * d.t + c) / q) else decide ((p * d.t + c) / q ≤ d.n))) H := kk
    cases hd : d.lo with
    | true =>
      rw [hd] at kk
      refine iteT ?_
      exact ⟨_, rfl, _, rfl, _, _, rfl, rfl, kk⟩
    | false =>
      rw [hd] at kk
      refine iteF ?_
      exact ⟨_, rfl, _, rfl, _, _, rfl, rfl, kk⟩
def spFitsS : Sp := fun vs H Q _ => ∃ (r L : Addr) (p q c : Int) (kb : Bool) (xs : List V) (ds : List Rec) (k : Nat), vs = [.ref r, .ref L] ∧ H r = some (.tup [.int p, .int q, .int c]) ∧ RuleB k p q c ∧ H L = some (sqO kb xs) ∧ Obs rcO H xs ds ∧ ds.length ≤ 200 ∧ RcB k ds ∧ 0 < k ∧ k ≤ 9000 ∧
  ∀ H', Same H H' → Q (.bl (ds.all (fitB p q c))) H'
/-! ### fits, refused -/
def spFitsX (C CV : Addr) : Sp := fun vs H _ E => ∃ (rv v : V), vs = [rv, v] ∧ ((∃ d, Dv H rv d ∧ ruleD d = false ∧ ∀ H', Same H H' → OutX3 CV "value" rv H' E) ∨
  ∃ (r : Addr) (p q c : Int) (k : Nat) (j : Int), rv = .ref r ∧ H r = some (.tup [.int p, .int q, .int c]) ∧ RuleB k p q c ∧ CkBad H v j ∧ ∀ H', Same H H' → OutY C "index" (.int j) H' E)
end
end Lf
namespace Lf
open PySem PySem.Spec PyProof.Rows L2
/-- repr of an int or of None -/
theorem repr_some {X : Cx} : CallR X (.builtin "repr") (fun xs H Q => (∃ i : Int, xs = [.int i] ∧ i.natAbs.log2 < 1920 ∧ Q (.str (toString i)) H) ∨ (xs = [.non] ∧ Q (.str "None") H)) := by
  intro pins s σ H xs us Q I rel h
  rcases h with h | ⟨rfl, hq⟩
  · exact SkE.call_repr_int pins s σ H xs us Q I rel h
  · obtain ⟨u, hu, ru⟩ := vals1 rel
    subst hu
    have eu : u = Value.none := ru
    subst eu
    exact PySem.P.repr_of_none ⟨.str "None", H, I.tok _, ⟨_, rfl⟩, hq⟩
theorem cut_take (xs : List V) (m : Int) (h : 0 ≤ m) : cutV xs none (some m) = xs.take m.toNat := by
  obtain ⟨n, rfl⟩ := Int.eq_ofNat_of_zero_le h
  unfold cutV
  rw [HT.sIx_none, show HT.sIx xs.length xs.length (some ((n : Nat) : Int)) = min n xs.length from HT.sIx_nat _ _ n, List.drop_zero, Nat.sub_zero]
  show xs.take (min n xs.length) = xs.take n
  by_cases hn : n ≤ xs.length
  · rw [Nat.min_eq_left hn]
  · rw [Nat.min_eq_right (by omega), List.take_of_length_le (Nat.le_refl _), List.take_of_length_le (by omega)]
theorem flat_ints (ns : List Int) : (ns.map V.int).all flatV = true := by
  induction ns with
  | nil => rfl
  | cons n r ih => simpa [flatV] using ih
theorem inV_ints (ns : List Int) (k : Int) : inV (V.int k) (ns.map V.int) = decide (k ∈ ns) := by
  induction ns with
  | nil => rfl
  | cons n r ih =>
    have ih' : ((r.map V.int).any fun y => eqV y (V.int k)) = decide (k ∈ r) := ih
    show (eqV (V.int n) (V.int k) || (r.map V.int).any fun y => eqV y (V.int k)) = decide (k ∈ n :: r)
    rw [ih']
    by_cases h : n = k
    · subst h
      simp [eqV]
    · have h' : ¬ k = n := fun z => h z.symm
      simp [eqV, h, h']
end Lf
namespace Lf
open PySem PySem.Spec PyProof.Rows L2
/-! ### tables of code objects, kept -/
theorem tabs_fr {T : List (Addr × Str)} {H H' : Hp} (t : LamX.Tabs T H) (f : Fr H H') : LamX.Tabs T H' := fun p hp => by
  obtain ⟨ps, h1, h2, h3⟩ := t p hp
  refine ⟨ps, f.k _ _ h1 (fun _ z => by cases z), h2, fun pos cv hc => ?_⟩
  obtain ⟨c, e1, e2⟩ := h3 pos cv hc
  exact ⟨c, e1, f.k _ _ e2 fun _ z => by unfold LamX.CodeO at z; cases z⟩
theorem tabs_same {T : List (Addr × Str)} {H H' : Hp} (t : LamX.Tabs T H) (s : Same H H') : LamX.Tabs T H' := tabs_fr t (Fr.same s)
theorem Pen.extN {H H' : Hp} {a : PA} {n : Nat} (p : Pen H a n) (e : LamX.ExtN H H') : Pen H' a n := by
  obtain ⟨cs, t, r, h1, h2, h3⟩ := p.ex
  exact ⟨cs, t, r, e _ _ h1 (fun _ z => by cases z), e _ _ h2 (fun _ z => by cases z), h3⟩
theorem tup_extN {H H' : Hp} {b : Addr} {xs : List V} (e : LamX.ExtN H H') (h : H b = some (.tup xs)) : H' b = some (.tup xs) := e _ _ h fun _ z => by cases z
def spLawT (K : PySem.W.Frag) (PT : Addr) : Sp := fun vs H Q _ => ∃ (a : Addr) (ns : List Int), vs = [.ref a] ∧ SqL K H a (ns.map V.int) ∧ ns.length ≤ 63 ∧ H PT = some (.tbl #[]) ∧ ∀ H', Q (.bl true) H'
theorem iteFs {b : Bool} {A B : Prop} (h : b = false) (hB : B) : if b = true then A else B := by
  rw [h, if_neg Bool.false_ne_true]
  exact hB
theorem notin_of {ns : List Int} {k : Int} (h : k ∈ ns) : (if true = true then !inV (V.int k) (ns.map V.int) else inV (V.int k) (ns.map V.int)) = false := by
  rw [if_pos rfl, inV_ints, decide_eq_true h]
  rfl
/-- two pairs that are the same are not different -/
theorem ne2 {K : PySem.W.Frag} {H : Hp} {r1 r2 : Addr} {p q p' q' : Int} {Q : V → Hp → Prop} (e1 : H r1 = some (.tup [.int p, .int q])) (e2 : H r2 = some (.tup [.int p', .int q'])) (hp : p = p') (hq : q = q') (h : Q (.bl false) H) : rNeD K (.ref r1) (.ref r2) H Q := by
  subst hp hq
  refine ⟨.tuple [.int p, .int q], .tuple [.int p, .int q], Dp.tup (SqT.of e1) (.cons (.int p) (.cons (.int q) .nil)), Dp.tup (SqT.of e2) (.cons (.int p) (.cons (.int q) .nil)), rfl, rfl, ?_⟩
  rw [SeqAt.eqv_refl _ rfl]
  exact h
abbrev qLam : Str := (("law" : Str) ++ (".<locals>." : Str)) ++ ("<lambda>" : Str)
end Lf
namespace Lf
open PySem PySem.Spec PyProof.Rows L2
/-- two rules that are the same are not different -/
theorem ne3 {K : PySem.W.Frag} {H : Hp} {r1 r2 : Addr} {p q c p' q' c' : Int} {Q : V → Hp → Prop} (e1 : H r1 = some (.tup [.int p, .int q, .int c])) (e2 : H r2 = some (.tup [.int p', .int q', .int c'])) (hp : p = p') (hq : q = q') (hc : c = c') (h : Q (.bl false) H) : rNeD K (.ref r1) (.ref r2) H Q := by
  subst hp hq hc
  refine ⟨.tuple [.int p, .int q, .int c], .tuple [.int p, .int q, .int c], Dp.tup (SqT.of e1) (.cons (.int p) (.cons (.int q) (.cons (.int c) .nil))), Dp.tup (SqT.of e2) (.cons (.int p) (.cons (.int q) (.cons (.int c) .nil))), rfl, rfl, ?_⟩
  rw [SeqAt.eqv_refl _ rfl]
  exact h
theorem logR {k : Nat} {i : Int} (h : Bd k i) (hk : k ≤ 1920) : i.natAbs.log2 < 1920 := (h.mono hk).log (by decide)
def spLaw (K : PySem.W.Frag) : Sp := fun vs H Q _ => ∃ (a : Addr) (ns : List Int), vs = [.ref a] ∧ SqL K H a (ns.map V.int) ∧ ns.length ≤ 63 ∧ ∀ H', Q (.bl true) H'
end Lf
namespace Lf
open PySem PySem.Spec PyProof.Rows L2
/-! ### conflicts: no rate fits -/
def FitM (ds : List Rec) (p q : Int) : Prop := ∀ d ∈ ds, ∀ e ∈ ds, d.lo = true → e.lo = false → p * (e.t - d.t) < (e.n + 1 - d.n) * q
def Cf (ds : List Rec) : Prop := ∀ p q : Int, 0 ≤ p → 1 ≤ q → ¬ FitM ds p q
theorem FitM.sub {ds es : List Rec} {p q : Int} (h : FitM ds p q) (s : ∀ d ∈ es, d ∈ ds) : FitM es p q := fun d hd e he => h d (s d hd) e (s e he)
theorem Cf.sub {ds es : List Rec} (h : Cf es) (s : ∀ d ∈ es, d ∈ ds) : Cf ds := fun p q hp hq f => h p q hp hq (f.sub s)
theorem not_cf {ds : List Rec} (h : ¬ Cf ds) : ∃ p q : Int, 0 ≤ p ∧ 1 ≤ q ∧ FitM ds p q := by
  unfold Cf at h
  simp only [Classical.not_forall, Classical.not_not] at h
  obtain ⟨p, q, hp, hq, f⟩ := h
  exact ⟨p, q, hp, hq, f⟩
theorem fitm_sd {ds : List Rec} {p q : Int} : (∀ x y, SD ds x y → p * (y.2.1 - x.2.1) < (y.2.2 + 1 - x.2.2) * q) ↔ FitM ds p q := by
  constructor
  · intro h d hd e he ld le
    obtain ⟨i, ei⟩ := List.mem_iff_getElem?.mp hd
    obtain ⟨j, ej⟩ := List.mem_iff_getElem?.mp he
    exact h _ _ ⟨mem_sel ei ld 0, mem_sel ej le 0⟩
  · rintro h x y ⟨hx, hy⟩
    obtain ⟨i, d, ei, ld, rfl⟩ := sel_mem hx
    obtain ⟨j, e, ej, le, rfl⟩ := sel_mem hy
    exact h d (List.mem_of_getElem? ei) e (List.mem_of_getElem? ej) ld le
/-- where the bounds leave room there is a rate -/
theorem nr_some {S : T3 → T3 → Prop} {lo up : Option T4} (hl : LoOk S lo) (hu : UpOk S up) (h : nr lo up = false) : ∃ p q : Int, 0 ≤ p ∧ 1 ≤ q ∧ RateIn lo up p q := by
  cases up with
  | none =>
    cases lo with
    | none => exact ⟨0, 1, by omega, by omega, fun z e => (nomatch e), fun z e => (nomatch e)⟩
    | some l =>
      have dl := hl.den l rfl
      refine ⟨(if l.1 < 0 then 0 else l.1) + 1, 1, ?_, by omega, fun z e => ?_, fun z e => (nomatch e)⟩
      · by_cases c : l.1 < 0
        · rw [if_pos c]
          omega
        · rw [if_neg c]
          omega
      · cases e
        have key : l.1 < (if l.1 < 0 then 0 else l.1) + 1 ∧ 0 ≤ (if l.1 < 0 then 0 else l.1) + 1 := by
          by_cases c : l.1 < 0
          · rw [if_pos c]
            omega
          · rw [if_neg c]
            omega
        generalize (if l.1 < 0 then 0 else l.1) + 1 = a at key
        have := Int.mul_le_mul_of_nonneg_left dl key.2
        omega
  | some z =>
    have dz := hu.den z rfl
    cases lo with
    | none =>
      have h : decide (z.1 ≤ 0) = false := h
      have h := of_decide_eq_false h
      exact ⟨0, 1, by omega, by omega, fun z e => (nomatch e), fun y e => by cases e; omega⟩
    | some l =>
      have dl := hl.den l rfl
      have h : (decide (z.1 ≤ 0) || decide (z.1 * l.2.1 ≤ l.1 * z.2.1)) = false := h
      rw [Bool.or_eq_false_iff] at h
      have h1 := of_decide_eq_false h.1
      have h2 := of_decide_eq_false h.2
      by_cases c : l.1 < 0
      · refine ⟨0, 1, by omega, by omega, fun y e => ?_, fun y e => ?_⟩
        · cases e
          omega
        · cases e
          omega
      · refine ⟨l.1 + z.1, l.2.1 + z.2.1, by omega, by omega, fun y e => ?_, fun y e => ?_⟩
        · cases e
          rw [Int.mul_add, Int.add_mul]
          omega
        · cases e
          rw [Int.mul_add, Int.add_mul]
          omega
theorem nr_cf {ds : List Rec} {lo up : Option T4} (hl : LoOk (SD ds) lo) (hu : UpOk (SD ds) up) : nr lo up = true ↔ Cf ds := by
  constructor
  · intro h p q hp hq f
    exact nr_none hp hq hl hu h ((rate_iff hp hq hl hu).mp (fitm_sd.mpr f))
  · intro h
    cases e : nr lo up with
    | true => rfl
    | false =>
      obtain ⟨p, q, hp, hq, r⟩ := nr_some hl hu e
      exact absurd (fitm_sd.mp ((rate_iff hp hq hl hu).mpr r)) (h p q hp hq)
/-! ### three of four -/
theorem cf3_a {t1 n1 u1 m1 t2 n2 p q : Int} (hq : 1 ≤ q) (D0 : u1 < t1) (a : u1 ≥ t2) (X : 0 ≤ (n2 - m1 - 1) * (t1 - u1) + (n1 - m1 - 1) * (u1 - t2))
    (h1 : p * (u1 - t1) < (m1 + 1 - n1) * q) (h2 : p * (u1 - t2) < (m1 + 1 - n2) * q) : False := by
  have e1 : (n1 - m1 - 1) * q < p * (t1 - u1) := by
    have a1 : (n1 - m1 - 1) * q = -((m1 + 1 - n1) * q) := by grind
    have a2 : p * (t1 - u1) = -(p * (u1 - t1)) := by grind
    omega
  have g1 := Int.mul_le_mul_of_nonneg_right (Int.le_of_lt e1) (show 0 ≤ u1 - t2 by omega)
  have g2 := Int.mul_lt_mul_of_pos_right h2 (show 0 < t1 - u1 by omega)
  have g3 := Int.mul_nonneg X (show 0 ≤ q by omega)
  have b1 : p * (u1 - t2) * (t1 - u1) = p * (t1 - u1) * (u1 - t2) := by grind
  have b2 : (m1 + 1 - n2) * q * (t1 - u1) = -((n2 - m1 - 1) * (t1 - u1) * q) := by grind
  have b3 : (n1 - m1 - 1) * q * (u1 - t2) = (n1 - m1 - 1) * (u1 - t2) * q := by grind
  rw [Int.add_mul] at g3
  omega
theorem cf3_b {A D u1 m1 t2 n2 u2 m2 p q : Int} (hq : 1 ≤ q) (D0 : 0 < D) (a : u1 < t2) (hu : t2 < u2) (X : 0 ≤ (n2 - m1 - 1) * D + A * (u1 - t2)) (Y : 0 ≤ (n2 - m2 - 1) * D + A * (u2 - t2))
    (h1 : p * (u1 - t2) < (m1 + 1 - n2) * q) (h2 : p * (u2 - t2) < (m2 + 1 - n2) * q) : False := by
  have g1 := Int.mul_lt_mul_of_pos_right h1 D0
  have g2 := Int.mul_nonneg X (show 0 ≤ q by omega)
  have b1 : (m1 + 1 - n2) * q * D = -((n2 - m1 - 1) * D * q) := by grind
  have b2 : p * (u1 - t2) * D = -(p * D * (t2 - u1)) := by grind
  have b3 : A * (u1 - t2) * q = -(A * q * (t2 - u1)) := by grind
  rw [Int.add_mul] at g2
  have g3 : A * q * (t2 - u1) < p * D * (t2 - u1) := by omega
  have g4 : A * q < p * D := Int.lt_of_mul_lt_mul_right g3 (by omega)
  have g5 := Int.mul_lt_mul_of_pos_right g4 (show 0 < u2 - t2 by omega)
  have g6 := Int.mul_lt_mul_of_pos_right h2 D0
  have g7 := Int.mul_nonneg Y (show 0 ≤ q by omega)
  have b4 : (m2 + 1 - n2) * q * D = -((n2 - m2 - 1) * D * q) := by grind
  have b5 : p * (u2 - t2) * D = p * D * (u2 - t2) := by grind
  have b6 : A * (u2 - t2) * q = A * q * (u2 - t2) := by grind
  rw [Int.add_mul] at g7
  omega
theorem cf3_c {t1 n1 u1 m1 u2 m2 p q : Int} (hq : 1 ≤ q) (D0 : u1 < t1) (a : u2 ≥ t1) (X : 0 ≤ (n1 - m2 - 1) * (t1 - u1) + (n1 - m1 - 1) * (u2 - t1))
    (h1 : p * (u1 - t1) < (m1 + 1 - n1) * q) (h2 : p * (u2 - t1) < (m2 + 1 - n1) * q) : False := by
  have e1 : (n1 - m1 - 1) * q < p * (t1 - u1) := by
    have a1 : (n1 - m1 - 1) * q = -((m1 + 1 - n1) * q) := by grind
    have a2 : p * (t1 - u1) = -(p * (u1 - t1)) := by grind
    omega
  have g1 := Int.mul_le_mul_of_nonneg_right (Int.le_of_lt e1) (show 0 ≤ u2 - t1 by omega)
  have g2 := Int.mul_lt_mul_of_pos_right h2 (show 0 < t1 - u1 by omega)
  have g3 := Int.mul_nonneg X (show 0 ≤ q by omega)
  have b1 : p * (u2 - t1) * (t1 - u1) = p * (t1 - u1) * (u2 - t1) := by grind
  have b2 : (m2 + 1 - n1) * q * (t1 - u1) = -((n1 - m2 - 1) * (t1 - u1) * q) := by grind
  have b3 : (n1 - m1 - 1) * q * (u2 - t1) = (n1 - m1 - 1) * (u2 - t1) * q := by grind
  rw [Int.add_mul] at g3
  omega
theorem cf3_d {A D t1 n1 t2 n2 u2 m2 p q : Int} (hq : 1 ≤ q) (D0 : 0 < D) (a : u2 < t1) (hu : t2 < u2) (X : 0 ≤ (n1 - m2 - 1) * D + A * (u2 - t1)) (Y : 0 ≤ (n2 - m2 - 1) * D + A * (u2 - t2))
    (h1 : p * (u2 - t1) < (m2 + 1 - n1) * q) (h2 : p * (u2 - t2) < (m2 + 1 - n2) * q) : False := by
  have g1 := Int.mul_lt_mul_of_pos_right h1 D0
  have g2 := Int.mul_nonneg X (show 0 ≤ q by omega)
  have b1 : (m2 + 1 - n1) * q * D = -((n1 - m2 - 1) * D * q) := by grind
  have b2 : p * (u2 - t1) * D = -(p * D * (t1 - u2)) := by grind
  have b3 : A * (u2 - t1) * q = -(A * q * (t1 - u2)) := by grind
  rw [Int.add_mul] at g2
  have g3 : A * q * (t1 - u2) < p * D * (t1 - u2) := by omega
  have g4 : A * q < p * D := Int.lt_of_mul_lt_mul_right g3 (by omega)
  have g5 := Int.mul_lt_mul_of_pos_right g4 (show 0 < u2 - t2 by omega)
  have g6 := Int.mul_lt_mul_of_pos_right h2 D0
  have g7 := Int.mul_nonneg Y (show 0 ≤ q by omega)
  have b4 : (m2 + 1 - n2) * q * D = -((n2 - m2 - 1) * D * q) := by grind
  have b5 : p * (u2 - t2) * D = p * D * (u2 - t2) := by grind
  have b6 : A * (u2 - t2) * q = A * q * (u2 - t2) := by grind
  rw [Int.add_mul] at g7
  omega
theorem cf_four {d1 e1 d2 e2 : Rec} (ld1 : d1.lo = true) (le1 : e1.lo = false) (ld2 : d2.lo = true) (le2 : e2.lo = false) (h1 : e1.t < d1.t) (h2 : d2.t < e2.t)
    (c : (e2.n + 1 - d2.n) * (d1.t - e1.t) ≤ (d1.n - e1.n - 1) * (e2.t - d2.t)) : Cf [d1, e1, d2] ∨ Cf [d2, e1, e2] ∨ Cf [d1, e1, e2] ∨ Cf [d1, d2, e2] := by
  have Y : 0 ≤ (d2.n - e2.n - 1) * (d1.t - e1.t) + (d1.n - e1.n - 1) * (e2.t - d2.t) := by
    have b1 : (e2.n + 1 - d2.n) * (d1.t - e1.t) = -((d2.n - e2.n - 1) * (d1.t - e1.t)) := by grind
    omega
  have sum : ((d2.n - e1.n - 1) * (d1.t - e1.t) + (d1.n - e1.n - 1) * (e1.t - d2.t)) + ((d1.n - e2.n - 1) * (d1.t - e1.t) + (d1.n - e1.n - 1) * (e2.t - d1.t)) = (d2.n - e2.n - 1) * (d1.t - e1.t) + (d1.n - e1.n - 1) * (e2.t - d2.t) := by grind
  rcases Int.le_total 0 ((d2.n - e1.n - 1) * (d1.t - e1.t) + (d1.n - e1.n - 1) * (e1.t - d2.t)) with X | X
  · by_cases a : e1.t ≥ d2.t
    · refine .inl fun p q hp hq f => ?_
      exact cf3_a hq h1 a X (f d1 (by simp) e1 (by simp) ld1 le1) (f d2 (by simp) e1 (by simp) ld2 le1)
    · refine .inr (.inl fun p q hp hq f => ?_)
      exact cf3_b hq (show 0 < d1.t - e1.t by omega) (by omega) h2 X Y (f d2 (by simp) e1 (by simp) ld2 le1) (f d2 (by simp) e2 (by simp) ld2 le2)
  · have X : 0 ≤ (d1.n - e2.n - 1) * (d1.t - e1.t) + (d1.n - e1.n - 1) * (e2.t - d1.t) := by omega
    by_cases a : e2.t ≥ d1.t
    · refine .inr (.inr (.inl fun p q hp hq f => ?_))
      exact cf3_c hq h1 a X (f d1 (by simp) e1 (by simp) ld1 le1) (f d1 (by simp) e2 (by simp) ld1 le2)
    · refine .inr (.inr (.inr fun p q hp hq f => ?_))
      exact cf3_d hq (show 0 < d1.t - e1.t by omega) (by omega) h2 X Y (f d1 (by simp) e2 (by simp) ld1 le2) (f d2 (by simp) e2 (by simp) ld2 le2)
/-- records picked by their indexes -/
def pk (ds : List Rec) (js : List Nat) : List Rec := js.filterMap fun j => ds[j]?
theorem mem_pk {ds : List Rec} {js : List Nat} {d : Rec} : d ∈ pk ds js ↔ ∃ j, j ∈ js ∧ ds[j]? = some d := List.mem_filterMap
theorem pk_sub {ds : List Rec} {js is : List Nat} (h : ∀ j ∈ js, j ∈ is) : ∀ d ∈ pk ds js, d ∈ pk ds is := fun d hd => by
  obtain ⟨j, hj, e⟩ := mem_pk.mp hd
  exact mem_pk.mpr ⟨j, h j hj, e⟩
theorem pk_all {ds : List Rec} {js : List Nat} : ∀ d ∈ pk ds js, d ∈ ds := fun d hd => by
  obtain ⟨j, hj, e⟩ := mem_pk.mp hd
  exact List.mem_of_getElem? e
theorem pk_len {ds : List Rec} {js : List Nat} (h : ∀ j ∈ js, j < ds.length) : (pk ds js).length = js.length := by
  induction js with
  | nil => rfl
  | cons j r ih =>
    have hj := h j List.mem_cons_self
    have e : ds[j]? = some ds[j] := List.getElem?_eq_getElem hj
    show (List.filterMap _ (j :: r)).length = _
    rw [List.filterMap_cons, e]
    show ((pk ds r).length + 1) = _
    rw [ih fun k hk => h k (List.mem_cons_of_mem _ hk)]
    rfl
theorem pk_app {ds : List Rec} {js is : List Nat} : pk ds (js ++ is) = pk ds js ++ pk ds is := List.filterMap_append
theorem pk_one {ds : List Rec} {j : Nat} {d : Rec} (e : ds[j]? = some d) : pk ds [j] = [d] := by
  show List.filterMap _ [j] = _
  rw [List.filterMap_cons, e]
  rfl
theorem pk_at {ds : List Rec} {js : List Nat} (h : ∀ j ∈ js, j < ds.length) {i j : Nat} (e : js[i]? = some j) : (pk ds js)[i]? = ds[j]? := by
  induction js generalizing i with
  | nil => cases e
  | cons k r ih =>
    have hk := h k List.mem_cons_self
    have ek : ds[k]? = some ds[k] := List.getElem?_eq_getElem hk
    show (List.filterMap _ (k :: r))[i]? = _
    rw [List.filterMap_cons, ek]
    cases i with
    | zero =>
      cases e
      exact ek.symm
    | succ i => exact ih (fun x hx => h x (List.mem_cons_of_mem _ hx)) e
/-- a conflict none of whose records can be left out -/
structure Least (ds : List Rec) (js : List Nat) : Prop where
  up : js.Pairwise (· < ·)
  lt : ∀ j ∈ js, j < ds.length
  cf : Cf (pk ds js)
  mn : ∀ j ∈ js, ¬ Cf (pk ds (js.filter (· ≠ j)))
  le : js.length ≤ 3
theorem cf_two {ds : List Rec} (h : Cf ds) : ∃ d e, d ∈ ds ∧ e ∈ ds ∧ d.lo = true ∧ e.lo = false := by
  refine Classical.byContradiction fun n => h 0 1 (by omega) (by omega) fun d hd e he ld le => ?_
  exact absurd ⟨d, e, hd, he, ld, le⟩ n
theorem cf_len {ds : List Rec} (h : Cf ds) : 2 ≤ ds.length := by
  obtain ⟨d, e, hd, he, ld, le⟩ := cf_two h
  match ds, hd, he with
  | [a], hd, he =>
    rw [List.mem_singleton.mp hd] at ld
    rw [List.mem_singleton.mp he, ld] at le
    cases le
  | a :: b :: r, _, _ =>
    rw [List.length_cons, List.length_cons]
    omega
theorem Least.ge {ds : List Rec} {js : List Nat} (h : Least ds js) : 2 ≤ js.length := by
  have := cf_len h.cf
  rw [pk_len h.lt] at this
  exact this
/-- what conflicts within a least conflict is all of it -/
theorem Least.all {ds : List Rec} {js is : List Nat} (h : Least ds js) (s : ∀ i ∈ is, i ∈ js) (c : Cf (pk ds is)) : ∀ j ∈ js, j ∈ is := fun j hj => by
  refine Classical.byContradiction fun n => h.mn j hj (c.sub (pk_sub fun i hi => ?_))
  rw [List.mem_filter]
  exact ⟨s i hi, decide_eq_true fun e => n (e ▸ hi)⟩
theorem lo_at {ds : List Rec} {z : T4} (h : LoOk (SD ds) (some z)) : ∃ (i j : Nat) (d e : Rec), ds[i]? = some d ∧ ds[j]? = some e ∧ d.lo = true ∧ e.lo = false ∧ e.t < d.t ∧ z = (d.n - e.n - 1, d.t - e.t, (i : Int), (j : Int)) := by
  obtain ⟨⟨x, y, ⟨hx, hy⟩, g, rfl⟩, _⟩ := h
  obtain ⟨i, d, ei, ld, rfl⟩ := sel_mem hx
  obtain ⟨j, e, ej, le, rfl⟩ := sel_mem hy
  rw [Nat.zero_add, Nat.zero_add] at *
  exact ⟨i, j, d, e, ei, ej, ld, le, g, rfl⟩
theorem up_at {ds : List Rec} {z : T4} (h : UpOk (SD ds) (some z)) : ∃ (i j : Nat) (d e : Rec), ds[i]? = some d ∧ ds[j]? = some e ∧ d.lo = true ∧ e.lo = false ∧ ¬ e.t < d.t ∧ (d.t < e.t ∨ d.n > e.n) ∧ z.1 = e.n + 1 - d.n ∧ (d.t < e.t → z.2.1 = e.t - d.t) ∧ z.2.2 = ((i : Int), (j : Int)) := by
  obtain ⟨⟨x, y, ⟨hx, hy⟩, g, rfl⟩, _⟩ := h
  obtain ⟨i, d, ei, ld, rfl⟩ := sel_mem hx
  obtain ⟨j, e, ej, le, rfl⟩ := sel_mem hy
  rw [Nat.zero_add, Nat.zero_add] at *
  exact ⟨i, j, d, e, ei, ej, ld, le, g.1, g.2, rfl, fun c => bot_eq c, rfl⟩
end Lf
namespace Lf
open PySem PySem.Spec PyProof.Rows L2
/-! ### set(list of ints) -/
abbrev setE (w : World) : Obj := { cls := .type "set", dict := none, data := .set #[] 0 (.fresh 0 0 (!w.params.followText "set-order")) }
section
variable {P : Program} {w : World} {A : Around} {E : Value → Shared → Prop} {s : Shared}
set_option maxHeartbeats 4000000 in
theorem set_of_list {l : Addr} {its : Array Value} (ns : List Int) {Q : Value → Shared → Prop} (nh : A.handled = none) (hL : s.heap.IsList l its) (hI : IntsAre its.toList ns) (few : ns.length + 1 < scanBound)
    (q : ∀ (g : Heap) (t c : Nat), SetR w g s.heap.objs.size (fun j => decide (j ∈ ns)) c → c ≤ ns.length → (∀ b o, s.heap.get? b = some o → g.get? b = some o) → Q (.ref s.heap.objs.size) { s with heap := g, toks := t }) :
    wpAny (model P w) A (call (.type "set") [.ref l]) Q E s := by
  have sz : its.size = ns.length := by
    have z := IntsAre.length hI
    rwa [Array.length_toList] at z
  have cs := F.called_set
  obtain ⟨c0, t0, m0⟩ := cs.mro
  have k1 := cs.made
  have k2 := cs.sub
  have k3 := cs.notType
  have k4 := cs.canCreate
  have k5 := F.typeCall_set_1 (.ref l)
  refine wpAny_call (codeAny_of_tree ?_)
  show wpAny _ _ (callAny (.type "set") ⟨[.ref l], []⟩) _ _ _
  refine wpAny_pure ⟨Code.quiet_builtin _ (by decide +kernel), codeAny_builtin F.entry_type_call ?_⟩
  rw [Around.under_plain (weight_type_call_type "set" _ _) rfl]
  repeat (any_goals (first | assumption | wp_step))
  refine codeAny_mono (code_set_led1 (.ref l) (E := E) (Q₁ := fun x s₁ => x = .ref s.heap.objs.size ∧ s₁ = { s with heap := s.heap.push (setE w) }) ⟨rfl, rfl⟩) fun r s₁ e1 => ?_
  match r, e1 with
  | .error _, e1 => exact e1
  | .ok (.ret x), ⟨ex, es⟩ =>
    subst ex es
    have gS : (s.heap.push (setE w)).get? s.heap.objs.size = some (setE w) := Heap.get?_push_size _ rfl
    have tS : Shared.TypeIs { s with heap := s.heap.push (setE w) } (.ref s.heap.objs.size) "set" := ⟨_, gS, rfl⟩
    have k6 := cs.init.lookup
    have k7 := cs.init.bind (.ref s.heap.objs.size)
    repeat (any_goals (first | assumption | wp_step))
    refine codeAny_mono (codeAny_call_builtin (R := wants (fun r s₂ => r = .none ∧ ∃ g t c, s₂ = { s with heap := g, toks := t } ∧ SetR w g s.heap.objs.size (fun j => decide (j ∈ ns)) c ∧ c ≤ ns.length ∧ (∀ b o, s.heap.get? b = some o → g.get? b = some o)) E)
      cs.init.plain F.entry_set_init (check_set_init_1 tS ?_)) fun r2 s2 e2 => ?_
    · obtain ⟨⟨xc, xd, xv, xs⟩, gL, ec, n, ed⟩ := hL
      have ec : xc = _ := ec
      have ed : xv = _ := ed
      subst ec ed
      have gL1 := Heap.get?_push_of_some (setE w) gL
      have j1 := F.sub_list_set
      have j2 := F.sub_list_frozenset
      have j3 : (Value.type "list" == Value.type "dict") = false := by decide
      have hL1 : (s.heap.push (setE w)).IsList l its := ⟨_, gL1, rfl, n, rfl⟩
      unfold Builtin.«set.__init__» noKeywords Builtin.Frozenset.updateFrom
      generalize hPI : pyIter = PI
      wp_walk
      subst hPI
      refine wpAny_pyIter_list hL1 (wpAny_bind (wpAny_runValue ?_))
      have lt0 : l < s.heap.objs.size := Heap.lt_size gL
      have zz : (s.heap.push (setE w)).objs.size = s.heap.objs.size + 1 := Heap.size_push ..
      have nI : l ≠ (s.heap.push (setE w)).objs.size := by
        rw [zz]
        exact Nat.ne_of_lt (Nat.lt_succ_of_lt lt0)
      have out : s.heap.objs.size ∉ [(s.heap.push (setE w)).objs.size, l] := by
        rw [zz]
        intro z
        rcases List.mem_cons.mp z with z | z
        · exact Nat.ne_of_lt (Nat.lt_succ_self _) z
        · exact Nat.ne_of_gt lt0 (List.mem_singleton.mp z)
      have val : ∀ (i : Nat) (v : Value), its[i]? = some v → ∃ k t, ns[i]? = some k ∧ v = .int k t := by
        intro i v hv
        have hi : i < ns.length := by
          rw [← sz]
          exact (Array.getElem?_eq_some_iff.mp hv).1
        obtain ⟨t, e⟩ := IntsAre.int_at hI i v (by rwa [Array.getElem?_toList])
        refine ⟨_, t, List.getElem?_eq_getElem hi, ?_⟩
        rw [e, List.getD_eq_getElem?_getD, List.getElem?_eq_getElem hi]
        rfl
      have nh3 : A.in1.in1.in1.handled = none := by simp [nh]
      refine set_update_ints (Walks.list nh3 _ l nI its).toS s.heap.objs.size out ns sz few val its.size 0 _ rfl (Nat.zero_le _) ⟨⟨_, Heap.get?_push_size _ rfl, rfl, rfl⟩, hL1.push _⟩ ⟨0, Nat.le_refl 0, setR_new_at (Heap.get?_push_of_some _ gS)⟩ ?_
      rintro ⟨g, g2, d2, t2, o2⟩ c hm hc hR
      have a1 : g2 = s.gens := hm.gens
      have a2 : d2 = s.drawn := hm.drawn
      have a3 : o2 = s.os := hm.os
      subst a1 a2 a3
      show wpAny _ _ _ _ _ _
      refine wpAny_pure ?_
      show wpAny _ _ (ret Value.none) _ _ _
      rw [sz] at hc
      refine wpAny_pure ⟨rfl, g, t2, c, rfl, hR, hc, fun b o e => hm.heap b o (fun z => ?_) (Heap.get?_push_of_some _ (Heap.get?_push_of_some _ e))⟩
      have bl := Heap.lt_size e
      rw [zz] at z
      rcases List.mem_cons.mp z with z | z
      · exact Nat.ne_of_lt bl z
      · exact Nat.ne_of_lt (Nat.lt_succ_of_lt bl) (List.mem_singleton.mp z)
    · match r2, e2 with
      | .error _, e2 => exact e2
      | .ok (.ret x), ⟨ex, g, t, c, es, b1, b2, b3⟩ =>
        subst ex es
        repeat (any_goals (first | assumption | wp_step))
        exact q _ _ _ b1 b2 b3
end
def rSetL (K : PySem.W.Frag) (w : World) : List V → Hp → VK → Prop := fun xs H Q => ∃ (a : Addr) (ns : List Int), xs = [.ref a] ∧ SqL K H a (ns.map V.int) ∧ ns.length ≤ 1000 ∧ ∀ p c, H p = none → c ≤ ns.length → Q (.ref p) (upd H p (SetO w p (fun j => decide (j ∈ ns)) c))
theorem cr_setL {X : Cx} (hc : X.calm = true) : CallR X (.type "set") (rSetL X.K X.w) := by
  intro pins s σ H xs us Q I r h
  obtain ⟨a, ns, rfl, hs, hl, q⟩ := h
  rw [Vals.ref1 r]
  obtain ⟨its, rv, pl, hz⟩ := I.list hs
  refine set_of_list ns (I.ok.hd hc) pl.isList (ints_of_vals rv) (by unfold scanBound; omega) fun g t c R cl kp => ?_
  exact ⟨.ref _, _, I.laid (t' := t) kp (Nat.le_refl _) (setO_new R), rfl, q _ c (I.hok.fresh (Nat.le_refl _)) cl⟩
/-! ### two clauses of a comprehension -/
theorem lc2_in {J1 : It} {n : Nat} {G : Hp → Prop} {Y : Nat → Hp → V → Hp → Prop} (w : Walk J1 n G Y) {g1 : TG} {tt1 : TT} {te : TE} {vs1 : List Nat} {σ2 : L2.St} {H4 : Hp} {D : Addr} {Nx : Hp → Prop} (Pv : Nat → Hp → Prop) (h0 : Pv 0 H4) (hG : ∀ i H, i ≤ n → Pv i H → G H)
    (hs : ∀ i x H H', i < n → Pv i H → Y i H x H' → g1 x (wipe σ2 vs1) H' fun σ3 H5 => wipe σ3 vs1 = wipe σ2 vs1 ∧ tt1 σ3 H5 fun b H6 =>
      if b = true then te σ3 H6 fun y H7 => ∃ acc, H7 D = some (.lst acc) ∧ acc.length < sizeLine ∧ Pv (i + 1) (upd H7 D (.lst (acc ++ [y]))) else Pv (i + 1) H6) (hd : ∀ H, Pv n H → Nx H) :
    ∃ W1 : Nat → Nat → Hp → Prop, (∃ m, W1 0 m H4) ∧ ∀ j k H, W1 j k H →
      (J1.stop j H ∧ Nx H) ∨ (J1.go j H ∧ ∃ Nx1 : Hp → Prop, (∀ H', Nx1 H' → ∃ k', k' < k ∧ W1 (j + 1) k' H') ∧ ∀ x H', J1.yld j H x H' → g1 x (wipe σ2 vs1) H' fun σ3 H5 => wipe σ3 vs1 = wipe σ2 vs1 ∧ tt1 σ3 H5 fun b H6 =>
        if b = true then te σ3 H6 fun y H7 => ∃ acc, H7 D = some (.lst acc) ∧ acc.length < sizeLine ∧ Nx1 (upd H7 D (.lst (acc ++ [y]))) else Nx1 H6) := by
  refine ⟨fun i m H => m = n - i ∧ i ≤ n ∧ Pv i H, ⟨n, rfl, Nat.zero_le _, h0⟩, ?_⟩
  rintro i m H ⟨em, hi, p⟩
  have q := hG i H hi p
  rcases Nat.lt_or_ge i n with lt | ge
  · refine .inr ⟨w.goes i H lt q, Pv (i + 1), fun H' p' => ⟨n - (i + 1), by omega, rfl, lt, p'⟩, fun x H' y => hs i x H H' lt p (w.yields i H x H' lt q y)⟩
  · obtain rfl : i = n := by omega
    exact .inl ⟨w.stops H q, hd H p⟩
/-- the outer one: hs gives the inner one's own loop, from which Pv (i + 1) is reached -/
theorem lc2_out {J : It} {n : Nat} {G : Hp → Prop} {Y : Nat → Hp → V → Hp → Prop} (w : Walk J n G Y) {H1 : Hp} {D : Addr} {Qd : Hp → Prop} {B : V → Hp → (Hp → Prop) → Prop} (Pv : Nat → Hp → Prop) (h0 : Pv 0 (upd H1 D (.lst []))) (hG : ∀ i H, i ≤ n → Pv i H → G H)
    (hs : ∀ i x H H', i < n → Pv i H → Y i H x H' → B x H' (Pv (i + 1))) (hd : ∀ H, Pv n H → Qd H) :
    ∃ W : Nat → Nat → Hp → Prop, (∃ m, W 0 m (upd H1 D (.lst []))) ∧ ∀ i m H, W i m H →
      (J.stop i H ∧ Qd H) ∨ (J.go i H ∧ ∃ Nx : Hp → Prop, (∀ H', Nx H' → ∃ m', m' < m ∧ W (i + 1) m' H') ∧ ∀ x H', J.yld i H x H' → B x H' Nx) := by
  refine ⟨fun i m H => m = n - i ∧ i ≤ n ∧ Pv i H, ⟨n, rfl, Nat.zero_le _, h0⟩, ?_⟩
  rintro i m H ⟨em, hi, p⟩
  have q := hG i H hi p
  rcases Nat.lt_or_ge i n with lt | ge
  · refine .inr ⟨w.goes i H lt q, Pv (i + 1), fun H' p' => ⟨n - (i + 1), by omega, rfl, lt, p'⟩, fun x H' y => hs i x H H' lt p (w.yields i H x H' lt q y)⟩
  · obtain rfl : i = n := by omega
    exact .inl ⟨w.stops H q, hd H p⟩
/-! ### an item of a list or a tuple -/
def rIxB (K : PySem.W.Frag) : R2 := fun x y H Q => ∃ p b xs i v, x = .ref p ∧ y = .int i ∧ SqB K b H p xs ∧ atI xs i = some v ∧ Q v H
theorem ix_B {X : Cx} : IxR X (rIxB X.K) := by
  intro value slice pins s σ H x y v u Q I rx ry h hs
  obtain ⟨p, b, xs, i, z, h1, h2, h3, h4, q⟩ := h
  cases b with
  | true => exact ix_list value slice pins s σ H x y v u Q I rx ry ⟨p, xs, i, z, h1, h2, h3, h4, q⟩ hs
  | false => exact ix_tup value slice pins s σ H x y v u Q I rx ry ⟨p, xs, i, z, h1, h2, h3, h4, q⟩ hs
end Lf
namespace Lf
open PySem PySem.Spec PyProof.Rows L2
/-! ### lists of the very same items, or of other lengths -/
def SmI (xs : List V) : Prop := ∀ z ∈ xs, flatB z = true ∨ ∃ c, z = .ref c
def rNeS (K : PySem.W.Frag) : R2 := fun x y H Q => ∃ a b xs ys, x = .ref a ∧ y = .ref b ∧ SqL K H a xs ∧ SqL K H b ys ∧ ((xs.length ≠ ys.length ∧ Q (.bl true) H) ∨ (xs = ys ∧ SmI xs ∧ Q (.bl false) H))
def rEqS (K : PySem.W.Frag) : R2 := fun x y H Q => ∃ a b xs ys, x = .ref a ∧ y = .ref b ∧ SqL K H a xs ∧ SqL K H b ys ∧ ((xs.length ≠ ys.length ∧ Q (.bl false) H) ∨ (xs = ys ∧ SmI xs ∧ Q (.bl true) H))
theorem smI_at {A : Around} {s : Shared} {xs : List V} : ∀ {us ws : List Value}, SmI xs → Vals xs us → Vals xs ws → ∀ j (h1 : j < us.length) (h2 : j < ws.length), SeqAt.EqAt A s us[j] ws[j] true := by
  induction xs with
  | nil =>
    intro us ws _ r1 r2 j h1 _
    cases r1
    exact absurd h1 (Nat.not_lt_zero j)
  | cons x xs ih =>
    intro us ws hs r1 r2 j h1 h2
    cases r1 with
    | cons a1 b1 =>
      cases r2 with
      | cons a2 b2 =>
        cases j with
        | zero =>
          rcases hs x List.mem_cons_self with f | ⟨c, rfl⟩
          · exact eqAt_same a1 a2 f
          · cases a1
            cases a2
            exact SeqAt.EqAt.same _
        | succ j => exact ih (fun z hz => hs z (List.mem_cons_of_mem _ hz)) b1 b2 j (Nat.lt_of_succ_lt_succ h1) (Nat.lt_of_succ_lt_succ h2)
section
variable {X : Cx}
theorem op_neS (hu : X.A.units + 64 < cLine) : OpR X (compareOp .NotEq) (rNeS X.K) := by
  intro pins s σ H x y v u Q I rx ry h
  obtain ⟨a, b, xs, ys, rfl, rfl, ha, hb, h⟩ := h
  cases rx
  cases ry
  obtain ⟨us, r1, p1, _⟩ := I.list ha
  obtain ⟨ws, r2, p2, _⟩ := I.list hb
  have l1 := r1.length
  have l2 := r2.length
  rcases h with ⟨hne, q⟩ | ⟨rfl, hs, q⟩
  · exact SeqAt.RcNeAt.lists_lengths p1.isList p2.isList (by rw [bne_iff_ne, List.size_toArray, List.size_toArray]; omega) (by omega) _ _ _ _ ⟨.bl true, H, I, rfl, q⟩
  · have hsz : us.toArray.size = ws.toArray.size := by rw [List.size_toArray, List.size_toArray]; omega
    have R := SeqAt.RcNeAt.lists (e := fun _ => true) p1.isList p2.isList hsz (show X.A.units < cLine by omega) (fun j h1 h2 => by
      have := smI_at (A := X.A.in1) (s := s) hs r1 r2 j (by simpa using h1) (by simpa using h2)
      simpa using this)
    rw [show ((List.range us.toArray.size).all fun _ => true) = true from List.all_eq_true.mpr fun _ _ => rfl] at R
    exact R _ _ _ _ ⟨.bl false, H, I, rfl, q⟩
theorem op_eqS (hu : X.A.units + 64 < cLine) : OpR X (compareOp .Eq) (rEqS X.K) := by
  intro pins s σ H x y v u Q I rx ry h
  obtain ⟨a, b, xs, ys, rfl, rfl, ha, hb, h⟩ := h
  cases rx
  cases ry
  obtain ⟨us, r1, p1, _⟩ := I.list ha
  obtain ⟨ws, r2, p2, _⟩ := I.list hb
  have l1 := r1.length
  have l2 := r2.length
  rcases h with ⟨hne, q⟩ | ⟨rfl, hs, q⟩
  · exact SeqAt.RcAt.lists_lengths p1.isList p2.isList (by rw [bne_iff_ne, List.size_toArray, List.size_toArray]; omega) (by omega) _ _ _ _ ⟨.bl false, H, I, rfl, q⟩
  · have hsz : us.toArray.size = ws.toArray.size := by rw [List.size_toArray, List.size_toArray]; omega
    have R := SeqAt.RcAt.lists (e := fun _ => true) p1.isList p2.isList hsz (show X.A.units < cLine by omega) (fun j h1 h2 => by
      have := smI_at (A := X.A.in1) (s := s) hs r1 r2 j (by simpa using h1) (by simpa using h2)
      simpa using this)
    rw [show ((List.range us.toArray.size).all fun _ => true) = true from List.all_eq_true.mpr fun _ _ => rfl] at R
    exact R _ _ _ _ ⟨.bl true, H, I, rfl, q⟩
end
end Lf
namespace Lf
open PySem PySem.Spec PyProof.Rows L2
def ni (js : List Nat) : List Int := js.map fun j => ((j : Nat) : Int)
theorem ni_len (js : List Nat) : (ni js).length = js.length := List.length_map ..
theorem nodup_le {l m : List Nat} (h : l.Nodup) (s : ∀ x ∈ l, x ∈ m) : l.length ≤ m.length := by
  induction l generalizing m with
  | nil => exact Nat.zero_le _
  | cons x r ih =>
    have hx := s x List.mem_cons_self
    have h2 := List.nodup_cons.mp h
    have := ih (m := m.erase x) h2.2 fun y hy => (List.mem_erase_of_ne (a := y) (b := x) fun e => h2.1 (by rw [← e]; exact hy)).mpr (s y (List.mem_cons_of_mem _ hy))
    rw [List.length_erase_of_mem hx] at this
    have := List.length_pos_of_mem hx
    rw [List.length_cons]
    omega
theorem up_nodup {js : List Nat} (h : js.Pairwise (· < ·)) : js.Nodup := h.imp fun z => Nat.ne_of_lt z
/-- three that conflict, beside a fourth: not all four are needed -/
theorem le_three {ds : List Rec} {cur : List Nat} (nd : cur.Nodup) (mn : ∀ j ∈ cur, ¬ Cf (pk ds (cur.filter (· ≠ j)))) {a b c z : Nat} {da db dc : Rec} (ha : ds[a]? = some da) (hb : ds[b]? = some db) (hc : ds[c]? = some dc) (s : ∀ x ∈ cur, x = a ∨ x = b ∨ x = c ∨ x = z) (h : Cf [da, db, dc]) : cur.length ≤ 3 := by
  refine Classical.byContradiction fun n => ?_
  have big : ∀ (u v t : Nat), ¬ ∀ x ∈ cur, x ∈ [u, v, t] := fun u v t g => n (nodup_le nd g)
  have hz : z ∈ cur := Classical.byContradiction fun g => big a b c fun x hx => by
    rcases s x hx with e | e | e | e
    · simp [e]
    · simp [e]
    · simp [e]
    · exact absurd (e ▸ hx) g
  have inn : ∀ y, (∀ x ∈ cur, x = y ∨ x ∈ [a, b, c, z]) → (y = a ∨ y = b ∨ y = c) → y ∈ cur.filter (· ≠ z) := fun y _ hy => by
    rw [List.mem_filter]
    refine ⟨Classical.byContradiction fun g => ?_, decide_eq_true fun e => ?_⟩
    · rcases hy with rfl | rfl | rfl
      · exact big b c z fun x hx => by
          rcases s x hx with e | e | e | e
          · exact absurd (e ▸ hx) g
          · simp [e]
          · simp [e]
          · simp [e]
      · exact big a c z fun x hx => by
          rcases s x hx with e | e | e | e
          · simp [e]
          · exact absurd (e ▸ hx) g
          · simp [e]
          · simp [e]
      · exact big a b z fun x hx => by
          rcases s x hx with e | e | e | e
          · simp [e]
          · simp [e]
          · exact absurd (e ▸ hx) g
          · simp [e]
    · refine big a b c fun x hx => ?_
      rcases s x hx with e' | e' | e' | e'
      · simp [e']
      · simp [e']
      · simp [e']
      · rw [e', ← e]
        rcases hy with rfl | rfl | rfl <;> simp
  have all : ∀ y, (y = a ∨ y = b ∨ y = c) → y ∈ cur.filter (· ≠ z) := fun y hy => inn y (fun x hx => .inr (by rcases s x hx with e | e | e | e <;> simp [e])) hy
  refine mn z hz (h.sub fun d hd => ?_)
  simp only [List.mem_cons, List.not_mem_nil, or_false] at hd
  rcases hd with rfl | rfl | rfl
  · exact mem_pk.mpr ⟨a, all a (.inl rfl), ha⟩
  · exact mem_pk.mpr ⟨b, all b (.inr (.inl rfl)), hb⟩
  · exact mem_pk.mpr ⟨c, all c (.inr (.inr rfl)), hc⟩
/-- the indexes of a pair -/
def cb : Option T4 → List Int
  | none => []
  | some z => [z.2.2.1, z.2.2.2]
theorem cb_nat {ds : List Rec} {lo up : Option T4} (hl : LoOk (SD ds) lo) (hu : UpOk (SD ds) up) : ∀ x ∈ cb lo ++ cb up, ∃ j : Nat, x = (j : Int) ∧ j < ds.length := by
  intro x hx
  rcases List.mem_append.mp hx with h | h
  · cases lo with
    | none => cases h
    | some z =>
      obtain ⟨i, j, d, e, ei, ej, _, _, _, rfl⟩ := lo_at hl
      simp only [cb, List.mem_cons, List.not_mem_nil, or_false] at h
      rcases h with rfl | rfl
      · exact ⟨i, rfl, (List.getElem?_eq_some_iff.mp ei).1⟩
      · exact ⟨j, rfl, (List.getElem?_eq_some_iff.mp ej).1⟩
  · cases up with
    | none => cases h
    | some z =>
      obtain ⟨i, j, d, e, ei, ej, _, _, _, _, _, _, e3⟩ := up_at hu
      simp only [cb, e3, List.mem_cons, List.not_mem_nil, or_false] at h
      rcases h with rfl | rfl
      · exact ⟨i, rfl, (List.getElem?_eq_some_iff.mp ei).1⟩
      · exact ⟨j, rfl, (List.getElem?_eq_some_iff.mp ej).1⟩
/-- the records of the tightest pairs conflict -/
theorem cb_cf {ds : List Rec} {lo up : Option T4} {js : List Nat} (hl : LoOk (SD ds) lo) (hu : UpOk (SD ds) up) (hn : nr lo up = true) (hj : ∀ x ∈ cb lo ++ cb up, ∃ j ∈ js, x = ((j : Nat) : Int)) : Cf (pk ds js) := by
  intro p q hp hq f
  have at_ : ∀ {i : Nat} {d : Rec}, ((i : Nat) : Int) ∈ cb lo ++ cb up → ds[i]? = some d → d ∈ pk ds js := fun {i d} h e => by
    obtain ⟨j, h1, h2⟩ := hj _ h
    have : i = j := by omega
    exact mem_pk.mpr ⟨j, h1, this ▸ e⟩
  refine nr_none hp hq hl hu hn ⟨fun z ez => ?_, fun z ez => ?_⟩
  · subst ez
    obtain ⟨i, j, d, e, ei, ej, ld, le, g, rfl⟩ := lo_at hl
    have := f d (at_ (by simp [cb]) ei) e (at_ (by simp [cb]) ej) ld le
    show (d.n - e.n - 1) * q < p * (d.t - e.t)
    have a1 : (d.n - e.n - 1) * q = -((e.n + 1 - d.n) * q) := by grind
    have a2 : p * (d.t - e.t) = -(p * (e.t - d.t)) := by grind
    omega
  · subst ez
    obtain ⟨i, j, d, e, ei, ej, ld, le, g1, g2, e1, e2, e3⟩ := up_at hu
    have h := f d (at_ (by simp [cb, e3]) ei) e (at_ (by simp [cb, e3]) ej) ld le
    rw [e1]
    by_cases c : d.t < e.t
    · rw [e2 c]
      exact h
    · have e0 : e.t - d.t = 0 := by omega
      rw [e0, Int.mul_zero] at h
      have := pos_of_mul h (by omega)
      omega
theorem cb_le {ds : List Rec} {lo up : Option T4} {cur : List Nat} (hl : LoOk (SD ds) lo) (hu : UpOk (SD ds) up) (hn : nr lo up = true) (nd : cur.Nodup) (mn : ∀ j ∈ cur, ¬ Cf (pk ds (cur.filter (· ≠ j)))) (s : ∀ j ∈ cur, ((j : Nat) : Int) ∈ cb lo ++ cb up) : cur.length ≤ 3 := by
  cases up with
  | none => cases lo <;> cases hn
  | some z =>
    obtain ⟨i2, j2, d2, e2, ei2, ej2, ld2, le2, g1, g2, z1, z2, z3⟩ := up_at hu
    cases lo with
    | none =>
      refine Nat.le_trans (nodup_le (m := [i2, j2]) nd fun x hx => ?_) (by simp)
      have := s x hx
      simp only [cb, z3, List.nil_append, List.mem_cons, List.not_mem_nil, or_false] at this
      simp only [List.mem_cons, List.not_mem_nil, or_false]
      omega
    | some l =>
      obtain ⟨i1, j1, d1, e1, ei1, ej1, ld1, le1, g, rfl⟩ := lo_at hl
      have s' : ∀ x ∈ cur, x = i1 ∨ x = j1 ∨ x = i2 ∨ x = j2 := fun x hx => by
        have := s x hx
        simp only [cb, z3, List.cons_append, List.nil_append, List.mem_cons, List.not_mem_nil, or_false] at this
        omega
      have pair : z.1 ≤ 0 → Cf [d2, e2] := fun c p q hp hq f => by
        have h := f d2 (by simp) e2 (by simp) ld2 le2
        rw [← z1] at h
        have := Int.mul_nonneg hp (show 0 ≤ e2.t - d2.t by omega)
        have := Int.mul_le_mul_of_nonneg_right c (show 0 ≤ q by omega)
        rw [Int.zero_mul] at this
        omega
      have hn : (decide (z.1 ≤ 0) || decide (z.1 * (d1.t - e1.t) ≤ (d1.n - e1.n - 1) * z.2.1)) = true := hn
      by_cases c : z.1 ≤ 0
      · exact le_three nd mn (a := i2) (b := j2) (c := i1) (z := j1) ei2 ej2 ei1 (fun x hx => by have := s' x hx; omega) ((pair c).sub fun d hd => by
          simp only [List.mem_cons, List.not_mem_nil, or_false] at hd ⊢
          rcases hd with rfl | rfl
          · exact .inl rfl
          · exact .inr (.inl rfl))
      · rw [decide_eq_false c, Bool.false_or] at hn
        have hn := of_decide_eq_true hn
        have lt : d2.t < e2.t := by omega
        rw [z2 lt, z1] at hn
        rcases cf_four ld1 le1 ld2 le2 g lt hn with h | h | h | h
        · exact le_three nd mn (a := i1) (b := j1) (c := i2) (z := j2) ei1 ej1 ei2 (fun x hx => by have := s' x hx; omega) h
        · exact le_three nd mn (a := i2) (b := j1) (c := j2) (z := i1) ei2 ej1 ej2 (fun x hx => by have := s' x hx; omega) h
        · exact le_three nd mn (a := i1) (b := j1) (c := j2) (z := i2) ei1 ej1 ej2 (fun x hx => by have := s' x hx; omega) h
        · exact le_three nd mn (a := i1) (b := i2) (c := j2) (z := j1) ei1 ei2 ej2 (fun x hx => by have := s' x hx; omega) h
theorem Same.nf {H H' : Hp} (s : Same H H') {F : Addr} (n : H' F = none) : H F = none := by
  cases e : H F with
  | none => rfl
  | some o =>
    rw [s _ _ e] at n
    cases n
/-- what find_conflict gives -/
inductive FcR (H H' : Hp) (ds : List Rec) : V → Prop
  | no : ¬ Cf ds → FcR H H' ds .non
  | yes {F : Addr} {js : List Nat} : H F = none → H' F = some (.lst ((ni js).map V.int)) → Least ds js → FcR H H' ds (.ref F)
def spFind (m : Nat) : Sp := fun vs H Q _ => ∃ (L : Addr) (kb : Bool) (xs : List V) (ds : List Rec) (k : Nat), vs = [.ref L] ∧ H L = some (sqO kb xs) ∧ Obs rcO H xs ds ∧ ds.length ≤ m ∧ RcB k ds ∧ 0 < k ∧ k ≤ 8000 ∧ ∀ v H', Same H H' → FcR H H' ds v → Q v H'
end Lf
namespace Lf
open PySem PySem.Spec PyProof.Rows L2
theorem ni_mem {js : List Nat} {x : Int} : x ∈ ni js ↔ ∃ j ∈ js, x = ((j : Nat) : Int) := by
  unfold ni
  rw [List.mem_map]
  exact ⟨fun ⟨j, h, e⟩ => ⟨j, h, e.symm⟩, fun ⟨j, h, e⟩ => ⟨j, h, e.symm⟩⟩
/-- ascending ints that are all indexes -/
theorem ni_of {ns : List Int} {n : Nat} (h : ns.Pairwise (· < ·)) (s : ∀ x ∈ ns, ∃ j : Nat, x = (j : Int) ∧ j < n) : ∃ js : List Nat, ns = ni js ∧ js.Pairwise (· < ·) ∧ ∀ j ∈ js, j < n := by
  induction ns with
  | nil => exact ⟨[], rfl, .nil, fun _ z => (nomatch z)⟩
  | cons x r ih =>
    obtain ⟨h1, h2⟩ := List.pairwise_cons.mp h
    obtain ⟨js, e, u, l⟩ := ih h2 fun y hy => s y (List.mem_cons_of_mem _ hy)
    obtain ⟨j, ej, lj⟩ := s x List.mem_cons_self
    refine ⟨j :: js, by rw [e, ej]; rfl, List.pairwise_cons.mpr ⟨fun i hi => ?_, u⟩, fun i hi => ?_⟩
    · have := h1 (i : Int) (by rw [e]; exact ni_mem.mpr ⟨i, hi, rfl⟩)
      omega
    · rcases List.mem_cons.mp hi with rfl | hi
      · exact lj
      · exact l i hi
theorem ni_at {js : List Nat} {i : Nat} {x : V} (h : ((ni js).map V.int)[i]? = some x) : ∃ j, js[i]? = some j ∧ x = .int ((j : Nat) : Int) := by
  unfold ni at h
  rw [List.map_map, List.getElem?_map] at h
  cases e : js[i]? with
  | none =>
    rw [e] at h
    cases h
  | some j =>
    rw [e] at h
    cases h
    exact ⟨j, rfl, rfl⟩
theorem filt_snoc {js : List Nat} {f : Nat → Bool} {i j : Nat} (e : js[i]? = some j) : (js.take (i + 1)).filter f = (js.take i).filter f ++ (if f j = true then [j] else []) := by
  rw [List.take_add_one, e, List.filter_append]
  congr 1
  show List.filter f [j] = _
  cases h : f j with
  | true => simp [h]
  | false => simp [h]
theorem ni_app (a b : List Nat) : ni (a ++ b) = ni a ++ ni b := List.map_append
theorem pk_snoc {ds : List Rec} {js : List Nat} {i j : Nat} {d : Rec} (e : js[i]? = some j) (ed : ds[j]? = some d) : pk ds (js.take (i + 1)) = pk ds (js.take i) ++ [d] := by
  rw [List.take_add_one, e, pk_app]
  congr 1
  exact pk_one ed
theorem pk_le {ds : List Rec} (js : List Nat) : (pk ds js).length ≤ js.length := List.length_filterMap_le ..
theorem pk_bd {k : Nat} {ds : List Rec} (h : RcB k ds) (js : List Nat) : RcB k (pk ds js) := fun d hd => h d (pk_all d hd)
section
variable {P : Program} {w : World} {K : PySem.W.Frag} {mg : Str → Option Value} {base : Heap}
end
end Lf
namespace Lf
open PySem PySem.Spec PyProof.Rows L2
/-! ### sorted(xs), a list of pairs of ints -/
abbrev ptO (x : Int × Int) : HO := .tup [.int x.1, .int x.2]
abbrev AP := Addr × (Int × Int)
def refP (ts : List AP) : List V := ts.map fun e => V.ref e.1
def lexL (x y : Int × Int) : Prop := x.1 < y.1 ∨ (x.1 = y.1 ∧ x.2 ≤ y.2)
instance (x y : Int × Int) : Decidable (lexL x y) := by unfold lexL; infer_instance
def rSortP (K : PySem.W.Frag) : List V → Hp → VK → Prop := fun vs H Q => ∃ (a : Addr) (xs : List V) (cs : List (Int × Int)), vs = [V.ref a] ∧ SqL K H a xs ∧ Obs ptO H xs cs ∧
  ∀ us es p, Obs ptO H us es → es.Perm cs → es.Pairwise lexL → H p = none → Q (.ref p) (upd H p (.lst us))
theorem obs_refP {H : Hp} : ∀ {xs : List V} {ds : List (Int × Int)}, Obs ptO H xs ds → ∃ ts : List AP, xs = refP ts ∧ ds = ts.map (·.2) ∧ ∀ e ∈ ts, H e.1 = some (ptO e.2)
  | _, _, .nil => ⟨[], rfl, rfl, fun _ h => (nomatch h)⟩
  | _, _, .cons (r := r) (d := d) e o => by
    obtain ⟨ts, h1, h2, h3⟩ := obs_refP o
    refine ⟨(r, d) :: ts, by rw [h1]; rfl, by rw [h2]; rfl, fun x hx => ?_⟩
    rcases List.mem_cons.mp hx with rfl | hx
    · exact e
    · exact h3 x hx
theorem refP_obs {H : Hp} : ∀ (ts : List AP), (∀ e ∈ ts, H e.1 = some (ptO e.2)) → Obs ptO H (refP ts) (ts.map (·.2))
  | [], _ => .nil
  | e :: ts, h => .cons (h e List.mem_cons_self) (refP_obs ts fun x hx => h x (List.mem_cons_of_mem _ hx))
theorem each_refP : ∀ {us : List Value} {ts : List AP}, Vals (refP ts) us → PySem.W.EachIs (fun v (e : AP) => v = Value.ref e.1) us ts
  | _, [], .nil => .nil
  | _, _ :: _, .cons r t => .cons r (each_refP t)
theorem vals_refP : ∀ {us : List Value} {ts : List AP}, PySem.W.EachIs (fun v (e : AP) => v = Value.ref e.1) us ts → Vals (refP ts) us
  | _, _, .nil => .nil
  | _, _, .cons r t => .cons r (vals_refP t)
theorem cr_sortP {X : Cx} (hu : X.A.units + 64 < cLine) : CallR X (.builtin "sorted") (rSortP X.K) := by
  intro pins s σ H vs us Q I r h
  obtain ⟨a, xs, cs, rfl, hs, ho, q⟩ := h
  obtain ⟨ts, rfl, rfl, hx⟩ := obs_refP ho
  obtain ⟨its, rv, hl, hz⟩ := I.list hs
  rw [Vals.ref1 r]
  have e := each_refP rv
  have er : PySem.W.EachIs (fun v (e : AP) => ∃ as, Reads s.heap v (PyData.tuple [.int e.2.1, .int e.2.2]) as) its ts := (PySem.W.each_mem e).mono fun v b ⟨hv, hb⟩ => by
    obtain ⟨as, rd⟩ := Dp.reads I (PyData.tuple [.int b.2.1, .int b.2.2]) (.ref b.1) v (Dp.tup (SqT.of (hx b hb)) (.cons (.int _) (.cons (.int _) .nil))) (by rw [hv]; rfl)
    exact ⟨as, rd⟩
  have hlen : ts.length ≤ sizeLine := by
    unfold refP at hz
    rw [List.length_map] at hz
    exact hz
  refine PySem.W.sorted_data (bs := ts) (enc := fun e : AP => PyData.tuple [.int e.2.1, .int e.2.2]) hl.isList e er (PySem.W.AllAlike.of fun b b' => by rfl) (PySem.W.Sortable.tuples fun b => ⟨_, _, rfl⟩) hlen (fun b _ => ?_) fun out h1 h2 => ?_
  · show _ + 2 + PyData.depth (.tuple [.int b.2.1, .int b.2.2]) < _
    have : PyData.depth (.tuple [.int b.2.1, .int b.2.2]) = 1 := rfl
    omega
  · have ed : PySem.W.dataLe false (fun e : AP => PyData.tuple [.int e.2.1, .int e.2.2]) = fun p q : AP => decide (lexL p.2 q.2) := PySem.W.dataLe_ii (fun e : AP => e.2.1) (fun e => e.2.2)
    rw [ed] at h2
    have hp := List.mergeSort_perm ts fun (p q : AP) => decide (lexL p.2 q.2)
    have hs := List.pairwise_mergeSort (le := fun (p q : AP) => decide (lexL p.2 q.2)) (fun a b c g1 g2 => decide_eq_true (by
      have g1 : lexL _ _ := of_decide_eq_true g1
      have g2 : lexL _ _ := of_decide_eq_true g2
      unfold lexL at *
      omega)) (fun a b => by
      rw [Bool.or_eq_true, decide_eq_true_eq, decide_eq_true_eq]
      unfold lexL
      omega) ts
    generalize ts.mergeSort (fun (p q : AP) => decide (lexL p.2 q.2)) = us at h2 hp hs
    obtain ⟨ep, he'⟩ := PyProof.Rows.sortedAll_at s.heap its out.toArray
    have hlen' : (refP us).length ≤ sizeLine := by
      unfold refP
      rw [List.length_map, hp.length_eq]
      exact hlen
    have Ob : Obs ptO H (refP us) (us.map (·.2)) := refP_obs us fun e he => hx e (hp.mem_iff.mp he)
    exact ⟨.ref _, upd H (s.heap.objs.size + 1) (.lst (refP us)), I.laid (t' := s.toks) (fun _ _ => PyProof.Rows.sortedAll_old) (Nat.le_succ _) ⟨hlen', out, ep, vals_refP h2, he'⟩, rfl, q (refP us) (us.map (·.2)) _ Ob (hp.map _) (List.pairwise_map.mpr (hs.imp fun g => of_decide_eq_true g)) (I.hok.fresh (Nat.le_succ _))⟩
end Lf
namespace Lf
open PySem PySem.Spec PyProof.Rows L2
/-! ### repairs: sums over indexes -/
def sg : Nat → (Nat → Int) → Int
  | 0, _ => 0
  | n + 1, f => sg n f + f n
theorem sg_congr {f g : Nat → Int} : ∀ {n : Nat}, (∀ k, k < n → f k = g k) → sg n f = sg n g
  | 0, _ => rfl
  | n + 1, h => by
    show sg n f + f n = sg n g + g n
    rw [sg_congr fun k hk => h k (by omega), h n (by omega)]
theorem sg_le {f g : Nat → Int} : ∀ {n : Nat}, (∀ k, k < n → f k ≤ g k) → sg n f ≤ sg n g
  | 0, _ => Int.le_refl _
  | n + 1, h => by
    show sg n f + f n ≤ sg n g + g n
    have := sg_le (n := n) fun k hk => h k (by omega)
    have := h n (by omega)
    omega
theorem sg_add (f g : Nat → Int) : ∀ n : Nat, sg n (fun k => f k + g k) = sg n f + sg n g
  | 0 => rfl
  | n + 1 => by
    show sg n (fun k => f k + g k) + (f n + g n) = sg n f + f n + (sg n g + g n)
    rw [sg_add f g n]
    omega
theorem sg_nil : ∀ n : Nat, sg n (fun _ => 0) = 0
  | 0 => rfl
  | n + 1 => by
    show sg n (fun _ => 0) + 0 = 0
    rw [sg_nil n]
    rfl
theorem sg_at {i : Nat} {x : Int} : ∀ {n : Nat}, i < n → sg n (fun k => if k = i then x else 0) = x
  | n + 1, h => by
    show sg n (fun k => if k = i then x else 0) + (if n = i then x else 0) = x
    by_cases e : n = i
    · rw [if_pos e, sg_congr (g := fun _ => 0) fun k hk => if_neg (by omega), sg_nil]
      omega
    · rw [if_neg e, sg_at (by omega)]
      omega
theorem sg_sum {P : Nat → Bool} {g : Nat → Int} : ∀ n : Nat, (((List.range n).filter P).map g).sum = sg n (fun k => if P k = true then g k else 0)
  | 0 => rfl
  | n + 1 => by
    rw [List.range_succ, List.filter_append, List.map_append, List.sum_append, sg_sum n]
    show _ = sg n _ + (if P n = true then g n else 0)
    cases h : P n with
    | true => simp [h]
    | false => simp [h]
theorem sum_perm {xs ys : List Int} (h : xs.Perm ys) : xs.sum = ys.sum := by
  induction h with
  | nil => rfl
  | cons x _ ih => rw [List.sum_cons, List.sum_cons, ih]
  | swap x y l => simp only [List.sum_cons]; omega
  | trans _ _ a b => rw [a, b]
theorem sum_np {xs : List Int} (h : ∀ x ∈ xs, x ≤ 0) : xs.sum ≤ 0 := by
  induction xs with
  | nil => exact Int.le_refl _
  | cons x xs ih =>
    rw [List.sum_cons]
    have := h x List.mem_cons_self
    have := ih fun y hy => h y (List.mem_cons_of_mem _ hy)
    omega
/-! ### the cheapest phase -/
def Sm (L : List T3) : Int := (L.map (·.2.2)).sum
def relS (L : List T3) (c : Int) : Int := Sm (L.filter fun s => decide (s.1 ≤ c))
def SrT (L : List T3) : Prop := L.Pairwise fun a b => a.1 < b.1 ∨ (a.1 = b.1 ∧ a.2.1 ≤ b.2.1)
def KnT (L : List T3) : Prop := ∀ s ∈ L, (s.2.1 = 0 ∧ 0 ≤ s.2.2) ∨ (s.2.1 = 1 ∧ s.2.2 ≤ 0)
theorem Sm_cons (s : T3) (L : List T3) : Sm (s :: L) = s.2.2 + Sm L := by
  unfold Sm
  rw [List.map_cons, List.sum_cons]
theorem rel_cons (s : T3) (L : List T3) (c : Int) : relS (s :: L) c = (if s.1 ≤ c then s.2.2 else 0) + relS L c := by
  unfold relS
  by_cases h : s.1 ≤ c
  · rw [List.filter_cons_of_pos (by simpa using h), Sm_cons, if_pos h]
  · rw [List.filter_cons_of_neg (by simpa using h), if_neg h, Int.zero_add]
theorem rel_none {L : List T3} {c : Int} (h : ∀ s ∈ L, c < s.1) : relS L c = 0 := by
  unfold relS
  rw [List.filter_eq_nil_iff.mpr fun s hs => by have := h s hs; simp; omega]
  rfl
theorem relA {c : Int} : ∀ {L : List T3}, SrT L → ∃ m, m ≤ L.length ∧ relS L c = Sm (L.take m)
  | [], _ => ⟨0, Nat.le_refl _, rfl⟩
  | s :: L, h => by
    obtain ⟨h1, h2⟩ := List.pairwise_cons.mp h
    by_cases e : s.1 ≤ c
    · obtain ⟨m, hm, em⟩ := relA (c := c) h2
      refine ⟨m + 1, by rw [List.length_cons]; omega, ?_⟩
      rw [rel_cons, if_pos e, em, List.take_succ_cons, Sm_cons]
    · refine ⟨0, Nat.zero_le _, ?_⟩
      rw [rel_cons, if_neg e, rel_none fun t ht => by have := h1 t ht; omega]
      rfl
theorem relB : ∀ {L : List T3} {j : Nat} {s : T3}, SrT L → KnT L → L[j]? = some s → s.2.1 = 1 → relS L s.1 ≤ Sm (L.take (j + 1))
  | [], _, _, _, _, e, _ => by cases e
  | a :: L, 0, s, h, hk, e, k => by
    obtain rfl : s = a := (Option.some.inj e).symm
    obtain ⟨h1, h2⟩ := List.pairwise_cons.mp h
    have np : relS L s.1 ≤ 0 := by
      unfold relS Sm
      refine sum_np fun x hx => ?_
      obtain ⟨t, ht, rfl⟩ := List.mem_map.mp hx
      obtain ⟨ht, hb⟩ := List.mem_filter.mp ht
      have hb : t.1 ≤ s.1 := of_decide_eq_true hb
      have := h1 t ht
      have := hk t (List.mem_cons_of_mem _ ht)
      omega
    rw [rel_cons, if_pos (Int.le_refl _)]
    show _ ≤ Sm (s :: L.take 0)
    rw [Sm_cons]
    show _ ≤ s.2.2 + 0
    omega
  | a :: L, j + 1, s, h, hk, e, k => by
    obtain ⟨h1, h2⟩ := List.pairwise_cons.mp h
    have e : L[j]? = some s := e
    have ih := relB h2 (fun t ht => hk t (List.mem_cons_of_mem _ ht)) e k
    have := h1 s (List.mem_of_getElem? e)
    rw [rel_cons, if_pos (by omega), List.take_succ_cons, Sm_cons]
    omega
def cfS (z : T3) (s : T3) : T3 := if z.1 + s.2.2 < z.2.1 then (z.1 + s.2.2, z.1 + s.2.2, s.1) else (z.1 + s.2.2, z.2.1, z.2.2)
structure CfI (L : List T3) (ph0 : Int) (i : Nat) (z : T3) : Prop where
  pr : z.1 = Sm (L.take i)
  le : ∀ j, j ≤ i → z.2.1 ≤ Sm (L.take j)
  ph : (z.2.1 = 0 ∧ z.2.2 = ph0) ∨ ∃ j s, j < i ∧ L[j]? = some s ∧ s.2.1 = 1 ∧ z.2.2 = s.1 ∧ z.2.1 = Sm (L.take (j + 1))
theorem Sm_take {L : List T3} {i : Nat} {s : T3} (e : L[i]? = some s) : Sm (L.take (i + 1)) = Sm (L.take i) + s.2.2 := by
  rw [List.take_add_one, e]
  unfold Sm
  rw [List.map_append, List.sum_append]
  simp
theorem CfI.init {L : List T3} {ph0 : Int} : CfI L ph0 0 (0, 0, ph0) := ⟨rfl, fun j hj => by
  have : j = 0 := by omega
  subst this
  exact Int.le_refl _, .inl ⟨rfl, rfl⟩⟩
theorem CfI.step {L : List T3} {ph0 : Int} {i : Nat} {z s : T3} (I : CfI L ph0 i z) (hk : KnT L) (e : L[i]? = some s) : CfI L ph0 (i + 1) (cfS z s) := by
  have st := Sm_take e
  have h1 := I.pr
  have hle := I.le i (Nat.le_refl _)
  unfold cfS
  by_cases c : z.1 + s.2.2 < z.2.1
  · rw [if_pos c]
    refine ⟨by show z.1 + s.2.2 = _; omega, fun j hj => ?_, .inr ⟨i, s, by omega, e, ?_, rfl, by show z.1 + s.2.2 = _; omega⟩⟩
    · show z.1 + s.2.2 ≤ _
      by_cases q : j = i + 1
      · subst q
        omega
      · have := I.le j (by omega)
        omega
    · have := hk s (List.mem_of_getElem? e)
      omega
  · rw [if_neg c]
    refine ⟨by show z.1 + s.2.2 = _; omega, fun j hj => ?_, ?_⟩
    · show z.2.1 ≤ _
      by_cases q : j = i + 1
      · subst q
        omega
      · exact I.le j (by omega)
    · rcases I.ph with h | ⟨j, t, hj, h⟩
      · exact .inl h
      · exact .inr ⟨j, t, by omega, h⟩
theorem CfI.best {L : List T3} {ph0 : Int} {z : T3} (I : CfI L ph0 L.length z) (hs : SrT L) (hk : KnT L) (h0 : ∀ s ∈ L, ph0 < s.1) (c : Int) : relS L z.2.2 ≤ relS L c := by
  obtain ⟨m, hm, em⟩ := relA (c := c) hs
  have h1 := I.le m hm
  rcases I.ph with ⟨h2, h3⟩ | ⟨j, s, hj, e, k, h3, h4⟩
  · rw [h3, rel_none h0]
    omega
  · have := relB hs hk e k
    rw [h3]
    omega
/-! ### what a phase costs -/
def outB (lo : Nat → Bool) (lv : Nat → Int) (c : Int) (k : Nat) : Bool := if lo k = true then decide (c < lv k) else decide (lv k ≤ c)
def cstS (n : Nat) (lo : Nat → Bool) (lv w : Nat → Int) (c : Int) : Int := sg n fun k => if outB lo lv c k = true then w k else 0
def stepsL (n : Nat) (lo : Nat → Bool) (lv w : Nat → Int) : List T3 := (((List.range n).filter fun k => !lo k).map fun j => (lv j, 0, w j)) ++ (((List.range n).filter lo).map fun i => (lv i, 1, -w i))
theorem rel_perm {L M : List T3} (h : L.Perm M) (c : Int) : relS L c = relS M c := sum_perm ((h.filter _).map _)
theorem sum_filter {α : Type} (f : α → T3) (c : Int) : ∀ xs : List α, relS (xs.map f) c = (xs.map fun x => if (f x).1 ≤ c then (f x).2.2 else 0).sum
  | [] => rfl
  | x :: xs => by
    rw [List.map_cons, rel_cons, sum_filter f c xs, List.map_cons, List.sum_cons]
theorem rel_app (L M : List T3) (c : Int) : relS (L ++ M) c = relS L c + relS M c := by
  unfold relS Sm
  rw [List.filter_append, List.map_append, List.sum_append]
theorem cst_rel (n : Nat) (lo : Nat → Bool) (lv w : Nat → Int) (c : Int) : cstS n lo lv w c = sg n (fun k => if lo k = true then w k else 0) + relS (stepsL n lo lv w) c := by
  unfold stepsL
  rw [rel_app, sum_filter, sum_filter, sg_sum, sg_sum, ← Int.add_assoc, ← sg_add, ← sg_add]
  refine sg_congr fun k _ => ?_
  unfold outB
  cases h : lo k with
  | true =>
    simp only [if_true, Bool.not_true, Bool.false_eq_true, if_false, decide_eq_true_eq]
    by_cases q : c < lv k
    · rw [if_pos q, if_neg (by omega)]
      omega
    · rw [if_neg q, if_pos (by omega)]
      omega
  | false =>
    simp only [if_true, Bool.not_false, Bool.false_eq_true, if_false, decide_eq_true_eq]
    omega
theorem steps_kinds {n : Nat} {lo : Nat → Bool} {lv w : Nat → Int} (w0 : ∀ k, k < n → 0 ≤ w k) : KnT (stepsL n lo lv w) := fun s hs => by
  rcases List.mem_append.mp hs with h | h
  · obtain ⟨k, hk, rfl⟩ := List.mem_map.mp h
    exact .inl ⟨rfl, w0 k (List.mem_range.mp (List.mem_filter.mp hk).1)⟩
  · obtain ⟨k, hk, rfl⟩ := List.mem_map.mp h
    have := w0 k (List.mem_range.mp (List.mem_filter.mp hk).1)
    exact .inr ⟨rfl, by show -w k ≤ 0; omega⟩
/-! ### pairs that pay -/
abbrev Py := Nat × Nat × Int
def ldo (PP : List Py) (k : Nat) : Int := (PP.map fun x => if x.1 = k ∨ x.2.1 = k then x.2.2 else 0).sum
structure Gd (n : Nat) (lo : Nat → Bool) (lv w left : Nat → Int) (PP : List Py) (tot : Int) : Prop where
  l0 : ∀ k, k < n → 0 ≤ left k
  tt : tot = (PP.map (·.2.2)).sum
  ld : ∀ k, k < n → ldo PP k = w k - left k
  pr : ∀ x ∈ PP, (x.1 < n ∧ lo x.1 = true) ∧ (x.2.1 < n ∧ lo x.2.1 = false) ∧ lv x.2.1 ≤ lv x.1 ∧ 1 ≤ x.2.2
  cov : ∀ c, tot ≤ sg n fun k => if outB lo lv c k = true then w k - left k else 0
  hig : ∀ b, (sg n fun k => if lo k = false ∧ lv k ≤ b then w k - left k else 0) ≤ tot
theorem Gd.init {n : Nat} {lo : Nat → Bool} {lv w : Nat → Int} (w0 : ∀ k, k < n → 0 ≤ w k) : Gd n lo lv w w [] 0 := by
  refine ⟨w0, rfl, fun k _ => by show (0 : Int) = _; omega, fun _ h => (nomatch h), fun c => ?_, fun b => ?_⟩
  · rw [sg_congr (g := fun _ => 0) fun k _ => by split <;> omega, sg_nil]
    exact Int.le_refl _
  · rw [sg_congr (g := fun _ => 0) fun k _ => by split <;> omega, sg_nil]
    exact Int.le_refl _
def pay (left : Nat → Int) (i j : Nat) (a : Int) : Nat → Int := fun k => if k = i then left i - a else if k = j then left j - a else left k
theorem Gd.pay {n : Nat} {lo : Nat → Bool} {lv w left : Nat → Int} {PP : List Py} {tot a : Int} {i j : Nat} (G : Gd n lo lv w left PP tot) (hi : i < n) (li : lo i = true) (hj : j < n) (lj : lo j = false) (le : lv j ≤ lv i) (a1 : 1 ≤ a) (ai : a ≤ left i) (aj : a ≤ left j) :
    Gd n lo lv w (pay left i j a) (PP ++ [(i, j, a)]) (tot + a) := by
  have ne : i ≠ j := fun e => by
    rw [e, lj] at li
    cases li
  have pv : ∀ k, Lf.pay left i j a k = left k - ((if k = i then a else 0) + (if k = j then a else 0)) := fun k => by
    unfold Lf.pay
    by_cases e : k = i
    · subst e
      rw [if_pos rfl, if_pos rfl, if_neg ne]
      omega
    · rw [if_neg e, if_neg e]
      by_cases e2 : k = j
      · subst e2
        rw [if_pos rfl, if_pos rfl]
        omega
      · rw [if_neg e2, if_neg e2]
        omega
  refine ⟨fun k hk => ?_, ?_, fun k hk => ?_, fun x hx => ?_, fun c => ?_, fun b => ?_⟩
  · have := G.l0 k hk
    unfold Lf.pay
    split
    · omega
    · split <;> omega
  · rw [List.map_append, List.sum_append, ← G.tt]
    simp
  · have e := G.ld k hk
    have e2 : ldo (PP ++ [(i, j, a)]) k = ldo PP k + (if i = k ∨ j = k then a else 0) := by
      unfold ldo
      rw [List.map_append, List.sum_append]
      simp
    rw [e2, e, pv]
    by_cases q : k = i
    · subst q
      rw [if_pos (.inl rfl), if_pos rfl, if_neg ne]
      omega
    · by_cases q2 : k = j
      · subst q2
        rw [if_pos (.inr rfl), if_neg q, if_pos rfl]
        omega
      · rw [if_neg (by omega), if_neg q, if_neg q2]
        omega
  · rcases List.mem_append.mp hx with h | h
    · exact G.pr x h
    · rw [List.mem_singleton.mp h]
      exact ⟨⟨hi, li⟩, ⟨hj, lj⟩, le, a1⟩
  · have e : (sg n fun k => if outB lo lv c k = true then w k - Lf.pay left i j a k else 0) = (sg n fun k => if outB lo lv c k = true then w k - left k else 0) + ((if outB lo lv c i = true then a else 0) + (if outB lo lv c j = true then a else 0)) := by
      rw [← sg_at (x := if outB lo lv c i = true then a else 0) hi, ← sg_at (x := if outB lo lv c j = true then a else 0) hj, ← sg_add, ← sg_add]
      refine sg_congr fun k _ => ?_
      rw [pv]
      by_cases q : k = i
      · subst q
        rw [if_pos rfl, if_pos rfl, if_neg ne, if_neg ne]
        split <;> omega
      · by_cases q2 : k = j
        · subst q2
          rw [if_neg q, if_neg q, if_pos rfl, if_pos rfl]
          split <;> omega
        · rw [if_neg q, if_neg q, if_neg q2, if_neg q2]
          split <;> omega
    rw [e]
    have := G.cov c
    have oi : outB lo lv c i = decide (c < lv i) := by unfold outB; rw [if_pos li]
    have oj : outB lo lv c j = decide (lv j ≤ c) := by unfold outB; rw [if_neg (by rw [lj]; exact Bool.false_ne_true)]
    rw [oi, oj]
    by_cases q : c < lv i
    · rw [decide_eq_true q, if_pos rfl]
      split <;> omega
    · rw [decide_eq_true (show lv j ≤ c by omega), if_pos rfl]
      split <;> omega
  · have e : (sg n fun k => if lo k = false ∧ lv k ≤ b then w k - Lf.pay left i j a k else 0) = (sg n fun k => if lo k = false ∧ lv k ≤ b then w k - left k else 0) + (if lv j ≤ b then a else 0) := by
      rw [← sg_at (x := if lv j ≤ b then a else 0) hj, ← sg_add]
      refine sg_congr fun k _ => ?_
      rw [pv]
      by_cases q : k = i
      · subst q
        have nl : ¬ (lo k = false ∧ lv k ≤ b) := fun z => by
          rw [li] at z
          cases z.1
        rw [if_neg nl, if_neg nl, if_neg ne]
        rfl
      · by_cases q2 : k = j
        · subst q2
          rw [if_neg q, if_pos rfl, if_pos rfl]
          by_cases z : lv k ≤ b
          · rw [if_pos ⟨lj, z⟩, if_pos ⟨lj, z⟩, if_pos z]
            omega
          · rw [if_neg (fun y => z y.2), if_neg (fun y => z y.2), if_neg z]
            rfl
        · rw [if_neg q, if_neg q2, if_neg q2]
          split <;> omega
    rw [e]
    have := G.hig b
    split <;> omega
/-- lows before l were looked at -/
structure Od (n : Nat) (lo : Nat → Bool) (lv w : Nat → Int) (hs ls : List Nat) (left : Nat → Int) (at_ : Nat) (PP : List Py) (tot : Int) (l : Nat) : Prop where
  g : Gd n lo lv w left PP tot
  used : ∀ m j, m < at_ → hs[m]? = some j → left j = 0
  fresh : ∀ m i, l ≤ m → ls[m]? = some i → left i = w i
  cut : ∃ c, (sg n fun k => if (lo k = true ∧ k ∈ ls.take l ∧ c < lv k) ∨ (lo k = false ∧ lv k ≤ c) then w k else 0) ≤ tot
/-- while the low i at l is looked at -/
structure Oi (n : Nat) (lo : Nat → Bool) (lv w : Nat → Int) (hs ls : List Nat) (left : Nat → Int) (at_ : Nat) (PP : List Py) (tot : Int) (l i : Nat) : Prop where
  g : Gd n lo lv w left PP tot
  used : ∀ m j, m < at_ → hs[m]? = some j → left j = 0
  fresh : ∀ m i, l + 1 ≤ m → ls[m]? = some i → left i = w i
  cut : ∃ c, (sg n fun k => if (lo k = true ∧ k ∈ ls.take l ∧ c < lv k) ∨ (lo k = false ∧ lv k ≤ c) then w k else 0) ≤ tot - (w i - left i)
structure Lsd (n : Nat) (lo : Nat → Bool) (lv : Nat → Int) (hs ls : List Nat) : Prop where
  lm : ∀ k, k ∈ ls ↔ k < n ∧ lo k = true
  hm : ∀ k, k ∈ hs ↔ k < n ∧ lo k = false
  ld : ls.Nodup
  hd : hs.Nodup
  lsrt : ls.Pairwise fun a b => lv a ≤ lv b
  hsrt : hs.Pairwise fun a b => lv a ≤ lv b
section
variable {n : Nat} {lo : Nat → Bool} {lv w left : Nat → Int} {hs ls : List Nat} {at_ : Nat} {PP : List Py} {tot : Int} {l i j : Nat}
theorem low_ex (lv : Nat → Int) : ∀ n : Nat, ∃ c : Int, ∀ k, k < n → c < lv k
  | 0 => ⟨0, fun k h => by omega⟩
  | n + 1 => by
    obtain ⟨c, h⟩ := low_ex lv n
    by_cases q : c < lv n
    · exact ⟨c, fun k hk => by
        by_cases e : k = n
        · rw [e]; exact q
        · exact h k (by omega)⟩
    · exact ⟨lv n - 1, fun k hk => by
        by_cases e : k = n
        · rw [e]; omega
        · have := h k (by omega)
          omega⟩
theorem Od.init (w0 : ∀ k, k < n → 0 ≤ w k) : Od n lo lv w hs ls w 0 [] 0 0 := by
  refine ⟨Gd.init w0, fun m j h => by omega, fun m i _ _ => rfl, ?_⟩
  obtain ⟨c, hc⟩ := low_ex lv n
  refine ⟨c, ?_⟩
  rw [sg_congr (g := fun _ => 0) fun k hk => if_neg (by
    rintro (⟨_, h, _⟩ | ⟨_, h⟩)
    · simp at h
    · have := hc k hk
      omega), sg_nil]
  exact Int.le_refl _
theorem Od.start (O : Od n lo lv w hs ls left at_ PP tot l) (e : ls[l]? = some i) : Oi n lo lv w hs ls left at_ PP tot l i := by
  refine ⟨O.g, O.used, fun m i' h => O.fresh m i' (by omega), ?_⟩
  obtain ⟨c, h⟩ := O.cut
  have := O.fresh l i (Nat.le_refl _) e
  exact ⟨c, by omega⟩
theorem nd_ne {α : Type} {xs : List α} {a b : Nat} {x y : α} (h : xs.Nodup) (ha : xs[a]? = some x) (hb : xs[b]? = some y) (ne : a ≠ b) : x ≠ y := fun e => by
  subst e
  obtain ⟨h1, e1⟩ := List.getElem?_eq_some_iff.mp ha
  obtain ⟨h2, e2⟩ := List.getElem?_eq_some_iff.mp hb
  have pw := List.pairwise_iff_getElem.mp h
  rcases Nat.lt_or_gt_of_ne ne with q | q
  · exact pw a b h1 h2 q (e1.trans e2.symm)
  · exact pw b a h2 h1 q (e2.trans e1.symm)
theorem Oi.step (O : Oi n lo lv w hs ls left at_ PP tot l i) (L : Lsd n lo lv hs ls) (e : ls[l]? = some i) (ej : hs[at_]? = some j) (le : lv j ≤ lv i) {a : Int} (a1 : 1 ≤ a) (ai : a ≤ left i) (aj : a ≤ left j) :
    Oi n lo lv w hs ls (pay left i j a) at_ (PP ++ [(i, j, a)]) (tot + a) l i := by
  obtain ⟨hi, li⟩ := (L.lm i).mp (List.mem_of_getElem? e)
  obtain ⟨hj, lj⟩ := (L.hm j).mp (List.mem_of_getElem? ej)
  refine ⟨O.g.pay hi li hj lj le a1 ai aj, fun m k hm hk => ?_, fun m k hm hk => ?_, ?_⟩
  · have n1 : k ≠ j := nd_ne L.hd hk ej (by omega)
    have n2 : k ≠ i := fun z => by
      have := ((L.hm k).mp (List.mem_of_getElem? hk)).2
      rw [z, li] at this
      cases this
    unfold pay
    rw [if_neg n2, if_neg n1]
    exact O.used m k hm hk
  · have n1 : k ≠ i := nd_ne L.ld hk e (by omega)
    have n2 : k ≠ j := fun z => by
      have := ((L.lm k).mp (List.mem_of_getElem? hk)).2
      rw [z, lj] at this
      cases this
    unfold pay
    rw [if_neg n1, if_neg n2]
    exact O.fresh m k hm hk
  · obtain ⟨c, h⟩ := O.cut
    refine ⟨c, ?_⟩
    have : pay left i j a i = left i - a := by unfold pay; rw [if_pos rfl]
    omega
theorem Oi.up (O : Oi n lo lv w hs ls left at_ PP tot l i) (ej : hs[at_]? = some j) (z : left j = 0) : Oi n lo lv w hs ls left (at_ + 1) PP tot l i := by
  refine ⟨O.g, fun m k hm hk => ?_, O.fresh, O.cut⟩
  by_cases q : m = at_
  · subst q
    rw [ej] at hk
    cases hk
    exact z
  · exact O.used m k (by omega) hk
theorem Oi.done (O : Oi n lo lv w hs ls left at_ PP tot l i) (L : Lsd n lo lv hs ls) (w0 : ∀ k, k < n → 0 ≤ w k) (e : ls[l]? = some i) (h : left i ≤ 0 ∨ ∀ m j, at_ ≤ m → hs[m]? = some j → lv i < lv j) : Od n lo lv w hs ls left at_ PP tot (l + 1) := by
  obtain ⟨hi, li⟩ := (L.lm i).mp (List.mem_of_getElem? e)
  refine ⟨O.g, O.used, O.fresh, ?_⟩
  have mt : ∀ k, k ∈ ls.take (l + 1) ↔ k ∈ ls.take l ∨ k = i := fun k => by
    rw [List.take_add_one, e, List.mem_append]
    simp
  by_cases z : left i ≤ 0
  · obtain ⟨c, hc⟩ := O.cut
    have l0 := O.g.l0 i hi
    refine ⟨c, ?_⟩
    have : (sg n fun k => if (lo k = true ∧ k ∈ ls.take (l + 1) ∧ c < lv k) ∨ (lo k = false ∧ lv k ≤ c) then w k else 0) ≤ (sg n fun k => if (lo k = true ∧ k ∈ ls.take l ∧ c < lv k) ∨ (lo k = false ∧ lv k ≤ c) then w k else 0) + w i := by
      rw [← sg_at (x := w i) hi, ← sg_add]
      refine sg_le fun k hk => ?_
      have wk := w0 k hk
      by_cases q : k = i
      · subst q
        rw [if_pos rfl]
        split <;> split <;> omega
      · rw [if_neg q]
        have : ((lo k = true ∧ k ∈ ls.take (l + 1) ∧ c < lv k) ∨ (lo k = false ∧ lv k ≤ c)) ↔ ((lo k = true ∧ k ∈ ls.take l ∧ c < lv k) ∨ (lo k = false ∧ lv k ≤ c)) := by
          rw [mt]
          constructor
          · rintro (⟨a, b | b, d⟩ | d)
            · exact .inl ⟨a, b, d⟩
            · exact absurd b q
            · exact .inr d
          · rintro (⟨a, b, d⟩ | d)
            · exact .inl ⟨a, .inl b, d⟩
            · exact .inr d
        simp only [this]
        omega
    omega
  · have h : ∀ m j, at_ ≤ m → hs[m]? = some j → lv i < lv j := h.resolve_left z
    refine ⟨lv i, ?_⟩
    refine Int.le_trans (Int.le_of_eq (sg_congr fun k hk => ?_)) (O.g.hig (lv i))
    have nl : ¬ (lo k = true ∧ k ∈ ls.take (l + 1) ∧ lv i < lv k) := by
      rintro ⟨_, hm, lt⟩
      rw [mt] at hm
      rcases hm with hm | rfl
      · obtain ⟨m, hm'⟩ := List.mem_iff_getElem?.mp hm
        obtain ⟨hl, _⟩ := List.getElem?_eq_some_iff.mp hm'
        rw [List.length_take] at hl
        rw [List.getElem?_take_of_lt (by omega)] at hm'
        obtain ⟨h1, e1⟩ := List.getElem?_eq_some_iff.mp hm'
        obtain ⟨h2, e2⟩ := List.getElem?_eq_some_iff.mp e
        have := List.pairwise_iff_getElem.mp L.lsrt m l h1 h2 (by omega)
        rw [e1, e2] at this
        omega
      · omega
    by_cases q : lo k = false ∧ lv k ≤ lv i
    · rw [if_pos (.inr q), if_pos q]
      obtain ⟨m, hm⟩ := List.mem_iff_getElem?.mp ((L.hm k).mpr ⟨hk, q.1⟩)
      have : left k = 0 := by
        by_cases ma : m < at_
        · exact O.used m k ma hm
        · have := h m k (by omega) hm
          omega
      omega
    · rw [if_neg (fun y => y.elim nl q), if_neg q]
theorem Od.fin (O : Od n lo lv w hs ls left at_ PP tot l) (L : Lsd n lo lv hs ls) (hl : ls.length ≤ l) : (∃ c, cstS n lo lv w c ≤ tot) ∧ ∀ c, tot ≤ cstS n lo lv w c := by
  constructor
  · obtain ⟨c, h⟩ := O.cut
    refine ⟨c, Int.le_trans (Int.le_of_eq (sg_congr fun k hk => ?_)) h⟩
    rw [List.take_of_length_le hl]
    unfold outB
    cases z : lo k with
    | true =>
      rw [if_pos rfl]
      have m := (L.lm k).mpr ⟨hk, z⟩
      by_cases q : c < lv k
      · rw [decide_eq_true q, if_pos rfl, if_pos (.inl ⟨rfl, m, q⟩)]
      · rw [decide_eq_false q, if_neg Bool.false_ne_true, if_neg (by
          rintro (⟨_, _, y⟩ | ⟨y, _⟩)
          · exact q y
          · cases y)]
    | false =>
      rw [if_neg Bool.false_ne_true]
      by_cases q : lv k ≤ c
      · rw [decide_eq_true q, if_pos rfl, if_pos (.inr ⟨rfl, q⟩)]
      · rw [decide_eq_false q, if_neg Bool.false_ne_true, if_neg (by
          rintro (⟨y, _⟩ | ⟨_, y⟩)
          · cases y
          · exact q y)]
  · intro c
    refine Int.le_trans (O.g.cov c) (sg_le fun k hk => ?_)
    have := O.g.l0 k hk
    split <;> omega
end
end Lf
namespace Lf
open PySem PySem.Spec PyProof.Rows L2
/-! ### a def with one keyword-only parameter, None by default -/
def DfO (K : PySem.W.Frag) (mg : Str → Option Value) (x : Str) (st : Stmt) (ps : List Str) (n : Nat) (kn : Str) : Prop :=
  ∃ f fd ds, Fun K x x st f fd ∧ mg x = some (.ref f) ∧ Vals [V.non] ds ∧ Binds K fd ps ds ∧ KBn K fd ps n [kn] (fun us ws => us ++ ws) (fun vs zs => vs ++ zs)
def CalO (P : Program) (w : World) (K : PySem.W.Frag) (mg : Str → Option Value) (base : Heap) (k : Nat) (x : Str) (sp : Sp) (n : Nat) (kn : Str) : Prop :=
  ∃ f fd ps, FnOk P w K mg base CX0 k f fd ps sp ∧ mg x = some (.ref f) ∧ PySem.W.keepIn K (.ref f) = true ∧ KBn K fd ps n [kn] (fun us ws => us ++ ws) (fun vs zs => vs ++ zs)
section
variable {P : Program} {w : World} {K : PySem.W.Frag} {mg : Str → Option Value} {base : Heap}
theorem calo_of {x kn : Str} {st : Stmt} {N ps : List Str} {k n : Nat} {sp : Sp} (D : DfO K mg x st ps n kn) (S : FnScope N ps (defScope st)) (len : ∀ vs H Q E, sp vs H Q E → vs.length = ps.length)
    (hb : ∀ (f : Addr) (cdv : Value) (A : Around) (outer : List Env) (s : Shared) (H : Hp) (vs : List V) (Q : VK) (E : XK), Room k (A.deeper (envOfC x (defScope st) s.heap.objs.size f cdv)) → sp vs H Q E →
      ∃ t, PSs (cxOf CX0 P w K mg base N x (defScope st) f cdv A outer s H E).nox (defBody st) t ∧ t { nx := fun _ H' => Q .non H', rt := Q } (start N vs) H) :
    C8.Cal P w K mg base (k + 1) x sp [.non] ∧ CalO P w K mg base (k + 1) x sp n kn := by
  obtain ⟨f, fd, ds, F, hm, hv, b, kb⟩ := D
  have G : FnOk P w K mg base CX0 (k + 1) f fd ps sp := F.ok S len (fun cdv A outer s H vs Q E hr h => hb f cdv A outer s H vs Q E hr h)
  exact ⟨⟨⟨f, fd, ps, ds, G, hm, F.kp, b, hv⟩⟩, f, fd, ps, G, hm, F.kp, kb⟩
theorem dfo_mk {x kn : Str} {st : Stmt} {f D : Addr} {ps : List Str} {n : Nat} {oc : Value} {od : Option Addr} {doc pm : Value} {an : Option Addr} {cdv ct : Value} {osl : Array (Option Value)}
    (l : K.lookup f = some ⟨oc, od, .func (PySem.W.fnOf x x (defArgs st) (defBody st) (defScope st) .none (.ref D) doc pm an cdv ct), osl⟩)
    (F : Fun K x x st f (PySem.W.fnOf x x (defArgs st) (defBody st) (defScope st) .none (.ref D) doc pm an cdv ct)) (hm : mg x = some (.ref f)) (hc : PySem.W.codeIn K cdv x = true) (hp : PySem.W.keepIn K (.ref f) = true) (hn : PySem.W.nsIn K D kn = some (some .none)) (lp : n + 1 = ps.length)
    (h0 : ∀ (D : Addr) (doc pm : Value) (an : Option Addr) (cdv ct : Value) (us ks : List Value), us.length = n → ks.length = 1 → KwChain D ([kn].zip ks) (bindArgs (PySem.W.fnOf x x (defArgs st) (defBody st) (defScope st) .none (.ref D) doc pm an cdv ct) ⟨us, []⟩) (ps.zip (us ++ ks)))
    (h1 : ∀ (us ws : List Value), us.length = n → ws.length = 1 → bindArgs (PySem.W.fnOf x x (defArgs st) (defBody st) (defScope st) .none (.ref D) doc pm an cdv ct) ⟨us, [kn].zip ws⟩ = pure (ps.zip (us ++ ws))) : DfO K mg x st ps n kn := by
  have G : FunD K x x (defArgs st) (defBody st) (defScope st) [] [(kn, .non)] f (PySem.W.fnOf x x (defArgs st) (defBody st) (defScope st) .none (.ref D) doc pm an cdv ct) :=
    ⟨⟨oc, od, .none, .ref D, doc, pm, an, cdv, ct, osl, rfl, l, hc, .inl ⟨rfl, rfl⟩, .inr ⟨D, rfl, fun q hq => by
      cases List.mem_singleton.mp hq
      exact ⟨.none, hn, rfl⟩⟩⟩, hp⟩
  obtain ⟨ds, hv, b⟩ := G.binds0 (ps := ps) n (by simp) lp fun D' doc' pm' an' cdv' ct' us ks l1 l2 => h0 D' doc' pm' an' cdv' ct' us ks l1 l2
  exact ⟨f, _, ds, F, hm, hv, b, ⟨fun s us ws _ l1 l2 => .of_eq (h1 us ws l1 l2), fun r1 r2 => r1.append r2⟩⟩
end
section
variable {X : Cx} {k j n : Nat} {kn x : Str} {sp : Sp} {p pos : Pos} {e : Expr} {es : List Expr} {kws : List Keyword} {t tk : TA}
theorem pe_kwo (c : CalO X.prog X.w X.K X.mg X.base k x sp n kn) (hr : Room j X.A) (hk : k ≤ j) (hg : Gl X x) (ha : L2.PA X (e :: es) t) (hkw : L2.PK X kws tk)
    (hall : (backToKw pos (keywordEach kws X.env)).all (·.1.isSome) = true := by rfl) (hks : (backToKw pos (keywordEach kws X.env)).filterMap (·.1) = [kn] := by rfl)
    (hdb : (x == ("__debug__" : Str)) = false := by decide) (he : starEach (e :: es) X.env = (false, eval e X.env) :: starEach es X.env := by rfl)
    (hpl : ((backTo pos (starEach (e :: es) X.env)).any (·.1) || (backToKw pos (keywordEach kws X.env)).any (·.1.isNone)) = false := by rfl) :
    PE X (.Call (.Name x p) (e :: es) kws pos) (tCallN n 1 sp (fun vs zs => vs ++ zs) C8.E0 t tk) := by
  obtain ⟨f, fd, ps, F, hm, kp, kb⟩ := c
  exact pe_callN F (hr.mono hk) hg hm kp kb C8.pass0 ha hkw hall hks hdb he hpl
end
end Lf
namespace Lf
open PySem PySem.Spec PyProof.Rows L2
/-! ### xs[i] op= e; sorted of a list of triples -/
def rGetL (K : PySem.W.Frag) : V → V → Hp → VK → Prop := fun x y H Q => ∃ p xs i v, x = .ref p ∧ y = .int i ∧ SqL K H p xs ∧ 0 ≤ i ∧ atI xs i = some v ∧ Q v H
theorem get_list {X : Cx} : PGet X (rGetL X.K) := by
  intro pins s σ H x y v u Q I rx ry h
  obtain ⟨p, xs, i, z, rfl, rfl, hq, h0, he, q⟩ := h
  cases rx
  obtain ⟨t, rfl⟩ := ry
  obtain ⟨its, r, pl, hz⟩ := I.list hq
  obtain ⟨j, h1, h2, h3, h4, h5⟩ := atI_get he
  obtain ⟨w, ew, rw'⟩ := r.get h2
  have hl := r.length
  have hn := line63
  have fin : EP X pins σ Q w s := ⟨z, H, I, rw', q⟩
  have hj : i.toNat = j := by
    rw [seqIndex_of h0 h5] at h1
    exact Option.some.inj h1
  exact wpAny_getItem_list pl.isList h0 (by omega) (by rw [hj]; simpa using ew) fin
abbrev tpO (x : T3) : HO := .tup [.int x.1, .int x.2.1, .int x.2.2]
abbrev A3 := Addr × T3
def refT (ts : List A3) : List V := ts.map fun e => V.ref e.1
def r3 (x : T3) : List Int := [x.1, x.2.1, x.2.2]
def rSortT (K : PySem.W.Frag) : List V → Hp → VK → Prop := fun vs H Q => ∃ (a : Addr) (xs : List V) (cs : List T3), vs = [V.ref a] ∧ SqL K H a xs ∧ Obs tpO H xs cs ∧
  ∀ us es p, Obs tpO H us es → es.Perm cs → es.Pairwise (fun a b => r3 a ≤ r3 b) → H p = none → Q (.ref p) (upd H p (.lst us))
theorem obs_refT {H : Hp} : ∀ {xs : List V} {ds : List T3}, Obs tpO H xs ds → ∃ ts : List A3, xs = refT ts ∧ ds = ts.map (·.2) ∧ ∀ e ∈ ts, H e.1 = some (tpO e.2)
  | _, _, .nil => ⟨[], rfl, rfl, fun _ h => (nomatch h)⟩
  | _, _, .cons (r := r) (d := d) e o => by
    obtain ⟨ts, h1, h2, h3⟩ := obs_refT o
    refine ⟨(r, d) :: ts, by rw [h1]; rfl, by rw [h2]; rfl, fun x hx => ?_⟩
    rcases List.mem_cons.mp hx with rfl | hx
    · exact e
    · exact h3 x hx
theorem refT_obs {H : Hp} : ∀ (ts : List A3), (∀ e ∈ ts, H e.1 = some (tpO e.2)) → Obs tpO H (refT ts) (ts.map (·.2))
  | [], _ => .nil
  | e :: ts, h => .cons (h e List.mem_cons_self) (refT_obs ts fun x hx => h x (List.mem_cons_of_mem _ hx))
theorem each_refT : ∀ {us : List Value} {ts : List A3}, Vals (refT ts) us → PySem.W.EachIs (fun v (e : A3) => v = Value.ref e.1) us ts
  | _, [], .nil => .nil
  | _, _ :: _, .cons r t => .cons r (each_refT t)
theorem vals_refT : ∀ {us : List Value} {ts : List A3}, PySem.W.EachIs (fun v (e : A3) => v = Value.ref e.1) us ts → Vals (refT ts) us
  | _, _, .nil => .nil
  | _, _, .cons r t => .cons r (vals_refT t)
theorem dataLe_t3 : PySem.W.dataLe false (fun e : A3 => PyData.tuple ((r3 e.2).map PyData.int)) = fun p q : A3 => decide (r3 p.2 ≤ r3 q.2) := by
  funext p q
  show (!PySem.W.dataLt (.tuple ((r3 q.2).map .int)) (.tuple ((r3 p.2).map .int))) = _
  rw [PySem.W.dataLt_tuple]
  show (!PySem.W.rowLt ((r3 q.2).map .int) ((r3 p.2).map .int)) = _
  rw [PySem.W.dataLt_ints]
  by_cases h : r3 q.2 < r3 p.2
  · have h' : ¬ r3 p.2 ≤ r3 q.2 := fun r => List.not_lt.mpr r h
    simp [h, h']
  · have h' : r3 p.2 ≤ r3 q.2 := List.not_lt.mp h
    simp [h, h']
theorem r3_le {a b : T3} (h : r3 a ≤ r3 b) : a.1 < b.1 ∨ (a.1 = b.1 ∧ a.2.1 ≤ b.2.1) := by
  unfold r3 at h
  rw [List.cons_le_cons_iff] at h
  rcases h with h | ⟨e, h⟩
  · exact .inl h
  · rw [List.cons_le_cons_iff] at h
    rcases h with h | ⟨e2, _⟩
    · exact .inr ⟨e, Int.le_of_lt h⟩
    · exact .inr ⟨e, by omega⟩
theorem cr_sortT {X : Cx} (hu : X.A.units + 64 < cLine) : CallR X (.builtin "sorted") (rSortT X.K) := by
  intro pins s σ H vs us Q I r h
  obtain ⟨a, xs, cs, rfl, hs, ho, q⟩ := h
  obtain ⟨ts, rfl, rfl, hx⟩ := obs_refT ho
  obtain ⟨its, rv, hl, hz⟩ := I.list hs
  rw [Vals.ref1 r]
  have e := each_refT rv
  have er : PySem.W.EachIs (fun v (e : A3) => ∃ as, Reads s.heap v (PyData.tuple ((r3 e.2).map PyData.int)) as) its ts := (PySem.W.each_mem e).mono fun v b ⟨hv, hb⟩ => by
    obtain ⟨as, rd⟩ := Dp.reads I (PyData.tuple ((r3 b.2).map PyData.int)) (.ref b.1) v (Dp.tup (SqT.of (hx b hb)) (.cons (.int _) (.cons (.int _) (.cons (.int _) .nil)))) (by rw [hv]; rfl)
    exact ⟨as, rd⟩
  have hlen : ts.length ≤ sizeLine := by
    unfold refT at hz
    rw [List.length_map] at hz
    exact hz
  refine PySem.W.sorted_data (bs := ts) (enc := fun e : A3 => PyData.tuple ((r3 e.2).map PyData.int)) hl.isList e er (PySem.W.AllAlike.of fun b b' => by rfl) (PySem.W.Sortable.tuples fun b => ⟨_, _, rfl⟩) hlen (fun b _ => ?_) fun out h1 h2 => ?_
  · show _ + 2 + PyData.depth (.tuple [.int b.2.1, .int b.2.2.1, .int b.2.2.2]) < _
    have : PyData.depth (.tuple [.int b.2.1, .int b.2.2.1, .int b.2.2.2]) = 1 := rfl
    omega
  · rw [dataLe_t3] at h2
    have hp := List.mergeSort_perm ts fun (p q : A3) => decide (r3 p.2 ≤ r3 q.2)
    have hs := List.pairwise_mergeSort (le := fun (p q : A3) => decide (r3 p.2 ≤ r3 q.2)) (fun a b c g1 g2 => decide_eq_true (List.le_trans (of_decide_eq_true g1) (of_decide_eq_true g2))) (fun a b => by
      rcases List.le_total (r3 a.2) (r3 b.2) with g | g <;> simp [g]) ts
    generalize ts.mergeSort (fun (p q : A3) => decide (r3 p.2 ≤ r3 q.2)) = us at h2 hp hs
    obtain ⟨ep, he'⟩ := PyProof.Rows.sortedAll_at s.heap its out.toArray
    have hlen' : (refT us).length ≤ sizeLine := by
      unfold refT
      rw [List.length_map, hp.length_eq]
      exact hlen
    have Ob : Obs tpO H (refT us) (us.map (·.2)) := refT_obs us fun e he => hx e (hp.mem_iff.mp he)
    exact ⟨.ref _, upd H (s.heap.objs.size + 1) (.lst (refT us)), I.laid (t' := s.toks) (fun _ _ => PyProof.Rows.sortedAll_old) (Nat.le_succ _) ⟨hlen', out, ep, vals_refT h2, he'⟩, rfl, q (refT us) (us.map (·.2)) _ Ob (hp.map _) (List.pairwise_map.mpr (hs.imp fun g => of_decide_eq_true g)) (I.hok.fresh (Nat.le_succ _))⟩
end Lf
namespace Lf
open PySem PySem.Spec PyProof.Rows L2
/-! ### repairs: price_list, dropped_by, phase_bounds -/
def rD : Rec := ⟨true, 0, 0⟩
def loF (ds : List Rec) (k : Nat) : Bool := (ds.getD k rD).lo
def levR (p q : Int) (d : Rec) : Int := if d.lo = true then d.n * q - p * d.t else (d.n + 1) * q - p * d.t
def lvF (p q : Int) (ds : List Rec) (k : Nat) : Int := levR p q (ds.getD k rD)
def wF (ws : List Int) (k : Nat) : Int := ws.getD k 0
theorem getD_at {α : Type} {ds : List α} {k : Nat} {d e : α} (h : ds[k]? = some d) : ds.getD k e = d := by
  rw [List.getD_eq_getElem?_getD, h]
  rfl
theorem fit_lev {p q c : Int} {d : Rec} (hq : 1 ≤ q) : fitB p q c d = true ↔ (if d.lo = true then levR p q d ≤ c else c < levR p q d) := by
  unfold levR
  by_cases h : d.lo = true
  · rw [if_pos h, if_pos h]
    exact fit_lo hq h
  · have h' : d.lo = false := by
      cases z : d.lo with
      | true => exact absurd z h
      | false => rfl
    rw [if_neg h, if_neg h, fit_hi hq h']
    omega
theorem out_fit {p q c : Int} {ds : List Rec} {k : Nat} (hq : 1 ≤ q) : outB (loF ds) (lvF p q ds) c k = !fitB p q c (ds.getD k rD) := by
  have f := fit_lev (p := p) (c := c) (d := ds.getD k rD) hq
  unfold outB loF lvF
  generalize ds.getD k rD = d at f ⊢
  by_cases h : d.lo = true
  · rw [if_pos h] at f ⊢
    cases z : fitB p q c d with
    | true => rw [decide_eq_false (by have := f.mp z; omega)]; rfl
    | false =>
      rw [decide_eq_true (by
        refine Int.not_le.mp fun y => ?_
        rw [f.mpr y] at z
        cases z)]
      rfl
  · rw [if_neg h] at f ⊢
    cases z : fitB p q c d with
    | true => rw [decide_eq_false (by have := f.mp z; omega)]; rfl
    | false =>
      rw [decide_eq_true (by
        refine Int.not_lt.mp fun y => ?_
        rw [f.mpr y] at z
        cases z)]
      rfl
theorem loF_take {ds : List Rec} {i k : Nat} (h : k < i) : loF (ds.take i) k = loF ds k := by
  unfold loF
  rw [List.getD_eq_getElem?_getD, List.getD_eq_getElem?_getD, List.getElem?_take_of_lt h]
theorem filter_congr' {α : Type} {f g : α → Bool} {l : List α} (h : ∀ x ∈ l, f x = g x) : l.filter f = l.filter g := List.filter_congr h
theorem sel_rg {b : Bool} {ds : List Rec} : sel b 0 ds = ((List.range ds.length).filter fun k => loF ds k == b).map fun k : Nat => (((k : Nat) : Int), (ds.getD k rD).t, (ds.getD k rD).n) := by
  have key : ∀ i, i ≤ ds.length → sel b 0 (ds.take i) = ((List.range i).filter fun k => loF ds k == b).map fun k : Nat => (((k : Nat) : Int), (ds.getD k rD).t, (ds.getD k rD).n) := by
    intro i
    induction i with
    | zero => intro _; rfl
    | succ i ih =>
      intro hi
      have e : ds[i]? = some ds[i] := List.getElem?_eq_getElem (by omega)
      rw [sel_take e, ih (by omega), List.range_succ, List.filter_append, List.map_append]
      congr 1
      have g : ds.getD i rD = ds[i] := getD_at e
      have l : loF ds i = ds[i].lo := by unfold loF; rw [g]
      by_cases h : ds[i].lo = b
      · rw [if_pos h, List.filter_cons_of_pos (by rw [l, h]; simp)]
        simp only [List.filter_nil, List.map_cons, List.map_nil]
        rw [g]
      · rw [if_neg h, List.filter_cons_of_neg (by rw [l]; simpa using h)]
        rfl
  have := key ds.length (Nat.le_refl _)
  rw [List.take_length] at this
  exact this
/-- bounds with their indexes -/
def bndP (p q : Int) (ds : List Rec) (js : List Nat) : List (Int × Int) := js.map fun k => (lvF p q ds k, (k : Int))
def lowsN (ds : List Rec) : List Nat := (List.range ds.length).filter (loF ds)
def highsN (ds : List Rec) : List Nat := (List.range ds.length).filter fun k => !loF ds k
theorem lows_bnd {p q : Int} {ds : List Rec} : (sel true 0 ds).map (fun x => (x.2.2 * q - p * x.2.1, x.1)) = bndP p q ds (lowsN ds) := by
  unfold bndP lowsN
  rw [sel_rg, List.map_map, filter_congr' (g := loF ds) fun k _ => by cases loF ds k <;> rfl]
  refine List.map_congr_left fun k hk => ?_
  have h := (List.mem_filter.mp hk).2
  have h : (ds.getD k rD).lo = true := h
  show ((ds.getD k rD).n * q - p * (ds.getD k rD).t, (k : Int)) = (levR p q (ds.getD k rD), (k : Int))
  unfold levR
  rw [if_pos h]
theorem highs_bnd {p q : Int} {ds : List Rec} : (sel false 0 ds).map (fun x => ((x.2.2 + 1) * q - p * x.2.1, x.1)) = bndP p q ds (highsN ds) := by
  unfold bndP highsN
  rw [sel_rg, List.map_map, filter_congr' (g := fun k => !loF ds k) fun k _ => by cases loF ds k <;> rfl]
  refine List.map_congr_left fun k hk => ?_
  have h := (List.mem_filter.mp hk).2
  have h : (ds.getD k rD).lo = false := by
    have h : (!(ds.getD k rD).lo) = true := h
    cases z : (ds.getD k rD).lo with
    | true =>
      rw [z] at h
      cases h
    | false => rfl
  show (((ds.getD k rD).n + 1) * q - p * (ds.getD k rD).t, (k : Int)) = (levR p q (ds.getD k rD), (k : Int))
  unfold levR
  rw [if_neg (by rw [h]; exact Bool.false_ne_true)]
def outsN (p q c : Int) (ds : List Rec) : List Nat := (List.range ds.length).filter fun k => !fitB p q c (ds.getD k rD)
section
variable {P : Program} {w : World} {K : PySem.W.Frag} {mg : Str → Option Value} {base : Heap}
def PrcV (H : Hp) (v : V) (n : Nat) (ws : List Int) : Prop := (v = .non ∧ ws = List.replicate n 1) ∨ ∃ (W : Addr) (kb : Bool), v = .ref W ∧ H W = some (sqO kb (ws.map V.int)) ∧ ws.length = n
def spPL : Sp := fun vs H Q _ => ∃ (v : V) (n : Nat) (ws : List Int), vs = [v, .int n] ∧ PrcV H v n ws ∧ n ≤ 1000 ∧ (∀ x ∈ ws, 0 ≤ x) ∧
  ∀ F H', Same H H' → H F = none → H' F = some (.lst (ws.map V.int)) → Q (.ref F) H'
abbrev s_price_list : Stmt := topS 25
abbrev N_price_list : List Str := ["prices", "number", "index", "price"]
abbrev P_price_list : List Str := ["prices", "number"]
theorem sc_price_list : FnScope N_price_list P_price_list (defScope s_price_list) := ⟨rfl, rfl, rfl, by decide +kernel, rfl, by decide +kernel, by decide +kernel⟩
theorem ok_price_list (D : Df K mg "price_list" s_price_list P_price_list) (B : Bi mg) (c_is_integer : C8.Cal P w K mg base 1 "is_integer" spIsInt []) : C8.Cal P w K mg base 2 "price_list" spPL [] := by
  refine cal_of D sc_price_list (fun vs H Q E h => ?_) (fun f cdv A outer s H vs Q E hr h => ?_)
  · obtain ⟨v, n, ws, rfl, _⟩ := h
    rfl
  · obtain ⟨v, n, ws, rfl, hv, hn, h0, kk⟩ := h
    refine ⟨_, (pss_cons (ps_if (pt_cmpR op_isN (pv 0) pe_non (nomark _))
      (pss_one (ps_ret (pe_op op_rep (pe_lst (pa_cons pe_int pa_nil)) (pv 1))))
      pss_nil)
    (pss_cons (ps_if (PW.pt (pw_or (pt_not (pt_val (pe_callB (call_isiT) (by rfl) B.isinstance_ bt_isinstance (pa_cons (pv 0) (pa_cons (pe_tup (pa_cons (pe_bltn (v := .ty "list") (by rfl) B.list_ bt_list rfl) (pa_cons (pe_bltn (v := .ty "tuple") (by rfl) B.tuple_ bt_tuple rfl) pa_nil))) pa_nil))))) (pw_or1 (pt_cmpR op_ne (pe_callB (call_len_seq) (by rfl) B.len_ bt_len (pa_cons (pv 0) pa_nil)) (pv 1) (nomark _)))))
      (pss_one ps_never)
      pss_nil)
    (pss_cons (ps_for PassesOwn.never rfl (pi_enumB (by rfl) B.enumerate_ (pa_cons (pv 0) pa_nil)) (pg_tup rfl (pgs_cons (pg_name (i := 2) sc_price_list.nd rfl (Or.inl rfl)) (pgs_cons (pg_name (i := 3) sc_price_list.nd rfl (Or.inl rfl)) pgs_nil)))
      (pss_one (ps_if (PW.pt (pw_or (pt_not (pt_val (C8.pe_c c_is_integer hr (by decide) (by rfl) (pa_cons (pv 3) pa_nil)))) (pw_or1 (pt_cmpR op_lt (pv 3) pe_int (nomark _)))))
      (pss_one ps_never)
      pss_nil)))
    (pss_one (ps_ret (pe_callTy (call_list_of) (by rfl) B.list_ bt_list (pa_cons (pv 0) pa_nil))))))), ?_⟩
    rcases hv with ⟨rfl, rfl⟩ | ⟨W, kb, rfl, eW, lW⟩
    · refine ⟨_, rfl, rfl, _, rfl, iteT ?_⟩
      refine ⟨len10 (by simp), fun L nL => ?_⟩
      have z := sm_upd (o := .lst [.int 1]) nL
      refine ⟨_, rfl, L, _, _, rfl, rfl, upd_same, by omega, by omega, len10 (by simp; omega), fun F nF => ?_⟩
      have z2 := sm_upd (o := .lst (List.replicate (n : Int).toNat [V.int 1]).flatten) nF
      refine kk F _ (z.trans z2) ?_ ?_
      · cases zz : H F with
        | none => rfl
        | some o =>
          rw [z _ _ zz] at nF
          cases nF
      · rw [upd_same]
        congr 2
        rw [Int.toNat_natCast]
        clear nL nF z z2 kk h0 hn
        induction n with
        | zero => rfl
        | succ n ih => rw [List.replicate_succ, List.flatten_cons, ih, List.replicate_succ]; rfl
    · refine ⟨_, rfl, rfl, _, rfl, iteF ?_⟩
      refine ⟨_, rfl, len10 (by simp), fun tp ntp => ?_⟩
      have s1 := sm_upd (o := .tup [.ty "list", .ty "tuple"]) ntp
      refine ⟨_, tp, _, _, _, true, rfl, upd_same, .cons (.ty "list") (.cons (.ty "tuple") .nil), sq_ty (s1 _ _ eW), kit_sq kb, true, rfl, iteF ?_⟩
      refine ⟨_, rfl, W, _, rfl, (SqB.of (s1 _ _ eW)).or, _, rfl, rfl, _, rfl, iteNS (by rw [List.length_map, lW]) ?_⟩
      generalize upd H tp (.tup [.ty "list", .ty "tuple"]) = H1 at s1
      refine ⟨_, rfl, W, kb, _, rfl, SqB.of (s1 _ _ eW), ?_⟩
      refine for_it (walk_enumB (K := K) (b := kb) (a := W) (xs := ws.map V.int)) (fun i σ H' => ∃ (y1 y2 : Option V), σ = [some (.ref W), some (.int n), y1, y2] ∧ Same H H') ⟨_, _, rfl, s1⟩ ?_ ?_ ?_
      · rintro i σ H2 _ ⟨_, _, _, s2⟩
        exact SqB.of (s2 _ _ eW)
      · rintro i v σ H2 H3 hi ⟨y1, y2, rfl, s2⟩ ⟨T, x, y, rfl, nT, rfl, hx, hy⟩
        cases hx
        obtain ⟨e, he, rfl⟩ : ∃ e ∈ ws, y = V.int e := by
          have hy : (ws.map V.int)[i]? = some y := hy
          rw [List.getElem?_map] at hy
          cases z : ws[i]? with
          | none =>
            rw [z] at hy
            cases hy
          | some e =>
            rw [z] at hy
            exact ⟨e, List.mem_of_getElem? z, (Option.some.inj hy).symm⟩
        have s3 := s2.trans (sm_upd (o := .tup [.int (i : Nat), .int e]) nT)
        refine ⟨T, _, rfl, SqT.of upd_same, rfl, _, _, rfl, _, _, rfl, rfl, ?_⟩
        have := h0 e he
        refine ⟨_, rfl, e, rfl, true, rfl, iteF ?_⟩
        exact ⟨_, rfl, _, _, rfl, rfl, _, rfl, iteDn (by omega) ⟨_, _, rfl, s3⟩⟩
      · rintro σ H2 ⟨_, _, rfl, s2⟩
        refine ⟨_, rfl, W, _, rfl, (SqB.of (s2 _ _ eW)).or, fun F nF => ?_⟩
        refine kk F _ (s2.trans (sm_upd nF)) ?_ upd_same
        cases zz : H F with
        | none => rfl
        | some o =>
          rw [s2 _ _ zz] at nF
          cases nF
def spDrop : Sp := fun vs H Q _ => ∃ (L r : Addr) (kb : Bool) (xs : List V) (ds : List Rec) (p q c : Int) (k : Nat), vs = [.ref L, .ref r] ∧ H L = some (sqO kb xs) ∧ Obs rcO H xs ds ∧ ds.length ≤ 1000 ∧ H r = some (.tup [.int p, .int q, .int c]) ∧ 1 ≤ q ∧ Bd k p ∧ Bd k q ∧ RcB k ds ∧ 0 < k ∧ k ≤ 9000 ∧
  ∀ F H', Same H H' → H F = none → H' F = some (.lst ((ni (outsN p q c ds)).map V.int)) → Q (.ref F) H'
abbrev s_dropped_by : Stmt := topS 26
abbrev N_dropped_by : List Str := ["records", "rule", "index", "record"]
abbrev P_dropped_by : List Str := ["records", "rule"]
theorem sc_dropped_by : FnScope N_dropped_by P_dropped_by (defScope s_dropped_by) := ⟨rfl, rfl, rfl, by decide +kernel, rfl, by decide +kernel, by decide +kernel⟩
theorem ok_dropped_by (D : Df K mg "dropped_by" s_dropped_by P_dropped_by) (B : Bi mg) (c_fits_record : C8.Cal P w K mg base 1 "fits_record" spFitsRec []) : C8.Cal P w K mg base 2 "dropped_by" spDrop [] := by
  refine cal_of D sc_dropped_by (fun vs H Q E h => ?_) (fun f cdv A outer s H vs Q E hr h => ?_)
  · obtain ⟨L, r, kb, xs, ds, p, q, c, k, rfl, _⟩ := h
    rfl
  · obtain ⟨L, r, kb, xs, ds, p, q, c, k, rfl, eL, oL, ll, er, q1, bp, bq, bd, k0, k1, kk⟩ := h
    refine ⟨_, (pss_one (ps_ret (pe_lc (own := [("index", 2), ("record", 3)]) (g := (gTup K 2 (gCons (gName 2) (gCons (gName 3) gNil)))) (by rfl) sc_dropped_by.nd (pi_enumB (by rfl) B.enumerate_ (pa_cons (pv 0) pa_nil)) (blkOk_by (own := [("index", 2), ("record", 3)]) (N := N_dropped_by) (sc := defScope s_dropped_by) (by decide +kernel)) (fun _ _ _ _ _ => (pg_tup rfl (pgs_cons (pg_name (i := 2) sc_dropped_by.nd rfl (Or.inl rfl)) (pgs_cons (pg_name (i := 3) sc_dropped_by.nd rfl (Or.inl rfl)) pgs_nil)))) (fun _ _ _ _ _ => (pts_one (pt_not (pt_val (C8.pe_c c_fits_record hr (by decide) (by rfl) (pa_cons (pv 1) (pa_cons (pv 3) pa_nil))))))) (fun _ _ _ _ _ => (pv 2))))), ?_⟩
    have lx := oL.len
    refine ⟨_, rfl, L, kb, xs, rfl, SqB.of eL, fun A nA => ?_⟩
    refine lc_it (walk_enumB (K := K) (b := kb) (a := L) (xs := xs)) (fun i H' => H' A = some (.lst ((ni ((List.range i).filter fun k => !fitB p q c (ds.getD k rD))).map V.int)) ∧ Same H H') ⟨upd_same, sm_upd nA⟩ ?_ ?_ ?_
    · rintro i H1 _ ⟨_, s1⟩
      exact SqB.of (s1 _ _ eL)
    · rintro i v H1 H2 hi ⟨eA, s1⟩ ⟨T, x, y, rfl, nT, rfl, hx, hy⟩
      cases hx
      obtain ⟨e, d, rfl, ee, hd⟩ := oL.at hy
      have z := sm_upd (o := .tup [.int (i : Nat), .ref e]) nT
      have s2 := s1.trans z
      have g : ds.getD i rD = d := getD_at hd
      have ex : (List.range (i + 1)).filter (fun k => !fitB p q c (ds.getD k rD)) = (List.range i).filter (fun k => !fitB p q c (ds.getD k rD)) ++ (if fitB p q c d = false then [i] else []) := by
        rw [List.range_succ, List.filter_append]
        congr 1
        cases hb : fitB p q c d with
        | true => rw [List.filter_cons_of_neg (by rw [g, hb]; exact Bool.false_ne_true)]; rfl
        | false => rw [List.filter_cons_of_pos (by rw [g, hb]; rfl)]; rfl
      refine ⟨T, _, rfl, SqT.of upd_same, rfl, _, _, rfl, _, _, rfl, rfl, rfl, ?_⟩
      refine ⟨_, rfl, _, rfl, r, e, p, q, c, d, k, rfl, s2 _ _ er, s2 _ _ ee, q1, bp, bq, (bd d (List.mem_of_getElem? hd)).1, k0, k1, fitB p q c d, rfl, ?_⟩
      have eA2 := z _ _ eA
      have al : ((ni ((List.range i).filter fun k => !fitB p q c (ds.getD k rD))).map V.int).length < sizeLine := by
        rw [List.length_map, ni_len]
        have := List.length_filter_le (fun k => !fitB p q c (ds.getD k rD)) (List.range i)
        rw [List.length_range] at this
        exact small1000 (by omega)
      cases hb : fitB p q c d with
      | true =>
        refine iteF ⟨?_, s2⟩
        rw [ex, hb, if_neg (by decide), List.append_nil]
        exact eA2
      | false =>
        refine iteT ⟨_, rfl, _, eA2, al, ?_, ?_⟩
        · rw [upd_same, ex, hb, if_pos rfl, ni_app, List.map_append]
          rfl
        · intro b o e
          rw [upd_ne (ne_of_none e nA)]
          exact s2 _ _ e
    rintro H1 ⟨eA, s1⟩
    rw [show xs.length = ds.length from lx] at eA
    exact kk A H1 s1 nA eA
def spPB : Sp := fun vs H Q _ => ∃ (L rt : Addr) (kb : Bool) (xs : List V) (ds : List Rec) (p q : Int) (k : Nat), vs = [.ref L, .ref rt] ∧ H L = some (sqO kb xs) ∧ Obs rcO H xs ds ∧ ds.length ≤ 1000 ∧ H rt = some (tup2 p q) ∧ RcB k ds ∧ Bd k p ∧ Bd k q ∧ 0 < k ∧ k ≤ 100000 ∧
  ∀ T H' A B as bs, Same H H' → H' T = some (.tup [.ref A, .ref B]) → H' A = some (.lst as) → Obs ptO H' as (bndP p q ds (lowsN ds)) → H' B = some (.lst bs) → Obs ptO H' bs (bndP p q ds (highsN ds)) → Q (.ref T) H'
abbrev s_phase_bounds : Stmt := topS 27
abbrev N_phase_bounds : List Str := ["records", "rate", "p", "q", "lows", "highs", "i", "t", "n", "j", "u", "m"]
abbrev P_phase_bounds : List Str := ["records", "rate"]
theorem sc_phase_bounds : FnScope N_phase_bounds P_phase_bounds (defScope s_phase_bounds) := ⟨rfl, rfl, rfl, by decide +kernel, rfl, by decide +kernel, by decide +kernel⟩
theorem ok_phase_bounds (D : Df K mg "phase_bounds" s_phase_bounds P_phase_bounds) (c_split_records : C8.Cal P w K mg base 1 "split_records" spSplitS []) : C8.Cal P w K mg base 2 "phase_bounds" spPB [] := by
  refine cal_of D sc_phase_bounds (fun vs H Q E h => ?_) (fun f cdv A outer s H vs Q E hr h => ?_)
  · obtain ⟨L, rt, kb, xs, ds, p, q, k, rfl, _⟩ := h
    rfl
  · obtain ⟨L, rt, kb, xs, ds, p, q, k, rfl, eL, hO, hl, er, bd, bp, bq, k0, k1, kk⟩ := h
    refine ⟨_, (pss_cons (ps_asg (pv 1) (pg_tup rfl (pgs_cons (pg_name (i := 2) sc_phase_bounds.nd rfl (Or.inr rfl)) (pgs_cons (pg_name (i := 3) sc_phase_bounds.nd rfl (Or.inr rfl)) pgs_nil))))
    (pss_cons (ps_asg (C8.pe_c c_split_records hr (by decide) (by rfl) (pa_cons (pv 0) pa_nil)) (pg_tup rfl (pgs_cons (pg_name (i := 4) sc_phase_bounds.nd rfl (Or.inl rfl)) (pgs_cons (pg_name (i := 5) sc_phase_bounds.nd rfl (Or.inl rfl)) pgs_nil))))
    (pss_one (ps_ret (pe_tup (pa_cons (pe_lc (own := [("i", 6), ("t", 7), ("n", 8)]) (g := (gTup K 3 (gCons (gName 6) (gCons (gName 7) (gCons (gName 8) gNil))))) (by rfl) sc_phase_bounds.nd (pi_list (pv 4)) (blkOk_by (own := [("i", 6), ("t", 7), ("n", 8)]) (N := N_phase_bounds) (sc := defScope s_phase_bounds) (by decide +kernel)) (fun _ _ _ _ _ => (pg_tup rfl (pgs_cons (pg_name (i := 6) sc_phase_bounds.nd rfl (Or.inl rfl)) (pgs_cons (pg_name (i := 7) sc_phase_bounds.nd rfl (Or.inl rfl)) (pgs_cons (pg_name (i := 8) sc_phase_bounds.nd rfl (Or.inl rfl)) pgs_nil))))) (fun _ _ _ _ _ => pts_nil) (fun _ _ _ _ _ => (pe_tup (pa_cons (pe_op op_sub (pe_op op_mulW (pv 8) (pv 3)) (pe_op op_mulW (pv 2) (pv 7))) (pa_cons (pv 6) pa_nil))))) (pa_cons (pe_lc (own := [("j", 9), ("u", 10), ("m", 11)]) (g := (gTup K 3 (gCons (gName 9) (gCons (gName 10) (gCons (gName 11) gNil))))) (by rfl) sc_phase_bounds.nd (pi_list (pv 5)) (blkOk_by (own := [("j", 9), ("u", 10), ("m", 11)]) (N := N_phase_bounds) (sc := defScope s_phase_bounds) (by decide +kernel)) (fun _ _ _ _ _ => (pg_tup rfl (pgs_cons (pg_name (i := 9) sc_phase_bounds.nd rfl (Or.inl rfl)) (pgs_cons (pg_name (i := 10) sc_phase_bounds.nd rfl (Or.inl rfl)) (pgs_cons (pg_name (i := 11) sc_phase_bounds.nd rfl (Or.inl rfl)) pgs_nil))))) (fun _ _ _ _ _ => pts_nil) (fun _ _ _ _ _ => (pe_tup (pa_cons (pe_op op_sub (pe_op op_mulW (pe_op op_add (pv 11) pe_int) (pv 3)) (pe_op op_mulW (pv 2) (pv 10))) (pa_cons (pv 9) pa_nil))))) pa_nil))))))), ?_⟩
    refine ⟨_, rfl, rt, _, rfl, SqT.of er, rfl, _, _, rfl, _, _, rfl, rfl, ?_⟩
    refine ⟨_, rfl, L, kb, xs, ds, rfl, eL, hO, hl, fun T H1 A' B' as bs s1 eT eA oA eB oB => ?_⟩
    refine ⟨T, _, rfl, SqT.of eT, rfl, _, _, rfl, _, _, rfl, rfl, ?_⟩
    refine ⟨_, rfl, A', rfl, ⟨_, SqL.of eA⟩, fun D1 nD1 => ?_⟩
    refine lc_list (K := K) (a := A') (xs := as) (fun i H' => ∃ us, Same H1 H' ∧ H' D1 = some (.lst us) ∧ Obs ptO H' us (((sel true 0 ds).take i).map fun x => (x.2.2 * q - p * x.2.1, x.1))) ⟨[], sm_upd nD1, upd_same, .nil⟩ ?_ ?_ ?_
    · rintro i H2 _ ⟨_, s2, _⟩
      exact SqL.of (s2 _ _ eA)
    · rintro i x H2 hx ⟨us, s2, e2, o2⟩
      obtain ⟨r, d, rfl, ed, hd⟩ := oA.at hx
      have bb := sel_bd bd (List.mem_of_getElem? hd)
      have hi := (List.getElem?_eq_some_iff.mp hd).1
      have hz := sel_len true 0 ds
      have lu := o2.len
      rw [List.length_map, List.length_take] at lu
      refine ⟨r, _, rfl, SqT.of (s2 _ _ ed), rfl, _, _, rfl, _, _, rfl, _, _, rfl, rfl, ?_⟩
      refine ⟨rfl, _, rfl, _, rfl, _, _, rfl, rfl, mulW bb.2 bq k0 k0 (by omega), _, rfl, _, rfl, _, _, rfl, rfl, mulW bp bb.1 k0 k0 (by omega), _, _, rfl, rfl, _, rfl, len10 (by simp), fun t nt => ?_⟩
      have z := sm_upd (o := .tup [.int (d.2.2 * q - p * d.2.1), .int d.1]) nt
      have nt2 : t ≠ D1 := (ne_of_none (e2) nt).symm
      refine ⟨us, z _ _ e2, small1000 (by omega), us ++ [.ref t], ?_, upd_same, ?_⟩
      · intro b o eb
        rw [upd_ne (ne_of_none eb nD1)]
        exact z _ _ (s2 _ _ eb)
      · rw [List.take_add_one, hd, List.map_append]
        refine Obs.snoc (Obs.keep (o2.same z) fun b d' e => ?_) ?_
        · rw [upd_ne (ne_of e (z _ _ e2) (by intro q; cases q))]
          exact e
        · rw [upd_ne nt2]
          exact upd_same
    rintro H2 ⟨us, s2, e2, o2⟩
    rw [List.take_of_length_le (by rw [oA.len]; exact Nat.le_refl _), lows_bnd] at o2
    refine ⟨_, rfl, B', rfl, ⟨_, SqL.of (s2 _ _ eB)⟩, fun D2 nD2 => ?_⟩
    refine lc_list (K := K) (a := B') (xs := bs) (fun i H' => ∃ us, Same H2 H' ∧ H' D2 = some (.lst us) ∧ Obs ptO H' us (((sel false 0 ds).take i).map fun x => ((x.2.2 + 1) * q - p * x.2.1, x.1))) ⟨[], sm_upd nD2, upd_same, .nil⟩ ?_ ?_ ?_
    · rintro i H3 _ ⟨_, s3, _⟩
      exact SqL.of (s3 _ _ (s2 _ _ eB))
    · rintro i x H3 hx ⟨vs, s3, e3, o3⟩
      obtain ⟨r, d, rfl, ed, hd⟩ := oB.at hx
      have bb := sel_bd bd (List.mem_of_getElem? hd)
      have hi := (List.getElem?_eq_some_iff.mp hd).1
      have hz := sel_len false 0 ds
      have lu := o3.len
      rw [List.length_map, List.length_take] at lu
      have b1 : Bd (k + 1) (d.2.2 + 1) := Bd.add bb.2 (Bd.small 1 (by decide) (by omega))
      refine ⟨r, _, rfl, SqT.of (s3 _ _ (s2 _ _ ed)), rfl, _, _, rfl, _, _, rfl, _, _, rfl, rfl, ?_⟩
      refine ⟨rfl, _, rfl, _, _, rfl, rfl, _, rfl, _, _, rfl, rfl, mulW b1 bq (by omega) k0 (by omega), _, rfl, _, rfl, _, _, rfl, rfl, mulW bp bb.1 k0 k0 (by omega), _, _, rfl, rfl, _, rfl, len10 (by simp), fun t nt => ?_⟩
      have z := sm_upd (o := .tup [.int ((d.2.2 + 1) * q - p * d.2.1), .int d.1]) nt
      have nt2 : t ≠ D2 := (ne_of_none (e3) nt).symm
      refine ⟨vs, z _ _ e3, small1000 (by omega), vs ++ [.ref t], ?_, upd_same, ?_⟩
      · intro b o eb
        rw [upd_ne (ne_of_none eb nD2)]
        exact z _ _ (s3 _ _ eb)
      · rw [List.take_add_one, hd, List.map_append]
        refine Obs.snoc (Obs.keep (o3.same z) fun b d' e => ?_) ?_
        · rw [upd_ne (ne_of e (z _ _ e3) (by intro q; cases q))]
          exact e
        · rw [upd_ne nt2]
          exact upd_same
    rintro H3 ⟨vs, s3, e3, o3⟩
    rw [List.take_of_length_le (by rw [oB.len]; exact Nat.le_refl _), highs_bnd] at o3
    refine ⟨len10 (by simp), fun T2 nT2 => ?_⟩
    have z := sm_upd (o := .tup [.ref D1, .ref D2]) nT2
    exact kk T2 _ D1 D2 us vs (((s1.trans s2).trans s3).trans z) upd_same (z _ _ (s3 _ _ e2)) ((o2.same s3).same z) (z _ _ e3) (o3.same z)
end
end Lf
namespace Lf
open PySem PySem.Spec PyProof.Rows L2
/-! ### cheapest_rule -/
def cstF (p q : Int) (ds : List Rec) (ws : List Int) (c : Int) : Int := cstS ds.length (loF ds) (lvF p q ds) (wF ws) c
/-- the phase is a bound, or one below a bound -/
def CandP (p q : Int) (ds : List Rec) (c : Int) : Prop := (ds.length = 0 ∧ c = 0) ∨ ∃ k, k < ds.length ∧ (c = lvF p q ds k ∨ c = lvF p q ds k - 1)
theorem lv_bd {k : Nat} {p q : Int} {ds : List Rec} (k0 : 0 < k) (bd : RcB k ds) (bp : Bd k p) (bq : Bd k q) {i : Nat} (hi : i < ds.length) : Bd (2 * k + 2) (lvF p q ds i) := by
  have e : ds[i]? = some ds[i] := List.getElem?_eq_getElem hi
  obtain ⟨b1, b2⟩ := bd _ (List.getElem_mem hi)
  unfold lvF
  rw [getD_at e]
  unfold levR
  have m1 : Bd (2 * k + 1) (p * ds[i].t) := (Bd.mul bp b1).mono (by omega)
  split
  · exact Bd.sub ((Bd.mul b2 bq).mono (by omega)) m1
  · have b3 : Bd (k + 1) (ds[i].n + 1) := Bd.add b2 (Bd.small 1 (by decide) (by omega))
    exact Bd.sub ((Bd.mul b3 bq).mono (by omega)) m1
theorem mem_steps {n : Nat} {lo : Nat → Bool} {lv w : Nat → Int} {s : T3} (h : s ∈ stepsL n lo lv w) : ∃ k, k < n ∧ s.1 = lv k := by
  rcases List.mem_append.mp h with h | h
  · obtain ⟨k, hk, rfl⟩ := List.mem_map.mp h
    exact ⟨k, List.mem_range.mp (List.mem_filter.mp hk).1, rfl⟩
  · obtain ⟨k, hk, rfl⟩ := List.mem_map.mp h
    exact ⟨k, List.mem_range.mp (List.mem_filter.mp hk).1, rfl⟩
theorem steps_len {n : Nat} {lo : Nat → Bool} {lv w : Nat → Int} : (stepsL n lo lv w).length ≤ 2 * n := by
  unfold stepsL
  rw [List.length_append, List.length_map, List.length_map]
  have h1 := List.length_filter_le (fun k => !lo k) (List.range n)
  have h2 := List.length_filter_le lo (List.range n)
  rw [List.length_range] at h1 h2
  omega
theorem steps_nil {n : Nat} {lo : Nat → Bool} {lv w : Nat → Int} (h : stepsL n lo lv w = []) : n = 0 := by
  cases n with
  | zero => rfl
  | succ n =>
    exfalso
    obtain ⟨h1, h2⟩ := List.append_eq_nil_iff.mp h
    have h1 := List.map_eq_nil_iff.mp h1
    have h2 := List.map_eq_nil_iff.mp h2
    have m : n ∈ List.range (n + 1) := List.mem_range.mpr (by omega)
    cases z : lo n with
    | true =>
      have : n ∈ (List.range (n + 1)).filter lo := List.mem_filter.mpr ⟨m, z⟩
      rw [h2] at this
      cases this
    | false =>
      have : n ∈ (List.range (n + 1)).filter fun k => !lo k := List.mem_filter.mpr ⟨m, by simp [z]⟩
      rw [h1] at this
      cases this
theorem SrT.of {L : List T3} (h : L.Pairwise fun a b => r3 a ≤ r3 b) : SrT L := h.imp fun g => r3_le g
theorem first_low {s : T3} {L : List T3} (h : SrT (s :: L)) : ∀ t ∈ s :: L, s.1 - 1 < t.1 := fun t ht => by
  rcases List.mem_cons.mp ht with rfl | ht
  · omega
  · have := (List.pairwise_cons.mp h).1 t ht
    omega
theorem wF_at {ws : List Int} {k : Nat} (h : k < ws.length) : (ws.map V.int)[k]? = some (.int (wF ws k)) := by
  rw [List.getElem?_map, List.getElem?_eq_getElem h]
  unfold wF
  rw [getD_at (List.getElem?_eq_getElem h)]
  rfl
theorem bndP_at {p q : Int} {ds : List Rec} {js : List Nat} {i : Nat} {d : Int × Int} (h : (bndP p q ds js)[i]? = some d) : ∃ k, js[i]? = some k ∧ d = (lvF p q ds k, ((k : Nat) : Int)) := by
  unfold bndP at h
  rw [List.getElem?_map] at h
  cases z : js[i]? with
  | none =>
    rw [z] at h
    cases h
  | some k =>
    rw [z] at h
    exact ⟨k, rfl, (Option.some.inj h).symm⟩
theorem highs_lt {ds : List Rec} {i k : Nat} (h : (highsN ds)[i]? = some k) : k < ds.length := List.mem_range.mp (List.mem_filter.mp (List.mem_of_getElem? h)).1
theorem lows_lt {ds : List Rec} {i k : Nat} (h : (lowsN ds)[i]? = some k) : k < ds.length := List.mem_range.mp (List.mem_filter.mp (List.mem_of_getElem? h)).1
theorem highs_len {ds : List Rec} : (highsN ds).length ≤ ds.length := by
  have := List.length_filter_le (fun k => !loF ds k) (List.range ds.length)
  rw [List.length_range] at this
  exact this
theorem lows_len {ds : List Rec} : (lowsN ds).length ≤ ds.length := by
  have := List.length_filter_le (loF ds) (List.range ds.length)
  rw [List.length_range] at this
  exact this
section
variable {P : Program} {w : World} {K : PySem.W.Frag} {mg : Str → Option Value} {base : Heap}
def spChp : Sp := fun vs H Q _ => ∃ (L rt C : Addr) (kb : Bool) (xs : List V) (ds : List Rec) (ws : List Int) (p q : Int) (k : Nat), vs = [.ref L, .ref rt, .ref C] ∧ H L = some (sqO kb xs) ∧ Obs rcO H xs ds ∧ ds.length ≤ 400 ∧ H rt = some (tup2 p q) ∧ H C = some (.lst (ws.map V.int)) ∧ ws.length = ds.length ∧ (∀ x ∈ ws, 0 ≤ x) ∧ RcB k ds ∧ Bd k p ∧ Bd k q ∧ 0 < k ∧ k ≤ 100000 ∧
  ∀ r H' c, Same H H' → H r = none → H' r = some (.tup [.int p, .int q, .int c]) → (∀ c', cstF p q ds ws c ≤ cstF p q ds ws c') → CandP p q ds c → Bd (2 * k + 3) c → Q (.ref r) H'
abbrev s_cheapest_rule : Stmt := topS 28
abbrev N_cheapest_rule : List Str := ["records", "rate", "costs", "lows", "highs", "steps", "phase", "price", "least", "bound", "kind", "change", "j", "i"]
abbrev P_cheapest_rule : List Str := ["records", "rate", "costs"]
theorem sc_cheapest_rule : FnScope N_cheapest_rule P_cheapest_rule (defScope s_cheapest_rule) := ⟨rfl, rfl, rfl, by decide +kernel, rfl, by decide +kernel, by decide +kernel⟩
theorem ok_cheapest_rule (D : Df K mg "cheapest_rule" s_cheapest_rule P_cheapest_rule) (B : Bi mg) (c_phase_bounds : C8.Cal P w K mg base 2 "phase_bounds" spPB []) : C8.Cal P w K mg base 3 "cheapest_rule" spChp [] := by
  refine cal_of D sc_cheapest_rule (fun vs H Q E h => ?_) (fun f cdv A outer s H vs Q E hr h => ?_)
  · obtain ⟨L, rt, C, kb, xs, ds, ws, p, q, k, rfl, _⟩ := h
    rfl
  · obtain ⟨L, rt, C, kb, xs, ds, ws, p, q, k, rfl, eL, oL, ll, er, eC, lw, w0, bd, bp, bq, k0, k1, kk⟩ := h
    refine ⟨_, (pss_cons (ps_asg (C8.pe_c c_phase_bounds hr (by decide) (by rfl) (pa_cons (pv 0) (pa_cons (pv 1) pa_nil))) (pg_tup rfl (pgs_cons (pg_name (i := 3) sc_cheapest_rule.nd rfl (Or.inl rfl)) (pgs_cons (pg_name (i := 4) sc_cheapest_rule.nd rfl (Or.inl rfl)) pgs_nil))))
    (pss_cons (ps_set (i := 5) sc_cheapest_rule.nd rfl (Or.inl rfl) (pe_callB (cr_sortT hr.units) (by rfl) B.sorted_ bt_sorted (pa_cons (pe_op op_cat (pe_lc (own := [("bound", 9), ("j", 12)]) (g := (gTup K 2 (gCons (gName 9) (gCons (gName 12) gNil)))) (by rfl) sc_cheapest_rule.nd (pi_list (pv 4)) (blkOk_by (own := [("bound", 9), ("j", 12)]) (N := N_cheapest_rule) (sc := defScope s_cheapest_rule) (by decide +kernel)) (fun _ _ _ _ _ => (pg_tup rfl (pgs_cons (pg_name (i := 9) sc_cheapest_rule.nd rfl (Or.inl rfl)) (pgs_cons (pg_name (i := 12) sc_cheapest_rule.nd rfl (Or.inl rfl)) pgs_nil)))) (fun _ _ _ _ _ => pts_nil) (fun _ _ _ _ _ => (pe_tup (pa_cons (pv 9) (pa_cons pe_int (pa_cons (pe_ix (r := rIxL K) ix_list (pv 2) (pv 12) (fun _ _ => rfl)) pa_nil)))))) (pe_lc (own := [("bound", 9), ("i", 13)]) (g := (gTup K 2 (gCons (gName 9) (gCons (gName 13) gNil)))) (by rfl) sc_cheapest_rule.nd (pi_list (pv 3)) (blkOk_by (own := [("bound", 9), ("i", 13)]) (N := N_cheapest_rule) (sc := defScope s_cheapest_rule) (by decide +kernel)) (fun _ _ _ _ _ => (pg_tup rfl (pgs_cons (pg_name (i := 9) sc_cheapest_rule.nd rfl (Or.inl rfl)) (pgs_cons (pg_name (i := 13) sc_cheapest_rule.nd rfl (Or.inl rfl)) pgs_nil)))) (fun _ _ _ _ _ => pts_nil) (fun _ _ _ _ _ => (pe_tup (pa_cons (pv 9) (pa_cons pe_int (pa_cons (pe_un un_neg (pe_ix (r := rIxL K) ix_list (pv 2) (pv 13) (fun _ _ => rfl))) pa_nil))))))) pa_nil)))
    (C8.pss_cut (ps_set (i := 6) sc_cheapest_rule.nd rfl (Or.inl rfl) (pe_ifExp (pt_truth (pv 5) (fun _ => rfl)) (pe_op op_sub (pe_ix (r := rIxT K) ix_tup (pe_ix (r := rIxL K) ix_list (pv 5) pe_int (fun _ _ => rfl)) pe_int (fun _ _ => rfl)) pe_int) pe_int))
    (pss_cons (ps_set (i := 7) sc_cheapest_rule.nd rfl (Or.inl rfl) pe_int)
    (pss_cons (ps_set (i := 8) sc_cheapest_rule.nd rfl (Or.inl rfl) pe_int)
    (pss_cons (ps_for PassesOwn.never rfl (pi_list (pv 5)) (pg_tup rfl (pgs_cons (pg_name (i := 9) sc_cheapest_rule.nd rfl (Or.inl rfl)) (pgs_cons (pg_name (i := 10) sc_cheapest_rule.nd rfl (Or.inl rfl)) (pgs_cons (pg_name (i := 11) sc_cheapest_rule.nd rfl (Or.inl rfl)) pgs_nil))))
      (pss_cons (ps_aug (i := 7) sc_cheapest_rule.nd rfl (Or.inl rfl) (pv 11) ip_add)
    (pss_one (ps_if (pt_cmpR op_lt (pv 7) (pv 8) (nomark _))
      (pss_one (ps_par (i := 8) (j := 6) rfl sc_cheapest_rule.nd rfl rfl (by decide) rfl rfl (pa_cons (pv 7) (pa_cons (pv 9) pa_nil)) rfl))
      pss_nil))))
    (pss_one (ps_ret (pe_tup (pa_cons (pe_ix (r := rIxT K) ix_tup (pv 1) pe_int (fun _ _ => rfl)) (pa_cons (pe_ix (r := rIxT K) ix_tup (pv 1) pe_int (fun _ _ => rfl)) (pa_cons (pv 6) pa_nil)))))))))))), ?_⟩
    refine ⟨_, rfl, _, rfl, L, rt, kb, xs, ds, p, q, k, rfl, eL, oL, by omega, er, bd, bp, bq, k0, k1, fun T H1 A' B' as bs s1 eT eA oA eB oB => ?_⟩
    refine ⟨T, _, rfl, SqT.of eT, rfl, _, _, rfl, _, _, rfl, rfl, ?_⟩
    have hl := highs_len (ds := ds)
    have hl2 := lows_len (ds := ds)
    -- the steps of the highs
    refine ⟨_, rfl, B', rfl, ⟨_, SqL.of eB⟩, fun D1 nD1 => ?_⟩
    refine lc_list (K := K) (a := B') (xs := bs) (fun i H' => ∃ us, Same H1 H' ∧ H' D1 = some (.lst us) ∧ Obs tpO H' us (((highsN ds).take i).map fun j => (lvF p q ds j, 0, wF ws j))) ⟨[], sm_upd nD1, upd_same, .nil⟩ ?_ ?_ ?_
    · rintro i H2 _ ⟨_, s2, _⟩
      exact SqL.of (s2 _ _ eB)
    · rintro i x H2 hx ⟨us, s2, e2, o2⟩
      obtain ⟨r, d, rfl, ed, hd⟩ := oB.at hx
      obtain ⟨j, hj, rfl⟩ := bndP_at hd
      have jl := highs_lt hj
      have hi := (List.getElem?_eq_some_iff.mp hj).1
      have lu := o2.len
      rw [List.length_map, List.length_take] at lu
      refine ⟨r, _, rfl, SqT.of (s2 _ _ ed), rfl, _, _, rfl, _, _, rfl, rfl, ?_⟩
      refine ⟨rfl, _, rfl, _, rfl, _, rfl, C, _, _, _, rfl, rfl, SqL.of (s2 _ _ (s1 _ _ eC)), atI_nat (wF_at (by omega)), len10 (by simp), fun t nt => ?_⟩
      have z := sm_upd (o := .tup [.int (lvF p q ds j), .int 0, .int (wF ws j)]) nt
      have nt2 : t ≠ D1 := (ne_of_none (e2) nt).symm
      refine ⟨us, z _ _ e2, small1000 (by omega), us ++ [.ref t], ?_, upd_same, ?_⟩
      · intro b o eb
        rw [upd_ne (ne_of_none eb nD1)]
        exact z _ _ (s2 _ _ eb)
      · rw [List.take_add_one, hj, List.map_append]
        refine Obs.snoc (Obs.keep (o2.same z) fun b d' e => ?_) ?_
        · rw [upd_ne (ne_of e (z _ _ e2) (by intro q; cases q))]
          exact e
        · rw [upd_ne nt2]
          exact upd_same
    rintro H2 ⟨us, s2, e2, o2⟩
    have lB : bs.length = (highsN ds).length := by
      rw [oB.len]
      exact List.length_map ..
    rw [List.take_of_length_le (by omega)] at o2
    -- the steps of the lows
    refine ⟨_, rfl, A', rfl, ⟨_, SqL.of (s2 _ _ eA)⟩, fun D2 nD2 => ?_⟩
    refine lc_list (K := K) (a := A') (xs := as) (fun i H' => ∃ us, Same H2 H' ∧ H' D2 = some (.lst us) ∧ Obs tpO H' us (((lowsN ds).take i).map fun j => (lvF p q ds j, 1, -wF ws j))) ⟨[], sm_upd nD2, upd_same, .nil⟩ ?_ ?_ ?_
    · rintro i H3 _ ⟨_, s3, _⟩
      exact SqL.of (s3 _ _ (s2 _ _ eA))
    · rintro i x H3 hx ⟨vs, s3, e3, o3⟩
      obtain ⟨r, d, rfl, ed, hd⟩ := oA.at hx
      obtain ⟨j, hj, rfl⟩ := bndP_at hd
      have jl := lows_lt hj
      have hi := (List.getElem?_eq_some_iff.mp hj).1
      have lu := o3.len
      rw [List.length_map, List.length_take] at lu
      refine ⟨r, _, rfl, SqT.of (s3 _ _ (s2 _ _ ed)), rfl, _, _, rfl, _, _, rfl, rfl, ?_⟩
      refine ⟨rfl, _, rfl, _, rfl, _, rfl, C, _, _, _, rfl, rfl, SqL.of (s3 _ _ (s2 _ _ (s1 _ _ eC))), atI_nat (wF_at (by omega)), _, rfl, len10 (by simp), fun t nt => ?_⟩
      have z := sm_upd (o := .tup [.int (lvF p q ds j), .int 1, .int (-wF ws j)]) nt
      have nt2 : t ≠ D2 := (ne_of_none (e3) nt).symm
      refine ⟨vs, z _ _ e3, small1000 (by omega), vs ++ [.ref t], ?_, upd_same, ?_⟩
      · intro b o eb
        rw [upd_ne (ne_of_none eb nD2)]
        exact z _ _ (s3 _ _ eb)
      · rw [List.take_add_one, hj, List.map_append]
        refine Obs.snoc (Obs.keep (o3.same z) fun b d' e => ?_) ?_
        · rw [upd_ne (ne_of e (z _ _ e3) (by intro q; cases q))]
          exact e
        · rw [upd_ne nt2]
          exact upd_same
    rintro H3 ⟨vs, s3, e3, o3⟩
    have lA : as.length = (lowsN ds).length := by
      rw [oA.len]
      exact List.length_map ..
    rw [List.take_of_length_le (by omega)] at o3
    have l2 := o2.len
    have l3 := o3.len
    rw [List.length_map] at l2 l3
    refine ⟨D1, D2, us, vs, rfl, rfl, s3 _ _ e2, e3, len10 (by omega), fun pp np => ?_⟩
    have z4 := sm_upd (o := .lst (us ++ vs)) np
    have oS : Obs tpO (upd H3 pp (.lst (us ++ vs))) (us ++ vs) (stepsL ds.length (loF ds) (lvF p q ds) (wF ws)) := ((o2.same s3).same z4).app (o3.same z4)
    refine ⟨pp, us ++ vs, _, rfl, SqL.of upd_same, oS, fun zs es p5 oE hp hs np5 => ?_⟩
    have z5 := sm_upd (o := .lst zs) np5
    have s05 := s1.trans (s2.trans (s3.trans (z4.trans z5)))
    have oE := oE.same z5
    have eE : upd (upd H3 pp (.lst (us ++ vs))) p5 (.lst zs) p5 = some (.lst zs) := upd_same
    generalize upd (upd H3 pp (.lst (us ++ vs))) p5 (.lst zs) = H5 at s05 oE eE ⊢
    clear z4 z5 np np5 oS s1 s2 s3 eA oA eB oB e2 o2 e3 o3 eT
    have w0' : ∀ k, k < ds.length → 0 ≤ wF ws k := fun k hk => by
      unfold wF
      rw [getD_at (List.getElem?_eq_getElem (by omega))]
      exact w0 _ (List.getElem_mem _)
    have srt := SrT.of hs
    have knd : KnT es := fun s h => steps_kinds w0' s (hp.mem_iff.mp h)
    have lE : es.length ≤ 2 * ds.length := by
      rw [hp.length_eq]
      exact steps_len
    have lz := oE.len
    -- the first phase
    refine ⟨fun σ' H' => ∃ ph : Int, σ' = [some (.ref L), some (.ref rt), some (.ref C), some (.ref A'), some (.ref B'), some (.ref p5), some (.int ph), none, none, none, none, none, none, none] ∧ H' = H5 ∧ (∀ s ∈ es, ph < s.1) ∧ ((es = [] ∧ ph = 0) ∨ ∃ s ∈ es, ph = s.1 - 1), ?_, ?_⟩
    · match zs, es, oE, eE, srt with
      | [], [], _, eE, _ =>
        refine ⟨_, rfl, false, .inl ⟨[], SqL.of eE, rfl⟩, iteF ?_⟩
        exact ⟨0, rfl, rfl, fun s h => (nomatch h), .inl ⟨rfl, rfl⟩⟩
      | _ :: _, s :: es, .cons (r := r) er' _, eE, srt =>
        refine ⟨_, rfl, true, .inl ⟨_, SqL.of eE, rfl⟩, iteT ?_⟩
        refine ⟨_, rfl, p5, _, _, _, rfl, rfl, SqL.of eE, atI_nat (j := 0) rfl, r, _, _, _, rfl, rfl, SqT.of er', atI_nat (j := 0) rfl, _, _, rfl, rfl, ?_⟩
        exact ⟨s.1 - 1, rfl, rfl, first_low srt, .inr ⟨s, List.mem_cons_self, rfl⟩⟩
    rintro σ H5 ⟨ph, rfl, rfl, hph, cph⟩
    refine ⟨_, rfl, p5, rfl, ⟨_, SqL.of eE⟩, ?_⟩
    refine for_list (K := K) (a := p5) (xs := zs) (fun i σ H' => ∃ (z : T3) (y9 y10 y11 : Option V), σ = [some (.ref L), some (.ref rt), some (.ref C), some (.ref A'), some (.ref B'), some (.ref p5), some (.int z.2.2), some (.int z.1), some (.int z.2.1), y9, y10, y11, none, none] ∧ H' = H5 ∧ CfI es ph i z ∧ (z.2.2 = ph ∨ ∃ s ∈ es, z.2.2 = s.1)) ⟨(0, 0, ph), _, _, _, rfl, rfl, CfI.init, .inl rfl⟩ ?_ ?_ ?_
    · rintro i σ H' _ ⟨_, _, _, _, _, rfl, _⟩
      exact SqL.of eE
    · rintro i x σ H' hx ⟨z, y9, y10, y11, rfl, rfl, I, cz⟩
      obtain ⟨r, d, rfl, ed, hd⟩ := oE.at hx
      refine ⟨r, _, rfl, SqT.of ed, rfl, _, _, rfl, _, _, rfl, _, _, rfl, rfl, ?_⟩
      refine ⟨_, rfl, _, rfl, _, _, rfl, rfl, ?_⟩
      have st := I.step knd hd
      refine ⟨_, rfl, _, rfl, _, _, rfl, rfl, _, rfl, ite2 (fun c => ?_) (fun c => ?_)⟩
      · have c : z.1 + d.2.2 < z.2.1 := of_decide_eq_true c
        unfold cfS at st
        rw [if_pos c] at st
        refine ⟨_, rfl, _, rfl, _, _, rfl, ?_⟩
        exact ⟨(z.1 + d.2.2, z.1 + d.2.2, d.1), _, _, _, rfl, rfl, st, .inr ⟨d, List.mem_of_getElem? hd, rfl⟩⟩
      · have c : ¬ z.1 + d.2.2 < z.2.1 := fun h => c (decide_eq_true h)
        unfold cfS at st
        rw [if_neg c] at st
        exact ⟨(z.1 + d.2.2, z.2.1, z.2.2), _, _, _, rfl, rfl, st, cz⟩
    · rintro σ H' ⟨z, y9, y10, y11, rfl, rfl, I, cz⟩
      have er5 := s05 _ _ er
      refine ⟨_, rfl, rt, _, _, _, rfl, rfl, SqT.of er5, atI_nat (j := 0) rfl, _, rfl, rt, _, _, _, rfl, rfl, SqT.of er5, atI_nat (j := 1) rfl, _, rfl, len10 (by simp), fun r nr => ?_⟩
      have z6 := sm_upd (o := .tup [.int p, .int q, .int z.2.2]) nr
      rw [lz] at I
      have best := I.best srt knd hph
      have cnd : CandP p q ds z.2.2 := by
        have low : ∀ s ∈ es, ∃ k, k < ds.length ∧ s.1 = lvF p q ds k := fun s h => mem_steps (hp.mem_iff.mp h)
        rcases cz with h | ⟨s, hs', h⟩
        · rcases cph with ⟨h2, h3⟩ | ⟨s, hs', h3⟩
          · rw [h2] at hp
            exact .inl ⟨steps_nil (List.nil_perm.mp hp), h.trans h3⟩
          · obtain ⟨k, hk, e⟩ := low s hs'
            exact .inr ⟨k, hk, .inr (by rw [h, h3, e])⟩
        · obtain ⟨k, hk, e⟩ := low s hs'
          exact .inr ⟨k, hk, .inl (by rw [h, e])⟩
      refine kk r _ z.2.2 (s05.trans z6) ?_ upd_same (fun c' => ?_) cnd ?_
      · cases zz : H r with
        | none => rfl
        | some o =>
          rw [s05 _ _ zz] at nr
          cases nr
      · unfold cstF
        rw [cst_rel, cst_rel, ← rel_perm hp, ← rel_perm hp]
        have := best c'
        omega
      · rcases cnd with ⟨_, h⟩ | ⟨i, hi, h | h⟩
        · rw [h]
          exact Bd.small 1 (by decide) (by omega)
        · rw [h]
          exact (lv_bd k0 bd bp bq hi).mono (by omega)
        · rw [h]
          exact Bd.sub (lv_bd k0 bd bp bq hi) (Bd.small 1 (by decide) (by omega))
end
end Lf
namespace Lf
open PySem PySem.Spec PyProof.Rows L2
/-! ### paid_pairs -/
def lfL (n : Nat) (f : Nat → Int) : List Int := (List.range n).map f
theorem lfL_len (n : Nat) (f : Nat → Int) : (lfL n f).length = n := by
  unfold lfL
  rw [List.length_map, List.length_range]
theorem lfL_at {n k : Nat} {f : Nat → Int} (h : k < n) : ((lfL n f).map V.int)[k]? = some (.int (f k)) := by
  unfold lfL
  rw [List.map_map, List.getElem?_map, List.getElem?_range h]
  rfl
theorem lfL_congr {n : Nat} {f g : Nat → Int} (h : ∀ k, k < n → f k = g k) : lfL n f = lfL n g := List.map_congr_left fun k hk => h k (List.mem_range.mp hk)
theorem lfL_set {n i : Nat} {f : Nat → Int} {x : Int} : ((lfL n f).map V.int).set i (.int x) = (lfL n fun k => if k = i then x else f k).map V.int := by
  refine List.ext_getElem? fun k => ?_
  by_cases hk : k < n
  · rw [lfL_at hk, List.getElem?_set]
    by_cases e : i = k
    · subst e
      rw [if_pos rfl, if_pos (by rw [List.length_map, lfL_len]; exact hk), if_pos rfl]
    · rw [if_neg e, lfL_at hk, if_neg (fun z => e z.symm)]
  · rw [List.getElem?_eq_none (by rw [List.length_set, List.length_map, lfL_len]; omega), List.getElem?_eq_none (by rw [List.length_map, lfL_len]; omega)]
theorem lfL_w {ws : List Int} : ws = lfL ws.length (wF ws) := by
  refine List.ext_getElem? fun k => ?_
  unfold lfL wF
  by_cases hk : k < ws.length
  · rw [List.getElem?_map, List.getElem?_range hk]
    show ws[k]? = some (ws.getD k 0)
    rw [getD_at (List.getElem?_eq_getElem hk), List.getElem?_eq_getElem hk]
  · rw [List.getElem?_eq_none (by omega), List.getElem?_eq_none (by rw [List.length_map, List.length_range]; omega)]
def mnI (i j : Nat) : Int := if (j : Int) < i then j else i
def mxI (i j : Nat) : Int := if (j : Int) > i then j else i
inductive PyO (H : Hp) : List V → List Py → Prop
  | nil : PyO H [] []
  | cons {r t : Addr} {us : List V} {x : Py} {xs : List Py} : H r = some (.tup [.ref t, .int x.2.2]) → H t = some (tup2 (mnI x.1 x.2.1) (mxI x.1 x.2.1)) → PyO H us xs → PyO H (.ref r :: us) (x :: xs)
theorem PyO.keep {H H' : Hp} {us : List V} {xs : List Py} (h : PyO H us xs) (f : ∀ b ys, H b = some (.tup ys) → H' b = some (.tup ys)) : PyO H' us xs := by
  induction h with
  | nil => exact .nil
  | cons a b _ ih => exact .cons (f _ _ a) (f _ _ b) ih
theorem PyO.snoc {H : Hp} {us : List V} {xs : List Py} {r t : Addr} {x : Py} (h : PyO H us xs) (er : H r = some (.tup [.ref t, .int x.2.2])) (et : H t = some (tup2 (mnI x.1 x.2.1) (mxI x.1 x.2.1))) : PyO H (us ++ [.ref r]) (xs ++ [x]) := by
  induction h with
  | nil => exact .cons er et .nil
  | cons a b _ ih => exact .cons a b ih
theorem PyO.len {H : Hp} {us : List V} {xs : List Py} (h : PyO H us xs) : us.length = xs.length := by
  induction h with
  | nil => rfl
  | cons _ _ _ ih => rw [List.length_cons, List.length_cons, ih]
structure RpH (H0 H : Hp) (F PL : Addr) (n : Nat) (lf : Nat → Int) (us : List V) (PP : List Py) : Prop where
  ne : F ≠ PL
  sm : ∀ b o, b ≠ F → b ≠ PL → H0 b = some o → H b = some o
  eF : H F = some (.lst ((lfL n lf).map V.int))
  eP : H PL = some (.lst us)
  oP : PyO H us PP
theorem RpH.same {H0 H H' : Hp} {F PL : Addr} {n : Nat} {lf : Nat → Int} {us : List V} {PP : List Py} (R : RpH H0 H F PL n lf us PP) (s : Same H H') : RpH H0 H' F PL n lf us PP :=
  ⟨R.ne, fun b o h1 h2 e => s _ _ (R.sm b o h1 h2 e), s _ _ R.eF, s _ _ R.eP, R.oP.keep fun b ys e => s _ _ e⟩
theorem RpH.left {H0 H : Hp} {F PL : Addr} {n : Nat} {lf : Nat → Int} {us : List V} {PP : List Py} (R : RpH H0 H F PL n lf us PP) (g : Nat → Int) : RpH H0 (upd H F (.lst ((lfL n g).map V.int))) F PL n g us PP := by
  refine ⟨R.ne, fun b o h1 h2 e => ?_, upd_same, ?_, R.oP.keep fun b ys e => ?_⟩
  · rw [upd_ne h1]
    exact R.sm b o h1 h2 e
  · rw [upd_ne R.ne.symm]
    exact R.eP
  · rw [upd_ne (ne_of e R.eF (by intro q; cases q))]
    exact e
theorem RpH.pair {H0 H : Hp} {F PL r t : Addr} {n : Nat} {lf : Nat → Int} {us : List V} {PP : List Py} {x : Py} (R : RpH H0 H F PL n lf us PP) (er : H r = some (.tup [.ref t, .int x.2.2])) (et : H t = some (tup2 (mnI x.1 x.2.1) (mxI x.1 x.2.1))) : RpH H0 (upd H PL (.lst (us ++ [.ref r]))) F PL n lf (us ++ [.ref r]) (PP ++ [x]) := by
  have kT : ∀ b ys, H b = some (.tup ys) → upd H PL (.lst (us ++ [.ref r])) b = some (.tup ys) := fun b ys e => by
    rw [upd_ne (ne_of e R.eP (by intro q; cases q))]
    exact e
  refine ⟨R.ne, fun b o h1 h2 e => ?_, ?_, upd_same, (R.oP.keep kT).snoc (kT _ _ er) (kT _ _ et)⟩
  · rw [upd_ne h2]
    exact R.sm b o h1 h2 e
  · rw [upd_ne R.ne]
    exact R.eF
theorem perm_bnd {p q : Int} {ds : List Rec} {es : List (Int × Int)} {js : List Nat} (h : es.Perm (bndP p q ds js)) : ∃ hs, es = bndP p q ds hs ∧ hs.Perm js := by
  refine ⟨es.map fun e => e.2.toNat, ?_, ?_⟩
  · unfold bndP
    rw [List.map_map]
    have : ∀ e ∈ es, (((fun k : Nat => (lvF p q ds k, ((k : Nat) : Int))) ∘ fun e : Int × Int => e.2.toNat) e) = e := fun e he => by
      obtain ⟨k, _, rfl⟩ := List.mem_map.mp (h.mem_iff.mp he)
      show (lvF p q ds (k : Int).toNat, (((k : Int).toNat : Nat) : Int)) = _
      rw [Int.toNat_natCast]
    rw [List.map_congr_left this]
    exact (List.map_id es).symm
  · have := h.map fun e : Int × Int => e.2.toNat
    rw [show (bndP p q ds js).map (fun e : Int × Int => e.2.toNat) = js by
      unfold bndP
      rw [List.map_map]
      have : ∀ k ∈ js, ((fun e : Int × Int => e.2.toNat) ∘ fun k : Nat => (lvF p q ds k, ((k : Nat) : Int))) k = k := fun k _ => by
        show (k : Int).toNat = k
        rw [Int.toNat_natCast]
      rw [List.map_congr_left this]
      exact List.map_id js] at this
    exact this
theorem bnd_srt {p q : Int} {ds : List Rec} {js : List Nat} (h : (bndP p q ds js).Pairwise lexL) : js.Pairwise fun a b => lvF p q ds a ≤ lvF p q ds b := by
  have := List.pairwise_map.mp h
  exact this.imp fun g => by
    rcases g with g | ⟨g, _⟩
    · exact Int.le_of_lt g
    · exact Int.le_of_eq g
theorem lsd_of {p q : Int} {ds : List Rec} {hs ls : List Nat} (h1 : hs.Perm (highsN ds)) (h2 : ls.Perm (lowsN ds)) (s1 : hs.Pairwise fun a b => lvF p q ds a ≤ lvF p q ds b) (s2 : ls.Pairwise fun a b => lvF p q ds a ≤ lvF p q ds b) : Lsd ds.length (loF ds) (lvF p q ds) hs ls := by
  refine ⟨fun k => ?_, fun k => ?_, h2.nodup_iff.mpr (List.nodup_range.filter _), h1.nodup_iff.mpr (List.nodup_range.filter _), s2, s1⟩
  · rw [h2.mem_iff]
    unfold lowsN
    rw [List.mem_filter, List.mem_range]
  · rw [h1.mem_iff]
    unfold highsN
    rw [List.mem_filter, List.mem_range]
    cases loF ds k <;> simp
def muP (F : Addr) (hl : Nat) : L2.St → Hp → Nat := fun σ H => match σ, H F with
  | [_, _, _, _, _, _, _, _, some (.int at_), _, some (.int i), _, _], some (.lst xs) => 2 * (hl - at_.toNat) + (match atI xs i with
    | some (.int v) => if 0 < v then 1 else 0
    | _ => 0)
  | _, _ => 0
theorem muP_eq {F : Addr} {hl at_ i : Nat} {H : Hp} {xs : List V} {v : Int} {a b c d e f g h k l m : Option V} (e1 : H F = some (.lst xs)) (e2 : xs[i]? = some (.int v)) : muP F hl [a, b, c, d, e, f, g, h, some (.int ((at_ : Nat) : Int)), k, some (.int ((i : Nat) : Int)), l, m] H = 2 * (hl - at_) + (if 0 < v then 1 else 0) := by
  unfold muP
  rw [e1]
  show 2 * (hl - ((at_ : Nat) : Int).toNat) + (match atI xs ((i : Nat) : Int) with
    | some (.int v) => if 0 < v then 1 else 0
    | _ => 0) = _
  rw [atI_nat e2, Int.toNat_natCast]
theorem ixN_at {n j : Nat} (hj : j < n) : ixN n ((j : Nat) : Int) = some j := by
  unfold ixN
  rw [if_pos (by omega), if_pos (by omega), Int.toNat_natCast]
theorem min2 (x y : Int) : (if y < x then y else x) ≤ x ∧ (if y < x then y else x) ≤ y ∧ ((if y < x then y else x) = x ∨ (if y < x then y else x) = y) := by
  split <;> omega
section
variable {P : Program} {w : World} {K : PySem.W.Frag} {mg : Str → Option Value} {base : Heap}
def spPay : Sp := fun vs H Q _ => ∃ (L rt C : Addr) (kb : Bool) (xs : List V) (ds : List Rec) (ws : List Int) (p q : Int) (k : Nat), vs = [.ref L, .ref rt, .ref C] ∧ H L = some (sqO kb xs) ∧ Obs rcO H xs ds ∧ ds.length ≤ 400 ∧ H rt = some (tup2 p q) ∧ H C = some (.lst (ws.map V.int)) ∧ ws.length = ds.length ∧ (∀ x ∈ ws, 0 ≤ x) ∧ RcB k ds ∧ Bd k p ∧ Bd k q ∧ 0 < k ∧ k ≤ 100000 ∧
  ∀ PL H' us PP left tot, Same H H' → H PL = none → H' PL = some (.lst us) → PyO H' us PP → Gd ds.length (loF ds) (lvF p q ds) (wF ws) left PP tot → (∃ c, cstF p q ds ws c ≤ tot) → (∀ c, tot ≤ cstF p q ds ws c) → PP.length ≤ 1000 → Q (.ref PL) H'
end
end Lf
namespace Lf
open PySem PySem.Spec PyProof.Rows L2
/-! ### repair -/
/-- what repair gives -/
structure RepO (H H' : Hp) (T : Addr) (p q : Int) (ds : List Rec) (ws : List Int) (k : Nat) : Prop where
  ex : ∃ (Dd PL : Addr) (us : List V) (PP : List Py) (left : Nat → Int) (c : Int), H' T = some (.tup [.ref Dd, .ref PL]) ∧ H Dd = none ∧ H PL = none ∧ Dd ≠ PL ∧ H' Dd = some (.lst ((ni (outsN p q c ds)).map V.int)) ∧ H' PL = some (.lst us) ∧ PyO H' us PP ∧
    Gd ds.length (loF ds) (lvF p q ds) (wF ws) left PP (cstF p q ds ws c) ∧ (∀ c', cstF p q ds ws c ≤ cstF p q ds ws c') ∧ CandP p q ds c ∧ Bd (2 * k + 3) c ∧ PP.length ≤ 1000
section
variable {P : Program} {w : World} {K : PySem.W.Frag} {mg : Str → Option Value} {base : Heap}
theorem prc_len {H : Hp} {v : V} {n : Nat} {ws : List Int} (h : PrcV H v n ws) : ws.length = n := by
  rcases h with ⟨_, rfl⟩ | ⟨_, _, _, _, h⟩
  · exact List.length_replicate
  · exact h
theorem PrcV.same {H H' : Hp} {v : V} {n : Nat} {ws : List Int} (h : PrcV H v n ws) (s : Same H H') : PrcV H' v n ws := by
  rcases h with h | ⟨W, kb, h1, h2, h3⟩
  · exact .inl h
  · exact .inr ⟨W, kb, h1, s _ _ h2, h3⟩
def spRep : Sp := fun vs H Q _ => ∃ (L rt : Addr) (prv : V) (kb : Bool) (xs : List V) (ds : List Rec) (ws : List Int) (p q : Int) (k : Nat), vs = [.ref L, .ref rt, prv] ∧ H L = some (sqO kb xs) ∧ Obs rcO H xs ds ∧ ds.length ≤ 200 ∧ H rt = some (tup2 p q) ∧ Rt k p q ∧ PrcV H prv ds.length ws ∧ (∀ x ∈ ws, 0 ≤ x) ∧ RcB k ds ∧ 0 < k ∧ k ≤ 4000 ∧
  ∀ T H', Same H H' → H T = none → RepO H H' T p q ds ws k → Q (.ref T) H'
end
end Lf
namespace Lf
open PySem PySem.Spec PyProof.Rows L2
/-! ### the rule that fits, and what follows -/
theorem opp_opp (d : Rec) : opp (opp d) = d := by
  obtain ⟨lo, t, n⟩ := d
  cases lo
  · show Rec.mk false t (n + 1 - 1) = _
    rw [show n + 1 - 1 = n by omega]
  · show Rec.mk true t (n - 1 + 1) = _
    rw [show n - 1 + 1 = n by omega]
theorem fit_opp {p q c : Int} (d : Rec) : fitB p q c (opp d) = !fitB p q c d := by
  obtain ⟨lo, t, n⟩ := d
  cases lo
  · show decide (n + 1 ≤ (p * t + c) / q) = !decide ((p * t + c) / q ≤ n)
    rw [Bool.eq_iff_iff]
    simp
    omega
  · show decide ((p * t + c) / q ≤ n - 1) = !decide (n ≤ (p * t + c) / q)
    rw [Bool.eq_iff_iff]
    simp
    omega
theorem opp_bd {k : Nat} {d : Rec} (k0 : 0 < k) (h : Bd k d.t ∧ Bd k d.n) : Bd (k + 1) (opp d).t ∧ Bd (k + 1) (opp d).n := by
  refine ⟨h.1.mono (by omega), ?_⟩
  show Bd (k + 1) (if d.lo = true then d.n - 1 else d.n + 1)
  by_cases c : d.lo = true
  · rw [if_pos c]
    exact Bd.sub h.2 (Bd.small 1 (by decide) k0)
  · rw [if_neg c]
    exact Bd.add h.2 (Bd.small 1 (by decide) k0)
/-- a rule that fits shows that there is no conflict -/
theorem fits_m {p q c : Int} {ds : List Rec} (hq : 1 ≤ q) (h : ds.all (fitB p q c) = true) : FitM ds p q := by
  rw [List.all_eq_true] at h
  intro d hd e he ld le
  have h1 := (fit_lo hq ld).mp (h d hd)
  have h2 := (fit_hi hq le).mp (h e he)
  rw [Int.mul_sub, Int.sub_mul (e.n + 1)]
  omega
theorem fits_nc {p q c : Int} {ds : List Rec} (hp : 0 ≤ p) (hq : 1 ≤ q) (h : ds.all (fitB p q c) = true) : ¬ Cf ds := fun z => z p q hp hq (fits_m hq h)
theorem sim_gcd {p q t b N D : Int} (s : Sim p q t b N D) : Int.gcd N D = 1 := by
  obtain ⟨d1, n1, ⟨b1, b2⟩, mi⟩ := s
  have g0 : 0 < (Int.gcd N D : Int) := gcd_pos d1
  have eN : (Int.gcd N D : Int) * (N / (Int.gcd N D : Int)) = N := Int.mul_ediv_cancel' (Int.gcd_dvd_left ..)
  have eD : (Int.gcd N D : Int) * (D / (Int.gcd N D : Int)) = D := Int.mul_ediv_cancel' (Int.gcd_dvd_right ..)
  have key : (Int.gcd N D : Int) = 1 := by
    generalize (Int.gcd N D : Int) = g at *
    generalize N / g = n' at *
    generalize D / g = d' at *
    have hd' : 1 ≤ d' := by
      have : 0 < d' * g := by
        rw [Int.mul_comm]
        omega
      have := pos_of_mul this (by omega)
      omega
    have h := (mi n' d' hd' ⟨?_, ?_⟩).1
    · have e : g * d' ≤ 1 * d' := by omega
      have := Int.le_of_mul_le_mul_right e (by omega)
      omega
    · refine Int.lt_of_mul_lt_mul_left (a := g) ?_ (by omega)
      have e1 : g * (p * d') = p * (g * d') := by grind
      have e2 : g * (n' * q) = g * n' * q := by grind
      rw [e1, e2, eN, eD]
      exact b1
    · refine Int.lt_of_mul_lt_mul_left (a := g) ?_ (by omega)
      have e1 : g * (n' * b) = g * n' * b := by grind
      have e2 : g * (t * d') = t * (g * d') := by grind
      rw [e1, e2, eN, eD]
      exact b2
  omega
theorem ends_ok {S : T3 → T3 → Prop} {lo up : Option T4} (hl : LoOk S lo) (hu : UpOk S up) (h : nr lo up = false) : OkE (lowE lo) (highE up) := by
  cases up with
  | none =>
    show OkE (lowE lo) none
    cases lowE lo <;> trivial
  | some z =>
    have dz := hu.den z rfl
    have pz : 0 < z.1 := by
      rcases Int.lt_or_le 0 z.1 with g | g
      · exact g
      · exfalso
        cases lo with
        | none =>
          have h : decide (z.1 ≤ 0) = false := h
          rw [decide_eq_true g] at h
          cases h
        | some l =>
          have h : (decide (z.1 ≤ 0) || decide (z.1 * l.2.1 ≤ l.1 * z.2.1)) = false := h
          rw [decide_eq_true g] at h
          cases h
    have up0 : 0 < (redE z).1 := by
      have := (red_lt_iff (p := 0) (q := 1) dz).2.mpr (by omega)
      omega
    cases lo with
    | none => exact up0
    | some l =>
      have dl := hl.den l rfl
      show OkE (if l.1 < 0 then none else some (redE l)) (some (redE z))
      by_cases c : l.1 < 0
      · rw [if_pos c]
        exact up0
      · rw [if_neg c]
        have h : (decide (z.1 ≤ 0) || decide (z.1 * l.2.1 ≤ l.1 * z.2.1)) = false := h
        rw [decide_eq_false (show ¬ z.1 ≤ 0 by omega), Bool.false_or] at h
        have h := of_decide_eq_false h
        exact (red_lt_iff (p := (redE z).1) (q := (redE z).2) dl).1.mpr ((red_lt_iff (p := l.1) (q := l.2.1) dz).2.mpr (by omega))
theorem res_ins {e1 e2 : Option (Int × Int)} {N D : Int} (ok : OkE e1 e2) (h : ResE e1 e2 N D) : 0 ≤ N ∧ 1 ≤ D ∧ Int.gcd N D = 1 ∧ Ins e1 e2 N D := by
  match e1, e2, ok, h with
  | none, none, _, ⟨h1, h2⟩ =>
    subst h1 h2
    exact ⟨by omega, by omega, by decide, fun z e => (nomatch e), fun z e => (nomatch e)⟩
  | none, some t, ok, ⟨h1, h2⟩ =>
    subst h1 h2
    have ok : 0 < t.1 := ok
    refine ⟨by omega, by omega, by decide, fun z e => (nomatch e), fun z e => ?_⟩
    cases e
    omega
  | some l, none, _, h =>
    have h : Sim l.1 l.2 1 0 N D := h
    refine ⟨by have := h.n1; omega, h.d1, sim_gcd h, fun z e => ?_, fun z e => (nomatch e)⟩
    cases e
    exact h.bt.1
  | some l, some t, _, h =>
    have h : Sim l.1 l.2 t.1 t.2 N D := h
    refine ⟨by have := h.n1; omega, h.d1, sim_gcd h, fun z e => ?_, fun z e => ?_⟩
    · cases e
      exact h.bt.1
    · cases e
      exact h.bt.2
end Lf
namespace Lf
open PySem PySem.Spec PyProof.Rows L2
/-! ### rules that fit (where chainm.t and cntm.t are not in the text) -/
abbrev Fit (ds : List Rec) (p q c : Int) : Prop := 0 ≤ p ∧ 1 ≤ q ∧ ds.all (fitB p q c) = true
theorem ex_mx (l : List Int) : ∃ m, IsMx l m := by
  cases l with
  | nil => exact ⟨none, rfl⟩
  | cons x r => exact ⟨some (PySem.W.maxOf x r), maxOf_mx x r⟩
theorem ex_mn (l : List Int) : ∃ m, IsMn l m := by
  cases l with
  | nil => exact ⟨none, rfl⟩
  | cons x r => exact ⟨some (PySem.W.minOf x r), minOf_mn x r⟩
theorem m_fits {p q : Int} {ds : List Rec} (hq : 1 ≤ q) (h : FitM ds p q) : ∃ c, ds.all (fitB p q c) = true := by
  obtain ⟨a, ha⟩ := ex_mx (lph p q ds)
  obtain ⟨b, hb⟩ := ex_mn (hph p q ds)
  have ok := (ph_iff ha hb).mpr (fitm_sd.mpr h)
  match a, b, ok, ha, hb with
  | some x, none, _, ha, hb => exact ⟨x, (fit_iff hq ha hb).mpr ⟨Int.le_refl _, trivial⟩⟩
  | some x, some y, ok, ha, hb => exact ⟨x, (fit_iff hq ha hb).mpr ⟨Int.le_refl _, of_decide_eq_true (p := x ≤ y) ok⟩⟩
  | none, none, _, ha, hb => exact ⟨0, (fit_iff hq ha hb).mpr ⟨trivial, trivial⟩⟩
  | none, some y, _, ha, hb => exact ⟨y, (fit_iff hq ha hb).mpr ⟨trivial, Int.le_refl _⟩⟩
theorem fit_nc {ds : List Rec} {p q c : Int} (h : Fit ds p q c) : ¬ Cf ds := fits_nc h.1 h.2.1 h.2.2
end Lf
namespace Lf
open PySem PySem.Spec PyProof.Rows L2
/-! ### repairs as they stand -/
theorem PyO.at {H : Hp} {us : List V} {xs : List Py} (h : PyO H us xs) : ∀ {i : Nat} {v : V}, us[i]? = some v → ∃ r t x, v = .ref r ∧ H r = some (.tup [.ref t, .int x.2.2]) ∧ H t = some (tup2 (mnI x.1 x.2.1) (mxI x.1 x.2.1)) ∧ xs[i]? = some x := by
  induction h with
  | nil =>
    intro i v e
    cases e
  | cons a b _ ih =>
    intro i v e
    cases i with
    | zero =>
      cases e
      exact ⟨_, _, _, rfl, a, b, rfl⟩
    | succ i => exact ih e
/-- the two indexes of a pair, in order -/
def pr2 (i j : Nat) : List Nat := if j < i then [j, i] else [i, j]
theorem pr2_ni (i j : Nat) : [V.int (mnI i j), .int (mxI i j)] = (ni (pr2 i j)).map V.int := by
  by_cases e : i = j
  · subst e
    simp [mnI, mxI, pr2, ni]
  unfold mnI mxI pr2
  by_cases h : j < i
  · rw [if_pos (by omega), if_neg (by omega), if_pos h]
    rfl
  · rw [if_neg (by omega), if_pos (by omega), if_neg h]
    rfl
theorem pr2_mem {i j k : Nat} : k ∈ pr2 i j ↔ k = i ∨ k = j := by
  unfold pr2
  by_cases h : j < i
  · rw [if_pos h]
    simp
    omega
  · rw [if_neg h]
    simp
theorem pr2_up {i j : Nat} (h : i ≠ j) : (pr2 i j).Pairwise (· < ·) := by
  unfold pr2
  by_cases c : j < i
  · rw [if_pos c]
    simpa using c
  · rw [if_neg c]
    simp
    omega
theorem pr2_two {i j : Nat} : ∃ a b, pr2 i j = [a, b] ∧ ((a = i ∧ b = j) ∨ (a = j ∧ b = i)) := by
  unfold pr2
  by_cases c : j < i
  · exact ⟨j, i, by rw [if_pos c], .inr ⟨rfl, rfl⟩⟩
  · exact ⟨i, j, by rw [if_neg c], .inl ⟨rfl, rfl⟩⟩
theorem pay_cf {p q : Int} {ds : List Rec} {i j : Nat} (hi : i < ds.length) (li : loF ds i = true) (hj : j < ds.length) (lj : loF ds j = false) (le : lvF p q ds j ≤ lvF p q ds i) {es : List Rec} (hes : es = pk ds (pr2 i j)) : ¬ FitM es p q := by
  intro h
  have ei : ds[i]? = some ds[i] := List.getElem?_eq_getElem hi
  have ej : ds[j]? = some ds[j] := List.getElem?_eq_getElem hj
  have mi : ds[i] ∈ es := by rw [hes]; exact List.mem_filterMap.mpr ⟨i, pr2_mem.mpr (.inl rfl), ei⟩
  have mj : ds[j] ∈ es := by rw [hes]; exact List.mem_filterMap.mpr ⟨j, pr2_mem.mpr (.inr rfl), ej⟩
  unfold loF at li lj
  unfold lvF at le
  rw [getD_at ei] at li
  rw [getD_at ej] at lj
  rw [getD_at ei, getD_at ej] at le
  have := h _ mi _ mj li lj
  unfold levR at le
  rw [if_pos li, if_neg (by rw [lj]; exact Bool.false_ne_true)] at le
  have e1 : p * (ds[j].t - ds[i].t) = p * ds[j].t - p * ds[i].t := Int.mul_sub ..
  have e2 : (ds[j].n + 1 - ds[i].n) * q = (ds[j].n + 1) * q - ds[i].n * q := Int.sub_mul ..
  omega
theorem ldo_take {PP : List Py} {m : Nat} {x : Py} (e : PP[m]? = some x) (k : Nat) : ldo (PP.take (m + 1)) k = ldo (PP.take m) k + (if x.1 = k ∨ x.2.1 = k then x.2.2 else 0) := by
  unfold ldo
  rw [List.take_add_one, e, List.map_append, List.sum_append]
  simp
theorem tot_take {PP : List Py} {m : Nat} {x : Py} (e : PP[m]? = some x) : ((PP.take (m + 1)).map (·.2.2)).sum = ((PP.take m).map (·.2.2)).sum + x.2.2 := by
  rw [List.take_add_one, e, List.map_append, List.sum_append]
  simp
theorem outs_sum {p q c : Int} {ds : List Rec} {ws : List Int} (hq : 1 ≤ q) : ((outsN p q c ds).map (wF ws)).sum = cstF p q ds ws c := by
  unfold outsN cstF cstS
  rw [sg_sum]
  refine sg_congr fun k _ => ?_
  rw [out_fit hq]
theorem outs_lt {p q c : Int} {ds : List Rec} : ∀ j ∈ outsN p q c ds, j < ds.length := fun j hj => List.mem_range.mp (List.mem_filter.mp hj).1
theorem outs_up {p q c : Int} {ds : List Rec} : (outsN p q c ds).Pairwise (· < ·) := List.pairwise_lt_range.sublist List.filter_sublist
theorem outs_mem {p q c : Int} {ds : List Rec} {k : Nat} {d : Rec} (e : ds[k]? = some d) : k ∈ outsN p q c ds ↔ fitB p q c d = false := by
  unfold outsN
  rw [List.mem_filter, List.mem_range, getD_at e]
  have := (List.getElem?_eq_some_iff.mp e).1
  cases fitB p q c d <;> simp [this]
/-- told T of a repair, as it stands -/
structure RepF (H : Hp) (T : Addr) (p q : Int) (ds : List Rec) (ws : List Int) (c : Int) (Dd PL : Addr) (us : List V) (PP : List Py) (left : Nat → Int) : Prop where
  eT : H T = some (.tup [.ref Dd, .ref PL])
  eD : H Dd = some (.lst ((ni (outsN p q c ds)).map V.int))
  eP : H PL = some (.lst us)
  oP : PyO H us PP
  g : Gd ds.length (loF ds) (lvF p q ds) (wF ws) left PP (cstF p q ds ws c)
  lP : PP.length ≤ 1000
theorem RepF.same {H H' : Hp} {T : Addr} {p q : Int} {ds : List Rec} {ws : List Int} {c : Int} {Dd PL : Addr} {us : List V} {PP : List Py} {left : Nat → Int} (R : RepF H T p q ds ws c Dd PL us PP left) (s : Same H H') : RepF H' T p q ds ws c Dd PL us PP left :=
  ⟨s _ _ R.eT, s _ _ R.eD, s _ _ R.eP, R.oP.keep fun b ys e => s _ _ e, R.g, R.lP⟩
theorem RepF.fr {H H' : Hp} {T : Addr} {p q : Int} {ds : List Rec} {ws : List Int} {c : Int} {Dd PL : Addr} {us : List V} {PP : List Py} {left : Nat → Int} (R : RepF H T p q ds ws c Dd PL us PP left) (f : Fr H H') : RepF H' T p q ds ws c Dd PL us PP left :=
  ⟨f.t _ _ R.eT, f.l _ _ R.eD, f.l _ _ R.eP, R.oP.keep fun b ys e => f.t _ _ e, R.g, R.lP⟩
end Lf
namespace Lf
open PySem PySem.Spec PyProof.Rows L2
/-! ### least repairs: the rates at which records begin or cease to conflict -/
def absI (i : Int) : Int := if i < 0 then -i else i
def EndP (ds : List Rec) (A B : Int) : Prop := ∃ d ∈ ds, ∃ e ∈ ds, d.lo = true ∧ e.lo = false ∧ d.t ≠ e.t ∧ 0 ≤ (d.n - e.n - 1) * (d.t - e.t) ∧ A = absI (d.n - e.n - 1) ∧ B = absI (d.t - e.t)
theorem abs_nn (i : Int) : 0 ≤ absI i := by
  unfold absI
  split <;> omega
theorem EndP.nn {ds : List Rec} {A B : Int} (h : EndP ds A B) : 0 ≤ A ∧ 1 ≤ B := by
  obtain ⟨d, _, e, _, _, _, ne, _, rfl, rfl⟩ := h
  refine ⟨abs_nn _, ?_⟩
  unfold absI
  split <;> omega
/-- y lies to all ends as x does, or just above -/
def Abv (ds : List Rec) (p q p' q' : Int) : Prop := ∀ A B, EndP ds A B → (A * q ≤ p * B → A * q' < p' * B) ∧ (p * B < A * q → p' * B < A * q')
theorem abv_fit {ds es : List Rec} {p q p' q' : Int} (hp : 0 ≤ p) (hq : 1 ≤ q) (hp' : 0 ≤ p') (hq' : 1 ≤ q') (h : Abv ds p q p' q') (sub : ∀ d ∈ es, d ∈ ds) (f : FitM es p q) : FitM es p' q' := by
  intro d hd e he ld le
  have h0 := f d hd e he ld le
  have hE : ∀ A B, d.t ≠ e.t → 0 ≤ (d.n - e.n - 1) * (d.t - e.t) → A = absI (d.n - e.n - 1) → B = absI (d.t - e.t) → (A * q ≤ p * B → A * q' < p' * B) ∧ (p * B < A * q → p' * B < A * q') := fun A B h1 h2 h3 h4 => h A B ⟨d, sub d hd, e, sub e he, ld, le, h1, h2, h3, h4⟩
  rw [show e.t - d.t = -(d.t - e.t) by omega, show e.n + 1 - d.n = -(d.n - e.n - 1) by omega, Int.mul_neg, Int.neg_mul] at h0 ⊢
  have ne : d.t ≠ e.t ↔ d.t - e.t ≠ 0 := by omega
  rw [ne] at hE
  generalize d.n - e.n - 1 = N at *
  generalize d.t - e.t = D at *
  have h0 : N * q < p * D := by omega
  suffices N * q' < p' * D by omega
  rcases Int.lt_trichotomy D 0 with hD | hD | hD
  · have pD : p * D ≤ 0 := Int.mul_nonpos_of_nonneg_of_nonpos hp (by omega)
    have hN : N < 0 := by
      refine Int.not_le.mp fun z => ?_
      have := Int.mul_nonneg z (show 0 ≤ q by omega)
      omega
    have nd : 0 ≤ N * D := Int.le_of_lt (Int.mul_pos_of_neg_of_neg hN hD)
    have g := (hE (-N) (-D) (by omega) nd (by unfold absI; rw [if_pos hN]) (by unfold absI; rw [if_pos hD])).2
    rw [Int.mul_neg, Int.neg_mul, Int.mul_neg, Int.neg_mul] at g
    omega
  · subst hD
    rw [Int.mul_zero] at h0 ⊢
    have hN : N < 0 := by
      refine Int.not_le.mp fun z => ?_
      have := Int.mul_nonneg z (show 0 ≤ q by omega)
      omega
    exact Int.mul_neg_of_neg_of_pos hN (by omega)
  · rcases Int.lt_or_le N 0 with hN | hN
    · have := Int.mul_neg_of_neg_of_pos hN (show 0 < q' by omega)
      have := Int.mul_nonneg hp' (show 0 ≤ D by omega)
      omega
    · have nd : 0 ≤ N * D := Int.mul_nonneg hN (by omega)
      exact (hE N D (by omega) nd (by unfold absI; rw [if_neg (by omega)]) (by unfold absI; rw [if_neg (by omega)])).1 (by omega)
theorem wF_nn {ws : List Int} (w0 : ∀ x ∈ ws, 0 ≤ x) (k : Nat) : 0 ≤ wF ws k := by
  unfold wF
  rw [List.getD_eq_getElem?_getD]
  cases e : ws[k]? with
  | none => exact Int.le_refl _
  | some x => exact w0 x (List.mem_of_getElem? e)
theorem abv_cst {ds : List Rec} {ws : List Int} {p q p' q' : Int} (w0 : ∀ x ∈ ws, 0 ≤ x) (hp : 0 ≤ p) (hq : 1 ≤ q) (hp' : 0 ≤ p') (hq' : 1 ≤ q') (h : Abv ds p q p' q') (c : Int) : ∃ c', cstF p' q' ds ws c' ≤ cstF p q ds ws c := by
  have fa : (ds.filter (fitB p q c)).all (fitB p q c) = true := List.all_eq_true.mpr fun d hd => (List.mem_filter.mp hd).2
  obtain ⟨c', f⟩ := m_fits hq' (abv_fit hp hq hp' hq' h (fun d hd => (List.mem_filter.mp hd).1) (fits_m hq fa))
  refine ⟨c', sg_le fun k hk => ?_⟩
  rw [out_fit hq', out_fit hq, getD_at (List.getElem?_eq_getElem hk)]
  have := wF_nn w0 k
  cases g : fitB p q c ds[k] with
  | true =>
    rw [List.all_eq_true.mp f _ (List.mem_filter.mpr ⟨List.getElem_mem hk, g⟩)]
    exact Int.le_refl _
  | false =>
    rw [Bool.not_false, if_pos rfl]
    split <;> omega
/-! ### the changing rates, in order -/
def Asc (es : List (Int × Int)) : Prop := es.Pairwise fun a b => a.1 * b.2 < b.1 * a.2
structure Chg (k : Nat) (ds : List Rec) (es : List (Int × Int)) : Prop where
  up : Asc es
  rt : ∀ e ∈ es, Rt k e.1 e.2
  all : ∀ A B, EndP ds A B → ∃ e ∈ es, A * e.2 = e.1 * B
theorem asc_cut {k : Nat} {p q : Int} (hq : 1 ≤ q) : ∀ {es : List (Int × Int)}, Asc es → (∀ e ∈ es, Rt k e.1 e.2) → ∃ m, m ≤ es.length ∧ ∀ j e, es[j]? = some e → (e.1 * q ≤ p * e.2 ↔ j < m)
  | [], _, _ => ⟨0, Nat.le_refl _, fun j e h => by simp at h⟩
  | a :: es, up, rt => by
    obtain ⟨u1, u2⟩ := List.pairwise_cons.mp up
    have ra := rt a List.mem_cons_self
    by_cases c : a.1 * q ≤ p * a.2
    · obtain ⟨m, hm, h⟩ := asc_cut (p := p) hq u2 fun e he => rt e (List.mem_cons_of_mem _ he)
      refine ⟨m + 1, by rw [List.length_cons]; omega, fun j e he => ?_⟩
      cases j with
      | zero =>
        cases he
        exact ⟨fun _ => by omega, fun _ => c⟩
      | succ j =>
        rw [h j e he]
        omega
    · refine ⟨0, Nat.zero_le _, fun j e he => ⟨fun z => ?_, fun z => absurd z (Nat.not_lt_zero _)⟩⟩
      exfalso
      cases j with
      | zero =>
        cases he
        exact c z
      | succ j =>
        have me : e ∈ es := List.mem_of_getElem? he
        have re := rt e (List.mem_cons_of_mem _ me)
        exact c (Int.le_of_lt (frac_lt' (show 0 < e.2 by have := re.q1; omega) (show 0 < a.2 by have := ra.q1; omega) (show 0 < q by omega) (u1 e me) z))
def lowsL (es : List (Int × Int)) : List (Option (Int × Int)) := if es.take 1 = [(0, 1)] then es.map some else none :: es.map some
theorem tail_at {α : Type} {xs : List α} {d : α} {i : Nat} (h : i < xs.length) : (xs.tail ++ [d])[i]? = some (xs[i + 1]?.getD d) := by
  by_cases c : i + 1 < xs.length
  · rw [List.getElem?_append_left (by rw [List.length_tail]; omega), List.getElem?_tail, List.getElem?_eq_getElem c]
    rfl
  · rw [List.getElem?_append_right (by rw [List.length_tail]; omega), List.length_tail, show i - (xs.length - 1) = 0 by omega, List.getElem?_eq_none (l := xs) (by omega)]
    rfl
/-- what is tried lies above the m-th end and below the next -/
theorem mid_ok {k : Nat} {es : List (Int × Int)} {m : Nat} {l : Int × Int} {N D : Int} (up : Asc es) (rt : ∀ e ∈ es, Rt k e.1 e.2) (el : es[m]? = some l) (r : ResE (some l) (es[m + 1]?) N D) :
    0 ≤ N ∧ 1 ≤ D ∧ ∀ j e, es[j]? = some e → (j ≤ m → e.1 * D < N * e.2) ∧ (m < j → N * e.2 < e.1 * D) := by
  have rl := rt l (List.mem_of_getElem? el)
  have key : 1 ≤ D ∧ 1 ≤ N ∧ l.1 * D < N * l.2 ∧ ∀ h, es[m + 1]? = some h → N * h.2 < h.1 * D := by
    cases eh : es[m + 1]? with
    | none =>
      rw [eh] at r
      have r : Sim l.1 l.2 1 0 N D := r
      exact ⟨r.d1, r.n1, r.bt.1, fun h e => by cases e⟩
    | some h =>
      rw [eh] at r
      have r : Sim l.1 l.2 h.1 h.2 N D := r
      exact ⟨r.d1, r.n1, r.bt.1, fun h' e => by cases e; exact r.bt.2⟩
  obtain ⟨d1, n1, lt, hi⟩ := key
  have ord : ∀ {i j : Nat} {a b : Int × Int}, es[i]? = some a → es[j]? = some b → i < j → a.1 * b.2 < b.1 * a.2 := fun {i j a b} ea eb hij => by
    obtain ⟨h1, e1⟩ := List.getElem?_eq_some_iff.mp ea
    obtain ⟨h2, e2⟩ := List.getElem?_eq_some_iff.mp eb
    have := List.pairwise_iff_getElem.mp up i j h1 h2 hij
    rw [e1, e2] at this
    exact this
  refine ⟨by omega, d1, fun j e ee => ⟨fun hj => ?_, fun hj => ?_⟩⟩
  · have re := rt e (List.mem_of_getElem? ee)
    by_cases z : j = m
    · subst z
      rw [el] at ee
      cases ee
      exact lt
    · exact frac_lt' (show 0 < l.2 by have := rl.q1; omega) (show 0 < e.2 by have := re.q1; omega) (show 0 < D by omega) (ord ee el (by omega)) (Int.le_of_lt lt)
  · have re := rt e (List.mem_of_getElem? ee)
    have lj := (List.getElem?_eq_some_iff.mp ee).1
    obtain ⟨h, eh⟩ : ∃ h, es[m + 1]? = some h := ⟨_, List.getElem?_eq_getElem (by omega)⟩
    have rh := rt h (List.mem_of_getElem? eh)
    have hh := hi h eh
    by_cases z : j = m + 1
    · subst z
      rw [eh] at ee
      cases ee
      exact hh
    · exact frac_lt' (show 0 < h.2 by have := rh.q1; omega) (show 0 < D by omega) (show 0 < e.2 by have := re.q1; omega) hh (Int.le_of_lt (ord eh ee (by omega)))
/-- the rates that are tried -/
def Trd (ds : List Rec) (ys : List (Int × Int)) : Prop := ys ≠ [] ∧ ∀ p q, 0 ≤ p → 1 ≤ q → ∃ y ∈ ys, 0 ≤ y.1 ∧ 1 ≤ y.2 ∧ Abv ds p q y.1 y.2
theorem trd_of {k : Nat} {ds : List Rec} {es ys : List (Int × Int)} (C : Chg k ds es) (len : ys.length = (lowsL es).length) (h : ∀ i y l, ys[i]? = some y → (lowsL es)[i]? = some l → ResE l ((lowsL es)[i + 1]?.getD none) y.1 y.2) : Trd ds ys := by
  have fin : ∀ {p q N D : Int} {m : Nat}, 1 ≤ q → 1 ≤ D → (∀ j e, es[j]? = some e → (e.1 * q ≤ p * e.2 ↔ j < m)) → (∀ j e, es[j]? = some e → (j < m → e.1 * D < N * e.2) ∧ (m ≤ j → N * e.2 < e.1 * D)) → Abv ds p q N D := by
    intro p q N D m hq hD cut lie A B hAB
    obtain ⟨e, he, ee⟩ := C.all A B hAB
    obtain ⟨j, ej⟩ := List.mem_iff_getElem?.mp he
    have re := C.rt e he
    have nn := hAB.nn
    have c1 := cut j e ej
    obtain ⟨l1, l2⟩ := lie j e ej
    have b0 : 0 < B := by omega
    have e0 : 0 < e.2 := by have := re.q1; omega
    refine ⟨fun z => ?_, fun z => ?_⟩
    · have : e.1 * q ≤ p * e.2 := frac_trans b0 e0 (show 0 < q by omega) (Int.le_of_eq ee.symm) z
      exact frac_lt e0 b0 (show 0 < D by omega) (Int.le_of_eq ee) (l1 (c1.mp this))
    · have nj : ¬ j < m := fun w => by
        have := frac_trans e0 b0 (show 0 < q by omega) (Int.le_of_eq ee) (c1.mpr w)
        omega
      exact frac_lt' e0 (show 0 < D by omega) b0 (l2 (by omega)) (Int.le_of_eq ee.symm)
  have lst : ∀ i, i < (lowsL es).length → ∃ y l, y ∈ ys ∧ (lowsL es)[i]? = some l ∧ ResE l ((lowsL es)[i + 1]?.getD none) y.1 y.2 := fun i hi => by
    have ey : ys[i]? = some ys[i] := List.getElem?_eq_getElem (by omega)
    have el := List.getElem?_eq_getElem hi
    exact ⟨_, _, List.mem_of_getElem? ey, el, h i _ _ ey el⟩
  have mp : ∀ j, (es.map some)[j]?.getD none = es[j]? := fun j => by
    rw [List.getElem?_map]
    cases es[j]? <;> rfl
  refine ⟨fun e => ?_, fun p q hp hq => ?_⟩
  · rw [e] at len
    have : 0 < (lowsL es).length := by
      unfold lowsL
      by_cases c : es.take 1 = [(0, 1)]
      · rw [if_pos c, List.length_map]
        cases es with
        | nil => cases c
        | cons => exact Nat.succ_pos _
      · rw [if_neg c]
        exact Nat.succ_pos _
    simp at len
    omega
  · obtain ⟨m, hm, cut⟩ := asc_cut (p := p) hq C.up C.rt
    by_cases c : es.take 1 = [(0, 1)]
    · have e0 : es[0]? = some (0, 1) := by
        cases es with
        | nil => cases c
        | cons a r =>
          have : [a] = [((0 : Int), (1 : Int))] := c
          cases this
          rfl
      have m1 : 0 < m := (cut 0 _ e0).mp (by show 0 * q ≤ p * 1; omega)
      have el : lowsL es = es.map some := if_pos c
      obtain ⟨y, l, hy, hl, r⟩ := lst (m - 1) (by rw [el, List.length_map]; omega)
      rw [el] at hl r
      rw [mp] at r
      obtain ⟨l', hl', rfl⟩ : ∃ l', es[m - 1]? = some l' ∧ l = some l' := by
        rw [List.getElem?_map] at hl
        cases z : es[m - 1]? with
        | none =>
          rw [z] at hl
          cases hl
        | some l' =>
          rw [z] at hl
          exact ⟨l', rfl, (Option.some.inj hl).symm⟩
      obtain ⟨n0, d1, lie⟩ := mid_ok C.up C.rt hl' r
      refine ⟨y, hy, n0, d1, fin hq d1 cut fun j e ej => ?_⟩
      obtain ⟨a, b⟩ := lie j e ej
      exact ⟨fun z => a (by omega), fun z => b (by omega)⟩
    · have el : lowsL es = none :: es.map some := if_neg c
      obtain ⟨y, l, hy, hl, r⟩ := lst m (by rw [el, List.length_cons, List.length_map]; omega)
      rw [el] at hl r
      rw [List.getElem?_cons_succ, mp] at r
      cases m with
      | zero =>
        cases hl
        have r : y.1 = 0 ∧ y.2 = 1 := r
        refine ⟨y, hy, by omega, by omega, fin hq (by omega) cut fun j e ej => ⟨fun z => absurd z (Nat.not_lt_zero _), fun _ => ?_⟩⟩
        have re := C.rt e (List.mem_of_getElem? ej)
        have nl : ¬ e.1 * q ≤ p * e.2 := fun z => Nat.not_lt_zero _ ((cut j e ej).mp z)
        rw [r.1, r.2, Int.zero_mul, Int.mul_one]
        have := Int.mul_nonneg hp (show 0 ≤ e.2 by have := re.q1; omega)
        exact pos_of_mul (show 0 < e.1 * q by omega) (by omega)
      | succ m =>
        rw [List.getElem?_cons_succ] at hl
        obtain ⟨l', hl', rfl⟩ : ∃ l', es[m]? = some l' ∧ l = some l' := by
          rw [List.getElem?_map] at hl
          cases z : es[m]? with
          | none =>
            rw [z] at hl
            cases hl
          | some l' =>
            rw [z] at hl
            exact ⟨l', rfl, (Option.some.inj hl).symm⟩
        obtain ⟨n0, d1, lie⟩ := mid_ok C.up C.rt hl' r
        refine ⟨y, hy, n0, d1, fin hq d1 cut fun j e ej => ?_⟩
        obtain ⟨a, b⟩ := lie j e ej
        exact ⟨fun z => a (by omega), fun z => b (by omega)⟩
/-! ### fractions as places -/
def keyP (S : Int) (e : Int × Int) : Int := e.1 * S / e.2
theorem keyLe {S : Int} {a b : Int × Int} (hS : 0 ≤ S) (ha : 1 ≤ a.2) (hb : 1 ≤ b.2) (h : a.1 * b.2 ≤ b.1 * a.2) : keyP S a ≤ keyP S b := by
  unfold keyP
  have e := Int.ediv_mul_le (a.1 * S) (show a.2 ≠ 0 by omega)
  refine (Int.le_ediv_iff_mul_le (show 0 < b.2 by omega)).mpr ?_
  generalize a.1 * S / a.2 = x at *
  refine Int.le_of_mul_le_mul_right (a := a.2) ?_ (by omega)
  have h1 := Int.mul_le_mul_of_nonneg_right e (show 0 ≤ b.2 by omega)
  have h2 := Int.mul_le_mul_of_nonneg_right h hS
  have e1 : x * a.2 * b.2 = x * b.2 * a.2 := by grind
  have e2 : a.1 * S * b.2 = a.1 * b.2 * S := by grind
  have e3 : b.1 * S * a.2 = b.1 * a.2 * S := by grind
  omega
theorem keyLt {S : Int} {a b : Int × Int} (ha : 1 ≤ a.2) (hb : 1 ≤ b.2) (hS : a.2 * b.2 ≤ S) (h : a.1 * b.2 < b.1 * a.2) : keyP S a < keyP S b := by
  unfold keyP
  have e := Int.ediv_mul_le (a.1 * S) (show a.2 ≠ 0 by omega)
  have ab := Int.mul_pos (show 0 < a.2 by omega) (show 0 < b.2 by omega)
  suffices a.1 * S / a.2 + 1 ≤ b.1 * S / b.2 by omega
  refine (Int.le_ediv_iff_mul_le (show 0 < b.2 by omega)).mpr ?_
  generalize a.1 * S / a.2 = x at *
  refine Int.le_of_mul_le_mul_right (a := a.2) ?_ (by omega)
  have h1 := Int.mul_le_mul_of_nonneg_right e (show 0 ≤ b.2 by omega)
  have h2 := Int.mul_le_mul_of_nonneg_right (show a.1 * b.2 + 1 ≤ b.1 * a.2 by omega) (show 0 ≤ S by omega)
  have e1 : (x + 1) * b.2 * a.2 = x * a.2 * b.2 + a.2 * b.2 := by grind
  have e2 : a.1 * S * b.2 = a.1 * b.2 * S := by grind
  have e3 : b.1 * S * a.2 = b.1 * a.2 * S := by grind
  have e4 : (a.1 * b.2 + 1) * S = a.1 * b.2 * S + S := by grind
  omega
end Lf
namespace Lf
open PySem PySem.Spec PyProof.Rows L2
/-! ### sorted(d), ints as keys, any number of them; max(.., default=int); the square of a wide int; a dict comprehension over any walk -/
def rSortDI : List V → Hp → VK → Prop := fun xs H Q => ∃ (a : Addr) (kvs : List (Key × V)) (ks : List Int), xs = [.ref a] ∧ Rd H a (.dK kvs) ∧ kvs.map (·.1) = ks.map Sum.inl ∧
  ∀ (ys : List Int) (p : Addr), ys.Perm ks → ys.Pairwise (· ≤ ·) → H p = none → Q (.ref p) (upd H p (.lst (ys.map V.int)))
theorem cr_sortDI {X : Cx} (hc : X.calm = true) : CallR X (.builtin "sorted") rSortDI := by
  intro pins s σ H vs us Q I r hq
  obtain ⟨d, kvs, ks, rfl, hd, hks, kk⟩ := hq
  obtain ⟨z, big, ws, rel, dd⟩ := dk_rd I.hok hd
  obtain ⟨ep, at_⟩ := dd.dictAt
  have ek : ws.map (·.1) = ks.map Sum.inl := by rw [← hks, rel.keys]
  have el : ws.length = ks.length := by
    have := congrArg List.length ek
    simpa using this
  have ez : ws.length ≤ sizeLine := by
    have := rel.length
    omega
  rw [Vals.ref1 r]
  refine Calls.call_function_entry PyProof.Rows.kind_sorted PyProof.Rows.plain_sorted PyProof.Rows.entry_sorted (PyProof.Rows.args_sorted1 _) ?_
  unfold Builtin.«sorted»
  refine wpAny_bind (m := checkCount "sorted" 1 1 _) (wpAny_pure (wpAny_bind ?_))
  refine PySem.W.kdu_collect (A := X.A.in1) (PySem.W.kdl_dict (knd := mixKind X.prog X.w) (kvs := ws) (ep := ep) big) (I.ok.hd hc) at_ ez fun g tk acc kept ⟨al, each⟩ => ?_
  have hA : acc.toList.length = ks.length := by rw [Array.length_toList, al, el]
  have isI : IntsAre acc.toList ks := ints_each hA fun j v e => by
    rw [Array.getElem?_toList] at e
    obtain ⟨key, x, e1, e2⟩ := each j v e
    have e3 := congrArg (·[j]?) ek
    simp only [List.getElem?_map, e1, Option.map_some] at e3
    cases e4 : ks[j]? with
    | none =>
      rw [e4] at e3
      cases e3
    | some n =>
      rw [e4] at e3
      cases Option.some.inj e3
      rcases keyIs_shape (show keyIs (Sum.inl n) v = true from e2) with ⟨i, t, ei, ev⟩ | ⟨i, t, ei, ev⟩
      · cases ei
        exact ⟨n, t, rfl, ev⟩
      · cases ei
  have I1 : Inv X pins σ H { s with heap := g, toks := tk } := I.kept kept
  have zl : acc.toList.length ≤ sizeLine := by omega
  refine wpAny_bind (wpAny_newList ?_ zl)
  have own : (g.push (seqObj "list" acc.toList.toArray 0)).get? g.objs.size = some (seqObj "list" acc.toList.toArray 0) := Heap.get?_push_size _ rfl
  refine wpAny_bind (wpAny_holding (wpAny_call_entry PyProof.Rows.slot_list_sort ⟨_, own, rfl⟩ PyProof.Rows.entry_list_sort
    (SrtO.list_sort_ord (s := { s with heap := g.push (seqObj "list" acc.toList.toArray 0), toks := tk }) SrtO.swo_int own zl (fun two => SrtO.ints_sortable isI two) fun out so st => ⟨_, rfl, ?_⟩) (PyProof.Rows.args_list_sort _)))
  obtain ⟨i1, i2, i3⟩ := SrtO.ints_out isI so st
  obtain ⟨en, there⟩ := PyProof.Rows.sortedHeap_at (vs := acc.toList) (out := out.toArray) own
  have ol : ((out.map SrtO.iv).map V.int).length ≤ sizeLine := by
    rw [List.length_map, i2.length_eq]
    omega
  have new : ObjOk X.prog X.w (upd H g.objs.size (.lst ((out.map SrtO.iv).map V.int))) _ g.objs.size (.lst ((out.map SrtO.iv).map V.int)) := ⟨ol, out, en, vals_of_ints i1, there⟩
  refine wpAny_pure ⟨_, rfl, .ref g.objs.size, _, I1.laid (t' := tk) (fun b o e => ?_) (Nat.le_refl _) new, rfl, kk _ _ i2 i3 (I1.hok.fresh (Nat.le_refl _))⟩
  have lt : b < g.objs.size := Heap.lt_size e
  rw [PyProof.Rows.sortedHeap_old (Nat.ne_of_lt lt) (Nat.lt_of_lt_of_eq (Nat.lt_succ_of_lt lt) (size_push' ..).symm)]
  exact Heap.get?_push_of_some _ e
def rMxI (K : PySem.W.Frag) : List V → List V → Hp → VK → Prop := fun vs zs H Q => ∃ (a : Addr) (ns : List Int) (d : Int), vs = [V.ref a] ∧ zs = [.int d] ∧ SqL K H a (ns.map V.int) ∧ ∀ m, ((ns = [] ∧ m = d) ∨ IsMx ns (some m)) → Q (.int m) H
theorem cr_maxI {X : Cx} (hc : X.calm = true) (hu : X.A.units + 64 < cLine) : CallRK X (.builtin "max") [Str.ofString "default"] (rMxI X.K) := by
  intro pins s σ H xs zs us ws Q I r rz h
  obtain ⟨a, ns, d0, rfl, rfl, hs, q⟩ := h
  obtain ⟨its, rv, hl, _⟩ := I.list hs
  rw [Vals.ref1 r]
  obtain ⟨d, rfl, rd⟩ := vals1 rz
  obtain ⟨t0, rfl⟩ := rd
  refine PySem.W.max_list_datum_default (α := Int) (xs := ns) (I.ok.hd hc) hl.isList (by simpa using PySem.W.HoldAll.of_ints rv.ints) (by show _ + 1 + 0 < _; omega) (fun e h' tk hk => ⟨.int d0, H, I.kept hk, ⟨_, rfl⟩, q _ (.inl ⟨e, rfl⟩)⟩) fun y ys i v h' tk e hv hh hk => ?_
  obtain ⟨as, hr⟩ := hh
  obtain ⟨t, rfl⟩ : ∃ t, v = Value.int (PySem.W.maxOf y ys) t := by
    cases hr
    exact ⟨_, rfl⟩
  exact ⟨.int _, H, I.kept hk, ⟨_, rfl⟩, q _ (.inr (by rw [e]; exact maxOf_mx y ys))⟩
def CSq (i j : Int) : Prop := j = 2 ∧ Bd 100000 i
theorem op_sqW {X : Cx} : OpR X (binaryOp .Pow) (rI CSq fun i _ => .int (i * i)) := opI fun i j _ _ _ _ _ hc q => by
  obtain ⟨rfl, hb⟩ := hc
  refine pow_int (by decide) ?_ ?_
  · have h1 : Builtin.Int.intBits i ≤ 100000 := intBits_le_iff.mpr hb
    have h3 : (Builtin.Int.intBits i : Int) * 2 ≤ 100000 * 2 := Int.mul_le_mul_of_nonneg_right (by omega) (by decide)
    exact Int.le_trans h3 (by decide)
  · have e : i ^ (2 : Int).toNat = i * i := by
      show i ^ 2 = i * i
      rw [Int.pow_succ, Int.pow_succ, Int.pow_zero, Int.one_mul]
    rw [e]
    exact q
theorem dc_it {J : It} {n : Nat} {G : Hp → Prop} {Y : Nat → Hp → V → Hp → Prop} (wk : Walk J n G Y) {g : TG} {tt : TT} {tk tv : TE} {vs : List Nat} {σ : L2.St} {H1 : Hp} {D : Addr} {Qd : Hp → Prop} (Pv : Nat → Hp → Prop) (h0 : Pv 0 (upd H1 D (.dK []))) (hG : ∀ i H, i ≤ n → Pv i H → G H)
    (hs : ∀ i x H H', i < n → Pv i H → Y i H x H' → g x (wipe σ vs) H' fun σ2 H2 => wipe σ2 vs = wipe σ vs ∧ tt σ2 H2 fun b H3 =>
      if b = true then tk σ2 H3 fun y H4 => tv σ2 H4 fun z H5 => ∃ kvs k, y = kV k ∧ H5 D = some (.dK kvs) ∧ kvs.length < sizeLine ∧ Pv (i + 1) (upd H5 D (.dK (putK kvs k z))) else Pv (i + 1) H3) (hd : ∀ H, Pv n H → Qd H) :
    ∃ W : Nat → Nat → Hp → Prop, (∃ m, W 0 m (upd H1 D (.dK []))) ∧ ∀ i m H, W i m H →
      (J.stop i H ∧ Qd H) ∨ (J.go i H ∧ ∃ Nx : Hp → Prop, (∀ H', Nx H' → ∃ m', m' < m ∧ W (i + 1) m' H') ∧ ∀ x H', J.yld i H x H' → g x (wipe σ vs) H' fun σ2 H2 => wipe σ2 vs = wipe σ vs ∧ tt σ2 H2 fun b H3 =>
        if b = true then tk σ2 H3 fun y H4 => tv σ2 H4 fun z H5 => ∃ kvs k, y = kV k ∧ H5 D = some (.dK kvs) ∧ kvs.length < sizeLine ∧ Nx (upd H5 D (.dK (putK kvs k z))) else Nx H3) := by
  refine ⟨fun i m H => m + i = n ∧ Pv i H, ⟨n, rfl, h0⟩, fun i m H ⟨hm, p⟩ => ?_⟩
  have st := hG i H (by omega) p
  match m, hm with
  | 0, hm =>
    obtain rfl : i = n := by omega
    exact .inl ⟨wk.stops H st, hd H p⟩
  | m + 1, hm => exact .inr ⟨wk.goes i H (by omega) st, Pv (i + 1), fun H' p' => ⟨m, by omega, by omega, p'⟩, fun x H' y => hs i x H H' (by omega) p (wk.yields i H x H' (by omega) st y)⟩
end Lf
namespace Lf
open PySem PySem.Spec PyProof.Rows L2
/-! ### changing_rates -/
def cnd (x y : T3) : Prop := x.2.1 ≠ y.2.1 ∧ 0 ≤ (x.2.2 - y.2.2 - 1) * (x.2.1 - y.2.1)
/-- what was found of the pairs looked at -/
structure FndI (k : Nat) (fs : List (Int × Int)) (S : T3 → T3 → Prop) : Prop where
  rt : ∀ e ∈ fs, Rt (k + 2) e.1 e.2
  all : ∀ x y, S x y → cnd x y → ∃ e ∈ fs, absI (x.2.2 - y.2.2 - 1) * e.2 = e.1 * absI (x.2.1 - y.2.1)
theorem FndI.congr {k : Nat} {fs : List (Int × Int)} {S S' : T3 → T3 → Prop} (h : FndI k fs S) (e : ∀ x y, S' x y → S x y) : FndI k fs S' := ⟨h.rt, fun x y s c => h.all x y (e x y s) c⟩
theorem FndI.skip {k : Nat} {fs : List (Int × Int)} {S : T3 → T3 → Prop} {x y : T3} (h : FndI k fs S) (n : ¬ cnd x y) : FndI k fs (fun x' y' => S x' y' ∨ (x' = x ∧ y' = y)) := ⟨h.rt, fun x' y' s c => by
  rcases s with s | ⟨rfl, rfl⟩
  · exact h.all x' y' s c
  · exact absurd c n⟩
theorem FndI.put {k : Nat} {fs : List (Int × Int)} {S : T3 → T3 → Prop} {x y : T3} {e : Int × Int} (h : FndI k fs S) (r : Rt (k + 2) e.1 e.2) (z : absI (x.2.2 - y.2.2 - 1) * e.2 = e.1 * absI (x.2.1 - y.2.1)) : FndI k (fs ++ [e]) (fun x' y' => S x' y' ∨ (x' = x ∧ y' = y)) := by
  refine ⟨fun e' he => ?_, fun x' y' s c => ?_⟩
  · rcases List.mem_append.mp he with he | he
    · exact h.rt e' he
    · rw [List.mem_singleton.mp he]
      exact r
  · rcases s with s | ⟨rfl, rfl⟩
    · obtain ⟨e', he, q⟩ := h.all x' y' s c
      exact ⟨e', List.mem_append.mpr (.inl he), q⟩
    · exact ⟨e, List.mem_append.mpr (.inr (List.mem_singleton.mpr rfl)), z⟩
theorem abs_bd {k : Nat} {i : Int} (h : Bd k i) : Bd k (absI i) := by
  unfold absI
  unfold Bd at *
  split <;> omega
theorem red_cross {A B : Int} (hB : 1 ≤ B) : A * (B / (Int.gcd A B : Int)) = A / (Int.gcd A B : Int) * B := by
  have e1 : (Int.gcd A B : Int) * (A / (Int.gcd A B : Int)) = A := Int.mul_ediv_cancel' (Int.gcd_dvd_left ..)
  have e2 : (Int.gcd A B : Int) * (B / (Int.gcd A B : Int)) = B := Int.mul_ediv_cancel' (Int.gcd_dvd_right ..)
  generalize (Int.gcd A B : Int) = g at *
  generalize A / g = a at *
  generalize B / g = b at *
  subst e1
  subst e2
  grind
/-- places: a dict of fractions by their keys -/
structure Plc (H : Hp) (S : Int) (fs : List (Int × Int)) (kvs : List (Key × V)) : Prop where
  ks : ∃ ns : List Int, kvs.map (·.1) = ns.map Sum.inl
  nd : (kvs.map (·.1)).Nodup
  fr : ∀ n v, valV kvs (Sum.inl n) = some v → ∃ r e, v = .ref r ∧ H r = some (ptO e) ∧ e ∈ fs ∧ keyP S e = n
  al : ∀ e ∈ fs, (valV kvs (Sum.inl (keyP S e))).isSome = true
theorem put_keys {kvs : List (Key × V)} {k : Key} {v : V} : (putK kvs k v).map (·.1) = if (valV kvs k).isSome = true then kvs.map (·.1) else kvs.map (·.1) ++ [k] := by
  unfold putK
  rw [valV_any]
  by_cases c : (valV kvs k).isSome = true
  · rw [if_pos c, if_pos c, List.map_map]
    refine List.map_congr_left fun p _ => ?_
    show (if p.1 = k then (p.1, v) else p).1 = p.1
    split <;> rfl
  · rw [if_neg c, if_neg c, List.map_append]
    rfl
theorem Plc.put {H H' : Hp} {S : Int} {fs : List (Int × Int)} {kvs : List (Key × V)} {e : Int × Int} {t : Addr} (P : Plc H S fs kvs) (s : ∀ b o, H b = some (ptO o) → H' b = some (ptO o)) (et : H' t = some (ptO e)) : Plc H' S (fs ++ [e]) (putK kvs (Sum.inl (keyP S e)) (.ref t)) := by
  obtain ⟨ns, hns⟩ := P.ks
  refine ⟨?_, ?_, fun n v hv => ?_, fun e' he => ?_⟩
  · rw [put_keys]
    by_cases c : (valV kvs (Sum.inl (keyP S e))).isSome = true
    · rw [if_pos c]
      exact ⟨ns, hns⟩
    · rw [if_neg c]
      exact ⟨ns ++ [keyP S e], by rw [hns, List.map_append]; rfl⟩
  · rw [put_keys]
    by_cases c : (valV kvs (Sum.inl (keyP S e))).isSome = true
    · rw [if_pos c]
      exact P.nd
    · rw [if_neg c]
      refine nd_snoc P.nd (valV_not ?_)
      cases z : valV kvs (Sum.inl (keyP S e)) with
      | none => rfl
      | some x =>
        rw [z] at c
        exact absurd rfl c
  · rw [valV_put] at hv
    by_cases c : (Sum.inl n : Key) = Sum.inl (keyP S e)
    · rw [if_pos c] at hv
      cases hv
      exact ⟨t, e, rfl, et, List.mem_append.mpr (.inr (List.mem_singleton.mpr rfl)), (Sum.inl.inj c).symm⟩
    · rw [if_neg c] at hv
      obtain ⟨r, e', h1, h2, h3, h4⟩ := P.fr n v hv
      exact ⟨r, e', h1, s _ _ h2, List.mem_append.mpr (.inl h3), h4⟩
  · rw [valV_put]
    by_cases c : (Sum.inl (keyP S e') : Key) = Sum.inl (keyP S e)
    · rw [if_pos c]
      rfl
    · rw [if_neg c]
      rcases List.mem_append.mp he with he | he
      · exact P.al e' he
      · rw [List.mem_singleton.mp he] at c
        exact absurd rfl c
theorem Plc.len {H : Hp} {S : Int} {fs : List (Int × Int)} {kvs : List (Key × V)} (P : Plc H S fs kvs) {ys ns : List Int} (e : kvs.map (·.1) = ns.map Sum.inl) (pm : ys.Perm ns) (up : ys.Pairwise (· ≤ ·)) : ys.Pairwise (· < ·) ∧ (∀ y ∈ ys, ∃ r e, valV kvs (Sum.inl y) = some (.ref r) ∧ H r = some (ptO e) ∧ e ∈ fs ∧ keyP S e = y) ∧ ∀ e ∈ fs, keyP S e ∈ ys := by
  have nd : ns.Nodup := by
    have := P.nd
    rw [e] at this
    exact (List.pairwise_map.mp this).imp fun g z => g (congrArg _ z)
  refine ⟨?_, fun y hy => ?_, fun f hf => ?_⟩
  · have := (pm.nodup_iff.mpr nd)
    exact (up.and this).imp fun ⟨a, b⟩ => by omega
  · have my : (Sum.inl y : Key) ∈ kvs.map (·.1) := by
      rw [e]
      exact List.mem_map.mpr ⟨y, pm.mem_iff.mp hy, rfl⟩
    cases z : valV kvs (Sum.inl y) with
    | none => exact absurd my (valV_not z)
    | some v =>
      obtain ⟨r, f, rfl, h2, h3, h4⟩ := P.fr y v z
      exact ⟨r, f, rfl, h2, h3, h4⟩
  · obtain ⟨v, hv⟩ := Option.isSome_iff_exists.mp (P.al f hf)
    have := valV_in hv
    rw [e] at this
    obtain ⟨n, hn, en⟩ := List.mem_map.mp this
    rw [← Sum.inl.inj en]
    exact pm.mem_iff.mpr hn
/-- the fractions by their ascending places -/
theorem chg_of {k : Nat} {ds : List Rec} {S : Int} {fs es : List (Int × Int)} {ys : List Int} (F : FndI k fs fun x y => x ∈ sel true 0 ds ∧ y ∈ sel false 0 ds) (hS : 1 ≤ S) (sc : ∀ a ∈ fs, ∀ b ∈ fs, a.2 * b.2 ≤ S) (e : es.map (keyP S) = ys) (mem : ∀ a ∈ es, a ∈ fs) (up : ys.Pairwise (· < ·)) (all : ∀ a ∈ fs, keyP S a ∈ ys) : Chg (k + 2) ds es := by
  refine ⟨?_, fun a ha => F.rt a (mem a ha), fun A B h => ?_⟩
  · rw [← e] at up
    refine (List.pairwise_map.mp up).imp_of_mem fun {a b} ha hb lt => ?_
    refine Int.not_le.mp fun z => ?_
    have := keyLe (S := S) (by omega) (F.rt b (mem b hb)).q1 (F.rt a (mem a ha)).q1 z
    omega
  · obtain ⟨d, hd, f, hf, ld, lf, ne, nn, rfl, rfl⟩ := h
    obtain ⟨i, ei⟩ := List.mem_iff_getElem?.mp hd
    obtain ⟨j, ej⟩ := List.mem_iff_getElem?.mp hf
    have nB : 1 ≤ absI (d.t - f.t) := by
      unfold absI
      split <;> omega
    obtain ⟨a, ha, ea⟩ := F.all _ _ ⟨mem_sel ei ld 0, mem_sel ej lf 0⟩ ⟨ne, nn⟩
    have ea : absI (d.n - f.n - 1) * a.2 = a.1 * absI (d.t - f.t) := ea
    have ka := all a ha
    rw [← e] at ka
    obtain ⟨b, hb, eb⟩ := List.mem_map.mp ka
    have ra := F.rt a ha
    have rb := F.rt b (mem b hb)
    have ra1 := ra.q1
    have rb1 := rb.q1
    have c1 : ¬ a.1 * b.2 < b.1 * a.2 := fun z => by
      have := keyLt ra1 rb1 (sc a ha b (mem b hb)) z
      omega
    have c2 : ¬ b.1 * a.2 < a.1 * b.2 := fun z => by
      have := keyLt rb1 ra1 (sc b (mem b hb) a ha) z
      omega
    refine ⟨b, hb, Int.le_antisymm ?_ ?_⟩
    · exact frac_trans (show 0 < a.2 by omega) (show 0 < absI (d.t - f.t) by omega) (show 0 < b.2 by omega) (Int.le_of_eq ea) (by omega)
    · exact frac_trans (show 0 < a.2 by omega) (show 0 < b.2 by omega) (show 0 < absI (d.t - f.t) by omega) (by omega) (Int.le_of_eq ea.symm)
end Lf
namespace Lf
open PySem PySem.Spec PyProof.Rows L2
section
variable {P : Program} {w : World} {K : PySem.W.Frag} {mg : Str → Option Value} {base : Heap}
def spChg : Sp := fun vs H Q _ => ∃ (L : Addr) (kb : Bool) (xs : List V) (ds : List Rec) (k : Nat), vs = [.ref L] ∧ H L = some (sqO kb xs) ∧ Obs rcO H xs ds ∧ ds.length ≤ 40 ∧ RcB k ds ∧ 0 < k ∧ k ≤ 4000 ∧
  ∀ R H' us es, Same H H' → H R = none → H' R = some (.lst us) → Obs ptO H' us es → Chg (k + 2) ds es → es.length ≤ 2000 → Q (.ref R) H'
abbrev s_changing_rates : Stmt := topS 30
abbrev N_changing_rates : List Str := ["records", "lows", "highs", "found", "i", "t", "n", "j", "u", "m", "scale", "places", "p", "q", "place"]
abbrev P_changing_rates : List Str := ["records"]
theorem sc_changing_rates : FnScope N_changing_rates P_changing_rates (defScope s_changing_rates) := ⟨rfl, rfl, rfl, by decide +kernel, rfl, by decide +kernel, by decide +kernel⟩
theorem ok_changing_rates (D : Df K mg "changing_rates" s_changing_rates P_changing_rates) (B : Bi mg) (c_split_records : C8.Cal P w K mg base 1 "split_records" spSplitS []) (c_reduce_rate : C8.Cal P w K mg base 2 "reduce_rate" spRedR []) : C8.Cal P w K mg base 3 "changing_rates" spChg [] := by
  refine cal_of D sc_changing_rates (fun vs H Q E h => ?_) (fun f cdv A outer s H vs Q E hr h => ?_)
  · obtain ⟨L, kb, xs, ds, k, rfl, _⟩ := h
    rfl
  · obtain ⟨L, kb, xs, ds, k, rfl, eL, oL, ll, bd, k0, k1, kk⟩ := h
    have hu := hu_of hr
    refine ⟨_, (pss_cons (ps_asg (C8.pe_c c_split_records hr (by decide) (by rfl) (pa_cons (pv 0) pa_nil)) (pg_tup rfl (pgs_cons (pg_name (i := 1) sc_changing_rates.nd rfl (Or.inl rfl)) (pgs_cons (pg_name (i := 2) sc_changing_rates.nd rfl (Or.inl rfl)) pgs_nil))))
    (pss_cons (ps_set (i := 3) sc_changing_rates.nd rfl (Or.inl rfl) (pe_lst pa_nil))
    (pss_cons (ps_for PassesOwn.never rfl (pi_list (pv 1)) (pg_tup rfl (pgs_cons (pg_name (i := 4) sc_changing_rates.nd rfl (Or.inl rfl)) (pgs_cons (pg_name (i := 5) sc_changing_rates.nd rfl (Or.inl rfl)) (pgs_cons (pg_name (i := 6) sc_changing_rates.nd rfl (Or.inl rfl)) pgs_nil))))
      (pss_one (ps_for PassesOwn.never rfl (pi_list (pv 2)) (pg_tup rfl (pgs_cons (pg_name (i := 7) sc_changing_rates.nd rfl (Or.inl rfl)) (pgs_cons (pg_name (i := 8) sc_changing_rates.nd rfl (Or.inl rfl)) (pgs_cons (pg_name (i := 9) sc_changing_rates.nd rfl (Or.inl rfl)) pgs_nil))))
      (pss_one (ps_if (PW.pt (pw_and (pt_cmpR op_ne (pv 5) (pv 8) (nomark _)) (pw_and1 (pt_cmpR op_ge (pe_op op_mulW (pe_op op_sub (pe_op op_sub (pv 6) (pv 9)) pe_int) (pe_op op_sub (pv 5) (pv 8))) pe_int (nomark _)))))
      (pss_one (ps_expr (pe_bm PySem.F.plainAttrs_list PySem.F.slot_list_append PySem.F.type_list_append mt_append (pv 3) (pa_cons (C8.pe_c c_reduce_rate hr (by decide) (by rfl) (pa_cons (pe_callB (call_abs) (by rfl) B.abs_ bt_abs (pa_cons (pe_op op_sub (pe_op op_sub (pv 6) (pv 9)) pe_int) pa_nil)) (pa_cons (pe_callB (call_abs) (by rfl) B.abs_ bt_abs (pa_cons (pe_op op_sub (pv 5) (pv 8)) pa_nil)) pa_nil))) pa_nil))))
      pss_nil)))))
    (pss_cons (ps_set (i := 10) sc_changing_rates.nd rfl (Or.inr rfl) (pe_op op_sqW (pe_callBK (cr_maxI rfl hr.units) (by rfl) B.max_ bt_max (pa_cons (pe_lc (own := [("p", 12), ("q", 13)]) (g := (gTup K 2 (gCons (gName 12) (gCons (gName 13) gNil)))) (by rfl) sc_changing_rates.nd (pi_list (pv 3)) (blkOk_by (own := [("p", 12), ("q", 13)]) (N := N_changing_rates) (sc := defScope s_changing_rates) (by decide +kernel)) (fun _ _ _ _ _ => (pg_tup rfl (pgs_cons (pg_name (i := 12) sc_changing_rates.nd rfl (Or.inl rfl)) (pgs_cons (pg_name (i := 13) sc_changing_rates.nd rfl (Or.inl rfl)) pgs_nil)))) (fun _ _ _ _ _ => pts_nil) (fun _ _ _ _ _ => (pv 13))) pa_nil) (pk_cons pe_int pk_nil)) pe_int))
    (pss_cons (ps_set (i := 11) sc_changing_rates.nd rfl (Or.inr rfl) (pe_dc (own := [("p", 12), ("q", 13)]) (g := (gTup K 2 (gCons (gName 12) (gCons (gName 13) gNil)))) (by rfl) sc_changing_rates.nd (pi_list (pv 3)) (blkOk_by (own := [("p", 12), ("q", 13)]) (N := N_changing_rates) (sc := defScope s_changing_rates) (by decide +kernel)) (fun _ _ _ _ _ => (pg_tup rfl (pgs_cons (pg_name (i := 12) sc_changing_rates.nd rfl (Or.inl rfl)) (pgs_cons (pg_name (i := 13) sc_changing_rates.nd rfl (Or.inl rfl)) pgs_nil)))) (fun _ _ _ _ _ => pts_nil) (fun _ _ _ _ _ => (pe_op op_fdivW (pe_op op_mulW (pv 12) (pv 10)) (pv 13))) (fun _ _ _ _ _ => (pe_tup (pa_cons (pv 12) (pa_cons (pv 13) pa_nil))))))
    (pss_one (ps_ret (pe_lc (own := [("place", 14)]) (g := (gName 14)) (by rfl) sc_changing_rates.nd (pi_list (pe_callB ((cr_sortDI rfl)) (by rfl) B.sorted_ bt_sorted (pa_cons (pv 11) pa_nil))) (blkOk_by (own := [("place", 14)]) (N := N_changing_rates) (sc := defScope s_changing_rates) (by decide +kernel)) (fun _ _ _ _ _ => (pg_name (i := 14) sc_changing_rates.nd rfl (Or.inl rfl))) (fun _ _ _ _ _ => pts_nil) (fun _ _ _ _ _ => (pe_dget hu (pv 11) (pv 14) (fun _ _ => rfl))))))))))), ?_⟩
    have lz : ∀ n : Nat, n ≤ 2000 → n < sizeLine := fun n hn => Nat.lt_of_le_of_lt hn (by decide)
    refine ⟨_, rfl, L, kb, xs, ds, rfl, eL, oL, by omega, fun T H1 A' B' as bs s1 eT eA oA eB oB => ?_⟩
    refine ⟨T, _, rfl, SqT.of eT, rfl, _, _, rfl, _, _, rfl, rfl, ?_⟩
    have zA := sel_len true 0 ds
    have zB := sel_len false 0 ds
    have lA := oA.len
    have lB := oB.len
    have eA0 := eA
    have eB0 := eB
    refine ⟨len10 (by simp), fun F nF => ?_⟩
    have zF := sm_upd (o := .lst []) nF
    have eF := upd_same (H := H1) (a := F) (o := .lst [])
    have eA := zF _ _ eA
    have eB := zF _ _ eB
    have oA := oA.same zF
    have oB := oB.same zF
    have nF0 : H F = none := Same.nf s1 nF
    have neAF : A' ≠ F := ne_of_none eA0 nF
    have neBF : B' ≠ F := ne_of_none eB0 nF
    have s2 := s1.trans zF
    generalize upd H1 F (.lst []) = H2 at zF eF eA eB oA oB s2 ⊢
    clear s1 zF nF eT
    refine ⟨_, rfl, A', rfl, ⟨_, SqL.of eA⟩, ?_⟩
    refine for_list (K := K) (a := A') (xs := as) (fun i σ H' => ∃ (us : List V) (fs : List (Int × Int)) (y4 y5 y6 y7 y8 y9 : Option V), σ = [some (.ref L), some (.ref A'), some (.ref B'), some (.ref F), y4, y5, y6, y7, y8, y9, none, none, none, none, none] ∧ (∀ b o, b ≠ F → H2 b = some o → H' b = some o) ∧ H' F = some (.lst us) ∧ Obs ptO H' us fs ∧ fs.length ≤ i * 40 ∧ FndI k fs (fun x y => x ∈ (sel true 0 ds).take i ∧ y ∈ sel false 0 ds)) ?_ ?_ ?_ ?_
    · exact ⟨[], [], _, _, _, _, _, _, rfl, fun _ _ _ e => e, eF, .nil, Nat.zero_le _, fun e h => (nomatch h), fun x y h => (nomatch h.1)⟩
    · rintro i σ H' _ ⟨_, _, _, _, _, _, _, _, _, s', _⟩
      exact SqL.of (s' _ _ neAF eA)
    · rintro i v σ H3 hv ⟨us, fs, y4, y5, y6, y7, y8, y9, rfl, s3, e3, o3, l3, I3⟩
      have eA3 := s3 _ _ neAF eA
      have eB3 := s3 _ _ neBF eB
      have oA3 : Obs trO H3 as (sel true 0 ds) := oA.keep fun b d e => s3 _ _ (ne_of e eF (by intro z; cases z)) e
      obtain ⟨r, x, rfl, er, hx⟩ := oA3.at hv
      have xb := sel_bd bd (List.mem_of_getElem? hx)
      have hi := (List.getElem?_eq_some_iff.mp hx).1
      refine ⟨r, _, rfl, SqT.of er, rfl, _, _, rfl, _, _, rfl, _, _, rfl, rfl, ?_⟩
      refine ⟨_, rfl, B', rfl, ⟨_, SqL.of eB3⟩, ?_⟩
      refine for_list (K := K) (a := B') (xs := bs) (fun j σ H' => ∃ (us : List V) (fs : List (Int × Int)) (y7 y8 y9 : Option V), σ = [some (.ref L), some (.ref A'), some (.ref B'), some (.ref F), some (.int x.1), some (.int x.2.1), some (.int x.2.2), y7, y8, y9, none, none, none, none, none] ∧ (∀ b o, b ≠ F → H2 b = some o → H' b = some o) ∧ H' F = some (.lst us) ∧ Obs ptO H' us fs ∧ fs.length ≤ i * 40 + j ∧ FndI k fs (fun x' y' => (x' ∈ (sel true 0 ds).take i ∧ y' ∈ sel false 0 ds) ∨ (x' = x ∧ y' ∈ (sel false 0 ds).take j))) ?_ ?_ ?_ ?_
      · exact ⟨us, fs, _, _, _, rfl, s3, e3, o3, l3, I3.congr fun x' y' z => z.elim id fun z => (nomatch z.2)⟩
      · rintro j σ H' _ ⟨_, _, _, _, _, _, s', _⟩
        exact SqL.of (s' _ _ neBF eB)
      · clear I3 o3 l3 e3 us fs eA3 oA3 eB3 er s3
        rintro j v σ H4 hv2 ⟨us, fs, y7, y8, y9, rfl, s4, e4, o4, l4, I4⟩
        have oB4 : Obs trO H4 bs (sel false 0 ds) := oB.keep fun b d e => s4 _ _ (ne_of e eF (by intro z; cases z)) e
        obtain ⟨r2, y, rfl, er2, hy⟩ := oB4.at hv2
        have yb := sel_bd bd (List.mem_of_getElem? hy)
        have hj := (List.getElem?_eq_some_iff.mp hy).1
        have cg : ∀ {fs' : List (Int × Int)}, FndI k fs' (fun x' y' => ((x' ∈ (sel true 0 ds).take i ∧ y' ∈ sel false 0 ds) ∨ (x' = x ∧ y' ∈ (sel false 0 ds).take j)) ∨ (x' = x ∧ y' = y)) → FndI k fs' (fun x' y' => (x' ∈ (sel true 0 ds).take i ∧ y' ∈ sel false 0 ds) ∨ (x' = x ∧ y' ∈ (sel false 0 ds).take (j + 1))) := fun h => h.congr fun x' y' z => by
          rw [List.take_add_one, hy] at z
          rcases z with z | ⟨z1, z2⟩
          · exact .inl (.inl z)
          · rcases List.mem_append.mp z2 with z2 | z2
            · exact .inl (.inr ⟨z1, z2⟩)
            · exact .inr ⟨z1, List.mem_singleton.mp z2⟩
        refine ⟨r2, _, rfl, SqT.of er2, rfl, _, _, rfl, _, _, rfl, _, _, rfl, rfl, ?_⟩
        have b1 : Bd (k + 2) (x.2.2 - y.2.2 - 1) := Bd.sub (Bd.sub xb.2 yb.2) (Bd.small 1 (by decide) (by omega))
        have b2 : Bd (k + 1) (x.2.1 - y.2.1) := Bd.sub xb.1 yb.1
        have nc : ¬ cnd x y → ∃ (us' : List V) (fs' : List (Int × Int)) (y7' y8' y9' : Option V), [some (V.ref L), some (.ref A'), some (.ref B'), some (.ref F), some (.int x.1), some (.int x.2.1), some (.int x.2.2), some (.int y.1), some (.int y.2.1), some (.int y.2.2), none, none, none, none, none] = [some (.ref L), some (.ref A'), some (.ref B'), some (.ref F), some (.int x.1), some (.int x.2.1), some (.int x.2.2), y7', y8', y9', none, none, none, none, none] ∧ (∀ b o, b ≠ F → H2 b = some o → H4 b = some o) ∧ H4 F = some (.lst us') ∧ Obs ptO H4 us' fs' ∧ fs'.length ≤ i * 40 + (j + 1) ∧ FndI k fs' (fun x' y' => (x' ∈ (sel true 0 ds).take i ∧ y' ∈ sel false 0 ds) ∨ (x' = x ∧ y' ∈ (sel false 0 ds).take (j + 1))) := fun n =>
          ⟨us, fs, _, _, _, rfl, s4, e4, o4, by omega, cg (I4.skip n)⟩
        refine ⟨_, rfl, _, rfl, rfl, _, rfl, ite2 (fun c1 => ?_) (fun c1 => ?_)⟩
        · have c1 : x.2.1 ≠ y.2.1 := fun z => by
            rw [z] at c1
            simp at c1
          refine ⟨_, rfl, _, rfl, _, _, rfl, rfl, _, _, rfl, rfl, _, rfl, _, rfl, _, _, rfl, rfl, _, _, rfl, rfl, mulW b1 b2 (by omega) (by omega) (by omega), _, _, rfl, rfl, _, rfl, ite2 (fun c2 => ?_) (fun c2 => ?_)⟩
          · have c2 : 0 ≤ (x.2.2 - y.2.2 - 1) * (x.2.1 - y.2.1) := of_decide_eq_true c2
            have nB : 1 ≤ absI (x.2.1 - y.2.1) := by
              unfold absI
              split <;> omega
            refine ⟨_, rfl, .inl ⟨rfl, _, SqL.of e4⟩, ?_⟩
            refine ⟨_, rfl, _, rfl, _, _, rfl, rfl, _, _, rfl, rfl, _, rfl, _, rfl, _, rfl, _, _, rfl, rfl, _, rfl, absI (x.2.2 - y.2.2 - 1), absI (x.2.1 - y.2.1), rfl, abs_nn _, nB, (abs_bd b2).mono (by omega), fun r5 H5 s5 nr5 er5 => ?_⟩
            refine ⟨F, _, _, rfl, rfl, s5 _ _ e4, lz _ (by have := o4.len; omega), ?_⟩
            have n5 : r5 ≠ F := fun z => by
              rw [z, e4] at nr5
              cases nr5
            have rt5 := redRt (abs_nn _) nB (abs_bd b1) ((abs_bd b2).mono (show k + 1 ≤ k + 2 by omega))
            refine ⟨us ++ [.ref r5], fs ++ [(absI (x.2.2 - y.2.2 - 1) / (Int.gcd (absI (x.2.2 - y.2.2 - 1)) (absI (x.2.1 - y.2.1)) : Int), absI (x.2.1 - y.2.1) / (Int.gcd (absI (x.2.2 - y.2.2 - 1)) (absI (x.2.1 - y.2.1)) : Int))], _, _, _, rfl, fun b o h1 h2 => ?_, upd_same, ?_, by rw [List.length_append]; show fs.length + 1 ≤ _; omega, cg (I4.put rt5 (red_cross nB))⟩
            · rw [upd_ne h1]
              exact s5 _ _ (s4 _ _ h1 h2)
            · refine Obs.snoc ((o4.same s5).keep fun b d e => ?_) ?_
              · rw [upd_ne (ne_of e (s5 _ _ e4) (by intro z; cases z))]
                exact e
              · rw [upd_ne n5]
                exact er5
          · exact nc fun z => c2 (decide_eq_true z.2)
        · exact nc fun z => c1 (by
            rw [decide_eq_false (fun w => z.1 (V.int.inj w))]
            rfl)
      · rintro σ H4 ⟨us, fs, y7, y8, y9, rfl, s4, e4, o4, l4, I4⟩
        refine ⟨us, fs, _, _, _, _, _, _, rfl, s4, e4, o4, by rw [Nat.succ_mul]; omega, I4.congr fun x' y' ⟨z1, z2⟩ => ?_⟩
        rw [List.take_add_one, hx] at z1
        rcases List.mem_append.mp z1 with z1 | z1
        · exact .inl ⟨z1, z2⟩
        · exact .inr ⟨List.mem_singleton.mp z1, by rw [List.take_of_length_le (l := sel false 0 ds) (by omega)]; exact z2⟩
    · rintro σ H3 ⟨us, fs, y4, y5, y6, y7, y8, y9, rfl, s3, e3, o3, l3, I3⟩
      have lf : fs.length ≤ 1600 := by omega
      have F3 : FndI k fs (fun x y => x ∈ sel true 0 ds ∧ y ∈ sel false 0 ds) := I3.congr fun x y ⟨a, b⟩ => ⟨by rw [List.take_of_length_le (by omega)]; exact a, b⟩
      have s3' : Same H H3 := fun b o e => s3 b o (ne_of_none e nF0) (s2 _ _ e)
      have lu := o3.len
      clear I3 l3 s3 s2 eF eA eB oA oB
      -- the scale
      refine ⟨_, rfl, F, rfl, ⟨_, SqL.of e3⟩, fun Dq nq => ?_⟩
      refine lc_list (K := K) (a := F) (xs := us) (fun i H' => Same H3 H' ∧ H' Dq = some (.lst (((fs.take i).map (·.2)).map V.int))) ⟨sm_upd nq, upd_same⟩ ?_ ?_ ?_
      · rintro i H' _ ⟨s', _⟩
        exact SqL.of (s' _ _ e3)
      · rintro i v H' hv ⟨s', e'⟩
        obtain ⟨r, e, rfl, er, he⟩ := o3.at hv
        refine ⟨r, _, rfl, SqT.of (s' _ _ er), rfl, _, _, rfl, _, _, rfl, rfl, rfl, _, rfl, _, e', lz _ (by rw [List.length_map, List.length_map, List.length_take]; omega), ?_, ?_⟩
        · intro b o eb
          rw [upd_ne (ne_of_none eb nq)]
          exact s' _ _ eb
        · rw [upd_same, List.take_add_one, he, List.map_append, List.map_append]
          rfl
      rintro H4 ⟨s4, e4⟩
      rw [List.take_of_length_le (by omega)] at e4
      refine ⟨Dq, fs.map (·.2), 1, rfl, rfl, SqL.of e4, fun M hM => ?_⟩
      obtain ⟨M1, MB, Mall⟩ : 1 ≤ M ∧ Bd (k + 2) M ∧ ∀ e ∈ fs, e.2 ≤ M := by
        rcases hM with ⟨h1, rfl⟩ | hM
        · have : fs = [] := List.map_eq_nil_iff.mp h1
          subst this
          exact ⟨by omega, Bd.small 1 (by decide) (by omega), fun e h => (nomatch h)⟩
        · obtain ⟨e, he, rfl⟩ := List.mem_map.mp hM.1
          exact ⟨(F3.rt e he).q1, (F3.rt e he).bq, fun e' h' => hM.2 _ (List.mem_map.mpr ⟨e', h', rfl⟩)⟩
      refine ⟨_, _, rfl, rfl, ⟨rfl, MB.mono (by omega)⟩, ?_⟩
      obtain ⟨S, hS⟩ : ∃ S, S = M * M := ⟨_, rfl⟩
      have S1 : 1 ≤ S := by
        rw [hS]
        exact Int.mul_pos (show 0 < M by omega) (show 0 < M by omega)
      have SB : Bd (k + 2 + (k + 2)) S := by
        rw [hS]
        exact Bd.mul MB MB
      have sc : ∀ a ∈ fs, ∀ b ∈ fs, a.2 * b.2 ≤ S := fun a ha b hb => by
        rw [hS]
        exact Int.mul_le_mul (Mall a ha) (Mall b hb) (by have := (F3.rt b hb).q1; omega) (by omega)
      clear hM Mall MB M1 e4 nq
      -- the places
      have e3 := s4 _ _ e3
      have o3 := o3.same s4
      have s4 := s3'.trans s4
      refine ⟨_, rfl, F, rfl, ⟨_, SqL.of e3⟩, fun PD nP => ?_⟩
      refine dc_it (walk_list (K := K) (a := F) (xs := us)) (fun i H' => ∃ kvs, Same H4 H' ∧ H' PD = some (.dK kvs) ∧ kvs.length ≤ i ∧ Plc H' S (fs.take i) kvs) ⟨[], sm_upd nP, upd_same, Nat.le_refl _, ⟨⟨[], rfl⟩, .nil, fun n v h => (nomatch h), fun e h => (nomatch h)⟩⟩ ?_ ?_ ?_
      · rintro i H' _ ⟨_, s', _⟩
        exact SqL.of (s' _ _ e3)
      · rintro i v H5 H' hi ⟨kvs, s5, e5, l5, P5⟩ ⟨rfl, hv⟩
        obtain ⟨r, e, rfl, er, he⟩ := o3.at hv
        have ri := F3.rt e (List.mem_of_getElem? he)
        refine ⟨r, _, rfl, SqT.of (s5 _ _ er), rfl, _, _, rfl, _, _, rfl, rfl, rfl, ?_⟩
        refine ⟨_, rfl, _, rfl, _, _, rfl, rfl, mulW ri.bp (hS ▸ SB) (by omega) (by omega) (by omega), _, rfl, _, _, rfl, rfl, divW (by have := ri.q1; omega) ri.bq (by omega), _, rfl, _, rfl, len10 (by simp), fun t nt => ?_⟩
        have z := sm_upd (o := .tup [.int e.1, .int e.2]) nt
        refine ⟨kvs, Sum.inl (keyP S e), by rw [hS]; rfl, z _ _ e5, lz _ (by omega), putK kvs (Sum.inl (keyP S e)) (.ref t), ?_, upd_same, ?_, ?_⟩
        · intro b o eb
          rw [upd_ne (ne_of_none eb nP)]
          exact z _ _ (s5 _ _ eb)
        · have := length_putK kvs (Sum.inl (keyP S e)) (.ref t)
          omega
        · rw [List.take_add_one, he]
          refine P5.put (fun b o eb => ?_) ?_
          · rw [upd_ne (ne_of (z _ _ eb) (z _ _ e5) (by intro q; cases q))]
            exact z _ _ eb
          · rw [upd_ne (ne_of upd_same (z _ _ e5) (by intro q; cases q))]
            exact upd_same
      rintro H5 ⟨kvs, s5, e5, l5, P5⟩
      rw [List.take_of_length_le (by omega)] at P5
      obtain ⟨ns, hns⟩ := P5.ks
      have ln : kvs.length = ns.length := by simpa using congrArg List.length hns
      -- in order
      refine ⟨_, rfl, PD, kvs, ns, rfl, .inl e5, hns, fun ys R0 pm srt nR => ⟨R0, rfl, ⟨_, SqL.of upd_same⟩, fun R nR2 => ?_⟩⟩
      obtain ⟨lt, fr, al⟩ := P5.len hns pm srt
      have ly := pm.length_eq
      have z5 := sm_upd (o := .lst (ys.map V.int)) nR
      have eR0 := upd_same (H := H5) (a := R0) (o := .lst (ys.map V.int))
      generalize upd H5 R0 (.lst (ys.map V.int)) = H6 at z5 eR0 nR2 ⊢
      have e6 := z5 _ _ e5
      refine lc_list (K := K) (a := R0) (xs := ys.map V.int) (fun i H' => ∃ us es, Same H6 H' ∧ H' R = some (.lst us) ∧ Obs ptO H' us es ∧ es.map (keyP S) = ys.take i ∧ ∀ e ∈ es, e ∈ fs) ⟨[], [], sm_upd nR2, upd_same, .nil, rfl, fun _ h => (nomatch h)⟩ ?_ ?_ ?_
      · rintro i H' _ ⟨_, _, s', _⟩
        exact SqL.of (s' _ _ eR0)
      · rintro i v H' hv ⟨us', es, s', e', o', k', m'⟩
        obtain ⟨y, hy, rfl⟩ : ∃ y, ys[i]? = some y ∧ v = .int y := by
          rw [List.getElem?_map] at hv
          cases q : ys[i]? with
          | none =>
            rw [q] at hv
            cases hv
          | some y =>
            rw [q] at hv
            exact ⟨y, rfl, (Option.some.inj hv).symm⟩
        obtain ⟨r, e, hv', er, me, ke⟩ := fr y (List.mem_of_getElem? hy)
        have l' := o'.len
        have l2 := congrArg List.length k'
        rw [List.length_map, List.length_take] at l2
        refine ⟨rfl, _, rfl, _, rfl, PD, _, rfl, .inl ⟨kvs, Sum.inl y, .inl (s' _ _ e6), rfl, hv'.symm⟩, us', e', lz _ (by omega), us' ++ [.ref r], es ++ [e], ?_, upd_same, ?_, ?_, ?_⟩
        · intro b o eb
          rw [upd_ne (ne_of_none eb nR2)]
          exact s' _ _ eb
        · refine Obs.keep (o'.snoc (s' _ _ (z5 _ _ er))) fun b d eb => ?_
          rw [upd_ne (ne_of eb e' (by intro q; cases q))]
          exact eb
        · rw [List.map_append, k', List.take_add_one, hy]
          show _ ++ [keyP S e] = _
          rw [ke]
          rfl
        · intro a ha
          rcases List.mem_append.mp ha with ha | ha
          · exact m' a ha
          · rw [List.mem_singleton.mp ha]
            exact me
      rintro H7 ⟨us', es, s7, e7, o7, k7, m7⟩
      rw [List.length_map, List.take_length] at k7
      have l2 := congrArg List.length k7
      rw [List.length_map] at l2
      exact kk R H7 us' es (s4.trans (s5.trans (z5.trans s7))) (Same.nf (s4.trans (s5.trans z5)) nR2) e7 o7 (chg_of F3 S1 sc k7 m7 lt al) (by omega)
end
end Lf
namespace Lf
open PySem PySem.Spec PyProof.Rows L2
theorem map_some_at {es : List (Int × Int)} (j : Nat) : (es.map some)[j]?.getD none = es[j]? := by
  rw [List.getElem?_map]
  cases es[j]? <;> rfl
theorem map_some_is {es : List (Int × Int)} {j : Nat} {l : Option (Int × Int)} (h : (es.map some)[j]? = some l) : ∃ a, es[j]? = some a ∧ l = some a := by
  rw [List.getElem?_map] at h
  cases z : es[j]? with
  | none =>
    rw [z] at h
    cases h
  | some a =>
    rw [z] at h
    exact ⟨a, rfl, (Option.some.inj h).symm⟩
theorem okE_lows {k : Nat} {es : List (Int × Int)} (up : Asc es) (rt : ∀ e ∈ es, Rt k e.1 e.2) {i : Nat} {l : Option (Int × Int)} (h : (lowsL es)[i]? = some l) : OkE l ((lowsL es)[i + 1]?.getD none) := by
  have two : ∀ j a, es[j]? = some a → OkE (some a) (es[j + 1]?) := fun j a ea => by
    cases eb : es[j + 1]? with
    | none => exact True.intro
    | some b =>
      obtain ⟨h1, e1⟩ := List.getElem?_eq_some_iff.mp ea
      obtain ⟨h2, e2⟩ := List.getElem?_eq_some_iff.mp eb
      have := List.pairwise_iff_getElem.mp up j (j + 1) h1 h2 (by omega)
      rw [e1, e2] at this
      exact this
  by_cases c : es.take 1 = [(0, 1)]
  · have el : lowsL es = es.map some := if_pos c
    rw [el] at h ⊢
    rw [map_some_at]
    obtain ⟨a, ea, rfl⟩ := map_some_is h
    exact two i a ea
  · have el : lowsL es = none :: es.map some := if_neg c
    rw [el] at h ⊢
    rw [List.getElem?_cons_succ, map_some_at]
    cases i with
    | zero =>
      cases h
      cases es with
      | nil => exact True.intro
      | cons b r =>
        show 0 < b.1
        have rb := rt b List.mem_cons_self
        have := rb.p0
        refine Int.not_le.mp fun z => c ?_
        have b0 : b.1 = 0 := by omega
        have g := rb.g
        rw [b0, Int.gcd_zero_left] at g
        have := rb.q1
        have b1 : b.2 = 1 := by omega
        show [b] = [(0, 1)]
        rw [show b = (b.1, b.2) from rfl, b0, b1]
    | succ i =>
      rw [List.getElem?_cons_succ] at h
      obtain ⟨a, ea, rfl⟩ := map_some_is h
      exact two i a ea
theorem res_rt {k : Nat} {l h : Option (Int × Int)} {N D : Int} (r : ResE l h N D) (b1 : Bd k N) (b2 : Bd k D) : Rt k N D := by
  match l, h, r with
  | none, h, r =>
    have r : N = 0 ∧ D = 1 := r
    obtain ⟨rfl, rfl⟩ := r
    exact ⟨Int.le_refl _, Int.le_refl _, by decide, b1, b2⟩
  | some l, some h, r =>
    have r : Sim l.1 l.2 h.1 h.2 N D := r
    exact ⟨by have := r.n1; omega, r.d1, sim_gcd r, b1, b2⟩
  | some l, none, r =>
    have r : Sim l.1 l.2 1 0 N D := r
    exact ⟨by have := r.n1; omega, r.d1, sim_gcd r, b1, b2⟩
theorem cut_tl (xs : List V) : cutV xs (some 1) none = xs.tail := by
  unfold cutV
  rw [HT.sIx_none, show HT.sIx xs.length 0 (some (1 : Int)) = min 1 xs.length from HT.sIx_nat _ _ 1]
  cases xs with
  | nil => rfl
  | cons x xs =>
    show ((x :: xs).drop (min 1 (xs.length + 1))).take (xs.length + 1 - min 1 (xs.length + 1)) = xs
    rw [show min 1 (xs.length + 1) = 1 by omega]
    exact List.take_of_length_le (by simp)
/-- a list of ends as it stands -/
def LV (H : Hp) (k : Nat) (vs : List V) (os : List (Option (Int × Int))) : Prop := vs.length = os.length ∧ ∀ (i : Nat) (v : V), vs[i]? = some v → ∃ o, os[i]? = some o ∧ EndV H k v o
theorem LV.same {H H' : Hp} {k : Nat} {vs : List V} {os : List (Option (Int × Int))} (h : LV H k vs os) (s : Same H H') : LV H' k vs os := ⟨h.1, fun i v e => by
  obtain ⟨o, h1, h2⟩ := h.2 i v e
  exact ⟨o, h1, h2.sm s⟩⟩
theorem lv_some {H : Hp} {k : Nat} {us : List V} {es : List (Int × Int)} (o : Obs ptO H us es) (rt : ∀ e ∈ es, Rt k e.1 e.2) : LV H k us (es.map some) := ⟨by rw [List.length_map]; exact o.len, fun i v e => by
  obtain ⟨r, d, rfl, er, hd⟩ := o.at e
  exact ⟨some d, by rw [List.getElem?_map, hd]; rfl, r, rfl, er, rt d (List.mem_of_getElem? hd)⟩⟩
theorem lv_non {H : Hp} {k : Nat} {vs : List V} {os : List (Option (Int × Int))} (h : LV H k vs os) : LV H k (.non :: vs) (none :: os) := ⟨by rw [List.length_cons, List.length_cons, h.1], fun i v e => by
  cases i with
  | zero =>
    cases e
    exact ⟨none, rfl, rfl⟩
  | succ i => exact h.2 i v e⟩
def ptD (e : Int × Int) : PyData := .tuple [.int e.1, .int e.2]
theorem head_eq {es : List (Int × Int)} : PyData.eqv (.list ((es.take 1).map ptD)) (.list [ptD (0, 1)]) = decide (es.take 1 = [(0, 1)]) := by
  cases es with
  | nil => rfl
  | cons a r =>
    have e : PyData.eqv (.list (([a] : List (Int × Int)).map ptD)) (.list [ptD (0, 1)]) = (((a.1 == 0) && ((a.2 == 1) && true)) && true) := by simp only [List.map_cons, List.map_nil, ptD, PyData.eqv, PyData.eqvAll]
    show PyData.eqv (.list (([a] : List (Int × Int)).map ptD)) (.list [ptD (0, 1)]) = decide ([a] = [(0, 1)])
    rw [e, Bool.and_true, Bool.and_true, Bool.eq_iff_iff, Bool.and_eq_true, beq_iff_eq, beq_iff_eq, decide_eq_true_eq]
    constructor
    · rintro ⟨h1, h2⟩
      rw [show a = (a.1, a.2) from rfl, h1, h2]
    · intro h
      cases h
      exact ⟨rfl, rfl⟩
theorem head_shaped {es : List (Int × Int)} : SeqAt.shaped (.list ((es.take 1).map ptD)) = true := by
  cases es with
  | nil => rfl
  | cons a r => rfl
theorem head_dp {K : PySem.W.Frag} {H : Hp} {p : Addr} {us : List V} {es : List (Int × Int)} (o : Obs ptO H us es) (e : H p = some (.lst (us.take 1))) : Dp K H (.ref p) (.list ((es.take 1).map ptD)) := by
  refine .lst (SqL.of e) ?_
  cases o with
  | nil => exact .nil
  | cons er _ => exact .cons (.tup (SqT.of er) (.cons (.int _) (.cons (.int _) .nil))) .nil
section
variable {P : Program} {w : World} {K : PySem.W.Frag} {mg : Str → Option Value} {base : Heap}
def spTry : Sp := fun vs H Q _ => ∃ (L : Addr) (kb : Bool) (xs : List V) (ds : List Rec) (k : Nat), vs = [.ref L] ∧ H L = some (sqO kb xs) ∧ Obs rcO H xs ds ∧ ds.length ≤ 40 ∧ RcB k ds ∧ 0 < k ∧ k ≤ 1900 ∧
  ∀ R H' us ys, Same H H' → H R = none → H' R = some (.lst us) → Obs ptO H' us ys → Trd ds ys → (∀ y ∈ ys, Rt (k + 3) y.1 y.2) → Q (.ref R) H'
abbrev s_rates_to_try : Stmt := topS 29
abbrev N_rates_to_try : List Str := ["records", "ends", "lows", "low", "high"]
abbrev P_rates_to_try : List Str := ["records"]
theorem sc_rates_to_try : FnScope N_rates_to_try P_rates_to_try (defScope s_rates_to_try) := ⟨rfl, rfl, rfl, by decide +kernel, rfl, by decide +kernel, by decide +kernel⟩
theorem ok_rates_to_try (D : Df K mg "rates_to_try" s_rates_to_try P_rates_to_try) (B : Bi mg) (c_changing_rates : C8.Cal P w K mg base 3 "changing_rates" spChg []) (c_simplest_between : C8.Cal P w K mg base 4 "simplest_between" spSB []) : C8.Cal P w K mg base 5 "rates_to_try" spTry [] := by
  refine cal_of D sc_rates_to_try (fun vs H Q E h => ?_) (fun f cdv A outer s H vs Q E hr h => ?_)
  · obtain ⟨L, kb, xs, ds, k, rfl, _⟩ := h
    rfl
  · obtain ⟨L, kb, xs, ds, k, rfl, eL, oL, ll, bd, k0, k1, kk⟩ := h
    refine ⟨_, (pss_cons (ps_set (i := 1) sc_rates_to_try.nd rfl (Or.inl rfl) (C8.pe_c c_changing_rates hr (by decide) (by rfl) (pa_cons (pv 0) pa_nil)))
    (C8.pss_cut (ps_set (i := 2) sc_rates_to_try.nd rfl (Or.inl rfl) (pe_ifExp (pt_cmpR (op_eqD hr.units) (pe_slice sl_list (pv 1) po_none (po_some pe_int)) (pe_lst (pa_cons (pe_tup (pa_cons pe_int (pa_cons pe_int pa_nil))) pa_nil)) (nomark _)) (pv 1) (pe_op op_cat (pe_lst (pa_cons pe_non pa_nil)) (pv 1))))
    (pss_one (ps_ret (pe_lc (own := [("low", 3), ("high", 4)]) (g := (gTup K 2 (gCons (gName 3) (gCons (gName 4) gNil)))) (by rfl) sc_rates_to_try.nd (pi_zip (by rfl) B.zip_ (pa_cons (pv 2) (pa_cons (pe_op op_cat (pe_slice sl_list (pv 2) (po_some pe_int) po_none) (pe_lst (pa_cons pe_non pa_nil))) pa_nil))) (blkOk_by (own := [("low", 3), ("high", 4)]) (N := N_rates_to_try) (sc := defScope s_rates_to_try) (by decide +kernel)) (fun _ _ _ _ _ => (pg_tup rfl (pgs_cons (pg_name (i := 3) sc_rates_to_try.nd rfl (Or.inl rfl)) (pgs_cons (pg_name (i := 4) sc_rates_to_try.nd rfl (Or.inl rfl)) pgs_nil)))) (fun _ _ _ _ _ => pts_nil) (fun _ _ _ _ _ => (C8.pe_c c_simplest_between hr (by decide) (by rfl) (pa_cons (pv 3) (pa_cons (pv 4) pa_nil))))))))), ?_⟩
    refine ⟨_, rfl, L, kb, xs, ds, k, rfl, eL, oL, ll, bd, k0, by omega, fun R H1 us es s1 nR eR oR C lR => ?_⟩
    have lu := oR.len
    have lz : ∀ n : Nat, n ≤ 3000 → n ≤ sizeLine := fun n hn => Nat.le_trans hn (by decide)
    refine ⟨fun σ' H' => ∃ (va : Addr) (vs : List V), σ' = [some (.ref L), some (.ref R), some (.ref va), none, none] ∧ Same H1 H' ∧ H' va = some (.lst vs) ∧ LV H' (k + 2) vs (lowsL es), ?_, ?_⟩
    · refine ⟨_, rfl, _, rfl, R, _, rfl, SqL.of eR, fun p np => ?_⟩
      have z1 := sm_upd (o := .lst (cutV us none (some 1))) np
      have e1 : upd H1 p (.lst (cutV us none (some 1))) p = some (.lst (us.take 1)) := by
        rw [upd_same, cut_take us 1 (by decide)]
        rfl
      generalize upd H1 p (.lst (cutV us none (some 1))) = H2 at z1 e1 ⊢
      refine ⟨len10 (by simp), fun t nt => ⟨len10 (by simp), fun l nl => ?_⟩⟩
      have z2 := sm_upd (o := .tup [.int 0, .int 1]) nt
      have z3 := sm_upd (o := .lst [.ref t]) nl
      have et := z3 _ _ (upd_same (H := H2) (a := t) (o := .tup [.int 0, .int 1]))
      have el := upd_same (H := upd H2 t (.tup [.int 0, .int 1])) (a := l) (o := .lst [.ref t])
      have z23 := z2.trans z3
      generalize upd (upd H2 t (.tup [.int 0, .int 1])) l (.lst [.ref t]) = H3 at z23 et el ⊢
      have s3 := z1.trans z23
      refine ⟨_, _, head_dp (oR.same s3) (z23 _ _ e1), .lst (SqL.of el) (.cons (.tup (SqT.of et) (.cons (.int _) (.cons (.int _) .nil))) .nil), head_shaped, rfl, ?_⟩
      refine ⟨_, rfl, ?_⟩
      show if PyData.eqv (.list ((es.take 1).map ptD)) (.list [ptD (0, 1)]) = true then _ else _
      rw [head_eq]
      by_cases c : es.take 1 = [(0, 1)]
      · refine iteD c ⟨_, rfl, R, us, rfl, s3, s3 _ _ eR, ?_⟩
        rw [show lowsL es = es.map some from if_pos c]
        exact lv_some (oR.same s3) C.rt
      · refine iteDn c ⟨len10 (by simp), fun n nn => ?_⟩
        have z4 := sm_upd (o := .lst [.non]) nn
        have s4 := s3.trans z4
        refine ⟨_, rfl, n, R, _, _, rfl, rfl, upd_same, s4 _ _ eR, lz _ (by simp; omega), fun va nv => ?_⟩
        have z5 := sm_upd (o := .lst ([.non] ++ us)) nv
        refine ⟨va, .non :: us, rfl, s4.trans z5, upd_same, ?_⟩
        rw [show lowsL es = none :: es.map some from if_neg c]
        exact lv_non (lv_some (oR.same (s4.trans z5)) C.rt)
    rintro σ H2 ⟨va, vs, rfl, s2, ea, lv⟩
    have ll1 : 0 < (lowsL es).length ∧ (lowsL es).length ≤ 2001 := by
      unfold lowsL
      by_cases c : es.take 1 = [(0, 1)]
      · rw [if_pos c, List.length_map]
        cases es with
        | nil => cases c
        | cons a r => exact ⟨Nat.succ_pos _, by omega⟩
      · rw [if_neg c, List.length_cons, List.length_map]
        omega
    have lv1 := lv.1
    refine ⟨_, rfl, _, rfl, _, rfl, va, _, rfl, SqL.of ea, fun p np => ?_⟩
    have z1 := sm_upd (o := .lst (cutV vs (some 1) none)) np
    have e1 : upd H2 p (.lst (cutV vs (some 1) none)) p = some (.lst vs.tail) := by
      rw [upd_same, cut_tl vs]
    generalize upd H2 p (.lst (cutV vs (some 1) none)) = H3 at z1 e1 ⊢
    refine ⟨len10 (by simp), fun n nn => ?_⟩
    have z2 := sm_upd (o := .lst [.non]) nn
    refine ⟨p, n, _, _, rfl, rfl, z2 _ _ e1, upd_same, lz _ (by simp; omega), fun hi nh => ?_⟩
    have z3 := sm_upd (o := .lst (vs.tail ++ [.non])) nh
    have eh := upd_same (H := upd H3 n (.lst [.non])) (a := hi) (o := .lst (vs.tail ++ [.non]))
    have s3 := z1.trans (z2.trans z3)
    generalize upd (upd H3 n (.lst [.non])) hi (.lst (vs.tail ++ [.non])) = H4 at s3 eh ⊢
    have ea := s3 _ _ ea
    have lv := lv.same s3
    have s4 := s1.trans (s2.trans s3)
    clear z1 z2 z3 e1 np nn nh
    refine ⟨va, hi, _, _, rfl, SqL.of ea, SqL.of eh, fun Z nZ => ?_⟩
    refine lc_it (walk_zip (K := K) (a := va) (b := hi) (xs := vs) (ys := vs.tail ++ [.non]) (n := vs.length) (by simp; omega)) (fun i H' => ∃ us ys, Same H4 H' ∧ H' Z = some (.lst us) ∧ Obs ptO H' us ys ∧ ys.length = i ∧ (∀ j y l, ys[j]? = some y → (lowsL es)[j]? = some l → ResE l ((lowsL es)[j + 1]?.getD none) y.1 y.2) ∧ ∀ y ∈ ys, Rt (k + 3) y.1 y.2) ⟨[], [], sm_upd nZ, upd_same, .nil, rfl, fun j y l h => by simp at h, fun y h => (nomatch h)⟩ ?_ ?_ ?_
    · rintro i H' _ ⟨_, _, s', _⟩
      exact ⟨SqL.of (s' _ _ ea), SqL.of (s' _ _ eh)⟩
    · rintro i x H5 H5' hi' ⟨us', ys, s5, eZ, oZ, lZ, rZ, tZ⟩ ⟨T, x, y, rfl, nT, rfl, hx, hy⟩
      obtain ⟨l, hl, xl⟩ := lv.2 i x hx
      obtain ⟨h, hh, yh⟩ : ∃ h, (lowsL es)[i + 1]?.getD none = h ∧ EndV H4 (k + 2) y h := by
        have hy : (vs.tail ++ [V.non])[i]? = some y := hy
        rw [tail_at hi'] at hy
        cases Option.some.inj hy
        cases q : vs[i + 1]? with
        | none =>
          refine ⟨none, ?_, rfl⟩
          rw [List.getElem?_eq_none_iff] at q
          rw [List.getElem?_eq_none (by omega)]
          rfl
        | some v =>
          obtain ⟨h, h1, h2⟩ := lv.2 (i + 1) v q
          exact ⟨h, by rw [h1]; rfl, h2⟩
      have ok := okE_lows C.up C.rt hl
      rw [hh] at ok
      have zT := sm_upd (o := .tup [x, y]) nT
      have s5' := s5.trans zT
      refine ⟨T, _, rfl, SqT.of upd_same, rfl, _, _, rfl, _, _, rfl, rfl, rfl, ?_⟩
      refine ⟨_, rfl, _, rfl, x, y, l, h, k + 2, rfl, xl.sm s5', yh.sm s5', ok, by omega, by omega, fun r H6 N D' s6 nr er re bN bD => ?_⟩
      have eZ6 := s6 _ _ (zT _ _ eZ)
      have lz' := oZ.len
      refine ⟨us', eZ6, Nat.lt_of_le_of_lt (show us'.length ≤ 3000 by omega) (by decide), us' ++ [.ref r], ys ++ [(N, D')], ?_, upd_same, ?_, ?_, ?_, ?_⟩
      · intro b o eb
        rw [upd_ne (ne_of_none eb nZ)]
        exact s6 _ _ (s5' _ _ eb)
      · refine Obs.keep (Obs.snoc ((oZ.same zT).same s6) (d := (N, D')) er) fun b d eb => ?_
        rw [upd_ne (ne_of eb eZ6 (by intro q; cases q))]
        exact eb
      · rw [List.length_append, lZ]
        rfl
      · intro j y' l' hj hl'
        by_cases q : j < ys.length
        · rw [List.getElem?_append_left q] at hj
          exact rZ j y' l' hj hl'
        · have e : j = i := by
            have := (List.getElem?_eq_some_iff.mp hj).1
            rw [List.length_append] at this
            simp only [List.length_cons, List.length_nil] at this
            omega
          subst e
          rw [List.getElem?_append_right (by omega), lZ, Nat.sub_self] at hj
          cases hj
          rw [hl] at hl'
          cases hl'
          rw [hh]
          exact re
      · intro y' hy'
        rcases List.mem_append.mp hy' with hy' | hy'
        · exact tZ y' hy'
        · rw [List.mem_singleton.mp hy']
          exact res_rt re bN bD
    rintro H5 ⟨us', ys, s5, eZ, oZ, lZ, rZ, tZ⟩
    exact kk Z H5 us' ys (s4.trans s5) (Same.nf s4 nZ) eZ oZ (trd_of C (by omega) rZ) tZ
end
end Lf
namespace Lf
open PySem PySem.Spec PyProof.Rows L2
/-! ### what a phase costs; _law_costs -/
theorem cst_nn {p q : Int} {ds : List Rec} {ws : List Int} (h : ∀ x ∈ ws, 0 ≤ x) (c : Int) : 0 ≤ cstF p q ds ws c := by
  unfold cstF cstS
  refine Int.le_trans (Int.le_of_eq (sg_nil ds.length).symm) (sg_le fun k _ => ?_)
  have : 0 ≤ wF ws k := by
    unfold wF
    by_cases hk : k < ws.length
    · rw [getD_at (List.getElem?_eq_getElem hk)]
      exact h _ (List.getElem_mem _)
    · rw [List.getD_eq_getElem?_getD, List.getElem?_eq_none (by omega)]
      exact Int.le_refl _
  split <;> omega
theorem cst_zero {p q c : Int} {ds : List Rec} {ws : List Int} (hq : 1 ≤ q) (f : ds.all (fitB p q c) = true) : cstF p q ds ws c = 0 := by
  unfold cstF cstS
  rw [sg_congr (g := fun _ => 0) fun k hk => ?_, sg_nil]
  rw [out_fit hq, getD_at (List.getElem?_eq_getElem hk), List.all_eq_true.mp f _ (List.getElem_mem _)]
  rfl
theorem cst_bd {p q : Int} {ds : List Rec} {ws : List Int} (h : ∀ x ∈ ws, 0 ≤ x ∧ Bd 100 x) (l : ds.length ≤ 200) (c : Int) : Bd 110 (cstF p q ds ws c) := by
  have h0 := cst_nn (p := p) (q := q) (ds := ds) (fun x hx => (h x hx).1) c
  have key : ∀ n : Nat, sg n (fun k => if outB (loF ds) (lvF p q ds) c k = true then wF ws k else 0) ≤ n * 2 ^ 100 := by
    intro n
    induction n with
    | zero => exact Int.le_refl _
    | succ n ih =>
      show sg n (fun k => if outB (loF ds) (lvF p q ds) c k = true then wF ws k else 0) + (if outB (loF ds) (lvF p q ds) c n = true then wF ws n else 0) ≤ _
      have hw : wF ws n ≤ 2 ^ 100 := by
        unfold wF
        by_cases hk : n < ws.length
        · rw [getD_at (List.getElem?_eq_getElem hk)]
          have := h _ (List.getElem_mem hk)
          have := this.2
          unfold Bd at this
          omega
        · rw [List.getD_eq_getElem?_getD, List.getElem?_eq_none (by omega)]
          show (0 : Int) ≤ _
          omega
      have : ((n + 1 : Nat) : Int) * 2 ^ 100 = (n : Int) * 2 ^ 100 + 2 ^ 100 := by omega
      rw [this]
      split <;> omega
  have := key ds.length
  unfold cstF cstS at h0 ⊢
  unfold Bd
  omega
section
variable {P : Program} {w : World} {K : PySem.W.Frag} {mg : Str → Option Value} {base : Heap}
def spCost : Sp := fun vs H Q _ => ∃ (a : PA) (n m : Nat), vs = [.ref a, .int ((m : Nat) : Int)] ∧ Pen H a n ∧ n < 2 ^ 38 ∧ m ≤ 200 ∧
  ∀ F H' (ws : List Int), H F = none → H' F = some (.lst (ws.map V.int)) → ws.length = m → (∀ x ∈ ws, 0 ≤ x ∧ Bd 100 x) → Pen H' a (n + 12 * m) → Fr H H' → Q (.ref F) H'
abbrev s_l_costs : Stmt := topS 46
abbrev N_l_costs : List Str := ["_law_pen_here", "_law_total", "_law_k"]
abbrev P_l_costs : List Str := ["_law_pen_here", "_law_total"]
theorem sc_l_costs : FnScope N_l_costs P_l_costs (defScope s_l_costs) := ⟨rfl, rfl, rfl, by decide +kernel, rfl, by decide +kernel, by decide +kernel⟩
theorem ok_l_costs (D : Df K mg "_law_costs" s_l_costs P_l_costs) (B : Bi mg) (c_l_draw : C8.Cal P w K mg base 1 "_law_draw" spDraw []) (c_l_far : C8.Cal P w K mg base 2 "_law_far" spFar []) : C8.Cal P w K mg base 3 "_law_costs" spCost [] := by
  refine cal_of D sc_l_costs (fun vs H Q E h => ?_) (fun f cdv A outer s H vs Q E hr h => ?_)
  · obtain ⟨a, n, m, rfl, _⟩ := h
    rfl
  · obtain ⟨a, n, m, rfl, hP, hn, hm, kk⟩ := h
    refine ⟨_, (pss_one (ps_ret (pe_lc (own := [("_law_k", 2)]) (g := (gName 2)) (by rfl) sc_l_costs.nd (pi_range1 rfl B.range_ (pa_cons (pv 1) pa_nil)) (blkOk_by (own := [("_law_k", 2)]) (N := N_l_costs) (sc := defScope s_l_costs) (by decide +kernel)) (fun _ _ _ _ _ => (pg_name (i := 2) sc_l_costs.nd rfl (Or.inl rfl))) (fun _ _ _ _ _ => pts_nil) (fun _ _ _ _ _ => (pe_ix (r := rIxL K) ix_list (pe_lst (pa_cons pe_int (pa_cons (C8.pe_c c_l_draw hr (by decide) (by rfl) (pa_cons (pv 0) (pa_cons pe_int pa_nil))) (pa_cons (pe_callB (call_abs) (by rfl) B.abs_ bt_abs (pa_cons (C8.pe_c c_l_far hr (by decide) (by rfl) (pa_cons (pv 0) (pa_cons pe_int pa_nil))) pa_nil)) pa_nil)))) (C8.pe_c c_l_draw hr (by decide) (by rfl) (pa_cons (pv 0) (pa_cons pe_int pa_nil))) (fun _ _ => rfl)))))), ?_⟩
    refine ⟨_, rfl, _, rfl, by omega, by omega, fun F nF => ?_⟩
    refine lc_range (lo := 0) (n := ((m : Nat) : Int).toNat) (fun i H' => ∃ ws : List Int, H' F = some (.lst (ws.map V.int)) ∧ ws.length = i ∧ (∀ x ∈ ws, 0 ≤ x ∧ Bd 100 x) ∧ Pen H' a (n + 12 * i) ∧ Fr H H') ⟨[], upd_same, rfl, fun _ h => (nomatch h), (hP.new nF).mono (by omega), Fr.new nF⟩ ?_ ?_
    · rintro i H1 hi ⟨ws, eF, lw, hw, hP1, f1⟩
      have hi' : i < m := by omega
      refine ⟨rfl, _, rfl, a, _, _, rfl, hP1, by omega, by decide, Bd.small 20 (by decide) (by decide), fun e1 H2 e10 e11 hP2 f2 => ?_⟩
      refine ⟨_, rfl, a, _, 30, 5, rfl, hP2, by omega, by decide, by decide, by decide, fun z H3 bz hP3 f3 => ⟨_, rfl, ?_⟩⟩
      obtain ⟨z0, zb⟩ := absB bz
      generalize (if z < 0 then -z else z) = z' at z0 zb ⊢
      refine ⟨len10 (by simp), fun l nl => ?_⟩
      refine ⟨_, rfl, a, _, _, rfl, hP3.new nl, by omega, by decide, Bd.small 20 (by decide) (by decide), fun d H4 d0 d1 hP4 f4 => ?_⟩
      have el := f4.l _ _ (upd_same (H := H3) (a := l) (o := .lst [.int 1, .int e1, .int z']))
      obtain ⟨x, hx, mx⟩ := at_in (xs := [.int 1, .int e1, .int z']) d0 (by show d < 3; omega)
      obtain ⟨v, rfl, v0, vb⟩ : ∃ v, x = V.int v ∧ 0 ≤ v ∧ Bd 100 v := by
        simp only [List.mem_cons, List.not_mem_nil, or_false] at mx
        rcases mx with rfl | rfl | rfl
        · exact ⟨_, rfl, by decide, Bd.small 1 (by decide) (by decide)⟩
        · exact ⟨_, rfl, by omega, Bd.small 20 (by omega) (by decide)⟩
        · exact ⟨_, rfl, z0, zb.mono (by decide)⟩
      have f14 := f2.trans (f3.trans ((Fr.new nl).trans f4))
      have eF4 := f14.l _ _ eF
      refine ⟨l, _, _, _, rfl, rfl, SqL.of el, hx, _, eF4, by rw [List.length_map]; exact small1000 (by omega), ws ++ [v], ?_, by rw [List.length_append, lw]; rfl, fun x hx => ?_, ?_, ?_⟩
      · rw [upd_same, List.map_append]
        rfl
      · rcases List.mem_append.mp hx with h | h
        · exact hw x h
        · rw [List.mem_singleton.mp h]
          exact ⟨v0, vb⟩
      · exact (hP.over nF hP4).mono (by omega)
      · exact (f1.trans f14).over nF
    · rintro H1 ⟨ws, eF, lw, hw, hP1, f1⟩
      rw [Int.toNat_natCast] at lw hP1
      exact kk F H1 ws nF eF lw hw hP1 f1
end
end Lf
namespace Lf
open PySem PySem.Spec PyProof.Rows L2
/-! ### least_repair -/
structure Brp (mg : Str → Option Value) : Prop where
  repair_ : ∃ t, mg "MOST_TO_REPAIR" = some (.int 40 t)
/-- (price, dropped, rule) as it stands -/
structure LstF (H : Hp) (T Dd r : Addr) (p q c : Int) (ds : List Rec) (ws : List Int) (k : Nat) : Prop where
  eT : H T = some (.tup [.int (cstF p q ds ws c), .ref Dd, .ref r])
  eD : H Dd = some (.lst ((ni (outsN p q c ds)).map V.int))
  er : H r = some (.tup [.int p, .int q, .int c])
  rt : Rt (k + 3) p q
  bc : Bd (2 * (k + 3) + 3) c
theorem LstF.same {H H' : Hp} {T Dd r : Addr} {p q c : Int} {ds : List Rec} {ws : List Int} {k : Nat} (h : LstF H T Dd r p q c ds ws k) (s : Same H H') : LstF H' T Dd r p q c ds ws k := ⟨s _ _ h.eT, s _ _ h.eD, s _ _ h.er, h.rt, h.bc⟩
theorem LstF.fr {H H' : Hp} {T Dd r : Addr} {p q c : Int} {ds : List Rec} {ws : List Int} {k : Nat} (h : LstF H T Dd r p q c ds ws k) (f : Fr H H') : LstF H' T Dd r p q c ds ws k := ⟨f.t _ _ h.eT, f.l _ _ h.eD, f.t _ _ h.er, h.rt, h.bc⟩
theorem outs_le' {p q c : Int} {ds : List Rec} : (outsN p q c ds).length ≤ ds.length := by
  unfold outsN
  have := List.length_filter_le (fun k => !fitB p q c (ds.getD k rD)) (List.range ds.length)
  rw [List.length_range] at this
  exact this
section
variable {P : Program} {w : World} {K : PySem.W.Frag} {mg : Str → Option Value} {base : Heap}
def spLst : Sp := fun vs H Q _ => ∃ (L : Addr) (prv : V) (kb : Bool) (xs : List V) (ds : List Rec) (ws : List Int) (k : Nat), vs = [.ref L, prv] ∧ H L = some (sqO kb xs) ∧ Obs rcO H xs ds ∧ ds.length ≤ 40 ∧ PrcV H prv ds.length ws ∧ (∀ x ∈ ws, 0 ≤ x) ∧ RcB k ds ∧ 0 < k ∧ k ≤ 1900 ∧
  ∀ T H' Dd r p q c, Same H H' → H T = none → H Dd = none → H r = none → LstF H' T Dd r p q c ds ws k → (∀ p' q' c', 0 ≤ p' → 1 ≤ q' → cstF p q ds ws c ≤ cstF p' q' ds ws c') → Q (.ref T) H'
abbrev s_least_repair : Stmt := topS 24
abbrev N_least_repair : List Str := ["records", "prices", "costs", "best", "rate", "rule", "dropped", "price", "index"]
abbrev P_least_repair : List Str := ["records", "prices"]
theorem sc_least_repair : FnScope N_least_repair P_least_repair (defScope s_least_repair) := ⟨rfl, rfl, rfl, by decide +kernel, rfl, by decide +kernel, by decide +kernel⟩
theorem okO_least_repair (D : DfO K mg "least_repair" s_least_repair P_least_repair 1 "prices") (B : Bi mg) (UT : Brp mg) (c_check_records : C8.Cal P w K mg base 3 "check_records" spCkS []) (c_price_list : C8.Cal P w K mg base 2 "price_list" spPL []) (c_rates_to_try : C8.Cal P w K mg base 5 "rates_to_try" spTry []) (c_cheapest_rule : C8.Cal P w K mg base 3 "cheapest_rule" spChp []) (c_dropped_by : C8.Cal P w K mg base 2 "dropped_by" spDrop []) :
    C8.Cal P w K mg base 6 "least_repair" spLst [.non] ∧ CalO P w K mg base 6 "least_repair" spLst 1 "prices" := by
  obtain ⟨tM, hc_MOST_TO_REPAIR⟩ := UT.repair_
  refine calo_of D sc_least_repair (fun vs H Q E h => ?_) (fun f cdv A outer s H vs Q E hr h => ?_)
  · obtain ⟨L, prv, kb, xs, ds, ws, k, rfl, _⟩ := h
    rfl
  · obtain ⟨L, prv, kb, xs, ds, ws, k, rfl, eL, oL, ll, hv, w0, bd, k0, k1, kk⟩ := h
    refine ⟨_, (pss_cons (ps_expr (C8.pe_c c_check_records hr (by decide) (by rfl) (pa_cons (pv 0) pa_nil)))
    (pss_cons (ps_if (pt_cmpR op_gt (pe_callB (call_len_seq) (by rfl) B.len_ bt_len (pa_cons (pv 0) pa_nil)) (pe_glob (v := .int 40) (by rfl) hc_MOST_TO_REPAIR ⟨_, rfl⟩) (nomark _))
      (pss_one ps_never)
      pss_nil)
    (pss_cons (ps_set (i := 2) sc_least_repair.nd rfl (Or.inr rfl) (C8.pe_c c_price_list hr (by decide) (by rfl) (pa_cons (pv 1) (pa_cons (pe_callB (call_len_seq) (by rfl) B.len_ bt_len (pa_cons (pv 0) pa_nil)) pa_nil))))
    (pss_cons (ps_set (i := 3) sc_least_repair.nd rfl (Or.inl rfl) pe_non)
    (pss_cons (ps_for PassesOwn.never rfl (pi_list (C8.pe_c c_rates_to_try hr (by decide) (by rfl) (pa_cons (pv 0) pa_nil))) (pg_name (i := 4) sc_least_repair.nd rfl (Or.inl rfl))
      (pss_cons (ps_set (i := 5) sc_least_repair.nd rfl (Or.inl rfl) (C8.pe_c c_cheapest_rule hr (by decide) (by rfl) (pa_cons (pv 0) (pa_cons (pv 4) (pa_cons (pv 2) pa_nil)))))
    (pss_cons (ps_set (i := 6) sc_least_repair.nd rfl (Or.inl rfl) (C8.pe_c c_dropped_by hr (by decide) (by rfl) (pa_cons (pv 0) (pa_cons (pv 5) pa_nil))))
    (pss_cons (ps_set (i := 7) sc_least_repair.nd rfl (Or.inl rfl) (pe_callB ((show CallR _ _ (rSum K) from cr_sum rfl)) (by rfl) B.sum_ bt_sum (pa_cons (pe_lc (own := [("index", 8)]) (g := (gName 8)) (by rfl) sc_least_repair.nd (pi_list (pv 6)) (blkOk_by (own := [("index", 8)]) (N := N_least_repair) (sc := defScope s_least_repair) (by decide +kernel)) (fun _ _ _ _ _ => (pg_name (i := 8) sc_least_repair.nd rfl (Or.inl rfl))) (fun _ _ _ _ _ => pts_nil) (fun _ _ _ _ _ => (pe_ix (r := rIxL K) ix_list (pv 2) (pv 8) (fun _ _ => rfl)))) pa_nil)))
    (pss_one (ps_if (PW.pt (pw_or (pt_cmpR op_isN (pv 3) pe_non (nomark _)) (pw_or1 (pt_cmpR op_lt (pv 7) (pe_ix (r := rIxT K) ix_tup (pv 3) pe_int (fun _ _ => rfl)) (nomark _)))))
      (pss_one (ps_set (i := 3) sc_least_repair.nd rfl (Or.inl rfl) (pe_tup (pa_cons (pv 7) (pa_cons (pv 6) (pa_cons (pv 5) pa_nil))))))
      pss_nil))))))
    (pss_one (ps_ret (pv 3)))))))), ?_⟩
    have lw := prc_len hv
    have lx := oL.len
    refine ⟨_, rfl, L, kb, xs, ds, rfl, eL, oL, by omega, fun H1 s1 => ?_⟩
    refine ⟨_, rfl, L, _, rfl, (SqB.of (s1 _ _ eL)).or, _, _, rfl, rfl, _, rfl, iteDn (by omega) ?_⟩
    refine ⟨_, rfl, _, rfl, L, _, rfl, (SqB.of (s1 _ _ eL)).or, prv, ds.length, ws, by rw [lx]; rfl, hv.same s1, by omega, w0, fun C H2 s2 nC eC => ?_⟩
    have s12 := s1.trans s2
    refine ⟨_, rfl, L, kb, xs, ds, k, rfl, s12 _ _ eL, oL.same s12, ll, bd, k0, k1, fun R H3 us ys s3 nR eR oR trd tZ => ?_⟩
    have s13 := s12.trans s3
    have eL3 := s13 _ _ eL
    have oL3 := oL.same s13
    have eC3 := s3 _ _ eC
    have bd3 : RcB (k + 3) ds := fun d hd => ⟨(bd d hd).1.mono (by omega), (bd d hd).2.mono (by omega)⟩
    clear s1 s2 s3 s12 nC nR eC
    refine ⟨R, rfl, ⟨_, SqL.of eR⟩, ?_⟩
    refine for_list (K := K) (a := R) (xs := us) (fun i σ H' => ∃ (bv : V) (y4 y5 y6 y7 : Option V), σ = [some (.ref L), some prv, some (.ref C), some bv, y4, y5, y6, y7, none] ∧ Same H3 H' ∧ ((i = 0 ∧ bv = .non) ∨ ∃ T Dd r p q c, bv = .ref T ∧ LstF H' T Dd r p q c ds ws k ∧ H T = none ∧ H Dd = none ∧ H r = none ∧ ∀ y ∈ ys.take i, ∀ c', cstF p q ds ws c ≤ cstF y.1 y.2 ds ws c')) ?_ ?_ ?_ ?_
    · exact ⟨_, _, _, _, _, rfl, Same.refl _, .inl ⟨rfl, rfl⟩⟩
    · rintro i σ H' _ ⟨_, _, _, _, _, _, s', _⟩
      exact SqL.of (s' _ _ eR)
    · rintro i v σ H4 hv4 ⟨bv, y4, y5, y6, y7, rfl, s4, hb⟩
      obtain ⟨rt, y, rfl, ert, hy⟩ := (oR.same s4).at hv4
      have Y := tZ y (List.mem_of_getElem? hy)
      have tk : ys.take (i + 1) = ys.take i ++ [y] := by
        rw [List.take_add_one, hy]
        rfl
      refine ⟨_, rfl, _, rfl, _, rfl, L, rt, C, kb, xs, ds, ws, y.1, y.2, k + 3, rfl, s4 _ _ eL3, oL3.same s4, by omega, ert, s4 _ _ eC3, lw, w0, bd3, Y.bp, Y.bq, by omega, by omega, fun r H5 c s5 nr er best _ bc => ?_⟩
      have s45 := s4.trans s5
      refine ⟨_, rfl, _, rfl, L, r, kb, xs, ds, y.1, y.2, c, k + 3, rfl, s45 _ _ eL3, oL3.same s45, by omega, er, Y.q1, Y.bp, Y.bq, bd3, by omega, by omega, fun Dd H6 s6 nD eD => ?_⟩
      have s46 := s45.trans s6
      have nD0 : H Dd = none := Same.nf (s13.trans s45) nD
      have nr0 : H r = none := Same.nf (s13.trans s4) nr
      have er6 := s6 _ _ er
      have eC6 := s46 _ _ eC3
      have hb6 : (i = 0 ∧ bv = .non) ∨ ∃ T Dd r p q c, bv = .ref T ∧ LstF H6 T Dd r p q c ds ws k ∧ H T = none ∧ H Dd = none ∧ H r = none ∧ ∀ y ∈ ys.take i, ∀ c', cstF p q ds ws c ≤ cstF y.1 y.2 ds ws c' := hb.imp id fun ⟨T, Dd, r, p, q, c, h1, h2, h3⟩ => ⟨T, Dd, r, p, q, c, h1, (h2.same s5).same s6, h3⟩
      clear hb s4 s5 s6 s45 er ert nr
      have lo := outs_le' (p := y.1) (q := y.2) (c := c) (ds := ds)
      refine ⟨_, rfl, Dd, rfl, ⟨_, SqL.of eD⟩, fun D2 nD2 => ?_⟩
      refine lc_list (K := K) (a := Dd) (xs := (ni (outsN y.1 y.2 c ds)).map V.int) (fun i H' => Same H6 H' ∧ H' D2 = some (.lst ((((outsN y.1 y.2 c ds).take i).map (wF ws)).map V.int))) ⟨sm_upd nD2, upd_same⟩ ?_ ?_ ?_
      · rintro i H' _ ⟨s', _⟩
        exact SqL.of (s' _ _ eD)
      · rintro i v H' hx ⟨s', e'⟩
        obtain ⟨e, he, rfl⟩ := ni_at hx
        have el := outs_lt e (List.mem_of_getElem? he)
        refine ⟨rfl, _, rfl, _, rfl, C, _, _, _, rfl, rfl, SqL.of (s' _ _ eC6), atI_nat (wF_at (by omega)), _, e', ?_, ?_, ?_⟩
        · rw [List.length_map, List.length_map, List.length_take]
          exact small1000 (by omega)
        · intro b o eb
          rw [upd_ne (ne_of_none eb nD2)]
          exact s' _ _ eb
        · rw [upd_same, List.take_add_one, he, List.map_append, List.map_append]
          rfl
      rintro H7 ⟨s7, eD2⟩
      rw [List.length_map, ni_len, List.take_length] at eD2
      refine ⟨D2, _, rfl, SqL.of eD2, ?_⟩
      have eD7 := s7 _ _ eD
      have er7 := s7 _ _ er6
      have s37 := s46.trans s7
      have hb7 : (i = 0 ∧ bv = .non) ∨ ∃ T Dd r p q c, bv = .ref T ∧ LstF H7 T Dd r p q c ds ws k ∧ H T = none ∧ H Dd = none ∧ H r = none ∧ ∀ y ∈ ys.take i, ∀ c', cstF p q ds ws c ≤ cstF y.1 y.2 ds ws c' := hb6.imp id fun ⟨T, Dd, r, p, q, c, h1, h2, h3⟩ => ⟨T, Dd, r, p, q, c, h1, h2.same s7, h3⟩
      rw [outs_sum Y.q1]
      have put : ∀ {T : Addr} {y4' y5' y6' y7' : Option V} {H8 : Hp}, H7 T = none → H8 = upd H7 T (.tup [.int (cstF y.1 y.2 ds ws c), .ref Dd, .ref r]) → (∀ y' ∈ ys.take i, ∀ c', cstF y.1 y.2 ds ws c ≤ cstF y'.1 y'.2 ds ws c') → ∃ (bv : V) (y4 y5 y6 y7 : Option V), [some (V.ref L), some prv, some (.ref C), some (.ref T), y4', y5', y6', y7', none] = [some (.ref L), some prv, some (.ref C), some bv, y4, y5, y6, y7, none] ∧ Same H3 H8 ∧ ((i + 1 = 0 ∧ bv = .non) ∨ ∃ T' Dd r p q c, bv = .ref T' ∧ LstF H8 T' Dd r p q c ds ws k ∧ H T' = none ∧ H Dd = none ∧ H r = none ∧ ∀ y ∈ ys.take (i + 1), ∀ c', cstF p q ds ws c ≤ cstF y.1 y.2 ds ws c') := fun {T y4' y5' y6' y7' H8} nT e8 old => by
        subst e8
        have z := sm_upd (o := .tup [.int (cstF y.1 y.2 ds ws c), .ref Dd, .ref r]) nT
        refine ⟨_, _, _, _, _, rfl, s37.trans z, .inr ⟨T, Dd, r, y.1, y.2, c, rfl, ⟨upd_same, z _ _ eD7, z _ _ er7, Y, bc⟩, Same.nf (s13.trans s37) nT, nD0, nr0, fun y' hy' c' => ?_⟩⟩
        rw [tk] at hy'
        rcases List.mem_append.mp hy' with hy' | hy'
        · exact old y' hy' c'
        · rw [List.mem_singleton.mp hy']
          exact best c'
      rcases hb7 with ⟨rfl, rfl⟩ | ⟨T, Db, rb, pb, qb, cb, rfl, lf, nT, nDb, nrb, least⟩
      · refine ⟨_, rfl, rfl, _, rfl, iteT (iteT ?_)⟩
        refine ⟨_, rfl, _, rfl, _, rfl, len10 (by simp), fun T nT => ?_⟩
        obtain ⟨bv, a4, a5, a6, a7, h1, h2, h3⟩ := put (y4' := some (.ref rt)) (y5' := some (.ref r)) (y6' := some (.ref Dd)) (y7' := some (.int (cstF y.1 y.2 ds ws c))) nT rfl fun y' h => (nomatch h)
        exact ⟨bv, a4, a5, a6, a7, h1, h2, h3⟩
      · refine ⟨_, rfl, rfl, _, rfl, iteF ?_⟩
        refine ⟨_, rfl, _, rfl, T, _, _, _, rfl, rfl, SqT.of lf.eT, atI_nat (j := 0) rfl, _, _, rfl, rfl, _, rfl, ite2 (fun c1 => ?_) (fun c1 => ?_)⟩
        · have c1 : cstF y.1 y.2 ds ws c < cstF pb qb ds ws cb := of_decide_eq_true c1
          refine ⟨_, rfl, _, rfl, _, rfl, len10 (by simp), fun T nT => ?_⟩
          obtain ⟨bv, a4, a5, a6, a7, h1, h2, h3⟩ := put (y4' := some (.ref rt)) (y5' := some (.ref r)) (y6' := some (.ref Dd)) (y7' := some (.int (cstF y.1 y.2 ds ws c))) nT rfl fun y' h c' => Int.le_trans (Int.le_of_lt c1) (least y' h c')
          exact ⟨bv, a4, a5, a6, a7, h1, h2, h3⟩
        · have c1 : cstF pb qb ds ws cb ≤ cstF y.1 y.2 ds ws c := Int.not_lt.mp fun z => c1 (decide_eq_true z)
          refine ⟨_, _, _, _, _, rfl, s37, .inr ⟨T, Db, rb, pb, qb, cb, rfl, lf, nT, nDb, nrb, fun y' hy' c' => ?_⟩⟩
          rw [tk] at hy'
          rcases List.mem_append.mp hy' with hy' | hy'
          · exact least y' hy' c'
          · rw [List.mem_singleton.mp hy']
            exact Int.le_trans c1 (best c')
    · rintro σ H4 ⟨bv, y4, y5, y6, y7, rfl, s4, hb⟩
      rcases hb with ⟨e0, rfl⟩ | ⟨T, Dd, r, p, q, c, rfl, lf, nT, nD, nr, least⟩
      · exfalso
        have := oR.len
        refine trd.1 (List.length_eq_zero_iff.mp ?_)
        omega
      · refine ⟨_, rfl, kk T H4 Dd r p q c (s13.trans s4) nT nD nr lf fun p' q' c' hp hq => ?_⟩
        obtain ⟨y, hy, y0, y1, ab⟩ := trd.2 p' q' hp hq
        obtain ⟨c'', h⟩ := abv_cst w0 hp hq y0 y1 ab c'
        exact Int.le_trans (least y (by rw [List.take_of_length_le (by rw [oR.len]; exact Nat.le_refl _)]; exact hy) c'') h
end
end Lf
namespace Lf
open PySem PySem.Spec PyProof.Rows L2
/-! ### the law's interval -/
def PrV2 (H : Hp) (v : V) : Option T4 → Prop
  | none => v = .non
  | some z => ∃ r, v = .ref r ∧ H r = some (tup2 z.1 z.2.1)
theorem PrV2.same {H H' : Hp} {v : V} {o : Option T4} (h : PrV2 H v o) (s : Same H H') : PrV2 H' v o := by
  cases o with
  | none => exact h
  | some z =>
    obtain ⟨r, e, h⟩ := h
    exact ⟨r, e, s _ _ h⟩
def Lt3 (S : T3 → T3 → Prop) : T3 → T3 → Prop := fun x y => S x y ∧ x.2.1 < y.2.1
structure IvI (S : T3 → T3 → Prop) (H : Hp) (k : Nat) (vl vh : V) (lo up : Option T4) (cl : Bool) : Prop where
  pl : PrV2 H vl lo
  pu : PrV2 H vh up
  bl : PB k lo
  bu : PB k up
  hl : LoOk S lo
  hu : UpOk (Lt3 S) up
  hc : cl = true ↔ ∀ x y, S x y → x.2.1 = y.2.1 → 0 < y.2.2 + 1 - x.2.2
section
variable {S S' : T3 → T3 → Prop} {H H' : Hp} {k : Nat} {vl vh : V} {lo up : Option T4} {cl : Bool} {x y : T3}
theorem IvI.congr (h : IvI S H k vl vh lo up cl) (e : ∀ x y, S x y ↔ S' x y) : IvI S' H k vl vh lo up cl := by
  have : S = S' := by
    funext x y
    exact propext (e x y)
  rw [← this]
  exact h
theorem IvI.same (h : IvI S H k vl vh lo up cl) (s : Same H H') : IvI S H' k vl vh lo up cl := ⟨h.pl.same s, h.pu.same s, h.bl, h.bu, h.hl, h.hu, h.hc⟩
theorem lt_add (c : x.2.1 < y.2.1) : ∀ x' y', ad (Lt3 S) x y x' y' ↔ Lt3 (ad S x y) x' y' := fun x' y' => by
  constructor
  · rintro (⟨h, g⟩ | ⟨rfl, rfl⟩)
    · exact ⟨.inl h, g⟩
    · exact ⟨.inr ⟨rfl, rfl⟩, c⟩
  · rintro ⟨h | h, g⟩
    · exact .inl ⟨h, g⟩
    · exact .inr h
theorem lt_not (c : ¬ x.2.1 < y.2.1) : ∀ x' y', Lt3 S x' y' ↔ Lt3 (ad S x y) x' y' := fun x' y' => by
  constructor
  · rintro ⟨h, g⟩
    exact ⟨.inl h, g⟩
  · rintro ⟨h | ⟨rfl, rfl⟩, g⟩
    · exact ⟨h, g⟩
    · exact absurd g c
theorem hc_ne (h : cl = true ↔ ∀ x y, S x y → x.2.1 = y.2.1 → 0 < y.2.2 + 1 - x.2.2) (c : x.2.1 ≠ y.2.1) : cl = true ↔ ∀ x' y', ad S x y x' y' → x'.2.1 = y'.2.1 → 0 < y'.2.2 + 1 - x'.2.2 := by
  rw [h]
  constructor
  · rintro g x' y' (z | ⟨rfl, rfl⟩) e
    · exact g x' y' z e
    · exact absurd e c
  · exact fun g x' y' z e => g x' y' (.inl z) e
theorem IvI.zero (h : IvI S H k vl vh lo up cl) (e : x.2.1 = y.2.1) : IvI (ad S x y) H k vl vh lo up (cl && decide (y.2.2 + 1 - x.2.2 > 0)) := by
  refine ⟨h.pl, h.pu, h.bl, h.bu, h.hl.skip (by omega), h.hu.congr (lt_not (by omega)), ?_⟩
  rw [Bool.and_eq_true, h.hc, decide_eq_true_iff]
  constructor
  · rintro ⟨g, g2⟩ x' y' (z | ⟨rfl, rfl⟩) e
    · exact g x' y' z e
    · exact g2
  · exact fun g => ⟨fun x' y' z e => g x' y' (.inl z) e, g x y (.inr ⟨rfl, rfl⟩) e⟩
theorem IvI.keepU (h : IvI S H k vl vh lo up cl) (c : x.2.1 < y.2.1) (g : ∀ z, up = some z → z.1 * (y.2.1 - x.2.1) ≤ (y.2.2 + 1 - x.2.2) * z.2.1) (nn : up ≠ none) : IvI (ad S x y) H k vl vh lo up cl := by
  refine ⟨h.pl, h.pu, h.bl, h.bu, h.hl.skip (by omega), ?_, hc_ne h.hc (by omega)⟩
  cases up with
  | none => exact absurd rfl nn
  | some z => exact (h.hu.keep (by rw [bot_eq c]; exact g z rfl)).congr (lt_add c)
theorem IvI.newU (h : IvI S H k vl vh lo up cl) (c : x.2.1 < y.2.1) (g : ∀ z, up = some z → (y.2.2 + 1 - x.2.2) * z.2.1 < z.1 * (y.2.1 - x.2.1)) {r : Addr} (hs : Same H H') (er : H' r = some (tup2 (y.2.2 + 1 - x.2.2) (y.2.1 - x.2.1))) (b1 : Bd (k + 2) (y.2.2 + 1 - x.2.2)) (b2 : Bd (k + 2) (y.2.1 - x.2.1)) :
    IvI (ad S x y) H' k vl (.ref r) lo (some (y.2.2 + 1 - x.2.2, bot x y, x.1, y.1)) cl := by
  have u : uc x y := ⟨by omega, .inl c⟩
  refine ⟨h.pl.same hs, ⟨r, rfl, by rw [bot_eq c]; exact er⟩, h.bl, fun z e => by cases e; exact ⟨b1, by rw [bot_eq c]; exact b2⟩, h.hl.skip (by omega), ?_, hc_ne h.hc (by omega)⟩
  cases up with
  | none => exact (h.hu.first u).congr (lt_add c)
  | some z => exact (h.hu.upd u (by rw [bot_eq c]; exact g z rfl)).congr (lt_add c)
theorem IvI.keepL (h : IvI S H k vl vh lo up cl) (g : ∀ z, lo = some z → (x.2.2 - y.2.2 - 1) * z.2.1 ≤ z.1 * (x.2.1 - y.2.1)) (c : y.2.1 < x.2.1) (nn : lo ≠ none) : IvI (ad S x y) H k vl vh lo up cl := by
  refine ⟨h.pl, h.pu, h.bl, h.bu, ?_, h.hu.congr (lt_not (by omega)), hc_ne h.hc (by omega)⟩
  cases lo with
  | none => exact absurd rfl nn
  | some z => exact h.hl.keep (g z rfl)
theorem IvI.newL (h : IvI S H k vl vh lo up cl) (c : y.2.1 < x.2.1) (g : ∀ z, lo = some z → z.1 * (x.2.1 - y.2.1) < (x.2.2 - y.2.2 - 1) * z.2.1) {r : Addr} (hs : Same H H') (er : H' r = some (tup2 (x.2.2 - y.2.2 - 1) (x.2.1 - y.2.1))) (b1 : Bd (k + 2) (x.2.2 - y.2.2 - 1)) (b2 : Bd (k + 2) (x.2.1 - y.2.1)) :
    IvI (ad S x y) H' k (.ref r) vh (some (x.2.2 - y.2.2 - 1, x.2.1 - y.2.1, x.1, y.1)) up cl := by
  refine ⟨⟨r, rfl, er⟩, h.pu.same hs, fun z e => by cases e; exact ⟨b1, b2⟩, h.bu, ?_, h.hu.congr (lt_not (by omega)), hc_ne h.hc (by omega)⟩
  cases lo with
  | none => exact h.hl.first c
  | some z => exact h.hl.upd c (g z rfl)
end
def t3 (d : Rec) : T3 := (0, d.t, d.n)
def loR (ds : List Rec) : List Rec := ds.filter fun d => d.lo
def hiR (ds : List Rec) : List Rec := ds.filter fun d => !d.lo
def S3 (ds : List Rec) : T3 → T3 → Prop := fun x y => x ∈ (loR ds).map t3 ∧ y ∈ (hiR ds).map t3
theorem filt_take {f : Rec → Bool} {ds : List Rec} {i : Nat} {d : Rec} (e : ds[i]? = some d) : (ds.take (i + 1)).filter f = (ds.take i).filter f ++ (if f d = true then [d] else []) := by
  rw [List.take_add_one, e, List.filter_append]
  congr 1
  show List.filter f [d] = _
  cases h : f d with
  | true => simp [h]
  | false => simp [h]
theorem cov1 (ds : List Rec) : Cov (SD ds) (S3 ds) := by
  rintro x y ⟨h1, h2⟩
  obtain ⟨i, d, e, hb, rfl⟩ := sel_mem h1
  obtain ⟨j, d', e', hb', rfl⟩ := sel_mem h2
  refine ⟨t3 d, t3 d', ⟨List.mem_map.mpr ⟨d, List.mem_filter.mpr ⟨List.mem_of_getElem? e, hb⟩, rfl⟩, List.mem_map.mpr ⟨d', List.mem_filter.mpr ⟨List.mem_of_getElem? e', by rw [hb']; rfl⟩, rfl⟩⟩, rfl, rfl⟩
theorem cov2 (ds : List Rec) : Cov (S3 ds) (SD ds) := by
  rintro x y ⟨h1, h2⟩
  obtain ⟨d, hd, rfl⟩ := List.mem_map.mp h1
  obtain ⟨d', hd', rfl⟩ := List.mem_map.mp h2
  obtain ⟨m1, g1⟩ := List.mem_filter.mp hd
  obtain ⟨m2, g2⟩ := List.mem_filter.mp hd'
  obtain ⟨i, e⟩ := List.mem_iff_getElem?.mp m1
  obtain ⟨j, e'⟩ := List.mem_iff_getElem?.mp m2
  have g2 : d'.lo = false := by
    cases h : d'.lo with
    | false => rfl
    | true =>
      rw [h] at g2
      cases g2
  exact ⟨_, _, ⟨mem_sel e g1 0, mem_sel e' g2 0⟩, rfl, rfl⟩
section
variable {P : Program} {w : World} {K : PySem.W.Frag} {mg : Str → Option Value} {base : Heap} {C : Addr}
def spLess29 : Sp := fun vs H Q _ => ∃ (a b : Addr) (x1 y1 x2 y2 : Int) (k : Nat), vs = [.ref a, .ref b] ∧ H a = some (tup2 x1 y1) ∧ H b = some (tup2 x2 y2) ∧ Bd k x1 ∧ Bd k y1 ∧ Bd k x2 ∧ Bd k y2 ∧ 0 < k ∧ k ≤ 10002 ∧ Q (.bl (decide (x1 * y2 < x2 * y1))) H
abbrev s_l_less : Stmt := topS 43
abbrev N_l_less : List Str := ["_law_one", "_law_other"]
abbrev P_l_less : List Str := ["_law_one", "_law_other"]
theorem sc_l_less : FnScope N_l_less P_l_less (defScope s_l_less) := ⟨rfl, rfl, rfl, by decide +kernel, rfl, by decide +kernel, by decide +kernel⟩
theorem ok_l_less (D : Df K mg "_law_less" s_l_less P_l_less) : C8.Cal P w K mg base 1 "_law_less" spLess29 [] := by
  refine cal_of D sc_l_less (fun vs H Q E h => ?_) (fun f cdv A outer s H vs Q E hr h => ?_)
  · obtain ⟨a, b, x1, y1, x2, y2, k, rfl, _⟩ := h
    rfl
  · obtain ⟨a, b, x1, y1, x2, y2, k, rfl, ea, eb, b1, b2, b3, b4, k0, k1, kk⟩ := h
    refine ⟨_, (pss_one (ps_ret (pe_cmpR op_lt (pe_op op_mulW (pe_ix (r := rIxT K) ix_tup (pv 0) pe_int (fun _ _ => rfl)) (pe_ix (r := rIxT K) ix_tup (pv 1) pe_int (fun _ _ => rfl))) (pe_op op_mulW (pe_ix (r := rIxT K) ix_tup (pv 1) pe_int (fun _ _ => rfl)) (pe_ix (r := rIxT K) ix_tup (pv 0) pe_int (fun _ _ => rfl))) (nomark _)))), ?_⟩
    exact ⟨_, rfl, a, _, _, _, rfl, rfl, SqT.of ea, atI_nat (j := 0) rfl, _, rfl, b, _, _, _, rfl, rfl, SqT.of eb, atI_nat (j := 1) rfl, _, _, rfl, rfl, mulW b1 b4 (by omega) (by omega) (by omega), _, rfl, b, _, _, _, rfl, rfl, SqT.of eb, atI_nat (j := 0) rfl, _, rfl, a, _, _, _, rfl, rfl, SqT.of ea, atI_nat (j := 1) rfl, _, _, rfl, rfl, mulW b3 b2 (by omega) (by omega) (by omega), _, _, rfl, rfl, kk⟩
def spLow29 : Sp := fun vs H Q _ => ∃ (a : Addr) (p q : Int), vs = [.ref a] ∧ H a = some (tup2 p q) ∧ 0 ≤ p ∧ 1 ≤ q ∧ Bd 9000 q ∧
  ∀ r H', Same H H' → H r = none → H' r = some (tup2 (p / (Int.gcd p q : Int)) (q / (Int.gcd p q : Int))) → Q (.ref r) H'
def spIvl : Sp := fun vs H Q _ => ∃ (L : Addr) (xs : List V) (ds : List Rec) (k : Nat), vs = [.ref L] ∧ H L = some (.lst xs) ∧ Obs rcO H xs ds ∧ ds.length ≤ 1000 ∧ RcB k ds ∧ 0 < k ∧ k ≤ 8000 ∧
  ∀ T H' cl vl vh lo up, Same H H' → H' T = some (.tup [.bl cl, vl, vh]) → PrV2 H' vl lo → PrV2 H' vh up → PB k lo → PB k up → (cl = true → LoOk (S3 ds) lo ∧ UpOk (S3 ds) up ∧ nr lo up = false) → (cl = false → ∀ lo up, LoOk (SD ds) lo → UpOk (SD ds) up → nr lo up = true) → Q (.ref T) H'
abbrev s_l_interval : Stmt := topS 44
abbrev N_l_interval : List Str := ["_law_records", "_law_low", "_law_high", "_law_clear_here", "_law_one", "_law_other", "_law_room", "_law_gap", "_law_record_here"]
abbrev P_l_interval : List Str := ["_law_records"]
theorem sc_l_interval : FnScope N_l_interval P_l_interval (defScope s_l_interval) := ⟨rfl, rfl, rfl, by decide +kernel, rfl, by decide +kernel, by decide +kernel⟩
theorem ok_l_interval (D : Df K mg "_law_interval" s_l_interval P_l_interval) (c_l_less : C8.Cal P w K mg base 1 "_law_less" spLess29 []) : C8.Cal P w K mg base 2 "_law_interval" spIvl [] := by
  refine cal_of D sc_l_interval (fun vs H Q E h => ?_) (fun f cdv A outer s H vs Q E hr h => ?_)
  · obtain ⟨L, xs, ds, k, rfl, _⟩ := h
    rfl
  · obtain ⟨L, xs, ds, k, rfl, eL, hO, hl, bd, k0, k1, kk⟩ := h
    refine ⟨_, (pss_cons (ps_asg (pe_tup (pa_cons pe_non (pa_cons pe_non (pa_cons pe_bl pa_nil)))) (pg_tup rfl (pgs_cons (pg_name (i := 1) sc_l_interval.nd rfl (Or.inl rfl)) (pgs_cons (pg_name (i := 2) sc_l_interval.nd rfl (Or.inl rfl)) (pgs_cons (pg_name (i := 3) sc_l_interval.nd rfl (Or.inl rfl)) pgs_nil)))))
    (pss_cons (ps_for PassesOwn.never rfl (pi_list (pe_lc (own := [("_law_record_here", 8)]) (g := (gName 8)) (by rfl) sc_l_interval.nd (pi_list (pv 0)) (blkOk_by (own := [("_law_record_here", 8)]) (N := N_l_interval) (sc := defScope s_l_interval) (by decide +kernel)) (fun _ _ _ _ _ => (pg_name (i := 8) sc_l_interval.nd rfl (Or.inl rfl))) (fun _ _ _ _ _ => (pts_one (pt_cmpR op_eq (pe_ix (r := rIxT K) ix_tup (pv 8) pe_int (fun _ _ => rfl)) pe_str (nomark _)))) (fun _ _ _ _ _ => (pv 8)))) (pg_name (i := 4) sc_l_interval.nd rfl (Or.inl rfl))
      (pss_one (ps_for PassesOwn.never rfl (pi_list (pe_lc (own := [("_law_record_here", 8)]) (g := (gName 8)) (by rfl) sc_l_interval.nd (pi_list (pv 0)) (blkOk_by (own := [("_law_record_here", 8)]) (N := N_l_interval) (sc := defScope s_l_interval) (by decide +kernel)) (fun _ _ _ _ _ => (pg_name (i := 8) sc_l_interval.nd rfl (Or.inl rfl))) (fun _ _ _ _ _ => (pts_one (pt_cmpR op_eq (pe_ix (r := rIxT K) ix_tup (pv 8) pe_int (fun _ _ => rfl)) pe_str (nomark _)))) (fun _ _ _ _ _ => (pv 8)))) (pg_name (i := 5) sc_l_interval.nd rfl (Or.inl rfl))
      (pss_cons (ps_par (i := 6) (j := 7) rfl sc_l_interval.nd rfl rfl (by decide) rfl rfl (pa_cons (pe_op op_sub (pe_op op_add (pe_ix (r := rIxT K) ix_tup (pv 5) pe_int (fun _ _ => rfl)) pe_int) (pe_ix (r := rIxT K) ix_tup (pv 4) pe_int (fun _ _ => rfl))) (pa_cons (pe_op op_sub (pe_ix (r := rIxT K) ix_tup (pv 5) pe_int (fun _ _ => rfl)) (pe_ix (r := rIxT K) ix_tup (pv 4) pe_int (fun _ _ => rfl))) pa_nil)) rfl)
    (pss_one (ps_if (pt_cmpR op_eq (pv 7) pe_int (nomark _))
      (pss_one (ps_set (i := 3) sc_l_interval.nd rfl (Or.inl rfl) (pe_and (pv 3) (pe_one (pe_cmpR op_gt (pv 6) pe_int (nomark _))))))
      (pss_one (ps_if (pt_cmpR op_gt (pv 7) pe_int (nomark _))
      (pss_one (ps_set (i := 2) sc_l_interval.nd rfl (Or.inl rfl) (pe_ifExp (PW.pt (pw_or (pt_cmpR op_isN (pv 2) pe_non (nomark _)) (pw_or1 (pt_val (C8.pe_c c_l_less hr (by decide) (by rfl) (pa_cons (pe_tup (pa_cons (pv 6) (pa_cons (pv 7) pa_nil))) (pa_cons (pv 2) pa_nil))))))) (pe_tup (pa_cons (pv 6) (pa_cons (pv 7) pa_nil))) (pv 2))))
      (pss_one (ps_if (PW.pt (pw_or (pt_cmpR op_isN (pv 1) pe_non (nomark _)) (pw_or1 (pt_val (C8.pe_c c_l_less hr (by decide) (by rfl) (pa_cons (pv 1) (pa_cons (pe_tup (pa_cons (pe_op op_sub pe_int (pv 6)) (pa_cons (pe_op op_sub pe_int (pv 7)) pa_nil))) pa_nil)))))))
      (pss_one (ps_set (i := 1) sc_l_interval.nd rfl (Or.inl rfl) (pe_tup (pa_cons (pe_op op_sub pe_int (pv 6)) (pa_cons (pe_op op_sub pe_int (pv 7)) pa_nil)))))
      pss_nil))))))))))
    (pss_cons (ps_if (PW.pt (pw_and (pt_cmpR op_notN (pv 2) pe_non (nomark _)) (pw_and1 (PW.pt (pw_or (pt_cmpR op_le (pe_ix (r := rIxT K) ix_tup (pv 2) pe_int (fun _ _ => rfl)) pe_int (nomark _)) (pw_or1 (PW.pt (pw_and (pt_cmpR op_notN (pv 1) pe_non (nomark _)) (pw_and1 (pt_not (pt_val (C8.pe_c c_l_less hr (by decide) (by rfl) (pa_cons (pv 1) (pa_cons (pv 2) pa_nil))))))))))))))
      (pss_one (ps_set (i := 3) sc_l_interval.nd rfl (Or.inl rfl) pe_bl))
      pss_nil)
    (pss_one (ps_ret (pe_tup (pa_cons (pv 3) (pa_cons (pv 1) (pa_cons (pv 2) pa_nil))))))))), ?_⟩
    refine ⟨len10 (by simp), fun tp ntp => ⟨tp, _, rfl, SqT.of upd_same, rfl, _, _, rfl, _, _, rfl, _, _, rfl, rfl, ?_⟩⟩
    have s0 := sm_upd (o := .tup [.non, .non, .bl true]) ntp
    have kk := fun T H' cl vl vh lo up (h : Same (upd H tp (.tup [.non, .non, .bl true])) H') => kk T H' cl vl vh lo up (s0.trans h)
    have eL := s0 _ _ eL
    have hO := hO.same s0
    generalize upd H tp (.tup [.non, .non, .bl true]) = H at kk eL hO ⊢
    clear s0 ntp tp
    refine ⟨_, rfl, L, rfl, ⟨_, SqL.of eL⟩, fun A nA => ?_⟩
    refine lc_it (walk_list (K := K) (a := L) (xs := xs)) (fun i H' => ∃ as, H' A = some (.lst as) ∧ Obs rcO H' as (loR (ds.take i)) ∧ Same H H') ⟨_, upd_same, .nil, sm_upd nA⟩ ?_ ?_ ?_
    · rintro i H1 _ ⟨_, _, _, s1⟩
      exact SqL.of (s1 _ _ eL)
    · rintro i v H1 H2 hi ⟨as, eA, oA, s1⟩ ⟨rfl, hx⟩
      obtain ⟨r, d, rfl, er, hd⟩ := hO.at hx
      have al : as.length < sizeLine := by
        have h1 := oA.len
        have h2 : (loR (ds.take i)).length ≤ (ds.take i).length := List.length_filter_le ..
        rw [List.length_take] at h2
        exact small1000 (by omega)
      refine ⟨rfl, _, rfl, r, _, _, _, rfl, rfl, SqT.of (s1 _ _ er), atI_nat (j := 0) rfl, rfl, _, rfl, ?_⟩
      rw [w_lo]
      have ft := filt_take (f := fun d : Rec => d.lo) hd
      cases hb : d.lo with
      | true =>
        refine iteT ⟨_, rfl, as, eA, al, _, upd_same, ?_, ?_⟩
        · unfold loR
          rw [ft, if_pos hb]
          refine Obs.keep (oA.snoc (s1 _ _ er)) fun b d' e => ?_
          rw [upd_ne (ne_of e eA (by intro q; cases q))]
          exact e
        · intro b o e
          rw [upd_ne (ne_of_none e nA)]
          exact s1 _ _ e
      | false =>
        refine iteF ⟨as, eA, ?_, s1⟩
        unfold loR
        rw [ft, if_neg (by rw [hb]; exact Bool.false_ne_true), List.append_nil]
        exact oA
    rintro H1 ⟨as, eA, oA, s1⟩
    rw [List.take_of_length_le (by rw [hO.len]; exact Nat.le_refl _)] at oA
    have bLo : ∀ d ∈ loR ds, Bd k d.t ∧ Bd k d.n := fun d hd => bd d (List.mem_filter.mp hd).1
    have bHi : ∀ d ∈ hiR ds, Bd k d.t ∧ Bd k d.n := fun d hd => bd d (List.mem_filter.mp hd).1
    refine ⟨A, rfl, ⟨_, SqL.of eA⟩, ?_⟩
    refine for_list (K := K) (a := A) (xs := as) (fun i σ H' => ∃ (vl vh : V) (lo up : Option T4) (cl : Bool) (y4 y5 y6 y7 y8 : Option V), σ = [some (.ref L), some vl, some vh, some (.bl cl), y4, y5, y6, y7, y8] ∧ Same H1 H' ∧ IvI (fun x y => x ∈ ((loR ds).take i).map t3 ∧ y ∈ (hiR ds).map t3) H' k vl vh lo up cl) ?_ ?_ ?_ ?_
    · refine ⟨_, _, none, none, true, _, _, _, _, _, rfl, Same.refl _, ⟨rfl, rfl, (fun z e => by cases e), (fun z e => by cases e), fun x y h => ?_, fun x y h => ?_, ?_⟩⟩
      · cases h.1
      · cases h.1.1
      · exact ⟨fun _ x y h => (nomatch h.1), fun _ => rfl⟩
    · rintro i σ H' _ ⟨_, _, _, _, _, _, _, _, _, _, _, s', _⟩
      exact SqL.of (s' _ _ eA)
    · rintro i v σ H2 hv ⟨vl, vh, lo, up, cl, y4, y5, y6, y7, y8, rfl, s2, iv⟩
      obtain ⟨r, d, rfl, er, hd⟩ := oA.at hv
      have db := bLo d (List.mem_of_getElem? hd)
      have hO2 := (hO.same s1).same s2
      refine ⟨_, rfl, L, rfl, ⟨_, SqL.of (s2 _ _ (s1 _ _ eL))⟩, fun B nB => ?_⟩
      refine lc_it (walk_list (K := K) (a := L) (xs := xs)) (fun i H' => ∃ bs, H' B = some (.lst bs) ∧ Obs rcO H' bs (hiR (ds.take i)) ∧ Same H2 H') ⟨_, upd_same, .nil, sm_upd nB⟩ ?_ ?_ ?_
      · rintro i H3 _ ⟨_, _, _, s3⟩
        exact SqL.of (s3 _ _ (s2 _ _ (s1 _ _ eL)))
      · rintro i v H3 H4 hi ⟨bs, eB, oB, s3⟩ ⟨rfl, hx⟩
        obtain ⟨r, d, rfl, er, hd⟩ := hO2.at hx
        have al : bs.length < sizeLine := by
          have h1 := oB.len
          have h2 : (hiR (ds.take i)).length ≤ (ds.take i).length := List.length_filter_le ..
          rw [List.length_take] at h2
          exact small1000 (by omega)
        refine ⟨rfl, _, rfl, r, _, _, _, rfl, rfl, SqT.of (s3 _ _ er), atI_nat (j := 0) rfl, rfl, _, rfl, ?_⟩
        rw [w_hi]
        have ft := filt_take (f := fun d : Rec => !d.lo) hd
        cases hb : d.lo with
        | false =>
          refine iteT ⟨_, rfl, bs, eB, al, _, upd_same, ?_, ?_⟩
          · unfold hiR
            rw [ft, if_pos (by rw [hb]; rfl)]
            refine Obs.keep (oB.snoc (s3 _ _ er)) fun b d' e => ?_
            rw [upd_ne (ne_of e eB (by intro q; cases q))]
            exact e
          · intro b o e
            rw [upd_ne (ne_of_none e nB)]
            exact s3 _ _ e
        | true =>
          refine iteF ⟨bs, eB, ?_, s3⟩
          unfold hiR
          rw [ft, if_neg (by rw [hb]; exact Bool.false_ne_true), List.append_nil]
          exact oB
      rintro H3 ⟨bs, eB, oB, s3⟩
      rw [List.take_of_length_le (by rw [hO2.len]; exact Nat.le_refl _)] at oB
      refine ⟨B, rfl, ⟨_, SqL.of eB⟩, ?_⟩
      refine for_list (K := K) (a := B) (xs := bs) (fun j σ H' => ∃ (vl vh : V) (lo up : Option T4) (cl : Bool) (y5 y6 y7 y8 : Option V), σ = [some (.ref L), some vl, some vh, some (.bl cl), some (.ref r), y5, y6, y7, y8] ∧ Same H3 H' ∧ IvI (fun x y => (x ∈ ((loR ds).take i).map t3 ∧ y ∈ (hiR ds).map t3) ∨ (x = t3 d ∧ y ∈ ((hiR ds).take j).map t3)) H' k vl vh lo up cl) ?_ ?_ ?_ ?_
      · refine ⟨vl, vh, lo, up, cl, _, _, _, _, rfl, Same.refl _, (iv.same s3).congr fun x y => ?_⟩
        constructor
        · exact .inl
        · rintro (z | ⟨_, z⟩)
          · exact z
          · cases z
      · rintro j σ H' _ ⟨_, _, _, _, _, _, _, _, _, _, s', _⟩
        exact SqL.of (s' _ _ eB)
      · clear iv vl vh lo up cl
        rintro j v σ H4 hv ⟨vl, vh, lo, up, cl, y5, y6, y7, y8, rfl, s4, iv⟩
        obtain ⟨r2, e, rfl, er2, he⟩ := oB.at hv
        have eb := bHi e (List.mem_of_getElem? he)
        have er4 := s4 _ _ (s3 _ _ (s2 _ _ er))
        have er24 := s4 _ _ er2
        have cg : ∀ x' y', ad (fun x y => (x ∈ ((loR ds).take i).map t3 ∧ y ∈ (hiR ds).map t3) ∨ (x = t3 d ∧ y ∈ ((hiR ds).take j).map t3)) (t3 d) (t3 e) x' y' ↔ ((x' ∈ ((loR ds).take i).map t3 ∧ y' ∈ (hiR ds).map t3) ∨ (x' = t3 d ∧ y' ∈ ((hiR ds).take (j + 1)).map t3)) := fun x' y' => by
          rw [List.take_add_one, he, List.map_append]
          constructor
          · rintro ((z | ⟨z1, z2⟩) | ⟨z1, z2⟩)
            · exact .inl z
            · exact .inr ⟨z1, List.mem_append.mpr (.inl z2)⟩
            · exact .inr ⟨z1, List.mem_append.mpr (.inr (List.mem_singleton.mpr z2))⟩
          · rintro (z | ⟨z1, z2⟩)
            · exact .inl (.inl z)
            · rcases List.mem_append.mp z2 with z2 | z2
              · exact .inl (.inr ⟨z1, z2⟩)
              · exact .inr ⟨z1, List.mem_singleton.mp z2⟩
        have b1 : Bd (k + 2) (d.n - e.n - 1) := Bd.sub (Bd.sub db.2 eb.2) (Bd.small 1 (by decide) (by omega))
        have b2 : Bd (k + 2) (d.t - e.t) := (Bd.sub db.1 eb.1).mono (by omega)
        have b3 : Bd (k + 2) (e.n + 1 - d.n) := Bd.sub (Bd.add eb.2 (Bd.small 1 (by decide) (by omega))) (db.2.mono (by omega))
        have b4 : Bd (k + 2) (e.t - d.t) := (Bd.sub eb.1 db.1).mono (by omega)
        refine ⟨_, rfl, r2, _, _, _, rfl, rfl, SqT.of er24, atI_nat (j := 2) rfl, _, _, rfl, rfl, _, rfl, r, _, _, _, rfl, rfl, SqT.of er4, atI_nat (j := 2) rfl, _, _, rfl, rfl, _, rfl, r2, _, _, _, rfl, rfl, SqT.of er24, atI_nat (j := 1) rfl, _, rfl, r, _, _, _, rfl, rfl, SqT.of er4, atI_nat (j := 1) rfl, _, _, rfl, rfl, _, _, rfl, ?_⟩
        refine ⟨_, rfl, rfl, _, rfl, ite2 (fun c => ?_) (fun c => ?_)⟩
        · have c : e.t - d.t = 0 := V.int.inj (of_decide_eq_true c)
          have iz := (iv.zero (x := t3 d) (y := t3 e) (show d.t = e.t by omega)).congr cg
          refine ⟨_, rfl, cl, rfl, ?_⟩
          cases cl with
          | false => exact iteF ⟨_, _, lo, up, false, _, _, _, _, rfl, s4, iz⟩
          | true => exact iteT ⟨_, rfl, _, _, rfl, rfl, _, _, lo, up, _, _, _, _, _, rfl, s4, iz⟩
        · have c : e.t - d.t ≠ 0 := fun h => c (decide_eq_true (congrArg V.int h))
          refine ⟨_, rfl, _, _, rfl, rfl, _, rfl, ite2 (fun g => ?_) (fun g => ?_)⟩
          · have g : e.t - d.t > 0 := of_decide_eq_true g
            have lt : (t3 d).2.1 < (t3 e).2.1 := by show d.t < e.t; omega
            cases up with
            | none =>
              have ev : vh = .non := iv.pu
              subst ev
              refine ⟨_, rfl, rfl, _, rfl, iteT (iteT ?_)⟩
              refine ⟨_, rfl, _, rfl, len10 (by simp), fun r3 nr3 => ?_⟩
              have z3 := sm_upd (o := tup2 (e.n + 1 - d.n) (e.t - d.t)) nr3
              exact ⟨_, _, lo, _, cl, _, _, _, _, rfl, s4.trans z3, (iv.newU lt (fun z e => by cases e) z3 upd_same b3 b4).congr cg⟩
            | some z =>
              obtain ⟨rz, rfl, ez⟩ := iv.pu
              obtain ⟨bz1, bz2⟩ := iv.bu z rfl
              refine ⟨_, rfl, rfl, _, rfl, iteF ?_⟩
              refine ⟨_, rfl, _, rfl, len10 (by simp), fun r3 nr3 => ?_⟩
              have z3 := sm_upd (o := tup2 (e.n + 1 - d.n) (e.t - d.t)) nr3
              refine ⟨_, rfl, r3, rz, _, _, _, _, k + 2, rfl, upd_same, z3 _ _ ez, b3, b4, bz1, bz2, by omega, by omega, _, rfl, ite2 (fun q => ?_) (fun q => ?_)⟩
              · have q : (e.n + 1 - d.n) * z.2.1 < z.1 * (e.t - d.t) := of_decide_eq_true q
                refine ⟨_, rfl, _, rfl, len10 (by simp), fun r4 nr4 => ?_⟩
                have z4 := sm_upd (o := tup2 (e.n + 1 - d.n) (e.t - d.t)) nr4
                exact ⟨_, _, lo, _, cl, _, _, _, _, rfl, (s4.trans z3).trans z4, (iv.newU lt (fun z' e => by cases e; exact q) (z3.trans z4) upd_same b3 b4).congr cg⟩
              · have q : ¬ (e.n + 1 - d.n) * z.2.1 < z.1 * (e.t - d.t) := fun h => q (decide_eq_true h)
                exact ⟨_, rfl, _, _, lo, _, cl, _, _, _, _, rfl, s4.trans z3, ((iv.keepU lt (fun z' e => by cases e; exact Int.not_lt.mp q) (by intro z; cases z)).same z3).congr cg⟩
          · have g : ¬ e.t - d.t > 0 := fun h => g (decide_eq_true h)
            have lt : (t3 e).2.1 < (t3 d).2.1 := by show e.t < d.t; omega
            have q1 : (0 : Int) - (e.n + 1 - d.n) = d.n - e.n - 1 := by omega
            have q2 : (0 : Int) - (e.t - d.t) = d.t - e.t := by omega
            cases lo with
            | none =>
              have ev : vl = .non := iv.pl
              subst ev
              refine ⟨_, rfl, rfl, _, rfl, iteT (iteT ?_)⟩
              refine ⟨_, rfl, _, _, rfl, rfl, _, rfl, _, _, rfl, rfl, len10 (by simp), fun r3 nr3 => ?_⟩
              have z3 := sm_upd (o := tup2 (0 - (e.n + 1 - d.n)) (0 - (e.t - d.t))) nr3
              exact ⟨_, _, _, up, cl, _, _, _, _, rfl, s4.trans z3, (iv.newL lt (fun z e => by cases e) z3 (by rw [upd_same, q1, q2]; rfl) b1 b2).congr cg⟩
            | some z =>
              obtain ⟨rz, rfl, ez⟩ := iv.pl
              obtain ⟨bz1, bz2⟩ := iv.bl z rfl
              refine ⟨_, rfl, rfl, _, rfl, iteF ?_⟩
              refine ⟨_, rfl, _, rfl, _, _, rfl, rfl, _, rfl, _, _, rfl, rfl, len10 (by simp), fun r3 nr3 => ?_⟩
              have z3 := sm_upd (o := tup2 (0 - (e.n + 1 - d.n)) (0 - (e.t - d.t))) nr3
              have er3 : upd H4 r3 (tup2 (0 - (e.n + 1 - d.n)) (0 - (e.t - d.t))) r3 = some (tup2 (d.n - e.n - 1) (d.t - e.t)) := by rw [upd_same, q1, q2]
              refine ⟨rz, r3, _, _, _, _, k + 2, rfl, z3 _ _ ez, er3, bz1, bz2, b1, b2, by omega, by omega, _, rfl, ite2 (fun q => ?_) (fun q => ?_)⟩
              · have q : z.1 * (d.t - e.t) < (d.n - e.n - 1) * z.2.1 := of_decide_eq_true q
                refine ⟨_, rfl, _, _, rfl, rfl, _, rfl, _, _, rfl, rfl, len10 (by simp), fun r4 nr4 => ?_⟩
                have z4 := sm_upd (o := tup2 (0 - (e.n + 1 - d.n)) (0 - (e.t - d.t))) nr4
                exact ⟨_, _, _, up, cl, _, _, _, _, rfl, (s4.trans z3).trans z4, (iv.newL lt (fun z' e => by cases e; exact q) (z3.trans z4) (by rw [upd_same, q1, q2]; rfl) b1 b2).congr cg⟩
              · have q : ¬ z.1 * (d.t - e.t) < (d.n - e.n - 1) * z.2.1 := fun h => q (decide_eq_true h)
                exact ⟨_, _, _, up, cl, _, _, _, _, rfl, s4.trans z3, ((iv.keepL (fun z' e => by cases e; exact Int.not_lt.mp q) lt (by intro z; cases z)).same z3).congr cg⟩
      · clear iv vl vh lo up cl
        rintro σ H4 ⟨vl, vh, lo, up, cl, y5, y6, y7, y8, rfl, s4, iv⟩
        have etk : (hiR ds).take bs.length = hiR ds := List.take_of_length_le (by rw [oB.len]; exact Nat.le_refl _)
        rw [etk] at iv
        refine ⟨vl, vh, lo, up, cl, _, _, _, _, _, rfl, (s2.trans s3).trans s4, iv.congr fun x' y' => ?_⟩
        rw [List.take_add_one, hd, List.map_append]
        constructor
        · rintro (⟨z1, z2⟩ | ⟨z1, z2⟩)
          · exact ⟨List.mem_append.mpr (.inl z1), z2⟩
          · exact ⟨List.mem_append.mpr (.inr (List.mem_singleton.mpr z1)), z2⟩
        · rintro ⟨z1, z2⟩
          rcases List.mem_append.mp z1 with z1 | z1
          · exact .inl ⟨z1, z2⟩
          · exact .inr ⟨List.mem_singleton.mp z1, z2⟩
    · rintro σ H2 ⟨vl, vh, lo, up, cl, y4, y5, y6, y7, y8, rfl, s2, iv⟩
      have etk : (loR ds).take as.length = loR ds := List.take_of_length_le (by rw [oA.len]; exact Nat.le_refl _)
      rw [etk] at iv
      have iv : IvI (S3 ds) H2 k vl vh lo up cl := iv
      have upc : cl = true → UpOk (S3 ds) up := fun c => by
        have g := iv.hc.mp c
        have e : ∀ x y, uc x y → S3 ds x y → x.2.1 < y.2.1 := fun x y u h => by
          rcases u.2 with z | z
          · exact z
          · have h1 := g x y h
            have h2 := u.1
            omega
        have hu := iv.hu
        cases up with
        | none => exact fun x y h u => hu x y ⟨h, e x y u h⟩ u
        | some z =>
          obtain ⟨⟨x, y, h, u, ez⟩, m⟩ := hu
          exact ⟨⟨x, y, h.1, u, ez⟩, fun x' y' h' u' => m x' y' ⟨h', e x' y' u' h'⟩ u'⟩
      have fin : ∀ (cl' : Bool) T H', Same H2 H' → H' T = some (.tup [.bl cl', vl, vh]) → (cl' = true ↔ cl = true ∧ nr lo up = false) → Q (.ref T) H' := fun cl' T H' s' eT hc' => by
        refine kk T H' cl' vl vh lo up ((s1.trans s2).trans s') eT (iv.pl.same s') (iv.pu.same s') iv.bl iv.bu (fun c => ?_) (fun c lo' up' hlo hup => ?_)
        · obtain ⟨c1, c2⟩ := hc'.mp c
          exact ⟨iv.hl, upc c1, c2⟩
        · cases hcl : cl with
          | false =>
            have nall : ¬ ∀ x y, S3 ds x y → x.2.1 = y.2.1 → 0 < y.2.2 + 1 - x.2.2 := fun g => by
              have := iv.hc.mpr g
              rw [hcl] at this
              cases this
            obtain ⟨x, hx⟩ := Classical.not_forall.mp nall
            obtain ⟨y, hy⟩ := Classical.not_forall.mp hx
            obtain ⟨h1, h2⟩ := Classical.not_imp.mp hy
            obtain ⟨h2, h3⟩ := Classical.not_imp.mp h2
            obtain ⟨x', y', s', e1, e2⟩ := cov2 ds x y h1
            exact nr_zero hup s' (by rw [e1, e2]; exact h2) (by rw [e1, e2]; omega)
          | true =>
            have hn : nr lo up = true := by
              cases h : nr lo up with
              | true => rfl
              | false =>
                have := hc'.mpr ⟨hcl, h⟩
                rw [c] at this
                cases this
            rw [← nr_same (lo_same iv.hl hlo (cov2 ds) (cov1 ds)) (up_same (upc hcl) hup (cov2 ds) (cov1 ds))]
            exact hn
      have keep : (cl = true ↔ cl = true ∧ nr lo up = false) → tRet (tTup (tCons (tVar 3) (tCons (tVar 1) (tCons (tVar 2) tNil)))) { nx := fun _ H' => Q .non H', rt := Q } [some (.ref L), some vl, some vh, some (.bl cl), y4, y5, y6, y7, y8] H2 := fun hc' =>
        ⟨_, rfl, _, rfl, _, rfl, len10 (by simp), fun T nT => fin cl T _ (sm_upd nT) upd_same hc'⟩
      have keep3 : ∀ H3, Same H2 H3 → (cl = true ↔ cl = true ∧ nr lo up = false) → tRet (tTup (tCons (tVar 3) (tCons (tVar 1) (tCons (tVar 2) tNil)))) { nx := fun _ H' => Q .non H', rt := Q } [some (.ref L), some vl, some vh, some (.bl cl), y4, y5, y6, y7, y8] H3 := fun H3 s3 hc' =>
        ⟨_, rfl, _, rfl, _, rfl, len10 (by simp), fun T nT => fin cl T _ (s3.trans (sm_upd nT)) upd_same hc'⟩
      have drop : ∀ H3, Same H2 H3 → nr lo up = true → tSeq (tAsg (tC (V.bl false)) (gName 3)) (tRet (tTup (tCons (tVar 3) (tCons (tVar 1) (tCons (tVar 2) tNil))))) { nx := fun _ H' => Q .non H', rt := Q } [some (.ref L), some vl, some vh, some (.bl cl), y4, y5, y6, y7, y8] H3 := fun H3 s3 hn =>
        ⟨_, rfl, _, rfl, _, rfl, len10 (by simp), fun T nT => fin false T _ (s3.trans (sm_upd nT)) upd_same ⟨(fun z => by cases z), (fun z => by rw [hn] at z; cases z.2)⟩⟩
      cases up with
      | none =>
        have ev : vh = .non := iv.pu
        subst ev
        refine ⟨_, rfl, rfl, _, rfl, iteF (iteF ?_)⟩
        exact keep ⟨fun h => ⟨h, by cases lo <;> rfl⟩, fun h => h.1⟩
      | some z =>
        obtain ⟨rz, rfl, ez⟩ := iv.pu
        obtain ⟨bz1, bz2⟩ := iv.bu z rfl
        refine ⟨_, rfl, rfl, _, rfl, iteT ?_⟩
        refine ⟨_, rfl, rz, _, _, _, rfl, rfl, SqT.of ez, atI_nat (j := 0) rfl, _, _, rfl, rfl, _, rfl, ite2 (fun c => ?_) (fun c => ?_)⟩
        · have hn : nr lo (some z) = true := by
            cases lo with
            | none => exact c
            | some l =>
              show (decide (z.1 ≤ 0) || _) = true
              rw [show decide (z.1 ≤ 0) = true from c]
              rfl
          exact iteT (drop _ (Same.refl _) hn)
        · have c : decide (z.1 ≤ 0) = false := bool_f c
          cases lo with
          | none =>
            have ev : vl = .non := iv.pl
            subst ev
            refine ⟨_, rfl, rfl, _, rfl, iteF (iteF ?_)⟩
            exact keep ⟨fun h => ⟨h, c⟩, fun h => h.1⟩
          | some l =>
            obtain ⟨rl, rfl, el⟩ := iv.pl
            obtain ⟨bl1, bl2⟩ := iv.bl l rfl
            refine ⟨_, rfl, rfl, _, rfl, iteT ?_⟩
            refine ⟨_, rfl, _, rfl, rl, rz, _, _, _, _, k + 2, rfl, el, ez, bl1, bl2, bz1, bz2, by omega, by omega, _, rfl, ite2 (fun q => ?_) (fun q => ?_)⟩
            · have q : ¬ l.1 * z.2.1 < z.1 * l.2.1 := fun h => by
                rw [decide_eq_true h] at q
                cases q
              have hn : nr (some l) (some z) = true := by
                show (decide (z.1 ≤ 0) || decide (z.1 * l.2.1 ≤ l.1 * z.2.1)) = true
                rw [decide_eq_true (Int.not_lt.mp q), Bool.or_true]
              exact drop _ (Same.refl _) hn
            · have q : l.1 * z.2.1 < z.1 * l.2.1 := by
                rcases Int.lt_or_le (l.1 * z.2.1) (z.1 * l.2.1) with h | h
                · exact h
                · rw [decide_eq_false (Int.not_lt.mpr h)] at q
                  exact absurd rfl q
              have hn : nr (some l) (some z) = false := by
                show (decide (z.1 ≤ 0) || decide (z.1 * l.2.1 ≤ l.1 * z.2.1)) = false
                rw [c, decide_eq_false (Int.not_le.mpr q)]
                rfl
              exact keep ⟨fun h => ⟨h, hn⟩, fun h => h.1⟩
end
end Lf
namespace Lf
open PySem PySem.Spec PyProof.Rows L2
/-! ### bounds exist; whether some rule fits -/
theorem lo_step {S : T3 → T3 → Prop} (h : ∃ o, LoOk S o) (x y : T3) : ∃ o, LoOk (ad S x y) o := by
  obtain ⟨o, h⟩ := h
  by_cases c : y.2.1 < x.2.1
  · cases o with
    | none => exact ⟨_, h.first c⟩
    | some z =>
      rcases Int.lt_or_le (z.1 * (x.2.1 - y.2.1)) ((x.2.2 - y.2.2 - 1) * z.2.1) with g | g
      · exact ⟨_, h.upd c g⟩
      · exact ⟨_, h.keep g⟩
  · exact ⟨_, h.skip c⟩
theorem up_step {S : T3 → T3 → Prop} (h : ∃ o, UpOk S o) (x y : T3) : ∃ o, UpOk (ad S x y) o := by
  obtain ⟨o, h⟩ := h
  by_cases c : uc x y
  · cases o with
    | none => exact ⟨_, h.first c⟩
    | some z =>
      rcases Int.lt_or_le ((y.2.2 + 1 - x.2.2) * z.2.1) (z.1 * bot x y) with g | g
      · exact ⟨_, h.upd c g⟩
      · exact ⟨_, h.keep g⟩
  · exact ⟨_, h.skip c⟩
theorem ends_list (l : List (T3 × T3)) : (∃ o, LoOk (fun x y => (x, y) ∈ l) o) ∧ ∃ o, UpOk (fun x y => (x, y) ∈ l) o := by
  induction l with
  | nil => exact ⟨⟨none, fun _ _ h => (nomatch h)⟩, ⟨none, fun _ _ h => (nomatch h)⟩⟩
  | cons a r ih =>
    have e : ∀ x y : T3, ad (fun x y => (x, y) ∈ r) a.1 a.2 x y ↔ (x, y) ∈ a :: r := fun x y => by
      rw [List.mem_cons]
      constructor
      · rintro (h | ⟨rfl, rfl⟩)
        · exact .inr h
        · exact .inl rfl
      · rintro (h | h)
        · refine .inr ⟨?_, ?_⟩ <;> rw [← h]
        · exact .inl h
    obtain ⟨o1, h1⟩ := lo_step ih.1 a.1 a.2
    obtain ⟨o2, h2⟩ := up_step ih.2 a.1 a.2
    exact ⟨⟨o1, h1.congr e⟩, ⟨o2, h2.congr e⟩⟩
theorem ends_ex (ds : List Rec) : ∃ lo up, LoOk (SD ds) lo ∧ UpOk (SD ds) up := by
  obtain ⟨⟨lo, h1⟩, ⟨up, h2⟩⟩ := ends_list ((sel true 0 ds).flatMap fun x => (sel false 0 ds).map fun y => (x, y))
  have e : ∀ x y : T3, (x, y) ∈ ((sel true 0 ds).flatMap fun x => (sel false 0 ds).map fun y => (x, y)) ↔ SD ds x y := fun x y => by
    rw [List.mem_flatMap]
    constructor
    · rintro ⟨x', hx, h⟩
      obtain ⟨y', hy, h⟩ := List.mem_map.mp h
      cases h
      exact ⟨hx, hy⟩
    · rintro ⟨hx, hy⟩
      exact ⟨x, hx, List.mem_map.mpr ⟨y, hy, rfl⟩⟩
  exact ⟨lo, up, h1.congr e, h2.congr e⟩
section
variable {P : Program} {w : World} {K : PySem.W.Frag} {mg : Str → Option Value} {base : Heap}
def spClear : Sp := fun vs H Q _ => ∃ (L : Addr) (xs : List V) (ds : List Rec) (k : Nat), vs = [.ref L] ∧ H L = some (.lst xs) ∧ Obs rcO H xs ds ∧ ds.length ≤ 1000 ∧ RcB k ds ∧ 0 < k ∧ k ≤ 8000 ∧
  ∀ b H', Same H H' → (b = true ↔ ¬ Cf ds) → Q (.bl b) H'
abbrev s_l_clear : Stmt := topS 45
abbrev N_l_clear : List Str := ["_law_records"]
abbrev P_l_clear : List Str := ["_law_records"]
theorem sc_l_clear : FnScope N_l_clear P_l_clear (defScope s_l_clear) := ⟨rfl, rfl, rfl, by decide +kernel, rfl, by decide +kernel, by decide +kernel⟩
theorem ok_l_clear (D : Df K mg "_law_clear" s_l_clear P_l_clear) (c_l_interval : C8.Cal P w K mg base 2 "_law_interval" spIvl []) : C8.Cal P w K mg base 3 "_law_clear" spClear [] := by
  refine cal_of D sc_l_clear (fun vs H Q E h => ?_) (fun f cdv A outer s H vs Q E hr h => ?_)
  · obtain ⟨L, xs, ds, k, rfl, _⟩ := h
    rfl
  · obtain ⟨L, xs, ds, k, rfl, eL, hO, hl, bd, k0, k1, kk⟩ := h
    refine ⟨_, (pss_one (ps_ret (pe_ix (r := rIxT K) ix_tup (C8.pe_c c_l_interval hr (by decide) (by rfl) (pa_cons (pv 0) pa_nil)) pe_int (fun _ _ => rfl)))), ?_⟩
    refine ⟨_, rfl, L, xs, ds, k, rfl, eL, hO, hl, bd, k0, k1, fun T H1 cl vl vh lo up s1 eT _ _ _ _ hT hF => ?_⟩
    refine ⟨T, _, _, _, rfl, rfl, SqT.of eT, atI_nat (j := 0) rfl, kk cl H1 s1 ?_⟩
    cases cl with
    | false =>
      refine ⟨fun z => (nomatch z), fun nc => ?_⟩
      obtain ⟨lo', up', h1, h2⟩ := ends_ex ds
      exact absurd ((nr_cf h1 h2).mp (hF rfl lo' up' h1 h2)) nc
    | true =>
      refine ⟨fun _ hc => ?_, fun _ => rfl⟩
      obtain ⟨hlo, hup, hn⟩ := hT rfl
      obtain ⟨p, q, hp, hq, ri⟩ := nr_some hlo hup hn
      have g := (rate_iff hp hq hlo hup).mpr ri
      refine hc p q hp hq (fitm_sd.mp fun x y s => ?_)
      obtain ⟨x', y', s', e1, e2⟩ := cov1 ds x y s
      have := g x' y' s'
      rw [e1, e2] at this
      exact this
def spOppL : Sp := fun vs H Q _ => ∃ (r : Addr) (d : Rec), vs = [.ref r] ∧ H r = some (rcO d) ∧ ∀ e H', Same H H' → H' e = some (rcO (opp d)) → Q (.ref e) H'
end
end Lf
namespace Lf
open PySem PySem.Spec PyProof.Rows L2
section
variable {P : Program} {w : World} {K : PySem.W.Frag} {mg : Str → Option Value} {base : Heap}
/-! ### _law_fits -/
def spFit28 : Sp := fun vs H Q _ => ∃ (r e : Addr) (p q c : Int) (d : Rec) (k : Nat), vs = [.ref r, .ref e] ∧ H r = some (.tup [.int p, .int q, .int c]) ∧ H e = some (rcO d) ∧ RuleB k p q c ∧ Bd k d.t ∧ 0 < k ∧ k ≤ 3000 ∧ Q (.bl (fitB p q c d)) H
abbrev s_l_fits : Stmt := topS 39
abbrev N_l_fits : List Str := ["_law_rule_here", "_law_record_here", "_law_here"]
abbrev P_l_fits : List Str := ["_law_rule_here", "_law_record_here"]
theorem sc_l_fits : FnScope N_l_fits P_l_fits (defScope s_l_fits) := ⟨rfl, rfl, rfl, by decide +kernel, rfl, by decide +kernel, by decide +kernel⟩
theorem ok_l_fits (D : Df K mg "_law_fits" s_l_fits P_l_fits) (c_l_count : C8.Cal P w K mg base 1 "_law_count" spCount30 []) : C8.Cal P w K mg base 2 "_law_fits" spFit28 [] := by
  refine cal_of D sc_l_fits (fun vs H Q E h => ?_) (fun f cdv A outer s H vs Q E hr h => ?_)
  · obtain ⟨r, e, p, q, c, d, k, rfl, _⟩ := h
    rfl
  · obtain ⟨r, e, p, q, c, d, k, rfl, er, ee, R, bt, k0, k1, kk⟩ := h
    refine ⟨_, (pss_cons (ps_set (i := 2) sc_l_fits.nd rfl (Or.inl rfl) (C8.pe_c c_l_count hr (by decide) (by rfl) (pa_cons (pv 0) (pa_cons (pe_ix (r := rIxT K) ix_tup (pv 1) pe_int (fun _ _ => rfl)) pa_nil))))
    (pss_one (ps_ret (pe_ifExp (pt_cmpR op_eq (pe_ix (r := rIxT K) ix_tup (pv 1) pe_int (fun _ _ => rfl)) pe_str (nomark _)) (pe_cmpR op_ge (pv 2) (pe_ix (r := rIxT K) ix_tup (pv 1) pe_int (fun _ _ => rfl)) (nomark _)) (pe_cmpR op_le (pv 2) (pe_ix (r := rIxT K) ix_tup (pv 1) pe_int (fun _ _ => rfl)) (nomark _)))))), ?_⟩
    refine ⟨_, rfl, _, rfl, e, _, _, _, rfl, rfl, SqT.of ee, atI_nat (j := 1) rfl, r, p, q, c, d.t, k, rfl, er, R, bt, k0, k1, ?_⟩
    refine ⟨_, rfl, e, _, _, _, rfl, rfl, SqT.of ee, atI_nat (j := 0) rfl, rfl, _, rfl, ?_⟩
    rw [w_lo]
    have kk : Q (.bl (if d.lo = true then decide (d.n ≤ (p * d.t + c) / q) else decide ((p * d.t + c) / q ≤ d.n))) H := kk
    cases hd : d.lo with
    | true =>
      rw [hd] at kk
      refine iteT ?_
      exact ⟨_, rfl, _, rfl, e, _, _, _, rfl, rfl, SqT.of ee, atI_nat (j := 2) rfl, _, _, rfl, rfl, kk⟩
    | false =>
      rw [hd] at kk
      refine iteF ?_
      exact ⟨_, rfl, _, rfl, e, _, _, _, rfl, rfl, SqT.of ee, atI_nat (j := 2) rfl, _, _, rfl, rfl, kk⟩
end
end Lf
namespace Lf
open PySem PySem.Spec PyProof.Rows L2
section
variable {P : Program} {w : World} {K : PySem.W.Frag} {mg : Str → Option Value} {base : Heap}
/-! ### _law_is_rule, of a rule -/
def spIsRu38 : Sp := fun vs H Q _ => ∃ (r : Addr) (p q c : Int) (k : Nat), vs = [.ref r] ∧ H r = some (.tup [.int p, .int q, .int c]) ∧ RuleB k p q c ∧ ∀ H', Same H H' → Q (.bl true) H'
abbrev s_l_is_rule : Stmt := topS 48
abbrev N_l_is_rule : List Str := ["_law_value", "_law_part"]
abbrev P_l_is_rule : List Str := ["_law_value"]
theorem sc_l_is_rule : FnScope N_l_is_rule P_l_is_rule (defScope s_l_is_rule) := ⟨rfl, rfl, rfl, by decide +kernel, rfl, by decide +kernel, by decide +kernel⟩
theorem ok_l_is_rule (D : Df K mg "_law_is_rule" s_l_is_rule P_l_is_rule) (B : Bi mg) (c_l_gcd : C8.Cal P w K mg base 1 "_law_gcd" spGcd []) : C8.Cal P w K mg base 2 "_law_is_rule" spIsRu38 [] := by
  refine cal_of D sc_l_is_rule (fun vs H Q E h => ?_) (fun f cdv A outer s H vs Q E hr h => ?_)
  · obtain ⟨r, p, q, c, k, rfl, _⟩ := h
    rfl
  · obtain ⟨r, p, q, c, k, rfl, er, R, kk⟩ := h
    refine ⟨_, (pss_cons (ps_if (PW.pt (pw_or (pt_not (pt_val (pe_callB (call_isi) (by rfl) B.isinstance_ bt_isinstance (pa_cons (pv 0) (pa_cons (pe_bltn (v := .ty "tuple") (by rfl) B.tuple_ bt_tuple rfl) pa_nil))))) (pw_or1 (pt_cmpR op_ne (pe_callB (call_len_seq) (by rfl) B.len_ bt_len (pa_cons (pv 0) pa_nil)) pe_int (nomark _)))))
      (pss_one (ps_ret pe_bl))
      pss_nil)
    (pss_cons (ps_if (pt_cmpR (op_neD hr.units) (pe_lc (own := [("_law_part", 1)]) (g := (gName 1)) (by rfl) sc_l_is_rule.nd (pi_tup (pv 0)) (blkOk_by (own := [("_law_part", 1)]) (N := N_l_is_rule) (sc := defScope s_l_is_rule) (by decide +kernel)) (fun _ _ _ _ _ => (pg_name (i := 1) sc_l_is_rule.nd rfl (Or.inl rfl))) (fun _ _ _ _ _ => (pts_one (PW.pt (pw_or (pt_not (pt_val (pe_callB ((show CallR _ _ (rIsi K) from call_isi)) (by rfl) B.isinstance_ bt_isinstance (pa_cons (pv 1) (pa_cons (pe_bltn (v := .ty "int") (by rfl) B.int_ bt_int rfl) pa_nil))))) (pw_or1 (pt_val (pe_callB ((show CallR _ _ (rIsi K) from call_isi)) (by rfl) B.isinstance_ bt_isinstance (pa_cons (pv 1) (pa_cons (pe_bltn (v := .ty "bool") (by rfl) B.bool_ bt_bool rfl) pa_nil))))))))) (fun _ _ _ _ _ => (pv 1))) (pe_lst pa_nil) (nomark _))
      (pss_one (ps_ret pe_bl))
      pss_nil)
    (pss_one (ps_ret (pe_and (pe_cmpR op_ge (pe_ix (r := rIxT K) ix_tup (pv 0) pe_int (fun _ _ => rfl)) pe_int (nomark _)) (pe_and (pe_cmpR op_ge (pe_ix (r := rIxT K) ix_tup (pv 0) pe_int (fun _ _ => rfl)) pe_int (nomark _)) (pe_one (pe_cmpR op_eq (C8.pe_c c_l_gcd hr (by decide) (by rfl) (pa_cons (pe_ix (r := rIxT K) ix_tup (pv 0) pe_int (fun _ _ => rfl)) (pa_cons (pe_ix (r := rIxT K) ix_tup (pv 0) pe_int (fun _ _ => rfl)) pa_nil))) pe_int (nomark _))))))))), ?_⟩
    refine ⟨_, rfl, _, _, _, _, true, rfl, .ty "tuple", .base (.tup er), kit_ty ktt, true, rfl, iteF ⟨_, rfl, r, _, rfl, .inr (SqT.of er), rfl, _, rfl, iteNS rfl ?_⟩⟩
    refine ⟨_, rfl, r, rfl, ⟨_, SqT.of er⟩, fun Y nY => ?_⟩
    refine lc_it (walk_tup (K := K) (a := r) (xs := [.int p, .int q, .int c])) (fun i H' => H' Y = some (.lst []) ∧ Same H H') ⟨upd_same, sm_upd nY⟩ ?_ ?_ ?_
    · rintro i H7 _ ⟨_, s7⟩
      exact SqT.of (s7 _ _ er)
    · rintro i x H7 _ hi ⟨eY, s7⟩ ⟨rfl, hx⟩
      obtain ⟨z, rfl⟩ : ∃ z, x = V.int z := by
        have := List.mem_of_getElem? hx
        simp only [List.mem_cons, List.not_mem_nil, or_false] at this
        rcases this with rfl | rfl | rfl <;> exact ⟨_, rfl⟩
      refine ⟨rfl, ⟨_, rfl, _, _, _, _, true, rfl, .ty "int", (Dv.int _).ty, kit_ty (kit_int (.int _)), true, rfl, iteF ?_⟩⟩
      refine ⟨_, rfl, _, _, _, _, false, rfl, .ty "bool", (Dv.int _).ty, kit_ty (kit_bool (.int _)), false, rfl, iteF ?_⟩
      exact ⟨eY, s7⟩
    rintro H7 ⟨eY, s7⟩
    refine ⟨Nat.zero_le _, fun W nW => ?_⟩
    have zW := sm_upd (o := .lst []) nW
    refine ⟨.list [], .list [], Dp.lst (SqL.of (zW _ _ eY)) .nil, Dp.lst (SqL.of upd_same) .nil, rfl, rfl, _, rfl, iteFz rfl ?_⟩
    have s8 := s7.trans zW
    generalize upd H7 W (.lst []) = H8 at s8 ⊢
    have er8 := s8 _ _ er
    refine ⟨_, rfl, r, _, _, _, rfl, rfl, SqT.of er8, atI_nat (j := 0) rfl, _, _, rfl, rfl, _, rfl, iteD R.p0 ?_⟩
    refine ⟨_, rfl, r, _, _, _, rfl, rfl, SqT.of er8, atI_nat (j := 1) rfl, _, _, rfl, rfl, _, rfl, iteD R.q1 ?_⟩
    refine ⟨_, rfl, r, _, _, _, rfl, rfl, SqT.of er8, atI_nat (j := 0) rfl, _, rfl, r, _, _, _, rfl, rfl, SqT.of er8, atI_nat (j := 1) rfl, p, q, rfl, R.p0, (by have := R.q1; omega), rfl, ?_⟩
    rw [show decide (V.int (Int.gcd p q : Int) = V.int 1) = true from decide_eq_true (by rw [R.g]; rfl)]
    exact kk _ s8
end
end Lf
namespace Lf
open PySem PySem.Spec PyProof.Rows L2
/-! ### sets of records by masks -/
def bitN (m k : Nat) : Bool := decide (m / 2 ^ k % 2 = 1)
def mskN (m n : Nat) : List Nat := (List.range n).filter (bitN m)
def keptN (m n : Nat) : List Nat := (List.range n).filter fun k => !bitN m k
def mskP (ws : List Int) (m n : Nat) : Int := ((mskN m n).map (wF ws)).sum
theorem bit_tb (m k : Nat) : bitN m k = m.testBit k := by
  unfold bitN
  rw [Nat.testBit_eq_decide_div_mod_eq]
theorem msk_ex (f : Nat → Bool) : ∀ n, ∃ m, m < 2 ^ n ∧ ∀ k, k < n → bitN m k = f k
  | 0 => ⟨0, by decide, fun k h => absurd h (Nat.not_lt_zero k)⟩
  | n + 1 => by
    obtain ⟨m, hm, h⟩ := msk_ex f n
    cases e : f n with
    | true =>
      refine ⟨2 ^ n + m, by rw [Nat.pow_succ]; omega, fun k hk => ?_⟩
      rw [bit_tb]
      by_cases z : k = n
      · subst z
        rw [Nat.testBit_two_pow_add_eq, Nat.testBit_lt_two_pow hm, e]
        rfl
      · rw [Nat.testBit_two_pow_add_gt (by omega), ← bit_tb]
        exact h k (by omega)
    | false =>
      refine ⟨m, by rw [Nat.pow_succ]; omega, fun k hk => ?_⟩
      by_cases z : k = n
      · subst z
        rw [bit_tb, Nat.testBit_lt_two_pow hm, e]
      · exact h k (by omega)
/-- the least price of the masks below i -/
structure LsM (ds : List Rec) (ws : List Int) (i : Nat) (v : Int) : Prop where
  ge : ∀ m, m < i → ¬ Cf (pk ds (keptN m ds.length)) → v ≤ mskP ws m ds.length
  le : v ≤ ws.sum
  at_ : v = ws.sum ∨ ∃ m, ¬ Cf (pk ds (keptN m ds.length)) ∧ v = mskP ws m ds.length
theorem LsM.keep {ds : List Rec} {ws : List Int} {i : Nat} {v : Int} (h : LsM ds ws i v) (z : ¬ Cf (pk ds (keptN i ds.length)) → v ≤ mskP ws i ds.length) : LsM ds ws (i + 1) v := ⟨fun m hm nc => by
  by_cases e : m = i
  · subst e
    exact z nc
  · exact h.ge m (by omega) nc, h.le, h.at_⟩
theorem LsM.put {ds : List Rec} {ws : List Int} {i : Nat} {v : Int} (h : LsM ds ws i v) (nc : ¬ Cf (pk ds (keptN i ds.length))) (lt : mskP ws i ds.length < v) : LsM ds ws (i + 1) (mskP ws i ds.length) := ⟨fun m hm c => by
  by_cases e : m = i
  · subst e
    exact Int.le_refl _
  · have := h.ge m (by omega) c
    omega, by have := h.le; omega, .inr ⟨i, nc, rfl⟩⟩
theorem sum_sg {ws : List Int} : ws.sum = sg ws.length (wF ws) := by
  have h := sg_sum (P := fun _ => true) (g := wF ws) ws.length
  rw [List.filter_eq_self.mpr fun _ _ => rfl] at h
  have e : (List.range ws.length).map (wF ws) = ws := (lfL_w (ws := ws)).symm
  rw [e] at h
  rw [h]
  exact sg_congr fun k _ => if_pos rfl
theorem lsm_eq {p q c v : Int} {ds : List Rec} {ws : List Int} (hp : 0 ≤ p) (hq : 1 ≤ q) (lw : ws.length = ds.length) (w0 : ∀ x ∈ ws, 0 ≤ x) (least : ∀ p' q' c', 0 ≤ p' → 1 ≤ q' → cstF p q ds ws c ≤ cstF p' q' ds ws c') (h : LsM ds ws (2 ^ ds.length) v) : v = cstF p q ds ws c := by
  refine Int.le_antisymm ?_ ?_
  · obtain ⟨m, hm, hb⟩ := msk_ex (fun k => !fitB p q c (ds.getD k rD)) ds.length
    have e1 : mskN m ds.length = outsN p q c ds := filter_congr' fun k hk => hb k (List.mem_range.mp hk)
    have nc : ¬ Cf (pk ds (keptN m ds.length)) := by
      refine fits_nc hp hq (c := c) (List.all_eq_true.mpr fun d hd => ?_)
      obtain ⟨j, hj, ej⟩ := mem_pk.mp hd
      obtain ⟨hj, bj⟩ := List.mem_filter.mp hj
      rw [hb j (List.mem_range.mp hj), getD_at ej] at bj
      simpa using bj
    have := h.ge m hm nc
    unfold mskP at this
    rw [e1, outs_sum hq] at this
    exact this
  · rcases h.at_ with e | ⟨m, nc, e⟩
    · rw [e, sum_sg, lw]
      refine sg_le fun k _ => ?_
      have := wF_nn w0 k
      split <;> omega
    · obtain ⟨p', q', hp', hq', fm⟩ := not_cf nc
      obtain ⟨c', f⟩ := m_fits hq' fm
      refine Int.le_trans (least p' q' c' hp' hq') ?_
      rw [e]
      unfold mskP mskN
      rw [sg_sum]
      refine sg_le fun k hk => ?_
      have := wF_nn w0 k
      cases b : bitN m k with
      | true =>
        rw [if_pos rfl]
        split <;> omega
      | false =>
        rw [out_fit hq', getD_at (List.getElem?_eq_getElem hk), List.all_eq_true.mp f _ (mem_pk.mpr ⟨k, List.mem_filter.mpr ⟨List.mem_range.mpr hk, by rw [b]; rfl⟩, List.getElem?_eq_getElem hk⟩)]
        exact Int.le_refl _
end Lf
namespace Lf
open PySem PySem.Spec PyProof.Rows L2
/-! ### _law_least, _law_is_right -/
theorem kll7 : kitB "list" "list" = some true := by decide +kernel
theorem bit_dec {i j : Nat} : decide (V.int (Builtin.bitAnd (((0 : Int) + (i : Nat)) / 2 ^ ((0 : Int) + (j : Nat)).toNat) 1) = V.int 1) = bitN i j := by
  rw [bitAnd_m1, Int.zero_add, Int.zero_add, Int.toNat_natCast]
  unfold bitN
  refine decide_eq_decide.mpr ?_
  have e : ((i : Int) / 2 ^ j % 2) = ((i / 2 ^ j % 2 : Nat) : Int) := by simp
  rw [e]
  constructor
  · intro h
    have := V.int.inj h
    omega
  · intro h
    rw [h]
    rfl
theorem rg_snoc {f : Nat → Bool} {j : Nat} : (List.range (j + 1)).filter f = (List.range j).filter f ++ (if f j = true then [j] else []) := by
  rw [List.range_succ, List.filter_append]
  congr 1
  cases h : f j with
  | true => simp [h]
  | false => simp [h]
theorem ints_smI (ns : List Int) : SmI (ns.map V.int) := fun z hz => by
  obtain ⟨x, _, rfl⟩ := List.mem_map.mp hz
  exact .inl rfl
theorem obs_smI {H : Hp} {xs : List V} {ds : List Rec} (o : Obs rcO H xs ds) : SmI xs := by
  induction o with
  | nil => exact fun _ h => (nomatch h)
  | cons _ _ ih =>
    intro z hz
    rcases List.mem_cons.mp hz with h | h
    · exact .inr ⟨_, h⟩
    · exact ih z h
section
variable {P : Program} {w : World} {K : PySem.W.Frag} {mg : Str → Option Value} {base : Heap}
def spLs47 : Sp := fun vs H Q _ => ∃ (L C : Addr) (xs : List V) (ds : List Rec) (ws : List Int) (k : Nat), vs = [.ref L, .ref C] ∧ H L = some (.lst xs) ∧ Obs rcO H xs ds ∧ ds.length ≤ 8 ∧ RcB k ds ∧ 0 < k ∧ k ≤ 4000 ∧ H C = some (.lst (ws.map V.int)) ∧ ws.length = ds.length ∧
  ∀ v H', Same H H' → LsM ds ws (2 ^ ds.length) v → Q (.int v) H'
abbrev s_l_least : Stmt := topS 47
abbrev N_l_least : List Str := ["_law_records", "_law_costs_here", "_law_best", "_law_mask", "_law_out", "_law_price", "_law_rest", "_law_k"]
abbrev P_l_least : List Str := ["_law_records", "_law_costs_here"]
theorem sc_l_least : FnScope N_l_least P_l_least (defScope s_l_least) := ⟨rfl, rfl, rfl, by decide +kernel, rfl, by decide +kernel, by decide +kernel⟩
theorem ok_l_least (D : Df K mg "_law_least" s_l_least P_l_least) (B : Bi mg) (c_l_clear : C8.Cal P w K mg base 3 "_law_clear" spClear []) : C8.Cal P w K mg base 4 "_law_least" spLs47 [] := by
  refine cal_of D sc_l_least (fun vs H Q E h => ?_) (fun f cdv A outer s H vs Q E hr h => ?_)
  · obtain ⟨L, C, xs, ds, ws, k, rfl, _⟩ := h
    rfl
  · obtain ⟨L, C, xs, ds, ws, k, rfl, eL, oL, ll, bd, k0, k1, eC, lw, kk⟩ := h
    have lx := oL.len
    refine ⟨_, (pss_cons (ps_set (i := 2) sc_l_least.nd rfl (Or.inl rfl) (pe_callB (cr_sum rfl) (by rfl) B.sum_ bt_sum (pa_cons (pv 1) pa_nil)))
    (pss_cons (ps_for PassesOwn.never rfl (pi_range1 rfl B.range_ (pa_cons (pe_op op_shl pe_int (pe_callB (call_len_seq) (by rfl) B.len_ bt_len (pa_cons (pv 0) pa_nil))) pa_nil)) (pg_name (i := 3) sc_l_least.nd rfl (Or.inr rfl))
      (pss_cons (ps_set (i := 4) sc_l_least.nd rfl (Or.inr rfl) (pe_lc (own := [("_law_k", 7)]) (g := (gName 7)) (by rfl) sc_l_least.nd (pi_range1 rfl B.range_ (pa_cons (pe_callB (call_len_seq) (by rfl) B.len_ bt_len (pa_cons (pv 0) pa_nil)) pa_nil)) (blkOk_by (own := [("_law_k", 7)]) (N := N_l_least) (sc := defScope s_l_least) (by decide +kernel)) (fun _ _ _ _ _ => (pg_name (i := 7) sc_l_least.nd rfl (Or.inl rfl))) (fun _ _ _ _ _ => (pts_one (pt_cmpR op_eq (pe_op op_and (pe_op op_shr (pv 3) (pv 7)) pe_int) pe_int (nomark _)))) (fun _ _ _ _ _ => (pv 7))))
    (pss_cons (ps_par (i := 5) (j := 6) rfl sc_l_least.nd rfl rfl (by decide) rfl rfl (pa_cons (pe_callB (cr_sum rfl) (by rfl) B.sum_ bt_sum (pa_cons (pe_lc (own := [("_law_k", 7)]) (g := (gName 7)) (by rfl) sc_l_least.nd (pi_list (pv 4)) (blkOk_by (own := [("_law_k", 7)]) (N := N_l_least) (sc := defScope s_l_least) (by decide +kernel)) (fun _ _ _ _ _ => (pg_name (i := 7) sc_l_least.nd rfl (Or.inl rfl))) (fun _ _ _ _ _ => pts_nil) (fun _ _ _ _ _ => (pe_ix (r := rIxL K) ix_list (pv 1) (pv 7) (fun _ _ => rfl)))) pa_nil)) (pa_cons (pe_lc (own := [("_law_k", 7)]) (g := (gName 7)) (by rfl) sc_l_least.nd (pi_range1 rfl B.range_ (pa_cons (pe_callB (call_len_seq) (by rfl) B.len_ bt_len (pa_cons (pv 0) pa_nil)) pa_nil)) (blkOk_by (own := [("_law_k", 7)]) (N := N_l_least) (sc := defScope s_l_least) (by decide +kernel)) (fun _ _ _ _ _ => (pg_name (i := 7) sc_l_least.nd rfl (Or.inl rfl))) (fun _ _ _ _ _ => (pts_one (pt_cmpR (show OpR _ (compareOp .NotIn) (rIn K true) from op_notIn_seq) (pv 7) (pv 4) rfl))) (fun _ _ _ _ _ => (pe_ix (r := rIxL K) ix_list (pv 0) (pv 7) (fun _ _ => rfl)))) pa_nil)) rfl)
    (pss_one (ps_if (PW.pt (pw_and (pt_cmpR op_lt (pv 5) (pv 2) (nomark _)) (pw_and1 (pt_val (C8.pe_c c_l_clear hr (by decide) (by rfl) (pa_cons (pv 6) pa_nil))))))
      (pss_one (ps_set (i := 2) sc_l_least.nd rfl (Or.inl rfl) (pv 5)))
      pss_nil)))))
    (pss_one (ps_ret (pv 2))))), ?_⟩
    refine ⟨_, rfl, C, ws, rfl, SqL.of eC, ?_⟩
    obtain ⟨N, hN⟩ : ∃ N : Nat, N = 2 ^ ds.length := ⟨_, rfl⟩
    have pw : N ≤ 2 ^ 8 := by
      rw [hN]
      exact Nat.pow_le_pow_right (by decide) ll
    refine ⟨_, rfl, L, _, rfl, .inl (SqL.of eL), _, _, rfl, rfl, ⟨by omega, by omega, by decide⟩, ((N : Nat) : Int), ?_, by omega, by omega, ?_⟩
    · show [V.int (1 * 2 ^ ((xs.length : Nat) : Int).toNat)] = [V.int ((N : Nat) : Int)]
      rw [Int.one_mul, Int.toNat_natCast, lx, hN]
      simp
    rw [Int.toNat_natCast]
    refine for_range (lo := 0) (n := N) (fun i σ H' => ∃ (v : Int) (y3 y4 y5 y6 : Option V), σ = [some (.ref L), some (.ref C), some (.int v), y3, y4, y5, y6, none] ∧ Same H H' ∧ LsM ds ws i v) ⟨ws.sum, _, _, _, _, rfl, Same.refl _, fun m hm => absurd hm (Nat.not_lt_zero m), Int.le_refl _, .inl rfl⟩ ?_ ?_
    · rintro i σ H1 hi ⟨v, y3, y4, y5, y6, rfl, s1, I⟩
      have eL1 := s1 _ _ eL
      have oL1 := oL.same s1
      have eC1 := s1 _ _ eC
      -- what is out
      refine ⟨_, rfl, L, _, rfl, .inl (SqL.of eL1), _, rfl, by omega, by omega, fun O nO => ?_⟩
      refine lc_range (lo := 0) (n := ((xs.length : Nat) : Int).toNat) (fun j H' => Same H1 H' ∧ H' O = some (.lst ((ni ((List.range j).filter (bitN i))).map V.int))) ⟨sm_upd nO, upd_same⟩ ?_ ?_
      · rintro j H' hj ⟨s', e'⟩
        refine ⟨rfl, _, rfl, _, rfl, _, _, rfl, rfl, by omega, _, _, rfl, rfl, rfl, _, rfl, ?_⟩
        show if decide (V.int (Builtin.bitAnd (((0 : Int) + (i : Nat)) / 2 ^ ((0 : Int) + (j : Nat)).toNat) 1) = V.int 1) = true then _ else _
        rw [bit_dec]
        cases hb : bitN i j with
        | false =>
          refine iteF ⟨s', ?_⟩
          rw [rg_snoc, hb, if_neg (by decide), List.append_nil]
          exact e'
        | true =>
          refine iteT ⟨_, rfl, _, e', ?_, ?_, ?_⟩
          · rw [List.length_map, ni_len]
            have := List.length_filter_le (bitN i) (List.range j)
            rw [List.length_range] at this
            rw [Int.toNat_natCast] at hj
            exact small1000 (by omega)
          · intro b o eb
            rw [upd_ne (ne_of_none eb nO)]
            exact s' _ _ eb
          · rw [upd_same, rg_snoc, hb, if_pos rfl, ni_app, List.map_append, Int.zero_add]
            rfl
      rintro H2 ⟨s2, eO⟩
      rw [Int.toNat_natCast, lx] at eO
      have eO : H2 O = some (.lst ((ni (mskN i ds.length)).map V.int)) := eO
      have s12 := s1.trans s2
      have eL2 := s2 _ _ eL1
      have oL2 := oL1.same s2
      have eC2 := s2 _ _ eC1
      have ml : (mskN i ds.length).length ≤ ds.length := by
        have := List.length_filter_le (bitN i) (List.range ds.length)
        rw [List.length_range] at this
        exact this
      -- its price
      refine ⟨_, rfl, O, rfl, ⟨_, SqL.of eO⟩, fun D2 nD2 => ?_⟩
      refine lc_list (K := K) (a := O) (xs := (ni (mskN i ds.length)).map V.int) (fun j H' => Same H2 H' ∧ H' D2 = some (.lst ((((mskN i ds.length).take j).map (wF ws)).map V.int))) ⟨sm_upd nD2, upd_same⟩ ?_ ?_ ?_
      · rintro j H' _ ⟨s', _⟩
        exact SqL.of (s' _ _ eO)
      · rintro j v' H' hx ⟨s', e'⟩
        obtain ⟨e, he, rfl⟩ := ni_at hx
        have el : e < ws.length := by
          have := (List.mem_filter.mp (List.mem_of_getElem? he)).1
          rw [lw]
          exact List.mem_range.mp this
        refine ⟨rfl, _, rfl, _, rfl, C, _, _, _, rfl, rfl, SqL.of (s' _ _ eC2), atI_nat (wF_at el), _, e', ?_, ?_, ?_⟩
        · rw [List.length_map, List.length_map, List.length_take]
          exact small1000 (by omega)
        · intro b o eb
          rw [upd_ne (ne_of_none eb nD2)]
          exact s' _ _ eb
        · rw [upd_same, List.take_add_one, he, List.map_append, List.map_append]
          rfl
      rintro H3 ⟨s3, e3⟩
      rw [List.length_map, ni_len, List.take_length] at e3
      have eO3 := s3 _ _ eO
      have eL3 := s3 _ _ eL2
      have oL3 := oL2.same s3
      refine ⟨D2, _, rfl, SqL.of e3, ?_⟩
      -- the others
      refine ⟨_, rfl, L, _, rfl, .inl (SqL.of eL3), _, rfl, by omega, by omega, fun R nR => ?_⟩
      refine lc_range (lo := 0) (n := ((xs.length : Nat) : Int).toNat) (fun j H' => ∃ rs, Same H3 H' ∧ H' R = some (.lst rs) ∧ Obs rcO H' rs (pk ds ((List.range j).filter fun k => !bitN i k))) ⟨[], sm_upd nR, upd_same, .nil⟩ ?_ ?_
      · rintro j H' hj ⟨rs, s', e', o'⟩
        rw [Int.toNat_natCast] at hj
        have hj' : j < ds.length := by omega
        have ed : ds[j]? = some ds[j] := List.getElem?_eq_getElem hj'
        obtain ⟨e, he, ee⟩ := oL3.on ed
        refine ⟨rfl, _, rfl, _, rfl, O, _, rfl, .inl (SqL.of (s' _ _ eO3)), rfl, flat_ints _, _, rfl, ?_⟩
        show if (!inV (.int ((0 : Int) + (j : Nat))) ((ni (mskN i ds.length)).map V.int)) = true then _ else _
        rw [inV_ints, Int.zero_add]
        have mem : ((j : Nat) : Int) ∈ ni (mskN i ds.length) ↔ bitN i j = true := by
          rw [ni_mem]
          constructor
          · rintro ⟨j', h1, h2⟩
            have : j = j' := by omega
            subst this
            exact (List.mem_filter.mp h1).2
          · exact fun h => ⟨j, List.mem_filter.mpr ⟨List.mem_range.mpr hj', h⟩, rfl⟩
        have sn := rg_snoc (f := fun k => !bitN i k) (j := j)
        cases hb : bitN i j with
        | true =>
          rw [decide_eq_true (mem.mpr hb)]
          rw [if_neg (by rw [hb]; decide), List.append_nil] at sn
          exact iteF ⟨rs, s', e', by rw [sn]; exact o'⟩
        | false =>
          rw [decide_eq_false (fun h => by rw [mem.mp h] at hb; cases hb)]
          rw [if_pos (by rw [hb]; rfl)] at sn
          refine iteT ⟨_, rfl, _, rfl, L, _, _, _, rfl, rfl, SqL.of (s' _ _ eL3), atI_nat he, rs, e', ?_, rs ++ [.ref e], ?_, upd_same, ?_⟩
          · have h1 := o'.len
            have h2 := pk_le (ds := ds) ((List.range j).filter fun k => !bitN i k)
            have h3 := List.length_filter_le (fun k => !bitN i k) (List.range j)
            rw [List.length_range] at h3
            exact small1000 (by omega)
          · intro b o eb
            rw [upd_ne (ne_of_none eb nR)]
            exact s' _ _ eb
          · rw [sn, pk_app, pk_one ed]
            refine Obs.keep (o'.snoc (s' _ _ ee)) fun b d' eb => ?_
            rw [upd_ne (ne_of eb e' (by intro q; cases q))]
            exact eb
      rintro H4 ⟨rs, s4, eR, oR⟩
      rw [Int.toNat_natCast, lx] at oR
      have oR : Obs rcO H4 rs (pk ds (keptN i ds.length)) := oR
      have s14 := (s12.trans s3).trans s4
      refine ⟨_, _, rfl, ?_⟩
      have lk : (pk ds (keptN i ds.length)).length ≤ ds.length := by
        have h2 := pk_le (ds := ds) (keptN i ds.length)
        have h3 := List.length_filter_le (fun k => !bitN i k) (List.range ds.length)
        rw [List.length_range] at h3
        exact Nat.le_trans h2 h3
      refine ⟨_, rfl, _, rfl, _, _, rfl, rfl, _, rfl, ite2 (fun c => ?_) (fun c => ?_)⟩
      · have c : mskP ws i ds.length < v := of_decide_eq_true c
        refine ⟨_, rfl, R, rs, _, k, rfl, eR, oR, by omega, pk_bd bd _, k0, by omega, fun b H5 s5 hb => ⟨_, rfl, ?_⟩⟩
        cases b with
        | true => exact iteT ⟨_, rfl, _, _, _, _, _, rfl, s14.trans s5, I.put (hb.mp rfl) c⟩
        | false => exact iteF ⟨_, _, _, _, _, rfl, s14.trans s5, I.keep fun nc => absurd (hb.mpr nc) (by decide)⟩
      · have c : ¬ mskP ws i ds.length < v := fun z => c (decide_eq_true z)
        exact ⟨_, _, _, _, _, rfl, s14, I.keep fun _ => by omega⟩
    · rintro σ H1 ⟨v, y3, y4, y5, y6, rfl, s1, I⟩
      exact ⟨_, rfl, kk v H1 s1 (hN ▸ I)⟩
def spRgt47 : Sp := fun vs H Q _ => ∃ (L C T Dd r : Addr) (xs : List V) (ds : List Rec) (ws : List Int) (p q c : Int), vs = [.ref L, .ref C, .ref T] ∧ H L = some (.lst xs) ∧ Obs rcO H xs ds ∧ ds.length ≤ 8 ∧ RcB 410 ds ∧ H C = some (.lst (ws.map V.int)) ∧ ws.length = ds.length ∧ (∀ x ∈ ws, 0 ≤ x ∧ Bd 100 x) ∧ LstF H T Dd r p q c ds ws 410 ∧ (∀ p' q' c', 0 ≤ p' → 1 ≤ q' → cstF p q ds ws c ≤ cstF p' q' ds ws c') ∧
  ∀ H', Same H H' → Q (.bl true) H'
abbrev s_l_is_right : Stmt := topS 49
abbrev N_l_is_right : List Str := ["_law_records", "_law_costs_here", "_law_told", "_law_price", "_law_dropped", "_law_rule_here", "_law_k"]
abbrev P_l_is_right : List Str := ["_law_records", "_law_costs_here", "_law_told"]
theorem sc_l_is_right : FnScope N_l_is_right P_l_is_right (defScope s_l_is_right) := ⟨rfl, rfl, rfl, by decide +kernel, rfl, by decide +kernel, by decide +kernel⟩
theorem ok_l_is_right (D : Df K mg "_law_is_right" s_l_is_right P_l_is_right) (B : Bi mg) (c_l_is_rule : C8.Cal P w K mg base 2 "_law_is_rule" spIsRu38 []) (c_l_fits : C8.Cal P w K mg base 2 "_law_fits" spFit28 []) (c_l_least : C8.Cal P w K mg base 4 "_law_least" spLs47 []) : C8.Cal P w K mg base 5 "_law_is_right" spRgt47 [] := by
  refine cal_of D sc_l_is_right (fun vs H Q E h => ?_) (fun f cdv A outer s H vs Q E hr h => ?_)
  · obtain ⟨L, C, T, Dd, r, xs, ds, ws, p, q, c, rfl, _⟩ := h
    rfl
  · obtain ⟨L, C, T, Dd, r, xs, ds, ws, p, q, c, rfl, eL, oL, ll, bd, eC, lw, hw, lf, least, kk⟩ := h
    have lx := oL.len
    have q1 := lf.rt.q1
    have w0 : ∀ x ∈ ws, 0 ≤ x := fun x hx => (hw x hx).1
    have RR : RuleB 829 p q c := ⟨lf.rt.p0, q1, lf.rt.g, lf.rt.bp.mono (by decide), lf.rt.bq.mono (by decide), lf.bc⟩
    refine ⟨_, (pss_cons (ps_if (PW.pt (pw_or (pt_not (pt_val (pe_callB (call_isi) (by rfl) B.isinstance_ bt_isinstance (pa_cons (pv 2) (pa_cons (pe_bltn (v := .ty "tuple") (by rfl) B.tuple_ bt_tuple rfl) pa_nil))))) (pw_or (pt_cmpR op_ne (pe_callB (call_len_seq) (by rfl) B.len_ bt_len (pa_cons (pv 2) pa_nil)) pe_int (nomark _)) (pw_or (pt_not (pt_val (pe_callB (call_isi) (by rfl) B.isinstance_ bt_isinstance (pa_cons (pe_ix (r := rIxT K) ix_tup (pv 2) pe_int (fun _ _ => rfl)) (pa_cons (pe_bltn (v := .ty "list") (by rfl) B.list_ bt_list rfl) pa_nil))))) (pw_or1 (pt_not (pt_val (C8.pe_c c_l_is_rule hr (by decide) (by rfl) (pa_cons (pe_ix (r := rIxT K) ix_tup (pv 2) pe_int (fun _ _ => rfl)) pa_nil)))))))))
      (pss_one (ps_ret pe_bl))
      pss_nil)
    (pss_cons (ps_asg (pv 2) (pg_tup rfl (pgs_cons (pg_name (i := 3) sc_l_is_right.nd rfl (Or.inl rfl)) (pgs_cons (pg_name (i := 4) sc_l_is_right.nd rfl (Or.inl rfl)) (pgs_cons (pg_name (i := 5) sc_l_is_right.nd rfl (Or.inr rfl)) pgs_nil)))))
    (pss_cons (ps_if (pt_cmpR (op_neS hr.units) (pv 4) (pe_lc (own := [("_law_k", 6)]) (g := (gName 6)) (by rfl) sc_l_is_right.nd (pi_range1 rfl B.range_ (pa_cons (pe_callB (call_len_seq) (by rfl) B.len_ bt_len (pa_cons (pv 0) pa_nil)) pa_nil)) (blkOk_by (own := [("_law_k", 6)]) (N := N_l_is_right) (sc := defScope s_l_is_right) (by decide +kernel)) (fun _ _ _ _ _ => (pg_name (i := 6) sc_l_is_right.nd rfl (Or.inl rfl))) (fun _ _ _ _ _ => (pts_one (pt_not (pt_val (C8.pe_c c_l_fits hr (by decide) (by rfl) (pa_cons (pv 5) (pa_cons (pe_ix (r := rIxL K) ix_list (pv 0) (pv 6) (fun _ _ => rfl)) pa_nil))))))) (fun _ _ _ _ _ => (pv 6))) (nomark _))
      (pss_one (ps_ret pe_bl))
      pss_nil)
    (pss_one (ps_ret (pe_and (pe_cmpR op_eq (pe_callB (SkE.call_repr_int) (by rfl) B.repr_ bt_repr (pa_cons (pv 3) pa_nil)) (pe_callB (SkE.call_repr_int) (by rfl) B.repr_ bt_repr (pa_cons (pe_callB (cr_sum rfl) (by rfl) B.sum_ bt_sum (pa_cons (pe_lc (own := [("_law_k", 6)]) (g := (gName 6)) (by rfl) sc_l_is_right.nd (pi_list (pv 4)) (blkOk_by (own := [("_law_k", 6)]) (N := N_l_is_right) (sc := defScope s_l_is_right) (by decide +kernel)) (fun _ _ _ _ _ => (pg_name (i := 6) sc_l_is_right.nd rfl (Or.inl rfl))) (fun _ _ _ _ _ => pts_nil) (fun _ _ _ _ _ => (pe_ix (r := rIxL K) ix_list (pv 1) (pv 6) (fun _ _ => rfl)))) pa_nil)) pa_nil)) (nomark _)) (pe_one (pe_cmpR op_eq (pv 3) (C8.pe_c c_l_least hr (by decide) (by rfl) (pa_cons (pv 0) (pa_cons (pv 1) pa_nil))) (nomark _))))))))), ?_⟩
    refine ⟨_, rfl, _, _, _, _, true, rfl, .ty "tuple", .base (.tup lf.eT), kit_ty ktt, true, rfl, iteF ?_⟩
    refine ⟨_, rfl, T, _, rfl, .inr (SqT.of lf.eT), rfl, _, rfl, iteNS rfl ?_⟩
    refine ⟨_, rfl, T, _, _, _, rfl, rfl, SqT.of lf.eT, atI_nat (j := 1) rfl, _, _, _, _, true, rfl, .ty "list", .base (.lst lf.eD), kit_ty kll7, true, rfl, iteF ?_⟩
    refine ⟨_, rfl, T, _, _, _, rfl, rfl, SqT.of lf.eT, atI_nat (j := 2) rfl, r, p, q, c, 829, rfl, lf.er, RR, fun H1 s1 => ⟨true, rfl, iteF ?_⟩⟩
    have lf1 := lf.same s1
    have eL1 := s1 _ _ eL
    have oL1 := oL.same s1
    have eC1 := s1 _ _ eC
    refine ⟨_, rfl, T, _, rfl, SqT.of lf1.eT, rfl, _, _, rfl, _, _, rfl, _, _, rfl, rfl, ?_⟩
    -- what is dropped
    refine ⟨_, rfl, _, rfl, L, _, rfl, .inl (SqL.of eL1), _, rfl, by omega, by omega, fun F nF => ?_⟩
    refine lc_range (lo := 0) (n := ((xs.length : Nat) : Int).toNat) (fun i H' => Same H1 H' ∧ H' F = some (.lst ((ni ((List.range i).filter fun k => !fitB p q c (ds.getD k rD))).map V.int))) ⟨sm_upd nF, upd_same⟩ ?_ ?_
    · rintro i H' hi ⟨s', e'⟩
      rw [Int.toNat_natCast] at hi
      have hi' : i < ds.length := by omega
      have ed : ds[i]? = some ds[i] := List.getElem?_eq_getElem hi'
      obtain ⟨e, he, ee⟩ := oL1.on ed
      have g : ds.getD i rD = ds[i] := getD_at ed
      have bb := (bd _ (List.getElem_mem hi')).1
      refine ⟨rfl, _, rfl, _, rfl, _, rfl, L, _, _, _, rfl, rfl, SqL.of (s' _ _ eL1), (by rw [Int.zero_add]; exact atI_nat he), r, e, p, q, c, ds[i], 829, rfl, s' _ _ lf1.er, s' _ _ ee, RR, bb.mono (by decide), by decide, by decide, _, rfl, ?_⟩
      have sn := rg_snoc (f := fun k => !fitB p q c (ds.getD k rD)) (j := i)
      cases hb : fitB p q c ds[i] with
      | true =>
        rw [if_neg (by rw [g, hb]; decide), List.append_nil] at sn
        exact iteF ⟨s', by rw [sn]; exact e'⟩
      | false =>
        rw [if_pos (by rw [g, hb]; rfl)] at sn
        refine iteT ⟨_, rfl, _, e', ?_, ?_, ?_⟩
        · rw [List.length_map, ni_len]
          have := List.length_filter_le (fun k => !fitB p q c (ds.getD k rD)) (List.range i)
          rw [List.length_range] at this
          exact small1000 (by omega)
        · intro b o eb
          rw [upd_ne (ne_of_none eb nF)]
          exact s' _ _ eb
        · rw [upd_same, sn, ni_app, List.map_append, Int.zero_add]
          rfl
    rintro H2 ⟨s2, eF⟩
    rw [Int.toNat_natCast, lx] at eF
    have lf2 := lf1.same s2
    have eL2 := s2 _ _ eL1
    have oL2 := oL1.same s2
    have eC2 := s2 _ _ eC1
    refine ⟨Dd, F, _, _, rfl, rfl, SqL.of lf2.eD, SqL.of eF, .inr ⟨rfl, ints_smI _, _, rfl, iteF ?_⟩⟩
    have bc : Bd 110 (cstF p q ds ws c) := cst_bd hw (by omega) c
    have lg : (cstF p q ds ws c).natAbs.log2 < 1920 := (bc.mono (show 110 ≤ 1920 by decide)).log (by decide)
    refine ⟨_, rfl, _, rfl, lg, ?_⟩
    refine ⟨_, rfl, Dd, rfl, ⟨_, SqL.of lf2.eD⟩, fun D2 nD2 => ?_⟩
    refine lc_list (K := K) (a := Dd) (xs := (ni (outsN p q c ds)).map V.int) (fun i H' => Same H2 H' ∧ H' D2 = some (.lst ((((outsN p q c ds).take i).map (wF ws)).map V.int))) ⟨sm_upd nD2, upd_same⟩ ?_ ?_ ?_
    · rintro i H' _ ⟨s', _⟩
      exact SqL.of (s' _ _ lf2.eD)
    · rintro i v H' hx ⟨s', e'⟩
      obtain ⟨e, he, rfl⟩ := ni_at hx
      have el := outs_lt e (List.mem_of_getElem? he)
      have lo := outs_le' (p := p) (q := q) (c := c) (ds := ds)
      refine ⟨rfl, _, rfl, _, rfl, C, _, _, _, rfl, rfl, SqL.of (s' _ _ eC2), atI_nat (wF_at (by omega)), _, e', ?_, ?_, ?_⟩
      · rw [List.length_map, List.length_map, List.length_take]
        exact small1000 (by omega)
      · intro b o eb
        rw [upd_ne (ne_of_none eb nD2)]
        exact s' _ _ eb
      · rw [upd_same, List.take_add_one, he, List.map_append, List.map_append]
        rfl
    rintro H3 ⟨s3, e3⟩
    rw [List.take_of_length_le (by rw [List.length_map, ni_len]; exact Nat.le_refl _)] at e3
    refine ⟨D2, _, rfl, SqL.of e3, ?_⟩
    rw [outs_sum q1]
    refine ⟨_, rfl, lg, rfl, ?_⟩
    have s13 := (s1.trans s2).trans s3
    refine ⟨_, rfl, iteD rfl ?_⟩
    refine ⟨_, rfl, _, rfl, _, rfl, L, C, xs, ds, ws, 410, rfl, s13 _ _ eL, oL.same s13, ll, bd, by decide, by decide, s13 _ _ eC, lw, fun v H4 s4 I => ⟨rfl, ?_⟩⟩
    have e := lsm_eq lf.rt.p0 q1 lw w0 least I
    exact (show Q (V.bl (decide (V.int (cstF p q ds ws c) = V.int v))) H4 by rw [decide_eq_true (by rw [e])]; exact kk _ (s13.trans s4))
end
end Lf
namespace Lf
open PySem PySem.Spec PyProof.Rows L2
theorem mn3 (x : Int) (h : 0 ≤ x) : 0 ≤ (if x < 3 then x else 3) ∧ (if x < 3 then x else 3) ≤ 3 := by
  by_cases z : x < 3
  · rw [if_pos z]
    omega
  · rw [if_neg z]
    omega
theorem bd_snoc' {k : Nat} {ds : List Rec} {d : Rec} (h : RcB k ds) (b : Bd k d.t ∧ Bd k d.n) : RcB k (ds ++ [d]) := fun e he => by
  rcases List.mem_append.mp he with h1 | h1
  · exact h e h1
  · rw [List.mem_singleton.mp h1]
    exact b
section
variable {P : Program} {w : World} {K : PySem.W.Frag} {mg : Str → Option Value} {base : Heap}
abbrev s_law : Stmt := topS 50
abbrev N_law : List Str := ["_law_script", "_law_pen_here", "_law_turn", "_law_rule_here", "_law_records", "_law_costs_here", "_law_ones", "_law_handed_here", "_law_worth", "_law_bout", "_law_told", "_law_k", "_law_record_here"]
abbrev P_law : List Str := ["_law_script"]
theorem sc_law : FnScope N_law P_law (defScope s_law) := ⟨rfl, rfl, rfl, by decide +kernel, rfl, by decide +kernel, by decide +kernel⟩
theorem ok_law {f : Addr} {fd : FuncData} (F : Fun K "law" "law" s_law f fd) (B : Bi mg) (c_l_pen : C8.Cal P w K mg base 1 "_law_pen" (spPen K) []) (c_l_rule : C8.Cal P w K mg base 3 "_law_rule" spRule30 []) (c_l_draw : C8.Cal P w K mg base 1 "_law_draw" spDraw []) (c_l_record : C8.Cal P w K mg base 4 "_law_record" spRec30 []) (c_l_costs : C8.Cal P w K mg base 3 "_law_costs" spCost []) (c_l_handed : C8.Cal P w K mg base 2 "_law_handed" spHanded []) (c_least_repair : C8.Cal P w K mg base 6 "least_repair" spLst [.non]) (cO_least_repair : CalO P w K mg base 6 "least_repair" spLst 1 "prices") (c_l_is_right : C8.Cal P w K mg base 5 "_law_is_right" spRgt47 []) : FnOk P w K mg base CX0 7 f fd P_law (spLaw K) := by
  refine F.ok sc_law (fun vs H Q E h => ?_) (fun cdv A outer s H vs Q E hr h => ?_)
  · obtain ⟨a, ns, rfl, _⟩ := h
    rfl
  · obtain ⟨sc, ns, rfl, hS, hlen, kk⟩ := h
    refine ⟨_, (pss_cons (ps_set (i := 1) sc_law.nd rfl (Or.inr rfl) (C8.pe_c c_l_pen hr (by decide) (by rfl) (pa_cons (pv 0) pa_nil)))
    (pss_cons (ps_for PassesOwn.never rfl (pi_range1 rfl B.range_ (pa_cons (pe_op op_add pe_int (pe_callB (call_min2 rfl) (by rfl) B.min_ bt_min (pa_cons pe_int (pa_cons (pe_callB (call_len_seq) (by rfl) B.len_ bt_len (pa_cons (pv 0) pa_nil)) pa_nil)))) pa_nil)) (pg_name (i := 2) sc_law.nd rfl (Or.inl rfl))
      (pss_cons (ps_set (i := 3) sc_law.nd rfl (Or.inr rfl) (C8.pe_c c_l_rule hr (by decide) (by rfl) (pa_cons (pv 1) (pa_cons pe_int pa_nil))))
    (pss_cons (ps_setLc (i := 4) (own := [("_law_k", 11)]) (g := (gName 11)) (by rfl) sc_law.nd rfl rfl (sw_true rfl rfl rfl (by decide +kernel)) (pi_range1 rfl B.range_ (pa_cons (C8.pe_c c_l_draw hr (by decide) (by rfl) (pa_cons (pv 1) (pa_cons pe_int pa_nil))) pa_nil)) (blkOk_by (own := [("_law_k", 11)]) (N := N_law) (sc := defScope s_law) (by decide +kernel)) (fun _ _ _ _ _ => (pg_name (i := 11) sc_law.nd rfl (Or.inl rfl))) (fun _ _ _ _ _ => pts_nil) (fun _ _ _ _ _ => (C8.pe_c c_l_record hr (by decide) (by rfl) (pa_cons (pv 1) (pa_cons (pv 3) (pa_cons (pe_lst (pa_cons pe_int (pa_cons pe_int (pa_cons pe_int (pa_cons pe_int (pa_cons (pe_op op_pow pe_int pe_int) pa_nil)))))) (pa_cons pe_int pa_nil)))))))
    (pss_cons (ps_par (i := 5) (j := 6) rfl sc_law.nd rfl rfl (by decide) rfl rfl (pa_cons (C8.pe_c c_l_costs hr (by decide) (by rfl) (pa_cons (pv 1) (pa_cons (pe_callB (call_len_seq) (by rfl) B.len_ bt_len (pa_cons (pv 4) pa_nil)) pa_nil))) (pa_cons (pe_lc (own := [("_law_record_here", 12)]) (g := (gName 12)) (by rfl) sc_law.nd (pi_list (pv 4)) (blkOk_by (own := [("_law_record_here", 12)]) (N := N_law) (sc := defScope s_law) (by decide +kernel)) (fun _ _ _ _ _ => (pg_name (i := 12) sc_law.nd rfl (Or.inl rfl))) (fun _ _ _ _ _ => pts_nil) (fun _ _ _ _ _ => pe_int)) pa_nil)) rfl)
    (pss_cons (ps_par (i := 7) (j := 8) rfl sc_law.nd rfl rfl (by decide) rfl rfl (pa_cons (C8.pe_c c_l_handed hr (by decide) (by rfl) (pa_cons (pv 1) (pa_cons (pv 4) pa_nil))) (pa_cons (C8.pe_c c_l_handed hr (by decide) (by rfl) (pa_cons (pv 1) (pa_cons (pv 5) pa_nil))) pa_nil)) rfl)
    (pss_cons (ps_for PassesOwn.never rfl (pi_range1 rfl B.range_ (pa_cons pe_int pa_nil)) (pg_name (i := 9) sc_law.nd rfl (Or.inl rfl))
      (pss_cons (ps_set (i := 10) sc_law.nd rfl (Or.inl rfl) (pe_kwo cO_least_repair hr (by decide) (by rfl) (pa_cons (pv 7) pa_nil) (pk_cons (pv 8) pk_nil)))
    (pss_cons (ps_if (pt_not (pt_val (C8.pe_c c_l_is_right hr (by decide) (by rfl) (pa_cons (pv 4) (pa_cons (pv 5) (pa_cons (pv 10) pa_nil))))))
      (pss_one (ps_ret pe_bl))
      pss_nil)
    (pss_one (ps_expr (pe_bm PySem.F.plainAttrs_list PySem.F.slot_list_append PySem.F.type_list_append mt_append (pe_ix (r := rIxT K) ix_tup (pv 10) pe_int (fun _ _ => rfl)) (pa_cons pe_int pa_nil)))))))
    (pss_cons (ps_if (pt_not (pt_val (C8.pe_c c_l_is_right hr (by decide) (by rfl) (pa_cons (pv 4) (pa_cons (pv 6) (pa_cons (C8.pe_c c_least_repair hr (by decide) (by rfl) (pa_cons (pv 7) pa_nil)) pa_nil))))))
      (pss_one (ps_ret pe_bl))
      pss_nil)
    (pss_one (ps_if (PW.pt (pw_or (pt_cmpR (op_neS hr.units) (pe_callTy (call_list_of) (by rfl) B.list_ bt_list (pa_cons (pv 7) pa_nil)) (pv 4) (nomark _)) (pw_or1 (pt_cmpR (op_neS hr.units) (pe_callTy (call_list_of) (by rfl) B.list_ bt_list (pa_cons (pv 8) pa_nil)) (pv 5) (nomark _)))))
      (pss_one (ps_ret pe_bl))
      pss_nil)))))))))
    (pss_one (ps_ret pe_bl)))), ?_⟩
    refine ⟨_, rfl, sc, ns, rfl, hS, fun a H0 hP0 s0 => ?_⟩
    refine ⟨_, rfl, sc, _, rfl, .inl (s0.seq hS), _, _, rfl, _, _, rfl, rfl, _, rfl, ?_⟩
    obtain ⟨m0, m1⟩ := mn3 ((ns.map V.int).length : Int) (by omega)
    refine ⟨by omega, by omega, ?_⟩
    generalize hnn : (2 + (if ((ns.map V.int).length : Int) < 3 then ((ns.map V.int).length : Int) else 3)) = nn
    refine for_range (lo := 0) (n := nn.toNat) (fun i σ H1 => ∃ (y2 y3 y4 y5 y6 y7 y8 y9 y10 : Option V), σ = [some (.ref sc), some (.ref a), y2, y3, y4, y5, y6, y7, y8, y9, y10, none, none] ∧ Pen H1 a (20000 * i)) ⟨_, _, _, _, _, _, _, _, _, rfl, hP0⟩ ?_ ?_
    · rintro i σ H1 hi ⟨y2, y3, y4, y5, y6, y7, y8, y9, y10, rfl, hP1⟩
      have hi6 : i < 5 := by omega
      refine ⟨_, rfl, a, _, 20, 3, rfl, hP1, by omega, by decide, by decide, by decide, fun r H2 p0 q0 c0 R er hP2 f2 => ?_⟩
      have R : RuleB 64 p0 q0 c0 := R
      have R : RuleB 204 p0 q0 c0 := RuleB.mono R (by decide)
      refine ⟨_, rfl, a, _, _, rfl, hP2, by omega, by decide, Bd.small 20 (by decide) (by decide), fun mm H3 mm0 mm1 hP3 f3 => ?_⟩
      have er3 := f3.t _ _ er
      refine ⟨_, rfl, by omega, by omega, fun F nF => ?_⟩
      refine lc_range (lo := 0) (n := mm.toNat) (fun j H' => ∃ (xs : List V) (ds : List Rec), H' F = some (.lst xs) ∧ Obs rcO H' xs ds ∧ ds.length = j ∧ RcB 410 ds ∧ Pen H' a (20000 * i + 200 + 20 * j) ∧ Fr H3 H') ⟨[], [], upd_same, .nil, rfl, fun _ z => (nomatch z), (hP3.new nF).mono (by omega), Fr.new nF⟩ ?_ ?_
      · rintro j H7 hj ⟨xs, ds, eL, oD, ld, bD, hP7, f7⟩
        refine ⟨rfl, _, rfl, _, rfl, _, _, rfl, rfl, ⟨by decide, by decide, by decide⟩, len10 (by simp), fun O nO => ?_⟩
        have zO := sm_upd (o := .lst [.int 0, .int 0, .int 1, .int 2, .int (10 ^ 9)]) nO
        refine ⟨a, _, r, O, p0, q0, c0, [0, 0, 1, 2, 10 ^ 9], 40, 6, 204, rfl, hP7.new nO, by omega, zO _ _ (f7.t _ _ er3), R, upd_same, by simp, by simp, fun z hz => ?_, by decide, by decide, by decide, by decide, by decide, by decide, fun e H8 d o ed bt bn ho hn hP8 f8 => ?_⟩
        · simp only [List.mem_cons, List.not_mem_nil, or_false] at hz
          rcases hz with rfl | rfl | rfl | rfl | rfl <;> exact Bd.small 40 (by decide) (by decide)
        have f78 := (Fr.same zO).trans f8
        have eL8 := f78.l _ _ eL
        refine ⟨xs, eL8, ?_, xs ++ [.ref e], ds ++ [d], upd_same, ?_, ?_, ?_, ?_, ?_⟩
        · have := oD.len
          exact ltS (by omega)
        · refine Obs.keep ((oD.fr f78).snoc ed) fun b d' eb => ?_
          rw [upd_ne (ne_of eb eL8 (by intro q; cases q))]
          exact eb
        · rw [List.length_append, ld]
          rfl
        · exact bd_snoc' bD ⟨bt.mono (by decide), bn.mono (by decide)⟩
        · exact (hP3.over nF hP8).mono (by omega)
        · exact (f7.trans f78).over nF
      rintro H4 ⟨xs, ds, eF, oF, ld, bF, hP4, f4⟩
      have lF : ds.length ≤ 8 := by omega
      have lx := oF.len
      clear er3 er f2 f3 f4 hP1 hP2 hP3
      -- the costs, and the same for each
      refine ⟨_, rfl, _, rfl, F, _, rfl, .inl (SqL.of eF), a, _, ds.length, by rw [lx]; rfl, hP4, by omega, by omega, fun C H5 ws nC eC lw hw hP5 f5 => ?_⟩
      have w0 : ∀ x ∈ ws, 0 ≤ x := fun x hx => (hw x hx).1
      have eF5 := f5.l _ _ eF
      have oF5 := oF.fr f5
      clear eF oF hP4 f5
      refine ⟨_, rfl, F, rfl, ⟨_, SqL.of eF5⟩, fun O nO => ?_⟩
      refine lc_list (K := K) (a := F) (xs := xs) (fun i H' => Same H5 H' ∧ H' O = some (.lst ((List.replicate i (1 : Int)).map V.int))) ⟨sm_upd nO, upd_same⟩ ?_ ?_ ?_
      · rintro i H' _ ⟨s', _⟩
        exact SqL.of (s' _ _ eF5)
      · rintro i v H' hx ⟨s', e'⟩
        have hi := (List.getElem?_eq_some_iff.mp hx).1
        refine ⟨rfl, _, e', ?_, ?_, ?_⟩
        · rw [List.length_map, List.length_replicate]
          exact small1000 (by omega)
        · intro b o eb
          rw [upd_ne (ne_of_none eb nO)]
          exact s' _ _ eb
        · rw [upd_same, ← List.replicate_append_replicate (n := i) (m := 1), List.map_append]
          rfl
      rintro H6 ⟨s6, eO⟩
      rw [lx] at eO
      have eF6 := s6 _ _ eF5
      have oF6 := oF5.same s6
      have eC6 := s6 _ _ eC
      have hP6 := hP5.same s6
      clear eF5 oF5 eC hP5 s6 nO nC
      refine ⟨_, _, rfl, ?_⟩
      -- handed over
      refine ⟨_, rfl, _, rfl, a, _, F, xs, rfl, hP6, by omega, eF6, fun G kb H8 eG hP8 f8 => ?_⟩
      refine ⟨_, rfl, _, rfl, a, _, C, _, rfl, hP8, by omega, f8.l _ _ eC6, fun W kc H9 eW hP9 f9 => ⟨_, _, rfl, ?_⟩⟩
      have eG9 : H9 G = some (sqO kb xs) := sq_kp f9.kp eG
      have f69 := f8.trans f9
      have eF9 := f69.l _ _ eF6
      have oF9 := oF6.fr f69
      have eC9 := f69.l _ _ eC6
      have eO9 := f69.l _ _ eO
      clear eF6 oF6 eC6 eO hP6 hP8 f8 f9 f69 eG
      -- twice
      refine ⟨2, rfl, by decide, by decide, ?_⟩
      refine for_range (lo := 0) (n := 2) (fun j σ H' => ∃ (y9 y10 : Option V), σ = [some (.ref sc), some (.ref a), some (.int ((0 : Int) + i)), some (.ref r), some (.ref F), some (.ref C), some (.ref O), some (.ref G), some (.ref W), y9, y10, none, none] ∧ Same H9 H') ⟨_, _, rfl, Same.refl _⟩ ?_ ?_
      · rintro j σ H10 hj ⟨y9, y10, rfl, s10⟩
        have eG10 : H10 G = some (sqO kb xs) := s10 _ _ eG9
        have eW10 : H10 W = some (sqO kc (ws.map V.int)) := s10 _ _ eW
        refine ⟨_, rfl, _, rfl, rfl, rfl, G, .ref W, kb, xs, ds, ws, 410, rfl, eG10, oF9.same s10, by omega, .inr ⟨W, kc, rfl, eW10, lw⟩, w0, bF, by decide, by decide, fun T H11 Dd rr p q c s11 nT nD nr lf least => ?_⟩
        have s911 := s10.trans s11
        refine ⟨_, rfl, _, rfl, _, rfl, F, C, T, Dd, rr, xs, ds, ws, p, q, c, rfl, s911 _ _ eF9, oF9.same s911, lF, bF, s911 _ _ eC9, lw, hw, lf, least, fun H12 s12 => ⟨true, rfl, iteF ?_⟩⟩
        have lf12 := lf.same s12
        have s912 := s911.trans s12
        -- a change to what was told
        have lo := outs_le' (p := p) (q := q) (c := c) (ds := ds)
        refine ⟨_, rfl, T, _, _, _, rfl, rfl, SqT.of lf12.eT, atI_nat (j := 1) rfl, .inl ⟨rfl, _, SqL.of lf12.eD⟩, Dd, _, _, rfl, rfl, lf12.eD, small1000 (by rw [List.length_map, ni_len]; omega), ?_⟩
        refine ⟨_, _, rfl, fun b o eb => ?_⟩
        rw [upd_ne (ne_of_none (s10 _ _ eb) nD)]
        exact s912 _ _ eb
      · rintro σ H10 ⟨y9, y10, rfl, s10⟩
        have eF10 := s10 _ _ eF9
        have oF10 := oF9.same s10
        have eG10 : H10 G = some (sqO kb xs) := s10 _ _ eG9
        have eW10 : H10 W = some (sqO kc (ws.map V.int)) := s10 _ _ eW
        have eC10 := s10 _ _ eC9
        have eO10 := s10 _ _ eO9
        have hP10 := hP9.same s10
        clear eF9 oF9 eG9 eC9 eO9 eW hP9 s10
        have one0 : ∀ x ∈ List.replicate ds.length (1 : Int), 0 ≤ x ∧ Bd 100 x := fun x hx => by
          rw [List.eq_of_mem_replicate hx]
          exact ⟨by decide, Bd.small 1 (by decide) (by decide)⟩
        refine ⟨_, rfl, _, rfl, _, rfl, G, .non, kb, xs, ds, List.replicate ds.length 1, 410, rfl, eG10, oF10, by omega, .inl ⟨rfl, rfl⟩, fun x hx => (one0 x hx).1, bF, by decide, by decide, fun T H11 Dd rr p q c s11 nT nD nr lf least => ?_⟩
        refine ⟨F, O, T, Dd, rr, xs, ds, _, p, q, c, rfl, s11 _ _ eF10, oF10.same s11, lF, bF, s11 _ _ eO10, List.length_replicate, one0, lf, least, fun H12 s12 => ⟨true, rfl, iteF ?_⟩⟩
        have s1012 := s11.trans s12
        -- unchanged
        have eG12 : H12 G = some (sqO kb xs) := s1012 _ _ eG10
        refine ⟨_, rfl, G, xs, rfl, (SqB.of eG12).or, fun l1 n1 => ?_⟩
        have z1 := sm_upd (o := .lst xs) n1
        refine ⟨_, rfl, l1, F, xs, xs, rfl, rfl, SqL.of upd_same, SqL.of (z1 _ _ (s1012 _ _ eF10)), .inr ⟨rfl, obs_smI oF10, _, rfl, iteF ?_⟩⟩
        have eW12 : upd H12 l1 (.lst xs) W = some (sqO kc (ws.map V.int)) := z1 _ _ (s1012 _ _ eW10)
        refine ⟨_, rfl, W, _, rfl, (SqB.of eW12).or, fun l2 n2 => ?_⟩
        have z2 := sm_upd (o := .lst (ws.map V.int)) n2
        refine ⟨_, rfl, l2, C, _, _, rfl, rfl, SqL.of upd_same, SqL.of (z2 _ _ (z1 _ _ (s1012 _ _ eC10))), .inr ⟨rfl, ints_smI ws, _, rfl, iteF ?_⟩⟩
        exact ⟨_, _, _, _, _, _, _, _, _, rfl, (((hP10.same s1012).same z1).same z2).mono (by omega)⟩
    · rintro σ H1 _
      exact kk _
end
/-! ### what the top has written -/
theorem all_mk {l : PySem.W.OpenLaw} {w : World} {K : PySem.W.Frag} {h : Heap} {mg : Str → Option Value} {fa : Addr} (X : K.In h) (G : h.Ns mainGlobals mg) (hfa : mg "law" = some (.ref fa))
    {f0 f1 f2 f3 f4 f5 f6 f7 f8 f9 f10 f11 f12 f13 f14 f15 f16 f17 f18 f19 f20 f21 f22 f23 f24 f25 f26 f27 f28 f29 f30 f31 f32 f33 f34 f35 f36 : Addr} {od0 an0 od1 an1 od2 an2 od3 an3 od4 an4 od5 an5 od6 an6 od7 an7 od8 an8 od9 an9 od10 an10 od11 an11 od12 an12 od13 an13 od14 an14 od15 an15 od16 an16 od17 an17 od18 an18 od19 an19 od20 an20 od21 an21 od22 an22 od23 an23 od24 an24 od25 an25 od26 an26 od27 an27 od28 an28 od29 an29 od30 an30 od31 an31 od32 an32 od33 an33 od34 an34 od35 an35 od36 an36 : Option Addr} {sl0 sl1 sl2 sl3 sl4 sl5 sl6 sl7 sl8 sl9 sl10 sl11 sl12 sl13 sl14 sl15 sl16 sl17 sl18 sl19 sl20 sl21 sl22 sl23 sl24 sl25 sl26 sl27 sl28 sl29 sl30 sl31 sl32 sl33 sl34 sl35 sl36 : Array (Option Value)} {oc0 kV0 dc0 pm0 cd0 ct0 oc1 kV1 dc1 pm1 cd1 ct1 oc2 kV2 dc2 pm2 cd2 ct2 oc3 kV3 dc3 pm3 cd3 ct3 oc4 kV4 dc4 pm4 cd4 ct4 oc5 kV5 dc5 pm5 cd5 ct5 oc6 kV6 dc6 pm6 cd6 ct6 oc7 kV7 dc7 pm7 cd7 ct7 oc8 kV8 dc8 pm8 cd8 ct8 oc9 kV9 dc9 pm9 cd9 ct9 oc10 kV10 dc10 pm10 cd10 ct10 oc11 kV11 dc11 pm11 cd11 ct11 oc12 kV12 dc12 pm12 cd12 ct12 oc13 kV13 dc13 pm13 cd13 ct13 oc14 kV14 dc14 pm14 cd14 ct14 oc15 kV15 dc15 pm15 cd15 ct15 oc16 kV16 dc16 pm16 cd16 ct16 oc17 kV17 dc17 pm17 cd17 ct17 oc18 kV18 dc18 pm18 cd18 ct18 oc19 kV19 dc19 pm19 cd19 ct19 oc20 kV20 dc20 pm20 cd20 ct20 oc21 kV21 dc21 pm21 cd21 ct21 oc22 kV22 dc22 pm22 cd22 ct22 oc23 kV23 dc23 pm23 cd23 ct23 oc24 kV24 dc24 pm24 cd24 ct24 oc25 kV25 dc25 pm25 cd25 ct25 oc26 kV26 dc26 pm26 cd26 ct26 oc27 kV27 dc27 pm27 cd27 ct27 oc28 kV28 dc28 pm28 cd28 ct28 oc29 kV29 dc29 pm29 cd29 ct29 oc30 kV30 dc30 pm30 cd30 ct30 oc31 kV31 dc31 pm31 cd31 ct31 oc32 kV32 dc32 pm32 cd32 ct32 oc33 kV33 dc33 pm33 cd33 ct33 oc34 kV34 dc34 pm34 cd34 ct34 oc35 kV35 dc35 pm35 cd35 ct35 oc36 kV36 dc36 pm36 cd36 ct36 : Value}
    (a0 : PySem.W.nsIn K mainGlobals "_law_pen" = some (some (.ref f0))) (l0 : K.lookup f0 = some ⟨oc0, od0, .func (PySem.W.fnOf "_law_pen" "_law_pen" (defArgs s_l_pen) (defBody s_l_pen) (defScope s_l_pen) .none kV0 dc0 pm0 an0 cd0 ct0), sl0⟩) (c0 : PySem.W.codeIn K cd0 "_law_pen" = true) (k0 : PySem.W.keepIn K (.ref f0) = true)
    (a1 : PySem.W.nsIn K mainGlobals "_law_draw" = some (some (.ref f1))) (l1 : K.lookup f1 = some ⟨oc1, od1, .func (PySem.W.fnOf "_law_draw" "_law_draw" (defArgs s_l_draw) (defBody s_l_draw) (defScope s_l_draw) .none kV1 dc1 pm1 an1 cd1 ct1), sl1⟩) (c1 : PySem.W.codeIn K cd1 "_law_draw" = true) (k1 : PySem.W.keepIn K (.ref f1) = true)
    (a2 : PySem.W.nsIn K mainGlobals "_law_pick" = some (some (.ref f2))) (l2 : K.lookup f2 = some ⟨oc2, od2, .func (PySem.W.fnOf "_law_pick" "_law_pick" (defArgs s_l_pick) (defBody s_l_pick) (defScope s_l_pick) .none kV2 dc2 pm2 an2 cd2 ct2), sl2⟩) (c2 : PySem.W.codeIn K cd2 "_law_pick" = true) (k2 : PySem.W.keepIn K (.ref f2) = true)
    (a3 : PySem.W.nsIn K mainGlobals "_law_gcd" = some (some (.ref f3))) (l3 : K.lookup f3 = some ⟨oc3, od3, .func (PySem.W.fnOf "_law_gcd" "_law_gcd" (defArgs s_l_gcd) (defBody s_l_gcd) (defScope s_l_gcd) .none kV3 dc3 pm3 an3 cd3 ct3), sl3⟩) (c3 : PySem.W.codeIn K cd3 "_law_gcd" = true) (k3 : PySem.W.keepIn K (.ref f3) = true)
    (a4 : PySem.W.nsIn K mainGlobals "is_integer" = some (some (.ref f4))) (l4 : K.lookup f4 = some ⟨oc4, od4, .func (PySem.W.fnOf "is_integer" "is_integer" (defArgs s_is_integer) (defBody s_is_integer) (defScope s_is_integer) .none kV4 dc4 pm4 an4 cd4 ct4), sl4⟩) (c4 : PySem.W.codeIn K cd4 "is_integer" = true) (k4 : PySem.W.keepIn K (.ref f4) = true)
    (a5 : PySem.W.nsIn K mainGlobals "gcd" = some (some (.ref f5))) (l5 : K.lookup f5 = some ⟨oc5, od5, .func (PySem.W.fnOf "gcd" "gcd" (defArgs s_gcd) (defBody s_gcd) (defScope s_gcd) .none kV5 dc5 pm5 an5 cd5 ct5), sl5⟩) (c5 : PySem.W.codeIn K cd5 "gcd" = true) (k5 : PySem.W.keepIn K (.ref f5) = true)
    (a6 : PySem.W.nsIn K mainGlobals "is_rate" = some (some (.ref f6))) (l6 : K.lookup f6 = some ⟨oc6, od6, .func (PySem.W.fnOf "is_rate" "is_rate" (defArgs s_is_rate) (defBody s_is_rate) (defScope s_is_rate) .none kV6 dc6 pm6 an6 cd6 ct6), sl6⟩) (c6 : PySem.W.codeIn K cd6 "is_rate" = true) (k6 : PySem.W.keepIn K (.ref f6) = true)
    (a7 : PySem.W.nsIn K mainGlobals "check_rate" = some (some (.ref f7))) (l7 : K.lookup f7 = some ⟨oc7, od7, .func (PySem.W.fnOf "check_rate" "check_rate" (defArgs s_check_rate) (defBody s_check_rate) (defScope s_check_rate) .none kV7 dc7 pm7 an7 cd7 ct7), sl7⟩) (c7 : PySem.W.codeIn K cd7 "check_rate" = true) (k7 : PySem.W.keepIn K (.ref f7) = true)
    (a8 : PySem.W.nsIn K mainGlobals "simplest_inside" = some (some (.ref f8))) (l8 : K.lookup f8 = some ⟨oc8, od8, .func (PySem.W.fnOf "simplest_inside" "simplest_inside" (defArgs s_simplest_inside) (defBody s_simplest_inside) (defScope s_simplest_inside) .none kV8 dc8 pm8 an8 cd8 ct8), sl8⟩) (c8 : PySem.W.codeIn K cd8 "simplest_inside" = true) (k8 : PySem.W.keepIn K (.ref f8) = true)
    (a9 : PySem.W.nsIn K mainGlobals "is_record" = some (some (.ref f9))) (l9 : K.lookup f9 = some ⟨oc9, od9, .func (PySem.W.fnOf "is_record" "is_record" (defArgs s_is_record) (defBody s_is_record) (defScope s_is_record) .none kV9 dc9 pm9 an9 cd9 ct9), sl9⟩) (c9 : PySem.W.codeIn K cd9 "is_record" = true) (k9 : PySem.W.keepIn K (.ref f9) = true)
    (a10 : PySem.W.nsIn K mainGlobals "check_records" = some (some (.ref f10))) (l10 : K.lookup f10 = some ⟨oc10, od10, .func (PySem.W.fnOf "check_records" "check_records" (defArgs s_check_records) (defBody s_check_records) (defScope s_check_records) .none kV10 dc10 pm10 an10 cd10 ct10), sl10⟩) (c10 : PySem.W.codeIn K cd10 "check_records" = true) (k10 : PySem.W.keepIn K (.ref f10) = true)
    (a11 : PySem.W.nsIn K mainGlobals "split_records" = some (some (.ref f11))) (l11 : K.lookup f11 = some ⟨oc11, od11, .func (PySem.W.fnOf "split_records" "split_records" (defArgs s_split_records) (defBody s_split_records) (defScope s_split_records) .none kV11 dc11 pm11 an11 cd11 ct11), sl11⟩) (c11 : PySem.W.codeIn K cd11 "split_records" = true) (k11 : PySem.W.keepIn K (.ref f11) = true)
    (a12 : PySem.W.nsIn K mainGlobals "_law_far" = some (some (.ref f12))) (l12 : K.lookup f12 = some ⟨oc12, od12, .func (PySem.W.fnOf "_law_far" "_law_far" (defArgs s_l_far) (defBody s_l_far) (defScope s_l_far) .none kV12 dc12 pm12 an12 cd12 ct12), sl12⟩) (c12 : PySem.W.codeIn K cd12 "_law_far" = true) (k12 : PySem.W.keepIn K (.ref f12) = true)
    (a13 : PySem.W.nsIn K mainGlobals "_law_rule" = some (some (.ref f13))) (l13 : K.lookup f13 = some ⟨oc13, od13, .func (PySem.W.fnOf "_law_rule" "_law_rule" (defArgs s_l_rule) (defBody s_l_rule) (defScope s_l_rule) .none kV13 dc13 pm13 an13 cd13 ct13), sl13⟩) (c13 : PySem.W.codeIn K cd13 "_law_rule" = true) (k13 : PySem.W.keepIn K (.ref f13) = true)
    (a14 : PySem.W.nsIn K mainGlobals "_law_count" = some (some (.ref f14))) (l14 : K.lookup f14 = some ⟨oc14, od14, .func (PySem.W.fnOf "_law_count" "_law_count" (defArgs s_l_count) (defBody s_l_count) (defScope s_l_count) .none kV14 dc14 pm14 an14 cd14 ct14), sl14⟩) (c14 : PySem.W.codeIn K cd14 "_law_count" = true) (k14 : PySem.W.keepIn K (.ref f14) = true)
    (a15 : PySem.W.nsIn K mainGlobals "_law_time" = some (some (.ref f15))) (l15 : K.lookup f15 = some ⟨oc15, od15, .func (PySem.W.fnOf "_law_time" "_law_time" (defArgs s_l_time) (defBody s_l_time) (defScope s_l_time) .none kV15 dc15 pm15 an15 cd15 ct15), sl15⟩) (c15 : PySem.W.codeIn K cd15 "_law_time" = true) (k15 : PySem.W.keepIn K (.ref f15) = true)
    (a16 : PySem.W.nsIn K mainGlobals "_law_record" = some (some (.ref f16))) (l16 : K.lookup f16 = some ⟨oc16, od16, .func (PySem.W.fnOf "_law_record" "_law_record" (defArgs s_l_record) (defBody s_l_record) (defScope s_l_record) .none kV16 dc16 pm16 an16 cd16 ct16), sl16⟩) (c16 : PySem.W.codeIn K cd16 "_law_record" = true) (k16 : PySem.W.keepIn K (.ref f16) = true)
    (a17 : PySem.W.nsIn K mainGlobals "simplest_between" = some (some (.ref f17))) (l17 : K.lookup f17 = some ⟨oc17, od17, .func (PySem.W.fnOf "simplest_between" "simplest_between" (defArgs s_simplest_between) (defBody s_simplest_between) (defScope s_simplest_between) .none kV17 dc17 pm17 an17 cd17 ct17), sl17⟩) (c17 : PySem.W.codeIn K cd17 "simplest_between" = true) (k17 : PySem.W.keepIn K (.ref f17) = true)
    (a18 : PySem.W.nsIn K mainGlobals "reduce_rate" = some (some (.ref f18))) (l18 : K.lookup f18 = some ⟨oc18, od18, .func (PySem.W.fnOf "reduce_rate" "reduce_rate" (defArgs s_reduce_rate) (defBody s_reduce_rate) (defScope s_reduce_rate) .none kV18 dc18 pm18 an18 cd18 ct18), sl18⟩) (c18 : PySem.W.codeIn K cd18 "reduce_rate" = true) (k18 : PySem.W.keepIn K (.ref f18) = true)
    (a19 : PySem.W.nsIn K mainGlobals "_law_handed" = some (some (.ref f19))) (l19 : K.lookup f19 = some ⟨oc19, od19, .func (PySem.W.fnOf "_law_handed" "_law_handed" (defArgs s_l_handed) (defBody s_l_handed) (defScope s_l_handed) .none kV19 dc19 pm19 an19 cd19 ct19), sl19⟩) (c19 : PySem.W.codeIn K cd19 "_law_handed" = true) (k19 : PySem.W.keepIn K (.ref f19) = true)
    (a20 : PySem.W.nsIn K mainGlobals "fits_record" = some (some (.ref f20))) (l20 : K.lookup f20 = some ⟨oc20, od20, .func (PySem.W.fnOf "fits_record" "fits_record" (defArgs s_fits_record) (defBody s_fits_record) (defScope s_fits_record) .none kV20 dc20 pm20 an20 cd20 ct20), sl20⟩) (c20 : PySem.W.codeIn K cd20 "fits_record" = true) (k20 : PySem.W.keepIn K (.ref f20) = true)
    (a21 : PySem.W.nsIn K mainGlobals "price_list" = some (some (.ref f21))) (l21 : K.lookup f21 = some ⟨oc21, od21, .func (PySem.W.fnOf "price_list" "price_list" (defArgs s_price_list) (defBody s_price_list) (defScope s_price_list) .none kV21 dc21 pm21 an21 cd21 ct21), sl21⟩) (c21 : PySem.W.codeIn K cd21 "price_list" = true) (k21 : PySem.W.keepIn K (.ref f21) = true)
    (a22 : PySem.W.nsIn K mainGlobals "dropped_by" = some (some (.ref f22))) (l22 : K.lookup f22 = some ⟨oc22, od22, .func (PySem.W.fnOf "dropped_by" "dropped_by" (defArgs s_dropped_by) (defBody s_dropped_by) (defScope s_dropped_by) .none kV22 dc22 pm22 an22 cd22 ct22), sl22⟩) (c22 : PySem.W.codeIn K cd22 "dropped_by" = true) (k22 : PySem.W.keepIn K (.ref f22) = true)
    (a23 : PySem.W.nsIn K mainGlobals "phase_bounds" = some (some (.ref f23))) (l23 : K.lookup f23 = some ⟨oc23, od23, .func (PySem.W.fnOf "phase_bounds" "phase_bounds" (defArgs s_phase_bounds) (defBody s_phase_bounds) (defScope s_phase_bounds) .none kV23 dc23 pm23 an23 cd23 ct23), sl23⟩) (c23 : PySem.W.codeIn K cd23 "phase_bounds" = true) (k23 : PySem.W.keepIn K (.ref f23) = true)
    (a24 : PySem.W.nsIn K mainGlobals "cheapest_rule" = some (some (.ref f24))) (l24 : K.lookup f24 = some ⟨oc24, od24, .func (PySem.W.fnOf "cheapest_rule" "cheapest_rule" (defArgs s_cheapest_rule) (defBody s_cheapest_rule) (defScope s_cheapest_rule) .none kV24 dc24 pm24 an24 cd24 ct24), sl24⟩) (c24 : PySem.W.codeIn K cd24 "cheapest_rule" = true) (k24 : PySem.W.keepIn K (.ref f24) = true)
    (a25 : PySem.W.nsIn K mainGlobals "changing_rates" = some (some (.ref f25))) (l25 : K.lookup f25 = some ⟨oc25, od25, .func (PySem.W.fnOf "changing_rates" "changing_rates" (defArgs s_changing_rates) (defBody s_changing_rates) (defScope s_changing_rates) .none kV25 dc25 pm25 an25 cd25 ct25), sl25⟩) (c25 : PySem.W.codeIn K cd25 "changing_rates" = true) (k25 : PySem.W.keepIn K (.ref f25) = true)
    (a26 : PySem.W.nsIn K mainGlobals "rates_to_try" = some (some (.ref f26))) (l26 : K.lookup f26 = some ⟨oc26, od26, .func (PySem.W.fnOf "rates_to_try" "rates_to_try" (defArgs s_rates_to_try) (defBody s_rates_to_try) (defScope s_rates_to_try) .none kV26 dc26 pm26 an26 cd26 ct26), sl26⟩) (c26 : PySem.W.codeIn K cd26 "rates_to_try" = true) (k26 : PySem.W.keepIn K (.ref f26) = true)
    (a27 : PySem.W.nsIn K mainGlobals "_law_costs" = some (some (.ref f27))) (l27 : K.lookup f27 = some ⟨oc27, od27, .func (PySem.W.fnOf "_law_costs" "_law_costs" (defArgs s_l_costs) (defBody s_l_costs) (defScope s_l_costs) .none kV27 dc27 pm27 an27 cd27 ct27), sl27⟩) (c27 : PySem.W.codeIn K cd27 "_law_costs" = true) (k27 : PySem.W.keepIn K (.ref f27) = true)
    (a28 : PySem.W.nsIn K mainGlobals "least_repair" = some (some (.ref f28))) (l28 : K.lookup f28 = some ⟨oc28, od28, .func (PySem.W.fnOf "least_repair" "least_repair" (defArgs s_least_repair) (defBody s_least_repair) (defScope s_least_repair) .none kV28 dc28 pm28 an28 cd28 ct28), sl28⟩) (c28 : PySem.W.codeIn K cd28 "least_repair" = true) (k28 : PySem.W.keepIn K (.ref f28) = true) {DR28 : Addr} (q28 : kV28 = .ref DR28) (r28 : PySem.W.nsIn K DR28 "prices" = some (some .none))
    (a29 : PySem.W.nsIn K mainGlobals "_law_less" = some (some (.ref f29))) (l29 : K.lookup f29 = some ⟨oc29, od29, .func (PySem.W.fnOf "_law_less" "_law_less" (defArgs s_l_less) (defBody s_l_less) (defScope s_l_less) .none kV29 dc29 pm29 an29 cd29 ct29), sl29⟩) (c29 : PySem.W.codeIn K cd29 "_law_less" = true) (k29 : PySem.W.keepIn K (.ref f29) = true)
    (a30 : PySem.W.nsIn K mainGlobals "_law_interval" = some (some (.ref f30))) (l30 : K.lookup f30 = some ⟨oc30, od30, .func (PySem.W.fnOf "_law_interval" "_law_interval" (defArgs s_l_interval) (defBody s_l_interval) (defScope s_l_interval) .none kV30 dc30 pm30 an30 cd30 ct30), sl30⟩) (c30 : PySem.W.codeIn K cd30 "_law_interval" = true) (k30 : PySem.W.keepIn K (.ref f30) = true)
    (a31 : PySem.W.nsIn K mainGlobals "_law_clear" = some (some (.ref f31))) (l31 : K.lookup f31 = some ⟨oc31, od31, .func (PySem.W.fnOf "_law_clear" "_law_clear" (defArgs s_l_clear) (defBody s_l_clear) (defScope s_l_clear) .none kV31 dc31 pm31 an31 cd31 ct31), sl31⟩) (c31 : PySem.W.codeIn K cd31 "_law_clear" = true) (k31 : PySem.W.keepIn K (.ref f31) = true)
    (a32 : PySem.W.nsIn K mainGlobals "_law_fits" = some (some (.ref f32))) (l32 : K.lookup f32 = some ⟨oc32, od32, .func (PySem.W.fnOf "_law_fits" "_law_fits" (defArgs s_l_fits) (defBody s_l_fits) (defScope s_l_fits) .none kV32 dc32 pm32 an32 cd32 ct32), sl32⟩) (c32 : PySem.W.codeIn K cd32 "_law_fits" = true) (k32 : PySem.W.keepIn K (.ref f32) = true)
    (a33 : PySem.W.nsIn K mainGlobals "_law_is_rule" = some (some (.ref f33))) (l33 : K.lookup f33 = some ⟨oc33, od33, .func (PySem.W.fnOf "_law_is_rule" "_law_is_rule" (defArgs s_l_is_rule) (defBody s_l_is_rule) (defScope s_l_is_rule) .none kV33 dc33 pm33 an33 cd33 ct33), sl33⟩) (c33 : PySem.W.codeIn K cd33 "_law_is_rule" = true) (k33 : PySem.W.keepIn K (.ref f33) = true)
    (a34 : PySem.W.nsIn K mainGlobals "_law_least" = some (some (.ref f34))) (l34 : K.lookup f34 = some ⟨oc34, od34, .func (PySem.W.fnOf "_law_least" "_law_least" (defArgs s_l_least) (defBody s_l_least) (defScope s_l_least) .none kV34 dc34 pm34 an34 cd34 ct34), sl34⟩) (c34 : PySem.W.codeIn K cd34 "_law_least" = true) (k34 : PySem.W.keepIn K (.ref f34) = true)
    (a35 : PySem.W.nsIn K mainGlobals "_law_is_right" = some (some (.ref f35))) (l35 : K.lookup f35 = some ⟨oc35, od35, .func (PySem.W.fnOf "_law_is_right" "_law_is_right" (defArgs s_l_is_right) (defBody s_l_is_right) (defScope s_l_is_right) .none kV35 dc35 pm35 an35 cd35 ct35), sl35⟩) (c35 : PySem.W.codeIn K cd35 "_law_is_right" = true) (k35 : PySem.W.keepIn K (.ref f35) = true)
    (a36 : PySem.W.nsIn K mainGlobals "law" = some (some (.ref f36))) (l36 : K.lookup f36 = some ⟨oc36, od36, .func (PySem.W.fnOf "law" "law" (defArgs s_law) (defBody s_law) (defScope s_law) .none kV36 dc36 pm36 an36 cd36 ct36), sl36⟩) (c36 : PySem.W.codeIn K cd36 "law" = true) (k36 : PySem.W.keepIn K (.ref f36) = true)
    (z0 : PySem.W.nsIn K mainGlobals "len" = some none) (z1 : PySem.W.nsIn K mainGlobals "abs" = some none) (z2 : PySem.W.nsIn K mainGlobals "list" = some none) (z3 : PySem.W.nsIn K mainGlobals "range" = some none) (z4 : PySem.W.nsIn K mainGlobals "sum" = some none) (z5 : PySem.W.nsIn K mainGlobals "repr" = some none) (z6 : PySem.W.nsIn K mainGlobals "max" = some none) (z7 : PySem.W.nsIn K mainGlobals "min" = some none) (z8 : PySem.W.nsIn K mainGlobals "reversed" = some none) (z9 : PySem.W.nsIn K mainGlobals "divmod" = some none) (z10 : PySem.W.nsIn K mainGlobals "isinstance" = some none) (z11 : PySem.W.nsIn K mainGlobals "all" = some none) (z12 : PySem.W.nsIn K mainGlobals "int" = some none) (z13 : PySem.W.nsIn K mainGlobals "bool" = some none) (z14 : PySem.W.nsIn K mainGlobals "tuple" = some none) (z15 : PySem.W.nsIn K mainGlobals "sorted" = some none) (z16 : PySem.W.nsIn K mainGlobals "zip" = some none) (z17 : PySem.W.nsIn K mainGlobals "enumerate" = some none) (z18 : PySem.W.nsIn K mainGlobals "set" = some none) (z19 : PySem.W.nsIn K mainGlobals "str" = some none)
    {tM tP : Tok} (xM : PySem.W.nsIn K mainGlobals "MOST_RECORDS" = some (some (.int 200 tM))) (xP : PySem.W.nsIn K mainGlobals "MOST_TO_REPAIR" = some (some (.int 40 tP))) :
    ∃ fd : FuncData, (∀ (s : Shared) (v : Value), BindsTo s fd ⟨[v], []⟩ [("_law_script", v)]) ∧ ∀ base : Heap, K.In base → base.Ns mainGlobals mg → FnOk l.prog w K mg base CX0 7 fa fd ["_law_script"] (spLaw K) := by
  have e := hfa.symm.trans (PySem.W.mg_of X G a36)
  cases e
  have B : Bi mg := ⟨PySem.W.mg_none_of X G z0, PySem.W.mg_none_of X G z1, PySem.W.mg_none_of X G z2, PySem.W.mg_none_of X G z3, PySem.W.mg_none_of X G z4, PySem.W.mg_none_of X G z5, PySem.W.mg_none_of X G z6, PySem.W.mg_none_of X G z7, PySem.W.mg_none_of X G z8, PySem.W.mg_none_of X G z9, PySem.W.mg_none_of X G z10, PySem.W.mg_none_of X G z11, PySem.W.mg_none_of X G z12, PySem.W.mg_none_of X G z13, PySem.W.mg_none_of X G z14, PySem.W.mg_none_of X G z15, PySem.W.mg_none_of X G z16, PySem.W.mg_none_of X G z17, PySem.W.mg_none_of X G z18, PySem.W.mg_none_of X G z19⟩
  have U : Bc mg := ⟨⟨tM, PySem.W.mg_of X G xM⟩⟩
  have UT : Brp mg := ⟨⟨tP, PySem.W.mg_of X G xP⟩⟩
  have F0 := fun_mk (st := s_l_pen) l0 c0 k0
  have D_l_pen : Df K mg "_law_pen" s_l_pen P_l_pen := ⟨f0, _, F0, PySem.W.mg_of X G a0, F0.binds fun _ _ _ _ _ _ us hl => match us, hl with | [_], _ => rfl⟩
  have F1 := fun_mk (st := s_l_draw) l1 c1 k1
  have D_l_draw : Df K mg "_law_draw" s_l_draw P_l_draw := ⟨f1, _, F1, PySem.W.mg_of X G a1, F1.binds fun _ _ _ _ _ _ us hl => match us, hl with | [_, _], _ => rfl⟩
  have F2 := fun_mk (st := s_l_pick) l2 c2 k2
  have D_l_pick : Df K mg "_law_pick" s_l_pick P_l_pick := ⟨f2, _, F2, PySem.W.mg_of X G a2, F2.binds fun _ _ _ _ _ _ us hl => match us, hl with | [_, _], _ => rfl⟩
  have F3 := fun_mk (st := s_l_gcd) l3 c3 k3
  have D_l_gcd : Df K mg "_law_gcd" s_l_gcd P_l_gcd := ⟨f3, _, F3, PySem.W.mg_of X G a3, F3.binds fun _ _ _ _ _ _ us hl => match us, hl with | [_, _], _ => rfl⟩
  have F4 := fun_mk (st := s_is_integer) l4 c4 k4
  have D_is_integer : Df K mg "is_integer" s_is_integer P_is_integer := ⟨f4, _, F4, PySem.W.mg_of X G a4, F4.binds fun _ _ _ _ _ _ us hl => match us, hl with | [_], _ => rfl⟩
  have F5 := fun_mk (st := s_gcd) l5 c5 k5
  have D_gcd : Df K mg "gcd" s_gcd P_gcd := ⟨f5, _, F5, PySem.W.mg_of X G a5, F5.binds fun _ _ _ _ _ _ us hl => match us, hl with | [_, _], _ => rfl⟩
  have F6 := fun_mk (st := s_is_rate) l6 c6 k6
  have D_is_rate : Df K mg "is_rate" s_is_rate P_is_rate := ⟨f6, _, F6, PySem.W.mg_of X G a6, F6.binds fun _ _ _ _ _ _ us hl => match us, hl with | [_], _ => rfl⟩
  have F7 := fun_mk (st := s_check_rate) l7 c7 k7
  have D_check_rate : Df K mg "check_rate" s_check_rate P_check_rate := ⟨f7, _, F7, PySem.W.mg_of X G a7, F7.binds fun _ _ _ _ _ _ us hl => match us, hl with | [_], _ => rfl⟩
  have F8 := fun_mk (st := s_simplest_inside) l8 c8 k8
  have D_simplest_inside : Df K mg "simplest_inside" s_simplest_inside P_simplest_inside := ⟨f8, _, F8, PySem.W.mg_of X G a8, F8.binds fun _ _ _ _ _ _ us hl => match us, hl with | [_, _], _ => rfl⟩
  have F9 := fun_mk (st := s_is_record) l9 c9 k9
  have D_is_record : Df K mg "is_record" s_is_record P_is_record := ⟨f9, _, F9, PySem.W.mg_of X G a9, F9.binds fun _ _ _ _ _ _ us hl => match us, hl with | [_], _ => rfl⟩
  have F10 := fun_mk (st := s_check_records) l10 c10 k10
  have D_check_records : Df K mg "check_records" s_check_records P_check_records := ⟨f10, _, F10, PySem.W.mg_of X G a10, F10.binds fun _ _ _ _ _ _ us hl => match us, hl with | [_], _ => rfl⟩
  have F11 := fun_mk (st := s_split_records) l11 c11 k11
  have D_split_records : Df K mg "split_records" s_split_records P_split_records := ⟨f11, _, F11, PySem.W.mg_of X G a11, F11.binds fun _ _ _ _ _ _ us hl => match us, hl with | [_], _ => rfl⟩
  have F12 := fun_mk (st := s_l_far) l12 c12 k12
  have D_l_far : Df K mg "_law_far" s_l_far P_l_far := ⟨f12, _, F12, PySem.W.mg_of X G a12, F12.binds fun _ _ _ _ _ _ us hl => match us, hl with | [_, _], _ => rfl⟩
  have F13 := fun_mk (st := s_l_rule) l13 c13 k13
  have D_l_rule : Df K mg "_law_rule" s_l_rule P_l_rule := ⟨f13, _, F13, PySem.W.mg_of X G a13, F13.binds fun _ _ _ _ _ _ us hl => match us, hl with | [_, _], _ => rfl⟩
  have F14 := fun_mk (st := s_l_count) l14 c14 k14
  have D_l_count : Df K mg "_law_count" s_l_count P_l_count := ⟨f14, _, F14, PySem.W.mg_of X G a14, F14.binds fun _ _ _ _ _ _ us hl => match us, hl with | [_, _], _ => rfl⟩
  have F15 := fun_mk (st := s_l_time) l15 c15 k15
  have D_l_time : Df K mg "_law_time" s_l_time P_l_time := ⟨f15, _, F15, PySem.W.mg_of X G a15, F15.binds fun _ _ _ _ _ _ us hl => match us, hl with | [_, _], _ => rfl⟩
  have F16 := fun_mk (st := s_l_record) l16 c16 k16
  have D_l_record : Df K mg "_law_record" s_l_record P_l_record := ⟨f16, _, F16, PySem.W.mg_of X G a16, F16.binds fun _ _ _ _ _ _ us hl => match us, hl with | [_, _, _, _], _ => rfl⟩
  have F17 := fun_mk (st := s_simplest_between) l17 c17 k17
  have D_simplest_between : Df K mg "simplest_between" s_simplest_between P_simplest_between := ⟨f17, _, F17, PySem.W.mg_of X G a17, F17.binds fun _ _ _ _ _ _ us hl => match us, hl with | [_, _], _ => rfl⟩
  have F18 := fun_mk (st := s_reduce_rate) l18 c18 k18
  have D_reduce_rate : Df K mg "reduce_rate" s_reduce_rate P_reduce_rate := ⟨f18, _, F18, PySem.W.mg_of X G a18, F18.binds fun _ _ _ _ _ _ us hl => match us, hl with | [_, _], _ => rfl⟩
  have F19 := fun_mk (st := s_l_handed) l19 c19 k19
  have D_l_handed : Df K mg "_law_handed" s_l_handed P_l_handed := ⟨f19, _, F19, PySem.W.mg_of X G a19, F19.binds fun _ _ _ _ _ _ us hl => match us, hl with | [_, _], _ => rfl⟩
  have F20 := fun_mk (st := s_fits_record) l20 c20 k20
  have D_fits_record : Df K mg "fits_record" s_fits_record P_fits_record := ⟨f20, _, F20, PySem.W.mg_of X G a20, F20.binds fun _ _ _ _ _ _ us hl => match us, hl with | [_, _], _ => rfl⟩
  have F21 := fun_mk (st := s_price_list) l21 c21 k21
  have D_price_list : Df K mg "price_list" s_price_list P_price_list := ⟨f21, _, F21, PySem.W.mg_of X G a21, F21.binds fun _ _ _ _ _ _ us hl => match us, hl with | [_, _], _ => rfl⟩
  have F22 := fun_mk (st := s_dropped_by) l22 c22 k22
  have D_dropped_by : Df K mg "dropped_by" s_dropped_by P_dropped_by := ⟨f22, _, F22, PySem.W.mg_of X G a22, F22.binds fun _ _ _ _ _ _ us hl => match us, hl with | [_, _], _ => rfl⟩
  have F23 := fun_mk (st := s_phase_bounds) l23 c23 k23
  have D_phase_bounds : Df K mg "phase_bounds" s_phase_bounds P_phase_bounds := ⟨f23, _, F23, PySem.W.mg_of X G a23, F23.binds fun _ _ _ _ _ _ us hl => match us, hl with | [_, _], _ => rfl⟩
  have F24 := fun_mk (st := s_cheapest_rule) l24 c24 k24
  have D_cheapest_rule : Df K mg "cheapest_rule" s_cheapest_rule P_cheapest_rule := ⟨f24, _, F24, PySem.W.mg_of X G a24, F24.binds fun _ _ _ _ _ _ us hl => match us, hl with | [_, _, _], _ => rfl⟩
  have F25 := fun_mk (st := s_changing_rates) l25 c25 k25
  have D_changing_rates : Df K mg "changing_rates" s_changing_rates P_changing_rates := ⟨f25, _, F25, PySem.W.mg_of X G a25, F25.binds fun _ _ _ _ _ _ us hl => match us, hl with | [_], _ => rfl⟩
  have F26 := fun_mk (st := s_rates_to_try) l26 c26 k26
  have D_rates_to_try : Df K mg "rates_to_try" s_rates_to_try P_rates_to_try := ⟨f26, _, F26, PySem.W.mg_of X G a26, F26.binds fun _ _ _ _ _ _ us hl => match us, hl with | [_], _ => rfl⟩
  have F27 := fun_mk (st := s_l_costs) l27 c27 k27
  have D_l_costs : Df K mg "_law_costs" s_l_costs P_l_costs := ⟨f27, _, F27, PySem.W.mg_of X G a27, F27.binds fun _ _ _ _ _ _ us hl => match us, hl with | [_, _], _ => rfl⟩
  subst q28
  have F28 := fun_mk (st := s_least_repair) l28 c28 k28
  have D_least_repair : DfO K mg "least_repair" s_least_repair P_least_repair 1 "prices" := dfo_mk l28 F28 (PySem.W.mg_of X G a28) c28 k28 r28 rfl (fun D doc pm an cdv ct us ks h1 h2 => match us, h1, ks, h2 with | [_], _, [_], _ => ⟨_, _, _, _, _, _, rfl, rfl, rfl⟩) (fun us ws h1 h2 => match us, h1, ws, h2 with | [_], _, [_], _ => rfl)
  have F29 := fun_mk (st := s_l_less) l29 c29 k29
  have D_l_less : Df K mg "_law_less" s_l_less P_l_less := ⟨f29, _, F29, PySem.W.mg_of X G a29, F29.binds fun _ _ _ _ _ _ us hl => match us, hl with | [_, _], _ => rfl⟩
  have F30 := fun_mk (st := s_l_interval) l30 c30 k30
  have D_l_interval : Df K mg "_law_interval" s_l_interval P_l_interval := ⟨f30, _, F30, PySem.W.mg_of X G a30, F30.binds fun _ _ _ _ _ _ us hl => match us, hl with | [_], _ => rfl⟩
  have F31 := fun_mk (st := s_l_clear) l31 c31 k31
  have D_l_clear : Df K mg "_law_clear" s_l_clear P_l_clear := ⟨f31, _, F31, PySem.W.mg_of X G a31, F31.binds fun _ _ _ _ _ _ us hl => match us, hl with | [_], _ => rfl⟩
  have F32 := fun_mk (st := s_l_fits) l32 c32 k32
  have D_l_fits : Df K mg "_law_fits" s_l_fits P_l_fits := ⟨f32, _, F32, PySem.W.mg_of X G a32, F32.binds fun _ _ _ _ _ _ us hl => match us, hl with | [_, _], _ => rfl⟩
  have F33 := fun_mk (st := s_l_is_rule) l33 c33 k33
  have D_l_is_rule : Df K mg "_law_is_rule" s_l_is_rule P_l_is_rule := ⟨f33, _, F33, PySem.W.mg_of X G a33, F33.binds fun _ _ _ _ _ _ us hl => match us, hl with | [_], _ => rfl⟩
  have F34 := fun_mk (st := s_l_least) l34 c34 k34
  have D_l_least : Df K mg "_law_least" s_l_least P_l_least := ⟨f34, _, F34, PySem.W.mg_of X G a34, F34.binds fun _ _ _ _ _ _ us hl => match us, hl with | [_, _], _ => rfl⟩
  have F35 := fun_mk (st := s_l_is_right) l35 c35 k35
  have D_l_is_right : Df K mg "_law_is_right" s_l_is_right P_l_is_right := ⟨f35, _, F35, PySem.W.mg_of X G a35, F35.binds fun _ _ _ _ _ _ us hl => match us, hl with | [_, _, _], _ => rfl⟩
  have F36 := fun_mk (st := s_law) l36 c36 k36
  refine ⟨PySem.W.fnOf "law" "law" (defArgs s_law) (defBody s_law) (defScope s_law) .none kV36 dc36 pm36 an36 cd36 ct36, fun s v => .of_eq rfl, fun base _ _ => ?_⟩
  have c_l_pen := ok_l_pen (P := l.prog) (w := w) (base := base) D_l_pen B
  have c_l_draw := ok_l_draw (P := l.prog) (w := w) (base := base) D_l_draw B
  have c_l_pick := ok_l_pick (P := l.prog) (w := w) (base := base) D_l_pick B c_l_draw
  have c_l_gcd := ok_l_gcd (P := l.prog) (w := w) (base := base) D_l_gcd
  have cA_is_integer := okA_is_integer (P := l.prog) (w := w) (base := base) D_is_integer B
  have c_is_integer := ok_is_integer (P := l.prog) (w := w) (base := base) D_is_integer B
  have c_gcd := ok_gcd (P := l.prog) (w := w) (base := base) D_gcd
  have cA_is_rate := okA_is_rate (P := l.prog) (w := w) (base := base) D_is_rate B cA_is_integer c_gcd
  have c_is_rate := ok_is_rate (P := l.prog) (w := w) (base := base) D_is_rate B c_is_integer c_gcd
  have c_check_rate := ok_check_rate (P := l.prog) (w := w) (base := base) D_check_rate c_is_rate
  have c_simplest_inside := ok_simplest_inside (P := l.prog) (w := w) (base := base) D_simplest_inside B
  have cA_is_record := okA_is_record (P := l.prog) (w := w) (base := base) D_is_record B cA_is_integer
  have c_is_record := ok_is_record (P := l.prog) (w := w) (base := base) D_is_record B c_is_integer
  have c_check_records := okS_check_records (P := l.prog) (w := w) (base := base) D_check_records B U c_is_record
  have c_split_records := okS_split_records (P := l.prog) (w := w) (base := base) D_split_records B
  have c_l_far := ok_l_far (P := l.prog) (w := w) (base := base) D_l_far B c_l_draw
  have c_l_rule := ok_l_rule (P := l.prog) (w := w) (base := base) D_l_rule B c_l_draw c_l_far c_l_gcd
  have c_l_count := ok_l_count (P := l.prog) (w := w) (base := base) D_l_count
  have c_l_time := ok_l_time (P := l.prog) (w := w) (base := base) D_l_time B c_l_draw c_l_far
  have c_l_record := ok_l_record (P := l.prog) (w := w) (base := base) D_l_record B c_l_draw c_l_pick c_l_count c_l_time
  have cA_simplest_between := okA_simplest_between (P := l.prog) (w := w) (base := base) D_simplest_between c_check_rate c_simplest_inside
  have c_simplest_between := ok_simplest_between (P := l.prog) (w := w) (base := base) cA_simplest_between
  have c_reduce_rate := ok_reduce_rate (P := l.prog) (w := w) (base := base) D_reduce_rate c_gcd
  have c_l_handed := ok_l_handed (P := l.prog) (w := w) (base := base) D_l_handed B c_l_draw
  have c_fits_record := ok_fits_record (P := l.prog) (w := w) (base := base) D_fits_record
  have c_price_list := ok_price_list (P := l.prog) (w := w) (base := base) D_price_list B c_is_integer
  have c_dropped_by := ok_dropped_by (P := l.prog) (w := w) (base := base) D_dropped_by B c_fits_record
  have c_phase_bounds := ok_phase_bounds (P := l.prog) (w := w) (base := base) D_phase_bounds c_split_records
  have c_cheapest_rule := ok_cheapest_rule (P := l.prog) (w := w) (base := base) D_cheapest_rule B c_phase_bounds
  have c_changing_rates := ok_changing_rates (P := l.prog) (w := w) (base := base) D_changing_rates B c_split_records c_reduce_rate
  have c_rates_to_try := ok_rates_to_try (P := l.prog) (w := w) (base := base) D_rates_to_try B c_changing_rates c_simplest_between
  have c_l_costs := ok_l_costs (P := l.prog) (w := w) (base := base) D_l_costs B c_l_draw c_l_far
  have cO0_least_repair := okO_least_repair (P := l.prog) (w := w) (base := base) D_least_repair B UT c_check_records c_price_list c_rates_to_try c_cheapest_rule c_dropped_by
  have c_least_repair := cO0_least_repair.1
  have cO_least_repair := cO0_least_repair.2
  have c_l_less := ok_l_less (P := l.prog) (w := w) (base := base) D_l_less
  have c_l_interval := ok_l_interval (P := l.prog) (w := w) (base := base) D_l_interval c_l_less
  have c_l_clear := ok_l_clear (P := l.prog) (w := w) (base := base) D_l_clear c_l_interval
  have c_l_fits := ok_l_fits (P := l.prog) (w := w) (base := base) D_l_fits c_l_count
  have c_l_is_rule := ok_l_is_rule (P := l.prog) (w := w) (base := base) D_l_is_rule B c_l_gcd
  have c_l_least := ok_l_least (P := l.prog) (w := w) (base := base) D_l_least B c_l_clear
  have c_l_is_right := ok_l_is_right (P := l.prog) (w := w) (base := base) D_l_is_right B c_l_is_rule c_l_fits c_l_least
  exact ok_law F36 B c_l_pen c_l_rule c_l_draw c_l_record c_l_costs c_l_handed c_least_repair cO_least_repair c_l_is_right
end Lf
open PySem PySem.W PyProof.Rows
set_option maxRecDepth 100000 in
set_option maxHeartbeats 0 in
theorem PySem.Challenge.cw_leapfit_k47_least_repairs_by_subsets_holds : PySem.Challenge.rw_leapfit_k47_least_repairs_by_subsets.Holds := by
  w_on; o_law; k_head; (case hw => w_witness2)
  k_fill
  refine L2.walk_of (l := PySem.Challenge.rw_leapfit_k47_least_repairs_by_subsets) (n := 63) (k := 7) (x := "_law_script") (CX := fun _ => L2.CX0) (sp := fun w => Lf.spLaw _) rfl (by decide) rfl ⟨rfl, by decide, by decide⟩ (fun w h Y => PySem.W.kIn_of Y) ?F (fun _ _ a ns hl _ hS => ⟨a, ns, rfl, hS, hl, fun _ => rfl⟩) (fun _ _ _ _ _ h => h)
  case F =>
    intro w mg fa h KX G hmg
    refine' Lf.all_mk KX G hmg ?a0 ?l0 ?c0 ?k0 ?a1 ?l1 ?c1 ?k1 ?a2 ?l2 ?c2 ?k2 ?a3 ?l3 ?c3 ?k3 ?a4 ?l4 ?c4 ?k4 ?a5 ?l5 ?c5 ?k5 ?a6 ?l6 ?c6 ?k6 ?a7 ?l7 ?c7 ?k7 ?a8 ?l8 ?c8 ?k8 ?a9 ?l9 ?c9 ?k9 ?a10 ?l10 ?c10 ?k10 ?a11 ?l11 ?c11 ?k11 ?a12 ?l12 ?c12 ?k12 ?a13 ?l13 ?c13 ?k13 ?a14 ?l14 ?c14 ?k14 ?a15 ?l15 ?c15 ?k15 ?a16 ?l16 ?c16 ?k16 ?a17 ?l17 ?c17 ?k17 ?a18 ?l18 ?c18 ?k18 ?a19 ?l19 ?c19 ?k19 ?a20 ?l20 ?c20 ?k20 ?a21 ?l21 ?c21 ?k21 ?a22 ?l22 ?c22 ?k22 ?a23 ?l23 ?c23 ?k23 ?a24 ?l24 ?c24 ?k24 ?a25 ?l25 ?c25 ?k25 ?a26 ?l26 ?c26 ?k26 ?a27 ?l27 ?c27 ?k27 ?a28 ?l28 ?c28 ?k28 ?q28 ?r28 ?a29 ?l29 ?c29 ?k29 ?a30 ?l30 ?c30 ?k30 ?a31 ?l31 ?c31 ?k31 ?a32 ?l32 ?c32 ?k32 ?a33 ?l33 ?c33 ?k33 ?a34 ?l34 ?c34 ?k34 ?a35 ?l35 ?c35 ?k35 ?a36 ?l36 ?c36 ?k36 ?z0 ?z1 ?z2 ?z3 ?z4 ?z5 ?z6 ?z7 ?z8 ?z9 ?z10 ?z11 ?z12 ?z13 ?z14 ?z15 ?z16 ?z17 ?z18 ?z19 ?xM ?xP
    (case a0 => k_is); (case l0 => k_is); (case c0 => k_is); (case k0 => k_is)
    (case a1 => k_is); (case l1 => k_is); (case c1 => k_is); (case k1 => k_is)
    (case a2 => k_is); (case l2 => k_is); (case c2 => k_is); (case k2 => k_is)
    (case a3 => k_is); (case l3 => k_is); (case c3 => k_is); (case k3 => k_is)
    (case a4 => k_is); (case l4 => k_is); (case c4 => k_is); (case k4 => k_is)
    (case a5 => k_is); (case l5 => k_is); (case c5 => k_is); (case k5 => k_is)
    (case a6 => k_is); (case l6 => k_is); (case c6 => k_is); (case k6 => k_is)
    (case a7 => k_is); (case l7 => k_is); (case c7 => k_is); (case k7 => k_is)
    (case a8 => k_is); (case l8 => k_is); (case c8 => k_is); (case k8 => k_is)
    (case a9 => k_is); (case l9 => k_is); (case c9 => k_is); (case k9 => k_is)
    (case a10 => k_is); (case l10 => k_is); (case c10 => k_is); (case k10 => k_is)
    (case a11 => k_is); (case l11 => k_is); (case c11 => k_is); (case k11 => k_is)
    (case a12 => k_is); (case l12 => k_is); (case c12 => k_is); (case k12 => k_is)
    (case a13 => k_is); (case l13 => k_is); (case c13 => k_is); (case k13 => k_is)
    (case a14 => k_is); (case l14 => k_is); (case c14 => k_is); (case k14 => k_is)
    (case a15 => k_is); (case l15 => k_is); (case c15 => k_is); (case k15 => k_is)
    (case a16 => k_is); (case l16 => k_is); (case c16 => k_is); (case k16 => k_is)
    (case a17 => k_is); (case l17 => k_is); (case c17 => k_is); (case k17 => k_is)
    (case a18 => k_is); (case l18 => k_is); (case c18 => k_is); (case k18 => k_is)
    (case a19 => k_is); (case l19 => k_is); (case c19 => k_is); (case k19 => k_is)
    (case a20 => k_is); (case l20 => k_is); (case c20 => k_is); (case k20 => k_is)
    (case a21 => k_is); (case l21 => k_is); (case c21 => k_is); (case k21 => k_is)
    (case a22 => k_is); (case l22 => k_is); (case c22 => k_is); (case k22 => k_is)
    (case a23 => k_is); (case l23 => k_is); (case c23 => k_is); (case k23 => k_is)
    (case a24 => k_is); (case l24 => k_is); (case c24 => k_is); (case k24 => k_is)
    (case a25 => k_is); (case l25 => k_is); (case c25 => k_is); (case k25 => k_is)
    (case a26 => k_is); (case l26 => k_is); (case c26 => k_is); (case k26 => k_is)
    (case a27 => k_is); (case l27 => k_is); (case c27 => k_is); (case k27 => k_is)
    (case a28 => k_is); (case l28 => k_is); (case c28 => k_is); (case k28 => k_is); (case q28 => first | rfl | k_is); (case r28 => k_is)
    (case a29 => k_is); (case l29 => k_is); (case c29 => k_is); (case k29 => k_is)
    (case a30 => k_is); (case l30 => k_is); (case c30 => k_is); (case k30 => k_is)
    (case a31 => k_is); (case l31 => k_is); (case c31 => k_is); (case k31 => k_is)
    (case a32 => k_is); (case l32 => k_is); (case c32 => k_is); (case k32 => k_is)
    (case a33 => k_is); (case l33 => k_is); (case c33 => k_is); (case k33 => k_is)
    (case a34 => k_is); (case l34 => k_is); (case c34 => k_is); (case k34 => k_is)
    (case a35 => k_is); (case l35 => k_is); (case c35 => k_is); (case k35 => k_is)
    (case a36 => k_is); (case l36 => k_is); (case c36 => k_is); (case k36 => k_is)
    (case z0 => k_is); (case z1 => k_is); (case z2 => k_is); (case z3 => k_is); (case z4 => k_is); (case z5 => k_is); (case z6 => k_is); (case z7 => k_is); (case z8 => k_is); (case z9 => k_is); (case z10 => k_is); (case z11 => k_is); (case z12 => k_is); (case z13 => k_is); (case z14 => k_is); (case z15 => k_is); (case z16 => k_is); (case z17 => k_is); (case z18 => k_is); (case z19 => k_is)
    (case xM => k_is)
    (case xP => k_is)
