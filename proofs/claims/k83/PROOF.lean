import PyProof.Rows.All
import Wide.All
import OpenK.AllK
import Wide.FinOn
import HandS.ForMost
import HandS.Codes
import HandS.Wide
import HandS.WideBits
import HandS.IsInst
import HandS.RaiseMore
import HandS.Style
import HandS.NoneIn
import HandS.TupMul
import HandS.TupAny
import HandS.Walk
import HandS.SetFor
import HandS.Strs
import KE.LtSeq
import HandS.Conv
import HandS.Exc
import HandS.TryOnly
import HandS.ExcOwn
import HandS.ExcIs
import HandS.WordsExc
import HandS.Lambda
import HandS.EndTab
import HandS.EndOwn
import KE.KNestM
import HandS.ExcInit
import HandS.ExcField
import KE.KExcSuper
import KE.KExcIs
import HandS.Defaults
import KE.DatumOrd
import KE.SortData
import KE.SortKeyHeap
import HandS.CallSlots
import HandS.DeepEq
import KE.KSortKey
import KE.GoesMore
import KE.GoesEnumKw
import HandS.SortInts
import HandS.Deep
import HandS.DictComp
import HandS.Evl
import HandS.SortKw
import HandS.RevRange
import HandS.TupLe
import HandS.SetTxt0
import HandS.WordsDict
import KE.KDictZip
import KE.SortKeyHeap
import PyProof.ListNew
import PySem.Challenge.RW_leapfit_k83_whole_logs_and_functions
set_option Elab.async false
set_option linter.all false
set_option maxRecDepth 100000
set_option maxHeartbeats 4000000
set_option linter.all false
namespace Lf
/-! ### sums of rounded quotients -/
def fs : Nat → Int → Int → Int → Int
  | 0, _, _, _ => 0
  | n + 1, a, b, m => fs n a b m + (a * n + b) / m
def tri (n : Int) : Int := n * (n - 1) / 2
theorem tri_succ (n : Int) : tri (n + 1) = tri n + n := by
  unfold tri
  rw [show (n + 1) * (n + 1 - 1) = n * (n - 1) + n * 2 by
    rw [Int.add_sub_cancel, Int.mul_sub, Int.add_mul]; omega]
  rw [Int.add_mul_ediv_right _ _ (by decide)]
theorem tri_zero : tri 0 = 0 := rfl
theorem div_shift (x k m : Int) (h : 0 < m) : (x + m * k) / m = x / m + k := by
  rw [Int.add_mul_ediv_left _ _ (by omega)]
theorem fs_red (n : Nat) (a b m : Int) (h : 0 < m) : fs n a b m = fs n (a % m) b m + a / m * tri n := by
  induction n with
  | zero => simp [fs, tri_zero]
  | succ n ih =>
    show fs n a b m + (a * n + b) / m = fs n (a % m) b m + (a % m * n + b) / m + a / m * tri ((n + 1 : Nat) : Int)
    have e : a * n + b = (a % m * n + b) + m * (a / m * n) := by
      have q := Int.emod_add_mul_ediv a m
      have q2 : a * n = (a % m + m * (a / m)) * n := by rw [q]
      rw [q2, Int.add_mul, Int.mul_assoc]; omega
    rw [e, div_shift _ _ _ h, ih, Int.natCast_add, Int.natCast_one, tri_succ, Int.mul_add]
    omega
theorem fs_redb (n : Nat) (a b m : Int) (h : 0 < m) : fs n a b m = fs n a (b % m) m + b / m * n := by
  induction n with
  | zero => simp [fs]
  | succ n ih =>
    show fs n a b m + (a * n + b) / m = fs n a (b % m) m + (a * n + b % m) / m + b / m * ((n + 1 : Nat) : Int)
    have e : a * n + b = (a * n + b % m) + m * (b / m) := by
      have q := Int.emod_add_mul_ediv b m
      omega
    rw [e, div_shift _ _ _ h, ih, Int.natCast_add, Int.natCast_one, Int.mul_add, Int.mul_one]
    omega
/-- each term of the second sum grows by one when its offset grows by its divisor -/
theorem fs_up (n : Nat) (a b m : Int) (h : 0 < m) : fs n a (b + m) m = fs n a b m + n := by
  induction n with
  | zero => simp [fs]
  | succ n ih =>
    show fs n a (b + m) m + (a * n + (b + m)) / m = fs n a b m + (a * n + b) / m + ((n + 1 : Nat) : Int)
    rw [show a * n + (b + m) = (a * n + b) + m * 1 by omega, div_shift _ _ _ h, ih]
    omega
/-- the first term apart -/
theorem fs_first (n : Nat) (a b m : Int) : fs (n + 1) a b m = b / m + fs n a (b + a) m := by
  induction n with
  | zero => show 0 + (a * ((0 : Nat) : Int) + b) / m = b / m + 0; simp
  | succ n ih =>
    show fs (n + 1) a b m + (a * ((n + 1 : Nat) : Int) + b) / m = b / m + (fs n a (b + a) m + (a * n + (b + a)) / m)
    rw [ih, show a * ((n + 1 : Nat) : Int) + b = a * n + (b + a) by
      rw [Int.natCast_add, Int.natCast_one, Int.mul_add]; omega]
    omega
theorem fs_swap (n : Nat) (a b m : Int) (ha : 0 < a) (ham : a < m) (hb : 0 ≤ b) (hbm : b < m) :
    fs n a b m = fs ((a * n + b) / m).toNat m ((a * n + b) % m) a := by
  induction n with
  | zero =>
    have e : (a * ((0 : Nat) : Int) + b) / m = 0 := by
      rw [show a * ((0 : Nat) : Int) + b = b by simp]
      exact Int.ediv_eq_zero_of_lt hb hbm
    rw [e]; rfl
  | succ n ih =>
    show fs n a b m + (a * n + b) / m = fs ((a * ((n + 1 : Nat) : Int) + b) / m).toNat m ((a * ((n + 1 : Nat) : Int) + b) % m) a
    rw [ih]
    have hm : 0 < m := by omega
    have hy : 0 ≤ a * n + b := by
      have := Int.mul_nonneg (Int.le_of_lt ha) (Int.natCast_nonneg n); omega
    generalize hyd : a * (n : Int) + b = y at hy
    have e : a * ((n + 1 : Nat) : Int) + b = y + a := by
      rw [Int.natCast_add, Int.natCast_one, Int.mul_add]; omega
    rw [e]
    have hq : 0 ≤ y / m := Int.ediv_nonneg hy (by omega)
    have hr0 : 0 ≤ y % m := Int.emod_nonneg _ (by omega)
    have hr1 : y % m < m := Int.emod_lt_of_pos _ hm
    have hd := Int.emod_add_mul_ediv y m
    generalize y / m = q at *
    generalize y % m = r at *
    by_cases hc : r + a < m
    · have e1 : (y + a) / m = q := by
        rw [show y + a = (r + a) + m * q by omega, div_shift _ _ _ hm, Int.ediv_eq_zero_of_lt (by omega) hc]
        omega
      have e2 : (y + a) % m = r + a := by
        have := Int.emod_add_mul_ediv (y + a) m
        rw [e1] at this
        omega
      rw [e1, e2, fs_up _ _ _ _ ha]
      omega
    · have e1 : (y + a) / m = q + 1 := by
        rw [show y + a = (r + a - m) + m * (q + 1) by rw [Int.mul_add]; omega, div_shift _ _ _ hm, Int.ediv_eq_zero_of_lt (by omega) (by omega)]
        omega
      have e2 : (y + a) % m = r + a - m := by
        have := Int.emod_add_mul_ediv (y + a) m
        rw [e1, Int.mul_add] at this
        omega
      rw [e1, e2, show (q + 1).toNat = q.toNat + 1 by omega, fs_first, Int.ediv_eq_zero_of_lt (by omega) (by omega), show r + a - m + m = r + a by omega, fs_up _ _ _ _ ha]
      omega
/-- a whole turn of the loop -/
theorem fs_turn (n a b m : Int) (hn : 0 ≤ n) (hm : 0 < m) :
    fs n.toNat a b m = a / m * tri n + b / m * n + fs ((a % m * n + b % m) / m).toNat m ((a % m * n + b % m) % m) (a % m) := by
  have h1 := fs_red n.toNat a b m hm
  have h2 := fs_redb n.toNat (a % m) b m hm
  have en : ((n.toNat : Nat) : Int) = n := by omega
  rw [en] at h1 h2
  have ha0 : 0 ≤ a % m := Int.emod_nonneg _ (by omega)
  have ha1 : a % m < m := Int.emod_lt_of_pos _ hm
  have hb0 : 0 ≤ b % m := Int.emod_nonneg _ (by omega)
  have hb1 : b % m < m := Int.emod_lt_of_pos _ hm
  by_cases hz : a % m = 0
  · have e0 : (a % m * n + b % m) / m = 0 := by
      rw [hz, Int.zero_mul, Int.zero_add]
      exact Int.ediv_eq_zero_of_lt hb0 hb1
    have z : fs n.toNat (a % m) (b % m) m = 0 := by
      rw [hz]
      have : ∀ k : Nat, fs k 0 (b % m) m = 0 := fun k => by
        induction k with
        | zero => rfl
        | succ k ih =>
          show fs k 0 (b % m) m + (0 * (k : Int) + b % m) / m = 0
          rw [ih, Int.zero_mul, Int.zero_add, Int.zero_add]
          exact Int.ediv_eq_zero_of_lt hb0 hb1
      exact this _
    rw [e0]
    show _ = _ + fs 0 m _ _
    have e3 : fs 0 m ((a % m * n + b % m) % m) (a % m) = 0 := rfl
    have e4 : (0 : Int).toNat = 0 := rfl
    rw [e3, h1, h2, z]
    omega
  · have h3 := fs_swap n.toNat (a % m) (b % m) m (by omega) ha1 hb0 hb1
    rw [en] at h3
    rw [h1, h2, h3]
    omega
theorem turn_le (n a b m : Int) (hn : 0 < n) (hm : 0 < m) : (a % m * n + b % m) / m ≤ n ∧ 0 ≤ (a % m * n + b % m) / m := by
  have ha0 : 0 ≤ a % m := Int.emod_nonneg _ (by omega)
  have ha1 : a % m < m := Int.emod_lt_of_pos _ hm
  have hb0 : 0 ≤ b % m := Int.emod_nonneg _ (by omega)
  have hb1 : b % m < m := Int.emod_lt_of_pos _ hm
  have h0 : 0 ≤ a % m * n := Int.mul_nonneg ha0 (by omega)
  refine ⟨?_, Int.ediv_nonneg (by omega) (by omega)⟩
  have h1 : a % m * n ≤ (m - 1) * n := Int.mul_le_mul_of_nonneg_right (by omega) (by omega)
  rw [Int.sub_mul, Int.one_mul] at h1
  have h2 : (a % m * n + b % m) / m < n + 1 := by
    apply Int.ediv_lt_of_lt_mul hm
    rw [Int.add_mul, Int.one_mul, Int.mul_comm n m]
    omega
  omega
theorem turn_zero (n a b m : Int) (hm : 0 < m) (hz : a % m = 0) : (a % m * n + b % m) / m = 0 := by
  rw [hz, Int.zero_mul, Int.zero_add]
  exact Int.ediv_eq_zero_of_lt (Int.emod_nonneg _ (by omega)) (Int.emod_lt_of_pos _ hm)
/-! ### sizes -/
def Bd (k : Nat) (i : Int) : Prop := i.natAbs < 2 ^ k
theorem Bd.mono {k j : Nat} {i : Int} (h : Bd k i) (e : k ≤ j) : Bd j i := Nat.lt_of_lt_of_le h (Nat.pow_le_pow_right (by decide) e)
theorem Bd.le {k : Nat} {i j : Int} (h : Bd k j) (e : i.natAbs ≤ j.natAbs) : Bd k i := Nat.lt_of_le_of_lt e h
theorem Bd.mul {k j : Nat} {x y : Int} (h : Bd k x) (h2 : Bd j y) : Bd (k + j) (x * y) := by
  unfold Bd
  rw [Int.natAbs_mul, Nat.pow_add]
  exact Nat.mul_lt_mul'' h h2
theorem Bd.add {k : Nat} {x y : Int} (h : Bd k x) (h2 : Bd k y) : Bd (k + 1) (x + y) := by
  unfold Bd at *
  rw [Nat.pow_succ]
  omega
theorem Bd.sub {k : Nat} {x y : Int} (h : Bd k x) (h2 : Bd k y) : Bd (k + 1) (x - y) := by
  unfold Bd at *
  rw [Nat.pow_succ]
  omega
theorem Bd.neg {k : Nat} {x : Int} (h : Bd k x) : Bd k (-x) := by
  unfold Bd at *
  omega
theorem Bd.ediv {k : Nat} {x m : Int} (h : Bd k x) (hm : 0 < m) : Bd k (x / m) := by
  refine h.le ?_
  rcases Int.lt_or_le x 0 with hx | hx
  · have h1 : x / m < 0 := Int.ediv_neg_of_neg_of_pos hx hm
    have h2 : x ≤ x / m := by
      apply Int.le_ediv_of_mul_le hm
      have : (-x) * 1 ≤ (-x) * m := Int.mul_le_mul_of_nonneg_left (by omega) (by omega)
      rw [Int.neg_mul, Int.neg_mul, Int.mul_one] at this
      omega
    omega
  · have h1 : 0 ≤ x / m := Int.ediv_nonneg hx (by omega)
    have h2 : x / m ≤ x := Int.ediv_le_self _ hx
    omega
theorem Bd.emod {k : Nat} {x m : Int} (h : Bd k m) (hm : 0 < m) : Bd k (x % m) := by
  refine h.le ?_
  have := Int.emod_nonneg x (show m ≠ 0 by omega)
  have := Int.emod_lt_of_pos x hm
  omega
theorem Bd.log {k : Nat} {i : Int} (h : Bd k i) (hk : 0 < k) : i.natAbs.log2 < k := by
  by_cases e : i.natAbs = 0
  · rw [e]; exact hk
  · exact (Nat.log2_lt e).mpr h
theorem Bd.small {k : Nat} {i : Int} (c : Nat) (h : i.natAbs < 2 ^ c) (e : c ≤ k) : Bd k i := Bd.mono (k := c) h e
theorem Bd.between {k : Nat} {x y : Int} (h : Bd k y) (h0 : 0 ≤ x) (h1 : x ≤ y) : Bd k x := h.le (by omega)
/-! ### the greatest common divisor -/
theorem gcd_turn (x y : Int) (hx : 0 ≤ x) (hy : 0 < y) : Int.gcd y (x % y) = Int.gcd x y := by
  unfold Int.gcd
  rw [show (x % y).natAbs = x.natAbs % y.natAbs by
    obtain ⟨a, rfl⟩ := Int.eq_ofNat_of_zero_le hx
    obtain ⟨b, rfl⟩ := Int.eq_ofNat_of_zero_le (Int.le_of_lt hy)
    rfl]
  rw [Nat.gcd_comm, ← Nat.gcd_rec, Nat.gcd_comm]
end Lf
namespace Lf
theorem nab_ediv {x m : Int} (hm : 0 < m) : (x / m).natAbs ≤ x.natAbs := by
  rcases Int.lt_or_le x 0 with hx | hx
  · have h1 : x / m < 0 := Int.ediv_neg_of_neg_of_pos hx hm
    have h2 : x ≤ x / m := by
      apply Int.le_ediv_of_mul_le hm
      have : (-x) * 1 ≤ (-x) * m := Int.mul_le_mul_of_nonneg_left (by omega) (by omega)
      rw [Int.neg_mul, Int.neg_mul, Int.mul_one] at this
      omega
    omega
  · have h1 : 0 ≤ x / m := Int.ediv_nonneg hx (by omega)
    have h2 : x / m ≤ x := Int.ediv_le_self _ hx
    omega
theorem fs_nab (n : Nat) (a b m : Int) (hm : 0 < m) : (fs n a b m).natAbs ≤ n * (a.natAbs * n + b.natAbs) := by
  induction n with
  | zero => show (0 : Int).natAbs ≤ _; simp
  | succ n ih =>
    show (fs n a b m + (a * n + b) / m).natAbs ≤ (n + 1) * (a.natAbs * (n + 1) + b.natAbs)
    have h1 := nab_ediv (x := a * n + b) hm
    have h2 := Int.natAbs_add_le (a * n) b
    have h3 := Int.natAbs_add_le (fs n a b m) ((a * n + b) / m)
    have h4 : (a * (n : Int)).natAbs = a.natAbs * n := by rw [Int.natAbs_mul]; rfl
    rw [h4] at h2
    have h5 : n * (a.natAbs * n + b.natAbs) ≤ n * (a.natAbs * (n + 1) + b.natAbs) := Nat.mul_le_mul_left _ (Nat.add_le_add_right (Nat.mul_le_mul_left _ (by omega)) _)
    have h6 : a.natAbs * n ≤ a.natAbs * (n + 1) := Nat.mul_le_mul_left _ (by omega)
    rw [Nat.add_mul, Nat.one_mul]
    omega
theorem fs_bd {n k j : Nat} {a b m : Int} (hm : 0 < m) (hn : n < 2 ^ j) (ha : Bd k a) (hb : Bd k b) : Bd (j + (k + j + 1)) (fs n a b m) := by
  unfold Bd at *
  have h := fs_nab n a b m hm
  refine Nat.lt_of_le_of_lt h ?_
  rw [Nat.pow_add 2 j]
  have h1 : a.natAbs * n + b.natAbs < 2 ^ (k + j + 1) := by
    have e : a.natAbs * n ≤ 2 ^ k * 2 ^ j := Nat.mul_le_mul (Nat.le_of_lt ha) (Nat.le_of_lt hn)
    have e2 : 2 ^ k ≤ 2 ^ k * 2 ^ j := Nat.le_mul_of_pos_right _ (Nat.pow_pos (by decide))
    rw [Nat.pow_succ, Nat.pow_add]
    omega
  exact Nat.mul_lt_mul'' hn h1
def trm (p q c s : Int) (i : Nat) : Int := (p * (s + i) + c) / q
theorem trm_sum (p q c s : Int) (n : Nat) : ((List.range n).map (trm p q c s)).sum = fs n p (p * s + c) q := by
  induction n with
  | zero => rfl
  | succ n ih =>
    rw [List.range_succ, List.map_append, List.sum_append, ih]
    show _ + (trm p q c s n + 0) = fs n p (p * s + c) q + (p * n + (p * s + c)) / q
    unfold trm
    rw [show p * (s + (n : Int)) + c = p * n + (p * s + c) by rw [Int.mul_add]; omega]
    omega
end Lf
namespace Lf
/-! ### triples in lowest terms -/
def gg (p q : Int) : Int := (Int.gcd p q : Int)
theorem gg_pos {p q : Int} (h : 1 ≤ q) : 0 < gg p q := by
  have : 0 < Int.gcd p q := Int.gcd_pos_of_ne_zero_right _ (by omega)
  unfold gg
  omega
theorem gg_p (p q : Int) : p = gg p q * (p / gg p q) := (Int.mul_ediv_cancel' (Int.gcd_dvd_left ..)).symm
theorem gg_q (p q : Int) : q = gg p q * (q / gg p q) := (Int.mul_ediv_cancel' (Int.gcd_dvd_right ..)).symm
theorem gg_mul (g x y : Int) (h : 0 ≤ g) : gg (g * x) (g * y) = g * gg x y := by
  unfold gg
  rw [Int.gcd_mul_left, Int.natCast_mul, Int.natAbs_of_nonneg h]
/-- reduced, multiplied, reduced again -/
theorem gg_twice (p q u v : Int) (h : 1 ≤ q) : gg (u * p) (v * q) = gg p q * gg (u * (p / gg p q)) (v * (q / gg p q)) := by
  have hg := gg_pos (p := p) h
  rw [← gg_mul _ _ _ (Int.le_of_lt hg)]
  congr 1
  · rw [Int.mul_left_comm, ← gg_p]
  · rw [Int.mul_left_comm, ← gg_q]
theorem red_p (p q u v : Int) (h : 1 ≤ q) (hv : 1 ≤ v) : u * (p / gg p q) / gg (u * (p / gg p q)) (v * (q / gg p q)) = u * p / gg (u * p) (v * q) := by
  have hg := gg_pos (p := p) h
  have e := gg_twice p q u v h
  rw [e]
  have e2 : u * p = gg p q * (u * (p / gg p q)) := by rw [Int.mul_left_comm, ← gg_p]
  rw [e2, Int.mul_ediv_mul_of_pos _ _ hg]
theorem red_q (p q u v : Int) (h : 1 ≤ q) (hv : 1 ≤ v) : v * (q / gg p q) / gg (u * (p / gg p q)) (v * (q / gg p q)) = v * q / gg (u * p) (v * q) := by
  have hg := gg_pos (p := p) h
  have e := gg_twice p q u v h
  rw [e]
  have e2 : v * q = gg p q * (v * (q / gg p q)) := by rw [Int.mul_left_comm, ← gg_q]
  rw [e2, Int.mul_ediv_mul_of_pos _ _ hg]
theorem red_c (p q u v c : Int) (h : 1 ≤ q) (hv : 1 ≤ v) : c / gg p q / gg (u * (p / gg p q)) (v * (q / gg p q)) = c / gg (u * p) (v * q) := by
  have hg := gg_pos (p := p) h
  rw [gg_twice p q u v h, Int.ediv_ediv_of_nonneg (Int.le_of_lt hg)]
theorem red_shift (p q a b c : Int) (h : 1 ≤ q) : (p * a + q * b + c) / gg p q = p / gg p q * a + q / gg p q * b + c / gg p q := by
  have hg := gg_pos (p := p) h
  have e : p * a + q * b + c = c + gg p q * (p / gg p q * a + q / gg p q * b) := by
    rw [Int.mul_add, ← Int.mul_assoc, ← Int.mul_assoc, ← gg_p, ← gg_q]
    omega
  rw [e, div_shift _ _ _ hg]
  omega
theorem div_neg1 (c g : Int) (hg : 0 < g) : (-1 - c) / g = -1 - c / g := by
  have e := Int.emod_add_mul_ediv c g
  have h0 := Int.emod_nonneg c (show g ≠ 0 by omega)
  have h1 := Int.emod_lt_of_pos c hg
  have e2 : -1 - c = (g - 1 - c % g) + g * (-1 - c / g) := by
    rw [Int.mul_sub]
    omega
  rw [e2, div_shift _ _ _ hg, Int.ediv_eq_zero_of_lt (by omega) (by omega)]
  omega
theorem red_mirror (p q c : Int) (h : 1 ≤ q) : (q - 1 - c) / gg p q = q / gg p q - 1 - c / gg p q := by
  have hg := gg_pos (p := p) h
  have e : q - 1 - c = (-1 - c) + gg p q * (q / gg p q) := by
    rw [← gg_q]
    omega
  rw [e, div_shift _ _ _ hg, div_neg1 _ _ hg]
  omega
end Lf
namespace Lf
theorem gg1 {p q : Int} (h : Int.gcd p q = 1) : gg p q = 1 := by
  unfold gg
  rw [h]
  rfl
theorem thin2 (p q c j k : Int) (h : 1 ≤ q * j) (hk : 1 ≤ k) :
    p / gg p (q * j) / gg (p / gg p (q * j)) (q * j / gg p (q * j) * k) = p / gg p (q * (j * k)) ∧
    q * j / gg p (q * j) * k / gg (p / gg p (q * j)) (q * j / gg p (q * j) * k) = q * (j * k) / gg p (q * (j * k)) ∧
    c / gg p (q * j) / gg (p / gg p (q * j)) (q * j / gg p (q * j) * k) = c / gg p (q * (j * k)) := by
  have e : q * (j * k) = k * (q * j) := by rw [← Int.mul_assoc, Int.mul_comm]
  have h1 := red_p p (q * j) 1 k h hk
  have h2 := red_q p (q * j) 1 k h hk
  have h3 := red_c p (q * j) 1 k c h hk
  simp only [Int.one_mul] at h1 h2 h3
  rw [Int.mul_comm (q * j / gg p (q * j)) k, e]
  exact ⟨h1, h2, h3⟩
theorem sample2 (p q c j k : Int) (h : 1 ≤ q) :
    p * j / gg (p * j) q * k / gg (p * j / gg (p * j) q * k) (q / gg (p * j) q) = p * (j * k) / gg (p * (j * k)) q ∧
    q / gg (p * j) q / gg (p * j / gg (p * j) q * k) (q / gg (p * j) q) = q / gg (p * (j * k)) q ∧
    c / gg (p * j) q / gg (p * j / gg (p * j) q * k) (q / gg (p * j) q) = c / gg (p * (j * k)) q := by
  have e : p * (j * k) = k * (p * j) := by rw [← Int.mul_assoc, Int.mul_comm]
  have h1 := red_p (p * j) q k 1 h (by decide)
  have h2 := red_q (p * j) q k 1 h (by decide)
  have h3 := red_c (p * j) q k 1 c h (by decide)
  simp only [Int.one_mul] at h1 h2 h3
  rw [Int.mul_comm (p * j / gg (p * j) q) k, e]
  exact ⟨h1, h2, h3⟩
theorem both2 (p q c k : Int) (h : 1 ≤ q) (hk : 1 ≤ k) :
    p * k / gg (p * k) q / gg (p * k / gg (p * k) q) (q / gg (p * k) q * k) = k * p / gg (k * p) (k * q) ∧
    q / gg (p * k) q * k / gg (p * k / gg (p * k) q) (q / gg (p * k) q * k) = k * q / gg (k * p) (k * q) ∧
    c / gg (p * k) q / gg (p * k / gg (p * k) q) (q / gg (p * k) q * k) = c / gg (k * p) (k * q) := by
  have h1 := red_p (p * k) q 1 k h hk
  have h2 := red_q (p * k) q 1 k h hk
  have h3 := red_c (p * k) q 1 k c h hk
  simp only [Int.one_mul] at h1 h2 h3
  rw [Int.mul_comm (q / gg (p * k) q) k, Int.mul_comm k p]
  exact ⟨h1, h2, h3⟩
theorem one_le_mul {x y : Int} (h : 1 ≤ x) (h2 : 1 ≤ y) : 1 ≤ x * y := by
  have := Int.mul_le_mul h h2 (by decide) (by omega)
  omega
end Lf
namespace Lf
/-! ### sums over ranges -/
theorem fs_add (n m : Nat) (a b q : Int) : fs (n + m) a b q = fs n a b q + fs m a (a * n + b) q := by
  induction m with
  | zero => show fs n a b q = fs n a b q + 0; omega
  | succ m ih =>
    show fs (n + m) a b q + (a * ((n + m : Nat) : Int) + b) / q = fs n a b q + (fs m a (a * n + b) q + (a * m + (a * n + b)) / q)
    rw [ih, show a * ((n + m : Nat) : Int) + b = a * m + (a * n + b) by rw [Int.natCast_add, Int.mul_add]; omega]
    omega
/-- two neighbouring ranges -/
theorem fs_split (p q c s m e : Int) (h1 : s ≤ m) (h2 : m ≤ e) : fs (m - s).toNat p (p * s + c) q + fs (e - m).toNat p (p * m + c) q = fs (e - s).toNat p (p * s + c) q := by
  have e1 : (e - s).toNat = (m - s).toNat + (e - m).toNat := by omega
  rw [e1, fs_add, show ((m - s).toNat : Int) = m - s by omega, show p * (m - s) + (p * s + c) = p * m + c by rw [Int.mul_sub]; omega]
theorem fs_one (p b q : Int) : fs 1 p b q = b / q := by
  show 0 + (p * ((0 : Nat) : Int) + b) / q = b / q
  simp
/-- one step of the offset: a term grows by one exactly where the divisor divides -/
theorem step_div (x q : Int) (h : 0 < q) : (x + 1) / q = x / q + (if (x + 1) % q = 0 then 1 else 0) := by
  have e := Int.emod_add_mul_ediv x q
  have h0 := Int.emod_nonneg x (show q ≠ 0 by omega)
  have h1 := Int.emod_lt_of_pos x h
  by_cases hc : x % q + 1 = q
  · have e2 : x + 1 = 0 + q * (x / q + 1) := by rw [Int.mul_add]; omega
    have e3 : (x + 1) % q = 0 := by rw [e2, Int.zero_add, Int.mul_emod_right]
    rw [if_pos e3, e2, div_shift _ _ _ h, Int.zero_ediv]
    omega
  · have e2 : x + 1 = (x % q + 1) + q * (x / q) := by omega
    have e3 : (x + 1) % q = x % q + 1 := by
      rw [e2, Int.add_mul_emod_self_left]
      exact Int.emod_eq_of_lt (by omega) (by omega)
    rw [if_neg (by omega)]
    rw [e2, div_shift _ _ _ h, Int.ediv_eq_zero_of_lt (by omega) (by omega)]
    omega
theorem hit_once (p q b : Int) (hg : Int.gcd p q = 1) (i j : Int) (hi : 0 ≤ i) (hij : i < j) (hj : j < q) (h1 : (p * i + b) % q = 0) (h2 : (p * j + b) % q = 0) : False := by
  have d1 := Int.dvd_of_emod_eq_zero h1
  have d2 := Int.dvd_of_emod_eq_zero h2
  have d3 : q ∣ p * (j - i) := by
    have := Int.dvd_sub d2 d1
    rw [show p * j + b - (p * i + b) = p * (j - i) by rw [Int.mul_sub]; omega] at this
    exact this
  have d4 : q ∣ j - i := by
    have n1 : q.natAbs ∣ p.natAbs * (j - i).natAbs := by
      rw [← Int.natAbs_mul]
      exact Int.natAbs_dvd_natAbs.mpr d3
    have n2 : Nat.Coprime q.natAbs p.natAbs := by
      unfold Nat.Coprime
      rw [Nat.gcd_comm]
      exact hg
    exact Int.natAbs_dvd_natAbs.mp (Nat.Coprime.dvd_of_dvd_mul_left n2 n1)
  have := Int.le_of_dvd (by omega) d4
  omega
theorem fs_step_le (p q b : Int) (hq : 0 < q) (hg : Int.gcd p q = 1) (n : Nat) (hn : (n : Int) ≤ q) :
    fs n p (b + 1) q - fs n p b q = 0 ∧ (∀ i : Nat, i < n → (p * i + (b + 1)) % q ≠ 0) ∨ fs n p (b + 1) q - fs n p b q = 1 ∧ (∃ i : Nat, i < n ∧ (p * i + (b + 1)) % q = 0) := by
  induction n with
  | zero => exact .inl ⟨rfl, fun i h => absurd h (by omega)⟩
  | succ n ih =>
    have e : fs (n + 1) p (b + 1) q - fs (n + 1) p b q = (fs n p (b + 1) q - fs n p b q) + ((p * n + (b + 1)) / q - (p * n + b) / q) := by
      show fs n p (b + 1) q + (p * n + (b + 1)) / q - (fs n p b q + (p * n + b) / q) = _
      omega
    have s := step_div (p * n + b) q hq
    rw [show p * (n : Int) + b + 1 = p * n + (b + 1) by omega] at s
    rw [e]
    rcases ih (by omega) with ⟨h1, h2⟩ | ⟨h1, i, hi, h2⟩
    · by_cases hc : (p * (n : Int) + (b + 1)) % q = 0
      · rw [if_pos hc] at s
        exact .inr ⟨by omega, n, by omega, hc⟩
      · rw [if_neg hc] at s
        refine .inl ⟨by omega, fun i hi => ?_⟩
        by_cases hin : i = n
        · subst hin; exact hc
        · exact h2 i (by omega)
    · have hc : ¬ (p * (n : Int) + (b + 1)) % q = 0 := fun z => hit_once p q (b + 1) hg i n (by omega) (by omega) (by omega) h2 z
      rw [if_neg hc] at s
      exact .inr ⟨by omega, i, by omega, h2⟩
theorem fs_step (p q b : Int) (hq : 0 < q) (hg : Int.gcd p q = 1) : fs q.toNat p (b + 1) q = fs q.toNat p b q + 1 := by
  have hle : ∀ b, fs q.toNat p (b + 1) q - fs q.toNat p b q ≤ 1 := fun b => by
    rcases fs_step_le p q b hq hg q.toNat (by omega) with ⟨h, _⟩ | ⟨h, _⟩ <;> omega
  have many : ∀ (k : Nat) (b : Int), fs q.toNat p (b + k) q - fs q.toNat p b q ≤ k := fun k => by
    induction k with
    | zero => intro b; simp
    | succ k ih =>
      intro b
      have h1 := ih b
      have h2 := hle (b + k)
      rw [show b + ((k + 1 : Nat) : Int) = b + k + 1 by omega]
      omega
  have up := fs_up q.toNat p b q hq
  have h1 := many (q.toNat - 1) (b + 1)
  rw [show b + 1 + ((q.toNat - 1 : Nat) : Int) = b + q by omega] at h1
  have h2 := hle b
  omega
theorem fs_from (p q : Int) (hq : 0 < q) (hg : Int.gcd p q = 1) (k : Nat) (b : Int) : fs q.toNat p (b + k) q = fs q.toNat p b q + k := by
  induction k with
  | zero => simp
  | succ k ih =>
    rw [show b + ((k + 1 : Nat) : Int) = b + k + 1 by omega, fs_step p q _ hq hg, ih]
    omega
theorem fs_any (p q b : Int) (hq : 0 < q) (hg : Int.gcd p q = 1) : fs q.toNat p b q = fs q.toNat p 0 q + b := by
  rcases Int.lt_or_le b 0 with h | h
  · have := fs_from p q hq hg (-b).toNat b
    rw [show b + ((-b).toNat : Int) = 0 by omega] at this
    omega
  · have := fs_from p q hq hg b.toNat 0
    rw [show 0 + (b.toNat : Int) = b by omega] at this
    omega
/-- terms in reverse order -/
theorem fs_rev (n : Nat) (a b q : Int) : fs n a b q = fs n (-a) (a * (n - 1) + b) q := by
  induction n with
  | zero => rfl
  | succ n ih =>
    rw [fs_first n (-a)]
    show fs n a b q + (a * n + b) / q = _
    rw [ih, show a * (((n + 1 : Nat) : Int) - 1) + b = a * n + b by rw [show ((n + 1 : Nat) : Int) - 1 = n by omega],
      show a * (n : Int) + b + -a = a * (n - 1) + b by rw [Int.mul_sub]; omega]
    omega
/-- negated terms -/
theorem fs_neg (n : Nat) (a b q : Int) (hq : 0 < q) : fs n (-a) (-b) q = - fs n a (b + q - 1) q := by
  induction n with
  | zero => rfl
  | succ n ih =>
    show fs n (-a) (-b) q + (-a * n + -b) / q = - (fs n a (b + q - 1) q + (a * n + (b + q - 1)) / q)
    rw [ih]
    have h1 := div_neg1 (a * n + (b - 1)) q hq
    have h2 := div_shift (a * n + (b - 1)) 1 q hq
    rw [show -1 - (a * (n : Int) + (b - 1)) = -a * n + -b by rw [Int.neg_mul]; omega] at h1
    rw [show a * (n : Int) + (b - 1) + q * 1 = a * n + (b + q - 1) by omega] at h2
    omega
theorem fs_cycle (p q b : Int) (hq : 0 < q) (hg : Int.gcd p q = 1) : fs q.toNat p b q = b + (p - 1) * (q - 1) / 2 := by
  have h0 := fs_any p q b hq hg
  have r := fs_rev q.toNat p 0 q
  have ng := fs_neg q.toNat p (-(p * (q - 1))) q hq
  rw [show ((q.toNat : Nat) : Int) = q by omega, Int.add_zero] at r
  rw [Int.neg_neg] at ng
  have h2 := fs_any p q (-(p * (q - 1)) + q - 1) hq hg
  have key : 2 * fs q.toNat p 0 q = (p - 1) * (q - 1) := by
    have e : (p - 1) * (q - 1) = p * (q - 1) - (q - 1) := by rw [Int.sub_mul, Int.one_mul]
    omega
  have : (p - 1) * (q - 1) / 2 = fs q.toNat p 0 q := by
    rw [← key, Int.mul_ediv_cancel_left _ (by decide)]
  omega
/-- Hermite's identity -/
theorem fs_hermite (k y : Int) (hk : 0 < k) : fs k.toNat 1 y k = y := by
  have := fs_cycle 1 k y hk (by simp [Int.gcd])
  rw [this]
  simp
/-- mirrored -/
theorem fs_mirror (n : Nat) (p q c s : Int) (hq : 0 < q) : fs n p (p * (1 - (s + n)) + (q - 1 - c)) q = - fs n p (p * s + c) q := by
  induction n with
  | zero => rfl
  | succ n ih =>
    rw [fs_first]
    show _ = -(fs n p (p * s + c) q + (p * n + (p * s + c)) / q)
    have e1 : p * (1 - (s + ((n + 1 : Nat) : Int))) + (q - 1 - c) + p = p * (1 - (s + n)) + (q - 1 - c) := by
      rw [show (1 - (s + ((n + 1 : Nat) : Int))) = (1 - (s + n)) - 1 by omega, Int.mul_sub p _ 1]
      omega
    rw [e1, ih]
    have h1 := div_neg1 (p * n + (p * s + c)) q hq
    have h2 := div_shift (-1 - (p * n + (p * s + c))) 1 q hq
    rw [show -1 - (p * (n : Int) + (p * s + c)) + q * 1 = p * (1 - (s + ((n + 1 : Nat) : Int))) + (q - 1 - c) by
      rw [show (1 - (s + ((n + 1 : Nat) : Int))) = -(n : Int) - s by omega, Int.mul_sub, Int.mul_neg]; omega] at h2
    omega
theorem fs_lowest (n : Nat) (p q c s : Int) (hq : 1 ≤ q) : fs n (p / gg p q) (p / gg p q * s + c / gg p q) (q / gg p q) = fs n p (p * s + c) q := by
  have hg := gg_pos (p := p) hq
  induction n with
  | zero => rfl
  | succ n ih =>
    show fs n (p / gg p q) (p / gg p q * s + c / gg p q) (q / gg p q) + (p / gg p q * n + (p / gg p q * s + c / gg p q)) / (q / gg p q) = fs n p (p * s + c) q + (p * n + (p * s + c)) / q
    rw [ih]
    have e1 : p / gg p q * n + (p / gg p q * s + c / gg p q) = (p * n + (p * s + c)) / gg p q := by
      have : p * n + (p * s + c) = c + gg p q * (p / gg p q * n + p / gg p q * s) := by
        rw [Int.mul_add, ← Int.mul_assoc, ← Int.mul_assoc, ← gg_p]
        omega
      rw [this, div_shift _ _ _ hg]
      omega
    have e2 : (p * n + (p * s + c)) / gg p q / (q / gg p q) = (p * n + (p * s + c)) / q := by
      rw [Int.ediv_ediv_of_nonneg (Int.le_of_lt hg), ← gg_q]
    rw [e1, e2]
theorem sum_map_add {α : Type} (l : List α) (f g : α → Int) : (l.map fun x => f x + g x).sum = (l.map f).sum + (l.map g).sum := by
  induction l with
  | nil => rfl
  | cons x r ih => simp only [List.map_cons, List.sum_cons, ih]; omega
theorem range_fs (k : Nat) (a b q : Int) : ((List.range k).map fun (j : Nat) => (a * j + b) / q).sum = fs k a b q := by
  induction k with
  | zero => rfl
  | succ k ih =>
    rw [List.range_succ, List.map_append, List.sum_append, ih]
    show _ + ((a * k + b) / q + 0) = fs k a b q + (a * k + b) / q
    omega
theorem fs_thin (n : Nat) (p q b k : Int) (hq : 0 < q) (hk : 0 < k) : ((List.range k.toNat).map fun (j : Nat) => fs n p (b + q * j) (q * k)).sum = fs n p b q := by
  induction n with
  | zero =>
    show ((List.range k.toNat).map fun _ => (0 : Int)).sum = 0
    induction k.toNat with
    | zero => rfl
    | succ m ih => rw [List.range_succ, List.map_append, List.sum_append, ih]; rfl
  | succ n ih =>
    have e : (List.range k.toNat).map (fun (j : Nat) => fs (n + 1) p (b + q * j) (q * k)) = (List.range k.toNat).map (fun (j : Nat) => fs n p (b + q * j) (q * k) + (1 * (j : Int) + (p * n + b) / q) / k) := by
      apply List.map_congr_left
      intro j _
      show fs n p (b + q * j) (q * k) + (p * n + (b + q * j)) / (q * k) = _
      rw [← Int.ediv_ediv_of_nonneg (Int.le_of_lt hq), show p * (n : Int) + (b + q * j) = (p * n + b) + q * j by omega, div_shift _ _ _ hq, Int.one_mul, Int.add_comm]
      rw [Int.add_comm (j : Int)]
      omega
    rw [e, sum_map_add, ih, range_fs, fs_hermite _ _ hk]
    rfl
theorem fs_sample (n : Nat) (p q b k : Int) (hk : 0 ≤ k) : ((List.range k.toNat).map fun (j : Nat) => fs n (p * k) (b + p * j) q).sum = fs (k.toNat * n) p b q := by
  induction n with
  | zero =>
    show ((List.range k.toNat).map fun _ => (0 : Int)).sum = 0
    induction k.toNat with
    | zero => rfl
    | succ m ih => rw [List.range_succ, List.map_append, List.sum_append, ih]; rfl
  | succ n ih =>
    have e : (List.range k.toNat).map (fun (j : Nat) => fs (n + 1) (p * k) (b + p * j) q) = (List.range k.toNat).map (fun (j : Nat) => fs n (p * k) (b + p * j) q + (p * (j : Int) + (p * ((k.toNat * n : Nat) : Int) + b)) / q) := by
      apply List.map_congr_left
      intro j _
      show fs n (p * k) (b + p * j) q + (p * k * n + (b + p * j)) / q = _
      rw [Int.natCast_mul, show ((k.toNat : Nat) : Int) = k by omega, ← Int.mul_assoc]
      rw [show p * k * (n : Int) + (b + p * j) = p * j + (p * k * n + b) by omega]
    rw [e, sum_map_add, ih, range_fs, Nat.mul_succ, fs_add]
end Lf
namespace Lf
theorem fs_lin (n : Nat) (a b m i j : Int) (hm : 0 < m) : fs n (a + i * m) (b + j * m) m = fs n a b m + i * tri n + j * n := by
  induction n with
  | zero => simp [fs, tri_zero]
  | succ n ih =>
    show fs n (a + i * m) (b + j * m) m + ((a + i * m) * n + (b + j * m)) / m = fs n a b m + (a * n + b) / m + i * tri ((n + 1 : Nat) : Int) + j * ((n + 1 : Nat) : Int)
    rw [ih, show (a + i * m) * (n : Int) + (b + j * m) = (a * n + b) + m * (i * n + j) by
      rw [Int.add_mul, Int.mul_add, Int.mul_comm i m, Int.mul_assoc, Int.mul_comm j m]; omega, div_shift _ _ _ hm, Int.natCast_add, Int.natCast_one, tri_succ, Int.mul_add, Int.mul_add]
    omega
theorem fs_scale (n : Nat) (a b m k : Int) (hk : 0 < k) : fs n (a * k) (b * k) (m * k) = fs n a b m := by
  induction n with
  | zero => rfl
  | succ n ih =>
    show fs n (a * k) (b * k) (m * k) + (a * k * n + b * k) / (m * k) = fs n a b m + (a * n + b) / m
    rw [ih, show a * k * (n : Int) + b * k = (a * n + b) * k by rw [Int.add_mul, Int.mul_right_comm], Int.mul_ediv_mul_of_pos_left _ _ hk]
theorem fs_last (n a b m : Int) (hn : 0 < n) : fs n.toNat a b m - fs (n - 1).toNat a b m = (a * (n - 1) + b) / m := by
  have e : n.toNat = (n - 1).toNat + 1 := by omega
  rw [e]
  show fs (n - 1).toNat a b m + (a * ((n - 1).toNat : Int) + b) / m - fs (n - 1).toNat a b m = _
  rw [show ((n - 1).toNat : Int) = n - 1 by omega]
  omega
theorem fs_part (n k a b m : Int) (h0 : 0 ≤ k) (h1 : k ≤ n) : fs k.toNat a b m + fs (n - k).toNat a (a * k + b) m = fs n.toNat a b m := by
  rw [show n.toNat = k.toNat + (n - k).toNat by omega, fs_add, show ((k.toNat : Nat) : Int) = k by omega]
theorem Bd.grow3 {k : Nat} {r d : Int} (h0 : 0 ≤ r) (h : Bd k r) (d0 : 0 ≤ d) (d1 : d < 1000) : Bd (k + 10) (1000 * r + d) := by
  unfold Bd at *
  have e : (2 : Nat) ^ (k + 10) = 2 ^ k * 1024 := by rw [Nat.pow_add]
  rw [e]
  generalize (2 : Nat) ^ k = m at h
  omega
theorem Bd.grow1 {k : Nat} {r d : Int} (h0 : 0 ≤ r) (h : Bd k r) (d0 : 0 ≤ d) (d1 : d < 10) : Bd (k + 4) (10 * r + d) := by
  unfold Bd at *
  have e : (2 : Nat) ^ (k + 4) = 2 ^ k * 16 := by rw [Nat.pow_add]
  rw [e]
  generalize (2 : Nat) ^ k = m at h
  omega
end Lf
namespace Lf
/-! ### events -/
theorem gal {p q : Int} (c m t : Int) (hp : 1 ≤ p) (hq : 1 ≤ q) : m ≤ (p * t + c) / q ↔ (q * m + (p - 1 - c)) / p ≤ t := by
  rw [Int.le_ediv_iff_mul_le (by omega), ← Int.lt_add_one_iff (a := (q * m + (p - 1 - c)) / p), Int.ediv_lt_iff_lt_mul (by omega), Int.mul_comm m q, Int.add_mul, Int.one_mul, Int.mul_comm t p]
  omega
theorem ct_mono {p q c s t : Int} (hp : 0 ≤ p) (hq : 1 ≤ q) (h : s ≤ t) : (p * s + c) / q ≤ (p * t + c) / q := by
  apply Int.ediv_le_ediv (by omega)
  have := Int.mul_le_mul_of_nonneg_left h hp
  omega
theorem ev_at {p q c m t : Int} (hp : 1 ≤ p) (hq : 1 ≤ q) (h1 : (p * (t - 1) + c) / q < m) (h2 : m ≤ (p * t + c) / q) : (q * m + (p - 1 - c)) / p = t := by
  have a := (gal c m t hp hq).mp h2
  have b : ¬ (q * m + (p - 1 - c)) / p ≤ t - 1 := fun h => by
    have := (gal c m (t - 1) hp hq).mpr h
    omega
  omega
theorem fs_const (k : Nat) (a b m v : Int) (h : ∀ i : Nat, i < k → (a * i + b) / m = v) : fs k a b m = k * v := by
  induction k with
  | zero => simp [fs]
  | succ k ih =>
    show fs k a b m + (a * k + b) / m = ((k + 1 : Nat) : Int) * v
    rw [ih (fun i hi => h i (by omega)), h k (by omega), Int.natCast_add, Int.natCast_one, Int.add_mul]
    omega
/-- the sum of the counts of a range by the times of its events -/
theorem fs_dual (p q c s : Int) (hp : 1 ≤ p) (hq : 1 ≤ q) (n : Nat) :
    fs n p (p * s + c) q = n * ((p * (s - 1) + c) / q) + ((p * (s + n - 1) + c) / q - (p * (s - 1) + c) / q) * (s + n) - fs ((p * (s + n - 1) + c) / q - (p * (s - 1) + c) / q).toNat q (q * ((p * (s - 1) + c) / q + 1) + (p - 1 - c)) p := by
  induction n with
  | zero =>
    rw [show s + ((0 : Nat) : Int) - 1 = s - 1 by omega, Int.sub_self]
    simp [fs]
  | succ n ih =>
    show fs n p (p * s + c) q + (p * n + (p * s + c)) / q = _
    rw [ih]
    have e0 : p * (n : Int) + (p * s + c) = p * (s + ((n + 1 : Nat) : Int) - 1) + c := by
      rw [show s + ((n + 1 : Nat) : Int) - 1 = s + n by omega, Int.mul_add]
      omega
    rw [e0]
    have m1 : (p * (s - 1) + c) / q ≤ (p * (s + n - 1) + c) / q := ct_mono (by omega) hq (by omega)
    have m2 : (p * (s + n - 1) + c) / q ≤ (p * (s + ((n + 1 : Nat) : Int) - 1) + c) / q := ct_mono (by omega) hq (by omega)
    have key : ∀ i : Nat, (i : Int) < (p * (s + ((n + 1 : Nat) : Int) - 1) + c) / q - (p * (s + n - 1) + c) / q → (q * ((p * (s + n - 1) + c) / q + 1 + i) + (p - 1 - c)) / p = s + n := fun i hi => by
      apply ev_at hp hq
      · show (p * (s + n - 1) + c) / q < _
        omega
      · rw [show s + (n : Int) = s + ((n + 1 : Nat) : Int) - 1 by omega] at *
        omega
    generalize hl : (p * (s - 1) + c) / q = low at *
    generalize hh : (p * (s + n - 1) + c) / q = hi at *
    generalize hh2 : (p * (s + ((n + 1 : Nat) : Int) - 1) + c) / q = hi2 at *
    rw [show (hi2 - low).toNat = (hi - low).toNat + (hi2 - hi).toNat by omega, fs_add, show ((hi - low).toNat : Int) = hi - low by omega]
    have fc := fs_const (hi2 - hi).toNat q (q * (hi - low) + (q * (low + 1) + (p - 1 - c))) p (s + n) (fun i h => by
      have := key i (by omega)
      rw [show q * (i : Int) + (q * (hi - low) + (q * (low + 1) + (p - 1 - c))) = q * (hi + 1 + i) + (p - 1 - c) by
        have : q * (hi + 1 + i) = q * i + q * (hi - low) + q * (low + 1) := by rw [← Int.mul_add, ← Int.mul_add]; congr 1; omega
        omega]
      exact this)
    rw [fc, show ((hi2 - hi).toNat : Int) = hi2 - hi by omega]
    rw [show s + ((n + 1 : Nat) : Int) = s + n + 1 by omega, show ((n + 1 : Nat) : Int) = n + 1 by omega]
    generalize s + (n : Int) = x
    have e3 : (hi2 - low) * (x + 1) = hi2 * x - low * x + hi2 - low := by rw [Int.mul_add, Int.sub_mul]; omega
    have e4 : (hi - low) * x = hi * x - low * x := by rw [Int.sub_mul]
    have e5 : (hi2 - hi) * x = hi2 * x - hi * x := by rw [Int.sub_mul]
    have e6 : ((n : Int) + 1) * low = n * low + low := by rw [Int.add_mul, Int.one_mul]
    rw [e3, e4, e5, e6]
    omega
theorem ct_fast {p q c s : Int} (hq : 1 ≤ q) (h : q ≤ p) (n : Nat) : (n : Int) ≤ (p * (s + n) + c) / q - (p * s + c) / q := by
  induction n with
  | zero => simp
  | succ n ih =>
    have : (p * (s + n) + c) / q + 1 ≤ (p * (s + ((n + 1 : Nat) : Int)) + c) / q := by
      have e := div_shift (p * (s + n) + c) 1 q (by omega)
      rw [← e]
      apply Int.ediv_le_ediv (by omega)
      rw [show s + ((n + 1 : Nat) : Int) = s + n + 1 by omega, Int.mul_add p (s + n) 1]
      omega
    omega
theorem ct_slow {p q c s : Int} (hq : 1 ≤ q) (h : p ≤ q) (n : Nat) : (p * (s + n) + c) / q - (p * s + c) / q ≤ n := by
  induction n with
  | zero => simp
  | succ n ih =>
    have : (p * (s + ((n + 1 : Nat) : Int)) + c) / q ≤ (p * (s + n) + c) / q + 1 := by
      have e := div_shift (p * (s + n) + c) 1 q (by omega)
      rw [← e]
      apply Int.ediv_le_ediv (by omega)
      rw [show s + ((n + 1 : Nat) : Int) = s + n + 1 by omega, Int.mul_add p (s + n) 1]
      omega
    omega
end Lf

namespace Lf
open PySem PySem.Spec PyProof.Rows L2
def topS (i : Nat) : Stmt := PySem.Challenge.pw_leapfit_k83_whole_logs_and_functions.main.body.getD i (.Pass ⟨0, 0, 0, 0⟩)
/-! ### heaps -/
theorem len10 {n : Nat} (h : n ≤ 1000) : n ≤ sizeLine := Nat.le_of_lt (small1000 h)
def penD (l : Addr) (t r : Int) : List (Key × V) := [(Sum.inr "cells", .ref l), (Sum.inr "at", .int t), (Sum.inr "left", .int r)]
/-- all but the source's own dict stays -/
structure Fr (H H' : Hp) : Prop where
  k : ∀ b o, H b = some o → (∀ x : Addr × Int × Int, o ≠ .dK (penD x.1 x.2.1 x.2.2)) → H' b = some o
theorem Fr.t {H H' : Hp} (f : Fr H H') (b : Addr) (xs : List V) (h : H b = some (.tup xs)) : H' b = some (.tup xs) := f.k b _ h fun _ z => by cases z
theorem Fr.l {H H' : Hp} (f : Fr H H') (b : Addr) (xs : List V) (h : H b = some (.lst xs)) : H' b = some (.lst xs) := f.k b _ h fun _ z => by cases z
theorem Fr.refl (H : Hp) : Fr H H := ⟨fun _ _ h _ => h⟩
theorem Fr.trans {H H1 H2 : Hp} (a : Fr H H1) (b : Fr H1 H2) : Fr H H2 := ⟨fun c o h n => b.k c o (a.k c o h n) n⟩
theorem Fr.same {H H1 : Hp} (a : Same H H1) : Fr H H1 := ⟨fun c o h _ => a c _ h⟩
theorem sm_upd {H : Hp} {p : Addr} {o : HO} (h : H p = none) : Same H (upd H p o) := fun b x e => by
  rw [upd_ne (ne_of_none e h)]
  exact e
theorem Fr.new {H : Hp} {p : Addr} {o : HO} (h : H p = none) : Fr H (upd H p o) := Fr.same (sm_upd h)
theorem Fr.dict {H : Hp} {p l : Addr} {t r : Int} {o : HO} (h : H p = some (.dK (penD l t r))) : Fr H (upd H p o) :=
  ⟨fun b o e n => by rw [upd_ne (ne_of e h (n (l, t, r)))]; exact e⟩
theorem Fr.d0 {H H' : Hp} (f : Fr H H') (b : Addr) (h : H b = some (.dK [])) : H' b = some (.dK []) := f.k b _ h fun _ z => by cases z
/-! ### the source of numbers -/
theorem sct : ¬ ("cells" : Str) = "at" := by decide +kernel
theorem scr : ¬ ("cells" : Str) = "left" := by decide +kernel
theorem str_ : ¬ ("at" : Str) = "left" := by decide +kernel
theorem srt : ¬ ("left" : Str) = "at" := by decide +kernel
theorem kct : ¬ (Sum.inr ("cells" : Str) : Key) = Sum.inr ("at" : Str) := fun h => sct (Sum.inr.inj h)
theorem kcr : ¬ (Sum.inr ("cells" : Str) : Key) = Sum.inr ("left" : Str) := fun h => scr (Sum.inr.inj h)
theorem ktr : ¬ (Sum.inr ("at" : Str) : Key) = Sum.inr ("left" : Str) := fun h => str_ (Sum.inr.inj h)
theorem krt : ¬ (Sum.inr ("left" : Str) : Key) = Sum.inr ("at" : Str) := fun h => srt (Sum.inr.inj h)
theorem dg_rest {H : Hp} {a l : Addr} {t r : Int} (h : H a = some (.dK (penD l t r))) : DGet H a (.str "left") (some (.int r)) := by
  have e : valV (penD l t r) (Sum.inr "left" : Key) = some (.int r) := by
    unfold penD
    rw [valV_neg kcr, valV_neg ktr, valV_pos rfl]
  rw [← e]
  exact DGet.k (k := Sum.inr "left") h
theorem dg_turn {H : Hp} {a l : Addr} {t r : Int} (h : H a = some (.dK (penD l t r))) : DGet H a (.str "at") (some (.int t)) := by
  have e : valV (penD l t r) (Sum.inr "at" : Key) = some (.int t) := by
    unfold penD
    rw [valV_neg kct, valV_pos rfl]
  rw [← e]
  exact DGet.k (k := Sum.inr "at") h
theorem dg_cells {H : Hp} {a l : Addr} {t r : Int} (h : H a = some (.dK (penD l t r))) : DGet H a (.str "cells") (some (.ref l)) := by
  have e : valV (penD l t r) (Sum.inr "cells" : Key) = some (.ref l) := by
    unfold penD
    rw [valV_pos rfl]
  rw [← e]
  exact DGet.k (k := Sum.inr "cells") h
theorem dp_rest {H : Hp} {a l : Addr} {t r y : Int} (h : H a = some (.dK (penD l t r))) : DPut H a (.str "left") (.int y) (upd H a (.dK (penD l t y))) := by
  have e : putK (penD l t r) (Sum.inr "left" : Key) (.int y) = penD l t y := by
    simp [putK, penD, scr, str_]
  rw [← e]
  exact DPut.k (k := Sum.inr "left") h (by show 3 < sizeLine; exact small1000 (by decide))
theorem dp_turn {H : Hp} {a l : Addr} {t r y : Int} (h : H a = some (.dK (penD l t r))) : DPut H a (.str "at") (.int y) (upd H a (.dK (penD l y r))) := by
  have e : putK (penD l t r) (Sum.inr "at" : Key) (.int y) = penD l y r := by
    simp [putK, penD, sct, srt]
  rw [← e]
  exact DPut.k (k := Sum.inr "at") h (by show 3 < sizeLine; exact small1000 (by decide))
/-- where the source stands: its dict, its list of cells -/
structure PA where
  d : Addr
  l : Addr
instance : Coe PA Addr := ⟨PA.d⟩
structure Pen (H : Hp) (a : PA) (n : Nat) : Prop where
  ex : ∃ (cs : List Int) (t r : Int), H a.d = some (.dK (penD a.l t r)) ∧ H a.l = some (.lst (cs.map V.int)) ∧ cs.length ≤ 63 ∧ 0 ≤ t ∧ t ≤ n ∧ 0 ≤ r
theorem Pen.same {H H' : Hp} {a : PA} {n : Nat} (p : Pen H a n) (s : Same H H') : Pen H' a n := by
  obtain ⟨cs, t, r, h1, h2, h3⟩ := p.ex
  exact ⟨cs, t, r, s _ _ h1, s _ _ h2, h3⟩
theorem Pen.new {H : Hp} {a : PA} {p : Addr} {n : Nat} {o : HO} (q : Pen H a n) (h : H p = none) : Pen (upd H p o) a n := q.same (sm_upd h)
theorem Pen.mono {H : Hp} {a : PA} {n m : Nat} (p : Pen H a n) (h : n ≤ m) : Pen H a m := by
  obtain ⟨cs, t, r, h1, h2, h3, h4, h5, h6⟩ := p.ex
  exact ⟨cs, t, r, h1, h2, h3, h4, by omega, h6⟩
theorem Pen.put {H : Hp} {a l : Addr} {cs : List Int} {t r : Int} {n : Nat} {kvs : List (Key × V)} (ha : H a = some (.dK kvs)) (hl : H l = some (.lst (cs.map V.int))) (h1 : cs.length ≤ 63) (h2 : 0 ≤ t) (h3 : t ≤ n) (h4 : 0 ≤ r) :
    Pen (upd H a (.dK (penD l t r))) ⟨a, l⟩ n :=
  ⟨cs, t, r, upd_same, by show upd H a _ l = _; rw [upd_ne (ne_of hl ha (by intro z; cases z))]; exact hl, h1, h2, h3, h4⟩
/-- an address that was free when the source stood already -/
theorem Pen.over {H H' : Hp} {a : PA} {L : Addr} {n m : Nat} {o : HO} (p0 : Pen H a m) (hL : H L = none) (p : Pen H' a n) : Pen (upd H' L o) a n := by
  obtain ⟨_, _, _, g1, g2, _⟩ := p0.ex
  obtain ⟨cs, t, r, h1, h2, h3⟩ := p.ex
  exact ⟨cs, t, r, by rw [upd_ne (ne_of_none g1 hL)]; exact h1, by rw [upd_ne (ne_of_none g2 hL)]; exact h2, h3⟩
theorem Fr.over {H H' : Hp} {L : Addr} {o : HO} (f : Fr H H') (hL : H L = none) : Fr H (upd H' L o) :=
  ⟨fun b o e n => by rw [upd_ne (ne_of_none e hL)]; exact f.k _ _ e n⟩
/-! ### defs by their names -/
def Df (K : PySem.W.Frag) (mg : Str → Option Value) (x : Str) (st : Stmt) (ps : List Str) : Prop := ∃ f fd, Fun K x x st f fd ∧ mg x = some (.ref f) ∧ Binds K fd ps []
structure Bi (mg : Str → Option Value) : Prop where
  len_ : mg "len" = none
  abs_ : mg "abs" = none
  list_ : mg "list" = none
  range_ : mg "range" = none
  sum_ : mg "sum" = none
  repr_ : mg "repr" = none
  max_ : mg "max" = none
  min_ : mg "min" = none
  reversed_ : mg "reversed" = none
  divmod_ : mg "divmod" = none
  isinstance_ : mg "isinstance" = none
  all_ : mg "all" = none
  int_ : mg "int" = none
  bool_ : mg "bool" = none
  tuple_ : mg "tuple" = none
  sorted_ : mg "sorted" = none
  zip_ : mg "zip" = none
  enumerate_ : mg "enumerate" = none
  set_ : mg "set" = none
  str_ : mg "str" = none
theorem bt_len : bootBuiltins ("len" : Str) = Option.some (Value.builtin "len") := by decide +kernel
theorem bt_abs : bootBuiltins ("abs" : Str) = Option.some (Value.builtin "abs") := by decide +kernel
theorem bt_sum : bootBuiltins ("sum" : Str) = Option.some (Value.builtin "sum") := by decide +kernel
theorem bt_repr : bootBuiltins ("repr" : Str) = Option.some (Value.builtin "repr") := by decide +kernel
theorem bt_max : bootBuiltins ("max" : Str) = Option.some (Value.builtin "max") := by decide +kernel
theorem bt_min : bootBuiltins ("min" : Str) = Option.some (Value.builtin "min") := by decide +kernel
theorem bt_divmod : bootBuiltins ("divmod" : Str) = Option.some (Value.builtin "divmod") := by decide +kernel
theorem bt_isinstance : bootBuiltins ("isinstance" : Str) = Option.some (Value.builtin "isinstance") := by decide +kernel
theorem bt_all : bootBuiltins ("all" : Str) = Option.some (Value.builtin "all") := by decide +kernel
theorem bt_set : bootBuiltins ("set" : Str) = Option.some (Value.type "set") := by decide +kernel
theorem bt_str : bootBuiltins ("str" : Str) = Option.some (Value.type "str") := by decide +kernel
theorem bt_sorted : bootBuiltins ("sorted" : Str) = Option.some (Value.builtin "sorted") := by decide +kernel
theorem bt_list : bootBuiltins ("list" : Str) = Option.some (Value.type "list") := by decide +kernel
theorem bt_int : bootBuiltins ("int" : Str) = Option.some (Value.type "int") := by decide +kernel
theorem bt_bool : bootBuiltins ("bool" : Str) = Option.some (Value.type "bool") := by decide +kernel
theorem bt_tuple : bootBuiltins ("tuple" : Str) = Option.some (Value.type "tuple") := by decide +kernel
section
variable {P : Program} {w : World} {K : PySem.W.Frag} {mg : Str → Option Value} {base : Heap}
theorem cal_of {x : Str} {st : Stmt} {N ps : List Str} {k : Nat} {sp : Sp} (D : Df K mg x st ps) (S : FnScope N ps (defScope st)) (len : ∀ vs H Q E, sp vs H Q E → vs.length = ps.length)
    (hb : ∀ (f : Addr) (cdv : Value) (A : Around) (outer : List Env) (s : Shared) (H : Hp) (vs : List V) (Q : VK) (E : XK), Room k (A.deeper (envOfC x (defScope st) s.heap.objs.size f cdv)) → sp vs H Q E →
      ∃ t, PSs (cxOf CX0 P w K mg base N x (defScope st) f cdv A outer s H E).nox (defBody st) t ∧ t { nx := fun _ H' => Q .non H', rt := Q } (start N vs) H) : C8.Cal P w K mg base (k + 1) x sp [] := by
  obtain ⟨f, fd, F, hm, b⟩ := D
  exact ⟨⟨f, fd, ps, [], F.ok S len (fun cdv A outer s H vs Q E hr h => hb f cdv A outer s H vs Q E hr h), hm, F.kp, b, .nil⟩⟩
/-- the same, its own row known (for calls with keywords) -/
def CalF (P : Program) (w : World) (K : PySem.W.Frag) (mg : Str → Option Value) (base : Heap) (k : Nat) (x : Str) (st : Stmt) (ps : List Str) (sp : Sp) : Prop :=
  ∃ f fd, Fun K x x st f fd ∧ mg x = some (.ref f) ∧ FnOk P w K mg base CX0 k f fd ps sp ∧ Binds K fd ps []
theorem calF_of {x : Str} {st : Stmt} {N ps : List Str} {k : Nat} {sp : Sp} (D : Df K mg x st ps) (S : FnScope N ps (defScope st)) (len : ∀ vs H Q E, sp vs H Q E → vs.length = ps.length)
    (hb : ∀ (f : Addr) (cdv : Value) (A : Around) (outer : List Env) (s : Shared) (H : Hp) (vs : List V) (Q : VK) (E : XK), Room k (A.deeper (envOfC x (defScope st) s.heap.objs.size f cdv)) → sp vs H Q E →
      ∃ t, PSs (cxOf CX0 P w K mg base N x (defScope st) f cdv A outer s H E).nox (defBody st) t ∧ t { nx := fun _ H' => Q .non H', rt := Q } (start N vs) H) : CalF P w K mg base (k + 1) x st ps sp := by
  obtain ⟨f, fd, F, hm, b⟩ := D
  exact ⟨f, fd, F, hm, F.ok S len (fun cdv A outer s H vs Q E hr h => hb f cdv A outer s H vs Q E hr h), b⟩
theorem CalF.cal {x : Str} {st : Stmt} {ps : List Str} {k : Nat} {sp : Sp} (c : CalF P w K mg base k x st ps sp) : C8.Cal P w K mg base k x sp [] := by
  obtain ⟨f, fd, F, hm, G, b⟩ := c
  exact ⟨⟨f, fd, ps, [], G, hm, F.kp, b, .nil⟩⟩
/-! ### _law_pen -/
theorem cut_ints (ns : List Int) : ∃ cs : List Int, cutV (ns.map V.int) none (some 63) = cs.map V.int ∧ cs.length ≤ 63 := by
  refine ⟨ns.take 63, ?_, by rw [List.length_take]; omega⟩
  unfold cutV
  rw [HT.sIx_none, show HT.sIx (ns.map V.int).length (ns.map V.int).length (some 63) = min 63 (ns.map V.int).length from HT.sIx_nat _ _ 63]
  rw [List.drop_zero, Nat.sub_zero, List.map_take, List.length_map]
  by_cases h : 63 ≤ ns.length
  · rw [Nat.min_eq_left h]
  · rw [Nat.min_eq_right (by omega), List.take_of_length_le (by rw [List.length_map]; omega), List.take_of_length_le (by rw [List.length_map]; omega)]
def spPen (K : PySem.W.Frag) : Sp := fun vs H Q _ => ∃ (s : Addr) (ns : List Int), vs = [.ref s] ∧ SqL K H s (ns.map V.int) ∧ ∀ (a : PA) H', Pen H' a 0 → Same H H' → Q (.ref a) H'
end
end Lf
namespace Lf
open PySem PySem.Spec PyProof.Rows L2
/-! ### a try that catches, and keeps the exception in a name -/
abbrev dead : Ends := { nx := fun _ _ => False, rt := fun _ _ => False }
/-- the wish: the clause's class; then the suite; then, with the exception known, what follows -/
def wKeep (K : PySem.W.Frag) (c : Value) (i : Nat) (ts : Addr → TS) (go : Addr → Value → Option Addr → L2.St → Hp → Prop) : WX := fun cls d σ H =>
  PySem.W.exmOne K cls c = some true ∧ ∀ a, H a = none → ts a { nx := fun σ' H' => go a cls d (σ'.set i none) H', rt := fun _ _ => False } (σ.set i (some (.ref a))) H
/-- slots are as many as names -/
theorem takes_len {X : Cx} {W : WX} (t : Takes X W) : Takes X (fun cls d σ H => σ.length = X.N.length → W cls d σ H) := fun u s' ⟨a, B, sI, pins, σ, H, cls, d, e, I, nb, up, sky, na, os, ag, ww⟩ =>
  t u s' ⟨a, B, sI, pins, σ, H, cls, d, e, I, nb, up, sky, na, os, ag, ww I.len⟩
section
variable {X : Cx} {pins : List (Addr × Obj)} {σ : L2.St} {H : Hp} {s : Shared}
/-- an exception's object, known from now on -/
theorem pin_in (J : Inv X pins σ H s) {a : Addr} {oe : Obj} {vs : Array Value} (ge : s.heap.get? a = some oe) (dt : oe.data = .fields vs) (na : H a = none) (n1 : a ≠ X.env.locals) (n2 : a ∉ X.fs) : Inv (X.tr ((a, oe) :: (X.pn ++ pins)) X.xe) [] σ H s := by
  refine ⟨J.ok.toTry _ _, J.os, J.bare, J.base, J.loc, J.cell, J.free, J.freeC, fun p hp => ?_, J.hok, J.len⟩
  rw [List.append_nil] at hp
  rcases List.mem_cons.mp hp with rfl | hp
  · refine ⟨ge, na, n1, n2, fun v z => ?_⟩
    have z : oe.data = .cell v := z
    rw [dt] at z
    cases z
  · exact J.pin p hp
theorem pin_out {a : Addr} {oe : Obj} {pn : List (Addr × Obj)} (ok : X.Ok) (J : Inv (X.tr ((a, oe) :: (X.pn ++ pins)) X.xe) pn σ H s) : Inv X pins σ H s :=
  ⟨ok, J.os, J.bare, J.base, J.loc, J.cell, J.free, J.freeC, fun p hp => J.pin p (List.mem_append.mpr (.inl (List.mem_cons_of_mem _ hp))), J.hok, J.len⟩
theorem out_suite {a : Addr} {oe : Obj} {pn : List (Addr × Obj)} (ok : X.Ok) (J : Inv (X.suite a ((a, oe) :: (X.pn ++ pins))) pn σ H s) : Inv (X.tr ((a, oe) :: (X.pn ++ pins)) X.xe) [] σ H s :=
  ⟨ok.toTry _ _, J.os, J.bare, J.base, J.loc, J.cell, J.free, J.freeC, fun p hp => J.pin p (List.mem_append.mpr (.inl (by rw [List.append_nil] at hp; exact hp))), J.hok, J.len⟩
end
section
variable {X : Cx} {x n : Str} {c : Value} {i : Nat} {body suite rest : List Stmt} {b0 : Stmt} {np po pq : Pos} {tb : WX → TS} {ts : Addr → TS} {tr : Addr → Value → Option Addr → TS}
theorem pss_keep (stk : X.stack = X.env :: X.outer) (fr : X.env.frame = some X.env.locals) (nd : X.N.Nodup) (ni : X.N[i]? = some n) (kn : X.env.kindOf n = some .local) (hc : Names X x c)
    (hb : ∀ (W : WX) (pn : List (Addr × Obj)) (xe : Value → Shared → Prop), Takes (X.tr pn xe) W → PSs (X.tr pn xe) body (tb W))
    (hsu : ∀ (a : Addr) (oe : Obj) (pn : List (Addr × Obj)), PSs (X.suite a ((a, oe) :: pn)) (b0 :: suite) (ts a))
    (hre : ∀ (a : Addr) (oe : Obj) (cls : Value) (d : Option Addr) (pn : List (Addr × Obj)), Zc cls d oe → (∃ vs, oe.data = .fields vs) → PSs (X.tr ((a, oe) :: pn) X.xe) rest (tr a cls d)) :
    PSs X (.Try body [.ExceptHandler (some (.Name x np)) (some n) (b0 :: suite) pq] [] [] po :: rest) (fun D σ H => tb (wKeep X.K c i ts (fun a cls d σ' H' => tr a cls d D σ' H')) dead σ H) := by
  refine ⟨fun pins s σ H D I h => wpAny_execs_cons (wpAny_Try_except ?_)⟩
  have ok := I.ok
  have frm : X.A.frames = some (X.env :: X.outer) := by rw [ok.frames, stk]
  refine wpAny_mono ((hb (wKeep X.K c i ts (fun a cls d σ' H' => tr a cls d D σ' H')) (X.pn ++ pins) _ (fun u s' air => ?_)).run [] s σ H dead (I.toTry _) h) (fun f s1 z => ?_) (fun e s1 he => he)
  · obtain ⟨a, B, sI, pins', σ1, H1, cls, d, rfl, J0, nb, up, sky, na, os, ag, em, go⟩ := air
    have J : Inv X pins σ1 H1 sI := J0.ofTry ok
    rw [stk] at sky
    refine Sky.land Zc.steady frm fr sky fun h3 f3 u3 => ?_
    have J3 : Inv X pins σ1 H1 { s' with heap := h3 } := J.landed nb f3.1 (up.trans u3) os ag
    obtain ⟨o3, v3, g3, z3, d3⟩ := f3.there
    have nf : a ∉ frs (X.env :: X.outer) := fun hm => by
      obtain ⟨_, o', e', hn⟩ := f3.2.2.1.mem hm
      rw [g3] at e'
      cases e'
      exact hn _ d3
    have n1 : a ≠ X.env.locals := fun z => nf (List.mem_filterMap.mpr ⟨X.env, List.mem_cons_self, by rw [fr, z]⟩)
    have n2 : a ∉ X.fs := fun hm => by
      obtain ⟨e, he, q⟩ := List.mem_filterMap.mp hm
      exact nf (List.mem_filterMap.mpr ⟨e, List.mem_cons_of_mem _ he, q⟩)
    have S3 := J3.suite g3 d3 na n1 n2
    refine wpAny_handleBy_cons (codeAny_handlers_test ?_) (by intro q; cases q)
    have lt : PySem.W.Looks (model X.prog X.w) h3 (typeOf (.ref a)) cls := fun A Q E s k q => wpAny_typeOf_ref (k _ _ g3) (by rw [z3.1]; exact q)
    have lm := PySem.W.exm_one (M := model X.prog X.w) J3.kIn lt em
    have seen : ∀ {Q : Value → Shared → Prop} {E : Value → Shared → Prop}, Q c { s' with heap := h3 } → wpAny (model X.prog X.w) (X.A.mark (some (.ref a))) (eval (.Name x np) X.env) Q E { s' with heap := h3 } := fun {Q E} q => by
      obtain ⟨hg, hd, hm | ⟨hm, hv, hw⟩⟩ := hc
      · exact ld_glob S3 hg hm q hd
      · exact ld_blt S3 hg hm hv q hw hd
    refine seen (lm.here (codeAny_handlers_suite_as (HandSPX.lands_againZ f3 fun h4 f4 u4 => ?_)))
    have J4 : Inv X pins σ1 H1 { s' with heap := h4 } := J.landed nb f4.1 ((up.trans u3).trans u4) os ag
    obtain ⟨o4, v4, g4, z4, d4⟩ := f4.there
    have S4 := J4.suite g4 d4 na n1 n2
    refine store_ok (X := X.suite a ((a, o4) :: (X.pn ++ pins))) (v := .ref a) S4 nd ni (.inl kn) rfl (fun s5 S5 => ?_) (.inr kn)
    refine wpAny_mono ((hsu a o4 (X.pn ++ pins)).run [] s5 _ H1 _ S5 (go a na)) (fun f s6 q => ?_) (fun _ _ z => False.elim z)
    cases f with
    | next =>
      obtain ⟨σ6, H6, S6, q6⟩ := q
      refine gone_ok (X := X.tr ((a, o4) :: (X.pn ++ pins)) X.xe) (out_suite ok S6) nd ni kn fun s7 J7 => ?_
      refine wpAny_mono ((hre a o4 cls d (X.pn ++ pins) z4 ⟨_, d4⟩).run [] s7 _ H6 D J7 q6) (fun f s8 r => ?_) (fun _ _ z => z)
      cases f with
      | next =>
        obtain ⟨σ8, H8, J8, q8⟩ := r
        exact ⟨σ8, H8, pin_out ok J8, q8⟩
      | brk =>
        obtain ⟨σ8, H8, J8, q8⟩ := r
        exact ⟨σ8, H8, pin_out ok J8, q8⟩
      | cont =>
        obtain ⟨σ8, H8, J8, q8⟩ := r
        exact ⟨σ8, H8, pin_out ok J8, q8⟩
      | ret u =>
        obtain ⟨v8, σ8, H8, J8, r8, q8⟩ := r
        exact ⟨v8, σ8, H8, pin_out ok J8, r8, q8⟩
    | brk =>
      obtain ⟨_, _, _, q6⟩ := q
      exact False.elim q6
    | cont =>
      obtain ⟨_, _, _, q6⟩ := q
      exact False.elim q6
    | ret u =>
      obtain ⟨_, _, _, _, _, q6⟩ := q
      exact False.elim q6
  · cases f with
    | next =>
      obtain ⟨_, _, _, q6⟩ := z
      exact False.elim q6
    | brk =>
      obtain ⟨_, _, _, q6⟩ := z
      exact False.elim q6
    | cont =>
      obtain ⟨_, _, _, q6⟩ := z
      exact False.elim q6
    | ret u =>
      obtain ⟨_, _, _, _, _, q6⟩ := z
      exact False.elim q6
end
/-! ### isinstance of a known exception -/
/-- by one class, or by a tuple of classes -/
def rIsK (K : PySem.W.Frag) (D a : Addr) : List V → Hp → VK → Prop := fun xs H Q => ∃ (y : V) (b : Bool), xs = [.ref a, y] ∧ Q (.bl b) H ∧
  ((∃ cv, (∀ u, RelV y u → u = cv) ∧ PySem.W.kitOne K (.ref D) cv = some b) ∨ ∃ (tp : Addr) (cs : List Addr), y = .ref tp ∧ SqT K H tp (cs.map V.ref) ∧ PySem.W.kitAny K (.ref D) (cs.map Value.ref) = some b)
theorem vals_refs : ∀ {cs : List Addr} {us : List Value}, Vals (cs.map V.ref) us → us = cs.map Value.ref
  | [], _, r => by cases r; rfl
  | c :: cs, _, r => by
    cases r with
    | cons r1 r2 =>
      rw [vals_refs r2]
      cases r1
      rfl
theorem call_isK {X : Cx} {a D : Addr} {oe : Obj} {pn : List (Addr × Obj)} {xe : Value → Shared → Prop} (C : ExcC X.K D) (hz : Zc (.ref D) none oe) (hf : ∃ vs, oe.data = .fields vs) : CallR (X.tr ((a, oe) :: pn) xe) (.builtin "isinstance") (rIsK X.K D a) := by
  intro pins s σ H xs us Q I r h
  obtain ⟨y, b, rfl, q, h⟩ := h
  cases r with
  | cons rx rr =>
    cases rr with
    | cons rt rr =>
      cases rr
      cases rx
      obtain ⟨ge, _⟩ := I.pin (a, oe) (List.mem_append.mpr (.inl List.mem_cons_self))
      obtain ⟨vs, hv⟩ := hf
      have J : PySem.W.InstAt s.heap a oe D none := by
        obtain ⟨oc, od, oda, osl⟩ := oe
        obtain ⟨h1, h2⟩ := hz
        dsimp only at h1 h2 hv
        subst h1 h2 hv
        exact ⟨ge, rfl, rfl, trivial⟩
      have kx := PySem.W.handS_kitx_exc (x := a) (ox := oe) C.hg C.hk C.hs C.hd C.ha C.hn C.ht C.hm
      rcases h with ⟨cv, hcv, e⟩ | ⟨tp, cs, rfl, hT, e⟩
      · have ec := hcv _ rt
        subst ec
        exact PySem.W.kia_one kx I.kIn J e (fun z => nomatch z) fun tk => ⟨.bl b, H, I.kept (t' := tk) fun _ _ z => z, rfl, q⟩
      · obtain ⟨its, rv, ⟨o, e1, e2, nn, e3⟩, _⟩ := I.tuple hT
        have ei := vals_refs rv
        subst ei
        cases rt
        obtain ⟨oc, od, oda, osl⟩ := o
        dsimp only at e2 e3
        subst e2 e3
        exact PySem.W.kia_tup kx I.kIn J e1 e (fun z => nomatch z) fun tk => ⟨.bl b, H, I.kept (t' := tk) fun _ _ z => z, rfl, q⟩
/-! ### an own exception without arguments, made -/
theorem pmk_none {X : Cx} {C : Addr} {bmB : List Value} {B newId initId : String} {x : Str} {p po : Pos} (F : ExcBaseFacts B newId initId bmB) (q : PySem.W.excIn X.K C bmB newId = true) (gC : X.mg x = some (.ref C)) (kC : PySem.W.keepIn X.K (.ref C) = true) (r : Raises X (.ref C)) (hg : Gl X x)
    (hdb : (x == ("__debug__" : Str)) = false := by decide) : PMk X (.Call (.Name x p) [] [] po) (fun _ H Q => Q (.ref C) none H) := by
  intro pins s σ H Q I h
  refine wpAny_Call_Name_kw (ld_glob I hg gC ?_ hdb)
  refine PySem.W.callWith_K0 I.kIn kC ?_
  show wpAny _ _ (call (.ref C) []) _ _ _
  obtain ⟨bm, N, nm, qn, bs, hdct, sn, sub, ab, col, dd, k0, k1, k2, k3, k5, mN, hC, hN, hni, T⟩ := exc_obj I.kIn q
  refine wpAny_call_exc_subT F T hC hN hni (fun h' e hm => ?_) (by show 0 ≤ sizeLine; omega)
  exact mk_of I hm r h (I.hok.gone hm.new)
/-! ### what the top tells of the class NoEvents, at C, and of the classes beside it -/
structure NoEv (K : PySem.W.Frag) (mg : Str → Option Value) (C : Addr) : Prop where
  gC : mg "NoEvents" = some (.ref C)
  kC : PySem.W.keepIn K (.ref C) = true
  xi : PySem.W.excIn K C [.type "ValueError", .type "Exception", .type "BaseException", .type "object"] "ValueError.__new__" = true
  ex : ExcC K C
  ty : PySem.W.typeIn K (.ref C) = some (.type "type")
  sf : PySem.W.subIn K (.ref C) (.ref C) = some true
structure NoEvB (K : PySem.W.Frag) (mg : Str → Option Value) (C L N R E I : Addr) : Prop where
  gL : mg "LeapfitError" = some (.ref L)
  gN : mg "InvalidNumber" = some (.ref N)
  gR : mg "InvalidRule" = some (.ref R)
  gE : mg "NoRule" = some (.ref E)
  gI : mg "InvalidCounts" = some (.ref I)
  bV : mg "ValueError" = none
  oL : PySem.W.kitOne K (.ref C) (.ref L) = some true
  oV : PySem.W.kitOne K (.ref C) (.type "ValueError") = some true
  oN : PySem.W.kitAny K (.ref C) [.ref N, .ref R, .ref E, .ref I] = some false
theorem NoEv.raises {X : Cx} {C : Addr} (T : NoEv X.K X.mg C) : Raises X (.ref C) := raises_own T.ex.hs T.ty
theorem NoEv.meets {K : PySem.W.Frag} {mg : Str → Option Value} {C : Addr} (T : NoEv K mg C) : PySem.W.exmOne K (.ref C) (.ref C) = some true := PySem.W.exm_ref T.ex.hs T.ex.hd T.ty T.sf
/-- a def that raises, by its name -/
def CalX (P : Program) (w : World) (K : PySem.W.Frag) (mg : Str → Option Value) (base : Heap) (k : Nat) (x : Str) (sp : Sp) : Prop :=
  ∃ f fd ps, FnOk P w K mg base (L2.CX P w) k f fd ps sp ∧ mg x = some (.ref f) ∧ PySem.W.keepIn K (.ref f) = true ∧ Binds K fd ps []
theorem calx_of {P : Program} {w : World} {K : PySem.W.Frag} {mg : Str → Option Value} {base : Heap} {x : Str} {st : Stmt} {N ps : List Str} {k : Nat} {sp : Sp} (D : Df K mg x st ps) (S : FnScope N ps (defScope st)) (len : ∀ vs H Q E, sp vs H Q E → vs.length = ps.length)
    (hb : ∀ (f : Addr) (cdv : Value) (A : Around) (outer : List Env) (s : Shared) (H : Hp) (vs : List V) (Q : VK) (E : XK), Room k (A.deeper (envOfC x (defScope st) s.heap.objs.size f cdv)) → sp vs H Q E →
      ∃ t, PSs (cxOf (L2.CX P w) P w K mg base N x (defScope st) f cdv A outer s H E) (defBody st) t ∧ t { nx := fun _ H' => Q .non H', rt := Q } (start N vs) H) : CalX P w K mg base (k + 1) x sp := by
  obtain ⟨f, fd, F, hm, b⟩ := D
  exact ⟨f, fd, ps, F.okX S len (fun cdv A outer s H vs Q E hr h => hb f cdv A outer s H vs Q E hr h), hm, F.kp, b⟩
section
variable {X : Cx} {x : Str} {sp : Sp} {W : WX} {j k : Nat} {e : Expr} {es : List Expr} {t : TA} {p po : Pos}
/-- it is called where what it raises is taken -/
theorem pe_cx (c : CalX X.prog X.w X.K X.mg X.base k x sp) (hr : Room j X.A) (hk : k ≤ j) (tk : Takes X W) (hg : Gl X x) (ha : L2.PA X (e :: es) t)
    (hdb : (x == ("__debug__" : Str)) = false := by decide) (he : starEach (e :: es) X.env = (false, eval e X.env) :: starEach es X.env := by rfl) (hpl : (backTo po (starEach es X.env)).any (·.1) = false := by rfl) :
    PE X (.Call (.Name x p) (e :: es) [] po) (tCallS sp (WE W) t) := by
  obtain ⟨f, fd, ps, F, hm, kp, b⟩ := c
  exact pe_callS F (hr.mono hk) hg hm kp b (fun σ => passAt tk σ) ha hdb he hpl
end
end Lf
namespace Lf
open PySem PySem.Spec PyProof.Rows L2
/-! ### a def called where no repr is under way -/
structure FnG (P : Program) (w : World) (K : PySem.W.Frag) (mg : Str → Option Value) (base : Heap) (k : Nat) (f : Addr) (fd : FuncData) (ps : List Str) (sp : Sp) : Prop where
  lenG : ∀ vs H Q E, sp vs H Q E → vs.length = ps.length
  runG : ∀ (A : Around) (out : List Env) (sh : Shared) (H : Hp) (ar : Args) (us : List Value) (vs : List V) (Q : VK) (E : XK), Room k A → A.guards = some [] → Env0 P w K mg base A out sh H → BindsTo sh fd ar (ps.zip us) → Vals vs us → sp vs H Q E →
    codeAny (model P w) A (.call (.ref f) ar) (CR CX0 out P w H sh Q E) sh
theorem fnG_of {P : Program} {w : World} {K : PySem.W.Frag} {mg : Str → Option Value} {base : Heap} {x qual : Str} {st : Stmt} {f : Addr} {fd : FuncData} {N ps : List Str} {k : Nat} {sp : Sp} (F : Fun K x qual st f fd) (S : FnScope N ps (defScope st)) (ln : ∀ vs H Q E, sp vs H Q E → vs.length = ps.length)
    (bd : ∀ (cdv : Value) (A : Around) (out : List Env) (sh : Shared) (H : Hp) (vs : List V) (Q : VK) (E : XK), Room k (A.deeper (envOfC qual (defScope st) sh.heap.objs.size f cdv)) → A.guards = some [] → sp vs H Q E →
      ∃ t, PSs (cxOf CX0 P w K mg base N qual (defScope st) f cdv A out sh H E).nox (defBody st) t ∧ t { nx := fun _ H' => Q .non H', rt := Q } (start N vs) H) : FnG P w K mg base (k + 1) f fd ps sp := by
  obtain ⟨oc, od, kV, doc, pm, an, cdv, ct, osl, rfl, lkp, cin⟩ := F.ex
  refine ⟨ln, fun A out sh H ar us vs Q E rm gd en bnd rel pr => ?_⟩
  have lv := ln _ _ _ _ pr
  have inK : K.In sh.heap := en.mod.kin.keeps fun b o e => (en.bs b o e).1
  have nol : sh.heap.NoLimit := en.mod.nolimit.keeps fun b o e => (en.bs b o e).1
  have knd : ∀ y ∈ ps.zip us, (defScope st).names.lookup y.1 = some .local ∨ ((defScope st).names.lookup y.1 = some .cell ∧ ((cellsFrom (sh.heap.objs.size + 1) (defScope st).names []).lookup y.1).isSome = true) := fun ⟨n, v⟩ hy => by
    rcases S.par n (List.of_mem_zip hy).1 with z | z
    · exact .inl z
    · exact .inr ⟨z, PySem.W.cellsFrom_some _ _ _ (.inl z)⟩
  refine codeAny_call_function rm.depth (inK _ _ lkp) rfl S.co S.gen rfl (PySem.W.codeRec_of inK cin) (bnd _ _ _ _ ?_)
  refine wpAny_newFunctionEnv_cells S.kind knd fun env he sh1 x1 => ?_
  subst he
  refine ⟨nol.keeps x1.toInCall.keep, codeAny_func ?_⟩
  obtain ⟨t, ht, hq⟩ := bd cdv A out sh H vs Q E (rm.deeper _) gd pr
  have inv := inv_start (CX := CX0) (P := P) (w := w) (K := K) (mg := mg) (base := base) (E := E) (f := f) (cd := cdv) (qual := qual) S rm.hd en lv rel x1
  refine wpAny_mono (ht.nox.run [] sh1 (start N vs) H _ inv hq) (fun fl sh' hs => ?_) fun e sh' hs => hs
  cases fl with
  | ret u =>
    obtain ⟨v, σ', H', J, rv, z⟩ := hs
    exact ⟨v, H', J.os, J.bare, J.base, J.hok, rv, z⟩
  | next =>
    obtain ⟨σ', H', J, z⟩ := hs
    exact ⟨V.non, H', J.os, J.bare, J.base, J.hok, rfl, z⟩
  | brk =>
    obtain ⟨_, _, _, z⟩ := hs
    exact False.elim z
  | cont =>
    obtain ⟨_, _, _, z⟩ := hs
    exact False.elim z
/-- the law called, at the heap behind the top -/
theorem lawG {P : Program} {w : World} {K : PySem.W.Frag} {mg mb : Str → Option Value} {k : Nat} {fa ad : Addr} {fd : FuncData} {x : Str} {sp : Sp} {sh : Shared} {vs : List Value} {ns : List Int}
    (inK : K.In sh.heap) (nsm : sh.heap.Ns mainGlobals mg) (nsb : sh.heap.Ns builtinsNs mb) (bb : ∀ x : Str, x ≠ "__name__" → mb x = bootBuiltins x) (nol : sh.heap.NoLimit) (gn : sh.gens = #[])
    (ga : sh.heap.get? ad = some { cls := .type "list", data := .seq vs.toArray }) (isI : IntsAre vs ns) (len : ns.length ≤ sizeLine) (rm : Room k callerA)
    (F : ∀ base : Heap, K.In base → base.Ns mainGlobals mg → FnG P w K mg base k fa fd [x] sp) (bnd : ∀ (s : Shared) (u : Value), BindsTo s fd ⟨[u], []⟩ [(x, u)])
    (pr : ∀ H : Hp, SqL K H ad (ns.map V.int) → sp [.ref ad] H (fun v _ => v = .bl true) fun _ _ _ => False) :
    codeAny (model P w) callerA (.call (.ref fa) ⟨[.ref ad], []⟩) (fun r sh' => r = .ok (.ret (.bool true)) ∧ OldK sh.heap sh'.heap ∧ sh'.os = sh.os ∧ AllBare sh'.gens) sh := by
  have rel := vals_ints isI
  have lnv := isI.length
  have main : ∀ H : Hp, Only H → SqL K H ad (ns.map V.int) → HOk P w H sh.heap → (∀ b, H b ≠ none → b = ad) → (H ad ≠ none → K.lookup ad = none) →
      codeAny (model P w) callerA (.call (.ref fa) ⟨[.ref ad], []⟩) (fun r sh' => r = .ok (.ret (.bool true)) ∧ OldK sh.heap sh'.heap ∧ sh'.os = sh.os ∧ AllBare sh'.gens) sh := by
    intro H only seq hok one nk
    have lay : ∀ {b : Addr} {o : Obj}, sh.heap.get? b = some o → H b = none → (hidT sh.heap H).get? b = some o := fun e n => hidT_get e n
    have nod : ∀ {b : Addr} {o : Obj} {es : Array DictEntry} {ep : Nat}, sh.heap.get? b = some o → o.data = .dict es ep → H b = none := fun {b o es ep} e d => by
      cases z : H b with
      | none => rfl
      | some u =>
        have eb : b = ad := one b (by rw [z]; simp)
        subst eb
        rw [ga] at e
        cases e
        exact (nomatch (show Data.seq vs.toArray _ = Data.dict es ep from d))
    have nsL : ∀ {b : Addr} {m : Str → Option Value}, sh.heap.Ns b m → (hidT sh.heap H).Ns b m := fun {b m} ⟨o, es, ep, e, d, r⟩ => ⟨o, es, ep, lay e (nod e d), d, r⟩
    have inB : K.In (hidT sh.heap H) := fun b o e => lay (inK b o e) (by
      cases z : H b with
      | none => rfl
      | some u =>
        have eb : b = ad := one b (by rw [z]; simp)
        subst eb
        rw [nk (by rw [z]; simp)] at e
        cases e)
    have md : Mod K mg (hidT sh.heap H) := ⟨inB, nsL nsm, ⟨mb, nsL nsb, bb⟩, let ⟨mc, h1, h2⟩ := nol; ⟨mc, nsL h1, h2⟩⟩
    have en : Env0 P w K mg (hidT sh.heap H) callerA [] sh H := ⟨rfl, md, fun b o e => of_hidT e, Nat.le_of_eq (hidT_size _ _), trivial, fun b hb => absurd (show b ∈ ([] : List Addr) from hb) (by simp), hok, .of_eq gn⟩
    refine codeAny_mono ((F _ inB (nsL nsm)).runG callerA [] sh H ⟨[.ref ad], []⟩ [.ref ad] [.ref ad] _ _ rm rfl en (bnd sh (.ref ad)) (.cons rfl .nil) (pr H seq)) fun r sh' h => ?_
    match r, h with
    | .error e, h => exact (show False from h).elim
    | .ok .next, h => exact False.elim h
    | .ok .brk, h => exact False.elim h
    | .ok .cont, h => exact False.elim h
    | .ok (.ret u), h =>
      obtain ⟨v, H', os, bare, un, hok', rv, z⟩ := h
      have z' : v = .bl true := z
      subst z'
      have eu : u = Value.bool true := rv
      subst eu
      refine ⟨rfl, OldK.of_keep (fun b o e => ?_), os, bare⟩
      cases zb : H b with
      | none => exact un.keep b o e zb (fun z => absurd (show b ∈ ([] : List Addr) from z) (by simp)) (by simp)
      | some u =>
        rcases only b with z | ⟨ob, xs, z⟩
        · rw [zb] at z
          cases z
        · have e1 := (hok b _ z).1
          have e2 := (hok' b _ (un.frzs b ob _ z)).1
          rw [e] at e1
          cases e1
          exact e2
  cases hk : K.lookup ad with
  | some o =>
    have e := inK ad o hk
    rw [ga] at e
    cases e
    exact main (fun _ => none) (fun _ => .inl rfl) (.inr ⟨_, vs.toArray, _, hk, rfl, rfl, rfl, by rw [List.size_toArray, lnv]; exact len, by simpa using rel⟩) (fun b u z => nomatch (show (none : Option HO) = some u from z)) (fun b z => absurd rfl z) (fun z => absurd rfl z)
  | none =>
    refine main (fun b => if b = ad then some (.frz { cls := .type "list", data := .seq vs.toArray } (.lst (ns.map V.int))) else none) (fun b => ?_) (.inl (.inr ⟨{ cls := .type "list", data := .seq vs.toArray }, if_pos rfl⟩)) (fun b u z => ?_) (fun b z => ?_) (fun _ => hk)
    · by_cases eb : b = ad
      · exact .inr ⟨_, _, if_pos eb⟩
      · exact .inl (if_neg eb)
    · by_cases eb : b = ad
      · subst eb
        have z' := (if_pos rfl).symm.trans z
        cases z'
        exact ⟨ga, by rw [List.length_map]; exact len, vs, _, rel, ga⟩
      · exact (nomatch (if_neg eb).symm.trans z)
    · by_cases eb : b = ad
      · exact eb
      · exact absurd (if_neg eb) z
theorem walkG {l : PySem.W.OpenLaw} {n k : Nat} {q : Program} {loose : List Str} {XP : (Str → Option Value) → Heap → Prop} {YP : World → Heap → Prop} {d : DefRec} {K : Params → PySem.W.Frag} {sp : World → Sp} {x : Str}
    (most : l.most = some n) (nsz : n ≤ sizeLine) (nodf : d.params.defaults = []) (rm : Room k callerA) (inY : ∀ (w : World) (h : Heap), YP w h → (K w.params).In h)
    (F : ∀ (w : World) (mg : Str → Option Value) (fa : Addr) (h : Heap), (K w.params).In h → h.Ns mainGlobals mg → mg d.name = some (.ref fa) → ∃ fd : FuncData, (∀ (s : Shared) (u : Value), BindsTo s fd ⟨[u], []⟩ [(x, u)]) ∧ ∀ base : Heap, (K w.params).In base → base.Ns mainGlobals mg → FnG l.prog w (K w.params) mg base k fa fd [x] (sp w))
    (pr : ∀ (w : World) (H : Hp) (a : Addr) (ns : List Int), ns.length ≤ n → SqL (K w.params) H a (ns.map V.int) → sp w [.ref a] H (fun v _ => v = .bl true) fun _ _ _ => False) : PySem.W.WalkO q loose XP YP l.row.toRowW d [] (fun f vs => PySem.call f vs) := by
  refine Att.attach_call most nodf fun w s₀ sh mg mb fa o pm cd doc a vs ns G Y ho hd hcd hmg hobj hints hlen hg => ?_
  have inK := inY w _ Y
  obtain ⟨fd, hb, hF⟩ := F w mg fa _ inK G.T.g hmg
  exact lawG inK G.T.g G.T.b G.T.builtins G.T.nolimit hg hobj hints (Nat.le_trans hlen nsz) rm hF hb (fun H hS => pr w H a ns hlen hS)
/-! ### repr of data -/
theorem repr_data {X : Cx} (gd : X.A.guards = some []) (hu : X.A.units + 70 < cLine) : CallR X (.builtin "repr") (fun xs H Q => ∃ (a : Addr) (d : PyData), xs = [.ref a] ∧ Dp X.K H (.ref a) d ∧ d.showable = true ∧ d.hasDict = false ∧ d.depth ≤ 60 ∧ d.shown.length ≤ sizeLine ∧ Q (.str d.shown) H) := by
  intro pins s σ H xs us Q I rel h
  obtain ⟨a, d, rfl, dp, sw, nd, dd, sz, hq⟩ := h
  obtain ⟨u, hu1, ru⟩ := vals1 rel
  subst hu1
  obtain ⟨as, rd⟩ := Dp.reads I d (.ref a) u dp ru
  have eu : u = Value.ref a := ru
  subst eu
  refine repr_of_reads' rd sw (fun z => by rw [nd] at z; cases z) gd (by omega) (fun _ _ e => e) (fun h' u tk hk => ?_) sz
  exact ⟨.str d.shown, H, I.kept hk, ⟨u, rfl⟩, hq⟩
theorem show_fits (ds : List Int) (hb : ∀ z ∈ ds, Bd 1900 z) (hl : ds.length ≤ 100) : (PyData.tuple (ds.map PyData.int)).showable = true ∧ (PyData.tuple (ds.map PyData.int)).hasDict = false ∧ (PyData.tuple (ds.map PyData.int)).depth ≤ 60 ∧ (PyData.tuple (ds.map PyData.int)).shown.length ≤ sizeLine := by
  have lg : ∀ z ∈ ds, z.natAbs.log2 < 1920 := fun z hz => ((hb z hz).mono (show 1900 ≤ 1920 by decide)).log (by decide)
  have key : ∀ l : List Int, (∀ z ∈ l, z.natAbs.log2 < 1920) → PyData.showableAll (l.map PyData.int) = true ∧ PyData.hasDictAll (l.map PyData.int) = false ∧ PyData.depthAll (l.map PyData.int) = 0 ∧ ((PyData.shownAll (l.map PyData.int)).map (·.length)).sum ≤ 1921 * l.length ∧ (PyData.shownAll (l.map PyData.int)).length = l.length := by
    intro l
    induction l with
    | nil => intro _; exact ⟨rfl, rfl, rfl, by simp [PyData.shownAll], rfl⟩
    | cons z r ih =>
      intro h
      obtain ⟨i1, i2, i3, i4, i5⟩ := ih fun y hy => h y (List.mem_cons_of_mem _ hy)
      have hz := h z (List.mem_cons_self ..)
      refine ⟨?_, ?_, ?_, ?_, ?_⟩
      · simp [PyData.showableAll, PyData.showable, hz, i1]
      · simp [PyData.hasDictAll, PyData.hasDict, i2]
      · simp [PyData.depthAll, PyData.depth, i3]
      · have := PyProof.Rows.int_text_len_1921 hz
        simp only [List.map_cons, PyData.shownAll, PyData.shown, List.sum_cons, List.length_cons]
        omega
      · simp [PyData.shownAll, i5]
  obtain ⟨k1, k2, k3, k4, k5⟩ := key ds lg
  refine ⟨by simpa [PyData.showable] using k1, by simpa [PyData.hasDict] using k2, by simp [PyData.depth, k3], ?_⟩
  have := tupleText_len_le (PyData.shownAll (ds.map PyData.int))
  rw [k5] at this
  show (tupleText (PyData.shownAll (ds.map PyData.int))).length ≤ sizeLine
  rw [sizeLine_eq]
  omega
theorem dpAll_ints {K : PySem.W.Frag} {H : Hp} : ∀ ds : List Int, DpAll K H (ds.map V.int) (ds.map PyData.int)
  | [] => .nil
  | c :: r => .cons (.int c) (dpAll_ints r)
/-- repr of a tuple of ints -/
theorem rp_ints {K : PySem.W.Frag} {H : Hp} {a : Addr} {Q : VK} (ds : List Int) (e : H a = some (.tup (ds.map V.int))) (hb : ∀ z ∈ ds, Bd 1900 z) (hl : ds.length ≤ 100) (h : Q (.str (PyData.tuple (ds.map PyData.int)).shown) H) :
    ∃ (a' : Addr) (d : PyData), [V.ref a] = [.ref a'] ∧ Dp K H (.ref a') d ∧ d.showable = true ∧ d.hasDict = false ∧ d.depth ≤ 60 ∧ d.shown.length ≤ sizeLine ∧ Q (.str d.shown) H := by
  obtain ⟨f1, f2, f3, f4⟩ := show_fits ds hb hl
  exact ⟨a, _, rfl, Dp.tup (SqT.of e) (dpAll_ints ds), f1, f2, f3, f4, h⟩
end Lf
namespace Lf
open PySem PySem.Spec PyProof.Rows L2
/-! ### guards and a table of code objects together -/
theorem lawGT {P : Program} {w : World} {K : PySem.W.Frag} {mg mb : Str → Option Value} {k : Nat} {fa ad cT PT : Addr} {fd : FuncData} {x : Str} {sp : Sp} {sh : Shared} {vs : List Value} {ns : List Int}
    (inK : K.In sh.heap) (nsm : sh.heap.Ns mainGlobals mg) (nsb : sh.heap.Ns builtinsNs mb) (bb : ∀ x : Str, x ≠ "__name__" → mb x = bootBuiltins x) (nol : sh.heap.NoLimit) (gn : sh.gens = #[])
    (tP : sh.heap.get? PT = some { cls := .none, data := .fields #[] }) (nP : K.lookup PT = none) (hC : PySem.W.CodeHd sh.heap cT PT)
    (bM : ∃ (bm : Addr) (ob : Obj), mg "__builtins__" = some (.ref bm) ∧ bm ≠ builtinsNs ∧ sh.heap.get? bm = some ob ∧ ob.cls = .type "module" ∧ ob.dict = some builtinsNs ∧ ob.data = .plain)
    (ga : sh.heap.get? ad = some { cls := .type "list", data := .seq vs.toArray }) (isI : IntsAre vs ns) (len : ns.length ≤ sizeLine) (rm : Room k callerA)
    (F : ∀ base : Heap, K.In base → base.Ns mainGlobals mg → LamX.TabB base mg cT PT → FnG P w K mg base k fa fd [x] sp) (bnd : ∀ (s : Shared) (u : Value), BindsTo s fd ⟨[u], []⟩ [(x, u)])
    (pr : ∀ H : Hp, H PT = some (.tbl #[]) → SqL K H ad (ns.map V.int) → sp [.ref ad] H (fun v _ => v = .bl true) fun _ _ _ => False) :
    codeAny (model P w) callerA (.call (.ref fa) ⟨[.ref ad], []⟩) (fun r sh' => r = .ok (.ret (.bool true)) ∧ OldK sh.heap sh'.heap ∧ sh'.os = sh.os ∧ AllBare sh'.gens) sh := by
  have rel := vals_ints isI
  have lnv := isI.length
  have nab : ¬ ad = PT := fun z => by
    rw [z, tP] at ga
    cases ga
  have main : ∀ H : Hp, H PT = some (.tbl #[]) → (∀ b, H b = none ∨ b = PT ∨ ∃ o xs, H b = some (.frz o (.lst xs))) → SqL K H ad (ns.map V.int) → HOk P w H sh.heap → (∀ b, H b ≠ none → b = ad ∨ b = PT) → (H ad ≠ none → K.lookup ad = none) →
      codeAny (model P w) callerA (.call (.ref fa) ⟨[.ref ad], []⟩) (fun r sh' => r = .ok (.ret (.bool true)) ∧ OldK sh.heap sh'.heap ∧ sh'.os = sh.os ∧ AllBare sh'.gens) sh := by
    intro H hT only seq hok one nk
    have lay : ∀ {b : Addr} {o : Obj}, sh.heap.get? b = some o → H b = none → (hidT sh.heap H).get? b = some o := fun e n => hidT_get e n
    -- what is no list and no empty record is not tracked
    have off : ∀ {b : Addr} {o : Obj}, sh.heap.get? b = some o → (∀ zs m, o.data ≠ .seq zs m) → o.data ≠ .fields #[] → H b = none := fun {b o} e n1 n2 => by
      cases z : H b with
      | none => rfl
      | some u =>
        rcases one b (by rw [z]; simp) with eb | eb
        · rw [eb, ga] at e
          cases e
          exact absurd rfl (n1 _ _)
        · rw [eb, tP] at e
          cases e
          exact absurd rfl n2
    have nsL : ∀ {b : Addr} {m : Str → Option Value}, sh.heap.Ns b m → (hidT sh.heap H).Ns b m := fun {b m} ⟨o, es, ep, e, d, r⟩ =>
      ⟨o, es, ep, lay e (off e (fun zs m z => by rw [d] at z; cases z) (fun z => by rw [d] at z; cases z)), d, r⟩
    have inB : K.In (hidT sh.heap H) := fun b o e => lay (inK b o e) (by
      cases z : H b with
      | none => rfl
      | some u =>
        rcases one b (by rw [z]; simp) with eb | eb
        · subst eb
          rw [nk (by rw [z]; simp)] at e
          cases e
        · rw [eb, nP] at e
          cases e)
    have md : Mod K mg (hidT sh.heap H) := ⟨inB, nsL nsm, ⟨mb, nsL nsb, bb⟩, let ⟨mc, h1, h2⟩ := nol; ⟨mc, nsL h1, h2⟩⟩
    have gP : ¬ mainGlobals = PT := fun z => by
      obtain ⟨o, es, ep, e, d, _⟩ := nsm
      rw [z, tP] at e
      cases e
      cases d
    have tb : LamX.TabB (hidT sh.heap H) mg cT PT := by
      refine ⟨?_, ?_, gP⟩
      · obtain ⟨o, us, fi, tf, fl, tg, iF, tx, tt, e1, r1, r2, r3, rr⟩ := hC
        refine ⟨o, us, fi, tf, fl, tg, iF, tx, tt, lay e1 (off e1 (fun zs m z => by rw [r2] at z; cases z) (fun z => ?_)), r1, r2, r3, rr⟩
        rw [r2] at z
        cases z
        simp at r3
      · obtain ⟨bm, ob, b1, b2, b3, b4, b5, b6⟩ := bM
        refine ⟨bm, ob, b1, b2, fun z => ?_, fun z => ?_, lay b3 (off b3 (fun zs m z => by rw [b6] at z; cases z) (fun z => by rw [b6] at z; cases z)), b4, b5, b6⟩
        · obtain ⟨o, es, ep, e, d, _⟩ := nsm
          rw [z, e] at b3
          cases b3
          rw [d] at b6
          cases b6
        · rw [z, tP] at b3
          cases b3
          cases b6
    have en : Env0 P w K mg (hidT sh.heap H) callerA [] sh H := ⟨rfl, md, fun b o e => of_hidT e, Nat.le_of_eq (hidT_size _ _), trivial, fun b hb => absurd (show b ∈ ([] : List Addr) from hb) (by simp), hok, .of_eq gn⟩
    refine codeAny_mono ((F _ inB (nsL nsm) tb).runG callerA [] sh H ⟨[.ref ad], []⟩ [.ref ad] [.ref ad] _ _ rm rfl en (bnd sh (.ref ad)) (.cons rfl .nil) (pr H hT seq)) fun r sh' h => ?_
    match r, h with
    | .error e, h => exact (show False from h).elim
    | .ok .next, h => exact False.elim h
    | .ok .brk, h => exact False.elim h
    | .ok .cont, h => exact False.elim h
    | .ok (.ret u), h =>
      obtain ⟨v, H', os, bare, un, hok', rv, z⟩ := h
      have z' : v = .bl true := z
      subst z'
      have eu : u = Value.bool true := rv
      subst eu
      have old : ∀ b o, ¬ b = PT → sh.heap.get? b = some o → sh'.heap.get? b = some o := fun b o nb e => by
        cases zb : H b with
        | none => exact un.keep b o e zb (fun z => absurd (show b ∈ ([] : List Addr) from z) (by simp)) (by simp)
        | some u =>
          rcases only b with z | z | ⟨ob, xs, z⟩
          · rw [zb] at z
            cases z
          · exact absurd z nb
          · have e1 := (hok b _ z).1
            have e2 := (hok' b _ (un.frzs b ob _ z)).1
            rw [e] at e1
            cases e1
            exact e2
      obtain ⟨more, zm⟩ := un.tbls PT #[] hT
      have grown : sh'.heap.get? PT = some { cls := .none, data := .fields (#[] ++ more) } := hok' PT _ zm
      refine ⟨rfl, ⟨fun b o e => ?_, fun b o e => ?_⟩, os, bare⟩
      · by_cases hb : b = PT
        · rw [hb] at e ⊢
          rw [tP] at e
          cases e
          exact .inr (.inl ⟨(hC.tab tP).isCodeTable, rfl, #[], more, rfl, grown⟩)
        · exact .inl (old b o hb e)
      · by_cases hb : b = PT
        · rw [hb]
          exact ⟨_, grown⟩
        · exact ⟨o, old b o hb e⟩
  cases hk : K.lookup ad with
  | some o =>
    have e := inK ad o hk
    rw [ga] at e
    cases e
    refine main (fun b => if b = PT then some (.tbl #[]) else none) (if_pos rfl) (fun b => ?_) (.inr ⟨_, vs.toArray, _, hk, rfl, rfl, rfl, by rw [List.size_toArray, lnv]; exact len, by simpa using rel⟩) (fun b u z => ?_) (fun b z => ?_) (fun z => absurd (if_neg nab) z)
    · by_cases hb : b = PT
      · exact .inr (.inl hb)
      · exact .inl (if_neg hb)
    · by_cases hb : b = PT
      · rw [hb] at z ⊢
        have z' := (if_pos rfl).symm.trans z
        cases z'
        exact tP
      · exact (nomatch (if_neg hb).symm.trans z)
    · by_cases hb : b = PT
      · exact .inr hb
      · exact absurd (if_neg hb) z
  | none =>
    refine main (fun b => if b = ad then some (.frz { cls := .type "list", data := .seq vs.toArray } (.lst (ns.map V.int))) else if b = PT then some (.tbl #[]) else none) ((if_neg (fun z => nab z.symm)).trans (if_pos rfl)) (fun b => ?_) (.inl (.inr ⟨{ cls := .type "list", data := .seq vs.toArray }, if_pos rfl⟩)) (fun b u z => ?_) (fun b z => ?_) (fun _ => hk)
    · by_cases eb : b = ad
      · exact .inr (.inr ⟨_, _, if_pos eb⟩)
      · by_cases hb : b = PT
        · exact .inr (.inl hb)
        · exact .inl ((if_neg eb).trans (if_neg hb))
    · by_cases eb : b = ad
      · subst eb
        have z' := (if_pos rfl).symm.trans z
        cases z'
        exact ⟨ga, by rw [List.length_map]; exact len, vs, _, rel, ga⟩
      · have z1 := (if_neg eb).symm.trans z
        by_cases hb : b = PT
        · rw [hb] at z1 ⊢
          have z' := (if_pos rfl).symm.trans z1
          cases z'
          exact tP
        · exact (nomatch (if_neg hb).symm.trans z1)
    · by_cases eb : b = ad
      · exact .inl eb
      · by_cases hb : b = PT
        · exact .inr hb
        · exact absurd ((if_neg eb).trans (if_neg hb)) z
/-- what the head tells of the law, of the table PT of the code object cT -/
structure LawGT (l : PySem.W.OpenLaw) (w : World) (K : PySem.W.Frag) (k : Nat) (x : Str) (mg : Str → Option Value) (fa : Addr) (h : Heap) : Prop where
  ex : ∃ (fd : FuncData) (cT PT : Addr) (sp : Sp), h.get? PT = some { cls := .none, data := .fields #[] } ∧ K.lookup PT = none ∧ PySem.W.CodeHd h cT PT ∧ (∀ (s : Shared) (u : Value), BindsTo s fd ⟨[u], []⟩ [(x, u)]) ∧
    (∀ (H : Hp) (a : Addr) (ns : List Int), ns.length ≤ 63 → H PT = some (.tbl #[]) → SqL K H a (ns.map V.int) → sp [.ref a] H (fun v _ => v = .bl true) fun _ _ _ => False) ∧
    ∀ base : Heap, K.In base → base.Ns mainGlobals mg → LamX.TabB base mg cT PT → FnG l.prog w K mg base k fa fd [x] sp
theorem walkGT {l : PySem.W.OpenLaw} {k : Nat} {q : Program} {loose : List Str} {XP : (Str → Option Value) → Heap → Prop} {YP : World → Heap → Prop} {d : DefRec} {K : Params → PySem.W.Frag} {x : Str}
    (most : l.most = some 63) (nodf : d.params.defaults = []) (rm : Room k callerA) (inY : ∀ (w : World) (h : Heap), YP w h → (K w.params).In h)
    (F : ∀ (w : World) (mg : Str → Option Value) (fa : Addr) (h : Heap), YP w h → (K w.params).In h → h.Ns mainGlobals mg → mg d.name = some (.ref fa) → LawGT l w (K w.params) k x mg fa h) : PySem.W.WalkO q loose XP YP l.row.toRowW d [] (fun f vs => PySem.call f vs) := by
  refine Att.attach_call most nodf fun w s₀ sh mg mb fa o pm cd doc a vs ns G Y ho hd hcd hmg hobj hints hlen hg => ?_
  have inK := inY w _ Y
  obtain ⟨fd, cT, PT, sp, tP, nP, hC, hb, hp, hF⟩ := (F w mg fa _ Y inK G.T.g hmg).ex
  exact lawGT inK G.T.g G.T.b G.T.builtins G.T.nolimit hg tP nP hC G.T.bmain hobj hints (Nat.le_trans hlen (by decide)) rm hF hb (fun H hH hS => hp H a ns hlen hH hS)
/-! ### a def by its row, called where no repr is under way -/
theorem fnG_lk {P : Program} {w : World} {K : PySem.W.Frag} {mg : Str → Option Value} {base : Heap} {x : Str} {st : Stmt} {f : Addr} {N ps : List Str} {k : Nat} {sp : Sp} {oc kV doc pm cdv ct : Value} {od an : Option Addr} {osl : Array (Option Value)}
    (lkp : K.lookup f = some ⟨oc, od, .func (PySem.W.fnOf x x (defArgs st) (defBody st) (defScope st) .none kV doc pm an cdv ct), osl⟩) (cin : PySem.W.codeIn K cdv x = true) (S : FnScope N ps (defScope st)) (ln : ∀ vs H Q E, sp vs H Q E → vs.length = ps.length)
    (bd : ∀ (A : Around) (out : List Env) (sh : Shared) (H : Hp) (vs : List V) (Q : VK) (E : XK), Room k (A.deeper (envOfC x (defScope st) sh.heap.objs.size f cdv)) → A.guards = some [] → sp vs H Q E →
      ∃ t, PSs (cxOf CX0 P w K mg base N x (defScope st) f cdv A out sh H E).nox (defBody st) t ∧ t { nx := fun _ H' => Q .non H', rt := Q } (start N vs) H) : FnG P w K mg base (k + 1) f (PySem.W.fnOf x x (defArgs st) (defBody st) (defScope st) .none kV doc pm an cdv ct) ps sp := by
  refine ⟨ln, fun A out sh H ar us vs Q E rm gd en bnd rel pr => ?_⟩
  have lv := ln _ _ _ _ pr
  have kIn : K.In sh.heap := en.mod.kin.keeps fun b o e => (en.bs b o e).1
  have nol : sh.heap.NoLimit := en.mod.nolimit.keeps fun b o e => (en.bs b o e).1
  have knd : ∀ y ∈ ps.zip us, (defScope st).names.lookup y.1 = some .local ∨ ((defScope st).names.lookup y.1 = some .cell ∧ ((cellsFrom (sh.heap.objs.size + 1) (defScope st).names []).lookup y.1).isSome = true) := fun ⟨n, v⟩ hy => by
    rcases S.par n (List.of_mem_zip hy).1 with z | z
    · exact .inl z
    · exact .inr ⟨z, PySem.W.cellsFrom_some _ _ _ (.inl z)⟩
  refine codeAny_call_function rm.depth (kIn _ _ lkp) rfl S.co S.gen rfl (PySem.W.codeRec_of kIn cin) (bnd _ _ _ _ ?_)
  refine wpAny_newFunctionEnv_cells S.kind knd fun env he sh1 x1 => ?_
  subst he
  refine ⟨nol.keeps x1.toInCall.keep, codeAny_func ?_⟩
  obtain ⟨t, ht, hq⟩ := bd A out sh H vs Q E (rm.deeper _) gd pr
  have inv := inv_start (CX := CX0) (P := P) (w := w) (K := K) (mg := mg) (base := base) (E := E) (f := f) (cd := cdv) (qual := x) S rm.hd en lv rel x1
  refine wpAny_mono (ht.nox.run [] sh1 (start N vs) H _ inv hq) (fun fl sh' hs => ?_) fun e sh' hs => hs
  cases fl with
  | ret u =>
    obtain ⟨v, σ', H', J, rv, z⟩ := hs
    exact ⟨v, H', J.os, J.bare, J.base, J.hok, rv, z⟩
  | next =>
    obtain ⟨σ', H', J, z⟩ := hs
    exact ⟨V.non, H', J.os, J.bare, J.base, J.hok, rfl, z⟩
  | brk =>
    obtain ⟨_, _, _, z⟩ := hs
    exact False.elim z
  | cont =>
    obtain ⟨_, _, _, z⟩ := hs
    exact False.elim z
section
variable {X : Cx} {x : Str} {sp : Sp} {W : WX} {j k i : Nat} {f : Addr} {fd : FuncData} {ps : List Str} {e : Expr} {es : List Expr} {t : TA} {p po : Pos}
/-- such a def, called by its name -/
theorem pe_g (F : FnG X.prog X.w X.K X.mg X.base k f fd ps sp) (gd : X.A.guards = some []) (hr : Room j X.A) (hk : k ≤ j) (hg : Gl X x) (hm : X.mg x = some (.ref f)) (kp : PySem.W.keepIn X.K (.ref f) = true) (hb : Binds X.K fd ps []) (ha : L2.PA X (e :: es) t)
    (hdb : (x == ("__debug__" : Str)) = false := by decide) (he : starEach (e :: es) X.env = (false, eval e X.env) :: starEach es X.env := by rfl) (hpl : (backTo po (starEach es X.env)).any (·.1) = false := by rfl) :
    PE X (.Call (.Name x p) (e :: es) [] po) (fun σ H Q => t σ H fun vs H1 => sp vs H1 Q (fun _ _ _ => False)) := by
  refine ⟨fun pins s σ H Q I h => wpAny_Call_Name_kw (ld_glob I hg hm ?_ hdb)⟩
  refine PySem.W.callWith_K (h₀ := X.base) I.ok.mod.kin kp (thn (ha.run po pins s σ H _ I h) fun us s1 ⟨vs, H1, I1, rv, q⟩ => ⟨I1.kIn, ?_⟩) he hpl
  have hl : us.length = ps.length := by rw [← rv.length]; exact F.lenG _ _ _ _ q
  have b := hb s1 us I1.kIn (by rw [List.append_nil]; exact hl)
  rw [List.append_nil] at b
  refine wpAny_call (codeAny_mono (F.runG X.A X.stack s1 H1 ⟨us, []⟩ us vs Q _ (hr.mono hk) gd I1.env0 b rv q) fun r s' hq => ?_)
  cases r with
  | error e => exact (show False from hq).elim
  | ok fl =>
    cases fl with
    | ret u => exact I1.after hq
    | next => exact False.elim hq
    | brk => exact False.elim hq
    | cont => exact False.elim hq
/-- a name that holds one of some defs that raise -/
theorem pe_vx (S : Addr → Prop) (hS : ∀ f, S f → ∃ fd ps, FnOk X.prog X.w X.K X.mg X.base (L2.CX X.prog X.w) k f fd ps sp ∧ PySem.W.keepIn X.K (.ref f) = true ∧ Binds X.K fd ps []) (hr : Room j X.A) (hk : k ≤ j) (tk : Takes X W) (hN : X.N[i]? = some x) (hv : Vis X.env.scope x) (ha : L2.PA X (e :: es) t)
    (hd : (x == ("__debug__" : Str)) = false := by decide) (hcd : (x == ("__classdict__" : Str)) = false := by decide) (he : starEach (e :: es) X.env = (false, eval e X.env) :: starEach es X.env := by rfl) (hpl : (backTo po (starEach es X.env)).any (·.1) = false := by rfl) :
    PE X (.Call (.Name x p) (e :: es) [] po) (fun σ H Q => ∃ f, σ[i]? = some (some (.ref f)) ∧ S f ∧ t σ H fun vs H1 => sp vs H1 Q (WE W σ)) := by
  refine ⟨fun pins s σ H Q I h => ?_⟩
  obtain ⟨f, hs, hf, h⟩ := h
  obtain ⟨fd, ps, F, kp, b⟩ := hS f hf
  refine wpAny_Call_Name_kw (thn ((pe_var (pos := p) (i := i) hN hv hd hcd).run pins s σ H (fun v H1 => v = .ref f ∧ H1 = H) I ⟨.ref f, hs, rfl, rfl⟩) fun u s1 ⟨v, H1, I1, r1, q1, q2⟩ => ?_)
  subst q1
  rw [q2] at I1
  cases r1
  refine PySem.W.callWith_K (h₀ := X.base) I1.ok.mod.kin kp (thn (ha.run po pins s1 σ H _ I1 h) fun us s2 ⟨vs, H2, I2, rv, q⟩ => ⟨I2.kIn, ?_⟩) he hpl
  exact run_fnS F (hr.mono hk) b (passAt tk σ) I2 rv q
end
end Lf
namespace Lf
open PySem PySem.Spec PyProof.Rows L2
/-! ### as lawGT, for some tables of code objects, and the base has the table of modules -/
def InT (TS : List (Addr × Addr)) (b : Addr) : Prop := ∃ q ∈ TS, q.2 = b
theorem lawGTn {P : Program} {w : World} {K : PySem.W.Frag} {mg mb : Str → Option Value} {k : Nat} {fa ad : Addr} {TS : List (Addr × Addr)} {fd : FuncData} {x : Str} {sp : Sp} {sh : Shared} {vs : List Value} {ns : List Int}
    (inK : K.In sh.heap) (nsm : sh.heap.Ns mainGlobals mg) (nsb : sh.heap.Ns builtinsNs mb) (bb : ∀ x : Str, x ≠ "__name__" → mb x = bootBuiltins x) (nol : sh.heap.NoLimit) (gn : sh.gens = #[])
    (sM : ∃ mm, sh.heap.Ns sysModules mm) (tPs : ∀ q ∈ TS, sh.heap.get? q.2 = some { cls := .none, data := .fields #[] }) (nPs : ∀ q ∈ TS, K.lookup q.2 = none) (hCs : ∀ q ∈ TS, PySem.W.CodeHd sh.heap q.1 q.2)
    (bM : ∃ (bm : Addr) (ob : Obj), mg "__builtins__" = some (.ref bm) ∧ bm ≠ builtinsNs ∧ sh.heap.get? bm = some ob ∧ ob.cls = .type "module" ∧ ob.dict = some builtinsNs ∧ ob.data = .plain)
    (ga : sh.heap.get? ad = some { cls := .type "list", data := .seq vs.toArray }) (isI : IntsAre vs ns) (len : ns.length ≤ sizeLine) (rm : Room k callerA)
    (F : ∀ base : Heap, K.In base → base.Ns mainGlobals mg → (∃ o, base.get? 1 = some o) → (∀ q ∈ TS, LamX.TabB base mg q.1 q.2) → FnG P w K mg base k fa fd [x] sp) (bnd : ∀ (s : Shared) (u : Value), BindsTo s fd ⟨[u], []⟩ [(x, u)])
    (pr : ∀ H : Hp, (∀ q ∈ TS, H q.2 = some (.tbl #[])) → SqL K H ad (ns.map V.int) → sp [.ref ad] H (fun v _ => v = .bl true) fun _ _ _ => False) :
    codeAny (model P w) callerA (.call (.ref fa) ⟨[.ref ad], []⟩) (fun r sh' => r = .ok (.ret (.bool true)) ∧ OldK sh.heap sh'.heap ∧ sh'.os = sh.os ∧ AllBare sh'.gens) sh := by
  have rel := vals_ints isI
  have lnv := isI.length
  have tP : ∀ {b}, InT TS b → sh.heap.get? b = some { cls := .none, data := .fields #[] } := fun ⟨q, hq, e⟩ => e ▸ tPs q hq
  have nP : ∀ {b}, InT TS b → K.lookup b = none := fun ⟨q, hq, e⟩ => e ▸ nPs q hq
  have nab : ¬ InT TS ad := fun z => by
    rw [tP z] at ga
    cases ga
  have main : ∀ H : Hp, (∀ b, InT TS b → H b = some (.tbl #[])) → (∀ b, H b = none ∨ InT TS b ∨ ∃ o xs, H b = some (.frz o (.lst xs))) → SqL K H ad (ns.map V.int) → HOk P w H sh.heap → (∀ b, H b ≠ none → b = ad ∨ InT TS b) → (H ad ≠ none → K.lookup ad = none) →
      codeAny (model P w) callerA (.call (.ref fa) ⟨[.ref ad], []⟩) (fun r sh' => r = .ok (.ret (.bool true)) ∧ OldK sh.heap sh'.heap ∧ sh'.os = sh.os ∧ AllBare sh'.gens) sh := by
    intro H hT only seq hok one nk
    have lay : ∀ {b : Addr} {o : Obj}, sh.heap.get? b = some o → H b = none → (hidT sh.heap H).get? b = some o := fun e n => hidT_get e n
    -- what is no list and no empty record is not tracked
    have off : ∀ {b : Addr} {o : Obj}, sh.heap.get? b = some o → (∀ zs m, o.data ≠ .seq zs m) → o.data ≠ .fields #[] → H b = none := fun {b o} e n1 n2 => by
      cases z : H b with
      | none => rfl
      | some u =>
        rcases one b (by rw [z]; simp) with eb | eb
        · rw [eb, ga] at e
          cases e
          exact absurd rfl (n1 _ _)
        · rw [tP eb] at e
          cases e
          exact absurd rfl n2
    have nsL : ∀ {b : Addr} {m : Str → Option Value}, sh.heap.Ns b m → (hidT sh.heap H).Ns b m := fun {b m} ⟨o, es, ep, e, d, r⟩ =>
      ⟨o, es, ep, lay e (off e (fun zs m z => by rw [d] at z; cases z) (fun z => by rw [d] at z; cases z)), d, r⟩
    have inB : K.In (hidT sh.heap H) := fun b o e => lay (inK b o e) (by
      cases z : H b with
      | none => rfl
      | some u =>
        rcases one b (by rw [z]; simp) with eb | eb
        · subst eb
          rw [nk (by rw [z]; simp)] at e
          cases e
        · rw [nP eb] at e
          cases e)
    have md : Mod K mg (hidT sh.heap H) := ⟨inB, nsL nsm, ⟨mb, nsL nsb, bb⟩, let ⟨mc, h1, h2⟩ := nol; ⟨mc, nsL h1, h2⟩⟩
    have tb : ∀ q ∈ TS, LamX.TabB (hidT sh.heap H) mg q.1 q.2 := fun q hq => by
      have tq := tPs q hq
      have hC := hCs q hq
      have gP : ¬ mainGlobals = q.2 := fun z => by
        obtain ⟨o, es, ep, e, d, _⟩ := nsm
        rw [z, tq] at e
        cases e
        cases d
      refine ⟨?_, ?_, gP⟩
      · obtain ⟨o, us, fi, tf, fl, tg, iF, tx, tt, e1, r1, r2, r3, rr⟩ := hC
        refine ⟨o, us, fi, tf, fl, tg, iF, tx, tt, lay e1 (off e1 (fun zs m z => by rw [r2] at z; cases z) (fun z => ?_)), r1, r2, r3, rr⟩
        rw [r2] at z
        cases z
        simp at r3
      · obtain ⟨bm, ob, b1, b2, b3, b4, b5, b6⟩ := bM
        refine ⟨bm, ob, b1, b2, fun z => ?_, fun z => ?_, lay b3 (off b3 (fun zs m z => by rw [b6] at z; cases z) (fun z => by rw [b6] at z; cases z)), b4, b5, b6⟩
        · obtain ⟨o, es, ep, e, d, _⟩ := nsm
          rw [z, e] at b3
          cases b3
          rw [d] at b6
          cases b6
        · rw [z, tq] at b3
          cases b3
          cases b6
    have en : Env0 P w K mg (hidT sh.heap H) callerA [] sh H := ⟨rfl, md, fun b o e => of_hidT e, Nat.le_of_eq (hidT_size _ _), trivial, fun b hb => absurd (show b ∈ ([] : List Addr) from hb) (by simp), hok, .of_eq gn⟩
    refine codeAny_mono ((F _ inB (nsL nsm) (let ⟨_, h⟩ := sM; let ⟨o, _, _, e, _⟩ := nsL h; ⟨o, e⟩) tb).runG callerA [] sh H ⟨[.ref ad], []⟩ [.ref ad] [.ref ad] _ _ rm rfl en (bnd sh (.ref ad)) (.cons rfl .nil) (pr H (fun q hq => hT q.2 ⟨q, hq, rfl⟩) seq)) fun r sh' h => ?_
    match r, h with
    | .error e, h => exact (show False from h).elim
    | .ok .next, h => exact False.elim h
    | .ok .brk, h => exact False.elim h
    | .ok .cont, h => exact False.elim h
    | .ok (.ret u), h =>
      obtain ⟨v, H', os, bare, un, hok', rv, z⟩ := h
      have z' : v = .bl true := z
      subst z'
      have eu : u = Value.bool true := rv
      subst eu
      have old : ∀ b o, ¬ InT TS b → sh.heap.get? b = some o → sh'.heap.get? b = some o := fun b o nb e => by
        cases zb : H b with
        | none => exact un.keep b o e zb (fun z => absurd (show b ∈ ([] : List Addr) from z) (by simp)) (by simp)
        | some u =>
          rcases only b with z | z | ⟨ob, xs, z⟩
          · rw [zb] at z
            cases z
          · exact absurd z nb
          · have e1 := (hok b _ z).1
            have e2 := (hok' b _ (un.frzs b ob _ z)).1
            rw [e] at e1
            cases e1
            exact e2
      have hT' : ∀ b, InT TS b → ∃ more, sh'.heap.get? b = some { cls := .none, data := .fields (#[] ++ more) } := fun b hb => by
        obtain ⟨more, zm⟩ := un.tbls b #[] (hT b hb)
        exact ⟨more, hok' b _ zm⟩
      refine ⟨rfl, ⟨fun b o e => ?_, fun b o e => ?_⟩, os, bare⟩
      · by_cases hb : InT TS b
        · obtain ⟨more, grown⟩ := hT' b hb
          have tb := tP hb
          rw [tb] at e
          cases e
          obtain ⟨q, hq, eq⟩ := hb
          exact .inr (.inl ⟨by rw [← eq]; exact ((hCs q hq).tab (tPs q hq)).isCodeTable, rfl, #[], more, rfl, grown⟩)
        · exact .inl (old b o hb e)
      · by_cases hb : InT TS b
        · obtain ⟨more, grown⟩ := hT' b hb
          exact ⟨_, grown⟩
        · exact ⟨o, old b o hb e⟩
  haveI : ∀ b, Decidable (InT TS b) := fun b => Classical.propDecidable _
  cases hk : K.lookup ad with
  | some o =>
    have e := inK ad o hk
    rw [ga] at e
    cases e
    refine main (fun b => if InT TS b then some (.tbl #[]) else none) (fun b hb => if_pos hb) (fun b => ?_) (.inr ⟨_, vs.toArray, _, hk, rfl, rfl, rfl, by rw [List.size_toArray, lnv]; exact len, by simpa using rel⟩) (fun b u z => ?_) (fun b z => ?_) (fun z => absurd (if_neg nab) z)
    · by_cases hb : InT TS b
      · exact .inr (.inl hb)
      · exact .inl (if_neg hb)
    · by_cases hb : InT TS b
      · have z' := (if_pos hb).symm.trans z
        cases z'
        exact tP hb
      · exact (nomatch (if_neg hb).symm.trans z)
    · by_cases hb : InT TS b
      · exact .inr hb
      · exact absurd (if_neg hb) z
  | none =>
    refine main (fun b => if b = ad then some (.frz { cls := .type "list", data := .seq vs.toArray } (.lst (ns.map V.int))) else if InT TS b then some (.tbl #[]) else none) (fun b hb => (if_neg (fun (z : b = ad) => nab (z ▸ hb))).trans (if_pos hb)) (fun b => ?_) (.inl (.inr ⟨{ cls := .type "list", data := .seq vs.toArray }, if_pos rfl⟩)) (fun b u z => ?_) (fun b z => ?_) (fun _ => hk)
    · by_cases eb : b = ad
      · exact .inr (.inr ⟨_, _, if_pos eb⟩)
      · by_cases hb : InT TS b
        · exact .inr (.inl hb)
        · exact .inl ((if_neg eb).trans (if_neg hb))
    · by_cases eb : b = ad
      · subst eb
        have z' := (if_pos rfl).symm.trans z
        cases z'
        exact ⟨ga, by rw [List.length_map]; exact len, vs, _, rel, ga⟩
      · have z1 := (if_neg eb).symm.trans z
        by_cases hb : InT TS b
        · have z' := (if_pos hb).symm.trans z1
          cases z'
          exact tP hb
        · exact (nomatch (if_neg hb).symm.trans z1)
    · by_cases eb : b = ad
      · exact .inl eb
      · by_cases hb : InT TS b
        · exact .inr hb
        · exact absurd ((if_neg eb).trans (if_neg hb)) z
/-- what the head tells of the law, of the tables of some code objects -/
structure LawGTn (l : PySem.W.OpenLaw) (w : World) (K : PySem.W.Frag) (k : Nat) (x : Str) (mg : Str → Option Value) (fa : Addr) (h : Heap) : Prop where
  ex : ∃ (fd : FuncData) (TS : List (Addr × Addr)) (sp : Sp), (∀ q ∈ TS, h.get? q.2 = some { cls := .none, data := .fields #[] }) ∧ (∀ q ∈ TS, K.lookup q.2 = none) ∧ (∀ q ∈ TS, PySem.W.CodeHd h q.1 q.2) ∧ (∀ (s : Shared) (u : Value), BindsTo s fd ⟨[u], []⟩ [(x, u)]) ∧
    (∀ (H : Hp) (a : Addr) (ns : List Int), ns.length ≤ 63 → (∀ q ∈ TS, H q.2 = some (.tbl #[])) → SqL K H a (ns.map V.int) → sp [.ref a] H (fun v _ => v = .bl true) fun _ _ _ => False) ∧
    ∀ base : Heap, K.In base → base.Ns mainGlobals mg → (∃ o, base.get? 1 = some o) → (∀ q ∈ TS, LamX.TabB base mg q.1 q.2) → FnG l.prog w K mg base k fa fd [x] sp
theorem walkGTn {l : PySem.W.OpenLaw} {k : Nat} {q : Program} {loose : List Str} {XP : (Str → Option Value) → Heap → Prop} {YP : World → Heap → Prop} {d : DefRec} {K : Params → PySem.W.Frag} {x : Str}
    (noImp : importsNone q = true) (most : l.most = some 63) (nodf : d.params.defaults = []) (rm : Room k callerA) (inY : ∀ (w : World) (h : Heap), YP w h → (K w.params).In h)
    (F : ∀ (w : World) (mg : Str → Option Value) (fa : Addr) (h : Heap), YP w h → (K w.params).In h → h.Ns mainGlobals mg → mg d.name = some (.ref fa) → LawGTn l w (K w.params) k x mg fa h) : PySem.W.WalkO q loose XP YP l.row.toRowW d [] (fun f vs => PySem.call f vs) := by
  refine Att.attach_call most nodf fun w s₀ sh mg mb fa o pm cd doc a vs ns G Y ho hd hcd hmg hobj hints hlen hg => ?_
  have inK := inY w _ Y
  obtain ⟨fd, TS, sp, tP, nP, hC, hb, hp, hF⟩ := (F w mg fa _ Y inK G.T.g hmg).ex
  exact lawGTn inK G.T.g G.T.b G.T.builtins G.T.nolimit hg (let ⟨mm, h, _⟩ := (G.T.seer noImp).mods; ⟨mm, h⟩) tP nP hC G.T.bmain hobj hints (Nat.le_trans hlen (by decide)) rm hF hb (fun H hH hS => hp H a ns hlen hH hS)
/-! ### a def that makes lambdas: its row, its code object, its table -/
structure DfT (K : PySem.W.Frag) (mg : Str → Option Value) (base : Heap) (x : Str) (st : Stmt) (ps : List Str) (PT : Addr) : Prop where
  ex : ∃ (f cQ : Addr) (oc kV doc pm ct : Value) (od an : Option Addr) (osl : Array (Option Value)), K.lookup f = some ⟨oc, od, .func (PySem.W.fnOf x x (defArgs st) (defBody st) (defScope st) .none kV doc pm an (.ref cQ) ct), osl⟩ ∧ PySem.W.codeIn K (.ref cQ) x = true ∧ PySem.W.keepIn K (.ref f) = true ∧ mg x = some (.ref f) ∧
    Binds K (PySem.W.fnOf x x (defArgs st) (defBody st) (defScope st) .none kV doc pm an (.ref cQ) ct) ps [] ∧ LamX.TabB base mg cQ PT
theorem calT_of {P : Program} {w : World} {K : PySem.W.Frag} {mg : Str → Option Value} {base : Heap} {x : Str} {st : Stmt} {N ps : List Str} {k : Nat} {sp : Sp} {PT : Addr} (D : DfT K mg base x st ps PT) (S : FnScope N ps (defScope st)) (len : ∀ vs H Q E, sp vs H Q E → vs.length = ps.length)
    (hb : ∀ (f cQ : Addr) (A : Around) (outer : List Env) (s : Shared) (H : Hp) (vs : List V) (Q : VK) (E : XK), LamX.TabB base mg cQ PT → Room k (A.deeper (envOfC x (defScope st) s.heap.objs.size f (.ref cQ))) → sp vs H Q E →
      ∃ t, PSs (cxOf CX0 P w K mg base N x (defScope st) f (.ref cQ) A outer s H E).nox (defBody st) t ∧ t { nx := fun _ H' => Q .non H', rt := Q } (start N vs) H) : C8.Cal P w K mg base (k + 1) x sp [] := by
  obtain ⟨f, cQ, oc, kV, doc, pm, ct, od, an, osl, lk, hcd, kp, hm, b, TB⟩ := D.ex
  refine ⟨⟨f, _, ps, [], fn_of lk hcd S len fun A outer s H vs Q E hr hsp => ?_, hm, kp, b, .nil⟩⟩
  obtain ⟨t, h, q⟩ := hb f cQ A outer s H vs Q E TB hr hsp
  exact ⟨t, h.nox, q⟩
end Lf
namespace Lf
open PySem PySem.Spec PyProof.Rows L2
/-! ### an own exception class over ValueError whose __init__ says super().__init__(text), self.x = x -/
/-- the context of such an __init__ at its entry -/
def cxSup (P : Program) (w : World) (K : PySem.W.Frag) (mg : Str → Option Value) (base : Heap) (N : List Str) (env : Env) (A : Around) (outer : List Env) (s : Shared) (H : Hp) : Cx where
  prog := P
  w := w
  K := K
  mg := mg
  base := base
  A := A.deeper env
  N := N
  s_0 := s
  H_0 := H
  env := env
  outer := outer
  stack := env :: outer
  ex := []
  calm := true
  fn := fun _ => false
  pn := []
  xe := fun _ _ => False
/-- what it promises -/
def spIni (C : Addr) (x : Str) : Sp := fun vs H Q _ => ∃ (a : Addr) (v : V), vs = [.ref a, v] ∧ H a = some (exo a C none) ∧
  ∀ dx, H dx = none → dx ≠ a → Q .non (upd (upd H dx (exd dx [(x, v)])) a (exo a C (some dx)))
/-- its text -/
structure IniT (x : Str) (params : Arguments) (body : List Stmt) (scope : Scope) : Prop where
  pa : ∃ ar, (params.posonlyargs ++ params.args).head? = some ar ∧ ar.arg = "self"
  bd : ∃ txt p0 p1 p2 p3 p4 p5 p6 p7 p8 p9 j, body = [.Expr (.Call (.Attribute (.Call (.Name "super" p0) [] [] p1) "__init__" p2) [.Constant (.str txt) j p3] [] p4) p5, .Assign [.Attribute (.Name "self" p6) x p7] (.Name x p8) p9] ∧
    ∃ pl : Env → Sem Bool, ∀ env : Env, eval (.Call (.Attribute (.Call (.Name "super" p0) [] [] p1) "__init__" p2) [.Constant (.str txt) j p3] [] p4) env = (do
      let ov ← attributeBase (.Call (.Name "super" p0) [] [] p1) "__init__" env (eval (.Call (.Name "super" p0) [] [] p1) env)
      standAt p2.atName
      let (f, first) ← holding [ov] (getMethod ov "__init__" (pl env))
      callWith p4 f first (backTo p4 (starEach [.Constant (.str txt) j p3] env)) [])
  ls : scope.names.lookup ("self" : Str) = some .local
  lx : scope.names.lookup x = some .local
  lc : scope.names.lookup ("__class__" : Str) = some .free
  lu : scope.names.lookup ("super" : Str) = some .globalImplicit
  nc : ∀ y ∈ scope.names, y.2 ≠ .cell
  nf : ∀ y ∈ scope.names, y.2 = .free → y.1 = "__class__"
  co : scope.isCoroutine = false
  ge : scope.isGenerator = false
  kd : scope.kind = .function
  ne : x ≠ "self"
  dx : (x == ("__debug__" : Str)) = false
  dc : (x == ("__classdict__" : Str)) = false
/-- what the written part tells of it -/
structure SupC (P : Program) (K : PySem.W.Frag) (C cda cc : Addr) (x : Str) : Prop where
  cls : OexC K C
  code : ∃ ccl cdd vs ccs file tf, K.lookup cda = some ⟨ccl, cdd, .fields vs, ccs⟩ ∧ vs[2]? = some (.str file tf) ∧ ((P.main.file : Str) == file) = true
  cell : ∃ cl cld csl, K.lookup cc = some ⟨cl, cld, .cell (some (.ref C)), csl⟩
  sub : PySem.W.mroIn K C (.ref C) = some true
  st : PySem.W.nsIn K cStatics "thirdparty.any" = some none
  sup : PySem.W.ks_superIn K C C "__init__" = some (some (.builtin "ValueError.__init__"))
  ve : PySem.W.subIn K (.ref C) (.type "ValueError") = some true
  no : PySem.W.findIn K (.ref C) x = some none
  top : (P.main.scope.names.lookup ("super" : Str)).isSome = false
theorem bt_super : bootBuiltins ("super" : Str) = Option.some (Value.type "super") := by decide +kernel
section
variable {P : Program} {w : World} {K : PySem.W.Frag} {mg : Str → Option Value} {base : Heap}
theorem fn_sup {CX : CXT} {C f cda cc : Addr} {name qual x : Str} {params : Arguments} {body : List Stmt} {scope : Scope} {dV kV doc pm ct oc : Value} {an od : Option Addr} {osl : Array (Option Value)}
    (lk : K.lookup f = some ⟨oc, od, .func (PySem.W.ksFn name qual params body scope dV kV doc pm an (.ref cda) ct cc), osl⟩) (hcd : PySem.W.codeIn K (.ref cda) qual = true) (T : IniT x params body scope) (S : SupC P K C cda cc x) (ms : mg "super" = none) :
    FnOk P w K mg base CX 1 f (PySem.W.ksFn name qual params body scope dV kV doc pm an (.ref cda) ct cc) ["self", x] (spIni C x) := by
  refine ⟨fun vs H Q E h => ?_, fun A outer s H args us vs Q E hr e0 hb r hsp => ?_⟩
  · obtain ⟨a, v, rfl, _⟩ := h
    rfl
  obtain ⟨a, v, rfl, ea, q⟩ := hsp
  obtain ⟨u, rfl, ru⟩ : ∃ u, us = [.ref a, u] ∧ RelV v u := by
    cases r with
    | cons ra r =>
      cases r with
      | cons rv r =>
        cases r
        cases ra
        exact ⟨_, rfl, rv⟩
  have KX : K.In s.heap := e0.mod.kin.keeps fun b o e => (e0.bs b o e).1
  have lim : s.heap.NoLimit := e0.mod.nolimit.keeps fun b o e => (e0.bs b o e).1
  refine ks_codeAny_call_defAt (fd := PySem.W.ksFn name qual params body scope dV kV doc pm an (.ref cda) ct cc) (body := body) hr.depth (KX _ _ lk) rfl lim (PySem.W.codeRec_of KX hcd) rfl hb T.nc (fun y hy => ?_) (fun h₀ hns hk => ?_) T.co T.ge T.kd
  · have : y = (("self" : Str), Value.ref a) ∨ y = (x, u) := by simpa using hy
    rcases this with rfl | rfl
    · exact T.ls
    · exact T.lx
  obtain ⟨txt, p0, p1, p2, p3, p4, p5, p6, p7, p8, p9, j, rfl, pl, hpl⟩ := T.bd
  obtain ⟨ar, har, ear⟩ := T.pa
  obtain ⟨cl, cld, csl, hcell⟩ := S.cell
  obtain ⟨ccl, cdd, fvs, ccs, file, tf, hcode, hvs, hfile⟩ := S.code
  show _root_.PySem.wpAt _ (A.deeper (PySem.W.ksEnv qual scope s.heap.objs.size f (.ref cda) cc)) (.func _ (PySem.W.ksEnv qual scope s.heap.objs.size f (.ref cda) cc)) (execs _ (PySem.W.ksEnv qual scope s.heap.objs.size f (.ref cda) cc)) _ _ _
  generalize hX : cxSup P w K mg base ["self", x] (PySem.W.ksEnv qual scope s.heap.objs.size f (.ref cda) cc) A outer s H = X
  have bcell : base.get? cc = some ⟨cl, cld, .cell (some (.ref C)), csl⟩ := e0.mod.kin _ _ hcell
  have luc : ∀ y c, List.lookup y [(("__class__" : Str), cc)] = some c → y = "__class__" ∧ c = cc := fun y c h => by
    rw [List.lookup_cons] at h
    by_cases hy : (y == ("__class__" : Str)) = true
    · rw [hy] at h
      exact ⟨by simpa using hy, (Option.some.inj h).symm⟩
    · rw [Bool.not_eq_true] at hy
      rw [hy] at h
      cases h
  have noA : ∀ b : Addr, b ∉ ([] : List Addr) := fun b z => nomatch z
  have I : Inv X [] [some (.ref a), some v] H { s with heap := h₀, toks := s.toks + [(("self" : Str), Value.ref a), (x, u)].length } := by
    subst hX
    refine ⟨⟨e0.mod, T.kd, rfl, rfl, Nat.le_refl _, fun y z c h1 h2 => ?_, fun y hy => ?_, fun y c z _ => (nomatch z), fun _ => hr.hd, Around.frames_deeper e0.frames, .inr ⟨rfl, rfl⟩, fun b z => absurd z (noA b), e0.bs, e0.bsz, fun b _ _ => noA b, fun b z => absurd z (noA b), e0.funs, e0.frf⟩,
      rfl, e0.bare, Un.kept hk, ⟨_, hns, fun i y v' h1 h2 h3 => ?_⟩, fun y c h => ?_, e0.hok.fresh (Nat.le_refl _), fun y c h => ?_, fun p hp => absurd (show p ∈ ([] : List (Addr × Obj)) from hp) (by simp), e0.hok.kept hk, rfl⟩
    · rw [(luc y c h1).1, (luc z c h2).1]
    · have hy : scope.names.lookup y = some .cell ∨ scope.names.lookup y = some .free := hy
      rcases hy with hy | hy
      · exact absurd rfl (T.nc _ (PySem.mem_of_lookup hy))
      · have := T.nf _ (PySem.mem_of_lookup hy) rfl
        dsimp only at this
        subst this
        exact ⟨cc, rfl⟩
    · match i, h1, h2 with
      | 0, h1, h2 =>
        cases h1
        cases h2
        refine ⟨.ref a, rfl, .inl ⟨T.ls, ?_⟩⟩
        show List.lookup _ [(x, u), ("self", .ref a)] = _
        rw [List.lookup_cons, show (("self" : Str) == x) = false by simpa using fun z => T.ne z.symm]
        rfl
      | 1, h1, h2 =>
        cases h1
        cases h2
        refine ⟨u, ru, .inl ⟨T.lx, ?_⟩⟩
        show List.lookup _ [(x, u), ("self", .ref a)] = _
        rw [List.lookup_cons, beq_self_eq_true]
    · obtain ⟨_, rfl⟩ := luc y c h
      exact ⟨_, _, hk _ _ ((e0.bs _ _ bcell).1), rfl⟩
    · obtain ⟨_, rfl⟩ := luc y c h
      exact (e0.bs _ _ bcell).2
  have eE : X.env = PySem.W.ksEnv qual scope s.heap.objs.size f (.ref cda) cc := by subst hX; rfl
  have eA : X.A = A.deeper (PySem.W.ksEnv qual scope s.heap.objs.size f (.ref cda) cc) := by subst hX; rfl
  have eP : X.prog = P ∧ X.w = w ∧ X.K = K ∧ X.mg = mg ∧ X.base = base ∧ X.N = [("self" : Str), x] ∧ X.stack = PySem.W.ksEnv qual scope s.heap.objs.size f (.ref cda) cc :: outer ∧ X.s_0 = s ∧ X.H_0 = H ∧ X.outer = outer ∧ X.ex = [] := by subst hX; exact ⟨rfl, rfl, rfl, rfl, rfl, rfl, rfl, rfl, rfl, rfl, rfl⟩
  have Z : ∀ s', (∃ σ' H', Inv X [] σ' H' s' ∧ Q .non H') → CR CX outer P w H s Q E (.ok (.ret .none)) s' := fun s' ⟨σ', H', J, q'⟩ => by
    subst hX
    exact ⟨.non, H', J.os, J.bare, J.base, J.hok, rfl, q'⟩
  have hxe : ∀ e s', X.xe e s' → False := by subst hX; exact fun _ _ z => z
  have hprog : X.prog = P := by subst hX; rfl
  have hw : X.w = w := by subst hX; rfl
  have hK : X.K = K := by subst hX; rfl
  have hmg : X.mg = mg := by subst hX; rfl
  have hN : X.N = [("self" : Str), x] := by subst hX; rfl
  subst hprog hw hK hmg
  rw [← eA, ← eE]
  obtain ⟨nm, qn, N, bs, bm, sn, sub, ab, col, dd, k0, k1, k2, k3, k5, hC, hbm⟩ := S.cls.cls
  obtain ⟨t1, ho⟩ := exo_at I.hok ea
  obtain ⟨cdD, hcl⟩ : ∃ cdD, PySem.W.clsIn X.K C = some cdD := ⟨_, by unfold PySem.W.clsIn; rw [hC] <;> rfl⟩
  have hne : ¬ (("__init__" : Str) == ("__class__" : Str)) = true := by decide
  have hbase : ∀ s', Inv X [] [some (.ref a), some v] H s' → (∃ m, s'.heap.Ns X.env.locals m ∧ m "self" = some (.ref a)) := fun s' J => by
    obtain ⟨m, hn, hl⟩ := J.loc
    obtain ⟨u', ru', lk'⟩ := hl 0 "self" (.ref a) (by rw [hN]; rfl) rfl (by rw [eE]; exact .inl T.ls)
    cases ru'
    rcases lk' with ⟨_, e⟩ | ⟨z, _⟩
    · exact ⟨m, hn, e⟩
    · rw [eE] at z
      have z : scope.names.lookup ("self" : Str) = some .cell ∨ scope.names.lookup ("self" : Str) = some .free := z
      rw [T.ls] at z
      rcases z with z | z <;> cases z
  obtain ⟨m, hn, hself⟩ := hbase _ I
  obtain ⟨mb, hb1, hb2⟩ := I.mod.blt
  have hfr : ∀ {s'} , Inv X [] [some (.ref a), some v] H s' → ∃ o, s'.heap.get? a = some o ∧ o.cls = .ref C ∧ ∀ c, o.data ≠ .cls c := fun {s'} J => by
    obtain ⟨t1, h1⟩ := exo_at J.hok ea
    exact ⟨_, h1, rfl, fun c z => by cases z⟩
  obtain ⟨oD, hD1, hD2⟩ : ∃ oD, h₀.get? C = some oD ∧ oD.data = .cls cdD := by
    unfold PySem.W.clsIn at hcl
    split at hcl
    · rename_i c d cd' sl hoo
      cases hcl
      exact ⟨_, I.kIn _ _ hoo, rfl⟩
    · cases hcl
  refine ks_wpAt_execs_cons (ks_wpAt_Expr_any (ks_wpAt_MethodCall (pl := pl X.env) ?_ (hpl X.env)) ?hi ?hs)
  case hi => exact I.quiet
  case hs => rfl
  refine ks_wpAt_super_base (env := X.env) (attr := "__init__") (f := f) (cc := cda) (fd := PySem.W.ksFn name qual params _ scope dV kV doc pm an (.ref cda) ct cc) (ar := ar) (by rw [eE]; exact T.lu) (by rw [eE]; exact T.lc) (by decide) (by rw [eE]) (I.kIn _ _ lk) rfl har (by rw [eE]) (I.kIn _ _ hcode) rfl hvs hfile S.top ?_
  refine PySem.W.ks_loadName_global I.ok.kind (by rw [eE]; exact T.lu) (Calls.loadGlobal_builtin (by rw [I.ok.glob]; exact I.mod.glob.keeps I.bk) ms (by rw [I.ok.blt]; exact hb1.keeps I.bk) ((hb2 _ (by decide)).trans bt_super) ⟨rfl, ?_⟩)
  refine wpAny_loadName_free I.ok.kind (by rw [eE]; exact T.lc) (by rw [eE]; rfl) ⟨_, I.kIn _ _ hcell, rfl⟩ ?_
  rw [ear]
  refine wpAny_loadName_local I.ok.kind (by rw [eE]; exact T.ls) hn hself ?_
  refine ks_wpAny_isType_cls hD1 hD2 ⟨rfl, ?_⟩
  refine ks_wpAny_call_super hD1 hD2 ho rfl (fun c z => by cases z) (PySem.W.looks_mroIn I.kIn S.sub) (fun h1 e1 kk1 => ?_)
  have I1 := I.kept (t' := s.toks + [(("self" : Str), Value.ref a), (x, u)].length) kk1
  have hm : PySem.W.alongIn X.K "__init__" ((cdD.mro.dropWhile (· != .ref C)).drop 1) = some (some (.builtin "ValueError.__init__")) := by
    have z := S.sup
    unfold PySem.W.ks_superIn at z
    rw [hcl, Option.bind_some] at z
    exact z
  obtain ⟨t2, ho1⟩ := exo_at I1.hok ea
  have IA : PySem.W.InstAt h1 a { cls := .ref C, dict := none, data := .fields #[.ref t2, .none, .none, .none, .bool false, .none] } C none := ⟨ho1, rfl, rfl, trivial⟩
  refine PySem.W.kxs_getMethod PySem.W.kxs_ValueError e1 (PySem.W.looks_opaque I1.kIn S.st) (l₀ := cdD.mro) (fun A Q E s k q => wpAny_bind ((PySem.W.looks_clsIn I1.kIn hcl) A _ E s k (wpAny_pure q))) rfl I1.kIn hm (IA.type.andThen (PySem.W.looks_subIn I1.kIn S.ve)) (PySem.W.ks_ne I1.kIn IA hcl) (by decide) ?_
  have I2 := I1.kept (h' := h1.push (PySem.W.kxs_mw "ValueError.__init__" a)) (t' := s.toks + [(("self" : Str), Value.ref a), (x, u)].length + 1) (fun b o e => Heap.get?_push_of_some _ e)
  have hmw : (h1.push (PySem.W.kxs_mw "ValueError.__init__" a)).get? h1.objs.size = some (PySem.W.kxs_mw "ValueError.__init__" a) := Heap.get?_push_at rfl rfl
  have I3 : Inv X [(h1.objs.size, PySem.W.kxs_mw "ValueError.__init__" a)] [some (.ref a), some v] H _ := I2.pins_of (fun p hp => by
    have hp : p = (h1.objs.size, PySem.W.kxs_mw "ValueError.__init__" a) := by simpa using hp
    subst hp
    exact ⟨hmw, I1.hok.fresh (Nat.le_refl _), fun z => absurd I1.lt (by rw [← z]; exact Nat.lt_irrefl _), I1.nofs (Nat.le_refl _), fun v z => by cases z⟩)
  have hst : starEach [Expr.Constant (Const.str txt) j p3] X.env = (false, eval (Expr.Constant (Const.str txt) j p3) X.env) :: starEach [] X.env := rfl
  refine PySem.W.kxs_callWith (i := "ValueError.__init__") (x := a) (by rfl) ?_
  show wpAny _ _ (evalArgs _ true ((false, eval (Expr.Constant (Const.str txt) j p3) X.env) :: _) []) _ _ _
  refine Calls.evalArgs_plain ?_
  have hpa : L2.PA X [Expr.Constant (Const.str txt) j p3] (tCons (tC (.str txt)) tNil) := pa_cons pe_str pa_nil
  refine thn (hpa.run p4 _ _ _ H (fun vs H' => H' = H ∧ vs = [.str txt]) I3 ⟨rfl, rfl⟩) fun us s4 ⟨vs, H4, I4, r4, eH, ev⟩ => ?_
  subst eH ev
  have hu4 := (I4.pin (h1.objs.size, PySem.W.kxs_mw "ValueError.__init__" a) (by simp)).1
  refine ⟨hu4, ?_⟩
  obtain ⟨t3, ho4⟩ := exo_at I4.hok ea
  have hlen : us.length ≤ sizeLine := by
    rw [← r4.length]
    rw [sizeLine_eq]; exact (by show 1 ≤ _; omega)
  obtain ⟨h4, g4, d4, t4, os4⟩ := s4
  refine wpAny_call (codeAny_of_tree ?_)
  show wpAny _ _ (callAny (.ref h1.objs.size) ⟨us, []⟩) _ _ _
  simp only [callAny]
  refine wpAny_bind (wpAny_load hu4 ?_)
  simp only [PySem.W.kxs_mw, show (Value.type "method-wrapper" == Value.type "method" || Value.type "method-wrapper" == Value.type "builtin_function_or_method" || Value.type "method-wrapper" == Value.type "method-wrapper") = true by decide, if_true]
  refine PySem.W.KFB.if_so (by decide) ?_
  refine wpAny_bind (PySem.W.check_bound_init F.excBase_ValueError.toExcCallFacts (I4.kIn _ _ hC) ho4 rfl ?_)
  refine wpAny_bind (wpAny_pure (wpAny_pure ?_))
  refine ⟨plainId_quiet F.excBase_ValueError.init.plain _, codeAny_builtin F.excBase_ValueError.initEntry ?_⟩
  refine PySem.W.exc_init_tree (cls := .ref C) (t0 := t3) (dv := none) (c2 := .none) (c3 := .none) (b4 := .bool false) ho4 hlen (fun h5 k5 e5 _ => ?_)
  have J5 := I4.write (t' := t4) (x := a) (e := a) (o := exo a C none) (by rw [ea]; exact True.intro) (.inl rfl) k5 ⟨_, e5⟩ (exo_ok e5)
  have eu : upd H4 a (exo a C none) = H4 := by
    funext b
    by_cases hb : b = a
    · rw [hb, upd_same, ea]
    · rw [upd_ne hb]
  rw [eu] at J5
  have J6 : Inv X [] [some (.ref a), some v] H4 _ := J5.pins_of (fun p hp => nomatch hp)
  have hps : PSs X [Stmt.Assign [(Expr.Name "self" p6).Attribute x p7] (Expr.Name x p8) p9] (tOst X.K x (tVar 0) (tVar 1)) :=
    pss_one (ps_ost (pe_var (by rw [hN]; rfl) (by rw [eE]; exact .inl T.ls) (by decide) (by decide)) (pe_var (by rw [hN]; rfl) (by rw [eE]; exact .inl T.lx) T.dx T.dc))
  show _root_.PySem.wpAt _ _ _ _ _ _ _
  refine wpAt_of_wpAny (wpAny_mono (hps.run [] _ _ H4 { nx := fun _ H' => Q .non H', rt := fun _ _ => False } J6 ?_) (fun fl s' hs => ?_) fun e s' hs => ?_)
  · exact ⟨_, rfl, _, rfl, a, C, rfl, S.cls, S.no, .inl ⟨ea, fun dx n ne => q dx n ne⟩⟩
  · cases fl with
    | ret u =>
      obtain ⟨v, σ', H', J, rv, q⟩ := hs
      exact False.elim q
    | next =>
      obtain ⟨σ', H', J, q⟩ := hs
      exact Z s' ⟨σ', H', J, q⟩
    | brk =>
      obtain ⟨_, _, _, q⟩ := hs
      exact False.elim q
    | cont =>
      obtain ⟨_, _, _, q⟩ := hs
      exact False.elim q
  · exact (hxe _ _ hs).elim
end

section
variable {P : Program} {w : World} {K : PySem.W.Frag} {mg : Str → Option Value} {base : Heap}
/-- what the top tells of such a class: at C, its __init__ at fI, its name nm, its field x -/
structure ValC (P : Program) (K : PySem.W.Frag) (mg : Str → Option Value) (C : Addr) (nm x : Str) : Prop where
  gC : mg nm = some (.ref C)
  ini : ∃ (fI cda cc : Addr) (qual : Str) (params : Arguments) (body : List Stmt) (scope : Scope) (kV doc pm ct oc : Value) (an od : Option Addr) (osl : Array (Option Value)),
    K.lookup fI = some ⟨oc, od, .func (PySem.W.ksFn "__init__" qual params body scope .none kV doc pm an (.ref cda) ct cc), osl⟩ ∧ PySem.W.codeIn K (.ref cda) qual = true ∧ IniT x params body scope ∧ SupC P K C cda cc x ∧
    PySem.W.findIn K (.ref C) "__init__" = some (some (.ref fI)) ∧ PySem.W.typeIn K (.ref fI) = some (.type "function") ∧ Binds K (PySem.W.ksFn "__init__" qual params body scope .none kV doc pm an (.ref cda) ct cc) ["self", x] []
  ms : mg "super" = none
  ex : ExcC K C
  sf : PySem.W.subIn K (.ref C) (.ref C) = some true
theorem ValC.oex {C : Addr} {nm x : Str} (T : ValC P K mg C nm x) : OexC K C := by
  obtain ⟨fI, cda, cc, qual, params, body, scope, kV, doc, pm, ct, oc, an, od, osl, _, _, _, S, _⟩ := T.ini
  exact S.cls
theorem ValC.raises {X : Cx} {C : Addr} {nm x : Str} (T : ValC P X.K X.mg C nm x) : Raises X (.ref C) := raises_own T.oex.exC T.oex.tyC
theorem ValC.meets {C : Addr} {nm x : Str} (T : ValC P K mg C nm x) : PySem.W.exmOne K (.ref C) (.ref C) = some true := PySem.W.exm_ref T.ex.hs T.ex.hd T.oex.tyC T.sf
theorem ValC.no {C : Addr} {nm x : Str} (T : ValC P K mg C nm x) : PySem.W.findIn K (.ref C) x = some none := by
  obtain ⟨fI, cda, cc, qual, params, body, scope, kV, doc, pm, ct, oc, an, od, osl, _, _, _, S, _⟩ := T.ini
  exact S.no
theorem ValC.xf {C : Addr} {nm x : Str} (T : ValC P K mg C nm x) : XfC K C := ⟨T.ex.hg, T.ex.hk, T.ex.hs, T.ex.hd⟩
theorem back_to {H1 : Hp} {a d C : Addr} {fs : List (Str × V)} (ha : H1 a = none) (hd : d ≠ a) :
    upd (del (upd (upd (upd H1 a (exo a C none)) d (exd d fs)) a (exo a C (some d))) a) d (.xd fs) = upd H1 d (.xd fs) := by
  funext b
  by_cases h1 : b = d
  · subst h1
    rw [upd_same, upd_same]
  · rw [upd_ne h1, upd_ne h1]
    by_cases h2 : b = a
    · subst h2
      rw [del_same, ha]
    · rw [del_ne h2, upd_ne h2, upd_ne h1, upd_ne h2]
/-- nm(e): the exception, its value -/
theorem pmk_val {X : Cx} {C : Addr} {nm x : Str} {e : Expr} {te : TE} {p pos : Pos} {j : Nat} (T : ValC X.prog X.K X.mg C nm x) (hr : Room j X.A) (hj : 2 ≤ j) (hg : Gl X nm) (he : PE X e te)
    (hdb : (nm == ("__debug__" : Str)) = false := by decide) (hs : starEach [e] X.env = (false, eval e X.env) :: starEach [] X.env := by rfl) :
    PMk X (.Call (.Name nm p) [e] [] pos) (tMkO C (spIni C x) [] (tCons te tNil)) := by
  obtain ⟨fI, cda, cc, qual, params, body, scope, kV, doc, pm, ct, oc, an, od, osl, lk, hcd, iT, S, fi, ti, bi⟩ := T.ini
  have F := fn_sup (P := X.prog) (w := X.w) (base := X.base) (CX := CX0) lk hcd iT S T.ms
  exact pmk_oex (X := X) (p := p) (pos := pos) (x := nm) S.cls fi ti F (hr.mono hj) bi .nil (fun _ _ _ _ _ _ _ z => z.elim) hg T.gC (pa_cons he pa_nil hs) hdb hs
theorem mkv {C : Addr} {x : Str} {v : V} {H1 : Hp} {Q : XK} (h : ∀ d, H1 d = none → Q (.ref C) (some d) (upd H1 d (.xd [(x, v)]))) : [v].length ≤ 1000 ∧ ∀ a, H1 a = none → spIni C x (.ref a :: ([v] ++ [])) (upd H1 a (exo a C none))
    (fun v H2 => v = .non ∧ ∃ (d : Addr) (fs : List (Str × V)), H2 a = some (exo a C (some d)) ∧ H2 d = some (exd d fs) ∧ H1 d = none ∧ Q (.ref C) (some d) (upd (del H2 a) d (.xd fs))) (fun _ _ _ => False) := by
  refine ⟨by show 1 ≤ 1000; decide, fun a ha => ⟨a, v, rfl, upd_same, fun dx hx hne => ⟨rfl, dx, [(x, v)], upd_same, ?_, ?_, ?_⟩⟩⟩
  · rw [upd_ne hne, upd_same]
  · rw [upd_ne hne] at hx
    exact hx
  · rw [back_to ha hne]
    rw [upd_ne hne] at hx
    exact h dx hx
/-! ### isinstance of a caught exception that has its dict -/
/-- in the suite -/
def rIsV (K : PySem.W.Frag) (D a dd : Addr) : List V → Hp → VK → Prop := fun xs H Q => ∃ (c : V) (cv : Value) (b : Bool) (fs : List (Str × V)), xs = [.ref a, c] ∧ (∀ u, RelV c u → u = cv) ∧ PySem.W.kitOne K (.ref D) cv = some b ∧ H dd = some (.xd fs) ∧ Q (.bl b) H
theorem call_isV {X : Cx} {a D dd : Addr} {oe : Obj} {pn : List (Addr × Obj)} (C : ExcC X.K D) (hz : Zc (.ref D) (some dd) oe) (hf : ∃ vs, oe.data = .fields vs) : CallR (X.suite a ((a, oe) :: pn)) (.builtin "isinstance") (rIsV X.K D a dd) := by
  intro pins s σ H xs us Q I r h
  obtain ⟨c, cv, b, fs, rfl, hcv, e, ed, q⟩ := h
  cases r with
  | cons rx rr =>
    cases rr with
    | cons rt rr =>
      cases rr
      cases rx
      obtain ⟨ge, _⟩ := I.pin (a, oe) (List.mem_append.mpr (.inl List.mem_cons_self))
      obtain ⟨vs, hv⟩ := hf
      obtain ⟨mA, hns, _⟩ := (show ObjOk X.prog X.w H s.heap dd (.xd fs) from I.hok dd _ ed)
      obtain ⟨od, _, _, ho, _⟩ := hns
      have J : PySem.W.InstAt s.heap a oe D (some od) := by
        obtain ⟨oc, od', oda, osl⟩ := oe
        obtain ⟨h1, h2⟩ := hz
        dsimp only at h1 h2 hv
        subst h1 h2 hv
        exact ⟨ge, rfl, rfl, ho⟩
      have hcl : (PySem.W.clsIn X.K D).isSome = true := by
        obtain ⟨cd, hc, _⟩ := PySem.W.any_some C.hd
        rw [hc]
        rfl
      have kx := PySem.W.kitx_exc (x := a) (ox := oe) (od := some od) hcl C.hg C.hk C.hs C.ha C.hn C.ht C.hm
      have ec := hcv _ rt
      subst ec
      exact PySem.W.kia_one kx I.kIn J e (fun z => nomatch z) fun tk => ⟨.bl b, H, I.kept (t' := tk) fun _ _ z => z, rfl, q⟩
end
end Lf
namespace Lf
open PySem PySem.Spec PyProof.Rows L2
/-! ### data of any kind -/
mutual
inductive Dv (H : Hp) : V → PyData → Prop
  | non : Dv H .non .none
  | bl (b : Bool) : Dv H (.bl b) (.bool b)
  | int (i : Int) : Dv H (.int i) (.int i)
  | str (x : Str) : Dv H (.str x) (.str x)
  | lst {a : Addr} {xs : List V} {ds : List PyData} : a ≠ 1 → H a = some (.lst xs) → DvAll H xs ds → Dv H (.ref a) (.list ds)
  | tup {a : Addr} {xs : List V} {ds : List PyData} : H a = some (.tup xs) → DvAll H xs ds → Dv H (.ref a) (.tuple ds)
  | dk0 {a : Addr} : H a = some (.dK []) → Dv H (.ref a) (.dict [])
  | dk1 {a : Addr} {x : Str} {v : V} {d : PyData} : H a = some (.dK [(Sum.inr x, v)]) → Dv H v d → Dv H (.ref a) (.dict [(.str x, d)])
inductive DvAll (H : Hp) : List V → List PyData → Prop
  | nil : DvAll H [] []
  | cons {v : V} {vs : List V} {d : PyData} {ds : List PyData} : Dv H v d → DvAll H vs ds → DvAll H (v :: vs) (d :: ds)
end
/-- what such data leans on stays -/
structure Kp (H H' : Hp) : Prop where
  l : ∀ b xs, H b = some (.lst xs) → H' b = some (.lst xs)
  t : ∀ b xs, H b = some (.tup xs) → H' b = some (.tup xs)
  d0 : ∀ b, H b = some (.dK []) → H' b = some (.dK [])
  d1 : ∀ b x v, H b = some (.dK [(Sum.inr x, v)]) → H' b = some (.dK [(Sum.inr x, v)])
theorem Fr.kp {H H' : Hp} (f : Fr H H') : Kp H H' := ⟨f.l, f.t, f.d0, fun b x v h => f.k _ _ h fun _ z => by cases z⟩
theorem ext_kp {H H' : Hp} (e : LamX.ExtN H H') : Kp H H' := ⟨fun _ _ h => e _ _ h (fun _ z => by cases z), fun _ _ h => e _ _ h (fun _ z => by cases z), fun _ h => e _ _ h (fun _ z => by cases z), fun _ _ _ h => e _ _ h (fun _ z => by cases z)⟩
mutual
theorem Dv.kp {H H' : Hp} (f : Kp H H') : ∀ (d : PyData) (v : V), Dv H v d → Dv H' v d
  | .none, _, .non => .non
  | .bool _, _, .bl b => .bl b
  | .int _, _, .int i => .int i
  | .str _, _, .str x => .str x
  | .list ds, _, .lst n h hs => .lst n (f.l _ _ h) (Dv.kpAll f ds _ hs)
  | .tuple ds, _, .tup h hs => .tup (f.t _ _ h) (Dv.kpAll f ds _ hs)
  | .dict [], _, .dk0 h => .dk0 (f.d0 _ h)
  | .dict [(.str _, d)], _, .dk1 h h2 => .dk1 (f.d1 _ _ _ h) (Dv.kp f d _ h2)
theorem Dv.kpAll {H H' : Hp} (f : Kp H H') : ∀ (ds : List PyData) (vs : List V), DvAll H vs ds → DvAll H' vs ds
  | [], _, .nil => .nil
  | d :: ds, _, .cons h hs => .cons (Dv.kp f d _ h) (Dv.kpAll f ds _ hs)
end
theorem Dv.fr {H H' : Hp} (f : Fr H H') (d : PyData) (v : V) (h : Dv H v d) : Dv H' v d := Dv.kp f.kp d v h
section
variable {X : Cx} {pins : List (Addr × Obj)} {σ : L2.St} {H : Hp} {s : Shared}
mutual
theorem Dv.reads (I : Inv X pins σ H s) : ∀ (d : PyData) (v : V) (u : Value), Dv H v d → RelV v u → ∃ as, Reads s.heap u d as ∧ sysModules ∉ as
  | .none, _, _, .non, r => by
    cases r
    exact ⟨_, Reads.none, by simp⟩
  | .bool b, _, _, .bl _, r => by
    cases r
    exact ⟨_, Reads.bool b, by simp⟩
  | .int i, _, _, .int _, r => by
    obtain ⟨t, rfl⟩ := r
    exact ⟨_, Reads.int i t, by simp⟩
  | .str x, _, _, .str _, r => by
    obtain ⟨t, rfl⟩ := r
    exact ⟨_, Reads.str x t, by simp⟩
  | .list ds, _, _, .lst n1 h hs, r => by
    cases r
    obtain ⟨its, rv, ⟨o, n, ho, hc, _, hd⟩, _⟩ := I.list (SqL.of h)
    obtain ⟨as, hr, ns⟩ := Dv.readsAll I ds _ its hs rv
    exact ⟨_, Reads.list ho hc hd hr, fun z => (List.mem_cons.mp z).elim (fun e => n1 e.symm) ns⟩
  | .tuple ds, _, _, .tup h hs, r => by
    cases r
    obtain ⟨its, rv, ⟨o, ho, hc, n, hd⟩, _⟩ := I.tuple (SqT.of h)
    obtain ⟨as, hr, ns⟩ := Dv.readsAll I ds _ its hs rv
    exact ⟨_, Reads.tuple ho hc hd hr, ns⟩
  | .dict [], _, _, .dk0 (a := a) h, r => by
    cases r
    obtain ⟨_, hne, vs, kv, o, es, ep, ho, hx, hd, hk, hp, hn⟩ := (show ObjOk X.prog X.w H s.heap a (.dK []) from I.hok a _ h)
    cases kv
    have he : es.toList = [] := by
      cases hE : es.toList with
      | nil => rfl
      | cons x y => rw [hE] at hp; cases hp
    refine ⟨_, Reads.dict (kvs := []) ho hx.1 hd (by rw [he]; exact .nil) (by rw [he]; exact .nil), ?_⟩
    intro z
    have z' : sysModules = a := by simpa using z
    rw [z'] at hne
    simp at hne
  | .dict [(.str x, d)], _, _, .dk1 (a := a) (v := v) h h2, r => by
    cases r
    obtain ⟨_, hne, vs, kv, o, es, ep, ho, hx, hd, hk, hp, hn⟩ := (show ObjOk X.prog X.w H s.heap a (.dK [(Sum.inr x, v)]) from I.hok a _ h)
    cases kv with
    | @cons _ q _ _ k1 k2 =>
      cases k2
      obtain ⟨qk, qv⟩ := q
      obtain ⟨ek, rv⟩ := k1
      dsimp only at ek rv
      subst ek
      obtain ⟨as, hr, ns⟩ := Dv.reads I d v qv h2 rv
      have hE : ∃ e t, es.toList = [e] ∧ e.key = .str x t ∧ e.val = qv := by
        generalize es.toList = l at hp
        cases hp with
        | @cons e _ es' _ hi hv hr =>
          cases hr
          rcases keyIs_shape (show keyIs (Sum.inr x) e.key = true from hi) with ⟨i, t, z, _⟩ | ⟨y, t, z, ev⟩
          · cases z
          · cases z
            exact ⟨e, t, rfl, ev, hv⟩
      obtain ⟨e, t, hE1, hE2, hE3⟩ := hE
      have q1 : ReadsAll s.heap (es.toList.map (·.key)) [PyData.str x] ([] ++ []) := by
        rw [hE1]
        simp only [List.map_cons, List.map_nil]
        rw [hE2]
        exact .cons (Reads.str x t) .nil
      have q2 : ReadsAll s.heap (es.toList.map (·.val)) [d] (as ++ []) := by
        rw [hE1]
        simp only [List.map_cons, List.map_nil]
        rw [hE3]
        exact .cons hr .nil
      refine ⟨_, Reads.dict (kvs := [(.str x, d)]) ho hx.1 hd q1 q2, fun z => ?_⟩
      have z' : sysModules = a ∨ sysModules ∈ as := by simpa using z
      rcases z' with z' | z'
      · rw [z'] at hne
        simp at hne
      · exact ns z'
theorem Dv.readsAll (I : Inv X pins σ H s) : ∀ (ds : List PyData) (vs : List V) (us : List Value), DvAll H vs ds → Vals vs us → ∃ as, ReadsAll s.heap us ds as ∧ sysModules ∉ as
  | [], _, _, .nil, r => by
    cases r
    exact ⟨_, ReadsAll.nil, by simp⟩
  | d :: ds, _, _, .cons h1 h2, r => by
    cases r with
    | cons r1 r2 =>
      obtain ⟨as, q1, n1⟩ := Dv.reads I d _ _ h1 r1
      obtain ⟨bs, q2, n2⟩ := Dv.readsAll I ds _ _ h2 r2
      exact ⟨_, ReadsAll.cons q1 q2, fun z => (List.mem_append.mp z).elim n1 n2⟩
end
end
/-- repr of such data -/
theorem repr_any {X : Cx} (gd : X.A.guards = some []) (hu : X.A.units + 70 < cLine) : CallR X (.builtin "repr") (fun xs H Q => ∃ (v : V) (d : PyData), xs = [v] ∧ Dv H v d ∧ d.showable = true ∧ d.depth ≤ 60 ∧ d.shown.length ≤ sizeLine ∧ Q (.str d.shown) H) := by
  intro pins s σ H xs us Q I rel h
  obtain ⟨v, d, rfl, dp, sw, dd, sz, hq⟩ := h
  obtain ⟨u, hu1, ru⟩ := vals1 rel
  subst hu1
  obtain ⟨as, rd, hsm⟩ := Dv.reads I d v u dp ru
  have big : ∀ a, u = Value.ref a → wpAny (model X.prog X.w) X.A (call (.builtin "repr") [u]) (EP X pins σ Q) X.xe s := fun a ea => by
    subst ea
    refine repr_of_reads' rd sw (fun _ => hsm) gd (by omega) (fun _ _ e => e) (fun h' u tk hk => ?_) sz
    exact ⟨.str d.shown, H, I.kept hk, ⟨u, rfl⟩, hq⟩
  cases dp with
  | non =>
    have eu : u = Value.none := ru
    subst eu
    exact PySem.P.repr_of_none ⟨.str "None", H, I.tok _, ⟨_, rfl⟩, hq⟩
  | bl b =>
    have eu : u = Value.bool b := ru
    subst eu
    refine PySem.P.repr_of_bool ⟨.str (if b then "True" else "False"), H, I.tok _, ⟨_, rfl⟩, ?_⟩
    cases b <;> exact hq
  | int i =>
    obtain ⟨t, rfl⟩ := ru
    refine PySem.P.repr_of_int (by simpa [PyData.showable] using sw) ⟨.str (toString i), H, I.tok _, ⟨_, rfl⟩, hq⟩
  | str x =>
    obtain ⟨t, rfl⟩ := ru
    exact PySem.P.repr_of_str ⟨.str (reprText x), H, I.tok _, ⟨_, rfl⟩, hq⟩ sz
  | lst _ h hs => exact big _ ru
  | tup h hs => exact big _ ru
  | dk0 h => exact big _ ru
  | dk1 h h2 => exact big _ ru
/-- the name of its type -/
def tyN : PyData → String
  | .none => "NoneType"
  | .bool _ => "bool"
  | .int _ => "int"
  | .str _ => "str"
  | .list _ => "list"
  | .tuple _ => "tuple"
  | .dict _ => "dict"
def isB : PyData → Bool
  | .bool _ => true
  | _ => false
def isIB : PyData → Bool
  | .bool _ => true
  | .int _ => true
  | _ => false
/-- an integer, not a bool -/
def isI : PyData → Bool
  | .int _ => true
  | _ => false
theorem Dv.ty {K : PySem.W.Frag} {H : Hp} {v : V} {d : PyData} (h : Dv H v d) : TyX K H v (.type (tyN d)) := by
  cases h with
  | non => exact .base .non
  | bl b => exact .base (.bl b)
  | int i => exact .base (.int i)
  | str x => exact .base (.str x)
  | lst _ h _ => exact .base (.lst h)
  | tup h _ => exact .base (.tup h)
  | dk0 h => exact .base (.dK h)
  | dk1 h _ => exact .base (.dK h)
theorem kit_int (d : PyData) : kitB (tyN d) "int" = some (isIB d) := by
  cases d
  · show kitB "NoneType" "int" = some false; decide +kernel
  · show kitB "bool" "int" = some true; decide +kernel
  · show kitB "int" "int" = some true; decide +kernel
  · show kitB "str" "int" = some false; decide +kernel
  · show kitB "list" "int" = some false; decide +kernel
  · show kitB "tuple" "int" = some false; decide +kernel
  · show kitB "dict" "int" = some false; decide +kernel
theorem kit_bool (d : PyData) : kitB (tyN d) "bool" = some (isB d) := by
  cases d
  · show kitB "NoneType" "bool" = some false; decide +kernel
  · show kitB "bool" "bool" = some true; decide +kernel
  · show kitB "int" "bool" = some false; decide +kernel
  · show kitB "str" "bool" = some false; decide +kernel
  · show kitB "list" "bool" = some false; decide +kernel
  · show kitB "tuple" "bool" = some false; decide +kernel
  · show kitB "dict" "bool" = some false; decide +kernel
/-- a new list is not where the modules are -/
def tLst1 (t : TA) : TE := fun σ H Q => t σ H fun xs H1 => xs.length ≤ sizeLine ∧ ∀ l, H1 l = none → l ≠ 1 → Q (.ref l) (upd H1 l (.lst xs))
theorem pe_lst1 {X : Cx} {es : List Expr} {t : TA} {pos : Pos} (h : L2.PA X es t) : PE X (.List es pos) (tLst1 t) := by
  constructor
  intro pins s σ H Q I hq
  refine wpAny_List_spliced (thn (h.run pos pins s σ H _ I hq) fun us s1 ⟨xs, H1, J, r, z, q⟩ => ?_)
  refine ⟨r.length ▸ z, ?_⟩
  have fresh := J.hok.fresh (Nat.le_refl s1.heap.objs.size)
  have n1 : s1.heap.objs.size ≠ 1 := by
    obtain ⟨o, _, _, e, _⟩ := J.mod.glob
    have lt := Heap.lt_size (J.bk _ _ e)
    intro c
    rw [c] at lt
    exact absurd lt (by decide)
  refine ⟨.ref s1.heap.objs.size, upd H1 s1.heap.objs.size (.lst xs), ?_, rfl, q _ fresh n1⟩
  exact J.laid (t' := s1.toks) (fun b u e => Heap.get?_push_of_some _ e) (Nat.le_refl _) ⟨z, us, 0, r, Heap.get?_push_size _ rfl⟩
end Lf
namespace Lf
open PySem PySem.Spec PyProof.Rows L2
/-! ### enumerate of a tuple; of a list or a tuple -/
set_option maxHeartbeats 4000000 in
theorem meets_enum1 {v : Value} {o : Obj} {G : Heap → Prop} (B : Begins v o G) :
    Meets (Builtin.«enumerate.__new__» ⟨[.type "enumerate", v], []⟩) (fun _ R s => G s.heap ∧
      R (.ok (.ret (.ref (s.heap.push o).objs.size))) { s with heap := (s.heap.push o).push { cls := .type "enumerate", data := .fields #[.none, .bool false, .ref s.heap.objs.size, rawInt 0, .none, .none] } }) :=
  .of_wp fun prog w A R s h => by
    obtain ⟨hp, g, d, tk, os⟩ := s
    obtain ⟨h1, h⟩ := h
    have hsub := sub_enumerate
    have q1 : ∀ {A' : Around} {E : Value → Shared → Prop} {Q : Value → Shared → Prop}, Q (.ref hp.objs.size) ⟨hp.push o, g, d, tk, os⟩ → wpAny (model prog w) A' (pyIter v) Q E ⟨hp, g, d, tk, os⟩ :=
      fun q => B.iter prog w _ _ ⟨hp, g, d, tk, os⟩ _ h1 q
    wp_walk using q1
    refine wpAny_stack_any fun st => wpAny_pure ?_
    split
    · rename_i c _ _ _ _ _
      cases (c == Value.type "enumerate")
      · wp_walk using q1
        exact ⟨_, rfl, h⟩
      · wp_walk using q1
        exact ⟨_, rfl, h⟩
    · wp_walk using q1
      exact ⟨_, rfl, h⟩
theorem enum_begins1 {prog : Program} {w : World} {A : Around} {E : Value → Shared → Prop} {s : Shared} {v : Value} {o : Obj} {G : Heap → Prop} {Q : Value → Shared → Prop} (B : Begins v o G) (h1 : G s.heap)
    (h : ∀ h', IsEnum h' (s.heap.objs.size + 1) s.heap.objs.size 0 .none → h'.get? s.heap.objs.size = some o → h'.objs.size = s.heap.objs.size + 2 →
      (∀ b o, s.heap.get? b = some o → h'.get? b = some o) → Q (.ref (s.heap.objs.size + 1)) { s with heap := h' }) :
    wpAny (model prog w) A (call (.type "enumerate") [v]) Q E s := by
  refine callType_new F.called_enumerate (by decide) (F.typeCall_enumerate_1 _) (F.newCall_enumerate_1 _) (fun obj => F.args_object_init_2 obj _) F.entry_enumerate_new
    (meets_enum1 B) ⟨h1, ?_⟩
  have hz : (s.heap.push o).objs.size = s.heap.objs.size + 1 := Heap.size_push ..
  show _ ∧ _
  rw [hz]
  have he : IsEnum ((s.heap.push o).push { cls := .type "enumerate", data := .fields #[.none, .bool false, .ref s.heap.objs.size, rawInt 0, .none, .none] }) (s.heap.objs.size + 1) s.heap.objs.size 0 .none := by
    have := Heap.get?_push_size (s.heap.push o) (o := { cls := .type "enumerate", data := .fields #[.none, .bool false, .ref s.heap.objs.size, rawInt 0, .none, .none] }) rfl
    rw [hz] at this
    exact this
  exact ⟨⟨_, he, rfl⟩, h _ he (Heap.get?_push_of_some _ (Heap.get?_push_size _ B.free)) (by rw [Heap.size_push, hz]) fun b o x => Heap.get?_push_of_some _ (Heap.get?_push_of_some _ x)⟩
def IteT (K : PySem.W.Frag) (a : Addr) : It :=
  ⟨fun i H => ∃ (xs : List V) (x : V), SqT K H a xs ∧ xs[i]? = some x, fun i H v H' => ∃ T x, v = .ref T ∧ H T = none ∧ H' = upd H T (.tup [.int (i : Nat), x]) ∧ ∀ xs, SqT K H a xs → xs[i]? = some x, fun i H => ∃ xs : List V, SqT K H a xs ∧ xs.length = i⟩
theorem turn_enumT {P : Program} {w : World} {K : PySem.W.Frag} {elts : List Expr} {kk : Nat} {tpos : Pos} (a e it : Addr) (ne1 : e ≠ it) (ne2 : a ≠ it) (ne3 : e ≠ a) :
    Turn P w K (.Tuple elts kk tpos) (IteT K a) [e, it] e (fun i h => (∃ old, IsEnum h e it ((i : Nat) : Int) old) ∧ h.IsTupleIter it a i) where
  mem := by simp
  obj := fun i h st b hb => by
    obtain ⟨⟨old, he⟩, ⟨o, ho, hc, hd⟩⟩ := st
    have e' : b = e ∨ b = it := by simpa using hb
    rcases e' with z | z
    · rw [z]; exact ⟨_, he, fun v q => nomatch q⟩
    · rw [z]; exact ⟨o, ho, fun v q => by rw [hd] at q; cases q⟩
  keep := fun i h h' st k => let ⟨⟨old, he⟩, hi⟩ := st; ⟨⟨old, k e (by simp) _ he⟩, hi.at fun o q => k it (by simp) o q⟩
  item := by
    intro X hP hw hK hc i pins s σ H E I hf st hg
    subst hP hw hK
    obtain ⟨⟨old, he⟩, hit⟩ := st
    obtain ⟨xs, x, hq, hx⟩ := hg
    obtain ⟨its, rv, p, hz⟩ := I.tuple hq
    obtain ⟨u, hu, ru⟩ := rv.get hx
    have hel : e < s.heap.objs.size := Heap.lt_size he
    have hil : it < s.heap.objs.size := by obtain ⟨_, q, _⟩ := hit; exact Heap.lt_size q
    have hlt : i < its.toArray.size := by
      have := (List.getElem?_eq_some_iff.mp hu).1
      simpa using this
    have D := Draws.tuple (prog := X.prog) (w := X.w) (A := X.A.in1) (I.ok.hd hc) it a ne2 its.toArray
    refine wpAny_pyNext_enum_itemD D he ⟨hit, p⟩ hlt ne1 (by simp [ne1, ne3]) fun x' h' tk hP ho hit' hT hsz hk => ?_
    have eu : x' = u := by
      have hP : its.toArray[i]? = some x' := hP
      rw [show its.toArray[i]? = some u by simpa using hu] at hP
      exact (Option.some.inj hP).symm
    subst eu
    refine ⟨_, rfl, wpAny_letOwnedTupleGo_enum (s := { s with heap := h', toks := tk + 1 }) ho fun h'' he' sb => ?_⟩
    have hT2 : h''.get? s.heap.objs.size = some { cls := .type "tuple", data := .seq #[.int i tk, x'] } := (sb.2 _ (Nat.ne_of_gt hel)).trans hT
    have new : ObjOk X.prog X.w (upd H s.heap.objs.size (.tup [.int (i : Nat), x])) h'' s.heap.objs.size (.tup [.int (i : Nat), x]) :=
      ⟨by show 2 ≤ sizeLine; decide, [.int i tk, x'], .cons ⟨_, rfl⟩ (.cons ru .nil), ⟨_, hT2, rfl, _, rfl⟩⟩
    have I1 : Inv X pins σ (upd H s.heap.objs.size (.tup [.int (i : Nat), x])) { s with heap := h'', toks := tk + 1 } :=
      I.turnedNew (ch := [e, it]) (fun b ob hb q => (sb.2 b (fun z => hb (by simp [z]))).trans (hk b ob (fun z => hb (by simp [z])) (fun z => hb (by simp [z])) q)) hf (Nat.le_refl _) new
    refine ⟨.ref s.heap.objs.size, _, I1, rfl, ⟨_, x, rfl, I.hok.fresh (Nat.le_refl _), rfl, fun ys hy => by rw [I.tuple_inj hy hq]; exact hx⟩, ⟨⟨x', ?_⟩, hit'.1.at fun o q => (sb.2 it (Ne.symm ne1)).trans q⟩, fun b hb => ?_⟩
    · have e1 : ((i + 1 : Nat) : Int) = (i : Int) + 1 := by omega
      rw [e1]; exact he'
    · have hb' : b < s.heap.objs.size := by
        have e' : b = e ∨ b = it := by simpa using hb
        rcases e' with z | z
        · rw [z]; exact hel
        · rw [z]; exact hil
      rw [upd_ne (Nat.ne_of_lt hb')]
      exact (hf b hb).1
  done := by
    intro X hP hw hK hc i pins s σ H E I hf st hg
    subst hP hw hK
    obtain ⟨⟨old, he⟩, hit⟩ := st
    obtain ⟨xs, hq, hx⟩ := hg
    obtain ⟨its, rv, p, hz⟩ := I.tuple hq
    obtain ⟨f0, f1, f2, f3, f4, f5⟩ := hf it (by simp)
    have hl := rv.length
    have ei : i = its.toArray.size := by
      simp
      omega
    have D := Draws.tuple (prog := X.prog) (w := X.w) (A := X.A.in1) (I.ok.hd hc) it a ne2 its.toArray
    refine wpAny_pyNext_enum_endD D he ⟨ei ▸ hit, p⟩ fun h' eb => ⟨rfl, I.turned (t' := s.toks) (fun b o hb q => eb b o hb q) f0 f1 f3 f4 f5⟩
  self := fun A i s Q E st h => let ⟨⟨_, he⟩, _⟩ := st; wpAny_pyIter_enum he h
/-! ### a list or a tuple -/
def SqB (K : PySem.W.Frag) : Bool → Hp → Addr → List V → Prop
  | true => SqL K
  | false => SqT K
def sqO : Bool → List V → HO
  | true, xs => .lst xs
  | false, xs => .tup xs
theorem SqB.of {K : PySem.W.Frag} {b : Bool} {H : Hp} {a : Addr} {xs : List V} (h : H a = some (sqO b xs)) : SqB K b H a xs := by
  cases b
  · exact SqT.of h
  · exact SqL.of h
def Itb (K : PySem.W.Frag) : Bool → Addr → It
  | true => Itl K
  | false => Itt K
def IteB (K : PySem.W.Frag) : Bool → Addr → It
  | true => Ite K
  | false => IteT K
theorem walk_seq {K : PySem.W.Frag} {b : Bool} {a : Addr} {xs : List V} : Walk (Itb K b a) xs.length (fun H => SqB K b H a xs) (YAt xs) := by
  cases b
  · exact walk_tup
  · exact walk_list
theorem walk_enumT {K : PySem.W.Frag} {a : Addr} {xs : List V} : Walk (IteT K a) xs.length (fun H => SqT K H a xs) (YPair (fun i => some (.int (i : Nat))) (fun i => xs[i]?)) := by
  refine ⟨fun i _ hi q => ⟨xs, xs[i], q, by simp [hi]⟩, fun _ q => ⟨xs, q, rfl⟩, fun i H v H' _ q y => ?_⟩
  obtain ⟨T, x, h1, h2, h3, h4⟩ := y
  exact ⟨T, .int (i : Nat), x, h1, h2, h3, rfl, h4 xs q⟩
theorem walk_enumB {K : PySem.W.Frag} {b : Bool} {a : Addr} {xs : List V} : Walk (IteB K b a) xs.length (fun H => SqB K b H a xs) (YPair (fun i => some (.int (i : Nat))) (fun i => xs[i]?)) := by
  cases b
  · exact walk_enumT
  · exact walk_enum
def iSeq (K : PySem.W.Frag) (tl : TE) : TI := fun σ H R => tl σ H fun x H1 => ∃ a b xs, x = .ref a ∧ SqB K b H1 a xs ∧ R (Itb K b a) H1
theorem pi_seq {X : Cx} {tg l : Expr} {tl : TE} (hl : PE X l tl) : PI X tg l (iSeq X.K tl) := by
  refine ⟨fun pins s σ H R I h => ?_⟩
  refine thn (hl.run pins s σ H _ I h) fun v s1 ⟨x, H1, I1, r1, q1⟩ => ?_
  obtain ⟨a, b, xs, e, hq, q⟩ := q1
  subst e
  cases r1
  cases b with
  | true =>
    obtain ⟨its, rv, p, hz⟩ := I1.list hq
    refine wpAny_pyIter_list p.isList ?_
    refine ⟨s1.heap.objs.size, [s1.heap.objs.size], _, _, H1, rfl, I1.kept (t' := s1.toks) fun b o e => Heap.get?_push_of_some _ e, turn_list a _, ⟨_, Heap.get?_push_size _ rfl, rfl, rfl⟩, fun b hb => ?_, q⟩
    have e : b = s1.heap.objs.size := by simpa using hb
    subst e
    exact I1.fpOk (Nat.le_refl _) (I1.hok.fresh (Nat.le_refl _))
  | false =>
    obtain ⟨its, rv, p, hz⟩ := I1.tuple hq
    refine wpAny_pyIter_tuple (show s1.heap.IsTuple a its.toArray from p) ?_
    refine ⟨s1.heap.objs.size, [s1.heap.objs.size], _, _, H1, rfl, I1.kept (t' := s1.toks) fun b o e => Heap.get?_push_of_some _ e, turn_tuple a _, ⟨_, Heap.get?_push_size _ rfl, rfl, rfl⟩, fun b hb => ?_, q⟩
    have e : b = s1.heap.objs.size := by simpa using hb
    subst e
    exact I1.fpOk (Nat.le_refl _) (I1.hok.fresh (Nat.le_refl _))
def iEnumB (K : PySem.W.Frag) (ta : TA) : TI := fun σ H R => ta σ H fun vs H1 => ∃ a b xs, vs = [.ref a] ∧ SqB K b H1 a xs ∧ R (IteB K b a) H1
theorem pi_enumB {X : Cx} {e : Expr} {ta : TA} {p pos tpos : Pos} {elts : List Expr} {kk : Nat} (hg : Gl X "enumerate") (hm : X.mg "enumerate" = none) (ha : L2.PA X [e] ta) (hs : starEach [e] X.env = [(false, eval e X.env)] := by rfl) :
    PI X (.Tuple elts kk tpos) (.Call (.Name "enumerate" p) [e] [] pos) (iEnumB X.K ta) := by
  refine ⟨fun pins s σ H R I h => ?_⟩
  refine Call_ (ld_blt I hg hm boot_enumerate (PyProof.Rows.callWith_type1 (thn (ha.run pos pins s σ H _ I h) fun us s1 ⟨vs, H1, I1, r1, q1⟩ => ?_) hs rfl))
  obtain ⟨a, b, xs, ex, hq, q⟩ := q1
  subst ex
  cases r1 with
  | cons r rr =>
    cases rr
    cases r
    cases b with
    | true =>
      obtain ⟨its, rv, p', hz⟩ := I1.list hq
      refine call_enumerate_list p'.isList fun h' he hit hsz hk => wpAny_pyIter_enum he ?_
      have I2 : Inv X pins σ H1 { s1 with heap := h' } := I1.kept (t' := s1.toks) hk
      refine ⟨s1.heap.objs.size + 1, [s1.heap.objs.size + 1, s1.heap.objs.size], _, _, H1, rfl, I2, turn_enum a (s1.heap.objs.size + 1) s1.heap.objs.size, ⟨⟨.none, he⟩, hit, Nat.succ_ne_self _⟩, fun b hb => ?_, q⟩
      have e' : b = s1.heap.objs.size + 1 ∨ b = s1.heap.objs.size := by simpa using hb
      have hle : s1.heap.objs.size ≤ b := by
        rcases e' with z | z
        · rw [z]; exact Nat.le_add_right _ _
        · rw [z]; exact Nat.le_refl _
      exact I1.fpOk hle (I1.hok.fresh hle)
    | false =>
      obtain ⟨its, rv, p', hz⟩ := I1.tuple hq
      have hal : a < s1.heap.objs.size := by
        obtain ⟨_, q, _⟩ := p'
        exact Heap.lt_size q
      refine enum_begins1 (begins_tuple a its.toArray) p' fun h' he hit hsz hk => wpAny_pyIter_enum he ?_
      have I2 : Inv X pins σ H1 { s1 with heap := h' } := I1.kept (t' := s1.toks) hk
      refine ⟨s1.heap.objs.size + 1, [s1.heap.objs.size + 1, s1.heap.objs.size], _, _, H1, rfl, I2, turn_enumT a (s1.heap.objs.size + 1) s1.heap.objs.size (Nat.succ_ne_self _) (Nat.ne_of_lt hal) (Nat.ne_of_gt (Nat.lt_succ_of_lt hal)), ⟨⟨.none, he⟩, ⟨_, hit, rfl, rfl⟩⟩, fun b hb => ?_, q⟩
      have e' : b = s1.heap.objs.size + 1 ∨ b = s1.heap.objs.size := by simpa using hb
      have hle : s1.heap.objs.size ≤ b := by
        rcases e' with z | z
        · rw [z]; exact Nat.le_add_right _ _
        · rw [z]; exact Nat.le_refl _
      exact I1.fpOk hle (I1.hok.fresh hle)
end Lf
namespace Lf
open PySem PySem.Spec PyProof.Rows L2
section
variable {P : Program} {w : World} {K : PySem.W.Frag} {mg : Str → Option Value} {base : Heap}
/-! ### _law_draw -/
theorem at_mod (cs : List Int) (t : Int) (h : cs ≠ []) : ∃ c, atI (cs.map V.int) (t % ((cs.map V.int).length : Int)) = some (.int c) := by
  have hl : 0 < cs.length := List.length_pos_iff.mpr h
  rw [List.length_map]
  have h0 := Int.emod_nonneg t (show (cs.length : Int) ≠ 0 by omega)
  have h1 := Int.emod_lt_of_pos t (show (0 : Int) < cs.length by omega)
  generalize t % (cs.length : Int) = i at h0 h1
  obtain ⟨j, rfl⟩ := Int.eq_ofNat_of_zero_le h0
  have hj : j < cs.length := by omega
  refine ⟨cs[j], atI_nat ?_⟩
  rw [List.getElem?_map, List.getElem?_eq_getElem hj]
  rfl
theorem dp_ints {K : PySem.W.Frag} {H : Hp} : ∀ cs : List Int, DpAll K H (cs.map V.int) (cs.map PyData.int)
  | [] => .nil
  | c :: r => .cons (.int c) (dp_ints r)
theorem sh_ints (cs : List Int) : SeqAt.shaped (.list (cs.map PyData.int)) = true := by
  have h : ∀ cs : List Int, PyData.canLayAll0 (cs.map PyData.int) = true ∧ PyData.depthAll (cs.map PyData.int) = 0 := by
    intro cs
    induction cs with
    | nil => exact ⟨rfl, rfl⟩
    | cons c r ih => exact ⟨by simpa [PyData.canLayAll0, PyData.canLay0] using ih.1, by simpa [PyData.depthAll, PyData.depth] using ih.2⟩
  simp [SeqAt.shaped, PyData.canLay0, PyData.depth, (h cs).1, (h cs).2]
def spDraw : Sp := fun vs H Q _ => ∃ (a : PA) (n : Nat) (many : Int), vs = [.ref a, .int many] ∧ Pen H a n ∧ n < 2 ^ 40 ∧ 0 < many ∧ Bd 9000 many ∧
  ∀ d H', 0 ≤ d → d < many → Pen H' a (n + 1) → Fr H H' → Q (.int d) H'
end
end Lf
namespace Lf
open PySem PySem.Spec PyProof.Rows L2
/-! ### powers of any size that fits -/
def CPowW (i j : Int) : Prop := 0 ≤ j ∧ (Builtin.Int.intBits i : Int) * j ≤ 2 ^ 27
theorem op_powW {X : Cx} : OpR X (binaryOp .Pow) (rI CPowW fun i j => .int (i ^ j.toNat)) := opI fun _ _ _ _ _ _ _ hc q => pow_int hc.1 hc.2 q
section
variable {P : Program} {w : World} {K : PySem.W.Frag} {mg : Str → Option Value} {base : Heap}
/-! ### _law_start -/
def spStart (K : PySem.W.Frag) : Sp := fun vs H Q _ => ∃ (s : Addr) (ns : List Int), vs = [.ref s] ∧ SqL K H s (ns.map V.int) ∧ ∀ (a : PA) H', Pen H' a 0 → Same H H' → Q (.ref a) H'
abbrev s_l_start : Stmt := topS 63
abbrev N_l_start : List Str := ["_law_script", "_law_limit", "_law_cell"]
abbrev P_l_start : List Str := ["_law_script"]
theorem sc_l_start : FnScope N_l_start P_l_start (defScope s_l_start) := ⟨rfl, rfl, rfl, by decide +kernel, rfl, by decide +kernel, by decide +kernel⟩
theorem ok_l_start (D : Df K mg "_law_start" s_l_start P_l_start) (B : Bi mg) : C8.Cal P w K mg base 1 "_law_start" (spStart K) [] := by
  refine cal_of D sc_l_start (fun vs H Q E h => ?_) (fun f cdv A outer s H vs Q E hr h => ?_)
  · obtain ⟨a, ns, rfl, _⟩ := h
    rfl
  · obtain ⟨a, ns, rfl, hS, q⟩ := h
    refine ⟨_, (C8.pss_cut (ps_set (i := 1) sc_l_start.nd rfl (Or.inr rfl) (pe_op op_powW (pe_op op_pow pe_int pe_int) pe_int))
    (pss_one (ps_ret (pe_disp (pps_cons pe_str (pe_lc (own := [("_law_cell", 2)]) (g := (gName 2)) (by rfl) sc_l_start.nd (pi_list (pe_slice sl_list (pv 0) po_none (po_some pe_int))) (blkOk_by (own := [("_law_cell", 2)]) (N := N_l_start) (sc := defScope s_l_start) (by decide +kernel)) (fun _ _ _ _ _ => (pg_name (i := 2) sc_l_start.nd rfl (Or.inl rfl))) (fun _ _ _ _ _ => pts_nil) (fun _ _ _ _ _ => (pe_ifExp (pt_cmpR op_ge (pe_callB (call_abs) (by rfl) B.abs_ bt_abs (pa_cons (pv 2) pa_nil)) (pe_op op_pow pe_int pe_int) (nomark _)) (pe_op op_mod (pe_callB (call_abs) (by rfl) B.abs_ bt_abs (pa_cons (pv 2) pa_nil)) (pv 1)) (pv 2)))) (pps_cons pe_str pe_int (pps_cons pe_str pe_int pps_nil))) (by rfl) (by rfl) (fun z => by cases z) (by decide))))), ?_⟩
    refine ⟨fun σ' H' => ∃ lim : Int, 0 < lim ∧ σ' = [some (.ref a), some (.int lim), none] ∧ H' = H, ?_, ?_⟩
    · refine ⟨_, _, rfl, rfl, ⟨by decide, by decide, by decide⟩, _, _, rfl, rfl, ⟨by decide, by decide +kernel⟩, ?_⟩
      exact ⟨_, Int.pow_pos (Int.pow_pos (by decide)), rfl, rfl⟩
    rintro σ' H1 ⟨lim, l0, rfl, rfl⟩
    refine fun p np => ?_
    have s1 : Same H1 (upd H1 p (.dK [])) := sm_upd np
    have ep := upd_same (H := H1) (a := p) (o := .dK [])
    refine ⟨_, rfl, 63, rfl, a, _, rfl, s1.seq hS, fun c nc => ?_⟩
    obtain ⟨cs, ec, hc⟩ := cut_ints ns
    rw [ec]
    have s2 := sm_upd (o := .lst (cs.map V.int)) nc
    have ec2 := upd_same (H := upd H1 p (.dK [])) (a := c) (o := .lst (cs.map V.int))
    have ep := s2 _ _ ep
    have s12 := s1.trans s2
    generalize upd (upd H1 p (.dK [])) c (.lst (cs.map V.int)) = H2 at ep ec2 s12 ⊢
    refine ⟨c, rfl, ⟨_, SqL.of ec2⟩, fun Y nY => ?_⟩
    have npY : p ≠ Y := ne_of_none ep nY
    refine lc_it (walk_list (K := K) (a := c) (xs := cs.map V.int)) (fun i H' => ∃ zs : List Int, H' Y = some (.lst (zs.map V.int)) ∧ zs.length ≤ i ∧ Same H2 H') ⟨[], upd_same, Nat.le_refl _, sm_upd nY⟩ ?_ ?_ ?_
    · rintro i H7 _ ⟨_, _, _, s7⟩
      exact SqL.of (s7 _ _ ec2)
    · rintro i x _ H7 hi ⟨zs, eY, lz, s7⟩ ⟨rfl, hx⟩
      have hi6 : i < cs.length := by
        have := (List.getElem?_eq_some_iff.mp hx).1
        rwa [List.length_map] at this
      obtain ⟨z, rfl⟩ : ∃ z, x = V.int z := by
        obtain ⟨z, _, e⟩ := List.mem_map.mp (List.mem_of_getElem? hx)
        exact ⟨z, e.symm⟩
      have fin : ∀ y : Int, ∃ acc, H7 Y = some (.lst acc) ∧ acc.length < sizeLine ∧ (fun i H' => ∃ zs : List Int, H' Y = some (.lst (zs.map V.int)) ∧ zs.length ≤ i ∧ Same H2 H') (i + 1) (upd H7 Y (.lst (acc ++ [.int y]))) := fun y => by
        refine ⟨zs.map V.int, eY, small1000 (by rw [List.length_map]; omega), zs ++ [y], ?_, by rw [List.length_append]; show zs.length + 1 ≤ _; omega, fun b o eb => ?_⟩
        · rw [upd_same, List.map_append]
          rfl
        · rw [upd_ne (ne_of_none eb nY)]
          exact s7 _ _ eb
      refine ⟨rfl, _, rfl, z, rfl, _, _, rfl, rfl, ⟨by decide, by decide, by decide⟩, _, _, rfl, rfl, _, rfl, ite2 (fun _ => ?_) (fun _ => ?_)⟩
      · refine ⟨_, rfl, z, rfl, _, rfl, _, _, rfl, rfl, l0, ?_⟩
        exact fin _
      · exact ⟨_, rfl, fin _⟩
    rintro H7 ⟨zs, eY, lz, s7⟩
    have lz : zs.length ≤ 63 := by rw [List.length_map] at lz; omega
    refine ⟨s7 _ _ ep, penD Y 0 0, rfl, by show 3 ≤ 15; decide, ?_⟩
    have e : mergeK [] (penD Y 0 0) = penD Y 0 0 := by
      simp [mergeK, penD, putK, sct, scr, str_]
    rw [e]
    refine q ⟨p, Y⟩ _ ⟨zs, 0, 0, upd_same, ?_, lz, by omega, by omega, by omega⟩ ?_
    · show upd _ p _ Y = _
      rw [upd_ne npY.symm]
      exact eY
    · intro b o eb
      rw [upd_ne (ne_of_none eb np)]
      exact s7 _ _ (s12 _ _ eb)
/-! ### _law_draw -/
abbrev s_l_draw : Stmt := topS 64
abbrev N_l_draw : List Str := ["_law_state", "_law_size", "_law_digit", "_law_at", "_law_cell", "_law_mixed_here", "_law_step"]
abbrev P_l_draw : List Str := ["_law_state", "_law_size"]
theorem sc_l_draw : FnScope N_l_draw P_l_draw (defScope s_l_draw) := ⟨rfl, rfl, rfl, by decide +kernel, rfl, by decide +kernel, by decide +kernel⟩
theorem ok_l_draw (D : Df K mg "_law_draw" s_l_draw P_l_draw) (B : Bi mg) : C8.Cal P w K mg base 1 "_law_draw" spDraw [] := by
  refine cal_of D sc_l_draw (fun vs H Q E h => ?_) (fun f cdv A outer s H vs Q E hr h => ?_)
  · obtain ⟨a, n, many, rfl, _⟩ := h
    rfl
  · obtain ⟨⟨a, l⟩, n, many, rfl, hP, hn, h0, hb, q⟩ := h
    have hu := hu_of hr
    have hd : CDivW 0 many := ⟨h0, hb.log (by decide)⟩
    obtain ⟨cs, t, r, ea, el, hl, ht0, htn, hr0⟩ := hP.ex
    have ea : H a = some (.dK (penD l t r)) := ea
    have el : H l = some (.lst (cs.map V.int)) := el
    refine ⟨_, (pss_cons (ps_if (pt_cmpR op_gt (pe_dget hu (pv 0) pe_str (fun _ _ => rfl)) pe_int (nomark _))
      (pss_cons (ps_set (i := 2) sc_l_draw.nd rfl (Or.inl rfl) (pe_op op_mod (pe_dget hu (pv 0) pe_str (fun _ _ => rfl)) (pv 1)))
    (pss_cons (ps_dput hu (pv 0) pe_str (pe_op op_fdivW (pe_dget hu (pv 0) pe_str (fun _ _ => rfl)) (pv 1)) rfl)
    (pss_one (ps_ret (pv 2)))))
      pss_nil)
    (pss_cons (ps_set (i := 3) sc_l_draw.nd rfl (Or.inl rfl) (pe_dget hu (pv 0) pe_str (fun _ _ => rfl)))
    (pss_cons (ps_dput hu (pv 0) pe_str (pe_op op_add (pv 3) pe_int) rfl)
    (C8.pss_cut (ps_set (i := 4) sc_l_draw.nd rfl (Or.inl rfl) (pe_op op_add (pe_op op_mul (pv 3) (pv 3)) pe_int))
    (C8.pss_cut (ps_if (pt_cmpR (op_neD hr.units) (pe_dget hu (pv 0) pe_str (fun _ _ => rfl)) (pe_lst pa_nil) (nomark _))
      (pss_one (ps_set (i := 4) sc_l_draw.nd rfl (Or.inl rfl) (pe_ix (r := rIxL K) ix_list (pe_dget hu (pv 0) pe_str (fun _ _ => rfl)) (pe_op op_mod (pv 3) (pe_callB (call_len_seq) (by rfl) B.len_ bt_len (pa_cons (pe_dget hu (pv 0) pe_str (fun _ _ => rfl)) pa_nil))) (fun _ _ => rfl))))
      pss_nil)
    (C8.pss_cut (ps_if (PW.pt (pw_and (pt_cmpR op_lt (pv 3) (pe_callB (call_len_seq) (by rfl) B.len_ bt_len (pa_cons (pe_dget hu (pv 0) pe_str (fun _ _ => rfl)) pa_nil)) (nomark _)) (pw_and1 (pt_cmpR op_ge (pv 4) (pe_op op_pow pe_int pe_int) (nomark _)))))
      (pss_cons (ps_dput hu (pv 0) pe_str (pe_op op_fdivW (pv 4) (pv 1)) rfl)
    (pss_one (ps_ret (pe_op op_mod (pv 4) (pv 1)))))
      pss_nil)
    (C8.pss_cut (ps_set (i := 5) sc_l_draw.nd rfl (Or.inl rfl) (pe_op op_mod (pe_op op_mul (pe_op op_add (pe_op op_add (pe_op op_mod (pv 4) pe_int) (pe_op op_mul pe_int (pv 3))) pe_int) pe_int) pe_int))
    (C8.pss_cut (ps_for PassesOwn.never rfl (pi_range1 rfl B.range_ (pa_cons pe_int pa_nil)) (pg_name (i := 6) sc_l_draw.nd rfl (Or.inl rfl))
      (pss_cons (ps_set (i := 5) sc_l_draw.nd rfl (Or.inl rfl) (pe_op op_add (pe_op op_add (pe_op op_add (pe_op op_mul (pv 5) (pv 5)) (pe_op op_mul pe_int (pv 5))) (pv 3)) (pv 6)))
    (pss_one (ps_set (i := 5) sc_l_draw.nd rfl (Or.inl rfl) (pe_op op_mod (pv 5) pe_int)))))
    (pss_one (ps_ret (pe_op op_mod (pe_op op_fdiv (pv 5) pe_int) (pv 1)))))))))))), ?_⟩
    refine ⟨_, rfl, a, _, rfl, dg_rest ea, _, _, rfl, rfl, _, rfl, ite2 (fun e => ?_) (fun e => ?_)⟩
    · refine ⟨_, rfl, a, _, rfl, dg_rest ea, _, rfl, _, _, rfl, rfl, h0, ?_⟩
      refine ⟨_, rfl, a, _, rfl, dg_rest ea, _, rfl, _, _, rfl, rfl, hd, _, rfl, a, _, rfl, dp_rest ea, ?_⟩
      refine ⟨_, rfl, ?_⟩
      exact q _ _ (Int.emod_nonneg _ (by omega)) (Int.emod_lt_of_pos _ h0) (Pen.put ea el hl ht0 (by omega) (Int.ediv_nonneg hr0 (by omega))) (Fr.dict ea)
    · refine ⟨_, rfl, a, _, rfl, dg_turn ea, ?_⟩
      refine ⟨_, rfl, _, _, rfl, rfl, _, rfl, a, _, rfl, dp_turn ea, ?_⟩
      have ea1 : upd H a (.dK (penD l (t + 1) r)) a = some (.dK (penD l (t + 1) r)) := upd_same
      have nla : l ≠ a := ne_of el ea (by intro z; cases z)
      have el1 : upd H a (.dK (penD l (t + 1) r)) l = some (.lst (cs.map V.int)) := by rw [upd_ne nla]; exact el
      have f1 : Fr H (upd H a (.dK (penD l (t + 1) r))) := Fr.dict ea
      generalize upd H a (.dK (penD l (t + 1) r)) = H1 at ea1 el1 f1
      refine ⟨fun σ' H' => ∃ c : Int, σ' = [some (.ref a), some (.int many), none, some (.int t), some (.int c), none, none] ∧ H1 = H', ?_, ?_⟩
      · exact ⟨_, rfl, _, rfl, _, _, rfl, rfl, .inl ⟨by omega, by omega⟩, _, _, rfl, rfl, _, rfl, rfl⟩
      rintro σ' H' ⟨c0, rfl, rfl⟩
      refine ⟨fun σ' H' => ∃ c : Int, σ' = [some (.ref a), some (.int many), none, some (.int t), some (.int c), none, none] ∧ Same H1 H', ?_, ?_⟩
      · refine ⟨_, rfl, a, _, rfl, dg_cells ea1, Nat.zero_le _, fun p np => ?_⟩
        have s1 : Same H1 (upd H1 p (.lst [])) := sm_upd np
        refine ⟨.list (cs.map PyData.int), .list [], Dp.lst (SqL.of (s1 _ _ el1)) (dp_ints cs), Dp.lst (SqL.of upd_same) .nil, sh_ints cs, rfl, _, rfl, ?_⟩
        by_cases hc : cs = []
        · subst hc
          exact iteF ⟨_, rfl, s1⟩
        · obtain ⟨c, r', rfl⟩ : ∃ c r', cs = c :: r' := by
            cases cs with
            | nil => exact absurd rfl hc
            | cons c r' => exact ⟨c, r', rfl⟩
          refine iteT ?_
          obtain ⟨v, hv⟩ := at_mod (c :: r') t hc
          refine ⟨_, rfl, a, _, rfl, dg_cells (s1 _ _ ea1), _, rfl, _, rfl, a, _, rfl, dg_cells (s1 _ _ ea1), l, _, rfl, .inl (SqL.of (s1 _ _ el1)), _, _, rfl, rfl, ?_, l, _, _, _, rfl, rfl, SqL.of (s1 _ _ el1), hv, ?_⟩
          · show (0 : Int) < (((c :: r').map V.int).length : Int)
            rw [List.length_map, List.length_cons]
            omega
          · exact ⟨v, rfl, s1⟩
      rintro σ' H2 ⟨c, rfl, s2⟩
      have ea2 := s2 _ _ ea1
      have el2 := s2 _ _ el1
      have f2 : Fr H H2 := f1.trans (Fr.same s2)
      refine ⟨fun σ' H' => σ' = [some (.ref a), some (.int many), none, some (.int t), some (.int c), none, none] ∧ H2 = H', ?_, ?_⟩
      · refine ⟨_, rfl, _, rfl, a, _, rfl, dg_cells ea2, l, _, rfl, .inl (SqL.of el2), _, _, rfl, rfl, _, rfl, ite2 (fun e1 => ?_) (fun e1 => ?_)⟩
        · refine ⟨_, rfl, _, _, rfl, rfl, ⟨by decide, by decide, by decide⟩, _, _, rfl, rfl, _, rfl, ite2 (fun e2 => ?_) (fun e2 => ?_)⟩
          · have e3 := of_decide_eq_true e2
            have p18 : (0 : Int) ≤ 10 ^ (18 : Int).toNat := by decide
            have c0' : 0 ≤ c := Int.le_trans p18 e3
            refine ⟨_, rfl, _, rfl, _, _, rfl, rfl, hd, _, rfl, a, _, rfl, dp_rest ea2, ?_⟩
            refine ⟨_, rfl, _, rfl, _, _, rfl, rfl, h0, ?_⟩
            exact q _ _ (Int.emod_nonneg _ (by omega)) (Int.emod_lt_of_pos _ h0) (Pen.put ea2 el2 hl (by omega) (by omega) (Int.ediv_nonneg (by omega) (by omega))) (f2.trans (Fr.dict ea2))
          · exact ⟨rfl, rfl⟩
        · exact iteF ⟨rfl, rfl⟩
      rintro σ' H' ⟨rfl, rfl⟩
      have mlt : (0 : Int) < 4294967311 := by decide
      have md : ∀ x : Int, 0 ≤ x % 4294967311 ∧ x % 4294967311 < 4294967311 := fun x => ⟨Int.emod_nonneg _ (by decide), Int.emod_lt_of_pos _ mlt⟩
      refine ⟨fun σ' H' => ∃ m : Int, 0 ≤ m ∧ m < 4294967311 ∧ σ' = [some (.ref a), some (.int many), none, some (.int t), some (.int c), some (.int m), none] ∧ H2 = H', ?_, ?_⟩
      · refine ⟨_, rfl, _, _, rfl, rfl, mlt, _, rfl, _, _, rfl, rfl, .inl ⟨by decide, by decide⟩, _, _, rfl, rfl, _, _, rfl, rfl, _, _, rfl, rfl, .inr ⟨by decide, by decide⟩, _, _, rfl, rfl, mlt, ?_⟩
        exact ⟨_, (md _).1, (md _).2, rfl, rfl⟩
      rintro σ' H' ⟨m, m0, m1, rfl, rfl⟩
      refine ⟨fun σ' H' => ∃ (m : Int) (y : Option V), 0 ≤ m ∧ m < 4294967311 ∧ σ' = [some (.ref a), some (.int many), none, some (.int t), some (.int c), some (.int m), y] ∧ H2 = H', ?_, ?_⟩
      · refine ⟨3, rfl, by decide, by decide, ?_⟩
        refine for_range (lo := 0) (n := 3) (fun i σ H' => ∃ (m : Int) (y : Option V), 0 ≤ m ∧ m < 4294967311 ∧ σ = [some (.ref a), some (.int many), none, some (.int t), some (.int c), some (.int m), y] ∧ H2 = H') ⟨m, _, m0, m1, rfl, rfl⟩ ?_ ?_
        · rintro i σ H' hi ⟨m, y, m0, m1, rfl, rfl⟩
          refine ⟨_, rfl, _, rfl, _, _, rfl, rfl, .inl ⟨by omega, by omega⟩, _, rfl, _, _, rfl, rfl, .inl ⟨by decide, by decide⟩, _, _, rfl, rfl, _, rfl, _, _, rfl, rfl, _, rfl, _, _, rfl, rfl, ?_⟩
          refine ⟨_, rfl, _, _, rfl, rfl, mlt, ?_⟩
          exact ⟨_, _, (md _).1, (md _).2, rfl, rfl⟩
        · rintro σ H' ⟨m, y, m0, m1, rfl, rfl⟩
          exact ⟨m, y, m0, m1, rfl, rfl⟩
      rintro σ' H' ⟨m, y, m0, m1, rfl, rfl⟩
      refine ⟨_, rfl, _, _, rfl, rfl, ⟨by decide, by decide⟩, _, rfl, _, _, rfl, rfl, h0, ?_⟩
      exact q _ _ (Int.emod_nonneg _ (by omega)) (Int.emod_lt_of_pos _ h0) ⟨cs, t + 1, r, ea2, el2, hl, by omega, by omega, hr0⟩ f2
end
end Lf
namespace Lf
open PySem PySem.Spec PyProof.Rows L2
theorem Bd.grow {k : Nat} {r d : Int} (h0 : 0 ≤ r) (h : Bd k r) (d0 : 0 ≤ d) (d1 : d < 10 ^ 6) : Bd (k + 20) (r * 10 ^ 6 + d) := by
  unfold Bd at *
  have e : (2 : Nat) ^ (k + 20) = 2 ^ k * 1048576 := by rw [Nat.pow_add]
  rw [e]
  generalize (2 : Nat) ^ k = m at h
  omega
/-- a rule, its numbers within k bits -/
structure RuleB (k : Nat) (p q c : Int) : Prop where
  p0 : 0 ≤ p
  q1 : 1 ≤ q
  g : Int.gcd p q = 1
  bp : Bd k p
  bq : Bd k q
  bc : Bd k c
theorem RuleB.mono {k j : Nat} {p q c : Int} (h : RuleB k p q c) (e : k ≤ j) : RuleB j p q c := ⟨h.p0, h.q1, h.g, h.bp.mono e, h.bq.mono e, h.bc.mono e⟩
theorem gcd_pos {p q : Int} (h : 1 ≤ q) : 0 < (Int.gcd p q : Int) := by
  have : 0 < Int.gcd p q := Int.gcd_pos_of_ne_zero_right _ (by omega)
  omega
theorem gcd_le {p q : Int} (h : 1 ≤ q) : (Int.gcd p q : Int) ≤ q := Int.le_of_dvd (by omega) (Int.gcd_dvd_right ..)
theorem low_rule {k : Nat} {p q c : Int} (h0 : 0 ≤ p) (h1 : 1 ≤ q) (bp : Bd k p) (bq : Bd k q) (bc : Bd k c) : RuleB k (p / (Int.gcd p q : Int)) (q / (Int.gcd p q : Int)) (c / (Int.gcd p q : Int)) := by
  have hg := gcd_pos (p := p) h1
  refine ⟨Int.ediv_nonneg h0 (by omega), ?_, ?_, bp.ediv hg, bq.ediv hg, bc.ediv hg⟩
  · exact Int.le_ediv_of_mul_le hg (by rw [Int.one_mul]; exact gcd_le h1)
  · have : 0 < Int.gcd p q := by omega
    exact Int.gcd_ediv_gcd_ediv_gcd this
/-- a new rule stands at r -/
abbrev tup3 (p q c : Int) : HO := .tup [.int p, .int q, .int c]
theorem low_rule' {k : Nat} {p q c : Int} (h0 : 0 ≤ p) (h1 : 1 ≤ q) (bp : Bd k p) (bq : Bd k q) (bc : Bd k c) : RuleB k (p / gg p q) (q / gg p q) (c / gg p q) := low_rule h0 h1 bp bq bc
theorem low_le {p q : Int} (h1 : 1 ≤ q) : q / (Int.gcd p q : Int) ≤ q := Int.ediv_le_self _ (by omega)
section
variable {P : Program} {w : World} {K : PySem.W.Frag} {mg : Str → Option Value} {base : Heap}
/-! ### _law_gcd, _law_lowest -/
def spGcd : Sp := fun vs H Q _ => ∃ (x y : Int), vs = [.int x, .int y] ∧ 0 ≤ x ∧ 0 ≤ y ∧ Q (.int (Int.gcd x y : Int)) H
def mu1 : L2.St → Hp → Nat := fun σ _ => match σ with
  | _ :: some (.int v) :: _ => v.toNat
  | _ => 0
end
end Lf
namespace Lf
open PySem PySem.Spec PyProof.Rows L2
/-! ### objects in a row -/
inductive Obs {α : Type} (O : α → HO) (H : Hp) : List V → List α → Prop
  | nil : Obs O H [] []
  | cons {r : Addr} {vs : List V} {d : α} {ds : List α} : H r = some (O d) → Obs O H vs ds → Obs O H (.ref r :: vs) (d :: ds)
section
variable {α : Type} {O : α → HO} {H H' : Hp}
theorem Obs.len {vs : List V} {ds : List α} (h : Obs O H vs ds) : vs.length = ds.length := by
  induction h with
  | nil => rfl
  | cons _ _ ih => rw [List.length_cons, List.length_cons, ih]
theorem Obs.at {vs : List V} {ds : List α} (h : Obs O H vs ds) : ∀ {i : Nat} {x : V}, vs[i]? = some x → ∃ r d, x = .ref r ∧ H r = some (O d) ∧ ds[i]? = some d := by
  induction h with
  | nil =>
    intro i x e
    cases e
  | cons e0 _ ih =>
    intro i x e
    cases i with
    | zero =>
      cases e
      exact ⟨_, _, rfl, e0, rfl⟩
    | succ i => exact ih e
theorem Obs.on {vs : List V} {ds : List α} (h : Obs O H vs ds) : ∀ {i : Nat} {d : α}, ds[i]? = some d → ∃ r, vs[i]? = some (.ref r) ∧ H r = some (O d) := by
  induction h with
  | nil =>
    intro i x e
    cases e
  | cons e0 _ ih =>
    intro i x e
    cases i with
    | zero =>
      cases e
      exact ⟨_, rfl, e0⟩
    | succ i => exact ih e
theorem Obs.keep {vs : List V} {ds : List α} (h : Obs O H vs ds) (f : ∀ b d, H b = some (O d) → H' b = some (O d)) : Obs O H' vs ds := by
  induction h with
  | nil => exact .nil
  | cons e0 _ ih => exact .cons (f _ _ e0) ih
theorem Obs.same {vs : List V} {ds : List α} (h : Obs O H vs ds) (s : Same H H') : Obs O H' vs ds := h.keep fun b d e => s _ _ e
theorem Obs.snoc {vs : List V} {ds : List α} {r : Addr} {d : α} (h : Obs O H vs ds) (e : H r = some (O d)) : Obs O H (vs ++ [.ref r]) (ds ++ [d]) := by
  induction h with
  | nil => exact .cons e .nil
  | cons e0 _ ih => exact .cons e0 ih
theorem Obs.app {vs us : List V} {ds es : List α} (h : Obs O H vs ds) (h2 : Obs O H us es) : Obs O H (vs ++ us) (ds ++ es) := by
  induction h with
  | nil => exact h2
  | cons e0 _ ih => exact .cons e0 ih
theorem Obs.drop {vs : List V} {ds : List α} (h : Obs O H vs ds) : ∀ n, Obs O H (vs.drop n) (ds.drop n) := by
  induction h with
  | nil =>
    intro n
    rw [List.drop_nil, List.drop_nil]
    exact .nil
  | cons e0 h ih =>
    intro n
    cases n with
    | zero => exact .cons e0 h
    | succ n => exact ih n
theorem Obs.take {vs : List V} {ds : List α} (h : Obs O H vs ds) : ∀ n, Obs O H (vs.take n) (ds.take n) := by
  induction h with
  | nil =>
    intro n
    rw [List.take_nil, List.take_nil]
    exact .nil
  | cons e0 h ih =>
    intro n
    cases n with
    | zero => exact .nil
    | succ n => exact .cons e0 (ih n)
end
/-! ### records -/
structure Rec where
  lo : Bool
  t : Int
  n : Int
def wd : Bool → Str
  | true => "at least"
  | false => "at most"
abbrev rcO (d : Rec) : HO := .tup [.str (wd d.lo), .int d.t, .int d.n]
theorem w_lo (b : Bool) : decide (V.str (wd b) = V.str ("at least" : Str)) = b := by
  cases b
  · exact decide_eq_false (by intro z; exact absurd (V.str.inj z) (by decide +kernel))
  · exact decide_eq_true rfl
theorem w_hi (b : Bool) : decide (V.str (wd b) = V.str ("at most" : Str)) = !b := by
  cases b
  · exact decide_eq_true rfl
  · exact decide_eq_false (by intro z; exact absurd (V.str.inj z) (by decide +kernel))
def RcB (k : Nat) (ds : List Rec) : Prop := ∀ d ∈ ds, Bd k d.t ∧ Bd k d.n
theorem RcB.mono {k j : Nat} {ds : List Rec} (h : RcB k ds) (e : k ≤ j) : RcB j ds := fun d hd => ⟨(h d hd).1.mono e, (h d hd).2.mono e⟩
theorem Obs.fr {H H' : Hp} {vs : List V} {ds : List Rec} (h : Obs rcO H vs ds) (f : Fr H H') : Obs rcO H' vs ds := h.keep fun b d e => f.t _ _ e
/-- what split_records gives: index, time, count -/
abbrev T3 := Int × Int × Int
abbrev trO (x : T3) : HO := .tup [.int x.1, .int x.2.1, .int x.2.2]
def sel (b : Bool) : Nat → List Rec → List T3
  | _, [] => []
  | k, d :: ds => if d.lo = b then ((k : Int), d.t, d.n) :: sel b (k + 1) ds else sel b (k + 1) ds
theorem sel_snoc (b : Bool) (k : Nat) (ds : List Rec) (d : Rec) : sel b k (ds ++ [d]) = sel b k ds ++ (if d.lo = b then [(((k + ds.length : Nat) : Int), d.t, d.n)] else []) := by
  induction ds generalizing k with
  | nil =>
    show (if d.lo = b then _ else _) = _
    by_cases h : d.lo = b
    · rw [if_pos h, if_pos h]
      rfl
    · rw [if_neg h, if_neg h]
      rfl
  | cons e r ih =>
    show (if e.lo = b then ((k : Int), e.t, e.n) :: sel b (k + 1) (r ++ [d]) else sel b (k + 1) (r ++ [d])) = (if e.lo = b then _ else _) ++ _
    rw [ih (k + 1), List.length_cons, show k + 1 + r.length = k + (r.length + 1) by omega]
    by_cases h : e.lo = b
    · rw [if_pos h, if_pos h]
      rfl
    · rw [if_neg h, if_neg h]
theorem sel_len (b : Bool) (k : Nat) (ds : List Rec) : (sel b k ds).length ≤ ds.length := by
  induction ds generalizing k with
  | nil => exact Nat.le_refl _
  | cons e r ih =>
    show (if e.lo = b then _ else _ : List T3).length ≤ _
    have := ih (k + 1)
    by_cases h : e.lo = b
    · rw [if_pos h, List.length_cons, List.length_cons]
      omega
    · rw [if_neg h, List.length_cons]
      omega
theorem sel_take {b : Bool} {ds : List Rec} {i : Nat} {d : Rec} (e : ds[i]? = some d) : sel b 0 (ds.take (i + 1)) = sel b 0 (ds.take i) ++ (if d.lo = b then [((i : Int), d.t, d.n)] else []) := by
  have hi : i < ds.length := (List.getElem?_eq_some_iff.mp e).1
  rw [List.take_add_one, e]
  show sel b 0 (ds.take i ++ [d]) = _
  rw [sel_snoc, List.length_take, Nat.min_eq_left (by omega), Nat.zero_add]
/-- each of them speaks of a record at its index -/
theorem sel_mem {b : Bool} {k : Nat} {ds : List Rec} {x : T3} (h : x ∈ sel b k ds) : ∃ (i : Nat) (d : Rec), ds[i]? = some d ∧ d.lo = b ∧ x = (((k + i : Nat) : Int), d.t, d.n) := by
  induction ds generalizing k with
  | nil => cases h
  | cons e r ih =>
    have h : x ∈ (if e.lo = b then ((k : Int), e.t, e.n) :: sel b (k + 1) r else sel b (k + 1) r) := h
    have up : x ∈ sel b (k + 1) r → ∃ (i : Nat) (d : Rec), (e :: r)[i]? = some d ∧ d.lo = b ∧ x = (((k + i : Nat) : Int), d.t, d.n) := fun z => by
      obtain ⟨i, d, h1, h2, h3⟩ := ih z
      exact ⟨i + 1, d, h1, h2, by rw [h3, show k + 1 + i = k + (i + 1) by omega]⟩
    by_cases hb : e.lo = b
    · rw [if_pos hb] at h
      rcases List.mem_cons.mp h with rfl | h
      · exact ⟨0, e, rfl, hb, rfl⟩
      · exact up h
    · rw [if_neg hb] at h
      exact up h
theorem mem_sel {b : Bool} {ds : List Rec} {i : Nat} {d : Rec} (e : ds[i]? = some d) (hb : d.lo = b) : ∀ k, (((k + i : Nat) : Int), d.t, d.n) ∈ sel b k ds := by
  induction ds generalizing i with
  | nil => cases e
  | cons f r ih =>
    intro k
    show _ ∈ (if f.lo = b then _ else _)
    cases i with
    | zero =>
      cases e
      rw [if_pos hb]
      exact List.mem_cons_self
    | succ i =>
      have := ih e (k + 1)
      rw [show k + 1 + i = k + (i + 1) by omega] at this
      by_cases h : f.lo = b
      · rw [if_pos h]
        exact List.mem_cons_of_mem _ this
      · rw [if_neg h]
        exact this
theorem sel_bd {k : Nat} {b : Bool} {ds : List Rec} (h : RcB k ds) {x : T3} (hx : x ∈ sel b 0 ds) : Bd k x.2.1 ∧ Bd k x.2.2 := by
  obtain ⟨i, d, e, _, rfl⟩ := sel_mem hx
  exact h d (List.mem_of_getElem? e)
/-- what a list has as its greatest -/
def IsMx (l : List Int) : Option Int → Prop
  | none => l = []
  | some m => m ∈ l ∧ ∀ y ∈ l, y ≤ m
def IsMn (l : List Int) : Option Int → Prop
  | none => l = []
  | some m => m ∈ l ∧ ∀ y ∈ l, m ≤ y
def oV : Option Int → V
  | none => .non
  | some i => .int i
theorem maxOf_mx (x : Int) (xs : List Int) : PySem.W.maxOf x xs ∈ x :: xs ∧ ∀ y ∈ x :: xs, y ≤ PySem.W.maxOf x xs := by
  induction xs generalizing x with
  | nil => exact ⟨List.mem_cons_self, fun y hy => by rw [List.mem_singleton.mp hy]; exact Int.le_refl _⟩
  | cons z r ih =>
    have e : PySem.W.maxOf x (z :: r) = PySem.W.maxOf (if decide (x < z) = true then z else x) r := rfl
    rw [e]
    obtain ⟨h1, h2⟩ := ih (if decide (x < z) = true then z else x)
    refine ⟨?_, fun y hy => ?_⟩
    · rcases List.mem_cons.mp h1 with h | h
      · rw [h]
        by_cases c : x < z
        · rw [if_pos (decide_eq_true c)]
          exact List.mem_cons_of_mem _ List.mem_cons_self
        · rw [if_neg (fun h => c (of_decide_eq_true h))]
          exact List.mem_cons_self
      · exact List.mem_cons_of_mem _ (List.mem_cons_of_mem _ h)
    · have g := h2 _ List.mem_cons_self
      have gx : x ≤ PySem.W.maxOf (if decide (x < z) = true then z else x) r ∧ z ≤ PySem.W.maxOf (if decide (x < z) = true then z else x) r := by
        by_cases c : x < z
        · rw [if_pos (decide_eq_true c)] at g ⊢
          exact ⟨by omega, g⟩
        · rw [if_neg (fun h => c (of_decide_eq_true h))] at g ⊢
          exact ⟨g, by omega⟩
      rcases List.mem_cons.mp hy with rfl | hy
      · exact gx.1
      · rcases List.mem_cons.mp hy with rfl | hy
        · exact gx.2
        · exact h2 _ (List.mem_cons_of_mem _ hy)
theorem minOf_mn (x : Int) (xs : List Int) : PySem.W.minOf x xs ∈ x :: xs ∧ ∀ y ∈ x :: xs, PySem.W.minOf x xs ≤ y := by
  induction xs generalizing x with
  | nil => exact ⟨List.mem_cons_self, fun y hy => by rw [List.mem_singleton.mp hy]; exact Int.le_refl _⟩
  | cons z r ih =>
    have e : PySem.W.minOf x (z :: r) = PySem.W.minOf (if decide (z < x) = true then z else x) r := rfl
    rw [e]
    obtain ⟨h1, h2⟩ := ih (if decide (z < x) = true then z else x)
    refine ⟨?_, fun y hy => ?_⟩
    · rcases List.mem_cons.mp h1 with h | h
      · rw [h]
        by_cases c : z < x
        · rw [if_pos (decide_eq_true c)]
          exact List.mem_cons_of_mem _ List.mem_cons_self
        · rw [if_neg (fun h => c (of_decide_eq_true h))]
          exact List.mem_cons_self
      · exact List.mem_cons_of_mem _ (List.mem_cons_of_mem _ h)
    · have g := h2 _ List.mem_cons_self
      have gx : PySem.W.minOf (if decide (z < x) = true then z else x) r ≤ x ∧ PySem.W.minOf (if decide (z < x) = true then z else x) r ≤ z := by
        by_cases c : z < x
        · rw [if_pos (decide_eq_true c)] at g ⊢
          exact ⟨by omega, g⟩
        · rw [if_neg (fun h => c (of_decide_eq_true h))] at g ⊢
          exact ⟨g, by omega⟩
      rcases List.mem_cons.mp hy with rfl | hy
      · exact gx.1
      · rcases List.mem_cons.mp hy with rfl | hy
        · exact gx.2
        · exact h2 _ (List.mem_cons_of_mem _ hy)
/-- max(list, default=d), min(list, default=d) -/
def rMxD (K : PySem.W.Frag) : List V → List V → Hp → VK → Prop := fun vs zs H Q => ∃ (a : Addr) (ns : List Int), vs = [V.ref a] ∧ zs = [.non] ∧ SqL K H a (ns.map V.int) ∧ ∀ m, IsMx ns m → Q (oV m) H
def rMnD (K : PySem.W.Frag) : List V → List V → Hp → VK → Prop := fun vs zs H Q => ∃ (a : Addr) (ns : List Int), vs = [V.ref a] ∧ zs = [.non] ∧ SqL K H a (ns.map V.int) ∧ ∀ m, IsMn ns m → Q (oV m) H
theorem cr_maxD {X : Cx} (hc : X.calm = true) (hu : X.A.units + 64 < cLine) : CallRK X (.builtin "max") [Str.ofString "default"] (rMxD X.K) := by
  intro pins s σ H xs zs us ws Q I r rz h
  obtain ⟨a, ns, rfl, rfl, hs, q⟩ := h
  obtain ⟨its, rv, hl, _⟩ := I.list hs
  rw [Vals.ref1 r]
  obtain ⟨d, rfl, rd⟩ := vals1 rz
  have ed : d = Value.none := rd
  subst ed
  refine PySem.W.max_list_datum_default (α := Int) (xs := ns) (I.ok.hd hc) hl.isList (by simpa using PySem.W.HoldAll.of_ints rv.ints) (by show _ + 1 + 0 < _; omega) (fun e h' tk hk => ⟨.non, H, I.kept hk, rfl, q none e⟩) fun y ys i v h' tk e hv hh hk => ?_
  obtain ⟨as, hr⟩ := hh
  obtain ⟨t, rfl⟩ : ∃ t, v = Value.int (PySem.W.maxOf y ys) t := by
    cases hr
    exact ⟨_, rfl⟩
  exact ⟨.int _, H, I.kept hk, ⟨_, rfl⟩, q (some _) (by rw [e]; exact maxOf_mx y ys)⟩
theorem cr_minD {X : Cx} (hc : X.calm = true) (hu : X.A.units + 64 < cLine) : CallRK X (.builtin "min") [Str.ofString "default"] (rMnD X.K) := by
  intro pins s σ H xs zs us ws Q I r rz h
  obtain ⟨a, ns, rfl, rfl, hs, q⟩ := h
  obtain ⟨its, rv, hl, _⟩ := I.list hs
  rw [Vals.ref1 r]
  obtain ⟨d, rfl, rd⟩ := vals1 rz
  have ed : d = Value.none := rd
  subst ed
  refine PySem.W.min_list_datum_default (α := Int) (xs := ns) (I.ok.hd hc) hl.isList (by simpa using PySem.W.HoldAll.of_ints rv.ints) (by show _ + 1 + 0 < _; omega) (fun e h' tk hk => ⟨.non, H, I.kept hk, rfl, q none e⟩) fun y ys i v h' tk e hv hh hk => ?_
  obtain ⟨as, hr⟩ := hh
  obtain ⟨t, rfl⟩ : ∃ t, v = Value.int (PySem.W.minOf y ys) t := by
    cases hr
    exact ⟨_, rfl⟩
  exact ⟨.int _, H, I.kept hk, ⟨_, rfl⟩, q (some _) (by rw [e]; exact minOf_mn y ys)⟩
end Lf
namespace Lf
open PySem PySem.Spec PyProof.Rows L2
theorem iteD {c A B : Prop} [Decidable c] (hc : c) (h : A) : if decide c = true then A else B := by
  rw [if_pos (decide_eq_true hc)]
  exact h
theorem iteDn {c A B : Prop} [Decidable c] (hc : ¬ c) (h : B) : if decide c = true then A else B := by
  rw [if_neg (fun z => hc (of_decide_eq_true z))]
  exact h
theorem iteTs {b : Bool} {A B : Prop} (h : b = true) (hA : A) : if b = true then A else B := by
  rw [h, if_pos rfl]
  exact hA
theorem iteFz {b : Bool} {A B : Prop} (h : b = false) (hB : B) : if b = true then A else B := by
  rw [h, if_neg Bool.false_ne_true]
  exact hB
theorem bool_f {b : Bool} (h : ¬ b = true) : b = false := by
  cases b
  · rfl
  · exact absurd rfl h
theorem lenS {n : Nat} (h : n ≤ 100000) : n ≤ sizeLine := by
  rw [sizeLine_eq]
  omega
theorem ltS {n : Nat} (h : n ≤ 100000) : n < sizeLine := by
  rw [sizeLine_eq]
  omega
theorem flat_is (ns : List Int) : (ns.map V.int).all flatV = true := by
  induction ns with
  | nil => rfl
  | cons n r ih => simpa [flatV] using ih
theorem mulW {a b : Nat} {x y : Int} (h : Bd a x) (h2 : Bd b y) (ha : 0 < a) (hb : 0 < b) (hab : a + b ≤ 1000000) : CMulW x y := wide_mul h h2 ha hb hab
theorem divW {b : Nat} {x y : Int} (h0 : 0 < y) (h : Bd b y) (hb : b ≤ 9000) : CDivW x y := ⟨h0, (h.mono hb).log (by decide)⟩
theorem divP {b : Nat} {x y : Int} (h0 : 0 < y) (h : Bd b y) (hb : b ≤ 9000) : CDivP x y := ⟨h0, PyProof.noPylong_of_log2 ((h.mono hb).log (by decide))⟩
theorem kii : kitB "int" "int" = some true := by decide +kernel
theorem kib : kitB "int" "bool" = some false := by decide +kernel
theorem ktt : kitB "tuple" "tuple" = some true := by decide +kernel
section
variable {P : Program} {w : World} {K : PySem.W.Frag} {mg : Str → Option Value} {base : Heap}
/-! ### integers -/
def spIsInt : Sp := fun vs H Q _ => ∃ i : Int, vs = [.int i] ∧ Q (.bl true) H
abbrev s_is_integer : Stmt := topS 11
abbrev N_is_integer : List Str := ["value"]
abbrev P_is_integer : List Str := ["value"]
theorem sc_is_integer : FnScope N_is_integer P_is_integer (defScope s_is_integer) := ⟨rfl, rfl, rfl, by decide +kernel, rfl, by decide +kernel, by decide +kernel⟩
theorem ok_is_integer (D : Df K mg "is_integer" s_is_integer P_is_integer) (B : Bi mg) : C8.Cal P w K mg base 1 "is_integer" spIsInt [] := by
  refine cal_of D sc_is_integer (fun vs H Q E h => ?_) (fun f cdv A outer s H vs Q E hr h => ?_)
  · obtain ⟨i, rfl, _⟩ := h
    rfl
  · obtain ⟨i, rfl, q⟩ := h
    refine ⟨_, (pss_one (ps_ret (pe_and (pe_callB (call_isi) (by rfl) B.isinstance_ bt_isinstance (pa_cons (pv 0) (pa_cons (pe_bltn (v := .ty "int") (by rfl) B.int_ bt_int rfl) pa_nil))) (pe_one (pe_not (pe_callB (call_isi) (by rfl) B.isinstance_ bt_isinstance (pa_cons (pv 0) (pa_cons (pe_bltn (v := .ty "bool") (by rfl) B.bool_ bt_bool rfl) pa_nil)))))))), ?_⟩
    refine ⟨_, rfl, _, _, _, _, true, rfl, .ty "int", .base (.int i), kit_ty kii, true, rfl, iteT ?_⟩
    exact ⟨_, rfl, _, _, _, _, false, rfl, .ty "bool", .base (.int i), kit_ty kib, false, rfl, q⟩
def spCheckInt : Sp := fun vs H Q _ => ∃ i : Int, vs = [.int i] ∧ Q .non H
abbrev s_check_integer : Stmt := topS 12
abbrev N_check_integer : List Str := ["value"]
abbrev P_check_integer : List Str := ["value"]
theorem sc_check_integer : FnScope N_check_integer P_check_integer (defScope s_check_integer) := ⟨rfl, rfl, rfl, by decide +kernel, rfl, by decide +kernel, by decide +kernel⟩
theorem ok_check_integer (D : Df K mg "check_integer" s_check_integer P_check_integer) (c_is_integer : C8.Cal P w K mg base 1 "is_integer" spIsInt []) : C8.Cal P w K mg base 2 "check_integer" spCheckInt [] := by
  refine cal_of D sc_check_integer (fun vs H Q E h => ?_) (fun f cdv A outer s H vs Q E hr h => ?_)
  · obtain ⟨i, rfl, _⟩ := h
    rfl
  · obtain ⟨i, rfl, q⟩ := h
    refine ⟨_, (pss_one (ps_if (pt_not (pt_val (C8.pe_c c_is_integer hr (by decide) (by rfl) (pa_cons (pv 0) pa_nil))))
      (pss_one ps_never)
      pss_nil)), ?_⟩
    exact ⟨_, rfl, i, rfl, true, rfl, iteF q⟩
end
end Lf
namespace Lf
open PySem PySem.Spec PyProof.Rows L2
section
variable {P : Program} {w : World} {K : PySem.W.Frag} {mg : Str → Option Value} {base : Heap}
abbrev s_gcd : Stmt := topS 14
abbrev N_gcd : List Str := ["first", "second"]
abbrev P_gcd : List Str := ["first", "second"]
theorem sc_gcd : FnScope N_gcd P_gcd (defScope s_gcd) := ⟨rfl, rfl, rfl, by decide +kernel, rfl, by decide +kernel, by decide +kernel⟩
theorem ok_gcd (D : Df K mg "gcd" s_gcd P_gcd) : C8.Cal P w K mg base 1 "gcd" spGcd [] := by
  refine cal_of D sc_gcd (fun vs H Q E h => ?_) (fun f cdv A outer s H vs Q E hr h => ?_)
  · obtain ⟨x, y, rfl, _⟩ := h
    rfl
  · obtain ⟨x, y, rfl, hx, hy, q⟩ := h
    refine ⟨_, (pss_cons (ps_while PassesOwn.never (pt_truth (pv 1) (fun _ => rfl))
      (pss_one (ps_par (i := 0) (j := 1) rfl sc_gcd.nd rfl rfl (by decide) rfl rfl (pa_cons (pv 1) (pa_cons (pe_op op_mod (pv 0) (pv 1)) pa_nil)) rfl)))
    (pss_one (ps_ret (pv 0)))), ?_⟩
    refine while_by (fun σ H' => ∃ u v : Int, σ = [some (.int u), some (.int v)] ∧ 0 ≤ u ∧ 0 ≤ v ∧ Int.gcd u v = Int.gcd x y ∧ H' = H) mu1 ⟨x, y, rfl, hx, hy, rfl, rfl⟩ ?_ ?_
    · rintro σ H' ⟨u, v, rfl, hu, hv, e, rfl⟩
      refine ⟨_, rfl, _, rfl, ite2 (fun c => ?_) (fun c => ?_)⟩
      · have hv0 : 0 < v := by
          have : v ≠ 0 := by simpa using c
          omega
        refine ⟨_, rfl, _, rfl, _, rfl, _, _, rfl, rfl, hv0, _, _, rfl, ⟨v, u % v, rfl, hv, Int.emod_nonneg _ (by omega), ?_, rfl⟩, ?_⟩
        · rw [gcd_turn u v hu hv0]; exact e
        · show (u % v).toNat < v.toNat
          have := Int.emod_lt_of_pos u hv0
          omega
      · have hv0 : v = 0 := by simpa using c
        subst hv0
        refine ⟨_, rfl, ?_⟩
        have e2 : (Int.gcd x y : Int) = u := by
          rw [← e, Int.gcd_zero_right]
          omega
        rw [← e2]
        exact q
    · rintro σ H' Q1 Q2 hQ ⟨v, h1, b, h4, h5⟩
      exact ⟨v, h1, b, h4, hQ _ _ h5⟩
/-! ### rules -/
def spIsRule : Sp := fun vs H Q _ => ∃ (r : Addr) (p q c : Int) (k : Nat), vs = [.ref r] ∧ H r = some (.tup [.int p, .int q, .int c]) ∧ RuleB k p q c ∧ ∀ H', Same H H' → Q (.bl true) H'
abbrev s_is_rule : Stmt := topS 28
abbrev N_is_rule : List Str := ["value", "item"]
abbrev P_is_rule : List Str := ["value"]
theorem sc_is_rule : FnScope N_is_rule P_is_rule (defScope s_is_rule) := ⟨rfl, rfl, rfl, by decide +kernel, rfl, by decide +kernel, by decide +kernel⟩
theorem ok_is_rule (D : Df K mg "is_rule" s_is_rule P_is_rule) (B : Bi mg) (c_is_integer : C8.Cal P w K mg base 1 "is_integer" spIsInt []) (c_gcd : C8.Cal P w K mg base 1 "gcd" spGcd []) : C8.Cal P w K mg base 2 "is_rule" spIsRule [] := by
  refine cal_of D sc_is_rule (fun vs H Q E h => ?_) (fun f cdv A outer s H vs Q E hr h => ?_)
  · obtain ⟨r, p, q, c, k, rfl, _⟩ := h
    rfl
  · obtain ⟨r, p, q, c, k, rfl, er, R, kk⟩ := h
    refine ⟨_, (pss_cons (ps_if (PW.pt (pw_or (pt_not (pt_val (pe_callB (call_isi) (by rfl) B.isinstance_ bt_isinstance (pa_cons (pv 0) (pa_cons (pe_bltn (v := .ty "tuple") (by rfl) B.tuple_ bt_tuple rfl) pa_nil))))) (pw_or1 (pt_cmpR op_ne (pe_callB (call_len_seq) (by rfl) B.len_ bt_len (pa_cons (pv 0) pa_nil)) pe_int (nomark _)))))
      (pss_one (ps_ret pe_bl))
      pss_nil)
    (pss_cons (ps_if (pt_not (pt_val (pe_callB (cr_all rfl) (by rfl) B.all_ bt_all (pa_cons (pe_lc (own := [("item", 1)]) (g := (gName 1)) (by rfl) sc_is_rule.nd (pi_tup (pv 0)) (blkOk_by (own := [("item", 1)]) (N := N_is_rule) (sc := defScope s_is_rule) (by decide +kernel)) (fun _ _ _ _ _ => (pg_name (i := 1) sc_is_rule.nd rfl (Or.inl rfl))) (fun _ _ _ _ _ => pts_nil) (fun _ _ _ _ _ => (C8.pe_c c_is_integer hr (by decide) (by rfl) (pa_cons (pv 1) pa_nil)))) pa_nil))))
      (pss_one (ps_ret pe_bl))
      pss_nil)
    (pss_one (ps_ret (pe_and (pe_cmpR op_ge (pe_ix (r := rIxT K) ix_tup (pv 0) pe_int (fun _ _ => rfl)) pe_int (nomark _)) (pe_and (pe_cmpR op_ge (pe_ix (r := rIxT K) ix_tup (pv 0) pe_int (fun _ _ => rfl)) pe_int (nomark _)) (pe_one (pe_cmpR op_eq (C8.pe_c c_gcd hr (by decide) (by rfl) (pa_cons (pe_ix (r := rIxT K) ix_tup (pv 0) pe_int (fun _ _ => rfl)) (pa_cons (pe_ix (r := rIxT K) ix_tup (pv 0) pe_int (fun _ _ => rfl)) pa_nil))) pe_int (nomark _))))))))), ?_⟩
    refine ⟨_, rfl, _, _, _, _, true, rfl, .ty "tuple", .base (.tup er), kit_ty ktt, true, rfl, iteF ?_⟩
    refine ⟨_, rfl, r, _, rfl, .inr (SqT.of er), rfl, _, rfl, iteNS rfl ?_⟩
    refine ⟨_, rfl, r, rfl, ⟨_, SqT.of er⟩, fun L nL => ?_⟩
    refine lc_tup (K := K) (a := r) (xs := [.int p, .int q, .int c]) (fun i H' => Same H H' ∧ H' L = some (.lst (List.replicate i (V.bl true)))) ?_ ?_ ?_ ?_
    · exact ⟨sm_upd nL, upd_same⟩
    · rintro i H' hi ⟨s1, _⟩
      exact SqT.of (s1 _ _ er)
    · rintro i x H' hx ⟨s1, eL⟩
      have hi : i < 3 := (List.getElem?_eq_some_iff.mp hx).1
      obtain ⟨z, rfl⟩ : ∃ z, x = V.int z := by
        match i, hi with
        | 0, _ => exact ⟨p, (Option.some.inj hx).symm⟩
        | 1, _ => exact ⟨q, (Option.some.inj hx).symm⟩
        | 2, _ => exact ⟨c, (Option.some.inj hx).symm⟩
      refine ⟨rfl, _, rfl, z, rfl, _, eL, ?_, ?_, ?_⟩
      · rw [List.length_replicate]
        exact small1000 (by omega)
      · intro b o eb
        rw [upd_ne (ne_of_none eb nL)]
        exact s1 _ _ eb
      · rw [upd_same, ← List.replicate_succ']
    · rintro H' ⟨s1, eL⟩
      have eL' : H' L = some (.lst ([true, true, true].map V.bl)) := eL
      refine ⟨L, [true, true, true], rfl, SqL.of eL', true, rfl, iteF ?_⟩
      have er' := s1 _ _ er
      refine ⟨_, rfl, r, _, _, _, rfl, rfl, SqT.of er', atI_nat (j := 0) rfl, _, _, rfl, rfl, _, rfl, iteD R.p0 ?_⟩
      refine ⟨_, rfl, r, _, _, _, rfl, rfl, SqT.of er', atI_nat (j := 1) rfl, _, _, rfl, rfl, _, rfl, iteD R.q1 ?_⟩
      refine ⟨_, rfl, r, _, _, _, rfl, rfl, SqT.of er', atI_nat (j := 0) rfl, _, rfl, r, _, _, _, rfl, rfl, SqT.of er', atI_nat (j := 1) rfl, p, q, rfl, R.p0, by have := R.q1; omega, rfl, ?_⟩
      rw [R.g]
      exact kk _ s1
def spCheckRule : Sp := fun vs H Q _ => ∃ (r : Addr) (p q c : Int) (k : Nat), vs = [.ref r] ∧ H r = some (.tup [.int p, .int q, .int c]) ∧ RuleB k p q c ∧ ∀ H', Same H H' → Q .non H'
abbrev s_check_rule : Stmt := topS 29
abbrev N_check_rule : List Str := ["value"]
abbrev P_check_rule : List Str := ["value"]
theorem sc_check_rule : FnScope N_check_rule P_check_rule (defScope s_check_rule) := ⟨rfl, rfl, rfl, by decide +kernel, rfl, by decide +kernel, by decide +kernel⟩
theorem ok_check_rule (D : Df K mg "check_rule" s_check_rule P_check_rule) (c_is_rule : C8.Cal P w K mg base 2 "is_rule" spIsRule []) : C8.Cal P w K mg base 3 "check_rule" spCheckRule [] := by
  refine cal_of D sc_check_rule (fun vs H Q E h => ?_) (fun f cdv A outer s H vs Q E hr h => ?_)
  · obtain ⟨r, p, q, c, k, rfl, _⟩ := h
    rfl
  · obtain ⟨r, p, q, c, k, rfl, er, R, kk⟩ := h
    refine ⟨_, (pss_one (ps_if (pt_not (pt_val (C8.pe_c c_is_rule hr (by decide) (by rfl) (pa_cons (pv 0) pa_nil))))
      (pss_one ps_never)
      pss_nil)), ?_⟩
    exact ⟨_, rfl, r, p, q, c, k, rfl, er, R, fun H' s1 => ⟨true, rfl, iteF (kk _ s1)⟩⟩
end
end Lf
namespace Lf
open PySem PySem.Spec PyProof.Rows L2
def Btw (p q t b x y : Int) : Prop := p * y < x * q ∧ x * b < t * y
structure Sim (p q t b N D : Int) : Prop where
  d1 : 1 ≤ D
  n1 : 1 ≤ N
  bt : Btw p q t b N D
  mi : ∀ x y, 1 ≤ y → Btw p q t b x y → D ≤ y ∧ N ≤ x
theorem pos_of_mul {a b : Int} (h : 0 < a * b) (hb : 0 ≤ b) : 0 < a := by
  rcases Int.lt_or_le 0 a with z | z
  · exact z
  · have := Int.mul_le_mul_of_nonneg_right z hb
    rw [Int.zero_mul] at this
    omega
theorem sim_base {p q t b : Int} (hp : 0 ≤ p) (hq : 1 ≤ q) (h : (p / q + 1) * b < t) : Sim p q t b (p / q + 1) 1 := by
  have w0 : 0 ≤ p / q := Int.ediv_nonneg hp (by omega)
  have w1 : p < (p / q + 1) * q := Int.lt_ediv_add_one_mul_self p (by omega)
  have w2 : p / q * q ≤ p := Int.ediv_mul_le p (by omega)
  generalize p / q = w at *
  refine ⟨by omega, by omega, ⟨by omega, by omega⟩, fun x y hy hb => ⟨hy, ?_⟩⟩
  have h1 := Int.mul_le_mul_of_nonneg_right w2 (show 0 ≤ y by omega)
  have h2 : 0 < (x - w * y) * q := by
    have e : w * q * y = w * y * q := by grind
    have := hb.1
    rw [Int.sub_mul]
    omega
  have h3 := pos_of_mul h2 (by omega)
  have h4 := Int.mul_le_mul_of_nonneg_left hy w0
  omega
theorem sim_step {p q t b N D : Int} (hp : 0 ≤ p) (hq : 1 ≤ q) (s : Sim b (t - p / q * b) q (p - p / q * q) N D) : Sim p q t b (p / q * N + D) N := by
  have w0 : 0 ≤ p / q := Int.ediv_nonneg hp (by omega)
  have w2 : p / q * q ≤ p := Int.ediv_mul_le p (by omega)
  generalize p / q = w at *
  obtain ⟨d1, n1, ⟨b1, b2⟩, mi⟩ := s
  have n0 := Int.mul_nonneg w0 (show 0 ≤ N by omega)
  refine ⟨n1, by omega, ⟨by grind, by grind⟩, fun x y hy ⟨g1, g2⟩ => ?_⟩
  have h1 := Int.mul_le_mul_of_nonneg_right w2 (show 0 ≤ y by omega)
  have h2 : 0 < (x - w * y) * q := by grind
  have h3 := pos_of_mul h2 (by omega)
  obtain ⟨m1, m2⟩ := mi y (x - w * y) (by omega) ⟨by grind, by grind⟩
  have h4 := Int.mul_le_mul_of_nonneg_left m2 w0
  exact ⟨m2, by omega⟩
/-- what the loop of wholes says, read backwards -/
def fold2 : List Int → Int × Int → Int × Int
  | [], x => x
  | w :: r, x => (w * (fold2 r x).1 + (fold2 r x).2, (fold2 r x).1)
theorem fold2_snoc (l : List Int) (w N D : Int) : fold2 (l ++ [w]) (N, D) = fold2 l (w * N + D, N) := by
  induction l with
  | nil => rfl
  | cons v r ih =>
    show (v * (fold2 (r ++ [w]) (N, D)).1 + (fold2 (r ++ [w]) (N, D)).2, (fold2 (r ++ [w]) (N, D)).1) = _
    rw [ih]
    rfl
structure Iv (k : Nat) (p q t b : Int) : Prop where
  p0 : 0 ≤ p
  q1 : 1 ≤ q
  b0 : 0 ≤ b
  lt : p * b < t * q
  bp : Bd k p
  bq : Bd k q
  bt : Bd k t
  bb : Bd k b
theorem Iv.mono {k j : Nat} {p q t b : Int} (I : Iv k p q t b) (h : k ≤ j) : Iv j p q t b := ⟨I.p0, I.q1, I.b0, I.lt, I.bp.mono h, I.bq.mono h, I.bt.mono h, I.bb.mono h⟩
theorem Iv.t1 {k : Nat} {p q t b : Int} (I : Iv k p q t b) : 1 ≤ t := by
  have h1 := Int.mul_nonneg I.p0 I.b0
  have h2 := I.lt
  have := pos_of_mul (a := t) (b := q) (by omega) (by have := I.q1; omega)
  omega
theorem Iv.next {k : Nat} {p q t b : Int} (I : Iv k p q t b) (h : t ≤ (p / q + 1) * b) : Iv k b (t - p / q * b) q (p - p / q * q) ∧ 1 ≤ b ∧ t - p / q * b ≤ b ∧ p - p / q * q < q := by
  have t1 := I.t1
  obtain ⟨p0, q1, b0, lt, bp, bq, bt, bb⟩ := I
  have w0 : 0 ≤ p / q := Int.ediv_nonneg p0 (by omega)
  have w1 : p < (p / q + 1) * q := Int.lt_ediv_add_one_mul_self p (by omega)
  have w2 : p / q * q ≤ p := Int.ediv_mul_le p (by omega)
  generalize p / q = w at *
  have b1 : 1 ≤ b := by
    rcases Int.lt_or_le 0 b with z | z
    · exact z
    · have : b = 0 := by omega
      subst this
      rw [Int.mul_zero] at h
      omega
  have h1 : 0 < (t - w * b) * q := by
    have := Int.mul_le_mul_of_nonneg_right w2 b0
    grind
  have h2 := pos_of_mul h1 (by omega)
  have h3 : t - w * b ≤ b := by
    rw [Int.add_mul] at h
    omega
  have h4 : p - w * q < q := by
    rw [Int.add_mul] at w1
    omega
  exact ⟨⟨b0, by omega, by omega, by grind, bb, bb.between (by omega) h3, bq, bq.between (by omega) (by omega)⟩, b1, h3, h4⟩
theorem Iv.med {k : Nat} {p q t b N D : Int} (I : Iv k p q t b) (s : Sim p q t b N D) : D ≤ q + b ∧ N ≤ p + t := by
  have h := I.lt
  have := I.q1
  have := I.b0
  exact s.mi (p + t) (q + b) (by omega) ⟨by grind, by grind⟩
theorem Iv.bds {k : Nat} {p q t b N D : Int} (I : Iv k p q t b) (s : Sim p q t b N D) : Bd (k + 1) N ∧ Bd (k + 1) D := by
  obtain ⟨m1, m2⟩ := I.med s
  have := s.n1
  have := s.d1
  exact ⟨(Bd.add I.bp I.bt).between (by omega) m2, (Bd.add I.bq I.bb).between (by omega) m1⟩
structure Lw (k : Nat) (p0 q0 t0 b0 : Int) (ws : List Int) (p q t b : Int) : Prop where
  iv : Iv k p q t b
  c : ∀ l1 l2, ws = l1 ++ l2 → ∀ N D, Sim p q t b N D → Bd (k + 1) (fold2 l2 (N, D)).1 ∧ Bd (k + 1) (fold2 l2 (N, D)).2
  a : ∀ N D, Sim p q t b N D → Sim p0 q0 t0 b0 (fold2 ws (N, D)).1 (fold2 ws (N, D)).2
  d : ∀ w ∈ ws, Bd k w
  n : (ws = [] ∧ q = q0 ∧ b = b0) ∨ (q ≤ p ∧ (p * b).toNat * 2 ^ ws.length ≤ (2 * (q0 * b0)).toNat)
theorem Lw.init {k : Nat} {p q t b : Int} (I : Iv k p q t b) : Lw k p q t b [] p q t b :=
  ⟨I, fun l1 l2 e N D s => by
    have : l2 = [] := (List.append_eq_nil_iff.mp e.symm).2
    subst this
    exact I.bds s, fun N D s => s, fun w hw => by simp at hw, .inl ⟨rfl, rfl, rfl⟩⟩
theorem Lw.next {k : Nat} {p0 q0 t0 b0 p q t b : Int} {ws : List Int} (L : Lw k p0 q0 t0 b0 ws p q t b) (h : t ≤ (p / q + 1) * b) : Lw k p0 q0 t0 b0 (ws ++ [p / q]) b (t - p / q * b) q (p - p / q * q) := by
  have I := L.iv
  obtain ⟨I2, b1, h3, h4⟩ := I.next h
  have st : ∀ N D, Sim b (t - p / q * b) q (p - p / q * q) N D → Sim p q t b (p / q * N + D) N := fun N D s => sim_step I.p0 I.q1 s
  refine ⟨I2, fun l1 l2 e N D s => ?_, fun N D s => ?_, fun w hw => ?_, .inr ⟨h3, ?_⟩⟩
  · rcases List.eq_nil_or_concat l2 with rfl | ⟨l', w', rfl⟩
    · exact I2.bds s
    · rw [List.concat_eq_append, ← List.append_assoc] at e
      obtain ⟨e1, e2⟩ := List.append_inj' e rfl
      have e3 : p / q = w' := by simpa using e2
      rw [List.concat_eq_append, ← e3, fold2_snoc]
      exact L.c l1 l' e1 _ _ (st N D s)
  · rw [fold2_snoc]
    exact L.a _ _ (st N D s)
  · rcases List.mem_append.mp hw with z | z
    · exact L.d w z
    · rw [List.mem_singleton.mp z]
      exact I.bp.ediv (by have := I.q1; omega)
  · have r0 := I2.b0
    rw [List.length_append, List.length_singleton, Nat.pow_succ]
    rcases L.n with ⟨rfl, rfl, rfl⟩ | ⟨hq, hn⟩
    · have := Int.mul_le_mul_of_nonneg_left (show p - p / q * q ≤ q by omega) (show 0 ≤ b by omega)
      rw [Int.mul_comm q b]
      simp only [List.length_nil, Nat.pow_zero, Nat.one_mul]
      generalize b * (p - p / q * q) = x at *
      generalize b * q = y at *
      omega
    · refine Nat.le_trans ?_ hn
      rw [Nat.mul_comm (2 ^ ws.length) 2, ← Nat.mul_assoc]
      refine Nat.mul_le_mul_right _ ?_
      have w1 : 1 ≤ p / q := Int.le_ediv_of_mul_le (by have := I.q1; omega) (by omega)
      have h5 := Int.mul_le_mul_of_nonneg_right w1 (show 0 ≤ q by have := I.q1; omega)
      have h6 := Int.mul_le_mul_of_nonneg_left (show 2 * (p - p / q * q) ≤ p by omega) (show 0 ≤ b by omega)
      generalize p - p / q * q = r at *
      have e1 : b * (2 * r) = 2 * (b * r) := by grind
      rw [e1, Int.mul_comm b p] at h6
      have := Int.mul_nonneg (show 0 ≤ b by omega) r0
      generalize b * r = x at *
      generalize p * b = y at *
      omega
theorem Lw.len {k : Nat} {p0 q0 t0 b0 p q t b : Int} {ws : List Int} (L : Lw k p0 q0 t0 b0 ws p q t b) (b1 : 1 ≤ b) (bq : Bd k q0) (bb : Bd k b0) : ws.length < 2 * k + 2 := by
  rcases L.n with ⟨rfl, _⟩ | ⟨hq, hn⟩
  · simp
  · have B1 : Bd (k + k + 1) (2 * (q0 * b0)) := by
      have := Bd.add (Bd.mul bq bb) (Bd.mul bq bb)
      rw [show 2 * (q0 * b0) = q0 * b0 + q0 * b0 by omega]
      exact this
    have p1 : 1 ≤ p * b := by
      have := Int.mul_le_mul (show 1 ≤ p by have := L.iv.q1; omega) b1 (by omega) (by have := L.iv.p0; omega)
      omega
    unfold Bd at B1
    have h2 : 2 ^ ws.length ≤ (p * b).toNat * 2 ^ ws.length := Nat.le_mul_of_pos_left _ (by omega)
    have h3 : 2 ^ ws.length < 2 ^ (k + k + 1) := by omega
    have := (Nat.pow_lt_pow_iff_right (by decide)).mp h3
    omega
section
variable {P : Program} {w : World} {K : PySem.W.Frag} {mg : Str → Option Value} {base : Heap}
/-! ### rates -/
structure Rt (k : Nat) (p q : Int) : Prop where
  p0 : 0 ≤ p
  q1 : 1 ≤ q
  g : Int.gcd p q = 1
  bp : Bd k p
  bq : Bd k q
theorem Rt.mono {k j : Nat} {p q : Int} (h : Rt k p q) (e : k ≤ j) : Rt j p q := ⟨h.p0, h.q1, h.g, h.bp.mono e, h.bq.mono e⟩
abbrev tup2 (p q : Int) : HO := .tup [.int p, .int q]
def spIsRate : Sp := fun vs H Q _ => ∃ (r : Addr) (p q : Int) (k : Nat), vs = [.ref r] ∧ H r = some (tup2 p q) ∧ Rt k p q ∧ Q (.bl true) H
abbrev s_is_rate : Stmt := topS 17
abbrev N_is_rate : List Str := ["value"]
abbrev P_is_rate : List Str := ["value"]
theorem sc_is_rate : FnScope N_is_rate P_is_rate (defScope s_is_rate) := ⟨rfl, rfl, rfl, by decide +kernel, rfl, by decide +kernel, by decide +kernel⟩
theorem ok_is_rate (D : Df K mg "is_rate" s_is_rate P_is_rate) (B : Bi mg) (c_is_integer : C8.Cal P w K mg base 1 "is_integer" spIsInt []) (c_gcd : C8.Cal P w K mg base 1 "gcd" spGcd []) : C8.Cal P w K mg base 2 "is_rate" spIsRate [] := by
  refine cal_of D sc_is_rate (fun vs H Q E h => ?_) (fun f cdv A outer s H vs Q E hr h => ?_)
  · obtain ⟨r, p, q, k, rfl, _⟩ := h
    rfl
  · obtain ⟨r, p, q, k, rfl, er, R, kk⟩ := h
    refine ⟨_, (pss_cons (ps_if (PW.pt (pw_or (pt_not (pt_val (pe_callB (call_isi) (by rfl) B.isinstance_ bt_isinstance (pa_cons (pv 0) (pa_cons (pe_bltn (v := .ty "tuple") (by rfl) B.tuple_ bt_tuple rfl) pa_nil))))) (pw_or1 (pt_cmpR op_ne (pe_callB (call_len_seq) (by rfl) B.len_ bt_len (pa_cons (pv 0) pa_nil)) pe_int (nomark _)))))
      (pss_one (ps_ret pe_bl))
      pss_nil)
    (pss_cons (ps_if (PW.pt (pw_or (pt_not (pt_val (C8.pe_c c_is_integer hr (by decide) (by rfl) (pa_cons (pe_ix (r := rIxT K) ix_tup (pv 0) pe_int (fun _ _ => rfl)) pa_nil)))) (pw_or1 (pt_not (pt_val (C8.pe_c c_is_integer hr (by decide) (by rfl) (pa_cons (pe_ix (r := rIxT K) ix_tup (pv 0) pe_int (fun _ _ => rfl)) pa_nil)))))))
      (pss_one (ps_ret pe_bl))
      pss_nil)
    (pss_one (ps_ret (pe_and (pe_cmpR op_ge (pe_ix (r := rIxT K) ix_tup (pv 0) pe_int (fun _ _ => rfl)) pe_int (nomark _)) (pe_and (pe_cmpR op_ge (pe_ix (r := rIxT K) ix_tup (pv 0) pe_int (fun _ _ => rfl)) pe_int (nomark _)) (pe_one (pe_cmpR op_eq (C8.pe_c c_gcd hr (by decide) (by rfl) (pa_cons (pe_ix (r := rIxT K) ix_tup (pv 0) pe_int (fun _ _ => rfl)) (pa_cons (pe_ix (r := rIxT K) ix_tup (pv 0) pe_int (fun _ _ => rfl)) pa_nil))) pe_int (nomark _))))))))), ?_⟩
    refine ⟨_, rfl, _, _, _, _, true, rfl, .ty "tuple", .base (.tup er), kit_ty ktt, true, rfl, iteF ?_⟩
    refine ⟨_, rfl, r, _, rfl, .inr (SqT.of er), rfl, _, rfl, iteNS rfl ?_⟩
    refine ⟨_, rfl, r, _, _, _, rfl, rfl, SqT.of er, atI_nat (j := 0) rfl, p, rfl, true, rfl, iteF ?_⟩
    refine ⟨_, rfl, r, _, _, _, rfl, rfl, SqT.of er, atI_nat (j := 1) rfl, q, rfl, true, rfl, iteF ?_⟩
    refine ⟨_, rfl, r, _, _, _, rfl, rfl, SqT.of er, atI_nat (j := 0) rfl, _, _, rfl, rfl, _, rfl, iteD R.p0 ?_⟩
    refine ⟨_, rfl, r, _, _, _, rfl, rfl, SqT.of er, atI_nat (j := 1) rfl, _, _, rfl, rfl, _, rfl, iteD R.q1 ?_⟩
    refine ⟨_, rfl, r, _, _, _, rfl, rfl, SqT.of er, atI_nat (j := 0) rfl, _, rfl, r, _, _, _, rfl, rfl, SqT.of er, atI_nat (j := 1) rfl, p, q, rfl, R.p0, by have := R.q1; omega, rfl, ?_⟩
    rw [R.g]
    exact kk
def spCheckRate : Sp := fun vs H Q _ => ∃ (r : Addr) (p q : Int) (k : Nat), vs = [.ref r] ∧ H r = some (tup2 p q) ∧ Rt k p q ∧ Q .non H
abbrev s_check_rate : Stmt := topS 18
abbrev N_check_rate : List Str := ["value"]
abbrev P_check_rate : List Str := ["value"]
theorem sc_check_rate : FnScope N_check_rate P_check_rate (defScope s_check_rate) := ⟨rfl, rfl, rfl, by decide +kernel, rfl, by decide +kernel, by decide +kernel⟩
theorem ok_check_rate (D : Df K mg "check_rate" s_check_rate P_check_rate) (c_is_rate : C8.Cal P w K mg base 2 "is_rate" spIsRate []) : C8.Cal P w K mg base 3 "check_rate" spCheckRate [] := by
  refine cal_of D sc_check_rate (fun vs H Q E h => ?_) (fun f cdv A outer s H vs Q E hr h => ?_)
  · obtain ⟨r, p, q, k, rfl, _⟩ := h
    rfl
  · obtain ⟨r, p, q, k, rfl, er, R, kk⟩ := h
    refine ⟨_, (pss_one (ps_if (pt_not (pt_val (C8.pe_c c_is_rate hr (by decide) (by rfl) (pa_cons (pv 0) pa_nil))))
      (pss_one ps_never)
      pss_nil)), ?_⟩
    exact ⟨_, rfl, r, p, q, k, rfl, er, R, true, rfl, iteF kk⟩
/-! ### simplest_inside -/
def spInside : Sp := fun vs H Q _ => ∃ (l h : Addr) (p q t b : Int) (k : Nat), vs = [.ref l, .ref h] ∧ H l = some (tup2 p q) ∧ H h = some (tup2 t b) ∧ Iv k p q t b ∧ 0 < k ∧ k ≤ 2000 ∧
  ∀ r H' N D, Same H H' → H r = none → H' r = some (tup2 N D) → Sim p q t b N D → Bd (k + 1) N → Bd (k + 1) D → Q (.ref r) H'
def muF : L2.St → Hp → Nat := fun σ _ => match σ with
  | _ :: _ :: _ :: some (.int q) :: _ :: some (.int b) :: _ => (q + b).toNat
  | _ => 0
abbrev s_simplest_inside : Stmt := topS 21
abbrev N_simplest_inside : List Str := ["low", "high", "p", "q", "top", "bottom", "wholes", "whole", "numerator", "denominator"]
abbrev P_simplest_inside : List Str := ["low", "high"]
theorem sc_simplest_inside : FnScope N_simplest_inside P_simplest_inside (defScope s_simplest_inside) := ⟨rfl, rfl, rfl, by decide +kernel, rfl, by decide +kernel, by decide +kernel⟩
theorem ok_simplest_inside (D : Df K mg "simplest_inside" s_simplest_inside P_simplest_inside) (B : Bi mg) : C8.Cal P w K mg base 1 "simplest_inside" spInside [] := by
  refine cal_of D sc_simplest_inside (fun vs H Q E h => ?_) (fun f cdv A outer s H vs Q E hr h => ?_)
  · obtain ⟨l, h, p, q, t, b, k, rfl, _⟩ := h
    rfl
  · obtain ⟨l, h, p0, q0, t0, b0, k, rfl, el, eh, I, k0, k4, kk⟩ := h
    refine ⟨_, (pss_cons (ps_asg (pv 0) (pg_tup rfl (pgs_cons (pg_name (i := 2) sc_simplest_inside.nd rfl (Or.inl rfl)) (pgs_cons (pg_name (i := 3) sc_simplest_inside.nd rfl (Or.inl rfl)) pgs_nil))))
    (pss_cons (ps_asg (pv 1) (pg_tup rfl (pgs_cons (pg_name (i := 4) sc_simplest_inside.nd rfl (Or.inl rfl)) (pgs_cons (pg_name (i := 5) sc_simplest_inside.nd rfl (Or.inl rfl)) pgs_nil))))
    (pss_cons (ps_set (i := 6) sc_simplest_inside.nd rfl (Or.inl rfl) (pe_lst pa_nil))
    (pss_cons (ps_set (i := 7) sc_simplest_inside.nd rfl (Or.inl rfl) (pe_op op_fdivW (pv 2) (pv 3)))
    (pss_cons (ps_while PassesOwn.never (pt_cmpR op_ge (pe_op op_mulW (pe_op op_add (pv 7) pe_int) (pv 5)) (pv 4) (nomark _))
      (pss_cons (ps_expr (pe_bm PySem.F.plainAttrs_list PySem.F.slot_list_append PySem.F.type_list_append mt_append (pv 6) (pa_cons (pv 7) pa_nil)))
    (pss_cons (ps_asg (pe_tup (pa_cons (pv 5) (pa_cons (pe_op op_sub (pv 4) (pe_op op_mulW (pv 7) (pv 5))) (pa_cons (pv 3) (pa_cons (pe_op op_sub (pv 2) (pe_op op_mulW (pv 7) (pv 3))) pa_nil))))) (pg_tup rfl (pgs_cons (pg_name (i := 2) sc_simplest_inside.nd rfl (Or.inl rfl)) (pgs_cons (pg_name (i := 3) sc_simplest_inside.nd rfl (Or.inl rfl)) (pgs_cons (pg_name (i := 4) sc_simplest_inside.nd rfl (Or.inl rfl)) (pgs_cons (pg_name (i := 5) sc_simplest_inside.nd rfl (Or.inl rfl)) pgs_nil))))))
    (pss_one (ps_set (i := 7) sc_simplest_inside.nd rfl (Or.inl rfl) (pe_op op_fdivW (pv 2) (pv 3)))))))
    (pss_cons (ps_par (i := 8) (j := 9) rfl sc_simplest_inside.nd rfl rfl (by decide) rfl rfl (pa_cons (pe_op op_add (pv 7) pe_int) (pa_cons pe_int pa_nil)) rfl)
    (pss_cons (ps_for PassesOwn.never rfl (pi_reversed (by rfl) B.reversed_ (pa_cons (pv 6) pa_nil)) (pg_name (i := 7) sc_simplest_inside.nd rfl (Or.inl rfl))
      (pss_one (ps_par (i := 8) (j := 9) rfl sc_simplest_inside.nd rfl rfl (by decide) rfl rfl (pa_cons (pe_op op_add (pe_op op_mulW (pv 7) (pv 8)) (pv 9)) (pa_cons (pv 8) pa_nil)) rfl)))
    (pss_one (ps_ret (pe_tup (pa_cons (pv 8) (pa_cons (pv 9) pa_nil)))))))))))), ?_⟩
    refine ⟨_, rfl, l, _, rfl, SqT.of el, rfl, _, _, rfl, _, _, rfl, rfl, ?_⟩
    refine ⟨_, rfl, h, _, rfl, SqT.of eh, rfl, _, _, rfl, _, _, rfl, rfl, ?_⟩
    refine ⟨Nat.zero_le _, fun lv nlv => ?_⟩
    refine ⟨_, rfl, _, rfl, _, _, rfl, rfl, divW (by have := I.q1; omega) I.bq (by omega), ?_⟩
    refine while_by (fun σ H' => ∃ (p q t b : Int) (ws : List Int), σ = [some (.ref l), some (.ref h), some (.int p), some (.int q), some (.int t), some (.int b), some (.ref lv), some (.int (p / q)), none, none] ∧ Lw k p0 q0 t0 b0 ws p q t b ∧ Same H H' ∧ H' lv = some (.lst (ws.map V.int))) muF ⟨p0, q0, t0, b0, [], rfl, Lw.init I, sm_upd nlv, upd_same⟩ ?_ ?_
    · rintro σ H1 ⟨p, q, t, b, ws, rfl, L, sH, elv⟩
      have J := L.iv
      have q1 := J.q1
      have bw : Bd k (p / q) := J.bp.ediv (by omega)
      have bw1 : Bd (k + 1) (p / q + 1) := Bd.add bw (Bd.small 1 (by decide) (by omega))
      refine ⟨_, rfl, _, _, rfl, rfl, _, rfl, _, _, rfl, rfl, mulW bw1 J.bb (by omega) k0 (by omega), _, rfl, _, _, rfl, rfl, _, rfl, ite2 (fun c => ?_) (fun c => ?_)⟩
      · have hc : t ≤ (p / q + 1) * b := of_decide_eq_true c
        obtain ⟨_, b1, h3, h4⟩ := J.next hc
        have LN := L.next hc
        have ln := L.len b1 I.bq I.bb
        have q1' := LN.iv.q1
        refine ⟨_, rfl, .inl ⟨rfl, _, SqL.of elv⟩, _, rfl, lv, _, _, rfl, rfl, elv, ?_, ?_⟩
        · rw [List.length_map]
          exact (Nat.lt_of_le_of_lt (show _ ≤ 5000 by omega) (by decide))
        · refine ⟨_, rfl, _, rfl, _, rfl, _, rfl, _, _, rfl, rfl, mulW bw J.bb k0 k0 (by omega), _, _, rfl, rfl, _, rfl, _, rfl, _, rfl, _, rfl, _, _, rfl, rfl, mulW bw J.bq k0 k0 (by omega), _, _, rfl, rfl, len10 (by simp), fun t2 nt2 => ?_⟩
          refine ⟨t2, _, rfl, SqT.of upd_same, rfl, _, _, rfl, _, _, rfl, _, _, rfl, _, _, rfl, rfl, ?_⟩
          refine ⟨_, rfl, _, rfl, _, _, rfl, rfl, divW (by omega) LN.iv.bq (by omega), ?_⟩
          refine ⟨⟨_, _, _, _, ws ++ [p / q], rfl, LN, ?_, ?_⟩, ?_⟩
          · intro x o ex
            have z := sH _ _ ex
            have nx : x ≠ lv := ne_of_none ex nlv
            have z2 : upd H1 lv (.lst (ws.map V.int ++ [.int (p / q)])) x = some o := by
              rw [upd_ne nx]
              exact z
            exact sm_upd nt2 _ _ z2
          · have z2 : upd H1 lv (.lst (ws.map V.int ++ [.int (p / q)])) lv = some (.lst ((ws ++ [p / q]).map V.int)) := by
              rw [upd_same, List.map_append]
              rfl
            exact sm_upd nt2 _ _ z2
          · show (t - p / q * b + (p - p / q * q)).toNat < (q + b).toNat
            have := LN.iv.b0
            omega
      · have hc : (p / q + 1) * b < t := by
          have : ¬ t ≤ (p / q + 1) * b := fun z => c (decide_eq_true z)
          omega
        have S := sim_base J.p0 J.q1 hc
        refine ⟨_, rfl, _, _, rfl, rfl, _, _, rfl, ?_⟩
        refine ⟨_, rfl, lv, _, rfl, SqL.of elv, ?_⟩
        have CC := L.c
        have CA := L.a
        generalize hN : p / q + 1 = N at S
        refine for_it walk_rev (fun i σ H2 => ∃ (y : Option V), σ = [some (.ref l), some (.ref h), some (.int p), some (.int q), some (.int t), some (.int b), some (.ref lv), y, some (.int (fold2 (ws.drop (ws.length - i)) (N, 1)).1), some (.int (fold2 (ws.drop (ws.length - i)) (N, 1)).2)] ∧ H2 = H1) ?_ ?_ ?_ ?_
        · refine ⟨some (.int (p / q)), ?_, rfl⟩
          rw [Nat.sub_zero, List.drop_length, ← hN]
          rfl
        · rintro i σ H2 _ ⟨_, _, rfl⟩
          exact SqL.of elv
        · rintro i x σ H2 H3 hi ⟨y, rfl, rfl⟩ ⟨rfl, hx⟩
          rw [List.length_map] at hi hx
          have hj : ws.length - 1 - i < ws.length := by omega
          rw [List.getElem?_map, List.getElem?_eq_getElem hj] at hx
          have ex : x = V.int ws[ws.length - 1 - i] := (Option.some.inj hx).symm
          subst ex
          have d1 := L.d _ (List.getElem_mem hj)
          have cc := CC (ws.take (ws.length - i)) (ws.drop (ws.length - i)) (List.take_append_drop _ _).symm N 1 S
          have ed : ws.drop (ws.length - (i + 1)) = ws[ws.length - 1 - i] :: ws.drop (ws.length - i) := by
            rw [show ws.length - (i + 1) = ws.length - 1 - i by omega, List.drop_eq_getElem_cons hj, show ws.length - 1 - i + 1 = ws.length - i by omega]
          generalize ws[ws.length - 1 - i] = e at *
          refine ⟨_, rfl, _, rfl, _, _, rfl, rfl, mulW d1 cc.1 k0 (by omega) (by omega), _, rfl, _, _, rfl, rfl, _, rfl, _, _, rfl, ?_⟩
          refine ⟨some (.int e), ?_, rfl⟩
          rw [ed]
          rfl
        · rintro σ H2 ⟨y, rfl, rfl⟩
          have e0 : ws.drop (ws.length - (ws.map V.int).length) = ws := by
            rw [List.length_map, Nat.sub_self]
            rfl
          rw [e0]
          refine ⟨_, rfl, _, rfl, len10 (by simp), fun r nr => ?_⟩
          have F2 := CA N 1 S
          have bd := I.bds F2
          refine kk r _ _ _ (sH.trans (sm_upd nr)) ?_ upd_same F2 bd.1 bd.2
          cases z : H r with
          | none => rfl
          | some o =>
            rw [sH _ _ z] at nr
            cases nr
    · rintro σ H' Q1 Q2 hQ ⟨v, h1, i, j, h2, h3, v2, g1, i2, j2, g2, g3, gm, v3, g4, i3, j3, g5, g6, b, h4, h5⟩
      exact ⟨v, h1, i, j, h2, h3, v2, g1, i2, j2, g2, g3, gm, v3, g4, i3, j3, g5, g6, b, h4, hQ _ _ h5⟩
end
end Lf
namespace Lf
open PySem PySem.Spec PyProof.Rows L2
section
variable {P : Program} {w : World} {K : PySem.W.Frag} {mg : Str → Option Value} {base : Heap}
def spCheckAL : Sp := fun vs H Q _ => ∃ v l : Int, vs = [.int v, .int l] ∧ l ≤ v ∧ Q .non H
abbrev s_check_at_least : Stmt := topS 13
abbrev N_check_at_least : List Str := ["value", "least"]
abbrev P_check_at_least : List Str := ["value", "least"]
theorem sc_check_at_least : FnScope N_check_at_least P_check_at_least (defScope s_check_at_least) := ⟨rfl, rfl, rfl, by decide +kernel, rfl, by decide +kernel, by decide +kernel⟩
theorem ok_check_at_least (D : Df K mg "check_at_least" s_check_at_least P_check_at_least) (c_is_integer : C8.Cal P w K mg base 1 "is_integer" spIsInt []) : C8.Cal P w K mg base 2 "check_at_least" spCheckAL [] := by
  refine cal_of D sc_check_at_least (fun vs H Q E h => ?_) (fun f cdv A outer s H vs Q E hr h => ?_)
  · obtain ⟨v, l, rfl, _⟩ := h
    rfl
  · obtain ⟨v, l, rfl, hl, q⟩ := h
    refine ⟨_, (pss_one (ps_if (PW.pt (pw_or (pt_not (pt_val (C8.pe_c c_is_integer hr (by decide) (by rfl) (pa_cons (pv 0) pa_nil)))) (pw_or1 (pt_cmpR op_lt (pv 0) (pv 1) (nomark _)))))
      (pss_one ps_never)
      pss_nil)), ?_⟩
    refine ⟨_, rfl, v, rfl, true, rfl, iteF ?_⟩
    exact ⟨_, rfl, _, rfl, _, _, rfl, rfl, _, rfl, iteDn (by omega) q⟩
end
end Lf
namespace Lf
open PySem PySem.Spec PyProof.Rows L2
/-- repr of an int or of None -/
theorem repr_some {X : Cx} : CallR X (.builtin "repr") (fun xs H Q => (∃ i : Int, xs = [.int i] ∧ i.natAbs.log2 < 1920 ∧ Q (.str (toString i)) H) ∨ (xs = [.non] ∧ Q (.str "None") H)) := by
  intro pins s σ H xs us Q I rel h
  rcases h with h | ⟨rfl, hq⟩
  · exact SkE.call_repr_int pins s σ H xs us Q I rel h
  · obtain ⟨u, hu, ru⟩ := vals1 rel
    subst hu
    have eu : u = Value.none := ru
    subst eu
    exact PySem.P.repr_of_none ⟨.str "None", H, I.tok _, ⟨_, rfl⟩, hq⟩
theorem cut_take (xs : List V) (m : Int) (h : 0 ≤ m) : cutV xs none (some m) = xs.take m.toNat := by
  obtain ⟨n, rfl⟩ := Int.eq_ofNat_of_zero_le h
  unfold cutV
  rw [HT.sIx_none, show HT.sIx xs.length xs.length (some ((n : Nat) : Int)) = min n xs.length from HT.sIx_nat _ _ n, List.drop_zero, Nat.sub_zero]
  show xs.take (min n xs.length) = xs.take n
  by_cases hn : n ≤ xs.length
  · rw [Nat.min_eq_left hn]
  · rw [Nat.min_eq_right (by omega), List.take_of_length_le (Nat.le_refl _), List.take_of_length_le (by omega)]
theorem flat_ints (ns : List Int) : (ns.map V.int).all flatV = true := by
  induction ns with
  | nil => rfl
  | cons n r ih => simpa [flatV] using ih
theorem inV_ints (ns : List Int) (k : Int) : inV (V.int k) (ns.map V.int) = decide (k ∈ ns) := by
  induction ns with
  | nil => rfl
  | cons n r ih =>
    have ih' : ((r.map V.int).any fun y => eqV y (V.int k)) = decide (k ∈ r) := ih
    show (eqV (V.int n) (V.int k) || (r.map V.int).any fun y => eqV y (V.int k)) = decide (k ∈ n :: r)
    rw [ih']
    by_cases h : n = k
    · subst h
      simp [eqV]
    · have h' : ¬ k = n := fun z => h z.symm
      simp [eqV, h, h']
end Lf
namespace Lf
open PySem PySem.Spec PyProof.Rows L2
theorem obs_cut {α : Type} {O : α → HO} {H : Hp} {vs : List V} {ds : List α} (h : Obs O H vs ds) (lo hi : Option Int) : ∃ es, Obs O H (cutV vs lo hi) es ∧ (∀ d ∈ es, d ∈ ds) ∧ es.length ≤ ds.length := by
  unfold cutV
  generalize HT.sIx vs.length 0 lo = i
  generalize HT.sIx vs.length vs.length hi - i = j
  refine ⟨(ds.drop i).take j, (h.drop i).take j, fun d hd => List.mem_of_mem_drop (List.mem_of_mem_take hd), ?_⟩
  rw [List.length_take, List.length_drop]
  omega
theorem at_map {cs : List Int} {i : Nat} {x : V} (h : (cs.map V.int)[i]? = some x) : ∃ c, c ∈ cs ∧ x = .int c := by
  rw [List.getElem?_map] at h
  cases e : cs[i]? with
  | none =>
    rw [e] at h
    cases h
  | some c =>
    rw [e] at h
    cases h
    exact ⟨c, List.mem_of_getElem? e, rfl⟩
theorem in_words (b : Bool) : inV (.str (wd b)) [.str "at least", .str "at most"] = true := by
  cases b <;> decide +kernel
theorem kit_lt {K : PySem.W.Frag} : PySem.W.kitAny K (.type "list") [.type "list", .type "tuple"] = some true :=
  kitAny_cons (b := true) (kit_ty (by decide +kernel)) (fun z => by cases z) (fun _ => rfl)
def lph (p q : Int) (ds : List Rec) : List Int := (sel true 0 ds).map fun x => x.2.2 * q - p * x.2.1
def hph (p q : Int) (ds : List Rec) : List Int := (sel false 0 ds).map fun x => (x.2.2 + 1) * q - p * x.2.1 - 1
def okPh : Option Int → Option Int → Bool
  | some x, some y => decide (x ≤ y)
  | _, _ => true
theorem mx_uniq {l : List Int} {a b : Option Int} (h : IsMx l a) (h2 : IsMx l b) : a = b := by
  cases a with
  | none =>
    cases b with
    | none => rfl
    | some y =>
      have e : l = [] := h
      subst e
      cases h2.1
  | some x =>
    cases b with
    | none =>
      have e : l = [] := h2
      subst e
      cases h.1
    | some y =>
      have h1 := h.2 y h2.1
      have h3 := h2.2 x h.1
      rw [show x = y by omega]
theorem mn_uniq {l : List Int} {a b : Option Int} (h : IsMn l a) (h2 : IsMn l b) : a = b := by
  cases a with
  | none =>
    cases b with
    | none => rfl
    | some y =>
      have e : l = [] := h
      subst e
      cases h2.1
  | some x =>
    cases b with
    | none =>
      have e : l = [] := h2
      subst e
      cases h.1
    | some y =>
      have h1 := h.2 y h2.1
      have h3 := h2.2 x h.1
      rw [show x = y by omega]
def fitB (p q c : Int) (d : Rec) : Bool := if d.lo = true then decide (d.n ≤ (p * d.t + c) / q) else decide ((p * d.t + c) / q ≤ d.n)
structure Bc (mg : Str → Option Value) : Prop where
  most_ : ∃ t, mg "MOST_RECORDS" = some (.int 200 t)
section
variable {P : Program} {w : World} {K : PySem.W.Frag} {mg : Str → Option Value} {base : Heap}
/-! ### is_record, check_records -/
def spIsRec : Sp := fun vs H Q _ => ∃ (r : Addr) (d : Rec), vs = [.ref r] ∧ H r = some (rcO d) ∧ ∀ H', Same H H' → Q (.bl true) H'
abbrev s_is_record : Stmt := topS 24
abbrev N_is_record : List Str := ["value"]
abbrev P_is_record : List Str := ["value"]
theorem sc_is_record : FnScope N_is_record P_is_record (defScope s_is_record) := ⟨rfl, rfl, rfl, by decide +kernel, rfl, by decide +kernel, by decide +kernel⟩
theorem ok_is_record (D : Df K mg "is_record" s_is_record P_is_record) (B : Bi mg) (c_is_integer : C8.Cal P w K mg base 1 "is_integer" spIsInt []) : C8.Cal P w K mg base 2 "is_record" spIsRec [] := by
  refine cal_of D sc_is_record (fun vs H Q E h => ?_) (fun f cdv A outer s H vs Q E hr h => ?_)
  · obtain ⟨r, d, rfl, _⟩ := h
    rfl
  · obtain ⟨r, d, rfl, er, kk⟩ := h
    refine ⟨_, (pss_cons (ps_if (PW.pt (pw_or (pt_not (pt_val (pe_callB (call_isi) (by rfl) B.isinstance_ bt_isinstance (pa_cons (pv 0) (pa_cons (pe_bltn (v := .ty "tuple") (by rfl) B.tuple_ bt_tuple rfl) pa_nil))))) (pw_or1 (pt_cmpR op_ne (pe_callB (call_len_seq) (by rfl) B.len_ bt_len (pa_cons (pv 0) pa_nil)) pe_int (nomark _)))))
      (pss_one (ps_ret pe_bl))
      pss_nil)
    (pss_one (ps_ret (pe_and (pe_cmpR op_in_seq (pe_ix (r := rIxT K) ix_tup (pv 0) pe_int (fun _ _ => rfl)) (pe_tup (pa_cons pe_str (pa_cons pe_str pa_nil))) rfl) (pe_and (C8.pe_c c_is_integer hr (by decide) (by rfl) (pa_cons (pe_ix (r := rIxT K) ix_tup (pv 0) pe_int (fun _ _ => rfl)) pa_nil)) (pe_one (C8.pe_c c_is_integer hr (by decide) (by rfl) (pa_cons (pe_ix (r := rIxT K) ix_tup (pv 0) pe_int (fun _ _ => rfl)) pa_nil)))))))), ?_⟩
    refine ⟨_, rfl, _, _, _, _, true, rfl, .ty "tuple", .base (.tup er), kit_ty ktt, true, rfl, iteF ?_⟩
    refine ⟨_, rfl, r, _, rfl, .inr (SqT.of er), rfl, _, rfl, iteNS rfl ?_⟩
    refine ⟨_, rfl, r, _, _, _, rfl, rfl, SqT.of er, atI_nat (j := 0) rfl, len10 (by simp), fun p np => ?_⟩
    have er1 := sm_upd (o := .tup [.str "at least", .str "at most"]) np _ _ er
    refine ⟨p, _, rfl, .inr (SqT.of upd_same), rfl, rfl, _, rfl, iteTs (in_words d.lo) ?_⟩
    refine ⟨_, rfl, r, _, _, _, rfl, rfl, SqT.of er1, atI_nat (j := 1) rfl, d.t, rfl, true, rfl, iteT ?_⟩
    refine ⟨_, rfl, r, _, _, _, rfl, rfl, SqT.of er1, atI_nat (j := 2) rfl, d.n, rfl, ?_⟩
    exact kk _ (sm_upd np)
def spCkRec : Sp := fun vs H Q _ => ∃ (L : Addr) (xs : List V) (ds : List Rec), vs = [.ref L] ∧ H L = some (.lst xs) ∧ Obs rcO H xs ds ∧ ds.length ≤ 200 ∧ ∀ H', Same H H' → Q .non H'
abbrev s_check_records : Stmt := topS 25
abbrev N_check_records : List Str := ["value", "index", "item"]
abbrev P_check_records : List Str := ["value"]
theorem sc_check_records : FnScope N_check_records P_check_records (defScope s_check_records) := ⟨rfl, rfl, rfl, by decide +kernel, rfl, by decide +kernel, by decide +kernel⟩
theorem ok_check_records (D : Df K mg "check_records" s_check_records P_check_records) (B : Bi mg) (U : Bc mg) (c_is_record : C8.Cal P w K mg base 2 "is_record" spIsRec []) : C8.Cal P w K mg base 3 "check_records" spCkRec [] := by
  refine cal_of D sc_check_records (fun vs H Q E h => ?_) (fun f cdv A outer s H vs Q E hr h => ?_)
  · obtain ⟨L, xs, ds, rfl, _⟩ := h
    rfl
  · obtain ⟨L, xs, ds, rfl, eL, hO, hl, kk⟩ := h
    obtain ⟨tM, hc_MOST_RECORDS⟩ := U.most_
    refine ⟨_, (pss_cons (ps_if (PW.pt (pw_or (pt_not (pt_val (pe_callB (call_isiT) (by rfl) B.isinstance_ bt_isinstance (pa_cons (pv 0) (pa_cons (pe_tup (pa_cons (pe_bltn (v := .ty "list") (by rfl) B.list_ bt_list rfl) (pa_cons (pe_bltn (v := .ty "tuple") (by rfl) B.tuple_ bt_tuple rfl) pa_nil))) pa_nil))))) (pw_or1 (pt_cmpR op_gt (pe_callB (call_len_seq) (by rfl) B.len_ bt_len (pa_cons (pv 0) pa_nil)) (pe_glob (v := .int 200) (by rfl) hc_MOST_RECORDS ⟨_, rfl⟩) (nomark _)))))
      (pss_one ps_never)
      pss_nil)
    (pss_one (ps_for PassesOwn.never rfl (pi_enum (by rfl) B.enumerate_ (pa_cons (pv 0) pa_nil)) (pg_tup rfl (pgs_cons (pg_name (i := 1) sc_check_records.nd rfl (Or.inl rfl)) (pgs_cons (pg_name (i := 2) sc_check_records.nd rfl (Or.inl rfl)) pgs_nil)))
      (pss_one (ps_if (pt_not (pt_val (C8.pe_c c_is_record hr (by decide) (by rfl) (pa_cons (pv 2) pa_nil))))
      (pss_one ps_never)
      pss_nil))))), ?_⟩
    refine ⟨_, rfl, len10 (by simp), fun tp ntp => ?_⟩
    have s1 := sm_upd (o := .tup [.ty "list", .ty "tuple"]) ntp
    refine ⟨_, tp, _, _, _, true, rfl, upd_same, .cons (.ty "list") (.cons (.ty "tuple") .nil), .base (.lst (s1 _ _ eL)), kit_lt, true, rfl, iteF ?_⟩
    refine ⟨_, rfl, L, _, rfl, .inl (SqL.of (s1 _ _ eL)), _, _, rfl, rfl, _, rfl, iteDn (by rw [hO.len]; omega) ?_⟩
    generalize upd H tp (.tup [.ty "list", .ty "tuple"]) = H1 at s1
    refine ⟨_, rfl, L, _, rfl, SqL.of (s1 _ _ eL), ?_⟩
    refine for_it (walk_enum (K := K) (a := L) (xs := xs)) (fun i σ H' => ∃ (y1 y2 : Option V), σ = [some (.ref L), y1, y2] ∧ Same H H') ⟨_, _, rfl, s1⟩ ?_ ?_ ?_
    · rintro i σ H2 _ ⟨_, _, _, s2⟩
      exact SqL.of (s2 _ _ eL)
    · rintro i v σ H2 H3 hi ⟨y1, y2, rfl, s2⟩ ⟨T, x, y, rfl, nT, rfl, hx, hy⟩
      cases hx
      obtain ⟨r, d, rfl, er, _⟩ := hO.at hy
      have s3 := s2.trans (sm_upd (o := .tup [.int (i : Nat), .ref r]) nT)
      refine ⟨T, _, rfl, SqT.of upd_same, rfl, _, _, rfl, _, _, rfl, rfl, ?_⟩
      refine ⟨_, rfl, r, d, rfl, s3 _ _ er, fun H4 s4 => ⟨true, rfl, iteF ?_⟩⟩
      exact ⟨_, _, rfl, s3.trans s4⟩
    · rintro σ H2 ⟨_, _, rfl, s2⟩
      exact kk _ s2
/-! ### split_records -/
def spSplit : Sp := fun vs H Q _ => ∃ (L : Addr) (xs : List V) (ds : List Rec), vs = [.ref L] ∧ H L = some (.lst xs) ∧ Obs rcO H xs ds ∧ ds.length ≤ 1000 ∧
  ∀ T H' A B as bs, Same H H' → H' T = some (.tup [.ref A, .ref B]) → H' A = some (.lst as) → Obs trO H' as (sel true 0 ds) → H' B = some (.lst bs) → Obs trO H' bs (sel false 0 ds) → Q (.ref T) H'
abbrev s_split_records : Stmt := topS 34
abbrev N_split_records : List Str := ["records", "lows", "highs", "i", "word", "t", "n", "j", "u", "m"]
abbrev P_split_records : List Str := ["records"]
theorem sc_split_records : FnScope N_split_records P_split_records (defScope s_split_records) := ⟨rfl, rfl, rfl, by decide +kernel, rfl, by decide +kernel, by decide +kernel⟩
theorem ok_split_records (D : Df K mg "split_records" s_split_records P_split_records) (B : Bi mg) : C8.Cal P w K mg base 1 "split_records" spSplit [] := by
  refine cal_of D sc_split_records (fun vs H Q E h => ?_) (fun f cdv A outer s H vs Q E hr h => ?_)
  · obtain ⟨L, xs, ds, rfl, _⟩ := h
    rfl
  · obtain ⟨L, xs, ds, rfl, eL, hO, hl, kk⟩ := h
    refine ⟨_, (pss_cons (ps_setLc (i := 1) (own := [("i", 3), ("word", 4), ("t", 5), ("n", 6)]) (g := (gTup K 2 (gCons (gName 3) (gCons (gTup K 3 (gCons (gName 4) (gCons (gName 5) (gCons (gName 6) gNil)))) gNil)))) (by rfl) sc_split_records.nd rfl rfl (sw_true rfl rfl rfl (by decide +kernel)) (pi_enum (by rfl) B.enumerate_ (pa_cons (pv 0) pa_nil)) (blkOk_by (own := [("i", 3), ("word", 4), ("t", 5), ("n", 6)]) (N := N_split_records) (sc := defScope s_split_records) (by decide +kernel)) (fun _ _ _ _ _ => (pg_tup rfl (pgs_cons (pg_name (i := 3) sc_split_records.nd rfl (Or.inl rfl)) (pgs_cons (pg_tup rfl (pgs_cons (pg_name (i := 4) sc_split_records.nd rfl (Or.inl rfl)) (pgs_cons (pg_name (i := 5) sc_split_records.nd rfl (Or.inl rfl)) (pgs_cons (pg_name (i := 6) sc_split_records.nd rfl (Or.inl rfl)) pgs_nil)))) pgs_nil)))) (fun _ _ _ _ _ => (pts_one (pt_cmpR op_eq (pv 4) pe_str (nomark _)))) (fun _ _ _ _ _ => (pe_tup (pa_cons (pv 3) (pa_cons (pv 5) (pa_cons (pv 6) pa_nil))))))
    (pss_cons (ps_setLc (i := 2) (own := [("j", 7), ("word", 4), ("u", 8), ("m", 9)]) (g := (gTup K 2 (gCons (gName 7) (gCons (gTup K 3 (gCons (gName 4) (gCons (gName 8) (gCons (gName 9) gNil)))) gNil)))) (by rfl) sc_split_records.nd rfl rfl (sw_true rfl rfl rfl (by decide +kernel)) (pi_enum (by rfl) B.enumerate_ (pa_cons (pv 0) pa_nil)) (blkOk_by (own := [("j", 7), ("word", 4), ("u", 8), ("m", 9)]) (N := N_split_records) (sc := defScope s_split_records) (by decide +kernel)) (fun _ _ _ _ _ => (pg_tup rfl (pgs_cons (pg_name (i := 7) sc_split_records.nd rfl (Or.inl rfl)) (pgs_cons (pg_tup rfl (pgs_cons (pg_name (i := 4) sc_split_records.nd rfl (Or.inl rfl)) (pgs_cons (pg_name (i := 8) sc_split_records.nd rfl (Or.inl rfl)) (pgs_cons (pg_name (i := 9) sc_split_records.nd rfl (Or.inl rfl)) pgs_nil)))) pgs_nil)))) (fun _ _ _ _ _ => (pts_one (pt_cmpR op_eq (pv 4) pe_str (nomark _)))) (fun _ _ _ _ _ => (pe_tup (pa_cons (pv 7) (pa_cons (pv 8) (pa_cons (pv 9) pa_nil))))))
    (pss_one (ps_ret (pe_tup (pa_cons (pv 1) (pa_cons (pv 2) pa_nil))))))), ?_⟩
    refine ⟨_, rfl, L, _, rfl, SqL.of eL, fun A nA => ?_⟩
    refine lc_it (walk_enum (K := K) (a := L) (xs := xs)) (fun i H' => ∃ as, H' A = some (.lst as) ∧ Obs trO H' as (sel true 0 (ds.take i)) ∧ Same H H') ⟨_, upd_same, .nil, sm_upd nA⟩ ?_ ?_ ?_
    · rintro i H1 _ ⟨_, _, _, s1⟩
      exact SqL.of (s1 _ _ eL)
    · rintro i v H1 H2 hi ⟨as, eA, oA, s1⟩ ⟨T, x, y, rfl, nT, rfl, hx, hy⟩
      cases hx
      obtain ⟨r, d, rfl, er, hd⟩ := hO.at hy
      have z := sm_upd (o := .tup [.int (i : Nat), .ref r]) nT
      have s2 := s1.trans z
      have al : as.length < sizeLine := by
        have h1 := oA.len
        have h2 := sel_len true 0 (ds.take i)
        rw [List.length_take] at h2
        exact small1000 (by omega)
      refine ⟨T, _, rfl, SqT.of upd_same, rfl, _, _, rfl, _, _, rfl, r, _, rfl, SqT.of (s2 _ _ er), rfl, _, _, rfl, _, _, rfl, _, _, rfl, rfl, rfl, ?_⟩
      refine ⟨rfl, _, rfl, rfl, _, rfl, ?_⟩
      rw [w_lo]
      cases hb : d.lo with
      | true =>
        refine iteT ⟨_, rfl, _, rfl, _, rfl, len10 (by simp), fun t nt => ?_⟩
        have z2 := sm_upd (o := .tup [.int (i : Nat), .int d.t, .int d.n]) nt
        have nA2 : t ≠ A := (ne_of_none (z _ _ eA) nt).symm
        refine ⟨as, z2 _ _ (z _ _ eA), al, _, upd_same, ?_, ?_⟩
        · rw [sel_take hd, if_pos hb]
          refine Obs.snoc (Obs.keep ((oA.same z).same z2) fun b d' e => ?_) ?_
          · rw [upd_ne (ne_of e (z2 _ _ (z _ _ eA)) (by intro q; cases q))]
            exact e
          · rw [upd_ne nA2]
            exact upd_same
        · intro b o e
          rw [upd_ne (ne_of_none e nA)]
          exact z2 _ _ (s2 _ _ e)
      | false =>
        refine iteF ⟨as, z _ _ eA, ?_, s2⟩
        rw [sel_take hd, if_neg (by rw [hb]; exact Bool.false_ne_true), List.append_nil]
        exact oA.same z
    rintro H1 ⟨as, eA, oA, s1⟩
    rw [List.take_of_length_le (by rw [hO.len]; exact Nat.le_refl _)] at oA
    refine ⟨_, rfl, L, _, rfl, SqL.of (s1 _ _ eL), fun B2 nB => ?_⟩
    refine lc_it (walk_enum (K := K) (a := L) (xs := xs)) (fun i H' => ∃ bs, H' B2 = some (.lst bs) ∧ Obs trO H' bs (sel false 0 (ds.take i)) ∧ Same H1 H') ⟨_, upd_same, .nil, sm_upd nB⟩ ?_ ?_ ?_
    · rintro i H2 _ ⟨_, _, _, s2⟩
      exact SqL.of (s2 _ _ (s1 _ _ eL))
    · rintro i v H2 H3 hi ⟨bs, eB, oB, s2⟩ ⟨T, x, y, rfl, nT, rfl, hx, hy⟩
      cases hx
      obtain ⟨r, d, rfl, er, hd⟩ := hO.at hy
      have z := sm_upd (o := .tup [.int (i : Nat), .ref r]) nT
      have s3 := s2.trans z
      have al : bs.length < sizeLine := by
        have h1 := oB.len
        have h2 := sel_len false 0 (ds.take i)
        rw [List.length_take] at h2
        exact small1000 (by omega)
      refine ⟨T, _, rfl, SqT.of upd_same, rfl, _, _, rfl, _, _, rfl, r, _, rfl, SqT.of (s3 _ _ (s1 _ _ er)), rfl, _, _, rfl, _, _, rfl, _, _, rfl, rfl, rfl, ?_⟩
      refine ⟨rfl, _, rfl, rfl, _, rfl, ?_⟩
      rw [w_hi]
      cases hb : d.lo with
      | false =>
        refine iteT ⟨_, rfl, _, rfl, _, rfl, len10 (by simp), fun t nt => ?_⟩
        have z2 := sm_upd (o := .tup [.int (i : Nat), .int d.t, .int d.n]) nt
        have nB2 : t ≠ B2 := (ne_of_none (z _ _ eB) nt).symm
        refine ⟨bs, z2 _ _ (z _ _ eB), al, _, upd_same, ?_, ?_⟩
        · rw [sel_take hd, if_pos hb]
          refine Obs.snoc (Obs.keep ((oB.same z).same z2) fun b d' e => ?_) ?_
          · rw [upd_ne (ne_of e (z2 _ _ (z _ _ eB)) (by intro q; cases q))]
            exact e
          · rw [upd_ne nB2]
            exact upd_same
        · intro b o e
          rw [upd_ne (ne_of_none e nB)]
          exact z2 _ _ (s3 _ _ e)
      | true =>
        refine iteF ⟨bs, z _ _ eB, ?_, s3⟩
        rw [sel_take hd, if_neg (by rw [hb]; exact fun q => Bool.false_ne_true q.symm), List.append_nil]
        exact oB.same z
    rintro H2 ⟨bs, eB, oB, s2⟩
    rw [List.take_of_length_le (by rw [hO.len]; exact Nat.le_refl _)] at oB
    refine ⟨_, rfl, _, rfl, len10 (by simp), fun T nT => ?_⟩
    have z := sm_upd (o := .tup [.ref A, .ref B2]) nT
    exact kk T _ A B2 as bs ((s1.trans s2).trans z) upd_same (z _ _ (s2 _ _ eA)) ((oA.same s2).same z) (z _ _ eB) (oB.same z)
end
end Lf
namespace Lf
open PySem PySem.Spec PyProof.Rows L2
/-! ### checks of integers: any value -/
def atLeast (l : Int) : PyData → Bool
  | .int i => decide (l ≤ i)
  | _ => false
theorem isI_b {d : PyData} (h : isI d = true) : isIB d = true ∧ isB d = false := by
  cases d <;> first | exact ⟨rfl, rfl⟩ | cases h
section
variable {P : Program} {w : World} {K : PySem.W.Frag} {mg : Str → Option Value} {base : Heap} {C : Addr}
def spIsAny : Sp := fun vs H Q _ => ∃ (v : V) (d : PyData), vs = [v] ∧ Dv H v d ∧ Q (.bl (isI d)) H
theorem okA_is_integer (D : Df K mg "is_integer" s_is_integer P_is_integer) (B : Bi mg) : C8.Cal P w K mg base 1 "is_integer" spIsAny [] := by
  refine cal_of D sc_is_integer (fun vs H Q E h => ?_) (fun f cdv A outer s H vs Q E hr h => ?_)
  · obtain ⟨v, d, rfl, _⟩ := h
    rfl
  · obtain ⟨v, d, rfl, dv, q⟩ := h
    refine ⟨_, (pss_one (ps_ret (pe_and (pe_callB (call_isi) (by rfl) B.isinstance_ bt_isinstance (pa_cons (pv 0) (pa_cons (pe_bltn (v := .ty "int") (by rfl) B.int_ bt_int rfl) pa_nil))) (pe_one (pe_not (pe_callB (call_isi) (by rfl) B.isinstance_ bt_isinstance (pa_cons (pv 0) (pa_cons (pe_bltn (v := .ty "bool") (by rfl) B.bool_ bt_bool rfl) pa_nil)))))))), ?_⟩
    refine ⟨_, rfl, _, _, _, _, isIB d, rfl, .ty "int", dv.ty, kit_ty (kit_int d), isIB d, rfl, ?_⟩
    by_cases hb : isIB d = true
    · rw [if_pos hb]
      refine ⟨_, rfl, _, _, _, _, isB d, rfl, .ty "bool", dv.ty, kit_ty (kit_bool d), isB d, rfl, ?_⟩
      have e : (!isB d) = isI d := by
        cases d <;> first | rfl | cases hb
      rw [e]
      exact q
    · rw [if_neg hb]
      have e : isI d = false := by
        cases d <;> first | rfl | exact absurd rfl hb
      rw [e] at q
      exact q
/-- InvalidNumber, with the value -/
def Out (C : Addr) (v : V) (H : Hp) (E : XK) : Prop := ∀ dd, H dd = none → E (.ref C) (some dd) (upd H dd (.xd [("value", v)]))
def spCkI (C : Addr) : Sp := fun vs H Q E => ∃ (v : V) (d : PyData), vs = [v] ∧ Dv H v d ∧ (isI d = true → Q .non H) ∧ (isI d = false → Out C v H E)
theorem okx_check_integer (D : Df K mg "check_integer" s_check_integer P_check_integer) (T : ValC P K mg C "InvalidNumber" "value") (cA_is_integer : C8.Cal P w K mg base 1 "is_integer" spIsAny []) : CalX P w K mg base 3 "check_integer" (spCkI C) := by
  refine calx_of D sc_check_integer (fun vs H Q E h => ?_) (fun f cdv A outer s H vs Q E hr h => ?_)
  · obtain ⟨v, d, rfl, _⟩ := h
    rfl
  · obtain ⟨v, d, rfl, dv, hq, he⟩ := h
    have c_is_integer := cA_is_integer
    refine ⟨_, (pss_one (ps_if (pt_not (pt_val (C8.pe_c c_is_integer hr (by decide) (by rfl) (pa_cons (pv 0) pa_nil))))
      (pss_one (ps_raise rfl (takes_of rfl rfl rfl rfl) (pmk_val T hr (by decide) rfl (pv 0))))
      pss_nil)), ?_⟩
    refine ⟨_, rfl, v, d, rfl, dv, isI d, rfl, ?_⟩
    cases hd : isI d with
    | true => exact iteF (hq hd)
    | false => exact iteT ⟨_, rfl, mkv (he hd)⟩
def spCkL (C : Addr) : Sp := fun vs H Q E => ∃ (v : V) (d : PyData) (l : Int), vs = [v, .int l] ∧ Dv H v d ∧ (atLeast l d = true → Q .non H) ∧ (atLeast l d = false → Out C v H E)
theorem okx_check_at_least (D : Df K mg "check_at_least" s_check_at_least P_check_at_least) (T : ValC P K mg C "InvalidNumber" "value") (cA_is_integer : C8.Cal P w K mg base 1 "is_integer" spIsAny []) : CalX P w K mg base 3 "check_at_least" (spCkL C) := by
  refine calx_of D sc_check_at_least (fun vs H Q E h => ?_) (fun f cdv A outer s H vs Q E hr h => ?_)
  · obtain ⟨v, d, l, rfl, _⟩ := h
    rfl
  · obtain ⟨v, d, l, rfl, dv, hq, he⟩ := h
    have c_is_integer := cA_is_integer
    refine ⟨_, (pss_one (ps_if (PW.pt (pw_or (pt_not (pt_val (C8.pe_c c_is_integer hr (by decide) (by rfl) (pa_cons (pv 0) pa_nil)))) (pw_or1 (pt_cmpR op_lt (pv 0) (pv 1) (nomark _)))))
      (pss_one (ps_raise rfl (takes_of rfl rfl rfl rfl) (pmk_val T hr (by decide) rfl (pv 0))))
      pss_nil)), ?_⟩
    refine ⟨_, rfl, v, d, rfl, dv, isI d, rfl, ?_⟩
    cases hd : isI d with
    | false =>
      have e : atLeast l d = false := by
        cases d <;> first | rfl | cases hd
      exact iteT ⟨_, rfl, mkv (he e)⟩
    | true =>
      cases dv with
      | int i =>
        refine iteF ⟨_, rfl, _, rfl, _, _, rfl, rfl, _, rfl, ?_⟩
        by_cases hl : l ≤ i
        · refine iteDn (by omega) (hq (decide_eq_true hl))
        · refine iteD (by omega) ⟨_, rfl, mkv (he (decide_eq_false hl))⟩
      | non => cases hd
      | bl => cases hd
      | str => cases hd
      | lst => cases hd
      | tup => cases hd
      | dk0 => cases hd
      | dk1 => cases hd
end
end Lf
namespace Lf
open PySem PySem.Spec PyProof.Rows L2
/-! ### records: any value -/
/-- x in a tuple whose items are data of any depth -/
def rInDT (K : PySem.W.Frag) : R2 := fun x y H Q => ∃ d ds, Dp K H x d ∧ Dp K H y (.tuple ds) ∧ SeqAt.shaped d = true ∧ SeqAt.shaped (.tuple ds) = true ∧ Q (.bl (ds.any fun z => PyData.eqv z d)) H
theorem op_inDT {X : Cx} (hu : X.A.units + 65 < cLine) : OpR X (compareOp .In) (rInDT X.K) := by
  intro pins s σ H x y v u Q I rx ry h
  obtain ⟨d, ds, hd, he, sd, se, q⟩ := h
  obtain ⟨as, r1⟩ := Dp.reads I d x v hd rx
  obtain ⟨bs, r2⟩ := Dp.reads I (.tuple ds) y u he ry
  exact SeqAt.in_tuple_reads r2 r1 (SeqAt.canLay_of_shaped se) (SeqAt.canLay_of_shaped sd) (room_in_shaped sd hu) ⟨.bl _, H, I, rfl, q⟩
mutual
theorem Dv.dp {K : PySem.W.Frag} {H : Hp} : ∀ (d : PyData) (v : V), Dv H v d → d.hasDict = false → Dp K H v d
  | .none, _, .non, _ => .non
  | .bool _, _, .bl b, _ => .bl b
  | .int _, _, .int i, _ => .int i
  | .str _, _, .str x, _ => .str x
  | .list ds, _, .lst _ h hs, n => .lst (SqL.of h) (Dv.dpAll ds _ hs (by simpa [PyData.hasDict] using n))
  | .tuple ds, _, .tup h hs, n => .tup (SqT.of h) (Dv.dpAll ds _ hs (by simpa [PyData.hasDict] using n))
  | .dict [], _, .dk0 h, n => by simp [PyData.hasDict] at n
  | .dict [(.str _, d)], _, .dk1 h h2, n => by simp [PyData.hasDict] at n
theorem Dv.dpAll {K : PySem.W.Frag} {H : Hp} : ∀ (ds : List PyData) (vs : List V), DvAll H vs ds → PyData.hasDictAll ds = false → DpAll K H vs ds
  | [], _, .nil, _ => .nil
  | d :: ds, _, .cons h hs, n => by
    have n : d.hasDict = false ∧ PyData.hasDictAll ds = false := by simpa [PyData.hasDictAll] using n
    exact .cons (Dv.dp d _ h n.1) (Dv.dpAll ds _ hs n.2)
end
def words : List PyData := [.str "at least", .str "at most"]
def recB : PyData → Bool
  | .tuple [d0, d1, d2] => words.any (fun z => PyData.eqv z d0) && (isI d1 && isI d2)
  | _ => false
/-- its first part may be looked for -/
def rgB : PyData → Bool
  | .tuple [d0, _, _] => !d0.hasDict && SeqAt.shaped d0
  | _ => true
theorem rec_three {ds : List PyData} (h : ds.length ≠ 3) : recB (.tuple ds) = false := by
  match ds, h with
  | [], _ => rfl
  | [_], _ => rfl
  | [_, _], _ => rfl
  | [_, _, _], h => exact absurd rfl h
  | _ :: _ :: _ :: _ :: _, _ => rfl
theorem len_ne3 {n : Nat} (h : n ≠ 3) : (!decide (V.int (n : Int) = V.int 3)) = true := by
  have : ¬ V.int (n : Int) = V.int 3 := fun z => h (by
    have := V.int.inj z
    omega)
  rw [decide_eq_false this]
  rfl
def isT' : PyData → Bool
  | .tuple _ => true
  | _ => false
theorem kit_tup' (d : PyData) : kitB (tyN d) "tuple" = some (isT' d) := by
  cases d
  · show kitB "NoneType" "tuple" = some false; decide +kernel
  · show kitB "bool" "tuple" = some false; decide +kernel
  · show kitB "int" "tuple" = some false; decide +kernel
  · show kitB "str" "tuple" = some false; decide +kernel
  · show kitB "list" "tuple" = some false; decide +kernel
  · show kitB "tuple" "tuple" = some true; decide +kernel
  · show kitB "dict" "tuple" = some false; decide +kernel
theorem dva_length {H : Hp} {vs : List V} {ds : List PyData} (h : DvAll H vs ds) : vs.length = ds.length := by
  induction ds generalizing vs with
  | nil =>
    cases h
    rfl
  | cons d ds ih =>
    cases h with
    | cons _ h2 => rw [List.length_cons, List.length_cons, ih h2]
/-- the exception, with what it keeps -/
def OutY (C : Addr) (x : Str) (v : V) (H : Hp) (E : XK) : Prop := ∀ dd, H dd = none → E (.ref C) (some dd) (upd H dd (.xd [(x, v)]))
def opp (d : Rec) : Rec := ⟨!d.lo, d.t, if d.lo = true then d.n - 1 else d.n + 1⟩
section
variable {P : Program} {w : World} {K : PySem.W.Frag} {mg : Str → Option Value} {base : Heap} {C : Addr}
def spIsRecD : Sp := fun vs H Q _ => ∃ (v : V) (d : PyData), vs = [v] ∧ Dv H v d ∧ rgB d = true ∧ ∀ H', Same H H' → Q (.bl (recB d)) H'
theorem okA_is_record (D : Df K mg "is_record" s_is_record P_is_record) (B : Bi mg) (cA_is_integer : C8.Cal P w K mg base 1 "is_integer" spIsAny []) : C8.Cal P w K mg base 2 "is_record" spIsRecD [] := by
  refine cal_of D sc_is_record (fun vs H Q E h => ?_) (fun f cdv A outer s H vs Q E hr h => ?_)
  · obtain ⟨v, d, rfl, _⟩ := h
    rfl
  · obtain ⟨v, d, rfl, dv, rg, kk⟩ := h
    have c_is_integer := cA_is_integer
    have hu : (A.deeper (envOfC "is_record" (defScope s_is_record) s.heap.objs.size f cdv)).units + 65 < cLine := by
      have := hr.un
      omega
    refine ⟨_, (pss_cons (ps_if (PW.pt (pw_or (pt_not (pt_val (pe_callB (call_isi) (by rfl) B.isinstance_ bt_isinstance (pa_cons (pv 0) (pa_cons (pe_bltn (v := .ty "tuple") (by rfl) B.tuple_ bt_tuple rfl) pa_nil))))) (pw_or1 (pt_cmpR op_ne (pe_callB (call_len_seq) (by rfl) B.len_ bt_len (pa_cons (pv 0) pa_nil)) pe_int (nomark _)))))
      (pss_one (ps_ret pe_bl))
      pss_nil)
    (pss_one (ps_ret (pe_and (pe_cmpR (op_inDT hu) (pe_ix (r := rIxT K) ix_tup (pv 0) pe_int (fun _ _ => rfl)) (pe_tup (pa_cons pe_str (pa_cons pe_str pa_nil))) rfl) (pe_and (C8.pe_c c_is_integer hr (by decide) (by rfl) (pa_cons (pe_ix (r := rIxT K) ix_tup (pv 0) pe_int (fun _ _ => rfl)) pa_nil)) (pe_one (C8.pe_c c_is_integer hr (by decide) (by rfl) (pa_cons (pe_ix (r := rIxT K) ix_tup (pv 0) pe_int (fun _ _ => rfl)) pa_nil)))))))), ?_⟩
    refine ⟨_, rfl, _, _, _, _, isT' d, rfl, .ty "tuple", dv.ty, kit_ty (kit_tup' d), isT' d, rfl, ?_⟩
    cases ht : isT' d with
    | false =>
      have e : recB d = false := by
        cases d <;> first | rfl | cases ht
      rw [e] at kk
      exact iteT (iteT (kk _ (Same.refl _)))
    | true =>
      cases dv with
      | tup er hs =>
        rename_i r xs ds
        refine iteF ⟨_, rfl, r, _, rfl, .inr (SqT.of er), rfl, _, rfl, ?_⟩
        have hl := dva_length hs
        by_cases h3 : xs.length = 3
        · match xs, ds, hs, h3, hl with
          | [v0, v1, v2], [d0, d1, d2], hs, _, _ =>
            cases hs with
            | cons g0 hs =>
              cases hs with
              | cons g1 hs =>
                cases hs with
                | cons g2 hs =>
                  have rg : (!d0.hasDict && SeqAt.shaped d0) = true := rg
                  rw [Bool.and_eq_true] at rg
                  have nd : d0.hasDict = false := by
                    have := rg.1
                    cases h : d0.hasDict with
                    | false => rfl
                    | true =>
                      rw [h] at this
                      cases this
                  refine iteNS rfl ?_
                  refine ⟨_, rfl, r, _, _, _, rfl, rfl, SqT.of er, atI_nat (j := 0) rfl, len10 (by simp), fun p np => ?_⟩
                  have z := sm_upd (o := .tup [.str "at least", .str "at most"]) np
                  have er1 := z _ _ er
                  have kz := (Fr.same z).kp
                  refine ⟨d0, words, Dv.dp d0 _ (Dv.kp kz _ _ g0) nd, Dp.tup (SqT.of upd_same) (.cons (.str _) (.cons (.str _) .nil)), rg.2, by decide +kernel, _, rfl, ?_⟩
                  have kk : ∀ H', Same H H' → Q (.bl (words.any (fun z => PyData.eqv z d0) && (isI d1 && isI d2))) H' := kk
                  cases c0 : words.any (fun z => PyData.eqv z d0) with
                  | false =>
                    rw [c0] at kk
                    exact iteF (kk _ z)
                  | true =>
                    rw [c0] at kk
                    refine iteT ⟨_, rfl, r, _, _, _, rfl, rfl, SqT.of er1, atI_nat (j := 1) rfl, v1, d1, rfl, Dv.kp kz _ _ g1, isI d1, rfl, ?_⟩
                    cases c1 : isI d1 with
                    | false =>
                      rw [c1] at kk
                      exact iteF (kk _ z)
                    | true =>
                      rw [c1] at kk
                      refine iteT ⟨_, rfl, r, _, _, _, rfl, rfl, SqT.of er1, atI_nat (j := 2) rfl, v2, d2, rfl, Dv.kp kz _ _ g2, ?_⟩
                      exact kk _ z
        · rw [rec_three (by omega)] at kk
          exact iteTs (len_ne3 h3) (kk _ (Same.refl _))
      | _ => cases ht
/-! ### opposite -/
def spOpp : Sp := fun vs H Q _ => ∃ (r : Addr) (d : Rec), vs = [.ref r] ∧ H r = some (rcO d) ∧ ∀ e H', Same H H' → H' e = some (rcO (opp d)) → Q (.ref e) H'
def spOppX (C : Addr) : Sp := fun vs H _ E => ∃ (v : V) (d : PyData), vs = [v] ∧ Dv H v d ∧ rgB d = true ∧ recB d = false ∧ ∀ H', Same H H' → OutY C "index" (.int 0) H' E
end
/-- n.x of an exception that a name keeps -/
theorem pe_xk {Y : Cx} {a C : Addr} {oe : Obj} {cls : Value} {d : Option Addr} {e : Expr} {te : TE} {pos : Pos} {n : Str} (T : XfC Y.K C) (hno : PySem.W.findIn Y.K (.ref C) n = some none)
    (hz : Zc cls d oe) (hf : ∃ vs, oe.data = .fields vs) (hin : (a, oe) ∈ Y.pn) (he : PE Y e te) (hb : attributeBase e n Y.env (eval e Y.env) = eval e Y.env := by rfl) : PE Y (.Attribute e n pos) (tXf a cls d C n te) := by
  constructor
  intro pins s σ H Q I h
  refine attr_of hb (thn (he.run pins s σ H _ I h) fun u s1 hh => ?_)
  obtain ⟨x, H1, J1, rx, ex, ec, dd, fs, v, ed, ea, l, q⟩ := hh
  subst ex ec ed
  obtain rfl : u = Value.ref a := rx
  obtain ⟨there, _⟩ := J1.pin (a, oe) (List.mem_append_left _ hin)
  obtain ⟨vs, hd⟩ := hf
  obtain ⟨mA, hns, hr⟩ := (show ObjOk Y.prog Y.w H1 s1.heap dd (.xd fs) from J1.hok dd _ ea)
  obtain ⟨od, ho, hl⟩ := lookIn_ns hns
  obtain ⟨u, hu, ru⟩ := RelO.some_of (v := v) (o := mA n) (by rw [← l]; exact hr n)
  have inst : PySem.W.InstAt s1.heap a oe C (some od) := ⟨there, hz.1, by unfold PySem.W.notCls; rw [hd] <;> rfl, by rw [hz.2]; exact ho⟩
  have found := PySem.W.findObj_own T.hdC hno rfl (by rw [hl, hu])
  exact HandSPX.exc_get J1.kIn inst T.ga T.gg T.exC found (handed_of ru) ⟨v, H1, J1.tok _, ru, q⟩
end Lf
namespace Lf
open PySem PySem.Spec PyProof.Rows L2
/-! ### rates: any value -/
def isT : PyData → Bool
  | .tuple _ => true
  | _ => false
theorem kit_tup (d : PyData) : kitB (tyN d) "tuple" = some (isT d) := by
  cases d
  · show kitB "NoneType" "tuple" = some false; decide +kernel
  · show kitB "bool" "tuple" = some false; decide +kernel
  · show kitB "int" "tuple" = some false; decide +kernel
  · show kitB "str" "tuple" = some false; decide +kernel
  · show kitB "list" "tuple" = some false; decide +kernel
  · show kitB "tuple" "tuple" = some true; decide +kernel
  · show kitB "dict" "tuple" = some false; decide +kernel
def rateD : PyData → Bool
  | .tuple [.int p, .int q] => decide (0 ≤ p) && (decide (1 ≤ q) && decide (V.int (Int.gcd p q : Int) = V.int 1))
  | _ => false
theorem rateD_inv {d : PyData} (h : rateD d = true) : ∃ p q, d = .tuple [.int p, .int q] ∧ 0 ≤ p ∧ 1 ≤ q ∧ Int.gcd p q = 1 := by
  unfold rateD at h
  split at h
  · rename_i p q
    rw [Bool.and_eq_true, Bool.and_eq_true] at h
    have h3 := V.int.inj (of_decide_eq_true h.2.2)
    exact ⟨p, q, rfl, of_decide_eq_true h.1, of_decide_eq_true h.2.1, by omega⟩
  · cases h
theorem dv_rate {H : Hp} {v : V} {p q : Int} (h : Dv H v (.tuple [.int p, .int q])) : ∃ r, v = .ref r ∧ H r = some (tup2 p q) := by
  cases h with
  | tup e hs =>
    cases hs with
    | cons h1 hs =>
      cases hs with
      | cons h2 hs =>
        cases hs
        cases h1
        cases h2
        exact ⟨_, rfl, e⟩
/-- a value's own pair, within bounds, where it is a rate -/
def BR (d : PyData) : Prop := rateD d = true → ∃ p q, d = .tuple [.int p, .int q] ∧ Rt 30 p q
def bad : PyData → Bool
  | .none => false
  | d => !rateD d
def isN : PyData → Bool
  | .none => true
  | _ => false
def pr : PyData → Int × Int
  | .tuple [.int p, .int q] => (p, q)
  | _ => (0, 1)
def due (d1 d2 : PyData) : Option Bool :=
  if bad d1 = true then some true else if bad d2 = true then some false else if isN d2 = true then none
  else if (pr d2).1 * (pr d1).2 ≤ (pr d1).1 * (pr d2).2 then some false else none
theorem dv_non {H : Hp} {v : V} {d : PyData} (h : Dv H v d) : decide (v = .non) = isN d := by
  cases h <;> first | rfl | exact decide_eq_false (by intro z; cases z)
theorem isI_inv {H : Hp} {v : V} {d : PyData} (h : Dv H v d) (hi : isI d = true) : ∃ z, v = .int z ∧ d = .int z := by
  cases h with
  | int z => exact ⟨z, rfl, rfl⟩
  | _ => cases hi
theorem dva_len {H : Hp} {vs : List V} {ds : List PyData} (h : DvAll H vs ds) : vs.length = ds.length := by
  induction ds generalizing vs with
  | nil =>
    cases h
    rfl
  | cons d ds ih =>
    cases h with
    | cons _ h2 => rw [List.length_cons, List.length_cons, ih h2]
theorem rate_two {ds : List PyData} (h : ds.length ≠ 2) : rateD (.tuple ds) = false := by
  unfold rateD
  split
  · rename_i p q e
    cases e
    exact absurd rfl h
  · rfl
theorem rate_i {d0 d1 : PyData} (h : isI d0 = false ∨ isI d1 = false) : rateD (.tuple [d0, d1]) = false := by
  unfold rateD
  split
  · rename_i p q e
    cases e
    rcases h with h | h <;> cases h
  · rfl
theorem len_ne {n : Nat} (h : n ≠ 2) : (!decide (V.int (n : Int) = V.int 2)) = true := by
  have : ¬ V.int (n : Int) = V.int 2 := fun z => h (by
    have := V.int.inj z
    omega)
  rw [decide_eq_false this]
  rfl
section
variable {P : Program} {w : World} {K : PySem.W.Frag} {mg : Str → Option Value} {base : Heap} {C : Addr}
def spIsRateD : Sp := fun vs H Q _ => ∃ (v : V) (d : PyData), vs = [v] ∧ Dv H v d ∧ Q (.bl (rateD d)) H
theorem okA_is_rate (D : Df K mg "is_rate" s_is_rate P_is_rate) (B : Bi mg) (cA_is_integer : C8.Cal P w K mg base 1 "is_integer" spIsAny []) (c_gcd : C8.Cal P w K mg base 1 "gcd" spGcd []) : C8.Cal P w K mg base 2 "is_rate" spIsRateD [] := by
  refine cal_of D sc_is_rate (fun vs H Q E h => ?_) (fun f cdv A outer s H vs Q E hr h => ?_)
  · obtain ⟨v, d, rfl, _⟩ := h
    rfl
  · obtain ⟨v, d, rfl, dv, kk⟩ := h
    have c_is_integer := cA_is_integer
    refine ⟨_, (pss_cons (ps_if (PW.pt (pw_or (pt_not (pt_val (pe_callB (call_isi) (by rfl) B.isinstance_ bt_isinstance (pa_cons (pv 0) (pa_cons (pe_bltn (v := .ty "tuple") (by rfl) B.tuple_ bt_tuple rfl) pa_nil))))) (pw_or1 (pt_cmpR op_ne (pe_callB (call_len_seq) (by rfl) B.len_ bt_len (pa_cons (pv 0) pa_nil)) pe_int (nomark _)))))
      (pss_one (ps_ret pe_bl))
      pss_nil)
    (pss_cons (ps_if (PW.pt (pw_or (pt_not (pt_val (C8.pe_c c_is_integer hr (by decide) (by rfl) (pa_cons (pe_ix (r := rIxT K) ix_tup (pv 0) pe_int (fun _ _ => rfl)) pa_nil)))) (pw_or1 (pt_not (pt_val (C8.pe_c c_is_integer hr (by decide) (by rfl) (pa_cons (pe_ix (r := rIxT K) ix_tup (pv 0) pe_int (fun _ _ => rfl)) pa_nil)))))))
      (pss_one (ps_ret pe_bl))
      pss_nil)
    (pss_one (ps_ret (pe_and (pe_cmpR op_ge (pe_ix (r := rIxT K) ix_tup (pv 0) pe_int (fun _ _ => rfl)) pe_int (nomark _)) (pe_and (pe_cmpR op_ge (pe_ix (r := rIxT K) ix_tup (pv 0) pe_int (fun _ _ => rfl)) pe_int (nomark _)) (pe_one (pe_cmpR op_eq (C8.pe_c c_gcd hr (by decide) (by rfl) (pa_cons (pe_ix (r := rIxT K) ix_tup (pv 0) pe_int (fun _ _ => rfl)) (pa_cons (pe_ix (r := rIxT K) ix_tup (pv 0) pe_int (fun _ _ => rfl)) pa_nil))) pe_int (nomark _))))))))), ?_⟩
    refine ⟨_, rfl, _, _, _, _, isT d, rfl, .ty "tuple", dv.ty, kit_ty (kit_tup d), isT d, rfl, ?_⟩
    cases ht : isT d with
    | false =>
      have e : rateD d = false := by
        cases d <;> first | rfl | cases ht
      rw [e] at kk
      exact iteT (iteT kk)
    | true =>
      cases dv with
      | tup er hs =>
        rename_i r xs ds
        refine iteF ⟨_, rfl, r, _, rfl, .inr (SqT.of er), rfl, _, rfl, ?_⟩
        have hl := dva_len hs
        by_cases h2 : xs.length = 2
        · match xs, ds, hs, h2, hl with
          | [v0, v1], [d0, d1], hs, _, _ =>
            cases hs with
            | cons g0 hs =>
              cases hs with
              | cons g1 hs =>
                refine iteNS rfl ?_
                refine ⟨_, rfl, r, _, _, _, rfl, rfl, SqT.of er, atI_nat (j := 0) rfl, v0, d0, rfl, g0, isI d0, rfl, ?_⟩
                cases i0 : isI d0 with
                | false =>
                  rw [rate_i (.inl i0)] at kk
                  exact iteT (iteT kk)
                | true =>
                  refine iteF ⟨_, rfl, r, _, _, _, rfl, rfl, SqT.of er, atI_nat (j := 1) rfl, v1, d1, rfl, g1, isI d1, rfl, ?_⟩
                  cases i1 : isI d1 with
                  | false =>
                    rw [rate_i (.inr i1)] at kk
                    exact iteT kk
                  | true =>
                    obtain ⟨p, rfl, rfl⟩ := isI_inv g0 i0
                    obtain ⟨q, rfl, rfl⟩ := isI_inv g1 i1
                    have kk : Q (.bl (decide (0 ≤ p) && (decide (1 ≤ q) && decide (V.int (Int.gcd p q : Int) = V.int 1)))) H := kk
                    refine iteF ⟨_, rfl, r, _, _, _, rfl, rfl, SqT.of er, atI_nat (j := 0) rfl, _, _, rfl, rfl, _, rfl, ite2 (fun c => ?_) (fun c => ?_)⟩
                    · have c : p ≥ 0 := of_decide_eq_true c
                      rw [decide_eq_true (show 0 ≤ p from c), Bool.true_and] at kk
                      refine ⟨_, rfl, r, _, _, _, rfl, rfl, SqT.of er, atI_nat (j := 1) rfl, _, _, rfl, rfl, _, rfl, ite2 (fun c2 => ?_) (fun c2 => ?_)⟩
                      · have c2 : q ≥ 1 := of_decide_eq_true c2
                        rw [decide_eq_true (show 1 ≤ q from c2), Bool.true_and] at kk
                        exact ⟨_, rfl, r, _, _, _, rfl, rfl, SqT.of er, atI_nat (j := 0) rfl, _, rfl, r, _, _, _, rfl, rfl, SqT.of er, atI_nat (j := 1) rfl, p, q, rfl, c, by omega, rfl, kk⟩
                      · have c2 : ¬ q ≥ 1 := fun z => c2 (decide_eq_true z)
                        rw [decide_eq_false (show ¬ 1 ≤ q from c2), Bool.false_and] at kk
                        exact kk
                    · have c : ¬ p ≥ 0 := fun z => c (decide_eq_true z)
                      rw [decide_eq_false (show ¬ 0 ≤ p from c), Bool.false_and] at kk
                      exact kk
        · rw [rate_two (by omega)] at kk
          exact iteTs (len_ne h2) kk
      | _ => cases ht
/-- the exception, with the value -/
def OutX (C : Addr) (x : Str) (v : V) (H : Hp) (E : XK) : Prop := ∀ dd, H dd = none → E (.ref C) (some dd) (upd H dd (.xd [(x, v)]))
def spCkRate (C : Addr) : Sp := fun vs H Q E => ∃ (v : V) (d : PyData), vs = [v] ∧ Dv H v d ∧ (rateD d = true → Q .non H) ∧ (rateD d = false → OutX C "value" v H E)
theorem okx_check_rate (D : Df K mg "check_rate" s_check_rate P_check_rate) (T : ValC P K mg C "InvalidRate" "value") (cA_is_rate : C8.Cal P w K mg base 2 "is_rate" spIsRateD []) : CalX P w K mg base 3 "check_rate" (spCkRate C) := by
  refine calx_of D sc_check_rate (fun vs H Q E h => ?_) (fun f cdv A outer s H vs Q E hr h => ?_)
  · obtain ⟨v, d, rfl, _⟩ := h
    rfl
  · obtain ⟨v, d, rfl, dv, hq, he⟩ := h
    have c_is_rate := cA_is_rate
    refine ⟨_, (pss_one (ps_if (pt_not (pt_val (C8.pe_c c_is_rate hr (by decide) (by rfl) (pa_cons (pv 0) pa_nil))))
      (pss_one (ps_raise rfl (takes_of rfl rfl rfl rfl) (pmk_val T hr (by decide) rfl (pv 0))))
      pss_nil)), ?_⟩
    refine ⟨_, rfl, v, d, rfl, dv, rateD d, rfl, ?_⟩
    cases hd : rateD d with
    | true => exact iteF (hq hd)
    | false => exact iteT ⟨_, rfl, mkv (he hd)⟩
end
end Lf
namespace Lf
open PySem PySem.Spec PyProof.Rows L2
def Odp (Pd : PyData → Prop) (H : Hp) (x : V) : Prop := ∃ d, Dv H x d ∧ Pd d
def OdpL (Pd : PyData → Prop) (H : Hp) (xs : List V) : Prop := ∀ x ∈ xs, Odp Pd H x
section
variable {Pd : PyData → Prop} {H H' : Hp} {xs ys : List V}
theorem OdpL.kp (h : OdpL Pd H xs) (f : Kp H H') : OdpL Pd H' xs := fun x hx => by
  obtain ⟨d, h1, h2⟩ := h x hx
  exact ⟨d, Dv.kp f _ _ h1, h2⟩
theorem OdpL.same (h : OdpL Pd H xs) (s : Same H H') : OdpL Pd H' xs := h.kp (Fr.same s).kp
theorem OdpL.snoc {x : V} (h : OdpL Pd H xs) (o : Odp Pd H x) : OdpL Pd H (xs ++ [x]) := fun y hy => by
  rcases List.mem_append.mp hy with hy | hy
  · exact h y hy
  · rw [List.mem_singleton.mp hy]
    exact o
theorem OdpL.app (h : OdpL Pd H xs) (h2 : OdpL Pd H ys) : OdpL Pd H (xs ++ ys) := fun y hy => (List.mem_append.mp hy).elim (h y) (h2 y)
theorem OdpL.nil : OdpL Pd H [] := fun _ z => (nomatch z)
end
def Pd37 (d : PyData) : Prop := rgB d = true ∧ recB d = false
theorem odd_by {d : PyData} (h : (rgB d && !recB d) = true) : Pd37 d := by
  rw [Bool.and_eq_true] at h
  refine ⟨h.1, ?_⟩
  cases e : recB d with
  | false => rfl
  | true =>
    rw [e] at h
    cases h.2
theorem rec_i {d0 d1 d2 : PyData} (h : isI d1 = false ∨ isI d2 = false) : recB (.tuple [d0, d1, d2]) = false := by
  show (words.any (fun z => PyData.eqv z d0) && (isI d1 && isI d2)) = false
  rcases h with h | h <;> rw [h] <;> simp
theorem rec_s {x : Str} {t n : Int} (h : (words.any fun z => PyData.eqv z (.str x)) = false) : recB (.tuple [.str x, .int t, .int n]) = false := by
  show (words.any (fun z => PyData.eqv z (.str x)) && (isI (.int t) && isI (.int n))) = false
  rw [h]
  rfl
theorem rg_w (b : Bool) {d1 d2 : PyData} : rgB (.tuple [.str (wd b), d1, d2]) = true := by
  show (!PyData.hasDict (.str (wd b)) && SeqAt.shaped (.str (wd b))) = true
  cases b <;> decide +kernel
theorem rg_lw (b : Bool) {d1 d2 : PyData} : rgB (.tuple [.list [.str (wd b)], d1, d2]) = true := by
  show (!PyData.hasDict (.list [.str (wd b)]) && SeqAt.shaped (.list [.str (wd b)])) = true
  cases b <;> decide +kernel
theorem mergeK1 {x : Str} {v : V} : mergeK [] [(Sum.inr x, v)] = [(Sum.inr x, v)] := by
  simp [mergeK, putK]
end Lf
namespace Lf
open PySem PySem.Spec PyProof.Rows L2
def rcD (d : Rec) : PyData := .tuple [.str (wd d.lo), .int d.t, .int d.n]
theorem dp_rec {K : PySem.W.Frag} {H : Hp} {r : Addr} {d : Rec} (e : H r = some (rcO d)) : Dp K H (.ref r) (rcD d) := Dp.tup (SqT.of e) (.cons (.str _) (.cons (.int _) (.cons (.int _) .nil)))
theorem dp_recs {K : PySem.W.Frag} {H : Hp} {xs : List V} {ds : List Rec} (h : Obs rcO H xs ds) : DpAll K H xs (ds.map rcD) := by
  induction h with
  | nil => exact .nil
  | cons e _ ih => exact .cons (dp_rec e) ih
theorem sh_recs (ds : List Rec) : SeqAt.shaped (.list (ds.map rcD)) = true := by
  have h : ∀ ds : List Rec, PyData.canLayAll0 (ds.map rcD) = true ∧ PyData.depthAll (ds.map rcD) ≤ 1 := by
    intro cs
    induction cs with
    | nil => exact ⟨rfl, by decide⟩
    | cons c r ih =>
      refine ⟨?_, ?_⟩
      · have hw : PyData.strOk (wd c.lo) = true := by
          cases c.lo <;> decide +kernel
        simpa [PyData.canLayAll0, PyData.canLay0, rcD, hw] using ih.1
      · have := ih.2
        simp only [List.map_cons, PyData.depthAll, rcD, PyData.depth]
        omega
  have h2 : (PyData.list (ds.map rcD)).depth ≤ 64 := by
    have := (h ds).2
    simp only [PyData.depth]
    omega
  show (PyData.canLay0 _ && decide _) = true
  rw [Bool.and_eq_true]
  exact ⟨by simpa [PyData.canLay0] using (h ds).1, decide_eq_true h2⟩
end Lf
namespace Lf
open PySem PySem.Spec PyProof.Rows L2
/-! ### check_records, split_records: of a list or a tuple, or refused -/
def isLT : PyData → Bool
  | .list _ => true
  | .tuple _ => true
  | _ => false
theorem kit_ltD {K : PySem.W.Frag} (d : PyData) : PySem.W.kitAny K (.type (tyN d)) [.type "list", .type "tuple"] = some (isLT d) := by
  cases d
  · exact kitAny_cons (b := false) (kit_ty (by show kitB "NoneType" "list" = some false; decide +kernel)) (fun _ => kitAny_cons (b := false) (kit_ty (by show kitB "NoneType" "tuple" = some false; decide +kernel)) (fun _ => rfl) (fun z => by cases z)) (fun z => by cases z)
  · exact kitAny_cons (b := false) (kit_ty (by show kitB "bool" "list" = some false; decide +kernel)) (fun _ => kitAny_cons (b := false) (kit_ty (by show kitB "bool" "tuple" = some false; decide +kernel)) (fun _ => rfl) (fun z => by cases z)) (fun z => by cases z)
  · exact kitAny_cons (b := false) (kit_ty (by show kitB "int" "list" = some false; decide +kernel)) (fun _ => kitAny_cons (b := false) (kit_ty (by show kitB "int" "tuple" = some false; decide +kernel)) (fun _ => rfl) (fun z => by cases z)) (fun z => by cases z)
  · exact kitAny_cons (b := false) (kit_ty (by show kitB "str" "list" = some false; decide +kernel)) (fun _ => kitAny_cons (b := false) (kit_ty (by show kitB "str" "tuple" = some false; decide +kernel)) (fun _ => rfl) (fun z => by cases z)) (fun z => by cases z)
  · exact kit_lt
  · exact kitAny_cons (b := false) (kit_ty (by show kitB "tuple" "list" = some false; decide +kernel)) (fun _ => kitAny_cons (b := true) (kit_ty ktt) (fun z => by cases z) (fun _ => rfl)) (fun z => by cases z)
  · exact kitAny_cons (b := false) (kit_ty (by show kitB "dict" "list" = some false; decide +kernel)) (fun _ => kitAny_cons (b := false) (kit_ty (by show kitB "dict" "tuple" = some false; decide +kernel)) (fun _ => rfl) (fun z => by cases z)) (fun z => by cases z)
def sqN (kb : Bool) : String := if kb = true then "list" else "tuple"
theorem sq_ty {K : PySem.W.Frag} {H : Hp} {a : Addr} {kb : Bool} {xs : List V} (h : H a = some (sqO kb xs)) : TyX K H (.ref a) (.type (sqN kb)) := by
  cases kb
  · exact .base (.tup h)
  · exact .base (.lst h)
theorem kit_sq {K : PySem.W.Frag} (kb : Bool) : PySem.W.kitAny K (.type (sqN kb)) [.type "list", .type "tuple"] = some true := by
  cases kb
  · exact kit_ltD (.tuple [])
  · exact kit_ltD (.list [])
theorem SqB.or {K : PySem.W.Frag} {b : Bool} {H : Hp} {a : Addr} {xs : List V} (h : SqB K b H a xs) : SqL K H a xs ∨ SqT K H a xs := by
  cases b
  · exact .inr h
  · exact .inl h
theorem rec_yes (d : Rec) : recB (rcD d) = true := by
  show (words.any (fun z => PyData.eqv z (.str (wd d.lo))) && true) = true
  cases d.lo <;> decide +kernel
theorem rec_rg (d : Rec) : rgB (rcD d) = true := rg_w d.lo
theorem rec_dvS {H : Hp} {e : Addr} {d : Rec} (h : H e = some (rcO d)) : Dv H (.ref e) (rcD d) := .tup h (.cons (.str _) (.cons (.int _) (.cons (.int _) .nil)))
inductive CkBad (H : Hp) : V → Int → Prop
  | kind {v : V} {d : PyData} : Dv H v d → isLT d = false → CkBad H v (-1)
  | long {a : Addr} {kb : Bool} {xs : List V} : H a = some (sqO kb xs) → 200 < xs.length → CkBad H (.ref a) (-1)
  | item {a : Addr} {kb : Bool} {xs : List V} {ds : List Rec} {x : V} {d : PyData} {i : Nat} : H a = some (sqO kb xs) → xs.length ≤ 200 → Obs rcO H (xs.take i) ds → xs[i]? = some x → Dv H x d → rgB d = true → recB d = false → CkBad H (.ref a) (i : Nat)
section
variable {P : Program} {w : World} {K : PySem.W.Frag} {mg : Str → Option Value} {base : Heap} {C : Addr}
def spCkS : Sp := fun vs H Q _ => ∃ (L : Addr) (kb : Bool) (xs : List V) (ds : List Rec), vs = [.ref L] ∧ H L = some (sqO kb xs) ∧ Obs rcO H xs ds ∧ ds.length ≤ 200 ∧ ∀ H', Same H H' → Q .non H'
theorem okS_check_records (D : Df K mg "check_records" s_check_records P_check_records) (B : Bi mg) (U : Bc mg) (c_is_record : C8.Cal P w K mg base 2 "is_record" spIsRec []) : C8.Cal P w K mg base 3 "check_records" spCkS [] := by
  refine cal_of D sc_check_records (fun vs H Q E h => ?_) (fun f cdv A outer s H vs Q E hr h => ?_)
  · obtain ⟨L, kb, xs, ds, rfl, _⟩ := h
    rfl
  · obtain ⟨L, kb, xs, ds, rfl, eL, hO, hl, kk⟩ := h
    obtain ⟨tM, hc_MOST_RECORDS⟩ := U.most_
    refine ⟨_, (pss_cons (ps_if (PW.pt (pw_or (pt_not (pt_val (pe_callB (call_isiT) (by rfl) B.isinstance_ bt_isinstance (pa_cons (pv 0) (pa_cons (pe_tup (pa_cons (pe_bltn (v := .ty "list") (by rfl) B.list_ bt_list rfl) (pa_cons (pe_bltn (v := .ty "tuple") (by rfl) B.tuple_ bt_tuple rfl) pa_nil))) pa_nil))))) (pw_or1 (pt_cmpR op_gt (pe_callB (call_len_seq) (by rfl) B.len_ bt_len (pa_cons (pv 0) pa_nil)) (pe_glob (v := .int 200) (by rfl) hc_MOST_RECORDS ⟨_, rfl⟩) (nomark _)))))
      (pss_one ps_never)
      pss_nil)
    (pss_one (ps_for PassesOwn.never rfl (pi_enumB (by rfl) B.enumerate_ (pa_cons (pv 0) pa_nil)) (pg_tup rfl (pgs_cons (pg_name (i := 1) sc_check_records.nd rfl (Or.inl rfl)) (pgs_cons (pg_name (i := 2) sc_check_records.nd rfl (Or.inl rfl)) pgs_nil)))
      (pss_one (ps_if (pt_not (pt_val (C8.pe_c c_is_record hr (by decide) (by rfl) (pa_cons (pv 2) pa_nil))))
      (pss_one ps_never)
      pss_nil))))), ?_⟩
    refine ⟨_, rfl, len10 (by simp), fun tp ntp => ?_⟩
    have s1 := sm_upd (o := .tup [.ty "list", .ty "tuple"]) ntp
    refine ⟨_, tp, _, _, _, true, rfl, upd_same, .cons (.ty "list") (.cons (.ty "tuple") .nil), sq_ty (s1 _ _ eL), kit_sq kb, true, rfl, iteF ?_⟩
    refine ⟨_, rfl, L, _, rfl, (SqB.of (s1 _ _ eL)).or, _, _, rfl, rfl, _, rfl, iteDn (by rw [hO.len]; omega) ?_⟩
    generalize upd H tp (.tup [.ty "list", .ty "tuple"]) = H1 at s1
    refine ⟨_, rfl, L, kb, xs, rfl, SqB.of (s1 _ _ eL), ?_⟩
    refine for_it (walk_enumB (K := K) (b := kb) (a := L) (xs := xs)) (fun i σ H' => ∃ (y1 y2 : Option V), σ = [some (.ref L), y1, y2] ∧ Same H H') ⟨_, _, rfl, s1⟩ ?_ ?_ ?_
    · rintro i σ H2 _ ⟨_, _, _, s2⟩
      exact SqB.of (s2 _ _ eL)
    · rintro i v σ H2 H3 hi ⟨y1, y2, rfl, s2⟩ ⟨T, x, y, rfl, nT, rfl, hx, hy⟩
      cases hx
      obtain ⟨r, d, rfl, er, _⟩ := hO.at hy
      have s3 := s2.trans (sm_upd (o := .tup [.int (i : Nat), .ref r]) nT)
      refine ⟨T, _, rfl, SqT.of upd_same, rfl, _, _, rfl, _, _, rfl, rfl, ?_⟩
      refine ⟨_, rfl, r, d, rfl, s3 _ _ er, fun H4 s4 => ⟨true, rfl, iteF ?_⟩⟩
      exact ⟨_, _, rfl, s3.trans s4⟩
    · rintro σ H2 ⟨_, _, rfl, s2⟩
      exact kk _ s2
def spCkX (C : Addr) : Sp := fun vs H _ E => ∃ (v : V) (j : Int), vs = [v] ∧ CkBad H v j ∧ ∀ H', Same H H' → OutY C "index" (.int j) H' E
theorem okx_check_records (D : Df K mg "check_records" s_check_records P_check_records) (T : ValC P K mg C "InvalidRecord" "index") (B : Bi mg) (U : Bc mg) (cA_is_record : C8.Cal P w K mg base 2 "is_record" spIsRecD []) : CalX P w K mg base 3 "check_records" (spCkX C) := by
  refine calx_of D sc_check_records (fun vs H Q E h => ?_) (fun f cdv A outer s H vs Q E hr h => ?_)
  · obtain ⟨v, j, rfl, _⟩ := h
    rfl
  · obtain ⟨v, j, rfl, hb, he⟩ := h
    have c_is_record := cA_is_record
    obtain ⟨tM, hc_MOST_RECORDS⟩ := U.most_
    refine ⟨_, (pss_cons (ps_if (PW.pt (pw_or (pt_not (pt_val (pe_callB (call_isiT) (by rfl) B.isinstance_ bt_isinstance (pa_cons (pv 0) (pa_cons (pe_tup (pa_cons (pe_bltn (v := .ty "list") (by rfl) B.list_ bt_list rfl) (pa_cons (pe_bltn (v := .ty "tuple") (by rfl) B.tuple_ bt_tuple rfl) pa_nil))) pa_nil))))) (pw_or1 (pt_cmpR op_gt (pe_callB (call_len_seq) (by rfl) B.len_ bt_len (pa_cons (pv 0) pa_nil)) (pe_glob (v := .int 200) (by rfl) hc_MOST_RECORDS ⟨_, rfl⟩) (nomark _)))))
      (pss_one (ps_raise rfl (takes_of rfl rfl rfl rfl) (pmk_val T hr (by decide) rfl (pe_un un_neg pe_int))))
      pss_nil)
    (pss_one (ps_for (passes_of rfl) rfl (pi_enumB (by rfl) B.enumerate_ (pa_cons (pv 0) pa_nil)) (pg_tup rfl (pgs_cons (pg_name (i := 1) sc_check_records.nd rfl (Or.inl rfl)) (pgs_cons (pg_name (i := 2) sc_check_records.nd rfl (Or.inl rfl)) pgs_nil)))
      (pss_one (ps_if (pt_not (pt_val (C8.pe_c c_is_record hr (by decide) (by rfl) (pa_cons (pv 2) pa_nil))))
      (pss_one (ps_raise rfl (takes_of rfl rfl rfl rfl) (pmk_val T hr (by decide) rfl (pv 1))))
      pss_nil))))), ?_⟩
    refine ⟨_, rfl, len10 (by simp), fun tp ntp => ?_⟩
    have s1 := sm_upd (o := .tup [.ty "list", .ty "tuple"]) ntp
    cases hb with
    | kind dv ik =>
      rename_i d
      refine ⟨_, tp, _, _, _, isLT d, rfl, upd_same, .cons (.ty "list") (.cons (.ty "tuple") .nil), (Dv.kp (Fr.same s1).kp _ _ dv).ty, kit_ltD d, isLT d, rfl, ?_⟩
      rw [ik]
      exact iteT (iteT ⟨1, rfl, mkv (he _ s1)⟩)
    | long eL hl =>
      rename_i L kb xs
      refine ⟨_, tp, _, _, _, true, rfl, upd_same, .cons (.ty "list") (.cons (.ty "tuple") .nil), sq_ty (s1 _ _ eL), kit_sq kb, true, rfl, iteF ?_⟩
      refine ⟨_, rfl, L, _, rfl, (SqB.of (s1 _ _ eL)).or, _, _, rfl, rfl, _, rfl, iteD (by omega) ?_⟩
      exact ⟨1, rfl, mkv (he _ s1)⟩
    | item eL hl hO hx dx rg rb =>
      rename_i L kb xs ds x d k
      refine ⟨_, tp, _, _, _, true, rfl, upd_same, .cons (.ty "list") (.cons (.ty "tuple") .nil), sq_ty (s1 _ _ eL), kit_sq kb, true, rfl, iteF ?_⟩
      refine ⟨_, rfl, L, _, rfl, (SqB.of (s1 _ _ eL)).or, _, _, rfl, rfl, _, rfl, iteDn (by omega) ?_⟩
      generalize upd H tp (.tup [.ty "list", .ty "tuple"]) = H1 at s1
      have hk : k < xs.length := (List.getElem?_eq_some_iff.mp hx).1
      refine ⟨_, rfl, L, kb, xs, rfl, SqB.of (s1 _ _ eL), ?_⟩
      refine for_it (walk_enumB (K := K) (b := kb) (a := L) (xs := xs)) (fun i σ H' => ∃ (y1 y2 : Option V), σ = [some (.ref L), y1, y2] ∧ Same H H' ∧ i ≤ k) ⟨_, _, rfl, s1, Nat.zero_le _⟩ ?_ ?_ ?_
      · rintro i σ H2 _ ⟨_, _, _, s2, _⟩
        exact SqB.of (s2 _ _ eL)
      · rintro i v σ H2 H3 hi ⟨y1, y2, rfl, s2, ik⟩ ⟨T, x', y, rfl, nT, rfl, hx', hy⟩
        cases hx'
        have s3 := s2.trans (sm_upd (o := .tup [.int (i : Nat), y]) nT)
        refine ⟨T, _, rfl, SqT.of upd_same, rfl, _, _, rfl, _, _, rfl, rfl, ?_⟩
        by_cases hik : i = k
        · subst hik
          have hy : xs[i]? = some y := hy
          rw [hx] at hy
          cases hy
          refine ⟨_, rfl, x, d, rfl, Dv.kp (Fr.same s3).kp _ _ dx, rg, fun H4 s4 => ⟨recB d, rfl, ?_⟩⟩
          rw [rb]
          exact iteT ⟨_, rfl, mkv (he _ (s3.trans s4))⟩
        · have hlt : i < k := by omega
          have hy2 : (xs.take k)[i]? = some y := by
            rw [List.getElem?_take_of_lt hlt]
            exact hy
          obtain ⟨r, d', rfl, er, _⟩ := hO.at hy2
          refine ⟨_, rfl, .ref r, rcD d', rfl, rec_dvS (s3 _ _ er), rec_rg d', fun H4 s4 => ⟨recB (rcD d'), rfl, ?_⟩⟩
          rw [rec_yes]
          exact iteF ⟨_, _, rfl, s3.trans s4, by omega⟩
      · rintro σ H2 ⟨_, _, rfl, s2, ik⟩
        omega
/-! ### split_records -/
def spSplitS : Sp := fun vs H Q _ => ∃ (L : Addr) (kb : Bool) (xs : List V) (ds : List Rec), vs = [.ref L] ∧ H L = some (sqO kb xs) ∧ Obs rcO H xs ds ∧ ds.length ≤ 1000 ∧
  ∀ T H' A B as bs, Same H H' → H' T = some (.tup [.ref A, .ref B]) → H' A = some (.lst as) → Obs trO H' as (sel true 0 ds) → H' B = some (.lst bs) → Obs trO H' bs (sel false 0 ds) → Q (.ref T) H'
theorem okS_split_records (D : Df K mg "split_records" s_split_records P_split_records) (B : Bi mg) : C8.Cal P w K mg base 1 "split_records" spSplitS [] := by
  refine cal_of D sc_split_records (fun vs H Q E h => ?_) (fun f cdv A outer s H vs Q E hr h => ?_)
  · obtain ⟨L, kb, xs, ds, rfl, _⟩ := h
    rfl
  · obtain ⟨L, kb, xs, ds, rfl, eL, hO, hl, kk⟩ := h
    refine ⟨_, (pss_cons (ps_setLc (i := 1) (own := [("i", 3), ("word", 4), ("t", 5), ("n", 6)]) (g := (gTup K 2 (gCons (gName 3) (gCons (gTup K 3 (gCons (gName 4) (gCons (gName 5) (gCons (gName 6) gNil)))) gNil)))) (by rfl) sc_split_records.nd rfl rfl (sw_true rfl rfl rfl (by decide +kernel)) (pi_enumB (by rfl) B.enumerate_ (pa_cons (pv 0) pa_nil)) (blkOk_by (own := [("i", 3), ("word", 4), ("t", 5), ("n", 6)]) (N := N_split_records) (sc := defScope s_split_records) (by decide +kernel)) (fun _ _ _ _ _ => (pg_tup rfl (pgs_cons (pg_name (i := 3) sc_split_records.nd rfl (Or.inl rfl)) (pgs_cons (pg_tup rfl (pgs_cons (pg_name (i := 4) sc_split_records.nd rfl (Or.inl rfl)) (pgs_cons (pg_name (i := 5) sc_split_records.nd rfl (Or.inl rfl)) (pgs_cons (pg_name (i := 6) sc_split_records.nd rfl (Or.inl rfl)) pgs_nil)))) pgs_nil)))) (fun _ _ _ _ _ => (pts_one (pt_cmpR op_eq (pv 4) pe_str (nomark _)))) (fun _ _ _ _ _ => (pe_tup (pa_cons (pv 3) (pa_cons (pv 5) (pa_cons (pv 6) pa_nil))))))
    (pss_cons (ps_setLc (i := 2) (own := [("j", 7), ("word", 4), ("u", 8), ("m", 9)]) (g := (gTup K 2 (gCons (gName 7) (gCons (gTup K 3 (gCons (gName 4) (gCons (gName 8) (gCons (gName 9) gNil)))) gNil)))) (by rfl) sc_split_records.nd rfl rfl (sw_true rfl rfl rfl (by decide +kernel)) (pi_enumB (by rfl) B.enumerate_ (pa_cons (pv 0) pa_nil)) (blkOk_by (own := [("j", 7), ("word", 4), ("u", 8), ("m", 9)]) (N := N_split_records) (sc := defScope s_split_records) (by decide +kernel)) (fun _ _ _ _ _ => (pg_tup rfl (pgs_cons (pg_name (i := 7) sc_split_records.nd rfl (Or.inl rfl)) (pgs_cons (pg_tup rfl (pgs_cons (pg_name (i := 4) sc_split_records.nd rfl (Or.inl rfl)) (pgs_cons (pg_name (i := 8) sc_split_records.nd rfl (Or.inl rfl)) (pgs_cons (pg_name (i := 9) sc_split_records.nd rfl (Or.inl rfl)) pgs_nil)))) pgs_nil)))) (fun _ _ _ _ _ => (pts_one (pt_cmpR op_eq (pv 4) pe_str (nomark _)))) (fun _ _ _ _ _ => (pe_tup (pa_cons (pv 7) (pa_cons (pv 8) (pa_cons (pv 9) pa_nil))))))
    (pss_one (ps_ret (pe_tup (pa_cons (pv 1) (pa_cons (pv 2) pa_nil))))))), ?_⟩
    refine ⟨_, rfl, L, kb, xs, rfl, SqB.of eL, fun A nA => ?_⟩
    refine lc_it (walk_enumB (K := K) (b := kb) (a := L) (xs := xs)) (fun i H' => ∃ as, H' A = some (.lst as) ∧ Obs trO H' as (sel true 0 (ds.take i)) ∧ Same H H') ⟨_, upd_same, .nil, sm_upd nA⟩ ?_ ?_ ?_
    · rintro i H1 _ ⟨_, _, _, s1⟩
      exact SqB.of (s1 _ _ eL)
    · rintro i v H1 H2 hi ⟨as, eA, oA, s1⟩ ⟨T, x, y, rfl, nT, rfl, hx, hy⟩
      cases hx
      obtain ⟨r, d, rfl, er, hd⟩ := hO.at hy
      have z := sm_upd (o := .tup [.int (i : Nat), .ref r]) nT
      have s2 := s1.trans z
      have al : as.length < sizeLine := by
        have h1 := oA.len
        have h2 := sel_len true 0 (ds.take i)
        rw [List.length_take] at h2
        exact small1000 (by omega)
      refine ⟨T, _, rfl, SqT.of upd_same, rfl, _, _, rfl, _, _, rfl, r, _, rfl, SqT.of (s2 _ _ er), rfl, _, _, rfl, _, _, rfl, _, _, rfl, rfl, rfl, ?_⟩
      refine ⟨rfl, _, rfl, rfl, _, rfl, ?_⟩
      rw [w_lo]
      cases hb : d.lo with
      | true =>
        refine iteT ⟨_, rfl, _, rfl, _, rfl, len10 (by simp), fun t nt => ?_⟩
        have z2 := sm_upd (o := .tup [.int (i : Nat), .int d.t, .int d.n]) nt
        have nA2 : t ≠ A := (ne_of_none (z _ _ eA) nt).symm
        refine ⟨as, z2 _ _ (z _ _ eA), al, _, upd_same, ?_, ?_⟩
        · rw [sel_take hd, if_pos hb]
          refine Obs.snoc (Obs.keep ((oA.same z).same z2) fun b d' e => ?_) ?_
          · rw [upd_ne (ne_of e (z2 _ _ (z _ _ eA)) (by intro q; cases q))]
            exact e
          · rw [upd_ne nA2]
            exact upd_same
        · intro b o e
          rw [upd_ne (ne_of_none e nA)]
          exact z2 _ _ (s2 _ _ e)
      | false =>
        refine iteF ⟨as, z _ _ eA, ?_, s2⟩
        rw [sel_take hd, if_neg (by rw [hb]; exact Bool.false_ne_true), List.append_nil]
        exact oA.same z
    rintro H1 ⟨as, eA, oA, s1⟩
    rw [List.take_of_length_le (by rw [hO.len]; exact Nat.le_refl _)] at oA
    refine ⟨_, rfl, L, kb, xs, rfl, SqB.of (s1 _ _ eL), fun B2 nB => ?_⟩
    refine lc_it (walk_enumB (K := K) (b := kb) (a := L) (xs := xs)) (fun i H' => ∃ bs, H' B2 = some (.lst bs) ∧ Obs trO H' bs (sel false 0 (ds.take i)) ∧ Same H1 H') ⟨_, upd_same, .nil, sm_upd nB⟩ ?_ ?_ ?_
    · rintro i H2 _ ⟨_, _, _, s2⟩
      exact SqB.of (s2 _ _ (s1 _ _ eL))
    · rintro i v H2 H3 hi ⟨bs, eB, oB, s2⟩ ⟨T, x, y, rfl, nT, rfl, hx, hy⟩
      cases hx
      obtain ⟨r, d, rfl, er, hd⟩ := hO.at hy
      have z := sm_upd (o := .tup [.int (i : Nat), .ref r]) nT
      have s3 := s2.trans z
      have al : bs.length < sizeLine := by
        have h1 := oB.len
        have h2 := sel_len false 0 (ds.take i)
        rw [List.length_take] at h2
        exact small1000 (by omega)
      refine ⟨T, _, rfl, SqT.of upd_same, rfl, _, _, rfl, _, _, rfl, r, _, rfl, SqT.of (s3 _ _ (s1 _ _ er)), rfl, _, _, rfl, _, _, rfl, _, _, rfl, rfl, rfl, ?_⟩
      refine ⟨rfl, _, rfl, rfl, _, rfl, ?_⟩
      rw [w_hi]
      cases hb : d.lo with
      | false =>
        refine iteT ⟨_, rfl, _, rfl, _, rfl, len10 (by simp), fun t nt => ?_⟩
        have z2 := sm_upd (o := .tup [.int (i : Nat), .int d.t, .int d.n]) nt
        have nB2 : t ≠ B2 := (ne_of_none (z _ _ eB) nt).symm
        refine ⟨bs, z2 _ _ (z _ _ eB), al, _, upd_same, ?_, ?_⟩
        · rw [sel_take hd, if_pos hb]
          refine Obs.snoc (Obs.keep ((oB.same z).same z2) fun b d' e => ?_) ?_
          · rw [upd_ne (ne_of e (z2 _ _ (z _ _ eB)) (by intro q; cases q))]
            exact e
          · rw [upd_ne nB2]
            exact upd_same
        · intro b o e
          rw [upd_ne (ne_of_none e nB)]
          exact z2 _ _ (s3 _ _ e)
      | true =>
        refine iteF ⟨bs, z _ _ eB, ?_, s3⟩
        rw [sel_take hd, if_neg (by rw [hb]; exact fun q => Bool.false_ne_true q.symm), List.append_nil]
        exact oB.same z
    rintro H2 ⟨bs, eB, oB, s2⟩
    rw [List.take_of_length_le (by rw [hO.len]; exact Nat.le_refl _)] at oB
    refine ⟨_, rfl, _, rfl, len10 (by simp), fun T nT => ?_⟩
    have z := sm_upd (o := .tup [.ref A, .ref B2]) nT
    exact kk T _ A B2 as bs ((s1.trans s2).trans z) upd_same (z _ _ (s2 _ _ eA)) ((oA.same s2).same z) (z _ _ eB) (oB.same z)
end
end Lf
namespace Lf
open PySem PySem.Spec PyProof.Rows L2
/-! ### the bounds of the rates -/
abbrev T4 := Int × Int × Int × Int
abbrev t4O (z : T4) : HO := .tup [.int z.1, .int z.2.1, .int z.2.2.1, .int z.2.2.2]
def PrV (H : Hp) (v : V) : Option T4 → Prop
  | none => v = .non
  | some z => ∃ r, v = .ref r ∧ H r = some (t4O z)
theorem PrV.same {H H' : Hp} {v : V} {o : Option T4} (h : PrV H v o) (s : Same H H') : PrV H' v o := by
  cases o with
  | none => exact h
  | some z =>
    obtain ⟨r, e, h⟩ := h
    exact ⟨r, e, s _ _ h⟩
def uc (x y : T3) : Prop := ¬ y.2.1 < x.2.1 ∧ (x.2.1 < y.2.1 ∨ x.2.2 > y.2.2)
def bot (x y : T3) : Int := if y.2.1 - x.2.1 > 1 then y.2.1 - x.2.1 else 1
theorem bot_pos (x y : T3) : 1 ≤ bot x y := by
  unfold bot
  by_cases h : y.2.1 - x.2.1 > 1
  · rw [if_pos h]
    omega
  · rw [if_neg h]
    omega
theorem bot_eq {x y : T3} (h : x.2.1 < y.2.1) : bot x y = y.2.1 - x.2.1 := by
  unfold bot
  by_cases h : y.2.1 - x.2.1 > 1
  · rw [if_pos h]
  · rw [if_neg h]
    omega
def LoOk (S : T3 → T3 → Prop) : Option T4 → Prop
  | none => ∀ x y, S x y → ¬ y.2.1 < x.2.1
  | some z => (∃ x y, S x y ∧ y.2.1 < x.2.1 ∧ z = (x.2.2 - y.2.2 - 1, x.2.1 - y.2.1, x.1, y.1)) ∧ ∀ x y, S x y → y.2.1 < x.2.1 → (x.2.2 - y.2.2 - 1) * z.2.1 ≤ z.1 * (x.2.1 - y.2.1)
def UpOk (S : T3 → T3 → Prop) : Option T4 → Prop
  | none => ∀ x y, S x y → ¬ uc x y
  | some z => (∃ x y, S x y ∧ uc x y ∧ z = (y.2.2 + 1 - x.2.2, bot x y, x.1, y.1)) ∧ ∀ x y, S x y → uc x y → z.1 * bot x y ≤ (y.2.2 + 1 - x.2.2) * z.2.1
theorem frac_trans {a b c d e f : Int} (hd : 0 < d) (hb : 0 < b) (hf : 0 < f) (h1 : a * d ≤ c * b) (h2 : c * f ≤ e * d) : a * f ≤ e * b := by
  refine Int.le_of_mul_le_mul_right ?_ hd
  have g1 := Int.mul_le_mul_of_nonneg_right h1 (Int.le_of_lt hf)
  have g2 := Int.mul_le_mul_of_nonneg_right h2 (Int.le_of_lt hb)
  have e1 : a * f * d = a * d * f := by grind
  have e2 : e * b * d = e * d * b := by grind
  have e3 : c * b * f = c * f * b := by grind
  omega
theorem frac_lt {a b c d e f : Int} (hd : 0 < d) (hb : 0 < b) (hf : 0 < f) (h1 : a * d ≤ c * b) (h2 : c * f < e * d) : a * f < e * b := by
  refine Int.lt_of_mul_lt_mul_right ?_ (Int.le_of_lt hd)
  have g1 := Int.mul_le_mul_of_nonneg_right h1 (Int.le_of_lt hf)
  have g2 := Int.mul_lt_mul_of_pos_right h2 hb
  have e1 : a * f * d = a * d * f := by grind
  have e2 : e * b * d = e * d * b := by grind
  have e3 : c * b * f = c * f * b := by grind
  omega
theorem frac_lt' {a b c d e f : Int} (hd : 0 < d) (hb : 0 < b) (hf : 0 < f) (h1 : a * d < c * b) (h2 : c * f ≤ e * d) : a * f < e * b := by
  refine Int.lt_of_mul_lt_mul_right ?_ (Int.le_of_lt hd)
  have g1 := Int.mul_lt_mul_of_pos_right h1 hf
  have g2 := Int.mul_le_mul_of_nonneg_right h2 (Int.le_of_lt hb)
  have e1 : a * f * d = a * d * f := by grind
  have e2 : e * b * d = e * d * b := by grind
  have e3 : c * b * f = c * f * b := by grind
  omega
def ad (S : T3 → T3 → Prop) (x y : T3) : T3 → T3 → Prop := fun x' y' => S x' y' ∨ (x' = x ∧ y' = y)
section
variable {S S' : T3 → T3 → Prop} {x y : T3} {o : Option T4}
theorem LoOk.congr (h : LoOk S o) (e : ∀ x y, S x y ↔ S' x y) : LoOk S' o := by
  have : S = S' := by
    funext x y
    exact propext (e x y)
  rw [← this]
  exact h
theorem UpOk.congr (h : UpOk S o) (e : ∀ x y, S x y ↔ S' x y) : UpOk S' o := by
  have : S = S' := by
    funext x y
    exact propext (e x y)
  rw [← this]
  exact h
theorem LoOk.den (h : LoOk S o) : ∀ z, o = some z → 1 ≤ z.2.1 := fun z e => by
  subst e
  obtain ⟨⟨x, y, _, h1, rfl⟩, _⟩ := h
  show 1 ≤ x.2.1 - y.2.1
  omega
theorem UpOk.den (h : UpOk S o) : ∀ z, o = some z → 1 ≤ z.2.1 := fun z e => by
  subst e
  obtain ⟨⟨x, y, _, h1, rfl⟩, _⟩ := h
  exact bot_pos x y
theorem LoOk.skip (h : LoOk S o) (n : ¬ y.2.1 < x.2.1) : LoOk (ad S x y) o := by
  cases o with
  | none =>
    rintro x' y' (z | ⟨rfl, rfl⟩)
    · exact h _ _ z
    · exact n
  | some z =>
    obtain ⟨⟨x0, y0, s0, h1, h2⟩, h3⟩ := h
    refine ⟨⟨x0, y0, .inl s0, h1, h2⟩, ?_⟩
    rintro x' y' (z | ⟨rfl, rfl⟩) c
    · exact h3 _ _ z c
    · exact absurd c n
theorem UpOk.skip (h : UpOk S o) (n : ¬ uc x y) : UpOk (ad S x y) o := by
  cases o with
  | none =>
    rintro x' y' (z | ⟨rfl, rfl⟩)
    · exact h _ _ z
    · exact n
  | some z =>
    obtain ⟨⟨x0, y0, s0, h1, h2⟩, h3⟩ := h
    refine ⟨⟨x0, y0, .inl s0, h1, h2⟩, ?_⟩
    rintro x' y' (z | ⟨rfl, rfl⟩) c
    · exact h3 _ _ z c
    · exact absurd c n
theorem LoOk.first (h : LoOk S none) (c : y.2.1 < x.2.1) : LoOk (ad S x y) (some (x.2.2 - y.2.2 - 1, x.2.1 - y.2.1, x.1, y.1)) := by
  refine ⟨⟨x, y, .inr ⟨rfl, rfl⟩, c, rfl⟩, ?_⟩
  rintro x' y' (z | ⟨rfl, rfl⟩) c'
  · exact absurd c' (h _ _ z)
  · exact Int.le_refl _
theorem LoOk.keep {z : T4} (h : LoOk S (some z)) (g : (x.2.2 - y.2.2 - 1) * z.2.1 ≤ z.1 * (x.2.1 - y.2.1)) : LoOk (ad S x y) (some z) := by
  obtain ⟨⟨x0, y0, s0, h1, h2⟩, h3⟩ := h
  refine ⟨⟨x0, y0, .inl s0, h1, h2⟩, ?_⟩
  rintro x' y' (z | ⟨rfl, rfl⟩) c
  · exact h3 _ _ z c
  · exact g
theorem LoOk.upd {z : T4} (h : LoOk S (some z)) (c : y.2.1 < x.2.1) (g : z.1 * (x.2.1 - y.2.1) < (x.2.2 - y.2.2 - 1) * z.2.1) : LoOk (ad S x y) (some (x.2.2 - y.2.2 - 1, x.2.1 - y.2.1, x.1, y.1)) := by
  refine ⟨⟨x, y, .inr ⟨rfl, rfl⟩, c, rfl⟩, ?_⟩
  have dz := h.den z rfl
  rintro x' y' (s | ⟨rfl, rfl⟩) c'
  · show (x'.2.2 - y'.2.2 - 1) * (x.2.1 - y.2.1) ≤ (x.2.2 - y.2.2 - 1) * (x'.2.1 - y'.2.1)
    exact frac_trans (by omega : 0 < z.2.1) (by omega) (by omega) (h.2 _ _ s c') (Int.le_of_lt g)
  · exact Int.le_refl _
theorem UpOk.first (h : UpOk S none) (c : uc x y) : UpOk (ad S x y) (some (y.2.2 + 1 - x.2.2, bot x y, x.1, y.1)) := by
  refine ⟨⟨x, y, .inr ⟨rfl, rfl⟩, c, rfl⟩, ?_⟩
  rintro x' y' (z | ⟨rfl, rfl⟩) c'
  · exact absurd c' (h _ _ z)
  · exact Int.le_refl _
theorem UpOk.keep {z : T4} (h : UpOk S (some z)) (g : z.1 * bot x y ≤ (y.2.2 + 1 - x.2.2) * z.2.1) : UpOk (ad S x y) (some z) := by
  obtain ⟨⟨x0, y0, s0, h1, h2⟩, h3⟩ := h
  refine ⟨⟨x0, y0, .inl s0, h1, h2⟩, ?_⟩
  rintro x' y' (z | ⟨rfl, rfl⟩) c
  · exact h3 _ _ z c
  · exact g
theorem UpOk.upd {z : T4} (h : UpOk S (some z)) (c : uc x y) (g : (y.2.2 + 1 - x.2.2) * z.2.1 < z.1 * bot x y) : UpOk (ad S x y) (some (y.2.2 + 1 - x.2.2, bot x y, x.1, y.1)) := by
  refine ⟨⟨x, y, .inr ⟨rfl, rfl⟩, c, rfl⟩, ?_⟩
  have dz := h.den z rfl
  have b1 := bot_pos x y
  rintro x' y' (s | ⟨rfl, rfl⟩) c'
  · have b2 := bot_pos x' y'
    show (y.2.2 + 1 - x.2.2) * bot x' y' ≤ (y'.2.2 + 1 - x'.2.2) * bot x y
    exact frac_trans (by omega : 0 < z.2.1) (by omega) (by omega) (Int.le_of_lt g) (h.2 _ _ s c')
  · exact Int.le_refl _
end
/-- a rate within the bounds -/
def RateIn (lo up : Option T4) (p q : Int) : Prop := (∀ z, lo = some z → z.1 * q < p * z.2.1) ∧ ∀ z, up = some z → p * z.2.1 < z.1 * q
theorem rate_iff {S : T3 → T3 → Prop} {lo up : Option T4} {p q : Int} (hp : 0 ≤ p) (hq : 1 ≤ q) (hl : LoOk S lo) (hu : UpOk S up) : (∀ x y, S x y → p * (y.2.1 - x.2.1) < (y.2.2 + 1 - x.2.2) * q) ↔ RateIn lo up p q := by
  constructor
  · intro h
    constructor
    · rintro z rfl
      obtain ⟨⟨x, y, s, c, rfl⟩, _⟩ := hl
      have := h x y s
      show (x.2.2 - y.2.2 - 1) * q < p * (x.2.1 - y.2.1)
      have e1 : (x.2.2 - y.2.2 - 1) * q = -((y.2.2 + 1 - x.2.2) * q) := by grind
      have e2 : p * (x.2.1 - y.2.1) = -(p * (y.2.1 - x.2.1)) := by grind
      omega
    · rintro z rfl
      obtain ⟨⟨x, y, s, c, rfl⟩, _⟩ := hu
      have g := h x y s
      show p * bot x y < (y.2.2 + 1 - x.2.2) * q
      by_cases c2 : x.2.1 < y.2.1
      · rw [bot_eq c2]
        exact g
      · have e : y.2.1 - x.2.1 = 0 := by
          have := c.1
          omega
        rw [e, Int.mul_zero] at g
        have : 0 < y.2.2 + 1 - x.2.2 := pos_of_mul g (by omega)
        have := c.2
        omega
  · rintro ⟨h1, h2⟩ x y s
    by_cases c : y.2.1 < x.2.1
    · cases lo with
      | none => exact absurd c (hl x y s)
      | some z =>
        have dz := hl.den z rfl
        have g := frac_lt (by omega : 0 < z.2.1) (by omega) (by omega : 0 < q) (hl.2 x y s c) (h1 z rfl)
        have e1 : (x.2.2 - y.2.2 - 1) * q = -((y.2.2 + 1 - x.2.2) * q) := by grind
        have e2 : p * (x.2.1 - y.2.1) = -(p * (y.2.1 - x.2.1)) := by grind
        omega
    · by_cases c2 : x.2.1 < y.2.1 ∨ x.2.2 > y.2.2
      · cases up with
        | none => exact absurd ⟨c, c2⟩ (hu x y s)
        | some z =>
          have dz := hu.den z rfl
          have b1 := bot_pos x y
          have g := frac_lt' (by omega : 0 < z.2.1) (by omega : 0 < q) (by omega : 0 < bot x y) (h2 z rfl) (hu.2 x y s ⟨c, c2⟩)
          have le : y.2.1 - x.2.1 ≤ bot x y := by
            by_cases c3 : x.2.1 < y.2.1
            · rw [bot_eq c3]
              exact Int.le_refl _
            · omega
          have := Int.mul_le_mul_of_nonneg_left le hp
          omega
      · have e : y.2.1 - x.2.1 = 0 := by omega
        rw [e, Int.mul_zero]
        exact Int.mul_pos (by omega) (by omega)
/-- no rate is left -/
def nr : Option T4 → Option T4 → Bool
  | _, none => false
  | none, some h => decide (h.1 ≤ 0)
  | some l, some h => decide (h.1 ≤ 0) || decide (h.1 * l.2.1 ≤ l.1 * h.2.1)
theorem nr_none {S : T3 → T3 → Prop} {lo up : Option T4} {p q : Int} (hp : 0 ≤ p) (hq : 1 ≤ q) (hl : LoOk S lo) (hu : UpOk S up) (h : nr lo up = true) : ¬ RateIn lo up p q := by
  rintro ⟨h1, h2⟩
  cases up with
  | none => cases lo <;> cases h
  | some z =>
    have dz := hu.den z rfl
    have g2 := h2 z rfl
    have pz : z.1 ≤ 0 → False := fun c => by
      have := Int.mul_le_mul_of_nonneg_right c (show 0 ≤ q by omega)
      have := Int.mul_nonneg hp (show 0 ≤ z.2.1 by omega)
      rw [Int.zero_mul] at *
      omega
    cases lo with
    | none => exact pz (of_decide_eq_true h)
    | some l =>
      have dl := hl.den l rfl
      have g1 := h1 l rfl
      rcases Bool.or_eq_true _ _ ▸ h with h | h
      · exact pz (of_decide_eq_true h)
      · have h : z.1 * l.2.1 ≤ l.1 * z.2.1 := of_decide_eq_true h
        have := frac_lt (by omega : 0 < l.2.1) (by omega : 0 < z.2.1) (by omega : 0 < q) h g1
        omega
def PB (k : Nat) (o : Option T4) : Prop := ∀ z, o = some z → Bd (k + 2) z.1 ∧ Bd (k + 2) z.2.1
def TB (k : Nat) (ls : List T3) : Prop := ∀ x ∈ ls, Bd k x.2.1 ∧ Bd k x.2.2
section
variable {P : Program} {w : World} {K : PySem.W.Frag} {mg : Str → Option Value} {base : Heap}
def spTP : Sp := fun vs H Q _ => ∃ (T A B : Addr) (vl vu : V) (lo up : Option T4) (as bs : List V) (ls hs : List T3) (S : T3 → T3 → Prop) (k : Nat), vs = [.ref T, .ref A, .ref B] ∧ H T = some (.tup [vl, vu]) ∧ PrV H vl lo ∧ PrV H vu up ∧ H A = some (.lst as) ∧ Obs trO H as ls ∧ H B = some (.lst bs) ∧ Obs trO H bs hs ∧
  TB k ls ∧ TB k hs ∧ PB k lo ∧ PB k up ∧ LoOk S lo ∧ UpOk S up ∧ 0 < k ∧ k ≤ 10000 ∧
  ∀ R H' wl wu lo' up', Same H H' → H' R = some (.tup [wl, wu]) → PrV H' wl lo' → PrV H' wu up' → PB k lo' → PB k up' → LoOk (fun x y => S x y ∨ (x ∈ ls ∧ y ∈ hs)) lo' → UpOk (fun x y => S x y ∨ (x ∈ ls ∧ y ∈ hs)) up' → Q (.ref R) H'
abbrev s_tighter_pairs : Stmt := topS 36
abbrev N_tighter_pairs : List Str := ["pairs", "lows", "highs", "lower", "upper", "i", "t", "n", "j", "u", "m", "bottom"]
abbrev P_tighter_pairs : List Str := ["pairs", "lows", "highs"]
theorem sc_tighter_pairs : FnScope N_tighter_pairs P_tighter_pairs (defScope s_tighter_pairs) := ⟨rfl, rfl, rfl, by decide +kernel, rfl, by decide +kernel, by decide +kernel⟩
theorem ok_tighter_pairs (D : Df K mg "tighter_pairs" s_tighter_pairs P_tighter_pairs) (B : Bi mg) : C8.Cal P w K mg base 1 "tighter_pairs" spTP [] := by
  refine cal_of D sc_tighter_pairs (fun vs H Q E h => ?_) (fun f cdv A outer s H vs Q E hr h => ?_)
  · obtain ⟨T, A, B, vl, vu, lo, up, as, bs, ls, hs, S, k, rfl, _⟩ := h
    rfl
  · obtain ⟨T, A', B', vl, vu, lo, up, as, bs, ls, hs, S, k, rfl, eT, pl, pu, eA, oA, eB, oB, tA, tB, bl, bu, hlo, hup, k0, k1, kk⟩ := h
    refine ⟨_, (pss_cons (ps_asg (pv 0) (pg_tup rfl (pgs_cons (pg_name (i := 3) sc_tighter_pairs.nd rfl (Or.inl rfl)) (pgs_cons (pg_name (i := 4) sc_tighter_pairs.nd rfl (Or.inl rfl)) pgs_nil))))
    (pss_cons (ps_for PassesOwn.never rfl (pi_list (pv 1)) (pg_tup rfl (pgs_cons (pg_name (i := 5) sc_tighter_pairs.nd rfl (Or.inl rfl)) (pgs_cons (pg_name (i := 6) sc_tighter_pairs.nd rfl (Or.inl rfl)) (pgs_cons (pg_name (i := 7) sc_tighter_pairs.nd rfl (Or.inl rfl)) pgs_nil))))
      (pss_one (ps_for PassesOwn.never rfl (pi_list (pv 2)) (pg_tup rfl (pgs_cons (pg_name (i := 8) sc_tighter_pairs.nd rfl (Or.inl rfl)) (pgs_cons (pg_name (i := 9) sc_tighter_pairs.nd rfl (Or.inl rfl)) (pgs_cons (pg_name (i := 10) sc_tighter_pairs.nd rfl (Or.inl rfl)) pgs_nil))))
      (pss_one (ps_if (pt_cmpR op_lt (pv 9) (pv 6) (nomark _))
      (pss_one (ps_if (PW.pt (pw_or (pt_cmpR op_isN (pv 3) pe_non (nomark _)) (pw_or1 (pt_cmpR op_gt (pe_op op_mulW (pe_op op_sub (pe_op op_sub (pv 7) (pv 10)) pe_int) (pe_ix (r := rIxT K) ix_tup (pv 3) pe_int (fun _ _ => rfl))) (pe_op op_mulW (pe_ix (r := rIxT K) ix_tup (pv 3) pe_int (fun _ _ => rfl)) (pe_op op_sub (pv 6) (pv 9))) (nomark _)))))
      (pss_one (ps_set (i := 3) sc_tighter_pairs.nd rfl (Or.inl rfl) (pe_tup (pa_cons (pe_op op_sub (pe_op op_sub (pv 7) (pv 10)) pe_int) (pa_cons (pe_op op_sub (pv 6) (pv 9)) (pa_cons (pv 5) (pa_cons (pv 8) pa_nil)))))))
      pss_nil))
      (pss_one (ps_if (PW.pt (pw_or (pt_cmpR op_lt (pv 6) (pv 9) (nomark _)) (pw_or1 (pt_cmpR op_gt (pv 7) (pv 10) (nomark _)))))
      (pss_cons (ps_set (i := 11) sc_tighter_pairs.nd rfl (Or.inl rfl) (pe_callB (call_max2 rfl) (by rfl) B.max_ bt_max (pa_cons pe_int (pa_cons (pe_op op_sub (pv 9) (pv 6)) pa_nil))))
    (pss_one (ps_if (PW.pt (pw_or (pt_cmpR op_isN (pv 4) pe_non (nomark _)) (pw_or1 (pt_cmpR op_lt (pe_op op_mulW (pe_op op_sub (pe_op op_add (pv 10) pe_int) (pv 7)) (pe_ix (r := rIxT K) ix_tup (pv 4) pe_int (fun _ _ => rfl))) (pe_op op_mulW (pe_ix (r := rIxT K) ix_tup (pv 4) pe_int (fun _ _ => rfl)) (pv 11)) (nomark _)))))
      (pss_one (ps_set (i := 4) sc_tighter_pairs.nd rfl (Or.inl rfl) (pe_tup (pa_cons (pe_op op_sub (pe_op op_add (pv 10) pe_int) (pv 7)) (pa_cons (pv 11) (pa_cons (pv 5) (pa_cons (pv 8) pa_nil)))))))
      pss_nil)))
      pss_nil)))))))
    (pss_one (ps_ret (pe_tup (pa_cons (pv 3) (pa_cons (pv 4) pa_nil))))))), ?_⟩
    refine ⟨_, rfl, T, _, rfl, SqT.of eT, rfl, _, _, rfl, _, _, rfl, rfl, ?_⟩
    refine ⟨_, rfl, A', rfl, ⟨_, SqL.of eA⟩, ?_⟩
    refine for_list (K := K) (a := A') (xs := as) (fun i σ H' => ∃ (vl vu : V) (lo up : Option T4) (y5 y6 y7 y8 y9 y10 y11 : Option V), σ = [some (.ref T), some (.ref A'), some (.ref B'), some vl, some vu, y5, y6, y7, y8, y9, y10, y11] ∧ Same H H' ∧ PrV H' vl lo ∧ PrV H' vu up ∧ PB k lo ∧ PB k up ∧ LoOk (fun x y => S x y ∨ (x ∈ ls.take i ∧ y ∈ hs)) lo ∧ UpOk (fun x y => S x y ∨ (x ∈ ls.take i ∧ y ∈ hs)) up) ?_ ?_ ?_ ?_
    · refine ⟨vl, vu, lo, up, _, _, _, _, _, _, _, rfl, Same.refl _, pl, pu, bl, bu, hlo.congr fun x y => ?_, hup.congr fun x y => ?_⟩
      · constructor
        · exact .inl
        · rintro (z | ⟨z, _⟩)
          · exact z
          · cases z
      · constructor
        · exact .inl
        · rintro (z | ⟨z, _⟩)
          · exact z
          · cases z
    · rintro i σ H' _ ⟨_, _, _, _, _, _, _, _, _, _, _, _, s', _⟩
      exact SqL.of (s' _ _ eA)
    · rintro i v σ H1 hv ⟨vl, vu, lo, up, y5, y6, y7, y8, y9, y10, y11, rfl, s1, pl, pu, bl, bu, hlo, hup⟩
      obtain ⟨r, x, rfl, er, hx⟩ := oA.at hv
      have xb := tA x (List.mem_of_getElem? hx)
      refine ⟨r, _, rfl, SqT.of (s1 _ _ er), rfl, _, _, rfl, _, _, rfl, _, _, rfl, rfl, ?_⟩
      refine ⟨_, rfl, B', rfl, ⟨_, SqL.of (s1 _ _ eB)⟩, ?_⟩
      refine for_list (K := K) (a := B') (xs := bs) (fun j σ H' => ∃ (vl vu : V) (lo up : Option T4) (y8 y9 y10 y11 : Option V), σ = [some (.ref T), some (.ref A'), some (.ref B'), some vl, some vu, some (.int x.1), some (.int x.2.1), some (.int x.2.2), y8, y9, y10, y11] ∧ Same H H' ∧ PrV H' vl lo ∧ PrV H' vu up ∧ PB k lo ∧ PB k up ∧ LoOk (fun x' y' => (S x' y' ∨ (x' ∈ ls.take i ∧ y' ∈ hs)) ∨ (x' = x ∧ y' ∈ hs.take j)) lo ∧ UpOk (fun x' y' => (S x' y' ∨ (x' ∈ ls.take i ∧ y' ∈ hs)) ∨ (x' = x ∧ y' ∈ hs.take j)) up) ?_ ?_ ?_ ?_
      · refine ⟨vl, vu, lo, up, _, _, _, _, rfl, s1, pl, pu, bl, bu, hlo.congr fun x y => ?_, hup.congr fun x y => ?_⟩
        · constructor
          · exact .inl
          · rintro (z | ⟨_, z⟩)
            · exact z
            · cases z
        · constructor
          · exact .inl
          · rintro (z | ⟨_, z⟩)
            · exact z
            · cases z
      · rintro j σ H' _ ⟨_, _, _, _, _, _, _, _, _, s', _⟩
        exact SqL.of (s' _ _ eB)
      · clear hlo hup pl pu bl bu vl vu lo up
        rintro j v σ H2 hv ⟨vl, vu, lo, up, y8, y9, y10, y11, rfl, s2, pl, pu, bl, bu, hlo, hup⟩
        obtain ⟨r2, y, rfl, er2, hy⟩ := oB.at hv
        have yb := tB y (List.mem_of_getElem? hy)
        have cg : ∀ x' y', ad (fun x' y' => (S x' y' ∨ (x' ∈ ls.take i ∧ y' ∈ hs)) ∨ (x' = x ∧ y' ∈ hs.take j)) x y x' y' ↔ ((S x' y' ∨ (x' ∈ ls.take i ∧ y' ∈ hs)) ∨ (x' = x ∧ y' ∈ hs.take (j + 1))) := fun x' y' => by
          rw [List.take_add_one, hy]
          constructor
          · rintro ((z | ⟨z1, z2⟩) | ⟨z1, z2⟩)
            · exact .inl z
            · exact .inr ⟨z1, List.mem_append.mpr (.inl z2)⟩
            · exact .inr ⟨z1, List.mem_append.mpr (.inr (List.mem_singleton.mpr z2))⟩
          · rintro (z | ⟨z1, z2⟩)
            · exact .inl (.inl z)
            · rcases List.mem_append.mp z2 with z2 | z2
              · exact .inl (.inr ⟨z1, z2⟩)
              · exact .inr ⟨z1, List.mem_singleton.mp z2⟩
        have hlo' := hlo
        have hup' := hup
        refine ⟨r2, _, rfl, SqT.of (s2 _ _ er2), rfl, _, _, rfl, _, _, rfl, _, _, rfl, rfl, ?_⟩
        have b1 : Bd (k + 2) (x.2.2 - y.2.2 - 1) := Bd.sub (Bd.sub xb.2 yb.2) (Bd.small 1 (by decide) (by omega))
        have b2 : Bd (k + 1) (x.2.1 - y.2.1) := Bd.sub xb.1 yb.1
        have b3 : Bd (k + 2) (y.2.2 + 1 - x.2.2) := Bd.sub (Bd.add yb.2 (Bd.small 1 (by decide) (by omega))) (xb.2.mono (by omega))
        have b4 : Bd (k + 1) (bot x y) := by
          unfold bot
          by_cases h : y.2.1 - x.2.1 > 1
          · rw [if_pos h]
            exact Bd.sub yb.1 xb.1
          · rw [if_neg h]
            exact Bd.small 1 (by decide) (by omega)
        refine ⟨_, rfl, _, rfl, _, _, rfl, rfl, _, rfl, ite2 (fun c => ?_) (fun c => ?_)⟩
        · have c : y.2.1 < x.2.1 := of_decide_eq_true c
          have upS := (hup.skip (x := x) (y := y) (fun z => z.1 c)).congr cg
          cases lo with
          | none =>
            have e : vl = .non := pl
            subst e
            refine ⟨_, rfl, rfl, _, rfl, iteT (iteT ?_)⟩
            refine ⟨_, rfl, _, rfl, _, _, rfl, rfl, _, _, rfl, rfl, _, rfl, _, rfl, _, _, rfl, rfl, _, rfl, _, rfl, len10 (by simp), fun r3 nr3 => ?_⟩
            have z3 := sm_upd (o := t4O (x.2.2 - y.2.2 - 1, x.2.1 - y.2.1, x.1, y.1)) nr3
            exact ⟨_, _, some (x.2.2 - y.2.2 - 1, x.2.1 - y.2.1, x.1, y.1), up, _, _, _, _, rfl, s2.trans z3, ⟨r3, rfl, upd_same⟩, pu.same z3, fun z e => by cases e; exact ⟨b1, b2.mono (by omega)⟩, bu, (hlo.first c).congr cg, upS⟩
          | some z =>
            obtain ⟨rz, rfl, ez⟩ := pl
            obtain ⟨bz1, bz2⟩ := bl z rfl
            refine ⟨_, rfl, rfl, _, rfl, iteF ?_⟩
            refine ⟨_, rfl, _, rfl, _, _, rfl, rfl, _, _, rfl, rfl, _, rfl, rz, _, _, _, rfl, rfl, SqT.of ez, atI_nat (j := 1) rfl, _, _, rfl, rfl, mulW b1 bz2 (by omega) (by omega) (by omega), _, rfl, rz, _, _, _, rfl, rfl, SqT.of ez, atI_nat (j := 0) rfl, _, rfl, _, rfl, _, _, rfl, rfl, _, _, rfl, rfl, mulW bz1 b2 (by omega) (by omega) (by omega), _, _, rfl, rfl, _, rfl, ite2 (fun g => ?_) (fun g => ?_)⟩
            · have g : (x.2.2 - y.2.2 - 1) * z.2.1 > z.1 * (x.2.1 - y.2.1) := of_decide_eq_true g
              refine ⟨_, rfl, _, rfl, _, _, rfl, rfl, _, _, rfl, rfl, _, rfl, _, rfl, _, _, rfl, rfl, _, rfl, _, rfl, len10 (by simp), fun r3 nr3 => ?_⟩
              have z3 := sm_upd (o := t4O (x.2.2 - y.2.2 - 1, x.2.1 - y.2.1, x.1, y.1)) nr3
              exact ⟨_, _, some (x.2.2 - y.2.2 - 1, x.2.1 - y.2.1, x.1, y.1), up, _, _, _, _, rfl, s2.trans z3, ⟨r3, rfl, upd_same⟩, pu.same z3, fun z e => by cases e; exact ⟨b1, b2.mono (by omega)⟩, bu, (hlo.upd c g).congr cg, upS⟩
            · have g : ¬ (x.2.2 - y.2.2 - 1) * z.2.1 > z.1 * (x.2.1 - y.2.1) := fun h => g (decide_eq_true h)
              exact ⟨_, _, some z, up, _, _, _, _, rfl, s2, ⟨rz, rfl, ez⟩, pu, bl, bu, (hlo.keep (by omega)).congr cg, upS⟩
        · have c : ¬ y.2.1 < x.2.1 := fun h => c (decide_eq_true h)
          have loS := (hlo.skip (x := x) (y := y) c).congr cg
          refine ⟨_, rfl, _, rfl, _, _, rfl, rfl, _, rfl, ite2 (fun c1 => iteT ((fun (hu : uc x y) => ?tw1) ⟨c, .inl (of_decide_eq_true c1)⟩)) (fun c1 => ⟨_, rfl, _, rfl, _, _, rfl, rfl, _, rfl, ite2 (fun c2 => (fun (hu : uc x y) => ?tw2) ⟨c, .inr (of_decide_eq_true c2)⟩) (fun c2 => ?_)⟩)⟩
          case tw1 | tw2 =>
            refine ⟨_, rfl, _, rfl, _, _, rfl, rfl, _, _, rfl, ?_⟩
            show gName 11 (.int (bot x y)) _ H2 _
            cases up with
            | none =>
              have e : vu = .non := pu
              subst e
              refine ⟨_, rfl, rfl, _, rfl, iteT (iteT ?_)⟩
              refine ⟨_, rfl, _, _, rfl, rfl, _, rfl, _, _, rfl, rfl, _, rfl, _, rfl, _, rfl, len10 (by simp), fun r3 nr3 => ?_⟩
              have z3 := sm_upd (o := t4O (y.2.2 + 1 - x.2.2, bot x y, x.1, y.1)) nr3
              exact ⟨_, _, lo, some (y.2.2 + 1 - x.2.2, bot x y, x.1, y.1), _, _, _, _, rfl, s2.trans z3, pl.same z3, ⟨r3, rfl, upd_same⟩, bl, fun z e => by cases e; exact ⟨b3, b4.mono (by omega)⟩, loS, (hup.first hu).congr cg⟩
            | some z =>
              obtain ⟨rz, rfl, ez⟩ := pu
              obtain ⟨bz1, bz2⟩ := bu z rfl
              refine ⟨_, rfl, rfl, _, rfl, iteF ?_⟩
              refine ⟨_, rfl, _, _, rfl, rfl, _, rfl, _, _, rfl, rfl, _, rfl, rz, _, _, _, rfl, rfl, SqT.of ez, atI_nat (j := 1) rfl, _, _, rfl, rfl, mulW b3 bz2 (by omega) (by omega) (by omega), _, rfl, rz, _, _, _, rfl, rfl, SqT.of ez, atI_nat (j := 0) rfl, _, rfl, _, _, rfl, rfl, mulW bz1 b4 (by omega) (by omega) (by omega), _, _, rfl, rfl, _, rfl, ite2 (fun g => ?_) (fun g => ?_)⟩
              · have g : (y.2.2 + 1 - x.2.2) * z.2.1 < z.1 * bot x y := of_decide_eq_true g
                refine ⟨_, rfl, _, _, rfl, rfl, _, rfl, _, _, rfl, rfl, _, rfl, _, rfl, _, rfl, len10 (by simp), fun r3 nr3 => ?_⟩
                have z3 := sm_upd (o := t4O (y.2.2 + 1 - x.2.2, bot x y, x.1, y.1)) nr3
                exact ⟨_, _, lo, some (y.2.2 + 1 - x.2.2, bot x y, x.1, y.1), _, _, _, _, rfl, s2.trans z3, pl.same z3, ⟨r3, rfl, upd_same⟩, bl, fun z e => by cases e; exact ⟨b3, b4.mono (by omega)⟩, loS, (hup.upd hu g).congr cg⟩
              · have g : ¬ (y.2.2 + 1 - x.2.2) * z.2.1 < z.1 * bot x y := fun h => g (decide_eq_true h)
                exact ⟨_, _, lo, some z, _, _, _, _, rfl, s2, pl, ⟨rz, rfl, ez⟩, bl, bu, loS, (hup.keep (by omega)).congr cg⟩
          · have nu : ¬ uc x y := fun z => z.2.elim (fun h => c1 (decide_eq_true h)) (fun h => c2 (decide_eq_true h))
            exact ⟨_, _, lo, up, _, _, _, _, rfl, s2, pl, pu, bl, bu, loS, (hup.skip nu).congr cg⟩
      · clear hlo hup pl pu bl bu vl vu lo up
        rintro σ H2 ⟨vl, vu, lo, up, y8, y9, y10, y11, rfl, s2, pl, pu, bl, bu, hlo, hup⟩
        have etk : hs.take bs.length = hs := List.take_of_length_le (by rw [oB.len]; exact Nat.le_refl _)
        rw [etk] at hlo hup
        have cg : ∀ x' y', ((S x' y' ∨ (x' ∈ ls.take i ∧ y' ∈ hs)) ∨ (x' = x ∧ y' ∈ hs)) ↔ (S x' y' ∨ (x' ∈ ls.take (i + 1) ∧ y' ∈ hs)) := fun x' y' => by
          rw [List.take_add_one, hx]
          constructor
          · rintro ((z | ⟨z1, z2⟩) | ⟨z1, z2⟩)
            · exact .inl z
            · exact .inr ⟨List.mem_append.mpr (.inl z1), z2⟩
            · exact .inr ⟨List.mem_append.mpr (.inr (List.mem_singleton.mpr z1)), z2⟩
          · rintro (z | ⟨z1, z2⟩)
            · exact .inl (.inl z)
            · rcases List.mem_append.mp z1 with z1 | z1
              · exact .inl (.inr ⟨z1, z2⟩)
              · exact .inr ⟨List.mem_singleton.mp z1, z2⟩
        exact ⟨vl, vu, lo, up, _, _, _, _, _, _, _, rfl, s2, pl, pu, bl, bu, hlo.congr cg, hup.congr cg⟩
    · clear hlo hup pl pu bl bu eT vl vu lo up
      rintro σ H2 ⟨vl, vu, lo, up, y5, y6, y7, y8, y9, y10, y11, rfl, s2, pl, pu, bl, bu, hlo, hup⟩
      have etk : ls.take as.length = ls := List.take_of_length_le (by rw [oA.len]; exact Nat.le_refl _)
      rw [etk] at hlo hup
      refine ⟨_, rfl, _, rfl, len10 (by simp), fun R nR => ?_⟩
      have z := sm_upd (o := .tup [vl, vu]) nR
      exact kk R _ vl vu lo up (s2.trans z) upd_same (pl.same z) (pu.same z) bl bu hlo hup
end
end Lf
namespace Lf
open PySem PySem.Spec PyProof.Rows L2
def EndV (H : Hp) (k : Nat) (v : V) : Option (Int × Int) → Prop
  | none => v = .non
  | some e => ∃ a, v = .ref a ∧ H a = some (tup2 e.1 e.2) ∧ Rt k e.1 e.2
def OkE : Option (Int × Int) → Option (Int × Int) → Prop
  | some l, some h => l.1 * h.2 < h.1 * l.2
  | none, some h => 0 < h.1
  | _, none => True
def ResE : Option (Int × Int) → Option (Int × Int) → Int → Int → Prop
  | none, _, N, D => N = 0 ∧ D = 1
  | some l, some h, N, D => Sim l.1 l.2 h.1 h.2 N D
  | some l, none, N, D => Sim l.1 l.2 1 0 N D
section
variable {P : Program} {w : World} {K : PySem.W.Frag} {mg : Str → Option Value} {base : Heap}
def spSB : Sp := fun vs H Q _ => ∃ (v1 v2 : V) (e1 e2 : Option (Int × Int)) (k : Nat), vs = [v1, v2] ∧ EndV H k v1 e1 ∧ EndV H k v2 e2 ∧ OkE e1 e2 ∧ 0 < k ∧ k ≤ 1998 ∧
  ∀ r H' N D, Same H H' → H r = none → H' r = some (tup2 N D) → ResE e1 e2 N D → Bd (k + 1) N → Bd (k + 1) D → Q (.ref r) H'
abbrev s_simplest_between : Stmt := topS 20
abbrev N_simplest_between : List Str := ["low", "high", "p", "q"]
abbrev P_simplest_between : List Str := ["low", "high"]
theorem sc_simplest_between : FnScope N_simplest_between P_simplest_between (defScope s_simplest_between) := ⟨rfl, rfl, rfl, by decide +kernel, rfl, by decide +kernel, by decide +kernel⟩
theorem okA_simplest_between (D : Df K mg "simplest_between" s_simplest_between P_simplest_between) (c_check_rate : C8.Cal P w K mg base 3 "check_rate" spCheckRate []) (c_simplest_inside : C8.Cal P w K mg base 1 "simplest_inside" spInside []) : CalF P w K mg base 4 "simplest_between" s_simplest_between P_simplest_between spSB := by
  refine calF_of D sc_simplest_between (fun vs H Q E h => ?_) (fun f cdv A outer s H vs Q E hr h => ?_)
  · obtain ⟨v1, v2, e1, e2, k, rfl, _⟩ := h
    rfl
  · obtain ⟨v1, v2, e1, e2, k, rfl, g1, g2, ok, k0, k3, kk⟩ := h
    refine ⟨_, (pss_cons (ps_if (pt_cmpR op_notN (pv 0) pe_non (nomark _))
      (pss_one (ps_expr (C8.pe_c c_check_rate hr (by decide) (by rfl) (pa_cons (pv 0) pa_nil))))
      pss_nil)
    (pss_cons (ps_if (pt_cmpR op_notN (pv 1) pe_non (nomark _))
      (pss_cons (ps_expr (C8.pe_c c_check_rate hr (by decide) (by rfl) (pa_cons (pv 1) pa_nil)))
    (pss_cons (ps_asg (pe_ifExp (pt_cmpR op_isN (pv 0) pe_non (nomark _)) (pe_tup (pa_cons pe_int (pa_cons pe_int pa_nil))) (pv 0)) (pg_tup rfl (pgs_cons (pg_name (i := 2) sc_simplest_between.nd rfl (Or.inl rfl)) (pgs_cons (pg_name (i := 3) sc_simplest_between.nd rfl (Or.inl rfl)) pgs_nil))))
    (pss_one (ps_if (pt_cmpR op_le (pe_op op_mulW (pe_ix (r := rIxT K) ix_tup (pv 1) pe_int (fun _ _ => rfl)) (pv 3)) (pe_op op_mulW (pv 2) (pe_ix (r := rIxT K) ix_tup (pv 1) pe_int (fun _ _ => rfl))) (nomark _))
      (pss_one ps_never)
      pss_nil))))
      pss_nil)
    (pss_cons (ps_if (pt_cmpR op_isN (pv 0) pe_non (nomark _))
      (pss_one (ps_ret (pe_tup (pa_cons pe_int (pa_cons pe_int pa_nil)))))
      pss_nil)
    (pss_one (ps_ret (C8.pe_c c_simplest_inside hr (by decide) (by rfl) (pa_cons (pv 0) (pa_cons (pe_ifExp (pt_cmpR op_isN (pv 1) pe_non (nomark _)) (pe_tup (pa_cons pe_int (pa_cons pe_int pa_nil))) (pv 1)) pa_nil)))))))), ?_⟩
    match e1, e2, g1, g2, ok, kk with
    | none, none, g1, g2, ok, kk =>
      have h1 : v1 = .non := g1
      have h2 : v2 = .non := g2
      subst h1 h2
      refine ⟨_, rfl, rfl, _, rfl, iteF ?_⟩
      refine ⟨_, rfl, rfl, _, rfl, iteF ?_⟩
      refine ⟨_, rfl, rfl, _, rfl, iteT ?_⟩
      refine ⟨len10 (by simp), fun r nr => ?_⟩
      exact kk r _ 0 1 (sm_upd nr) nr upd_same ⟨rfl, rfl⟩ (Bd.small 1 (by decide) (by omega)) (Bd.small 1 (by decide) (by omega))
    | none, some (t, b), g1, ⟨h, h2, eh, R⟩, ok, kk =>
      have h1 : v1 = .non := g1
      subst h1 h2
      have eh : H h = some (tup2 t b) := eh
      have ok : 0 < t := ok
      refine ⟨_, rfl, rfl, _, rfl, iteF ?_⟩
      refine ⟨_, rfl, rfl, _, rfl, iteT ?_⟩
      refine ⟨_, rfl, h, t, b, k, rfl, eh, R, ?_⟩
      refine ⟨_, rfl, rfl, _, rfl, iteT ?_⟩
      refine ⟨len10 (by simp), fun z nz => ⟨z, _, rfl, SqT.of upd_same, rfl, _, _, rfl, _, _, rfl, rfl, ?_⟩⟩
      have s1 : Same H (upd H z (tup2 0 1)) := sm_upd nz
      have eh1 := s1 _ _ eh
      refine ⟨_, rfl, h, _, _, _, rfl, rfl, SqT.of eh1, atI_nat (j := 0) rfl, _, rfl, _, _, rfl, rfl, mulW R.bp (Bd.small 1 (by decide) (Nat.le_refl 1)) k0 (by decide) (by omega), _, rfl, _, rfl, h, _, _, _, rfl, rfl, SqT.of eh1, atI_nat (j := 1) rfl, _, _, rfl, rfl, mulW (Bd.small 1 (by decide) (Nat.le_refl 1)) R.bq (by decide) k0 (by omega), _, _, rfl, rfl, _, rfl, iteDn (by omega) ?_⟩
      refine ⟨_, rfl, rfl, _, rfl, iteT ?_⟩
      refine ⟨len10 (by simp), fun r nr => ?_⟩
      refine kk r _ 0 1 (s1.trans (sm_upd nr)) ?_ upd_same ⟨rfl, rfl⟩ (Bd.small 1 (by decide) (by omega)) (Bd.small 1 (by decide) (by omega))
      cases zz : H r with
      | none => rfl
      | some o =>
        rw [s1 _ _ zz] at nr
        cases nr
    | some (p, q), none, ⟨l, h1, el, R⟩, g2, ok, kk =>
      have h2 : v2 = .non := g2
      subst h1 h2
      have el : H l = some (tup2 p q) := el
      refine ⟨_, rfl, rfl, _, rfl, iteT ?_⟩
      refine ⟨_, rfl, l, p, q, k, rfl, el, R, ?_⟩
      refine ⟨_, rfl, rfl, _, rfl, iteF ?_⟩
      refine ⟨_, rfl, rfl, _, rfl, iteF ?_⟩
      refine ⟨_, rfl, _, rfl, rfl, _, rfl, iteT ?_⟩
      refine ⟨len10 (by simp), fun z nz => ?_⟩
      have s1 : Same H (upd H z (tup2 1 0)) := sm_upd nz
      refine ⟨l, z, p, q, 1, 0, k, rfl, s1 _ _ el, upd_same, ⟨R.p0, R.q1, by decide, by have := R.q1; omega, R.bp, R.bq, Bd.small 1 (by decide) (by omega), Bd.small 1 (by decide) (by omega)⟩, k0, by omega, fun r H' N D s2 nr er S b1 b2 => ?_⟩
      refine kk r H' N D (s1.trans s2) ?_ er S b1 b2
      cases zz : H r with
      | none => rfl
      | some o =>
        rw [s1 _ _ zz] at nr
        cases nr
    | some (p, q), some (t, b), ⟨l, h1, el, R⟩, ⟨h, h2, eh, R2⟩, ok, kk =>
      subst h1 h2
      have el : H l = some (tup2 p q) := el
      have eh : H h = some (tup2 t b) := eh
      have ok : p * b < t * q := ok
      refine ⟨_, rfl, rfl, _, rfl, iteT ?_⟩
      refine ⟨_, rfl, l, p, q, k, rfl, el, R, ?_⟩
      refine ⟨_, rfl, rfl, _, rfl, iteT ?_⟩
      refine ⟨_, rfl, h, t, b, k, rfl, eh, R2, ?_⟩
      refine ⟨_, rfl, rfl, _, rfl, iteF ?_⟩
      refine ⟨_, rfl, l, _, rfl, SqT.of el, rfl, _, _, rfl, _, _, rfl, rfl, ?_⟩
      refine ⟨_, rfl, h, _, _, _, rfl, rfl, SqT.of eh, atI_nat (j := 0) rfl, _, rfl, _, _, rfl, rfl, mulW R2.bp R.bq k0 k0 (by omega), _, rfl, _, rfl, h, _, _, _, rfl, rfl, SqT.of eh, atI_nat (j := 1) rfl, _, _, rfl, rfl, mulW R.bp R2.bq k0 k0 (by omega), _, _, rfl, rfl, _, rfl, iteDn (by omega) ?_⟩
      refine ⟨_, rfl, rfl, _, rfl, iteF ?_⟩
      refine ⟨_, rfl, _, rfl, rfl, _, rfl, iteF ?_⟩
      refine ⟨_, rfl, l, h, p, q, t, b, k, rfl, el, eh, ⟨R.p0, R.q1, by have := R2.q1; omega, ok, R.bp, R.bq, R2.bp, R2.bq⟩, k0, by omega, fun r H' N D s2 nr er S b1 b2 => kk r H' N D s2 nr er S b1 b2⟩
theorem ok_simplest_between (cA_simplest_between : CalF P w K mg base 4 "simplest_between" s_simplest_between P_simplest_between spSB) : C8.Cal P w K mg base 4 "simplest_between" spSB [] := by
  exact cA_simplest_between.cal
end
end Lf
namespace Lf
open PySem PySem.Spec PyProof.Rows L2
def SD (ds : List Rec) : T3 → T3 → Prop := fun x y => x ∈ sel true 0 ds ∧ y ∈ sel false 0 ds
theorem sel_tb {k : Nat} {b : Bool} {ds : List Rec} (h : RcB k ds) : TB k (sel b 0 ds) := fun _ hx => sel_bd h hx
theorem EndV.sm {H H' : Hp} {k : Nat} {v : V} {e : Option (Int × Int)} (h : EndV H k v e) (s : Same H H') : EndV H' k v e := by
  match e, h with
  | none, h => exact h
  | some e, ⟨a, h1, h2, h3⟩ => exact ⟨a, h1, s _ _ h2, h3⟩
theorem EndV.fr {H H' : Hp} {k : Nat} {v : V} {e : Option (Int × Int)} (h : EndV H k v e) (s : Fr H H') : EndV H' k v e := by
  match e, h with
  | none, h => exact h
  | some e, ⟨a, h1, h2, h3⟩ => exact ⟨a, h1, s.t _ _ h2, h3⟩
theorem redRt {k : Nat} {x y : Int} (h0 : 0 ≤ x) (h1 : 1 ≤ y) (bx : Bd k x) (by_ : Bd k y) : Rt k (x / (Int.gcd x y : Int)) (y / (Int.gcd x y : Int)) := by
  have g := gcd_pos (p := x) h1
  refine ⟨Int.ediv_nonneg h0 (by omega), ?_, ?_, bx.ediv g, by_.ediv g⟩
  · have := Int.ediv_le_ediv g (gcd_le (p := x) h1)
    rw [Int.ediv_self (by omega)] at this
    exact this
  · exact Int.gcd_ediv_gcd_ediv_gcd (by omega)
def redE (z : T4) : Int × Int := (z.1 / (Int.gcd z.1 z.2.1 : Int), z.2.1 / (Int.gcd z.1 z.2.1 : Int))
def lowE : Option T4 → Option (Int × Int)
  | none => none
  | some z => if z.1 < 0 then none else some (redE z)
def highE : Option T4 → Option (Int × Int)
  | none => none
  | some z => some (redE z)
theorem red_lt_iff {z : T4} {p q : Int} (d : 1 ≤ z.2.1) : ((redE z).1 * q < p * (redE z).2 ↔ z.1 * q < p * z.2.1) ∧ (p * (redE z).2 < (redE z).1 * q ↔ p * z.2.1 < z.1 * q) := by
  have g := gcd_pos (p := z.1) d
  have e1 : (Int.gcd z.1 z.2.1 : Int) * (z.1 / (Int.gcd z.1 z.2.1 : Int)) = z.1 := Int.mul_ediv_cancel' (Int.gcd_dvd_left ..)
  have e2 : (Int.gcd z.1 z.2.1 : Int) * (z.2.1 / (Int.gcd z.1 z.2.1 : Int)) = z.2.1 := Int.mul_ediv_cancel' (Int.gcd_dvd_right ..)
  unfold redE
  dsimp only
  generalize (Int.gcd z.1 z.2.1 : Int) = gg at *
  generalize z.1 / gg = a at *
  generalize z.2.1 / gg = b at *
  rw [← e1, ← e2]
  have h1 : gg * a * q = gg * (a * q) := by grind
  have h2 : p * (gg * b) = gg * (p * b) := by grind
  rw [h1, h2]
  constructor
  · exact ⟨fun h => Int.mul_lt_mul_of_pos_left h g, fun h => Int.lt_of_mul_lt_mul_left h (Int.le_of_lt g)⟩
  · exact ⟨fun h => Int.mul_lt_mul_of_pos_left h g, fun h => Int.lt_of_mul_lt_mul_left h (Int.le_of_lt g)⟩
/-- strictly between the ends that rates gives -/
def Ins (e1 e2 : Option (Int × Int)) (p q : Int) : Prop := (∀ z, e1 = some z → z.1 * q < p * z.2) ∧ ∀ z, e2 = some z → p * z.2 < z.1 * q
theorem ins_iff {S : T3 → T3 → Prop} {lo up : Option T4} {p q : Int} (hp : 0 ≤ p) (hq : 1 ≤ q) (hl : LoOk S lo) (hu : UpOk S up) : Ins (lowE lo) (highE up) p q ↔ RateIn lo up p q := by
  unfold Ins RateIn
  constructor
  · rintro ⟨h1, h2⟩
    constructor
    · rintro z rfl
      have d := hl.den z rfl
      by_cases c : z.1 < 0
      · have := Int.mul_neg_of_neg_of_pos c (show 0 < q by omega)
        have := Int.mul_nonneg hp (show 0 ≤ z.2.1 by omega)
        omega
      · exact (red_lt_iff d).1.mp (h1 _ (by show (if z.1 < 0 then none else some (redE z)) = _; rw [if_neg c]))
    · rintro z rfl
      exact (red_lt_iff (hu.den z rfl)).2.mp (h2 _ rfl)
  · rintro ⟨h1, h2⟩
    constructor
    · intro z e
      cases lo with
      | none => cases e
      | some y =>
        have e : (if y.1 < 0 then none else some (redE y)) = some z := e
        by_cases c : y.1 < 0
        · rw [if_pos c] at e
          cases e
        · rw [if_neg c] at e
          cases e
          exact (red_lt_iff (hl.den y rfl)).1.mpr (h1 y rfl)
    · intro z e
      cases up with
      | none => cases e
      | some y =>
        cases e
        exact (red_lt_iff (hu.den y rfl)).2.mpr (h2 y rfl)
/-- the phases are there just where all pairs leave room -/
theorem ph_iff {p q : Int} {ds : List Rec} {a b : Option Int} (ha : IsMx (lph p q ds) a) (hb : IsMn (hph p q ds) b) : okPh a b = true ↔ ∀ x y, SD ds x y → p * (y.2.1 - x.2.1) < (y.2.2 + 1 - x.2.2) * q := by
  have key : ∀ x y : T3, (x.2.2 * q - p * x.2.1 ≤ (y.2.2 + 1) * q - p * y.2.1 - 1) ↔ p * (y.2.1 - x.2.1) < (y.2.2 + 1 - x.2.2) * q := fun x y => by
    rw [Int.mul_sub, Int.sub_mul (y.2.2 + 1)]
    omega
  constructor
  · intro h x y ⟨hx, hy⟩
    rw [← key]
    have mx : x.2.2 * q - p * x.2.1 ∈ lph p q ds := List.mem_map.mpr ⟨x, hx, rfl⟩
    have my : (y.2.2 + 1) * q - p * y.2.1 - 1 ∈ hph p q ds := List.mem_map.mpr ⟨y, hy, rfl⟩
    cases a with
    | none =>
      rw [show lph p q ds = [] from ha] at mx
      cases mx
    | some v =>
      cases b with
      | none =>
        rw [show hph p q ds = [] from hb] at my
        cases my
      | some u =>
        have h : v ≤ u := of_decide_eq_true h
        have := ha.2 _ mx
        have := hb.2 _ my
        omega
  · intro h
    cases a with
    | none => rfl
    | some v =>
      cases b with
      | none => rfl
      | some u =>
        obtain ⟨x, hx, ex⟩ := List.mem_map.mp ha.1
        obtain ⟨y, hy, ey⟩ := List.mem_map.mp hb.1
        refine decide_eq_true ?_
        rw [← ex, ← ey]
        exact (key x y).mpr (h x y ⟨hx, hy⟩)
section
variable {P : Program} {w : World} {K : PySem.W.Frag} {mg : Str → Option Value} {base : Heap}
def spRedR : Sp := fun vs H Q _ => ∃ (p q : Int), vs = [.int p, .int q] ∧ 0 ≤ p ∧ 1 ≤ q ∧ Bd 9000 q ∧
  ∀ r H', Same H H' → H r = none → H' r = some (tup2 (p / (Int.gcd p q : Int)) (q / (Int.gcd p q : Int))) → Q (.ref r) H'
abbrev s_reduce_rate : Stmt := topS 19
abbrev N_reduce_rate : List Str := ["p", "q", "divisor"]
abbrev P_reduce_rate : List Str := ["p", "q"]
theorem sc_reduce_rate : FnScope N_reduce_rate P_reduce_rate (defScope s_reduce_rate) := ⟨rfl, rfl, rfl, by decide +kernel, rfl, by decide +kernel, by decide +kernel⟩
theorem ok_reduce_rate (D : Df K mg "reduce_rate" s_reduce_rate P_reduce_rate) (c_gcd : C8.Cal P w K mg base 1 "gcd" spGcd []) : C8.Cal P w K mg base 2 "reduce_rate" spRedR [] := by
  refine cal_of D sc_reduce_rate (fun vs H Q E h => ?_) (fun f cdv A outer s H vs Q E hr h => ?_)
  · obtain ⟨p, q, rfl, _⟩ := h
    rfl
  · obtain ⟨p, q, rfl, hp, hq, hb, k⟩ := h
    refine ⟨_, (pss_cons (ps_set (i := 2) sc_reduce_rate.nd rfl (Or.inl rfl) (C8.pe_c c_gcd hr (by decide) (by rfl) (pa_cons (pv 0) (pa_cons (pv 1) pa_nil))))
    (pss_one (ps_ret (pe_tup (pa_cons (pe_op op_fdivW (pv 0) (pv 2)) (pa_cons (pe_op op_fdivW (pv 1) (pv 2)) pa_nil)))))), ?_⟩
    have hg := gcd_pos (p := p) hq
    have hd : CDivW 0 (Int.gcd p q : Int) := ⟨hg, (hb.between (by omega) (gcd_le hq)).log (by decide)⟩
    refine ⟨_, rfl, _, rfl, p, q, rfl, hp, by omega, ?_⟩
    refine ⟨_, rfl, _, rfl, _, _, rfl, rfl, hd, _, rfl, _, rfl, _, _, rfl, rfl, hd, len10 (by simp), fun r nr => ?_⟩
    exact k r _ (sm_upd nr) nr upd_same
def spTight : Sp := fun vs H Q _ => ∃ (L : Addr) (xs : List V) (ds : List Rec) (k : Nat), vs = [.ref L] ∧ H L = some (.lst xs) ∧ Obs rcO H xs ds ∧ ds.length ≤ 1000 ∧ RcB k ds ∧ 0 < k ∧ k ≤ 8000 ∧
  ∀ R H' wl wu lo up, Same H H' → H' R = some (.tup [wl, wu]) → PrV H' wl lo → PrV H' wu up → PB k lo → PB k up → LoOk (SD ds) lo → UpOk (SD ds) up → Q (.ref R) H'
abbrev s_tight_pairs : Stmt := topS 35
abbrev N_tight_pairs : List Str := ["records", "lows", "highs"]
abbrev P_tight_pairs : List Str := ["records"]
theorem sc_tight_pairs : FnScope N_tight_pairs P_tight_pairs (defScope s_tight_pairs) := ⟨rfl, rfl, rfl, by decide +kernel, rfl, by decide +kernel, by decide +kernel⟩
theorem ok_tight_pairs (D : Df K mg "tight_pairs" s_tight_pairs P_tight_pairs) (c_split_records : C8.Cal P w K mg base 1 "split_records" spSplit []) (c_tighter_pairs : C8.Cal P w K mg base 1 "tighter_pairs" spTP []) : C8.Cal P w K mg base 2 "tight_pairs" spTight [] := by
  refine cal_of D sc_tight_pairs (fun vs H Q E h => ?_) (fun f cdv A outer s H vs Q E hr h => ?_)
  · obtain ⟨L, xs, ds, k, rfl, _⟩ := h
    rfl
  · obtain ⟨L, xs, ds, k, rfl, eL, hO, hl, bd, k0, k1, kk⟩ := h
    refine ⟨_, (pss_cons (ps_asg (C8.pe_c c_split_records hr (by decide) (by rfl) (pa_cons (pv 0) pa_nil)) (pg_tup rfl (pgs_cons (pg_name (i := 1) sc_tight_pairs.nd rfl (Or.inl rfl)) (pgs_cons (pg_name (i := 2) sc_tight_pairs.nd rfl (Or.inl rfl)) pgs_nil))))
    (pss_one (ps_ret (C8.pe_c c_tighter_pairs hr (by decide) (by rfl) (pa_cons (pe_tup (pa_cons pe_non (pa_cons pe_non pa_nil))) (pa_cons (pv 1) (pa_cons (pv 2) pa_nil))))))), ?_⟩
    refine ⟨_, rfl, L, xs, ds, rfl, eL, hO, hl, fun T H1 A' B' as bs s1 eT eA oA eB oB => ?_⟩
    refine ⟨T, _, rfl, SqT.of eT, rfl, _, _, rfl, _, _, rfl, rfl, ?_⟩
    refine ⟨len10 (by simp), fun N nN => ?_⟩
    have z := sm_upd (o := .tup [.non, .non]) nN
    have nf : ∀ x y : T3, (False ∨ x ∈ sel true 0 ds ∧ y ∈ sel false 0 ds) ↔ SD ds x y := fun x y => ⟨fun h => h.elim False.elim id, .inr⟩
    refine ⟨_, rfl, _, rfl, N, A', B', .non, .non, none, none, as, bs, _, _, fun _ _ => False, k, rfl, upd_same, rfl, rfl, z _ _ eA, oA.same z, z _ _ eB, oB.same z, sel_tb bd, sel_tb bd, fun _ h => (nomatch h), fun _ h => (nomatch h), fun _ _ h => h.elim, fun _ _ h => h.elim, k0, by omega, fun R H2 wl wu lo up s2 eR pl pu bl bu hl hu => ?_⟩
    exact kk R H2 wl wu lo up ((s1.trans z).trans s2) eR pl pu bl bu (hl.congr nf) (hu.congr nf)
def spLNR : Sp := fun vs H Q _ => ∃ (R : Addr) (wl wu : V) (lo up : Option T4) (k : Nat), vs = [.ref R] ∧ H R = some (.tup [wl, wu]) ∧ PrV H wl lo ∧ PrV H wu up ∧ PB k lo ∧ PB k up ∧ k ≤ 10000 ∧ Q (.bl (nr lo up)) H
abbrev s_leave_no_rate : Stmt := topS 37
abbrev N_leave_no_rate : List Str := ["pairs", "lower", "upper"]
abbrev P_leave_no_rate : List Str := ["pairs"]
theorem sc_leave_no_rate : FnScope N_leave_no_rate P_leave_no_rate (defScope s_leave_no_rate) := ⟨rfl, rfl, rfl, by decide +kernel, rfl, by decide +kernel, by decide +kernel⟩
theorem ok_leave_no_rate (D : Df K mg "leave_no_rate" s_leave_no_rate P_leave_no_rate) : C8.Cal P w K mg base 1 "leave_no_rate" spLNR [] := by
  refine cal_of D sc_leave_no_rate (fun vs H Q E h => ?_) (fun f cdv A outer s H vs Q E hr h => ?_)
  · obtain ⟨R, wl, wu, lo, up, k, rfl, _⟩ := h
    rfl
  · obtain ⟨R, wl, wu, lo, up, k, rfl, eR, pl, pu, bl, bu, k1, kk⟩ := h
    refine ⟨_, (pss_cons (ps_asg (pv 0) (pg_tup rfl (pgs_cons (pg_name (i := 1) sc_leave_no_rate.nd rfl (Or.inl rfl)) (pgs_cons (pg_name (i := 2) sc_leave_no_rate.nd rfl (Or.inl rfl)) pgs_nil))))
    (pss_cons (ps_if (pt_cmpR op_isN (pv 2) pe_non (nomark _))
      (pss_one (ps_ret pe_bl))
      pss_nil)
    (pss_one (ps_ret (pe_or (pe_cmpR op_le (pe_ix (r := rIxT K) ix_tup (pv 2) pe_int (fun _ _ => rfl)) pe_int (nomark _)) (pe_one (pe_and (pe_cmpR op_notN (pv 1) pe_non (nomark _)) (pe_one (pe_cmpR op_ge (pe_op op_mulW (pe_ix (r := rIxT K) ix_tup (pv 1) pe_int (fun _ _ => rfl)) (pe_ix (r := rIxT K) ix_tup (pv 2) pe_int (fun _ _ => rfl))) (pe_op op_mulW (pe_ix (r := rIxT K) ix_tup (pv 2) pe_int (fun _ _ => rfl)) (pe_ix (r := rIxT K) ix_tup (pv 1) pe_int (fun _ _ => rfl))) (nomark _)))))))))), ?_⟩
    refine ⟨_, rfl, R, _, rfl, SqT.of eR, rfl, _, _, rfl, _, _, rfl, rfl, ?_⟩
    cases up with
    | none =>
      have e : wu = .non := pu
      subst e
      have kk : Q (.bl false) H := by
        cases lo <;> exact kk
      exact ⟨_, rfl, rfl, _, rfl, iteT kk⟩
    | some z =>
      obtain ⟨rz, rfl, ez⟩ := pu
      obtain ⟨b1, b2⟩ := bu z rfl
      refine ⟨_, rfl, rfl, _, rfl, iteF ?_⟩
      refine ⟨_, rfl, rz, _, _, _, rfl, rfl, SqT.of ez, atI_nat (j := 0) rfl, _, _, rfl, rfl, _, rfl, ?_⟩
      cases lo with
      | none =>
        have e : wl = .non := pl
        subst e
        refine ite2 (fun c => ?_) (fun c => ?_)
        · have kk : Q (.bl (decide (z.1 ≤ 0))) H := kk
          rw [c] at kk
          exact kk
        · refine ⟨_, rfl, rfl, _, rfl, iteF ?_⟩
          have kk : Q (.bl (decide (z.1 ≤ 0))) H := kk
          rw [bool_f c] at kk
          exact kk
      | some l =>
        obtain ⟨rl, rfl, el⟩ := pl
        obtain ⟨b3, b4⟩ := bl l rfl
        have kk : Q (.bl (decide (z.1 ≤ 0) || decide (z.1 * l.2.1 ≤ l.1 * z.2.1))) H := kk
        refine ite2 (fun c => ?_) (fun c => ?_)
        · rw [c] at kk
          exact kk
        · rw [bool_f c] at kk
          refine ⟨_, rfl, rfl, _, rfl, iteT ?_⟩
          exact ⟨_, rfl, rl, _, _, _, rfl, rfl, SqT.of el, atI_nat (j := 0) rfl, _, rfl, rz, _, _, _, rfl, rfl, SqT.of ez, atI_nat (j := 1) rfl, _, _, rfl, rfl, mulW b3 b2 (by omega) (by omega) (by omega), _, rfl, rz, _, _, _, rfl, rfl, SqT.of ez, atI_nat (j := 0) rfl, _, rfl, rl, _, _, _, rfl, rfl, SqT.of el, atI_nat (j := 1) rfl, _, _, rfl, rfl, mulW b1 b4 (by omega) (by omega) (by omega), _, _, rfl, rfl, kk⟩
/-- what rate_ends gives -/
def RV (H : Hp) (k : Nat) (v : V) (lo up : Option T4) : Prop := (nr lo up = true ∧ v = .non) ∨ (nr lo up = false ∧ ∃ T a b, v = .ref T ∧ H T = some (.tup [a, b]) ∧ EndV H (k + 2) a (lowE lo) ∧ EndV H (k + 2) b (highE up))
def spRateEnds (m : Nat) : Sp := fun vs H Q _ => ∃ (L : Addr) (xs : List V) (ds : List Rec) (k : Nat), vs = [.ref L] ∧ H L = some (.lst xs) ∧ Obs rcO H xs ds ∧ ds.length ≤ m ∧ RcB k ds ∧ 0 < k ∧ k ≤ 8000 ∧
  ∀ H' v lo up, Same H H' → LoOk (SD ds) lo → UpOk (SD ds) up → PB k lo → PB k up → RV H' k v lo up → Q v H'
abbrev s_rate_ends : Stmt := topS 38
abbrev N_rate_ends : List Str := ["records", "pairs", "lower", "upper", "low", "high"]
abbrev P_rate_ends : List Str := ["records"]
theorem sc_rate_ends : FnScope N_rate_ends P_rate_ends (defScope s_rate_ends) := ⟨rfl, rfl, rfl, by decide +kernel, rfl, by decide +kernel, by decide +kernel⟩
theorem ok_rate_ends (D : Df K mg "rate_ends" s_rate_ends P_rate_ends) (c_tight_pairs : C8.Cal P w K mg base 2 "tight_pairs" spTight []) (c_leave_no_rate : C8.Cal P w K mg base 1 "leave_no_rate" spLNR []) (c_reduce_rate : C8.Cal P w K mg base 2 "reduce_rate" spRedR []) : C8.Cal P w K mg base 3 "rate_ends" (spRateEnds 1000) [] := by
  refine cal_of D sc_rate_ends (fun vs H Q E h => ?_) (fun f cdv A outer s H vs Q E hr h => ?_)
  · obtain ⟨L, xs, ds, k, rfl, _⟩ := h
    rfl
  · obtain ⟨L, xs, ds, k, rfl, eL, hO, hl, bd, k0, k1, kk⟩ := h
    refine ⟨_, (pss_cons (ps_set (i := 1) sc_rate_ends.nd rfl (Or.inl rfl) (C8.pe_c c_tight_pairs hr (by decide) (by rfl) (pa_cons (pv 0) pa_nil)))
    (pss_cons (ps_if (pt_val (C8.pe_c c_leave_no_rate hr (by decide) (by rfl) (pa_cons (pv 1) pa_nil)))
      (pss_one (ps_ret pe_non))
      pss_nil)
    (pss_cons (ps_asg (pv 1) (pg_tup rfl (pgs_cons (pg_name (i := 2) sc_rate_ends.nd rfl (Or.inl rfl)) (pgs_cons (pg_name (i := 3) sc_rate_ends.nd rfl (Or.inl rfl)) pgs_nil))))
    (C8.pss_cut (ps_set (i := 4) sc_rate_ends.nd rfl (Or.inl rfl) (pe_ifExp (PW.pt (pw_or (pt_cmpR op_isN (pv 2) pe_non (nomark _)) (pw_or1 (pt_cmpR op_lt (pe_ix (r := rIxT K) ix_tup (pv 2) pe_int (fun _ _ => rfl)) pe_int (nomark _))))) pe_non (C8.pe_c c_reduce_rate hr (by decide) (by rfl) (pa_cons (pe_ix (r := rIxT K) ix_tup (pv 2) pe_int (fun _ _ => rfl)) (pa_cons (pe_ix (r := rIxT K) ix_tup (pv 2) pe_int (fun _ _ => rfl)) pa_nil)))))
    (C8.pss_cut (ps_set (i := 5) sc_rate_ends.nd rfl (Or.inl rfl) (pe_ifExp (pt_cmpR op_isN (pv 3) pe_non (nomark _)) pe_non (C8.pe_c c_reduce_rate hr (by decide) (by rfl) (pa_cons (pe_ix (r := rIxT K) ix_tup (pv 3) pe_int (fun _ _ => rfl)) (pa_cons (pe_ix (r := rIxT K) ix_tup (pv 3) pe_int (fun _ _ => rfl)) pa_nil)))))
    (pss_one (ps_ret (pe_tup (pa_cons (pv 4) (pa_cons (pv 5) pa_nil)))))))))), ?_⟩
    refine ⟨_, rfl, L, xs, ds, k, rfl, eL, hO, hl, bd, k0, k1, fun R H1 wl wu lo up s1 eR pl pu bl bu hlo hup => ?_⟩
    refine ⟨_, rfl, R, wl, wu, lo, up, k, rfl, eR, pl, pu, bl, bu, by omega, ?_⟩
    refine ⟨_, rfl, ?_⟩
    cases hn : nr lo up with
    | true =>
      refine iteT ?_
      exact kk _ _ lo up s1 hlo hup bl bu (.inl ⟨hn, rfl⟩)
    | false =>
      refine iteF ?_
      refine ⟨_, rfl, R, _, rfl, SqT.of eR, rfl, _, _, rfl, _, _, rfl, rfl, ?_⟩
      refine ⟨fun σ' H' => ∃ va, σ' = [some (.ref L), some (.ref R), some wl, some wu, some va, none] ∧ Same H1 H' ∧ EndV H' (k + 2) va (lowE lo), ?_, ?_⟩
      · cases lo with
        | none =>
          have e : wl = .non := pl
          subst e
          refine ⟨_, rfl, rfl, _, rfl, iteT (iteT ?_)⟩
          exact ⟨_, rfl, Same.refl _, rfl⟩
        | some z =>
          obtain ⟨rz, rfl, ez⟩ := pl
          obtain ⟨b1, b2⟩ := bl z rfl
          have dz := hlo.den z rfl
          refine ⟨_, rfl, rfl, _, rfl, iteF ?_⟩
          refine ⟨_, rfl, rz, _, _, _, rfl, rfl, SqT.of ez, atI_nat (j := 0) rfl, _, _, rfl, rfl, _, rfl, ite2 (fun c => ?_) (fun c => ?_)⟩
          · have c : z.1 < 0 := of_decide_eq_true c
            refine ⟨_, rfl, Same.refl _, ?_⟩
            show EndV H1 (k + 2) .non (if z.1 < 0 then none else some (redE z))
            rw [if_pos c]
            rfl
          · have c : ¬ z.1 < 0 := fun h => c (decide_eq_true h)
            refine ⟨_, rfl, rz, _, _, _, rfl, rfl, SqT.of ez, atI_nat (j := 0) rfl, _, rfl, rz, _, _, _, rfl, rfl, SqT.of ez, atI_nat (j := 1) rfl, z.1, z.2.1, rfl, by omega, dz, b2.mono (by omega), fun r H2 s2 nr er => ?_⟩
            refine ⟨_, rfl, s2, ?_⟩
            show EndV H2 (k + 2) (.ref r) (if z.1 < 0 then none else some (redE z))
            rw [if_neg c]
            exact ⟨r, rfl, er, redRt (by omega) dz b1 b2⟩
      rintro σ H2 ⟨va, rfl, s2, hva⟩
      refine ⟨fun σ' H' => ∃ vb, σ' = [some (.ref L), some (.ref R), some wl, some wu, some va, some vb] ∧ Same H2 H' ∧ EndV H' (k + 2) vb (highE up), ?_, ?_⟩
      · cases up with
        | none =>
          have e : wu = .non := pu
          subst e
          refine ⟨_, rfl, rfl, _, rfl, iteT ?_⟩
          exact ⟨_, rfl, Same.refl _, rfl⟩
        | some z =>
          obtain ⟨rz, rfl, ez⟩ := pu
          have ez := s2 _ _ ez
          obtain ⟨b1, b2⟩ := bu z rfl
          have dz := hup.den z rfl
          have pz : 0 < z.1 := by
            rcases Int.lt_or_le 0 z.1 with h | h
            · exact h
            · exfalso
              cases lo with
              | none =>
                have hn : decide (z.1 ≤ 0) = false := hn
                rw [decide_eq_true h] at hn
                cases hn
              | some l =>
                have hn : (decide (z.1 ≤ 0) || decide (z.1 * l.2.1 ≤ l.1 * z.2.1)) = false := hn
                rw [decide_eq_true h] at hn
                cases hn
          refine ⟨_, rfl, rfl, _, rfl, iteF ?_⟩
          refine ⟨_, rfl, rz, _, _, _, rfl, rfl, SqT.of ez, atI_nat (j := 0) rfl, _, rfl, rz, _, _, _, rfl, rfl, SqT.of ez, atI_nat (j := 1) rfl, z.1, z.2.1, rfl, by omega, dz, b2.mono (by omega), fun r H3 s3 nr er => ?_⟩
          exact ⟨_, rfl, s3, r, rfl, er, redRt (by omega) dz b1 b2⟩
      rintro σ H3 ⟨vb, rfl, s3, hvb⟩
      refine ⟨_, rfl, _, rfl, len10 (by simp), fun T nT => ?_⟩
      have z := sm_upd (o := .tup [va, vb]) nT
      exact kk _ _ lo up (((s1.trans s2).trans s3).trans z) hlo hup bl bu (.inr ⟨hn, T, va, vb, rfl, upd_same, (hva.sm s3).sm z, hvb.sm z⟩)
abbrev s_rates : Stmt := topS 32
abbrev N_rates : List Str := ["records"]
abbrev P_rates : List Str := ["records"]
theorem sc_rates : FnScope N_rates P_rates (defScope s_rates) := ⟨rfl, rfl, rfl, by decide +kernel, rfl, by decide +kernel, by decide +kernel⟩
theorem ok_rates (D : Df K mg "rates" s_rates P_rates) (c_check_records : C8.Cal P w K mg base 3 "check_records" spCkRec []) (c_rate_ends : C8.Cal P w K mg base 3 "rate_ends" (spRateEnds 1000) []) : C8.Cal P w K mg base 4 "rates" (spRateEnds 200) [] := by
  refine cal_of D sc_rates (fun vs H Q E h => ?_) (fun f cdv A outer s H vs Q E hr h => ?_)
  · obtain ⟨L, xs, ds, k, rfl, _⟩ := h
    rfl
  · obtain ⟨L, xs, ds, k, rfl, eL, hO, hl, bd, k0, k1, kk⟩ := h
    refine ⟨_, (pss_cons (ps_expr (C8.pe_c c_check_records hr (by decide) (by rfl) (pa_cons (pv 0) pa_nil)))
    (pss_one (ps_ret (C8.pe_c c_rate_ends hr (by decide) (by rfl) (pa_cons (pv 0) pa_nil))))), ?_⟩
    refine ⟨_, rfl, L, xs, ds, rfl, eL, hO, hl, fun H1 s1 => ?_⟩
    refine ⟨_, rfl, L, xs, ds, k, rfl, s1 _ _ eL, hO.same s1, by omega, bd, k0, k1, fun H2 v lo up s2 hlo hup bl bu rv => ?_⟩
    exact kk H2 v lo up (s1.trans s2) hlo hup bl bu rv
end
end Lf
namespace Lf
open PySem PySem.Spec PyProof.Rows L2
section
variable {P : Program} {w : World} {K : PySem.W.Frag} {mg : Str → Option Value} {base : Heap} {C : Addr}
def spTightS : Sp := fun vs H Q _ => ∃ (L : Addr) (kb : Bool) (xs : List V) (ds : List Rec) (k : Nat), vs = [.ref L] ∧ H L = some (sqO kb xs) ∧ Obs rcO H xs ds ∧ ds.length ≤ 1000 ∧ RcB k ds ∧ 0 < k ∧ k ≤ 8000 ∧
  ∀ R H' wl wu lo up, Same H H' → H' R = some (.tup [wl, wu]) → PrV H' wl lo → PrV H' wu up → PB k lo → PB k up → LoOk (SD ds) lo → UpOk (SD ds) up → Q (.ref R) H'
theorem okS_tight_pairs (D : Df K mg "tight_pairs" s_tight_pairs P_tight_pairs) (c_split_records : C8.Cal P w K mg base 1 "split_records" spSplitS []) (c_tighter_pairs : C8.Cal P w K mg base 1 "tighter_pairs" spTP []) : C8.Cal P w K mg base 2 "tight_pairs" spTightS [] := by
  refine cal_of D sc_tight_pairs (fun vs H Q E h => ?_) (fun f cdv A outer s H vs Q E hr h => ?_)
  · obtain ⟨L, kb, xs, ds, k, rfl, _⟩ := h
    rfl
  · obtain ⟨L, kb, xs, ds, k, rfl, eL, hO, hl, bd, k0, k1, kk⟩ := h
    refine ⟨_, (pss_cons (ps_asg (C8.pe_c c_split_records hr (by decide) (by rfl) (pa_cons (pv 0) pa_nil)) (pg_tup rfl (pgs_cons (pg_name (i := 1) sc_tight_pairs.nd rfl (Or.inl rfl)) (pgs_cons (pg_name (i := 2) sc_tight_pairs.nd rfl (Or.inl rfl)) pgs_nil))))
    (pss_one (ps_ret (C8.pe_c c_tighter_pairs hr (by decide) (by rfl) (pa_cons (pe_tup (pa_cons pe_non (pa_cons pe_non pa_nil))) (pa_cons (pv 1) (pa_cons (pv 2) pa_nil))))))), ?_⟩
    refine ⟨_, rfl, L, kb, xs, ds, rfl, eL, hO, hl, fun T H1 A' B' as bs s1 eT eA oA eB oB => ?_⟩
    refine ⟨T, _, rfl, SqT.of eT, rfl, _, _, rfl, _, _, rfl, rfl, ?_⟩
    refine ⟨len10 (by simp), fun N nN => ?_⟩
    have z := sm_upd (o := .tup [.non, .non]) nN
    have nf : ∀ x y : T3, (False ∨ x ∈ sel true 0 ds ∧ y ∈ sel false 0 ds) ↔ SD ds x y := fun x y => ⟨fun h => h.elim False.elim id, .inr⟩
    refine ⟨_, rfl, _, rfl, N, A', B', .non, .non, none, none, as, bs, _, _, fun _ _ => False, k, rfl, upd_same, rfl, rfl, z _ _ eA, oA.same z, z _ _ eB, oB.same z, sel_tb bd, sel_tb bd, fun _ h => (nomatch h), fun _ h => (nomatch h), fun _ _ h => h.elim, fun _ _ h => h.elim, k0, by omega, fun R H2 wl wu lo up s2 eR pl pu bl bu hl hu => ?_⟩
    exact kk R H2 wl wu lo up ((s1.trans z).trans s2) eR pl pu bl bu (hl.congr nf) (hu.congr nf)
def spRateEndsS (m : Nat) : Sp := fun vs H Q _ => ∃ (L : Addr) (kb : Bool) (xs : List V) (ds : List Rec) (k : Nat), vs = [.ref L] ∧ H L = some (sqO kb xs) ∧ Obs rcO H xs ds ∧ ds.length ≤ m ∧ RcB k ds ∧ 0 < k ∧ k ≤ 8000 ∧
  ∀ H' v lo up, Same H H' → LoOk (SD ds) lo → UpOk (SD ds) up → PB k lo → PB k up → RV H' k v lo up → Q v H'
theorem okS_rate_ends (D : Df K mg "rate_ends" s_rate_ends P_rate_ends) (c_tight_pairs : C8.Cal P w K mg base 2 "tight_pairs" spTightS []) (c_leave_no_rate : C8.Cal P w K mg base 1 "leave_no_rate" spLNR []) (c_reduce_rate : C8.Cal P w K mg base 2 "reduce_rate" spRedR []) : C8.Cal P w K mg base 3 "rate_ends" (spRateEndsS 1000) [] := by
  refine cal_of D sc_rate_ends (fun vs H Q E h => ?_) (fun f cdv A outer s H vs Q E hr h => ?_)
  · obtain ⟨L, kb, xs, ds, k, rfl, _⟩ := h
    rfl
  · obtain ⟨L, kb, xs, ds, k, rfl, eL, hO, hl, bd, k0, k1, kk⟩ := h
    refine ⟨_, (pss_cons (ps_set (i := 1) sc_rate_ends.nd rfl (Or.inl rfl) (C8.pe_c c_tight_pairs hr (by decide) (by rfl) (pa_cons (pv 0) pa_nil)))
    (pss_cons (ps_if (pt_val (C8.pe_c c_leave_no_rate hr (by decide) (by rfl) (pa_cons (pv 1) pa_nil)))
      (pss_one (ps_ret pe_non))
      pss_nil)
    (pss_cons (ps_asg (pv 1) (pg_tup rfl (pgs_cons (pg_name (i := 2) sc_rate_ends.nd rfl (Or.inl rfl)) (pgs_cons (pg_name (i := 3) sc_rate_ends.nd rfl (Or.inl rfl)) pgs_nil))))
    (C8.pss_cut (ps_set (i := 4) sc_rate_ends.nd rfl (Or.inl rfl) (pe_ifExp (PW.pt (pw_or (pt_cmpR op_isN (pv 2) pe_non (nomark _)) (pw_or1 (pt_cmpR op_lt (pe_ix (r := rIxT K) ix_tup (pv 2) pe_int (fun _ _ => rfl)) pe_int (nomark _))))) pe_non (C8.pe_c c_reduce_rate hr (by decide) (by rfl) (pa_cons (pe_ix (r := rIxT K) ix_tup (pv 2) pe_int (fun _ _ => rfl)) (pa_cons (pe_ix (r := rIxT K) ix_tup (pv 2) pe_int (fun _ _ => rfl)) pa_nil)))))
    (C8.pss_cut (ps_set (i := 5) sc_rate_ends.nd rfl (Or.inl rfl) (pe_ifExp (pt_cmpR op_isN (pv 3) pe_non (nomark _)) pe_non (C8.pe_c c_reduce_rate hr (by decide) (by rfl) (pa_cons (pe_ix (r := rIxT K) ix_tup (pv 3) pe_int (fun _ _ => rfl)) (pa_cons (pe_ix (r := rIxT K) ix_tup (pv 3) pe_int (fun _ _ => rfl)) pa_nil)))))
    (pss_one (ps_ret (pe_tup (pa_cons (pv 4) (pa_cons (pv 5) pa_nil)))))))))), ?_⟩
    refine ⟨_, rfl, L, kb, xs, ds, k, rfl, eL, hO, hl, bd, k0, k1, fun R H1 wl wu lo up s1 eR pl pu bl bu hlo hup => ?_⟩
    refine ⟨_, rfl, R, wl, wu, lo, up, k, rfl, eR, pl, pu, bl, bu, by omega, ?_⟩
    refine ⟨_, rfl, ?_⟩
    cases hn : nr lo up with
    | true =>
      refine iteT ?_
      exact kk _ _ lo up s1 hlo hup bl bu (.inl ⟨hn, rfl⟩)
    | false =>
      refine iteF ?_
      refine ⟨_, rfl, R, _, rfl, SqT.of eR, rfl, _, _, rfl, _, _, rfl, rfl, ?_⟩
      refine ⟨fun σ' H' => ∃ va, σ' = [some (.ref L), some (.ref R), some wl, some wu, some va, none] ∧ Same H1 H' ∧ EndV H' (k + 2) va (lowE lo), ?_, ?_⟩
      · cases lo with
        | none =>
          have e : wl = .non := pl
          subst e
          refine ⟨_, rfl, rfl, _, rfl, iteT (iteT ?_)⟩
          exact ⟨_, rfl, Same.refl _, rfl⟩
        | some z =>
          obtain ⟨rz, rfl, ez⟩ := pl
          obtain ⟨b1, b2⟩ := bl z rfl
          have dz := hlo.den z rfl
          refine ⟨_, rfl, rfl, _, rfl, iteF ?_⟩
          refine ⟨_, rfl, rz, _, _, _, rfl, rfl, SqT.of ez, atI_nat (j := 0) rfl, _, _, rfl, rfl, _, rfl, ite2 (fun c => ?_) (fun c => ?_)⟩
          · have c : z.1 < 0 := of_decide_eq_true c
            refine ⟨_, rfl, Same.refl _, ?_⟩
            show EndV H1 (k + 2) .non (if z.1 < 0 then none else some (redE z))
            rw [if_pos c]
            rfl
          · have c : ¬ z.1 < 0 := fun h => c (decide_eq_true h)
            refine ⟨_, rfl, rz, _, _, _, rfl, rfl, SqT.of ez, atI_nat (j := 0) rfl, _, rfl, rz, _, _, _, rfl, rfl, SqT.of ez, atI_nat (j := 1) rfl, z.1, z.2.1, rfl, by omega, dz, b2.mono (by omega), fun r H2 s2 nr er => ?_⟩
            refine ⟨_, rfl, s2, ?_⟩
            show EndV H2 (k + 2) (.ref r) (if z.1 < 0 then none else some (redE z))
            rw [if_neg c]
            exact ⟨r, rfl, er, redRt (by omega) dz b1 b2⟩
      rintro σ H2 ⟨va, rfl, s2, hva⟩
      refine ⟨fun σ' H' => ∃ vb, σ' = [some (.ref L), some (.ref R), some wl, some wu, some va, some vb] ∧ Same H2 H' ∧ EndV H' (k + 2) vb (highE up), ?_, ?_⟩
      · cases up with
        | none =>
          have e : wu = .non := pu
          subst e
          refine ⟨_, rfl, rfl, _, rfl, iteT ?_⟩
          exact ⟨_, rfl, Same.refl _, rfl⟩
        | some z =>
          obtain ⟨rz, rfl, ez⟩ := pu
          have ez := s2 _ _ ez
          obtain ⟨b1, b2⟩ := bu z rfl
          have dz := hup.den z rfl
          have pz : 0 < z.1 := by
            rcases Int.lt_or_le 0 z.1 with h | h
            · exact h
            · exfalso
              cases lo with
              | none =>
                have hn : decide (z.1 ≤ 0) = false := hn
                rw [decide_eq_true h] at hn
                cases hn
              | some l =>
                have hn : (decide (z.1 ≤ 0) || decide (z.1 * l.2.1 ≤ l.1 * z.2.1)) = false := hn
                rw [decide_eq_true h] at hn
                cases hn
          refine ⟨_, rfl, rfl, _, rfl, iteF ?_⟩
          refine ⟨_, rfl, rz, _, _, _, rfl, rfl, SqT.of ez, atI_nat (j := 0) rfl, _, rfl, rz, _, _, _, rfl, rfl, SqT.of ez, atI_nat (j := 1) rfl, z.1, z.2.1, rfl, by omega, dz, b2.mono (by omega), fun r H3 s3 nr er => ?_⟩
          exact ⟨_, rfl, s3, r, rfl, er, redRt (by omega) dz b1 b2⟩
      rintro σ H3 ⟨vb, rfl, s3, hvb⟩
      refine ⟨_, rfl, _, rfl, len10 (by simp), fun T nT => ?_⟩
      have z := sm_upd (o := .tup [va, vb]) nT
      exact kk _ _ lo up (((s1.trans s2).trans s3).trans z) hlo hup bl bu (.inr ⟨hn, T, va, vb, rfl, upd_same, (hva.sm s3).sm z, hvb.sm z⟩)
theorem okS_rates (D : Df K mg "rates" s_rates P_rates) (c_check_records : C8.Cal P w K mg base 3 "check_records" spCkS []) (c_rate_ends : C8.Cal P w K mg base 3 "rate_ends" (spRateEndsS 1000) []) : C8.Cal P w K mg base 4 "rates" (spRateEndsS 200) [] := by
  refine cal_of D sc_rates (fun vs H Q E h => ?_) (fun f cdv A outer s H vs Q E hr h => ?_)
  · obtain ⟨L, kb, xs, ds, k, rfl, _⟩ := h
    rfl
  · obtain ⟨L, kb, xs, ds, k, rfl, eL, hO, hl, bd, k0, k1, kk⟩ := h
    refine ⟨_, (pss_cons (ps_expr (C8.pe_c c_check_records hr (by decide) (by rfl) (pa_cons (pv 0) pa_nil)))
    (pss_one (ps_ret (C8.pe_c c_rate_ends hr (by decide) (by rfl) (pa_cons (pv 0) pa_nil))))), ?_⟩
    refine ⟨_, rfl, L, kb, xs, ds, rfl, eL, hO, hl, fun H1 s1 => ?_⟩
    refine ⟨_, rfl, L, kb, xs, ds, k, rfl, s1 _ _ eL, hO.same s1, by omega, bd, k0, k1, fun H2 v lo up s2 hlo hup bl bu rv => ?_⟩
    exact kk H2 v lo up (s1.trans s2) hlo hup bl bu rv
def spRatesX (C : Addr) : Sp := fun vs H _ E => ∃ (v : V) (j : Int), vs = [v] ∧ CkBad H v j ∧ ∀ H', Same H H' → OutY C "index" (.int j) H' E
theorem okx_rates (D : Df K mg "rates" s_rates P_rates) (cx_check_records : CalX P w K mg base 3 "check_records" (spCkX C)) (c_rate_ends : C8.Cal P w K mg base 3 "rate_ends" (spRateEndsS 1000) []) : CalX P w K mg base 4 "rates" (spRatesX C) := by
  refine calx_of D sc_rates (fun vs H Q E h => ?_) (fun f cdv A outer s H vs Q E hr h => ?_)
  · obtain ⟨v, j, rfl, _⟩ := h
    rfl
  · obtain ⟨v, j, rfl, hb, he⟩ := h
    refine ⟨_, (pss_cons (ps_expr (pe_cx cx_check_records hr (by decide) (takes_of rfl rfl rfl rfl) (by rfl) (pa_cons (pv 0) pa_nil)))
    (pss_one (ps_ret (C8.pe_c c_rate_ends hr (by decide) (by rfl) (pa_cons (pv 0) pa_nil))))), ?_⟩
    refine ⟨_, rfl, v, j, rfl, hb, fun H1 s1 => he H1 s1⟩
end
end Lf
namespace Lf
open PySem PySem.Spec PyProof.Rows L2
/-! ### the bounds of the rates are the same however the pairs are listed -/
theorem cop_dvd {a b c d : Int} (g1 : Int.gcd a b = 1) (e : a * d = c * b) : b ∣ d := by
  have n1 : b.natAbs ∣ a.natAbs * d.natAbs := by
    rw [← Int.natAbs_mul, e]
    exact Int.natAbs_dvd_natAbs.mpr (Int.dvd_mul_left c b)
  have n2 : Nat.Coprime b.natAbs a.natAbs := by
    unfold Nat.Coprime
    rw [Nat.gcd_comm]
    exact g1
  exact Int.natAbs_dvd_natAbs.mp (Nat.Coprime.dvd_of_dvd_mul_left n2 n1)
theorem cop_uniq {a b c d : Int} (hb : 1 ≤ b) (hd : 1 ≤ d) (g1 : Int.gcd a b = 1) (g2 : Int.gcd c d = 1) (e : a * d = c * b) : a = c ∧ b = d := by
  have h1 := Int.le_of_dvd (by omega) (cop_dvd g1 e)
  have h2 := Int.le_of_dvd (by omega) (cop_dvd g2 e.symm)
  have h3 : b = d := by omega
  subst h3
  exact ⟨Int.eq_of_mul_eq_mul_right (by omega) e, rfl⟩
theorem red_eq {z z' : T4} (d : 1 ≤ z.2.1) (d' : 1 ≤ z'.2.1) (e : z.1 * z'.2.1 = z'.1 * z.2.1) : redE z = redE z' := by
  have g := gcd_pos (p := z.1) d
  have g' := gcd_pos (p := z'.1) d'
  have e1 : (Int.gcd z.1 z.2.1 : Int) * (z.1 / (Int.gcd z.1 z.2.1 : Int)) = z.1 := Int.mul_ediv_cancel' (Int.gcd_dvd_left ..)
  have e2 : (Int.gcd z.1 z.2.1 : Int) * (z.2.1 / (Int.gcd z.1 z.2.1 : Int)) = z.2.1 := Int.mul_ediv_cancel' (Int.gcd_dvd_right ..)
  have e3 : (Int.gcd z'.1 z'.2.1 : Int) * (z'.1 / (Int.gcd z'.1 z'.2.1 : Int)) = z'.1 := Int.mul_ediv_cancel' (Int.gcd_dvd_left ..)
  have e4 : (Int.gcd z'.1 z'.2.1 : Int) * (z'.2.1 / (Int.gcd z'.1 z'.2.1 : Int)) = z'.2.1 := Int.mul_ediv_cancel' (Int.gcd_dvd_right ..)
  have c1 : Int.gcd (z.1 / (Int.gcd z.1 z.2.1 : Int)) (z.2.1 / (Int.gcd z.1 z.2.1 : Int)) = 1 := Int.gcd_ediv_gcd_ediv_gcd (by omega)
  have c2 : Int.gcd (z'.1 / (Int.gcd z'.1 z'.2.1 : Int)) (z'.2.1 / (Int.gcd z'.1 z'.2.1 : Int)) = 1 := Int.gcd_ediv_gcd_ediv_gcd (by omega)
  show (z.1 / (Int.gcd z.1 z.2.1 : Int), z.2.1 / (Int.gcd z.1 z.2.1 : Int)) = (z'.1 / (Int.gcd z'.1 z'.2.1 : Int), z'.2.1 / (Int.gcd z'.1 z'.2.1 : Int))
  generalize z.1 / (Int.gcd z.1 z.2.1 : Int) = a at *
  generalize z.2.1 / (Int.gcd z.1 z.2.1 : Int) = b at *
  generalize z'.1 / (Int.gcd z'.1 z'.2.1 : Int) = c at *
  generalize z'.2.1 / (Int.gcd z'.1 z'.2.1 : Int) = f at *
  generalize (Int.gcd z.1 z.2.1 : Int) = G at *
  generalize (Int.gcd z'.1 z'.2.1 : Int) = G' at *
  have hb : 1 ≤ b := by
    have : 0 < b * G := by
      rw [Int.mul_comm]
      omega
    have := pos_of_mul this (by omega)
    omega
  have hf : 1 ≤ f := by
    have : 0 < f * G' := by
      rw [Int.mul_comm]
      omega
    have := pos_of_mul this (by omega)
    omega
  have key : a * f = c * b := by
    have h1 : (a * f) * (G * G') = (c * b) * (G * G') := by
      have h2 : (a * f) * (G * G') = (G * a) * (G' * f) := by grind
      have h3 : (c * b) * (G * G') = (G' * c) * (G * b) := by grind
      rw [h2, h3, e1, e2, e3, e4]
      exact e
    exact Int.eq_of_mul_eq_mul_right (by have := Int.mul_pos (show 0 < G by omega) (show 0 < G' by omega); omega) h1
  obtain ⟨h1, h2⟩ := cop_uniq hb hf c1 c2 key
  rw [h1, h2]
def Cov (S S' : T3 → T3 → Prop) : Prop := ∀ x y, S x y → ∃ x' y', S' x' y' ∧ x'.2 = x.2 ∧ y'.2 = y.2
def SameF : Option T4 → Option T4 → Prop
  | none, none => True
  | some z, some z' => z.1 * z'.2.1 = z'.1 * z.2.1 ∧ 1 ≤ z.2.1 ∧ 1 ≤ z'.2.1
  | _, _ => False
theorem bot_congr {x y x' y' : T3} (e1 : x'.2 = x.2) (e2 : y'.2 = y.2) : bot x' y' = bot x y := by
  unfold bot
  rw [e1, e2]
theorem uc_congr {x y x' y' : T3} (e1 : x'.2 = x.2) (e2 : y'.2 = y.2) (h : uc x y) : uc x' y' := by
  unfold uc at *
  rw [e1, e2]
  exact h
theorem lo_same {S S' : T3 → T3 → Prop} {lo lo' : Option T4} (h : LoOk S lo) (h' : LoOk S' lo') (c : Cov S S') (c' : Cov S' S) : SameF lo lo' := by
  cases lo with
  | none =>
    cases lo' with
    | none => trivial
    | some z' =>
      obtain ⟨⟨x, y, s, g, _⟩, _⟩ := h'
      obtain ⟨x', y', s', e1, e2⟩ := c' x y s
      exact absurd (by rw [e1, e2]; exact g) (h x' y' s')
  | some z =>
    cases lo' with
    | none =>
      obtain ⟨⟨x, y, s, g, _⟩, _⟩ := h
      obtain ⟨x', y', s', e1, e2⟩ := c x y s
      exact absurd (by rw [e1, e2]; exact g) (h' x' y' s')
    | some z' =>
      have d := h.den z rfl
      have d' := h'.den z' rfl
      obtain ⟨⟨x, y, s, g, rfl⟩, m⟩ := h
      obtain ⟨⟨u, v, s', g', rfl⟩, m'⟩ := h'
      obtain ⟨x1, y1, s1, e1, e2⟩ := c x y s
      obtain ⟨u1, v1, s2, e3, e4⟩ := c' u v s'
      have q1 := m' x1 y1 s1 (by rw [e1, e2]; exact g)
      have q2 := m u1 v1 s2 (by rw [e3, e4]; exact g')
      rw [e1, e2] at q1
      rw [e3, e4] at q2
      exact ⟨by show (x.2.2 - y.2.2 - 1) * (u.2.1 - v.2.1) = (u.2.2 - v.2.2 - 1) * (x.2.1 - y.2.1); exact Int.le_antisymm q1 q2, d, d'⟩
theorem up_same {S S' : T3 → T3 → Prop} {up up' : Option T4} (h : UpOk S up) (h' : UpOk S' up') (c : Cov S S') (c' : Cov S' S) : SameF up up' := by
  cases up with
  | none =>
    cases up' with
    | none => trivial
    | some z' =>
      obtain ⟨⟨x, y, s, g, _⟩, _⟩ := h'
      obtain ⟨x', y', s', e1, e2⟩ := c' x y s
      exact absurd (uc_congr e1 e2 g) (h x' y' s')
  | some z =>
    cases up' with
    | none =>
      obtain ⟨⟨x, y, s, g, _⟩, _⟩ := h
      obtain ⟨x', y', s', e1, e2⟩ := c x y s
      exact absurd (uc_congr e1 e2 g) (h' x' y' s')
    | some z' =>
      have d := h.den z rfl
      have d' := h'.den z' rfl
      obtain ⟨⟨x, y, s, g, rfl⟩, m⟩ := h
      obtain ⟨⟨u, v, s', g', rfl⟩, m'⟩ := h'
      obtain ⟨x1, y1, s1, e1, e2⟩ := c x y s
      obtain ⟨u1, v1, s2, e3, e4⟩ := c' u v s'
      have q1 := m' x1 y1 s1 (uc_congr e1 e2 g)
      have q2 := m u1 v1 s2 (uc_congr e3 e4 g')
      rw [bot_congr e1 e2, e1, e2] at q1
      rw [bot_congr e3 e4, e3, e4] at q2
      exact ⟨by show (y.2.2 + 1 - x.2.2) * bot u v = (v.2.2 + 1 - u.2.2) * bot x y; exact Int.le_antisymm q2 q1, d, d'⟩
theorem nonneg_iff {a b c d : Int} (hb : 1 ≤ b) (hd : 1 ≤ d) (e : a * d = c * b) : (a < 0 ↔ c < 0) ∧ (a ≤ 0 ↔ c ≤ 0) := by
  have p1 : a < 0 ↔ a * d < 0 := ⟨fun h => Int.mul_neg_of_neg_of_pos h (by omega), fun h => by
    rcases Int.lt_or_le a 0 with z | z
    · exact z
    · have := Int.mul_nonneg z (show 0 ≤ d by omega)
      omega⟩
  have p2 : c < 0 ↔ c * b < 0 := ⟨fun h => Int.mul_neg_of_neg_of_pos h (by omega), fun h => by
    rcases Int.lt_or_le c 0 with z | z
    · exact z
    · have := Int.mul_nonneg z (show 0 ≤ b by omega)
      omega⟩
  have p3 : 0 < a ↔ 0 < a * d := ⟨fun h => Int.mul_pos h (by omega), fun h => pos_of_mul h (by omega)⟩
  have p4 : 0 < c ↔ 0 < c * b := ⟨fun h => Int.mul_pos h (by omega), fun h => pos_of_mul h (by omega)⟩
  omega
theorem lowE_same {lo lo' : Option T4} (h : SameF lo lo') : lowE lo = lowE lo' := by
  cases lo with
  | none =>
    cases lo' with
    | none => rfl
    | some z => exact h.elim
  | some z =>
    cases lo' with
    | none => exact h.elim
    | some z' =>
      obtain ⟨e, d, d'⟩ := h
      have n := (nonneg_iff d d' e).1
      show (if z.1 < 0 then none else some (redE z)) = (if z'.1 < 0 then none else some (redE z'))
      rw [red_eq d d' e]
      by_cases c : z.1 < 0
      · rw [if_pos c, if_pos (n.mp c)]
      · rw [if_neg c, if_neg (fun q => c (n.mpr q))]
theorem highE_same {up up' : Option T4} (h : SameF up up') : highE up = highE up' := by
  cases up with
  | none =>
    cases up' with
    | none => rfl
    | some z => exact h.elim
  | some z =>
    cases up' with
    | none => exact h.elim
    | some z' =>
      obtain ⟨e, d, d'⟩ := h
      show some (redE z) = some (redE z')
      rw [red_eq d d' e]
theorem le_frac {a b c d a' b' c' d' : Int} (hb : 1 ≤ b) (hd : 1 ≤ d) (hb' : 1 ≤ b') (hd' : 1 ≤ d') (e1 : a * b' = a' * b) (e2 : c * d' = c' * d) (h : a * d ≤ c * b) : a' * d' ≤ c' * b' := by
  have h1 := Int.mul_le_mul_of_nonneg_right h (show 0 ≤ b' * d' by have := Int.mul_pos (show 0 < b' by omega) (show 0 < d' by omega); omega)
  have h2 : a * d * (b' * d') = (a' * d') * (b * d) := by
    have : a * d * (b' * d') = (a * b') * (d * d') := by grind
    rw [this, e1]
    grind
  have h3 : c * b * (b' * d') = (c' * b') * (b * d) := by
    have : c * b * (b' * d') = (c * d') * (b * b') := by grind
    rw [this, e2]
    grind
  rw [h2, h3] at h1
  exact Int.le_of_mul_le_mul_right h1 (Int.mul_pos (by omega) (by omega))
theorem nr_same {lo lo' up up' : Option T4} (h : SameF lo lo') (h2 : SameF up up') : nr lo up = nr lo' up' := by
  cases up with
  | none =>
    cases up' with
    | none => cases lo <;> cases lo' <;> rfl
    | some z => exact h2.elim
  | some z =>
    cases up' with
    | none => exact h2.elim
    | some z' =>
      obtain ⟨e, d, d'⟩ := h2
      have n := (nonneg_iff d d' e).2
      have n' : decide (z.1 ≤ 0) = decide (z'.1 ≤ 0) := decide_eq_decide.mpr n
      cases lo with
      | none =>
        cases lo' with
        | none => exact n'
        | some l => exact h.elim
      | some l =>
        cases lo' with
        | none => exact h.elim
        | some l' =>
          obtain ⟨e0, f, f'⟩ := h
          show (decide (z.1 ≤ 0) || decide (z.1 * l.2.1 ≤ l.1 * z.2.1)) = (decide (z'.1 ≤ 0) || decide (z'.1 * l'.2.1 ≤ l'.1 * z'.2.1))
          rw [n', decide_eq_decide.mpr (⟨fun q => le_frac d f d' f' e e0 q, fun q => le_frac d' f' d f e.symm e0.symm q⟩ : z.1 * l.2.1 ≤ l.1 * z.2.1 ↔ z'.1 * l'.2.1 ≤ l'.1 * z'.2.1)]
theorem nr_zero {S : T3 → T3 → Prop} {lo up : Option T4} {x y : T3} (hu : UpOk S up) (s : S x y) (e1 : x.2.1 = y.2.1) (e2 : y.2.2 + 1 - x.2.2 ≤ 0) : nr lo up = true := by
  have u : uc x y := ⟨by omega, .inr (by omega)⟩
  cases up with
  | none => exact absurd u (hu x y s)
  | some z =>
    have d := hu.den z rfl
    have h := hu.2 x y s u
    have b := bot_pos x y
    have h2 := Int.mul_le_mul_of_nonneg_right e2 (show 0 ≤ z.2.1 by omega)
    rw [Int.zero_mul] at h2
    have le : z.1 ≤ 0 := by
      rcases Int.lt_or_le 0 z.1 with g | g
      · have := Int.mul_pos g (show 0 < bot x y by omega)
        omega
      · exact g
    cases lo with
    | none => exact decide_eq_true le
    | some l =>
      show (decide (z.1 ≤ 0) || _) = true
      rw [decide_eq_true le]
      rfl
/-- what rates gives, as data -/
def endD : Option (Int × Int) → PyData
  | none => .none
  | some e => .tuple [.int e.1, .int e.2]
def resD (lo up : Option T4) : PyData := if nr lo up = true then .none else .tuple [endD (lowE lo), endD (highE up)]
theorem end_dv {H : Hp} {k : Nat} {v : V} {e : Option (Int × Int)} (h : EndV H k v e) : Dv H v (endD e) := by
  cases e with
  | none =>
    have h : v = .non := h
    subst h
    exact .non
  | some e =>
    obtain ⟨a, rfl, ea, _⟩ := h
    exact .tup ea (.cons (.int _) (.cons (.int _) .nil))
theorem show_end {H : Hp} {k : Nat} {v : V} {e : Option (Int × Int)} (hk : k ≤ 1900) (h : EndV H k v e) : (endD e).showable = true ∧ (endD e).depth ≤ 1 ∧ (endD e).shown.length ≤ 10000 := by
  cases e with
  | none => exact ⟨rfl, by decide, by decide +kernel⟩
  | some e =>
    obtain ⟨a, _, _, r⟩ := h
    have bp := r.bp
    have bq := r.bq
    have g1 : e.1.natAbs.log2 < 1920 := (bp.mono (show k ≤ 1920 by omega)).log (by decide)
    have g2 : e.2.natAbs.log2 < 1920 := (bq.mono (show k ≤ 1920 by omega)).log (by decide)
    have l1 := PyProof.Rows.int_text_len_1921 g1
    have l2 := PyProof.Rows.int_text_len_1921 g2
    refine ⟨by simp [endD, PyData.showable, PyData.showableAll, g1, g2], by show 1 ≤ 1; decide, ?_⟩
    have := tupleText_len_le (PyData.shownAll [.int e.1, .int e.2])
    show (tupleText (PyData.shownAll [.int e.1, .int e.2])).length ≤ 10000
    have q : ((PyData.shownAll [.int e.1, .int e.2]).map (·.length)).sum = (toString e.1 : Str).length + ((toString e.2 : Str).length + 0) := rfl
    have q2 : (PyData.shownAll [.int e.1, .int e.2]).length = 2 := rfl
    rw [q, q2] at this
    omega
theorem rv_dv {H : Hp} {k : Nat} {v : V} {lo up : Option T4} (hk : k ≤ 1800) (h : RV H k v lo up) : Dv H v (resD lo up) ∧ (resD lo up).showable = true ∧ (resD lo up).depth ≤ 60 ∧ (resD lo up).shown.length ≤ sizeLine := by
  unfold resD
  rcases h with ⟨e, rfl⟩ | ⟨e, T, a, b, rfl, eT, h1, h2⟩
  · rw [if_pos e]
    exact ⟨.non, rfl, by decide, by rw [sizeLine_eq]; decide +kernel⟩
  · rw [if_neg (by rw [e]; exact Bool.false_ne_true)]
    obtain ⟨s1, d1, l1⟩ := show_end (show k + 2 ≤ 1900 by omega) h1
    obtain ⟨s2, d2, l2⟩ := show_end (show k + 2 ≤ 1900 by omega) h2
    refine ⟨.tup eT (.cons (end_dv h1) (.cons (end_dv h2) .nil)), ?_, ?_, ?_⟩
    · simp [PyData.showable, PyData.showableAll, s1, s2]
    · simp only [PyData.depth, PyData.depthAll]
      omega
    · have := tupleText_len_le (PyData.shownAll [endD (lowE lo), endD (highE up)])
      show (tupleText (PyData.shownAll [endD (lowE lo), endD (highE up)])).length ≤ sizeLine
      have q : ((PyData.shownAll [endD (lowE lo), endD (highE up)]).map (·.length)).sum = (endD (lowE lo)).shown.length + ((endD (highE up)).shown.length + 0) := rfl
      have q2 : (PyData.shownAll [endD (lowE lo), endD (highE up)]).length = 2 := rfl
      rw [q, q2] at this
      rw [sizeLine_eq]
      omega
end Lf
namespace Lf
open PySem PySem.Spec PyProof.Rows L2
section
variable {P : Program} {w : World} {K : PySem.W.Frag} {mg : Str → Option Value} {base : Heap} {C CV : Addr}
def spPhES : Sp := fun vs H Q _ => ∃ (L rt : Addr) (kb : Bool) (xs : List V) (ds : List Rec) (p q : Int) (k : Nat), vs = [.ref L, .ref rt] ∧ H L = some (sqO kb xs) ∧ Obs rcO H xs ds ∧ ds.length ≤ 1000 ∧ H rt = some (tup2 p q) ∧ RcB k ds ∧ Bd k p ∧ Bd k q ∧ 0 < k ∧ k ≤ 100000 ∧
  ∀ T H' a b, Same H H' → H T = none → H' T = some (.tup [oV a, oV b]) → IsMx (lph p q ds) a → IsMn (hph p q ds) b → Q (.ref T) H'
abbrev s_phase_ends : Stmt := topS 40
abbrev N_phase_ends : List Str := ["records", "rate", "p", "q", "lows", "highs", "least", "greatest", "i", "t", "n", "j", "u", "m"]
abbrev P_phase_ends : List Str := ["records", "rate"]
theorem sc_phase_ends : FnScope N_phase_ends P_phase_ends (defScope s_phase_ends) := ⟨rfl, rfl, rfl, by decide +kernel, rfl, by decide +kernel, by decide +kernel⟩
theorem okS_phase_ends (D : Df K mg "phase_ends" s_phase_ends P_phase_ends) (B : Bi mg) (c_split_records : C8.Cal P w K mg base 1 "split_records" spSplitS []) : C8.Cal P w K mg base 2 "phase_ends" spPhES [] := by
  refine cal_of D sc_phase_ends (fun vs H Q E h => ?_) (fun f cdv A outer s H vs Q E hr h => ?_)
  · obtain ⟨L, rt, kb, xs, ds, p, q, k, rfl, _⟩ := h
    rfl
  · obtain ⟨L, rt, kb, xs, ds, p, q, k, rfl, eL, hO, hl, er, bd, bp, bq, k0, k1, kk⟩ := h
    refine ⟨_, (pss_cons (ps_asg (pv 1) (pg_tup rfl (pgs_cons (pg_name (i := 2) sc_phase_ends.nd rfl (Or.inr rfl)) (pgs_cons (pg_name (i := 3) sc_phase_ends.nd rfl (Or.inr rfl)) pgs_nil))))
    (pss_cons (ps_asg (C8.pe_c c_split_records hr (by decide) (by rfl) (pa_cons (pv 0) pa_nil)) (pg_tup rfl (pgs_cons (pg_name (i := 4) sc_phase_ends.nd rfl (Or.inl rfl)) (pgs_cons (pg_name (i := 5) sc_phase_ends.nd rfl (Or.inl rfl)) pgs_nil))))
    (pss_cons (ps_set (i := 6) sc_phase_ends.nd rfl (Or.inl rfl) (pe_callBK (cr_maxD rfl hr.units) (by rfl) B.max_ bt_max (pa_cons (pe_lc (own := [("i", 8), ("t", 9), ("n", 10)]) (g := (gTup K 3 (gCons (gName 8) (gCons (gName 9) (gCons (gName 10) gNil))))) (by rfl) sc_phase_ends.nd (pi_list (pv 4)) (blkOk_by (own := [("i", 8), ("t", 9), ("n", 10)]) (N := N_phase_ends) (sc := defScope s_phase_ends) (by decide +kernel)) (fun _ _ _ _ _ => (pg_tup rfl (pgs_cons (pg_name (i := 8) sc_phase_ends.nd rfl (Or.inl rfl)) (pgs_cons (pg_name (i := 9) sc_phase_ends.nd rfl (Or.inl rfl)) (pgs_cons (pg_name (i := 10) sc_phase_ends.nd rfl (Or.inl rfl)) pgs_nil))))) (fun _ _ _ _ _ => pts_nil) (fun _ _ _ _ _ => (pe_op op_sub (pe_op op_mulW (pv 10) (pv 3)) (pe_op op_mulW (pv 2) (pv 9))))) pa_nil) (pk_cons pe_non pk_nil)))
    (pss_cons (ps_set (i := 7) sc_phase_ends.nd rfl (Or.inl rfl) (pe_callBK (cr_minD rfl hr.units) (by rfl) B.min_ bt_min (pa_cons (pe_lc (own := [("j", 11), ("u", 12), ("m", 13)]) (g := (gTup K 3 (gCons (gName 11) (gCons (gName 12) (gCons (gName 13) gNil))))) (by rfl) sc_phase_ends.nd (pi_list (pv 5)) (blkOk_by (own := [("j", 11), ("u", 12), ("m", 13)]) (N := N_phase_ends) (sc := defScope s_phase_ends) (by decide +kernel)) (fun _ _ _ _ _ => (pg_tup rfl (pgs_cons (pg_name (i := 11) sc_phase_ends.nd rfl (Or.inl rfl)) (pgs_cons (pg_name (i := 12) sc_phase_ends.nd rfl (Or.inl rfl)) (pgs_cons (pg_name (i := 13) sc_phase_ends.nd rfl (Or.inl rfl)) pgs_nil))))) (fun _ _ _ _ _ => pts_nil) (fun _ _ _ _ _ => (pe_op op_sub (pe_op op_sub (pe_op op_mulW (pe_op op_add (pv 13) pe_int) (pv 3)) (pe_op op_mulW (pv 2) (pv 12))) pe_int))) pa_nil) (pk_cons pe_non pk_nil)))
    (pss_one (ps_ret (pe_tup (pa_cons (pv 6) (pa_cons (pv 7) pa_nil))))))))), ?_⟩
    refine ⟨_, rfl, rt, _, rfl, SqT.of er, rfl, _, _, rfl, _, _, rfl, rfl, ?_⟩
    refine ⟨_, rfl, L, kb, xs, ds, rfl, eL, hO, hl, fun T H1 A' B' as bs s1 eT eA oA eB oB => ?_⟩
    refine ⟨T, _, rfl, SqT.of eT, rfl, _, _, rfl, _, _, rfl, rfl, ?_⟩
    refine ⟨_, rfl, A', rfl, ⟨_, SqL.of eA⟩, fun D1 nD1 => ?_⟩
    refine lc_list (K := K) (a := A') (xs := as) (fun i H' => Same H1 H' ∧ H' D1 = some (.lst ((((sel true 0 ds).take i).map fun x => x.2.2 * q - p * x.2.1).map V.int))) ⟨sm_upd nD1, upd_same⟩ ?_ ?_ ?_
    · rintro i H2 _ ⟨s2, _⟩
      exact SqL.of (s2 _ _ eA)
    · rintro i x H2 hx ⟨s2, e2⟩
      obtain ⟨r, d, rfl, ed, hd⟩ := oA.at hx
      have bb := sel_bd bd (List.mem_of_getElem? hd)
      have hi := (List.getElem?_eq_some_iff.mp hd).1
      have hz := sel_len true 0 ds
      refine ⟨r, _, rfl, SqT.of (s2 _ _ ed), rfl, _, _, rfl, _, _, rfl, _, _, rfl, rfl, ?_⟩
      refine ⟨rfl, _, rfl, _, rfl, _, _, rfl, rfl, mulW bb.2 bq k0 k0 (by omega), _, rfl, _, rfl, _, _, rfl, rfl, mulW bp bb.1 k0 k0 (by omega), _, _, rfl, rfl, _, e2, ?_, ?_, ?_⟩
      · rw [List.length_map, List.length_map, List.length_take]
        exact small1000 (by omega)
      · intro b o eb
        rw [upd_ne (ne_of_none eb nD1)]
        exact s2 _ _ eb
      · rw [upd_same, List.take_add_one, hd, List.map_append, List.map_append]
        rfl
    rintro H2 ⟨s2, e2⟩
    rw [List.take_of_length_le (by rw [oA.len]; exact Nat.le_refl _)] at e2
    refine ⟨D1, _, rfl, rfl, SqL.of e2, fun a ha => ?_⟩
    refine ⟨_, rfl, B', rfl, ⟨_, SqL.of (s2 _ _ eB)⟩, fun D2 nD2 => ?_⟩
    refine lc_list (K := K) (a := B') (xs := bs) (fun i H' => Same H2 H' ∧ H' D2 = some (.lst ((((sel false 0 ds).take i).map fun x => (x.2.2 + 1) * q - p * x.2.1 - 1).map V.int))) ⟨sm_upd nD2, upd_same⟩ ?_ ?_ ?_
    · rintro i H3 _ ⟨s3, _⟩
      exact SqL.of (s3 _ _ (s2 _ _ eB))
    · rintro i x H3 hx ⟨s3, e3⟩
      obtain ⟨r, d, rfl, ed, hd⟩ := oB.at hx
      have bb := sel_bd bd (List.mem_of_getElem? hd)
      have hi := (List.getElem?_eq_some_iff.mp hd).1
      have hz := sel_len false 0 ds
      refine ⟨r, _, rfl, SqT.of (s3 _ _ (s2 _ _ ed)), rfl, _, _, rfl, _, _, rfl, _, _, rfl, rfl, ?_⟩
      have b1 : Bd (k + 1) (d.2.2 + 1) := Bd.add bb.2 (Bd.small 1 (by decide) (by omega))
      refine ⟨rfl, _, rfl, _, _, rfl, rfl, _, rfl, _, _, rfl, rfl, mulW b1 bq (by omega) k0 (by omega), _, rfl, _, rfl, _, _, rfl, rfl, mulW bp bb.1 k0 k0 (by omega), _, _, rfl, rfl, _, _, rfl, rfl, _, e3, ?_, ?_, ?_⟩
      · rw [List.length_map, List.length_map, List.length_take]
        exact small1000 (by omega)
      · intro b o eb
        rw [upd_ne (ne_of_none eb nD2)]
        exact s3 _ _ eb
      · rw [upd_same, List.take_add_one, hd, List.map_append, List.map_append]
        rfl
    rintro H3 ⟨s3, e3⟩
    rw [List.take_of_length_le (by rw [oB.len]; exact Nat.le_refl _)] at e3
    refine ⟨D2, _, rfl, rfl, SqL.of e3, fun b hb => ?_⟩
    refine ⟨_, rfl, _, rfl, len10 (by simp), fun T2 nT2 => ?_⟩
    refine kk T2 _ a b (((s1.trans s2).trans s3).trans (sm_upd nT2)) ?_ upd_same ha hb
    cases z : H T2 with
    | none => rfl
    | some o =>
      rw [((s1.trans s2).trans s3) _ _ z] at nT2
      cases nT2
def spRFS : Sp := fun vs H Q _ => ∃ (L rt : Addr) (kb : Bool) (xs : List V) (ds : List Rec) (p q : Int) (k : Nat), vs = [.ref L, .ref rt] ∧ H L = some (sqO kb xs) ∧ Obs rcO H xs ds ∧ ds.length ≤ 1000 ∧ H rt = some (tup2 p q) ∧ RcB k ds ∧ Bd k p ∧ Bd k q ∧ 0 < k ∧ k ≤ 100000 ∧
  ∀ H' a b, Same H H' → IsMx (lph p q ds) a → IsMn (hph p q ds) b → Q (.bl (okPh a b)) H'
def spPhasesS : Sp := fun vs H Q _ => ∃ (L rt : Addr) (kb : Bool) (xs : List V) (ds : List Rec) (p q : Int) (k : Nat), vs = [.ref L, .ref rt] ∧ H L = some (sqO kb xs) ∧ Obs rcO H xs ds ∧ ds.length ≤ 200 ∧ H rt = some (tup2 p q) ∧ RcB k ds ∧ Rt k p q ∧ 0 < k ∧ k ≤ 100000 ∧
  ∀ H' a b v, Same H H' → IsMx (lph p q ds) a → IsMn (hph p q ds) b → ((okPh a b = false ∧ v = .non) ∨ (okPh a b = true ∧ ∃ T, v = .ref T ∧ H T = none ∧ H' T = some (.tup [oV a, oV b]))) → Q v H'
/-! ### phases, refused -/
def spPhasesX (C CV : Addr) : Sp := fun vs H _ E => ∃ (v rv : V), vs = [v, rv] ∧ ((∃ j, CkBad H v j ∧ ∀ H', Same H H' → OutY C "index" (.int j) H' E) ∨
  ∃ (L : Addr) (kb : Bool) (xs : List V) (ds : List Rec) (d : PyData), v = .ref L ∧ H L = some (sqO kb xs) ∧ Obs rcO H xs ds ∧ ds.length ≤ 200 ∧ Dv H rv d ∧ rateD d = false ∧ ∀ H', Same H H' → OutX CV "value" rv H' E)
end
end Lf
namespace Lf
open PySem PySem.Spec PyProof.Rows L2
/-! ### what the phases say -/
def geO : Option Int → Int → Prop
  | none, _ => True
  | some x, c => x ≤ c
def leO : Option Int → Int → Prop
  | none, _ => True
  | some x, c => c ≤ x
theorem fit_lo {p q c : Int} {d : Rec} (hq : 1 ≤ q) (h : d.lo = true) : fitB p q c d = true ↔ d.n * q - p * d.t ≤ c := by
  unfold fitB
  rw [if_pos h, decide_eq_true_eq, Int.le_ediv_iff_mul_le (by omega)]
  omega
theorem fit_hi {p q c : Int} {d : Rec} (hq : 1 ≤ q) (h : d.lo = false) : fitB p q c d = true ↔ c ≤ (d.n + 1) * q - p * d.t - 1 := by
  unfold fitB
  rw [if_neg (by rw [h]; exact Bool.false_ne_true), decide_eq_true_eq, ← Int.lt_add_one_iff, Int.ediv_lt_iff_lt_mul (by omega)]
  omega
theorem mem_lph {p q x : Int} {ds : List Rec} : x ∈ lph p q ds ↔ ∃ d ∈ ds, d.lo = true ∧ x = d.n * q - p * d.t := by
  unfold lph
  constructor
  · intro h
    obtain ⟨y, hy, rfl⟩ := List.mem_map.mp h
    obtain ⟨i, d, e, hb, rfl⟩ := sel_mem hy
    exact ⟨d, List.mem_of_getElem? e, hb, rfl⟩
  · rintro ⟨d, hd, hb, rfl⟩
    obtain ⟨i, e⟩ := List.mem_iff_getElem?.mp hd
    exact List.mem_map.mpr ⟨_, mem_sel e hb 0, rfl⟩
theorem mem_hph {p q x : Int} {ds : List Rec} : x ∈ hph p q ds ↔ ∃ d ∈ ds, d.lo = false ∧ x = (d.n + 1) * q - p * d.t - 1 := by
  unfold hph
  constructor
  · intro h
    obtain ⟨y, hy, rfl⟩ := List.mem_map.mp h
    obtain ⟨i, d, e, hb, rfl⟩ := sel_mem hy
    exact ⟨d, List.mem_of_getElem? e, hb, rfl⟩
  · rintro ⟨d, hd, hb, rfl⟩
    obtain ⟨i, e⟩ := List.mem_iff_getElem?.mp hd
    exact List.mem_map.mpr ⟨_, mem_sel e hb 0, rfl⟩
theorem fit_iff {p q c : Int} {ds : List Rec} {a b : Option Int} (hq : 1 ≤ q) (ha : IsMx (lph p q ds) a) (hb : IsMn (hph p q ds) b) : ds.all (fitB p q c) = true ↔ geO a c ∧ leO b c := by
  rw [List.all_eq_true]
  constructor
  · intro h
    constructor
    · cases a with
      | none => trivial
      | some x =>
        obtain ⟨d, hd, hl, rfl⟩ := mem_lph.mp ha.1
        exact (fit_lo hq hl).mp (h d hd)
    · cases b with
      | none => trivial
      | some x =>
        obtain ⟨d, hd, hl, rfl⟩ := mem_hph.mp hb.1
        exact (fit_hi hq hl).mp (h d hd)
  · rintro ⟨h1, h2⟩ d hd
    cases hl : d.lo with
    | true =>
      have m : d.n * q - p * d.t ∈ lph p q ds := mem_lph.mpr ⟨d, hd, hl, rfl⟩
      refine (fit_lo hq hl).mpr ?_
      cases a with
      | none =>
        rw [show lph p q ds = [] from ha] at m
        cases m
      | some x =>
        have := ha.2 _ m
        have h1 : x ≤ c := h1
        omega
    | false =>
      have m : (d.n + 1) * q - p * d.t - 1 ∈ hph p q ds := mem_hph.mpr ⟨d, hd, hl, rfl⟩
      refine (fit_hi hq hl).mpr ?_
      cases b with
      | none =>
        rw [show hph p q ds = [] from hb] at m
        cases m
      | some x =>
        have := hb.2 _ m
        have h2 : c ≤ x := h2
        omega
theorem mx_bd {k : Nat} {p q x : Int} {ds : List Rec} (k0 : 0 < k) (bd : RcB k ds) (bp : Bd k p) (bq : Bd k q) (h : IsMx (lph p q ds) (some x)) : Bd (2 * k + 2) x := by
  obtain ⟨d, hd, _, rfl⟩ := mem_lph.mp h.1
  exact (Bd.sub ((Bd.mul (bd d hd).2 bq).mono (by omega : k + k ≤ 2 * k)) ((Bd.mul bp (bd d hd).1).mono (by omega))).mono (by omega)
theorem mn_bd {k : Nat} {p q x : Int} {ds : List Rec} (k0 : 0 < k) (bd : RcB k ds) (bp : Bd k p) (bq : Bd k q) (h : IsMn (hph p q ds) (some x)) : Bd (2 * k + 3) x := by
  obtain ⟨d, hd, _, rfl⟩ := mem_hph.mp h.1
  have b1 : Bd (k + 1) (d.n + 1) := Bd.add (bd d hd).2 (Bd.small 1 (by decide) (by omega))
  exact Bd.sub (Bd.sub ((Bd.mul b1 bq).mono (by omega : k + 1 + k ≤ 2 * k + 1)) ((Bd.mul bp (bd d hd).1).mono (by omega))) (Bd.small 1 (by decide) (by omega))
end Lf
namespace Lf
open PySem PySem.Spec PyProof.Rows L2
/-! ### tables of code objects, kept -/
theorem tabs_fr {T : List (Addr × Str)} {H H' : Hp} (t : LamX.Tabs T H) (f : Fr H H') : LamX.Tabs T H' := fun p hp => by
  obtain ⟨ps, h1, h2, h3⟩ := t p hp
  refine ⟨ps, f.k _ _ h1 (fun _ z => by cases z), h2, fun pos cv hc => ?_⟩
  obtain ⟨c, e1, e2⟩ := h3 pos cv hc
  exact ⟨c, e1, f.k _ _ e2 fun _ z => by unfold LamX.CodeO at z; cases z⟩
theorem tabs_same {T : List (Addr × Str)} {H H' : Hp} (t : LamX.Tabs T H) (s : Same H H') : LamX.Tabs T H' := tabs_fr t (Fr.same s)
theorem Pen.extN {H H' : Hp} {a : PA} {n : Nat} (p : Pen H a n) (e : LamX.ExtN H H') : Pen H' a n := by
  obtain ⟨cs, t, r, h1, h2, h3⟩ := p.ex
  exact ⟨cs, t, r, e _ _ h1 (fun _ z => by cases z), e _ _ h2 (fun _ z => by cases z), h3⟩
theorem tup_extN {H H' : Hp} {b : Addr} {xs : List V} (e : LamX.ExtN H H') (h : H b = some (.tup xs)) : H' b = some (.tup xs) := e _ _ h fun _ z => by cases z
def spLawT (K : PySem.W.Frag) (PT : Addr) : Sp := fun vs H Q _ => ∃ (a : Addr) (ns : List Int), vs = [.ref a] ∧ SqL K H a (ns.map V.int) ∧ ns.length ≤ 63 ∧ H PT = some (.tbl #[]) ∧ ∀ H', Q (.bl true) H'
theorem iteFs {b : Bool} {A B : Prop} (h : b = false) (hB : B) : if b = true then A else B := by
  rw [h, if_neg Bool.false_ne_true]
  exact hB
theorem notin_of {ns : List Int} {k : Int} (h : k ∈ ns) : (if true = true then !inV (V.int k) (ns.map V.int) else inV (V.int k) (ns.map V.int)) = false := by
  rw [if_pos rfl, inV_ints, decide_eq_true h]
  rfl
/-- two pairs that are the same are not different -/
theorem ne2 {K : PySem.W.Frag} {H : Hp} {r1 r2 : Addr} {p q p' q' : Int} {Q : V → Hp → Prop} (e1 : H r1 = some (.tup [.int p, .int q])) (e2 : H r2 = some (.tup [.int p', .int q'])) (hp : p = p') (hq : q = q') (h : Q (.bl false) H) : rNeD K (.ref r1) (.ref r2) H Q := by
  subst hp hq
  refine ⟨.tuple [.int p, .int q], .tuple [.int p, .int q], Dp.tup (SqT.of e1) (.cons (.int p) (.cons (.int q) .nil)), Dp.tup (SqT.of e2) (.cons (.int p) (.cons (.int q) .nil)), rfl, rfl, ?_⟩
  rw [SeqAt.eqv_refl _ rfl]
  exact h
abbrev qLam : Str := (("law" : Str) ++ (".<locals>." : Str)) ++ ("<lambda>" : Str)
end Lf
namespace Lf
open PySem PySem.Spec PyProof.Rows L2
/-- two rules that are the same are not different -/
theorem ne3 {K : PySem.W.Frag} {H : Hp} {r1 r2 : Addr} {p q c p' q' c' : Int} {Q : V → Hp → Prop} (e1 : H r1 = some (.tup [.int p, .int q, .int c])) (e2 : H r2 = some (.tup [.int p', .int q', .int c'])) (hp : p = p') (hq : q = q') (hc : c = c') (h : Q (.bl false) H) : rNeD K (.ref r1) (.ref r2) H Q := by
  subst hp hq hc
  refine ⟨.tuple [.int p, .int q, .int c], .tuple [.int p, .int q, .int c], Dp.tup (SqT.of e1) (.cons (.int p) (.cons (.int q) (.cons (.int c) .nil))), Dp.tup (SqT.of e2) (.cons (.int p) (.cons (.int q) (.cons (.int c) .nil))), rfl, rfl, ?_⟩
  rw [SeqAt.eqv_refl _ rfl]
  exact h
theorem logR {k : Nat} {i : Int} (h : Bd k i) (hk : k ≤ 1920) : i.natAbs.log2 < 1920 := (h.mono hk).log (by decide)
def spLaw (K : PySem.W.Frag) : Sp := fun vs H Q _ => ∃ (a : Addr) (ns : List Int), vs = [.ref a] ∧ SqL K H a (ns.map V.int) ∧ ns.length ≤ 63 ∧ ∀ H', Q (.bl true) H'
end Lf
namespace Lf
open PySem PySem.Spec PyProof.Rows L2
/-! ### conflicts: no rate fits -/
def FitM (ds : List Rec) (p q : Int) : Prop := ∀ d ∈ ds, ∀ e ∈ ds, d.lo = true → e.lo = false → p * (e.t - d.t) < (e.n + 1 - d.n) * q
def Cf (ds : List Rec) : Prop := ∀ p q : Int, 0 ≤ p → 1 ≤ q → ¬ FitM ds p q
theorem FitM.sub {ds es : List Rec} {p q : Int} (h : FitM ds p q) (s : ∀ d ∈ es, d ∈ ds) : FitM es p q := fun d hd e he => h d (s d hd) e (s e he)
theorem Cf.sub {ds es : List Rec} (h : Cf es) (s : ∀ d ∈ es, d ∈ ds) : Cf ds := fun p q hp hq f => h p q hp hq (f.sub s)
theorem not_cf {ds : List Rec} (h : ¬ Cf ds) : ∃ p q : Int, 0 ≤ p ∧ 1 ≤ q ∧ FitM ds p q := by
  unfold Cf at h
  simp only [Classical.not_forall, Classical.not_not] at h
  obtain ⟨p, q, hp, hq, f⟩ := h
  exact ⟨p, q, hp, hq, f⟩
theorem fitm_sd {ds : List Rec} {p q : Int} : (∀ x y, SD ds x y → p * (y.2.1 - x.2.1) < (y.2.2 + 1 - x.2.2) * q) ↔ FitM ds p q := by
  constructor
  · intro h d hd e he ld le
    obtain ⟨i, ei⟩ := List.mem_iff_getElem?.mp hd
    obtain ⟨j, ej⟩ := List.mem_iff_getElem?.mp he
    exact h _ _ ⟨mem_sel ei ld 0, mem_sel ej le 0⟩
  · rintro h x y ⟨hx, hy⟩
    obtain ⟨i, d, ei, ld, rfl⟩ := sel_mem hx
    obtain ⟨j, e, ej, le, rfl⟩ := sel_mem hy
    exact h d (List.mem_of_getElem? ei) e (List.mem_of_getElem? ej) ld le
/-- where the bounds leave room there is a rate -/
theorem nr_some {S : T3 → T3 → Prop} {lo up : Option T4} (hl : LoOk S lo) (hu : UpOk S up) (h : nr lo up = false) : ∃ p q : Int, 0 ≤ p ∧ 1 ≤ q ∧ RateIn lo up p q := by
  cases up with
  | none =>
    cases lo with
    | none => exact ⟨0, 1, by omega, by omega, fun z e => (nomatch e), fun z e => (nomatch e)⟩
    | some l =>
      have dl := hl.den l rfl
      refine ⟨(if l.1 < 0 then 0 else l.1) + 1, 1, ?_, by omega, fun z e => ?_, fun z e => (nomatch e)⟩
      · by_cases c : l.1 < 0
        · rw [if_pos c]
          omega
        · rw [if_neg c]
          omega
      · cases e
        have key : l.1 < (if l.1 < 0 then 0 else l.1) + 1 ∧ 0 ≤ (if l.1 < 0 then 0 else l.1) + 1 := by
          by_cases c : l.1 < 0
          · rw [if_pos c]
            omega
          · rw [if_neg c]
            omega
        generalize (if l.1 < 0 then 0 else l.1) + 1 = a at key
        have := Int.mul_le_mul_of_nonneg_left dl key.2
        omega
  | some z =>
    have dz := hu.den z rfl
    cases lo with
    | none =>
      have h : decide (z.1 ≤ 0) = false := h
      have h := of_decide_eq_false h
      exact ⟨0, 1, by omega, by omega, fun z e => (nomatch e), fun y e => by cases e; omega⟩
    | some l =>
      have dl := hl.den l rfl
      have h : (decide (z.1 ≤ 0) || decide (z.1 * l.2.1 ≤ l.1 * z.2.1)) = false := h
      rw [Bool.or_eq_false_iff] at h
      have h1 := of_decide_eq_false h.1
      have h2 := of_decide_eq_false h.2
      by_cases c : l.1 < 0
      · refine ⟨0, 1, by omega, by omega, fun y e => ?_, fun y e => ?_⟩
        · cases e
          omega
        · cases e
          omega
      · refine ⟨l.1 + z.1, l.2.1 + z.2.1, by omega, by omega, fun y e => ?_, fun y e => ?_⟩
        · cases e
          rw [Int.mul_add, Int.add_mul]
          omega
        · cases e
          rw [Int.mul_add, Int.add_mul]
          omega
theorem nr_cf {ds : List Rec} {lo up : Option T4} (hl : LoOk (SD ds) lo) (hu : UpOk (SD ds) up) : nr lo up = true ↔ Cf ds := by
  constructor
  · intro h p q hp hq f
    exact nr_none hp hq hl hu h ((rate_iff hp hq hl hu).mp (fitm_sd.mpr f))
  · intro h
    cases e : nr lo up with
    | true => rfl
    | false =>
      obtain ⟨p, q, hp, hq, r⟩ := nr_some hl hu e
      exact absurd (fitm_sd.mp ((rate_iff hp hq hl hu).mpr r)) (h p q hp hq)
/-! ### three of four -/
theorem cf3_a {t1 n1 u1 m1 t2 n2 p q : Int} (hq : 1 ≤ q) (D0 : u1 < t1) (a : u1 ≥ t2) (X : 0 ≤ (n2 - m1 - 1) * (t1 - u1) + (n1 - m1 - 1) * (u1 - t2))
    (h1 : p * (u1 - t1) < (m1 + 1 - n1) * q) (h2 : p * (u1 - t2) < (m1 + 1 - n2) * q) : False := by
  have e1 : (n1 - m1 - 1) * q < p * (t1 - u1) := by
    have a1 : (n1 - m1 - 1) * q = -((m1 + 1 - n1) * q) := by grind
    have a2 : p * (t1 - u1) = -(p * (u1 - t1)) := by grind
    omega
  have g1 := Int.mul_le_mul_of_nonneg_right (Int.le_of_lt e1) (show 0 ≤ u1 - t2 by omega)
  have g2 := Int.mul_lt_mul_of_pos_right h2 (show 0 < t1 - u1 by omega)
  have g3 := Int.mul_nonneg X (show 0 ≤ q by omega)
  have b1 : p * (u1 - t2) * (t1 - u1) = p * (t1 - u1) * (u1 - t2) := by grind
  have b2 : (m1 + 1 - n2) * q * (t1 - u1) = -((n2 - m1 - 1) * (t1 - u1) * q) := by grind
  have b3 : (n1 - m1 - 1) * q * (u1 - t2) = (n1 - m1 - 1) * (u1 - t2) * q := by grind
  rw [Int.add_mul] at g3
  omega
theorem cf3_b {A D u1 m1 t2 n2 u2 m2 p q : Int} (hq : 1 ≤ q) (D0 : 0 < D) (a : u1 < t2) (hu : t2 < u2) (X : 0 ≤ (n2 - m1 - 1) * D + A * (u1 - t2)) (Y : 0 ≤ (n2 - m2 - 1) * D + A * (u2 - t2))
    (h1 : p * (u1 - t2) < (m1 + 1 - n2) * q) (h2 : p * (u2 - t2) < (m2 + 1 - n2) * q) : False := by
  have g1 := Int.mul_lt_mul_of_pos_right h1 D0
  have g2 := Int.mul_nonneg X (show 0 ≤ q by omega)
  have b1 : (m1 + 1 - n2) * q * D = -((n2 - m1 - 1) * D * q) := by grind
  have b2 : p * (u1 - t2) * D = -(p * D * (t2 - u1)) := by grind
  have b3 : A * (u1 - t2) * q = -(A * q * (t2 - u1)) := by grind
  rw [Int.add_mul] at g2
  have g3 : A * q * (t2 - u1) < p * D * (t2 - u1) := by omega
  have g4 : A * q < p * D := Int.lt_of_mul_lt_mul_right g3 (by omega)
  have g5 := Int.mul_lt_mul_of_pos_right g4 (show 0 < u2 - t2 by omega)
  have g6 := Int.mul_lt_mul_of_pos_right h2 D0
  have g7 := Int.mul_nonneg Y (show 0 ≤ q by omega)
  have b4 : (m2 + 1 - n2) * q * D = -((n2 - m2 - 1) * D * q) := by grind
  have b5 : p * (u2 - t2) * D = p * D * (u2 - t2) := by grind
  have b6 : A * (u2 - t2) * q = A * q * (u2 - t2) := by grind
  rw [Int.add_mul] at g7
  omega
theorem cf3_c {t1 n1 u1 m1 u2 m2 p q : Int} (hq : 1 ≤ q) (D0 : u1 < t1) (a : u2 ≥ t1) (X : 0 ≤ (n1 - m2 - 1) * (t1 - u1) + (n1 - m1 - 1) * (u2 - t1))
    (h1 : p * (u1 - t1) < (m1 + 1 - n1) * q) (h2 : p * (u2 - t1) < (m2 + 1 - n1) * q) : False := by
  have e1 : (n1 - m1 - 1) * q < p * (t1 - u1) := by
    have a1 : (n1 - m1 - 1) * q = -((m1 + 1 - n1) * q) := by grind
    have a2 : p * (t1 - u1) = -(p * (u1 - t1)) := by grind
    omega
  have g1 := Int.mul_le_mul_of_nonneg_right (Int.le_of_lt e1) (show 0 ≤ u2 - t1 by omega)
  have g2 := Int.mul_lt_mul_of_pos_right h2 (show 0 < t1 - u1 by omega)
  have g3 := Int.mul_nonneg X (show 0 ≤ q by omega)
  have b1 : p * (u2 - t1) * (t1 - u1) = p * (t1 - u1) * (u2 - t1) := by grind
  have b2 : (m2 + 1 - n1) * q * (t1 - u1) = -((n1 - m2 - 1) * (t1 - u1) * q) := by grind
  have b3 : (n1 - m1 - 1) * q * (u2 - t1) = (n1 - m1 - 1) * (u2 - t1) * q := by grind
  rw [Int.add_mul] at g3
  omega
theorem cf3_d {A D t1 n1 t2 n2 u2 m2 p q : Int} (hq : 1 ≤ q) (D0 : 0 < D) (a : u2 < t1) (hu : t2 < u2) (X : 0 ≤ (n1 - m2 - 1) * D + A * (u2 - t1)) (Y : 0 ≤ (n2 - m2 - 1) * D + A * (u2 - t2))
    (h1 : p * (u2 - t1) < (m2 + 1 - n1) * q) (h2 : p * (u2 - t2) < (m2 + 1 - n2) * q) : False := by
  have g1 := Int.mul_lt_mul_of_pos_right h1 D0
  have g2 := Int.mul_nonneg X (show 0 ≤ q by omega)
  have b1 : (m2 + 1 - n1) * q * D = -((n1 - m2 - 1) * D * q) := by grind
  have b2 : p * (u2 - t1) * D = -(p * D * (t1 - u2)) := by grind
  have b3 : A * (u2 - t1) * q = -(A * q * (t1 - u2)) := by grind
  rw [Int.add_mul] at g2
  have g3 : A * q * (t1 - u2) < p * D * (t1 - u2) := by omega
  have g4 : A * q < p * D := Int.lt_of_mul_lt_mul_right g3 (by omega)
  have g5 := Int.mul_lt_mul_of_pos_right g4 (show 0 < u2 - t2 by omega)
  have g6 := Int.mul_lt_mul_of_pos_right h2 D0
  have g7 := Int.mul_nonneg Y (show 0 ≤ q by omega)
  have b4 : (m2 + 1 - n2) * q * D = -((n2 - m2 - 1) * D * q) := by grind
  have b5 : p * (u2 - t2) * D = p * D * (u2 - t2) := by grind
  have b6 : A * (u2 - t2) * q = A * q * (u2 - t2) := by grind
  rw [Int.add_mul] at g7
  omega
theorem cf_four {d1 e1 d2 e2 : Rec} (ld1 : d1.lo = true) (le1 : e1.lo = false) (ld2 : d2.lo = true) (le2 : e2.lo = false) (h1 : e1.t < d1.t) (h2 : d2.t < e2.t)
    (c : (e2.n + 1 - d2.n) * (d1.t - e1.t) ≤ (d1.n - e1.n - 1) * (e2.t - d2.t)) : Cf [d1, e1, d2] ∨ Cf [d2, e1, e2] ∨ Cf [d1, e1, e2] ∨ Cf [d1, d2, e2] := by
  have Y : 0 ≤ (d2.n - e2.n - 1) * (d1.t - e1.t) + (d1.n - e1.n - 1) * (e2.t - d2.t) := by
    have b1 : (e2.n + 1 - d2.n) * (d1.t - e1.t) = -((d2.n - e2.n - 1) * (d1.t - e1.t)) := by grind
    omega
  have sum : ((d2.n - e1.n - 1) * (d1.t - e1.t) + (d1.n - e1.n - 1) * (e1.t - d2.t)) + ((d1.n - e2.n - 1) * (d1.t - e1.t) + (d1.n - e1.n - 1) * (e2.t - d1.t)) = (d2.n - e2.n - 1) * (d1.t - e1.t) + (d1.n - e1.n - 1) * (e2.t - d2.t) := by grind
  rcases Int.le_total 0 ((d2.n - e1.n - 1) * (d1.t - e1.t) + (d1.n - e1.n - 1) * (e1.t - d2.t)) with X | X
  · by_cases a : e1.t ≥ d2.t
    · refine .inl fun p q hp hq f => ?_
      exact cf3_a hq h1 a X (f d1 (by simp) e1 (by simp) ld1 le1) (f d2 (by simp) e1 (by simp) ld2 le1)
    · refine .inr (.inl fun p q hp hq f => ?_)
      exact cf3_b hq (show 0 < d1.t - e1.t by omega) (by omega) h2 X Y (f d2 (by simp) e1 (by simp) ld2 le1) (f d2 (by simp) e2 (by simp) ld2 le2)
  · have X : 0 ≤ (d1.n - e2.n - 1) * (d1.t - e1.t) + (d1.n - e1.n - 1) * (e2.t - d1.t) := by omega
    by_cases a : e2.t ≥ d1.t
    · refine .inr (.inr (.inl fun p q hp hq f => ?_))
      exact cf3_c hq h1 a X (f d1 (by simp) e1 (by simp) ld1 le1) (f d1 (by simp) e2 (by simp) ld1 le2)
    · refine .inr (.inr (.inr fun p q hp hq f => ?_))
      exact cf3_d hq (show 0 < d1.t - e1.t by omega) (by omega) h2 X Y (f d1 (by simp) e2 (by simp) ld1 le2) (f d2 (by simp) e2 (by simp) ld2 le2)
/-- records picked by their indexes -/
def pk (ds : List Rec) (js : List Nat) : List Rec := js.filterMap fun j => ds[j]?
theorem mem_pk {ds : List Rec} {js : List Nat} {d : Rec} : d ∈ pk ds js ↔ ∃ j, j ∈ js ∧ ds[j]? = some d := List.mem_filterMap
theorem pk_sub {ds : List Rec} {js is : List Nat} (h : ∀ j ∈ js, j ∈ is) : ∀ d ∈ pk ds js, d ∈ pk ds is := fun d hd => by
  obtain ⟨j, hj, e⟩ := mem_pk.mp hd
  exact mem_pk.mpr ⟨j, h j hj, e⟩
theorem pk_all {ds : List Rec} {js : List Nat} : ∀ d ∈ pk ds js, d ∈ ds := fun d hd => by
  obtain ⟨j, hj, e⟩ := mem_pk.mp hd
  exact List.mem_of_getElem? e
theorem pk_len {ds : List Rec} {js : List Nat} (h : ∀ j ∈ js, j < ds.length) : (pk ds js).length = js.length := by
  induction js with
  | nil => rfl
  | cons j r ih =>
    have hj := h j List.mem_cons_self
    have e : ds[j]? = some ds[j] := List.getElem?_eq_getElem hj
    show (List.filterMap _ (j :: r)).length = _
    rw [List.filterMap_cons, e]
    show ((pk ds r).length + 1) = _
    rw [ih fun k hk => h k (List.mem_cons_of_mem _ hk)]
    rfl
theorem pk_app {ds : List Rec} {js is : List Nat} : pk ds (js ++ is) = pk ds js ++ pk ds is := List.filterMap_append
theorem pk_one {ds : List Rec} {j : Nat} {d : Rec} (e : ds[j]? = some d) : pk ds [j] = [d] := by
  show List.filterMap _ [j] = _
  rw [List.filterMap_cons, e]
  rfl
theorem pk_at {ds : List Rec} {js : List Nat} (h : ∀ j ∈ js, j < ds.length) {i j : Nat} (e : js[i]? = some j) : (pk ds js)[i]? = ds[j]? := by
  induction js generalizing i with
  | nil => cases e
  | cons k r ih =>
    have hk := h k List.mem_cons_self
    have ek : ds[k]? = some ds[k] := List.getElem?_eq_getElem hk
    show (List.filterMap _ (k :: r))[i]? = _
    rw [List.filterMap_cons, ek]
    cases i with
    | zero =>
      cases e
      exact ek.symm
    | succ i => exact ih (fun x hx => h x (List.mem_cons_of_mem _ hx)) e
/-- a conflict none of whose records can be left out -/
structure Least (ds : List Rec) (js : List Nat) : Prop where
  up : js.Pairwise (· < ·)
  lt : ∀ j ∈ js, j < ds.length
  cf : Cf (pk ds js)
  mn : ∀ j ∈ js, ¬ Cf (pk ds (js.filter (· ≠ j)))
  le : js.length ≤ 3
theorem cf_two {ds : List Rec} (h : Cf ds) : ∃ d e, d ∈ ds ∧ e ∈ ds ∧ d.lo = true ∧ e.lo = false := by
  refine Classical.byContradiction fun n => h 0 1 (by omega) (by omega) fun d hd e he ld le => ?_
  exact absurd ⟨d, e, hd, he, ld, le⟩ n
theorem cf_len {ds : List Rec} (h : Cf ds) : 2 ≤ ds.length := by
  obtain ⟨d, e, hd, he, ld, le⟩ := cf_two h
  match ds, hd, he with
  | [a], hd, he =>
    rw [List.mem_singleton.mp hd] at ld
    rw [List.mem_singleton.mp he, ld] at le
    cases le
  | a :: b :: r, _, _ =>
    rw [List.length_cons, List.length_cons]
    omega
theorem Least.ge {ds : List Rec} {js : List Nat} (h : Least ds js) : 2 ≤ js.length := by
  have := cf_len h.cf
  rw [pk_len h.lt] at this
  exact this
/-- what conflicts within a least conflict is all of it -/
theorem Least.all {ds : List Rec} {js is : List Nat} (h : Least ds js) (s : ∀ i ∈ is, i ∈ js) (c : Cf (pk ds is)) : ∀ j ∈ js, j ∈ is := fun j hj => by
  refine Classical.byContradiction fun n => h.mn j hj (c.sub (pk_sub fun i hi => ?_))
  rw [List.mem_filter]
  exact ⟨s i hi, decide_eq_true fun e => n (e ▸ hi)⟩
theorem lo_at {ds : List Rec} {z : T4} (h : LoOk (SD ds) (some z)) : ∃ (i j : Nat) (d e : Rec), ds[i]? = some d ∧ ds[j]? = some e ∧ d.lo = true ∧ e.lo = false ∧ e.t < d.t ∧ z = (d.n - e.n - 1, d.t - e.t, (i : Int), (j : Int)) := by
  obtain ⟨⟨x, y, ⟨hx, hy⟩, g, rfl⟩, _⟩ := h
  obtain ⟨i, d, ei, ld, rfl⟩ := sel_mem hx
  obtain ⟨j, e, ej, le, rfl⟩ := sel_mem hy
  rw [Nat.zero_add, Nat.zero_add] at *
  exact ⟨i, j, d, e, ei, ej, ld, le, g, rfl⟩
theorem up_at {ds : List Rec} {z : T4} (h : UpOk (SD ds) (some z)) : ∃ (i j : Nat) (d e : Rec), ds[i]? = some d ∧ ds[j]? = some e ∧ d.lo = true ∧ e.lo = false ∧ ¬ e.t < d.t ∧ (d.t < e.t ∨ d.n > e.n) ∧ z.1 = e.n + 1 - d.n ∧ (d.t < e.t → z.2.1 = e.t - d.t) ∧ z.2.2 = ((i : Int), (j : Int)) := by
  obtain ⟨⟨x, y, ⟨hx, hy⟩, g, rfl⟩, _⟩ := h
  obtain ⟨i, d, ei, ld, rfl⟩ := sel_mem hx
  obtain ⟨j, e, ej, le, rfl⟩ := sel_mem hy
  rw [Nat.zero_add, Nat.zero_add] at *
  exact ⟨i, j, d, e, ei, ej, ld, le, g.1, g.2, rfl, fun c => bot_eq c, rfl⟩
end Lf
namespace Lf
open PySem PySem.Spec PyProof.Rows L2
/-! ### set(list of ints) -/
abbrev setE (w : World) : Obj := { cls := .type "set", dict := none, data := .set #[] 0 (.fresh 0 0 (!w.params.followText "set-order")) }
section
variable {P : Program} {w : World} {A : Around} {E : Value → Shared → Prop} {s : Shared}
set_option maxHeartbeats 4000000 in
theorem set_of_list {l : Addr} {its : Array Value} (ns : List Int) {Q : Value → Shared → Prop} (nh : A.handled = none) (hL : s.heap.IsList l its) (hI : IntsAre its.toList ns) (few : ns.length + 1 < scanBound)
    (q : ∀ (g : Heap) (t c : Nat), SetR w g s.heap.objs.size (fun j => decide (j ∈ ns)) c → c ≤ ns.length → (∀ b o, s.heap.get? b = some o → g.get? b = some o) → Q (.ref s.heap.objs.size) { s with heap := g, toks := t }) :
    wpAny (model P w) A (call (.type "set") [.ref l]) Q E s := by
  have sz : its.size = ns.length := by
    have z := IntsAre.length hI
    rwa [Array.length_toList] at z
  have cs := F.called_set
  obtain ⟨c0, t0, m0⟩ := cs.mro
  have k1 := cs.made
  have k2 := cs.sub
  have k3 := cs.notType
  have k4 := cs.canCreate
  have k5 := F.typeCall_set_1 (.ref l)
  refine wpAny_call (codeAny_of_tree ?_)
  show wpAny _ _ (callAny (.type "set") ⟨[.ref l], []⟩) _ _ _
  refine wpAny_pure ⟨Code.quiet_builtin _ (by decide +kernel), codeAny_builtin F.entry_type_call ?_⟩
  rw [Around.under_plain (weight_type_call_type "set" _ _) rfl]
  repeat (any_goals (first | assumption | wp_step))
  refine codeAny_mono (code_set_led1 (.ref l) (E := E) (Q₁ := fun x s₁ => x = .ref s.heap.objs.size ∧ s₁ = { s with heap := s.heap.push (setE w) }) ⟨rfl, rfl⟩) fun r s₁ e1 => ?_
  match r, e1 with
  | .error _, e1 => exact e1
  | .ok (.ret x), ⟨ex, es⟩ =>
    subst ex es
    have gS : (s.heap.push (setE w)).get? s.heap.objs.size = some (setE w) := Heap.get?_push_size _ rfl
    have tS : Shared.TypeIs { s with heap := s.heap.push (setE w) } (.ref s.heap.objs.size) "set" := ⟨_, gS, rfl⟩
    have k6 := cs.init.lookup
    have k7 := cs.init.bind (.ref s.heap.objs.size)
    repeat (any_goals (first | assumption | wp_step))
    refine codeAny_mono (codeAny_call_builtin (R := wants (fun r s₂ => r = .none ∧ ∃ g t c, s₂ = { s with heap := g, toks := t } ∧ SetR w g s.heap.objs.size (fun j => decide (j ∈ ns)) c ∧ c ≤ ns.length ∧ (∀ b o, s.heap.get? b = some o → g.get? b = some o)) E)
      cs.init.plain F.entry_set_init (check_set_init_1 tS ?_)) fun r2 s2 e2 => ?_
    · obtain ⟨⟨xc, xd, xv, xs⟩, gL, ec, n, ed⟩ := hL
      have ec : xc = _ := ec
      have ed : xv = _ := ed
      subst ec ed
      have gL1 := Heap.get?_push_of_some (setE w) gL
      have j1 := F.sub_list_set
      have j2 := F.sub_list_frozenset
      have j3 : (Value.type "list" == Value.type "dict") = false := by decide
      have hL1 : (s.heap.push (setE w)).IsList l its := ⟨_, gL1, rfl, n, rfl⟩
      unfold Builtin.«set.__init__» noKeywords Builtin.Frozenset.updateFrom
      generalize hPI : pyIter = PI
      wp_walk
      subst hPI
      refine wpAny_pyIter_list hL1 (wpAny_bind (wpAny_runValue ?_))
      have lt0 : l < s.heap.objs.size := Heap.lt_size gL
      have zz : (s.heap.push (setE w)).objs.size = s.heap.objs.size + 1 := Heap.size_push ..
      have nI : l ≠ (s.heap.push (setE w)).objs.size := by
        rw [zz]
        exact Nat.ne_of_lt (Nat.lt_succ_of_lt lt0)
      have out : s.heap.objs.size ∉ [(s.heap.push (setE w)).objs.size, l] := by
        rw [zz]
        intro z
        rcases List.mem_cons.mp z with z | z
        · exact Nat.ne_of_lt (Nat.lt_succ_self _) z
        · exact Nat.ne_of_gt lt0 (List.mem_singleton.mp z)
      have val : ∀ (i : Nat) (v : Value), its[i]? = some v → ∃ k t, ns[i]? = some k ∧ v = .int k t := by
        intro i v hv
        have hi : i < ns.length := by
          rw [← sz]
          exact (Array.getElem?_eq_some_iff.mp hv).1
        obtain ⟨t, e⟩ := IntsAre.int_at hI i v (by rwa [Array.getElem?_toList])
        refine ⟨_, t, List.getElem?_eq_getElem hi, ?_⟩
        rw [e, List.getD_eq_getElem?_getD, List.getElem?_eq_getElem hi]
        rfl
      have nh3 : A.in1.in1.in1.handled = none := by simp [nh]
      refine set_update_ints (Walks.list nh3 _ l nI its).toS s.heap.objs.size out ns sz few val its.size 0 _ rfl (Nat.zero_le _) ⟨⟨_, Heap.get?_push_size _ rfl, rfl, rfl⟩, hL1.push _⟩ ⟨0, Nat.le_refl 0, setR_new_at (Heap.get?_push_of_some _ gS)⟩ ?_
      rintro ⟨g, g2, d2, t2, o2⟩ c hm hc hR
      have a1 : g2 = s.gens := hm.gens
      have a2 : d2 = s.drawn := hm.drawn
      have a3 : o2 = s.os := hm.os
      subst a1 a2 a3
      show wpAny _ _ _ _ _ _
      refine wpAny_pure ?_
      show wpAny _ _ (ret Value.none) _ _ _
      rw [sz] at hc
      refine wpAny_pure ⟨rfl, g, t2, c, rfl, hR, hc, fun b o e => hm.heap b o (fun z => ?_) (Heap.get?_push_of_some _ (Heap.get?_push_of_some _ e))⟩
      have bl := Heap.lt_size e
      rw [zz] at z
      rcases List.mem_cons.mp z with z | z
      · exact Nat.ne_of_lt bl z
      · exact Nat.ne_of_lt (Nat.lt_succ_of_lt bl) (List.mem_singleton.mp z)
    · match r2, e2 with
      | .error _, e2 => exact e2
      | .ok (.ret x), ⟨ex, g, t, c, es, b1, b2, b3⟩ =>
        subst ex es
        repeat (any_goals (first | assumption | wp_step))
        exact q _ _ _ b1 b2 b3
end
def rSetL (K : PySem.W.Frag) (w : World) : List V → Hp → VK → Prop := fun xs H Q => ∃ (a : Addr) (ns : List Int), xs = [.ref a] ∧ SqL K H a (ns.map V.int) ∧ ns.length ≤ 1000 ∧ ∀ p c, H p = none → c ≤ ns.length → Q (.ref p) (upd H p (SetO w p (fun j => decide (j ∈ ns)) c))
theorem cr_setL {X : Cx} (hc : X.calm = true) : CallR X (.type "set") (rSetL X.K X.w) := by
  intro pins s σ H xs us Q I r h
  obtain ⟨a, ns, rfl, hs, hl, q⟩ := h
  rw [Vals.ref1 r]
  obtain ⟨its, rv, pl, hz⟩ := I.list hs
  refine set_of_list ns (I.ok.hd hc) pl.isList (ints_of_vals rv) (by unfold scanBound; omega) fun g t c R cl kp => ?_
  exact ⟨.ref _, _, I.laid (t' := t) kp (Nat.le_refl _) (setO_new R), rfl, q _ c (I.hok.fresh (Nat.le_refl _)) cl⟩
/-! ### two clauses of a comprehension -/
theorem lc2_in {J1 : It} {n : Nat} {G : Hp → Prop} {Y : Nat → Hp → V → Hp → Prop} (w : Walk J1 n G Y) {g1 : TG} {tt1 : TT} {te : TE} {vs1 : List Nat} {σ2 : L2.St} {H4 : Hp} {D : Addr} {Nx : Hp → Prop} (Pv : Nat → Hp → Prop) (h0 : Pv 0 H4) (hG : ∀ i H, i ≤ n → Pv i H → G H)
    (hs : ∀ i x H H', i < n → Pv i H → Y i H x H' → g1 x (wipe σ2 vs1) H' fun σ3 H5 => wipe σ3 vs1 = wipe σ2 vs1 ∧ tt1 σ3 H5 fun b H6 =>
      if b = true then te σ3 H6 fun y H7 => ∃ acc, H7 D = some (.lst acc) ∧ acc.length < sizeLine ∧ Pv (i + 1) (upd H7 D (.lst (acc ++ [y]))) else Pv (i + 1) H6) (hd : ∀ H, Pv n H → Nx H) :
    ∃ W1 : Nat → Nat → Hp → Prop, (∃ m, W1 0 m H4) ∧ ∀ j k H, W1 j k H →
      (J1.stop j H ∧ Nx H) ∨ (J1.go j H ∧ ∃ Nx1 : Hp → Prop, (∀ H', Nx1 H' → ∃ k', k' < k ∧ W1 (j + 1) k' H') ∧ ∀ x H', J1.yld j H x H' → g1 x (wipe σ2 vs1) H' fun σ3 H5 => wipe σ3 vs1 = wipe σ2 vs1 ∧ tt1 σ3 H5 fun b H6 =>
        if b = true then te σ3 H6 fun y H7 => ∃ acc, H7 D = some (.lst acc) ∧ acc.length < sizeLine ∧ Nx1 (upd H7 D (.lst (acc ++ [y]))) else Nx1 H6) := by
  refine ⟨fun i m H => m = n - i ∧ i ≤ n ∧ Pv i H, ⟨n, rfl, Nat.zero_le _, h0⟩, ?_⟩
  rintro i m H ⟨em, hi, p⟩
  have q := hG i H hi p
  rcases Nat.lt_or_ge i n with lt | ge
  · refine .inr ⟨w.goes i H lt q, Pv (i + 1), fun H' p' => ⟨n - (i + 1), by omega, rfl, lt, p'⟩, fun x H' y => hs i x H H' lt p (w.yields i H x H' lt q y)⟩
  · obtain rfl : i = n := by omega
    exact .inl ⟨w.stops H q, hd H p⟩
/-- the outer one: hs gives the inner one's own loop, from which Pv (i + 1) is reached -/
theorem lc2_out {J : It} {n : Nat} {G : Hp → Prop} {Y : Nat → Hp → V → Hp → Prop} (w : Walk J n G Y) {H1 : Hp} {D : Addr} {Qd : Hp → Prop} {B : V → Hp → (Hp → Prop) → Prop} (Pv : Nat → Hp → Prop) (h0 : Pv 0 (upd H1 D (.lst []))) (hG : ∀ i H, i ≤ n → Pv i H → G H)
    (hs : ∀ i x H H', i < n → Pv i H → Y i H x H' → B x H' (Pv (i + 1))) (hd : ∀ H, Pv n H → Qd H) :
    ∃ W : Nat → Nat → Hp → Prop, (∃ m, W 0 m (upd H1 D (.lst []))) ∧ ∀ i m H, W i m H →
      (J.stop i H ∧ Qd H) ∨ (J.go i H ∧ ∃ Nx : Hp → Prop, (∀ H', Nx H' → ∃ m', m' < m ∧ W (i + 1) m' H') ∧ ∀ x H', J.yld i H x H' → B x H' Nx) := by
  refine ⟨fun i m H => m = n - i ∧ i ≤ n ∧ Pv i H, ⟨n, rfl, Nat.zero_le _, h0⟩, ?_⟩
  rintro i m H ⟨em, hi, p⟩
  have q := hG i H hi p
  rcases Nat.lt_or_ge i n with lt | ge
  · refine .inr ⟨w.goes i H lt q, Pv (i + 1), fun H' p' => ⟨n - (i + 1), by omega, rfl, lt, p'⟩, fun x H' y => hs i x H H' lt p (w.yields i H x H' lt q y)⟩
  · obtain rfl : i = n := by omega
    exact .inl ⟨w.stops H q, hd H p⟩
/-! ### an item of a list or a tuple -/
def rIxB (K : PySem.W.Frag) : R2 := fun x y H Q => ∃ p b xs i v, x = .ref p ∧ y = .int i ∧ SqB K b H p xs ∧ atI xs i = some v ∧ Q v H
theorem ix_B {X : Cx} : IxR X (rIxB X.K) := by
  intro value slice pins s σ H x y v u Q I rx ry h hs
  obtain ⟨p, b, xs, i, z, h1, h2, h3, h4, q⟩ := h
  cases b with
  | true => exact ix_list value slice pins s σ H x y v u Q I rx ry ⟨p, xs, i, z, h1, h2, h3, h4, q⟩ hs
  | false => exact ix_tup value slice pins s σ H x y v u Q I rx ry ⟨p, xs, i, z, h1, h2, h3, h4, q⟩ hs
end Lf
namespace Lf
open PySem PySem.Spec PyProof.Rows L2
def ni (js : List Nat) : List Int := js.map fun j => ((j : Nat) : Int)
theorem ni_len (js : List Nat) : (ni js).length = js.length := List.length_map ..
theorem nodup_le {l m : List Nat} (h : l.Nodup) (s : ∀ x ∈ l, x ∈ m) : l.length ≤ m.length := by
  induction l generalizing m with
  | nil => exact Nat.zero_le _
  | cons x r ih =>
    have hx := s x List.mem_cons_self
    have h2 := List.nodup_cons.mp h
    have := ih (m := m.erase x) h2.2 fun y hy => (List.mem_erase_of_ne (a := y) (b := x) fun e => h2.1 (by rw [← e]; exact hy)).mpr (s y (List.mem_cons_of_mem _ hy))
    rw [List.length_erase_of_mem hx] at this
    have := List.length_pos_of_mem hx
    rw [List.length_cons]
    omega
theorem up_nodup {js : List Nat} (h : js.Pairwise (· < ·)) : js.Nodup := h.imp fun z => Nat.ne_of_lt z
/-- three that conflict, beside a fourth: not all four are needed -/
theorem le_three {ds : List Rec} {cur : List Nat} (nd : cur.Nodup) (mn : ∀ j ∈ cur, ¬ Cf (pk ds (cur.filter (· ≠ j)))) {a b c z : Nat} {da db dc : Rec} (ha : ds[a]? = some da) (hb : ds[b]? = some db) (hc : ds[c]? = some dc) (s : ∀ x ∈ cur, x = a ∨ x = b ∨ x = c ∨ x = z) (h : Cf [da, db, dc]) : cur.length ≤ 3 := by
  refine Classical.byContradiction fun n => ?_
  have big : ∀ (u v t : Nat), ¬ ∀ x ∈ cur, x ∈ [u, v, t] := fun u v t g => n (nodup_le nd g)
  have hz : z ∈ cur := Classical.byContradiction fun g => big a b c fun x hx => by
    rcases s x hx with e | e | e | e
    · simp [e]
    · simp [e]
    · simp [e]
    · exact absurd (e ▸ hx) g
  have inn : ∀ y, (∀ x ∈ cur, x = y ∨ x ∈ [a, b, c, z]) → (y = a ∨ y = b ∨ y = c) → y ∈ cur.filter (· ≠ z) := fun y _ hy => by
    rw [List.mem_filter]
    refine ⟨Classical.byContradiction fun g => ?_, decide_eq_true fun e => ?_⟩
    · rcases hy with rfl | rfl | rfl
      · exact big b c z fun x hx => by
          rcases s x hx with e | e | e | e
          · exact absurd (e ▸ hx) g
          · simp [e]
          · simp [e]
          · simp [e]
      · exact big a c z fun x hx => by
          rcases s x hx with e | e | e | e
          · simp [e]
          · exact absurd (e ▸ hx) g
          · simp [e]
          · simp [e]
      · exact big a b z fun x hx => by
          rcases s x hx with e | e | e | e
          · simp [e]
          · simp [e]
          · exact absurd (e ▸ hx) g
          · simp [e]
    · refine big a b c fun x hx => ?_
      rcases s x hx with e' | e' | e' | e'
      · simp [e']
      · simp [e']
      · simp [e']
      · rw [e', ← e]
        rcases hy with rfl | rfl | rfl <;> simp
  have all : ∀ y, (y = a ∨ y = b ∨ y = c) → y ∈ cur.filter (· ≠ z) := fun y hy => inn y (fun x hx => .inr (by rcases s x hx with e | e | e | e <;> simp [e])) hy
  refine mn z hz (h.sub fun d hd => ?_)
  simp only [List.mem_cons, List.not_mem_nil, or_false] at hd
  rcases hd with rfl | rfl | rfl
  · exact mem_pk.mpr ⟨a, all a (.inl rfl), ha⟩
  · exact mem_pk.mpr ⟨b, all b (.inr (.inl rfl)), hb⟩
  · exact mem_pk.mpr ⟨c, all c (.inr (.inr rfl)), hc⟩
/-- the indexes of a pair -/
def cb : Option T4 → List Int
  | none => []
  | some z => [z.2.2.1, z.2.2.2]
theorem cb_nat {ds : List Rec} {lo up : Option T4} (hl : LoOk (SD ds) lo) (hu : UpOk (SD ds) up) : ∀ x ∈ cb lo ++ cb up, ∃ j : Nat, x = (j : Int) ∧ j < ds.length := by
  intro x hx
  rcases List.mem_append.mp hx with h | h
  · cases lo with
    | none => cases h
    | some z =>
      obtain ⟨i, j, d, e, ei, ej, _, _, _, rfl⟩ := lo_at hl
      simp only [cb, List.mem_cons, List.not_mem_nil, or_false] at h
      rcases h with rfl | rfl
      · exact ⟨i, rfl, (List.getElem?_eq_some_iff.mp ei).1⟩
      · exact ⟨j, rfl, (List.getElem?_eq_some_iff.mp ej).1⟩
  · cases up with
    | none => cases h
    | some z =>
      obtain ⟨i, j, d, e, ei, ej, _, _, _, _, _, _, e3⟩ := up_at hu
      simp only [cb, e3, List.mem_cons, List.not_mem_nil, or_false] at h
      rcases h with rfl | rfl
      · exact ⟨i, rfl, (List.getElem?_eq_some_iff.mp ei).1⟩
      · exact ⟨j, rfl, (List.getElem?_eq_some_iff.mp ej).1⟩
/-- the records of the tightest pairs conflict -/
theorem cb_cf {ds : List Rec} {lo up : Option T4} {js : List Nat} (hl : LoOk (SD ds) lo) (hu : UpOk (SD ds) up) (hn : nr lo up = true) (hj : ∀ x ∈ cb lo ++ cb up, ∃ j ∈ js, x = ((j : Nat) : Int)) : Cf (pk ds js) := by
  intro p q hp hq f
  have at_ : ∀ {i : Nat} {d : Rec}, ((i : Nat) : Int) ∈ cb lo ++ cb up → ds[i]? = some d → d ∈ pk ds js := fun {i d} h e => by
    obtain ⟨j, h1, h2⟩ := hj _ h
    have : i = j := by omega
    exact mem_pk.mpr ⟨j, h1, this ▸ e⟩
  refine nr_none hp hq hl hu hn ⟨fun z ez => ?_, fun z ez => ?_⟩
  · subst ez
    obtain ⟨i, j, d, e, ei, ej, ld, le, g, rfl⟩ := lo_at hl
    have := f d (at_ (by simp [cb]) ei) e (at_ (by simp [cb]) ej) ld le
    show (d.n - e.n - 1) * q < p * (d.t - e.t)
    have a1 : (d.n - e.n - 1) * q = -((e.n + 1 - d.n) * q) := by grind
    have a2 : p * (d.t - e.t) = -(p * (e.t - d.t)) := by grind
    omega
  · subst ez
    obtain ⟨i, j, d, e, ei, ej, ld, le, g1, g2, e1, e2, e3⟩ := up_at hu
    have h := f d (at_ (by simp [cb, e3]) ei) e (at_ (by simp [cb, e3]) ej) ld le
    rw [e1]
    by_cases c : d.t < e.t
    · rw [e2 c]
      exact h
    · have e0 : e.t - d.t = 0 := by omega
      rw [e0, Int.mul_zero] at h
      have := pos_of_mul h (by omega)
      omega
theorem cb_le {ds : List Rec} {lo up : Option T4} {cur : List Nat} (hl : LoOk (SD ds) lo) (hu : UpOk (SD ds) up) (hn : nr lo up = true) (nd : cur.Nodup) (mn : ∀ j ∈ cur, ¬ Cf (pk ds (cur.filter (· ≠ j)))) (s : ∀ j ∈ cur, ((j : Nat) : Int) ∈ cb lo ++ cb up) : cur.length ≤ 3 := by
  cases up with
  | none => cases lo <;> cases hn
  | some z =>
    obtain ⟨i2, j2, d2, e2, ei2, ej2, ld2, le2, g1, g2, z1, z2, z3⟩ := up_at hu
    cases lo with
    | none =>
      refine Nat.le_trans (nodup_le (m := [i2, j2]) nd fun x hx => ?_) (by simp)
      have := s x hx
      simp only [cb, z3, List.nil_append, List.mem_cons, List.not_mem_nil, or_false] at this
      simp only [List.mem_cons, List.not_mem_nil, or_false]
      omega
    | some l =>
      obtain ⟨i1, j1, d1, e1, ei1, ej1, ld1, le1, g, rfl⟩ := lo_at hl
      have s' : ∀ x ∈ cur, x = i1 ∨ x = j1 ∨ x = i2 ∨ x = j2 := fun x hx => by
        have := s x hx
        simp only [cb, z3, List.cons_append, List.nil_append, List.mem_cons, List.not_mem_nil, or_false] at this
        omega
      have pair : z.1 ≤ 0 → Cf [d2, e2] := fun c p q hp hq f => by
        have h := f d2 (by simp) e2 (by simp) ld2 le2
        rw [← z1] at h
        have := Int.mul_nonneg hp (show 0 ≤ e2.t - d2.t by omega)
        have := Int.mul_le_mul_of_nonneg_right c (show 0 ≤ q by omega)
        rw [Int.zero_mul] at this
        omega
      have hn : (decide (z.1 ≤ 0) || decide (z.1 * (d1.t - e1.t) ≤ (d1.n - e1.n - 1) * z.2.1)) = true := hn
      by_cases c : z.1 ≤ 0
      · exact le_three nd mn (a := i2) (b := j2) (c := i1) (z := j1) ei2 ej2 ei1 (fun x hx => by have := s' x hx; omega) ((pair c).sub fun d hd => by
          simp only [List.mem_cons, List.not_mem_nil, or_false] at hd ⊢
          rcases hd with rfl | rfl
          · exact .inl rfl
          · exact .inr (.inl rfl))
      · rw [decide_eq_false c, Bool.false_or] at hn
        have hn := of_decide_eq_true hn
        have lt : d2.t < e2.t := by omega
        rw [z2 lt, z1] at hn
        rcases cf_four ld1 le1 ld2 le2 g lt hn with h | h | h | h
        · exact le_three nd mn (a := i1) (b := j1) (c := i2) (z := j2) ei1 ej1 ei2 (fun x hx => by have := s' x hx; omega) h
        · exact le_three nd mn (a := i2) (b := j1) (c := j2) (z := i1) ei2 ej1 ej2 (fun x hx => by have := s' x hx; omega) h
        · exact le_three nd mn (a := i1) (b := j1) (c := j2) (z := i2) ei1 ej1 ej2 (fun x hx => by have := s' x hx; omega) h
        · exact le_three nd mn (a := i1) (b := i2) (c := j2) (z := j1) ei1 ei2 ej2 (fun x hx => by have := s' x hx; omega) h
theorem Same.nf {H H' : Hp} (s : Same H H') {F : Addr} (n : H' F = none) : H F = none := by
  cases e : H F with
  | none => rfl
  | some o =>
    rw [s _ _ e] at n
    cases n
/-- what find_conflict gives -/
inductive FcR (H H' : Hp) (ds : List Rec) : V → Prop
  | no : ¬ Cf ds → FcR H H' ds .non
  | yes {F : Addr} {js : List Nat} : H F = none → H' F = some (.lst ((ni js).map V.int)) → Least ds js → FcR H H' ds (.ref F)
def spFind (m : Nat) : Sp := fun vs H Q _ => ∃ (L : Addr) (kb : Bool) (xs : List V) (ds : List Rec) (k : Nat), vs = [.ref L] ∧ H L = some (sqO kb xs) ∧ Obs rcO H xs ds ∧ ds.length ≤ m ∧ RcB k ds ∧ 0 < k ∧ k ≤ 8000 ∧ ∀ v H', Same H H' → FcR H H' ds v → Q v H'
end Lf
namespace Lf
open PySem PySem.Spec PyProof.Rows L2
theorem ni_mem {js : List Nat} {x : Int} : x ∈ ni js ↔ ∃ j ∈ js, x = ((j : Nat) : Int) := by
  unfold ni
  rw [List.mem_map]
  exact ⟨fun ⟨j, h, e⟩ => ⟨j, h, e.symm⟩, fun ⟨j, h, e⟩ => ⟨j, h, e.symm⟩⟩
/-- ascending ints that are all indexes -/
theorem ni_of {ns : List Int} {n : Nat} (h : ns.Pairwise (· < ·)) (s : ∀ x ∈ ns, ∃ j : Nat, x = (j : Int) ∧ j < n) : ∃ js : List Nat, ns = ni js ∧ js.Pairwise (· < ·) ∧ ∀ j ∈ js, j < n := by
  induction ns with
  | nil => exact ⟨[], rfl, .nil, fun _ z => (nomatch z)⟩
  | cons x r ih =>
    obtain ⟨h1, h2⟩ := List.pairwise_cons.mp h
    obtain ⟨js, e, u, l⟩ := ih h2 fun y hy => s y (List.mem_cons_of_mem _ hy)
    obtain ⟨j, ej, lj⟩ := s x List.mem_cons_self
    refine ⟨j :: js, by rw [e, ej]; rfl, List.pairwise_cons.mpr ⟨fun i hi => ?_, u⟩, fun i hi => ?_⟩
    · have := h1 (i : Int) (by rw [e]; exact ni_mem.mpr ⟨i, hi, rfl⟩)
      omega
    · rcases List.mem_cons.mp hi with rfl | hi
      · exact lj
      · exact l i hi
theorem ni_at {js : List Nat} {i : Nat} {x : V} (h : ((ni js).map V.int)[i]? = some x) : ∃ j, js[i]? = some j ∧ x = .int ((j : Nat) : Int) := by
  unfold ni at h
  rw [List.map_map, List.getElem?_map] at h
  cases e : js[i]? with
  | none =>
    rw [e] at h
    cases h
  | some j =>
    rw [e] at h
    cases h
    exact ⟨j, rfl, rfl⟩
theorem filt_snoc {js : List Nat} {f : Nat → Bool} {i j : Nat} (e : js[i]? = some j) : (js.take (i + 1)).filter f = (js.take i).filter f ++ (if f j = true then [j] else []) := by
  rw [List.take_add_one, e, List.filter_append]
  congr 1
  show List.filter f [j] = _
  cases h : f j with
  | true => simp [h]
  | false => simp [h]
theorem ni_app (a b : List Nat) : ni (a ++ b) = ni a ++ ni b := List.map_append
theorem pk_snoc {ds : List Rec} {js : List Nat} {i j : Nat} {d : Rec} (e : js[i]? = some j) (ed : ds[j]? = some d) : pk ds (js.take (i + 1)) = pk ds (js.take i) ++ [d] := by
  rw [List.take_add_one, e, pk_app]
  congr 1
  exact pk_one ed
theorem pk_le {ds : List Rec} (js : List Nat) : (pk ds js).length ≤ js.length := List.length_filterMap_le ..
theorem pk_bd {k : Nat} {ds : List Rec} (h : RcB k ds) (js : List Nat) : RcB k (pk ds js) := fun d hd => h d (pk_all d hd)
section
variable {P : Program} {w : World} {K : PySem.W.Frag} {mg : Str → Option Value} {base : Heap}
end
end Lf
namespace Lf
open PySem PySem.Spec PyProof.Rows L2
noncomputable instance cfDec (ds : List Rec) : Decidable (Cf ds) := Classical.propDecidable _
/-- what conflict gave, as it stands -/
inductive FcS (H : Hp) (ds : List Rec) : V → Prop
  | no : ¬ Cf ds → FcS H ds .non
  | yes {F : Addr} {js : List Nat} : H F = some (.lst ((ni js).map V.int)) → Least ds js → FcS H ds (.ref F)
theorem FcS.fr {H H' : Hp} {ds : List Rec} {v : V} (h : FcS H ds v) (f : Fr H H') : FcS H' ds v := by
  cases h with
  | no h => exact .no h
  | yes h1 h2 => exact .yes (f.l _ _ h1) h2
theorem FcS.same {H H' : Hp} {ds : List Rec} {v : V} (h : FcS H ds v) (s : Same H H') : FcS H' ds v := h.fr (Fr.same s)
theorem FcR.st {H H' : Hp} {ds : List Rec} {v : V} (h : FcR H H' ds v) : FcS H' ds v := by
  cases h with
  | no h => exact .no h
  | yes _ h1 h2 => exact .yes h1 h2
theorem FcS.none_iff {H : Hp} {ds : List Rec} {v : V} (h : FcS H ds v) : decide (v = V.non) = decide (¬ Cf ds) := by
  cases h with
  | no h => rw [decide_eq_true (p := ¬ Cf ds) h]; rfl
  | yes _ h => rw [decide_eq_false (p := ¬ Cf ds) (fun z => z (h.cf.sub pk_all))]; rfl
theorem RV.none_iff {H : Hp} {k : Nat} {ds : List Rec} {v : V} {lo up : Option T4} (hl : LoOk (SD ds) lo) (hu : UpOk (SD ds) up) (h : RV H k v lo up) : decide (v = V.non) = decide (Cf ds) := by
  rcases h with ⟨h1, rfl⟩ | ⟨h1, T, x, y, rfl, _⟩
  · rw [decide_eq_true (p := Cf ds) ((nr_cf hl hu).mp h1)]
    rfl
  · rw [decide_eq_false (p := Cf ds) fun z => by rw [(nr_cf hl hu).mpr z] at h1; cases h1]
    rfl
end Lf
namespace Lf
open PySem PySem.Spec PyProof.Rows L2
/-! ### lists of the very same items, or of other lengths -/
def SmI (xs : List V) : Prop := ∀ z ∈ xs, flatB z = true ∨ ∃ c, z = .ref c
def rNeS (K : PySem.W.Frag) : R2 := fun x y H Q => ∃ a b xs ys, x = .ref a ∧ y = .ref b ∧ SqL K H a xs ∧ SqL K H b ys ∧ ((xs.length ≠ ys.length ∧ Q (.bl true) H) ∨ (xs = ys ∧ SmI xs ∧ Q (.bl false) H))
def rEqS (K : PySem.W.Frag) : R2 := fun x y H Q => ∃ a b xs ys, x = .ref a ∧ y = .ref b ∧ SqL K H a xs ∧ SqL K H b ys ∧ ((xs.length ≠ ys.length ∧ Q (.bl false) H) ∨ (xs = ys ∧ SmI xs ∧ Q (.bl true) H))
theorem smI_at {A : Around} {s : Shared} {xs : List V} : ∀ {us ws : List Value}, SmI xs → Vals xs us → Vals xs ws → ∀ j (h1 : j < us.length) (h2 : j < ws.length), SeqAt.EqAt A s us[j] ws[j] true := by
  induction xs with
  | nil =>
    intro us ws _ r1 r2 j h1 _
    cases r1
    exact absurd h1 (Nat.not_lt_zero j)
  | cons x xs ih =>
    intro us ws hs r1 r2 j h1 h2
    cases r1 with
    | cons a1 b1 =>
      cases r2 with
      | cons a2 b2 =>
        cases j with
        | zero =>
          rcases hs x List.mem_cons_self with f | ⟨c, rfl⟩
          · exact eqAt_same a1 a2 f
          · cases a1
            cases a2
            exact SeqAt.EqAt.same _
        | succ j => exact ih (fun z hz => hs z (List.mem_cons_of_mem _ hz)) b1 b2 j (Nat.lt_of_succ_lt_succ h1) (Nat.lt_of_succ_lt_succ h2)
section
variable {X : Cx}
theorem op_neS (hu : X.A.units + 64 < cLine) : OpR X (compareOp .NotEq) (rNeS X.K) := by
  intro pins s σ H x y v u Q I rx ry h
  obtain ⟨a, b, xs, ys, rfl, rfl, ha, hb, h⟩ := h
  cases rx
  cases ry
  obtain ⟨us, r1, p1, _⟩ := I.list ha
  obtain ⟨ws, r2, p2, _⟩ := I.list hb
  have l1 := r1.length
  have l2 := r2.length
  rcases h with ⟨hne, q⟩ | ⟨rfl, hs, q⟩
  · exact SeqAt.RcNeAt.lists_lengths p1.isList p2.isList (by rw [bne_iff_ne, List.size_toArray, List.size_toArray]; omega) (by omega) _ _ _ _ ⟨.bl true, H, I, rfl, q⟩
  · have hsz : us.toArray.size = ws.toArray.size := by rw [List.size_toArray, List.size_toArray]; omega
    have R := SeqAt.RcNeAt.lists (e := fun _ => true) p1.isList p2.isList hsz (show X.A.units < cLine by omega) (fun j h1 h2 => by
      have := smI_at (A := X.A.in1) (s := s) hs r1 r2 j (by simpa using h1) (by simpa using h2)
      simpa using this)
    rw [show ((List.range us.toArray.size).all fun _ => true) = true from List.all_eq_true.mpr fun _ _ => rfl] at R
    exact R _ _ _ _ ⟨.bl false, H, I, rfl, q⟩
theorem op_eqS (hu : X.A.units + 64 < cLine) : OpR X (compareOp .Eq) (rEqS X.K) := by
  intro pins s σ H x y v u Q I rx ry h
  obtain ⟨a, b, xs, ys, rfl, rfl, ha, hb, h⟩ := h
  cases rx
  cases ry
  obtain ⟨us, r1, p1, _⟩ := I.list ha
  obtain ⟨ws, r2, p2, _⟩ := I.list hb
  have l1 := r1.length
  have l2 := r2.length
  rcases h with ⟨hne, q⟩ | ⟨rfl, hs, q⟩
  · exact SeqAt.RcAt.lists_lengths p1.isList p2.isList (by rw [bne_iff_ne, List.size_toArray, List.size_toArray]; omega) (by omega) _ _ _ _ ⟨.bl false, H, I, rfl, q⟩
  · have hsz : us.toArray.size = ws.toArray.size := by rw [List.size_toArray, List.size_toArray]; omega
    have R := SeqAt.RcAt.lists (e := fun _ => true) p1.isList p2.isList hsz (show X.A.units < cLine by omega) (fun j h1 h2 => by
      have := smI_at (A := X.A.in1) (s := s) hs r1 r2 j (by simpa using h1) (by simpa using h2)
      simpa using this)
    rw [show ((List.range us.toArray.size).all fun _ => true) = true from List.all_eq_true.mpr fun _ _ => rfl] at R
    exact R _ _ _ _ ⟨.bl true, H, I, rfl, q⟩
end
end Lf
namespace Lf
open PySem PySem.Spec PyProof.Rows L2
def t3 (d : Rec) : T3 := (0, d.t, d.n)
def loR (ds : List Rec) : List Rec := ds.filter fun d => d.lo
def hiR (ds : List Rec) : List Rec := ds.filter fun d => !d.lo
def S3 (ds : List Rec) : T3 → T3 → Prop := fun x y => x ∈ (loR ds).map t3 ∧ y ∈ (hiR ds).map t3
theorem filt_take {f : Rec → Bool} {ds : List Rec} {i : Nat} {d : Rec} (e : ds[i]? = some d) : (ds.take (i + 1)).filter f = (ds.take i).filter f ++ (if f d = true then [d] else []) := by
  rw [List.take_add_one, e, List.filter_append]
  congr 1
  show List.filter f [d] = _
  cases h : f d with
  | true => simp [h]
  | false => simp [h]
theorem cov1 (ds : List Rec) : Cov (SD ds) (S3 ds) := by
  rintro x y ⟨h1, h2⟩
  obtain ⟨i, d, e, hb, rfl⟩ := sel_mem h1
  obtain ⟨j, d', e', hb', rfl⟩ := sel_mem h2
  refine ⟨t3 d, t3 d', ⟨List.mem_map.mpr ⟨d, List.mem_filter.mpr ⟨List.mem_of_getElem? e, hb⟩, rfl⟩, List.mem_map.mpr ⟨d', List.mem_filter.mpr ⟨List.mem_of_getElem? e', by rw [hb']; rfl⟩, rfl⟩⟩, rfl, rfl⟩
theorem cov2 (ds : List Rec) : Cov (S3 ds) (SD ds) := by
  rintro x y ⟨h1, h2⟩
  obtain ⟨d, hd, rfl⟩ := List.mem_map.mp h1
  obtain ⟨d', hd', rfl⟩ := List.mem_map.mp h2
  obtain ⟨m1, g1⟩ := List.mem_filter.mp hd
  obtain ⟨m2, g2⟩ := List.mem_filter.mp hd'
  obtain ⟨i, e⟩ := List.mem_iff_getElem?.mp m1
  obtain ⟨j, e'⟩ := List.mem_iff_getElem?.mp m2
  have g2 : d'.lo = false := by
    cases h : d'.lo with
    | false => rfl
    | true =>
      rw [h] at g2
      cases g2
  exact ⟨_, _, ⟨mem_sel e g1 0, mem_sel e' g2 0⟩, rfl, rfl⟩
def PrV2 (H : Hp) (v : V) : Option T4 → Prop
  | none => v = .non
  | some z => ∃ r, v = .ref r ∧ H r = some (tup2 z.1 z.2.1)
theorem PrV2.same {H H' : Hp} {v : V} {o : Option T4} (h : PrV2 H v o) (s : Same H H') : PrV2 H' v o := by
  cases o with
  | none => exact h
  | some z =>
    obtain ⟨r, e, h⟩ := h
    exact ⟨r, e, s _ _ h⟩
theorem lo_step {S : T3 → T3 → Prop} (h : ∃ o, LoOk S o) (x y : T3) : ∃ o, LoOk (ad S x y) o := by
  obtain ⟨o, h⟩ := h
  by_cases c : y.2.1 < x.2.1
  · cases o with
    | none => exact ⟨_, h.first c⟩
    | some z =>
      rcases Int.lt_or_le (z.1 * (x.2.1 - y.2.1)) ((x.2.2 - y.2.2 - 1) * z.2.1) with g | g
      · exact ⟨_, h.upd c g⟩
      · exact ⟨_, h.keep g⟩
  · exact ⟨_, h.skip c⟩
theorem up_step {S : T3 → T3 → Prop} (h : ∃ o, UpOk S o) (x y : T3) : ∃ o, UpOk (ad S x y) o := by
  obtain ⟨o, h⟩ := h
  by_cases c : uc x y
  · cases o with
    | none => exact ⟨_, h.first c⟩
    | some z =>
      rcases Int.lt_or_le ((y.2.2 + 1 - x.2.2) * z.2.1) (z.1 * bot x y) with g | g
      · exact ⟨_, h.upd c g⟩
      · exact ⟨_, h.keep g⟩
  · exact ⟨_, h.skip c⟩
theorem ends_list (l : List (T3 × T3)) : (∃ o, LoOk (fun x y => (x, y) ∈ l) o) ∧ ∃ o, UpOk (fun x y => (x, y) ∈ l) o := by
  induction l with
  | nil => exact ⟨⟨none, fun _ _ h => (nomatch h)⟩, ⟨none, fun _ _ h => (nomatch h)⟩⟩
  | cons a r ih =>
    have e : ∀ x y : T3, ad (fun x y => (x, y) ∈ r) a.1 a.2 x y ↔ (x, y) ∈ a :: r := fun x y => by
      rw [List.mem_cons]
      constructor
      · rintro (h | ⟨rfl, rfl⟩)
        · exact .inr h
        · exact .inl rfl
      · rintro (h | h)
        · refine .inr ⟨?_, ?_⟩ <;> rw [← h]
        · exact .inl h
    obtain ⟨o1, h1⟩ := lo_step ih.1 a.1 a.2
    obtain ⟨o2, h2⟩ := up_step ih.2 a.1 a.2
    exact ⟨⟨o1, h1.congr e⟩, ⟨o2, h2.congr e⟩⟩
theorem ends_prod (as bs : List T3) : ∃ lo up, LoOk (fun x y => x ∈ as ∧ y ∈ bs) lo ∧ UpOk (fun x y => x ∈ as ∧ y ∈ bs) up := by
  obtain ⟨⟨lo, h1⟩, ⟨up, h2⟩⟩ := ends_list (as.flatMap fun x => bs.map fun y => (x, y))
  have e : ∀ x y : T3, (x, y) ∈ (as.flatMap fun x => bs.map fun y => (x, y)) ↔ (x ∈ as ∧ y ∈ bs) := fun x y => by
    rw [List.mem_flatMap]
    constructor
    · rintro ⟨x', hx, h⟩
      obtain ⟨y', hy, h⟩ := List.mem_map.mp h
      cases h
      exact ⟨hx, hy⟩
    · rintro ⟨hx, hy⟩
      exact ⟨x, hx, List.mem_map.mpr ⟨y, hy, rfl⟩⟩
  exact ⟨lo, up, h1.congr e, h2.congr e⟩
theorem ends_ex (ds : List Rec) : ∃ lo up, LoOk (SD ds) lo ∧ UpOk (SD ds) up := ends_prod _ _
end Lf
namespace Lf
open PySem PySem.Spec PyProof.Rows L2
/-! ### a bound of -1 beside those of the pairs -/
def xm : T3 := (0, 1, 0)
def ym : T3 := (0, 0, 0)
theorem cov_refl (S : T3 → T3 → Prop) : Cov S S := fun x y s => ⟨x, y, s, rfl, rfl⟩
theorem lo_ext {S : T3 → T3 → Prop} {z : T4} {lo : Option T4} (h : LoOk (ad S xm ym) (some z)) (hl : LoOk S lo) :
    lowE (some z) = lowE lo ∧ ∀ up : Option T4, (∀ g, up = some g → 1 ≤ g.2.1) → nr (some z) up = nr lo up := by
  have dz := h.den z rfl
  by_cases c : z.1 < 0
  · have ln : ∀ l, lo = some l → l.1 < 0 := fun l e => by
      subst e
      obtain ⟨⟨x, y, s, g, e⟩, _⟩ := hl
      have h2 := h.2 x y (.inl s) g
      have p := Int.mul_lt_mul_of_pos_right c (show 0 < x.2.1 - y.2.1 by omega)
      rw [Int.zero_mul] at p
      have q : (x.2.2 - y.2.2 - 1) * z.2.1 < 0 := by omega
      rw [e]
      show x.2.2 - y.2.2 - 1 < 0
      rcases Int.lt_or_le (x.2.2 - y.2.2 - 1) 0 with g | g
      · exact g
      · have := Int.mul_nonneg g (show 0 ≤ z.2.1 by omega)
        omega
    have key : ∀ (l : T4) (g : T4), l.1 < 0 → 1 ≤ l.2.1 → 1 ≤ g.2.1 → (decide (g.1 ≤ 0) || decide (g.1 * l.2.1 ≤ l.1 * g.2.1)) = decide (g.1 ≤ 0) := fun l g h1 h2 h3 => by
      by_cases q : g.1 ≤ 0
      · rw [decide_eq_true q]
        rfl
      · rw [decide_eq_false q, Bool.false_or]
        refine decide_eq_false fun u => ?_
        have a := Int.mul_pos (show 0 < g.1 by omega) (show 0 < l.2.1 by omega)
        have b := Int.mul_lt_mul_of_pos_right h1 (show 0 < g.2.1 by omega)
        rw [Int.zero_mul] at b
        omega
    refine ⟨?_, fun up du => ?_⟩
    · show (if z.1 < 0 then none else some (redE z)) = _
      rw [if_pos c]
      cases lo with
      | none => rfl
      | some l =>
        show none = (if l.1 < 0 then none else some (redE l))
        rw [if_pos (ln l rfl)]
    · cases up with
      | none => cases lo <;> rfl
      | some g =>
        have dg := du g rfl
        show (decide (g.1 ≤ 0) || decide (g.1 * z.2.1 ≤ z.1 * g.2.1)) = _
        rw [key z g c dz dg]
        cases lo with
        | none => rfl
        | some l => exact (key l g (ln l rfl) (hl.den l rfl) dg).symm
  · have hz : LoOk S (some z) := by
      obtain ⟨⟨x, y, s, g, e⟩, h2⟩ := h
      refine ⟨⟨x, y, ?_, g, e⟩, fun x y s g => h2 x y (.inl s) g⟩
      rcases s with s | ⟨rfl, rfl⟩
      · exact s
      · exact absurd (show z.1 < 0 by rw [e]; decide) c
    have sf := lo_same hz hl (cov_refl S) (cov_refl S)
    refine ⟨lowE_same sf, fun up du => nr_same sf ?_⟩
    cases up with
    | none => trivial
    | some g => exact ⟨rfl, du g rfl, du g rfl⟩
end Lf
namespace Lf
open PySem PySem.Spec PyProof.Rows L2
theorem sim_ex {k : Nat} {p q t b : Int} (I : Iv k p q t b) : ∃ N D, Sim p q t b N D := by
  have aux : ∀ (n : Nat) (p q t b : Int), Iv k p q t b → (q + b).toNat ≤ n → ∃ N D, Sim p q t b N D := by
    intro n
    induction n with
    | zero =>
      intro p q t b I h
      have := I.q1
      have := I.b0
      omega
    | succ n ih =>
      intro p q t b I h
      by_cases c : (p / q + 1) * b < t
      · exact ⟨_, _, sim_base I.p0 I.q1 c⟩
      · obtain ⟨J, b1, h3, h4⟩ := I.next (show t ≤ (p / q + 1) * b by omega)
        have := J.b0
        have := J.q1
        obtain ⟨N, D, s⟩ := ih _ _ _ _ J (by omega)
        exact ⟨_, _, sim_step I.p0 I.q1 s⟩
  exact aux _ p q t b I (Nat.le_refl _)
theorem Sim.uniq {p q t b N D N' D' : Int} (s : Sim p q t b N D) (s' : Sim p q t b N' D') : N = N' ∧ D = D' := by
  have h1 := s.mi _ _ s'.d1 s'.bt
  have h2 := s'.mi _ _ s.d1 s.bt
  omega
theorem resE_uniq {e1 e2 : Option (Int × Int)} {N D N' D' : Int} (s : ResE e1 e2 N D) (s' : ResE e1 e2 N' D') : N = N' ∧ D = D' := by
  match e1, e2, s, s' with
  | none, _, ⟨a, b⟩, ⟨c, d⟩ => omega
  | some l, some h, s, s' => exact Sim.uniq s s'
  | some l, none, s, s' => exact Sim.uniq s s'
end Lf
namespace Lf
open PySem PySem.Spec PyProof.Rows L2
/-! ### the rule that fits, and what follows -/
theorem opp_opp (d : Rec) : opp (opp d) = d := by
  obtain ⟨lo, t, n⟩ := d
  cases lo
  · show Rec.mk false t (n + 1 - 1) = _
    rw [show n + 1 - 1 = n by omega]
  · show Rec.mk true t (n - 1 + 1) = _
    rw [show n - 1 + 1 = n by omega]
theorem fit_opp {p q c : Int} (d : Rec) : fitB p q c (opp d) = !fitB p q c d := by
  obtain ⟨lo, t, n⟩ := d
  cases lo
  · show decide (n + 1 ≤ (p * t + c) / q) = !decide ((p * t + c) / q ≤ n)
    rw [Bool.eq_iff_iff]
    simp
    omega
  · show decide ((p * t + c) / q ≤ n - 1) = !decide (n ≤ (p * t + c) / q)
    rw [Bool.eq_iff_iff]
    simp
    omega
theorem opp_bd {k : Nat} {d : Rec} (k0 : 0 < k) (h : Bd k d.t ∧ Bd k d.n) : Bd (k + 1) (opp d).t ∧ Bd (k + 1) (opp d).n := by
  refine ⟨h.1.mono (by omega), ?_⟩
  show Bd (k + 1) (if d.lo = true then d.n - 1 else d.n + 1)
  by_cases c : d.lo = true
  · rw [if_pos c]
    exact Bd.sub h.2 (Bd.small 1 (by decide) k0)
  · rw [if_neg c]
    exact Bd.add h.2 (Bd.small 1 (by decide) k0)
/-- a rule that fits shows that there is no conflict -/
theorem fits_m {p q c : Int} {ds : List Rec} (hq : 1 ≤ q) (h : ds.all (fitB p q c) = true) : FitM ds p q := by
  rw [List.all_eq_true] at h
  intro d hd e he ld le
  have h1 := (fit_lo hq ld).mp (h d hd)
  have h2 := (fit_hi hq le).mp (h e he)
  rw [Int.mul_sub, Int.sub_mul (e.n + 1)]
  omega
theorem fits_nc {p q c : Int} {ds : List Rec} (hp : 0 ≤ p) (hq : 1 ≤ q) (h : ds.all (fitB p q c) = true) : ¬ Cf ds := fun z => z p q hp hq (fits_m hq h)
theorem sim_gcd {p q t b N D : Int} (s : Sim p q t b N D) : Int.gcd N D = 1 := by
  obtain ⟨d1, n1, ⟨b1, b2⟩, mi⟩ := s
  have g0 : 0 < (Int.gcd N D : Int) := gcd_pos d1
  have eN : (Int.gcd N D : Int) * (N / (Int.gcd N D : Int)) = N := Int.mul_ediv_cancel' (Int.gcd_dvd_left ..)
  have eD : (Int.gcd N D : Int) * (D / (Int.gcd N D : Int)) = D := Int.mul_ediv_cancel' (Int.gcd_dvd_right ..)
  have key : (Int.gcd N D : Int) = 1 := by
    generalize (Int.gcd N D : Int) = g at *
    generalize N / g = n' at *
    generalize D / g = d' at *
    have hd' : 1 ≤ d' := by
      have : 0 < d' * g := by
        rw [Int.mul_comm]
        omega
      have := pos_of_mul this (by omega)
      omega
    have h := (mi n' d' hd' ⟨?_, ?_⟩).1
    · have e : g * d' ≤ 1 * d' := by omega
      have := Int.le_of_mul_le_mul_right e (by omega)
      omega
    · refine Int.lt_of_mul_lt_mul_left (a := g) ?_ (by omega)
      have e1 : g * (p * d') = p * (g * d') := by grind
      have e2 : g * (n' * q) = g * n' * q := by grind
      rw [e1, e2, eN, eD]
      exact b1
    · refine Int.lt_of_mul_lt_mul_left (a := g) ?_ (by omega)
      have e1 : g * (n' * b) = g * n' * b := by grind
      have e2 : g * (t * d') = t * (g * d') := by grind
      rw [e1, e2, eN, eD]
      exact b2
  omega
theorem ends_ok {S : T3 → T3 → Prop} {lo up : Option T4} (hl : LoOk S lo) (hu : UpOk S up) (h : nr lo up = false) : OkE (lowE lo) (highE up) := by
  cases up with
  | none =>
    show OkE (lowE lo) none
    cases lowE lo <;> trivial
  | some z =>
    have dz := hu.den z rfl
    have pz : 0 < z.1 := by
      rcases Int.lt_or_le 0 z.1 with g | g
      · exact g
      · exfalso
        cases lo with
        | none =>
          have h : decide (z.1 ≤ 0) = false := h
          rw [decide_eq_true g] at h
          cases h
        | some l =>
          have h : (decide (z.1 ≤ 0) || decide (z.1 * l.2.1 ≤ l.1 * z.2.1)) = false := h
          rw [decide_eq_true g] at h
          cases h
    have up0 : 0 < (redE z).1 := by
      have := (red_lt_iff (p := 0) (q := 1) dz).2.mpr (by omega)
      omega
    cases lo with
    | none => exact up0
    | some l =>
      have dl := hl.den l rfl
      show OkE (if l.1 < 0 then none else some (redE l)) (some (redE z))
      by_cases c : l.1 < 0
      · rw [if_pos c]
        exact up0
      · rw [if_neg c]
        have h : (decide (z.1 ≤ 0) || decide (z.1 * l.2.1 ≤ l.1 * z.2.1)) = false := h
        rw [decide_eq_false (show ¬ z.1 ≤ 0 by omega), Bool.false_or] at h
        have h := of_decide_eq_false h
        exact (red_lt_iff (p := (redE z).1) (q := (redE z).2) dl).1.mpr ((red_lt_iff (p := l.1) (q := l.2.1) dz).2.mpr (by omega))
theorem res_ins {e1 e2 : Option (Int × Int)} {N D : Int} (ok : OkE e1 e2) (h : ResE e1 e2 N D) : 0 ≤ N ∧ 1 ≤ D ∧ Int.gcd N D = 1 ∧ Ins e1 e2 N D := by
  match e1, e2, ok, h with
  | none, none, _, ⟨h1, h2⟩ =>
    subst h1 h2
    exact ⟨by omega, by omega, by decide, fun z e => (nomatch e), fun z e => (nomatch e)⟩
  | none, some t, ok, ⟨h1, h2⟩ =>
    subst h1 h2
    have ok : 0 < t.1 := ok
    refine ⟨by omega, by omega, by decide, fun z e => (nomatch e), fun z e => ?_⟩
    cases e
    omega
  | some l, none, _, h =>
    have h : Sim l.1 l.2 1 0 N D := h
    refine ⟨by have := h.n1; omega, h.d1, sim_gcd h, fun z e => ?_, fun z e => (nomatch e)⟩
    cases e
    exact h.bt.1
  | some l, some t, _, h =>
    have h : Sim l.1 l.2 t.1 t.2 N D := h
    refine ⟨by have := h.n1; omega, h.d1, sim_gcd h, fun z e => ?_, fun z e => ?_⟩
    · cases e
      exact h.bt.1
    · cases e
      exact h.bt.2
end Lf
namespace Lf
open PySem PySem.Spec PyProof.Rows L2
/-- what the top tells of an own exception that keeps nothing -/
structure OwnE (K : PySem.W.Frag) (mg : Str → Option Value) (nm : Str) (C : Addr) : Prop where
  gC : mg nm = some (.ref C)
  kC : PySem.W.keepIn K (.ref C) = true
  xi : PySem.W.excIn K C [.type "ValueError", .type "Exception", .type "BaseException", .type "object"] "ValueError.__new__" = true
  ex : ExcC K C
  ty : PySem.W.typeIn K (.ref C) = some (.type "type")
  sf : PySem.W.subIn K (.ref C) (.ref C) = some true
theorem OwnE.raises {X : Cx} {C : Addr} {nm : Str} (T : OwnE X.K X.mg nm C) : Raises X (.ref C) := raises_own T.ex.hs T.ty
/-! ### a try that may return, or raise what is kept in a name -/
section
variable {X : Cx} {x n : Str} {c : Value} {i : Nat} {body suite rest : List Stmt} {b0 : Stmt} {np po pq : Pos} {tb : WX → TS} {ts : Addr → TS} {tr : Addr → Value → Option Addr → TS}
theorem pss_keepR (stk : X.stack = X.env :: X.outer) (fr : X.env.frame = some X.env.locals) (nd : X.N.Nodup) (ni : X.N[i]? = some n) (kn : X.env.kindOf n = some .local) (hc : Names X x c)
    (hb : ∀ (W : WX) (pn : List (Addr × Obj)) (xe : Value → Shared → Prop), Takes (X.tr pn xe) W → PSs (X.tr pn xe) body (tb W))
    (hsu : ∀ (a : Addr) (oe : Obj) (pn : List (Addr × Obj)), PSs (X.suite a ((a, oe) :: pn)) (b0 :: suite) (ts a))
    (hre : ∀ (a : Addr) (oe : Obj) (cls : Value) (d : Option Addr) (pn : List (Addr × Obj)), Zc cls d oe → (∃ vs, oe.data = .fields vs) → PSs (X.tr ((a, oe) :: pn) X.xe) rest (tr a cls d)) :
    PSs X (.Try body [.ExceptHandler (some (.Name x np)) (some n) (b0 :: suite) pq] [] [] po :: rest) (fun D σ H => tb (wKeep X.K c i ts (fun a cls d σ' H' => tr a cls d D σ' H')) { nx := fun _ _ => False, rt := D.rt } σ H) := by
  refine ⟨fun pins s σ H D I h => wpAny_execs_cons (wpAny_Try_except ?_)⟩
  have ok := I.ok
  have frm : X.A.frames = some (X.env :: X.outer) := by rw [ok.frames, stk]
  refine wpAny_mono ((hb (wKeep X.K c i ts (fun a cls d σ' H' => tr a cls d D σ' H')) (X.pn ++ pins) _ (fun u s' air => ?_)).run [] s σ H { nx := fun _ _ => False, rt := D.rt } (I.toTry _) h) (fun f s1 z => ?_) (fun e s1 he => he)
  · obtain ⟨a, B, sI, pins', σ1, H1, cls, d, rfl, J0, nb, up, sky, na, os, ag, em, go⟩ := air
    have J : Inv X pins σ1 H1 sI := J0.ofTry ok
    rw [stk] at sky
    refine Sky.land Zc.steady frm fr sky fun h3 f3 u3 => ?_
    have J3 : Inv X pins σ1 H1 { s' with heap := h3 } := J.landed nb f3.1 (up.trans u3) os ag
    obtain ⟨o3, v3, g3, z3, d3⟩ := f3.there
    have nf : a ∉ frs (X.env :: X.outer) := fun hm => by
      obtain ⟨_, o', e', hn⟩ := f3.2.2.1.mem hm
      rw [g3] at e'
      cases e'
      exact hn _ d3
    have n1 : a ≠ X.env.locals := fun z => nf (List.mem_filterMap.mpr ⟨X.env, List.mem_cons_self, by rw [fr, z]⟩)
    have n2 : a ∉ X.fs := fun hm => by
      obtain ⟨e, he, q⟩ := List.mem_filterMap.mp hm
      exact nf (List.mem_filterMap.mpr ⟨e, List.mem_cons_of_mem _ he, q⟩)
    have S3 := J3.suite g3 d3 na n1 n2
    refine wpAny_handleBy_cons (codeAny_handlers_test ?_) (by intro q; cases q)
    have lt : PySem.W.Looks (model X.prog X.w) h3 (typeOf (.ref a)) cls := fun A Q E s k q => wpAny_typeOf_ref (k _ _ g3) (by rw [z3.1]; exact q)
    have lm := PySem.W.exm_one (M := model X.prog X.w) J3.kIn lt em
    have seen : ∀ {Q : Value → Shared → Prop} {E : Value → Shared → Prop}, Q c { s' with heap := h3 } → wpAny (model X.prog X.w) (X.A.mark (some (.ref a))) (eval (.Name x np) X.env) Q E { s' with heap := h3 } := fun {Q E} q => by
      obtain ⟨hg, hd, hm | ⟨hm, hv, hw⟩⟩ := hc
      · exact ld_glob S3 hg hm q hd
      · exact ld_blt S3 hg hm hv q hw hd
    refine seen (lm.here (codeAny_handlers_suite_as (HandSPX.lands_againZ f3 fun h4 f4 u4 => ?_)))
    have J4 : Inv X pins σ1 H1 { s' with heap := h4 } := J.landed nb f4.1 ((up.trans u3).trans u4) os ag
    obtain ⟨o4, v4, g4, z4, d4⟩ := f4.there
    have S4 := J4.suite g4 d4 na n1 n2
    refine store_ok (X := X.suite a ((a, o4) :: (X.pn ++ pins))) (v := .ref a) S4 nd ni (.inl kn) rfl (fun s5 S5 => ?_) (.inr kn)
    refine wpAny_mono ((hsu a o4 (X.pn ++ pins)).run [] s5 _ H1 _ S5 (go a na)) (fun f s6 q => ?_) (fun _ _ z => False.elim z)
    cases f with
    | next =>
      obtain ⟨σ6, H6, S6, q6⟩ := q
      refine gone_ok (X := X.tr ((a, o4) :: (X.pn ++ pins)) X.xe) (out_suite ok S6) nd ni kn fun s7 J7 => ?_
      refine wpAny_mono ((hre a o4 cls d (X.pn ++ pins) z4 ⟨_, d4⟩).run [] s7 _ H6 D J7 q6) (fun f s8 r => ?_) (fun _ _ z => z)
      cases f with
      | next =>
        obtain ⟨σ8, H8, J8, q8⟩ := r
        exact ⟨σ8, H8, pin_out ok J8, q8⟩
      | brk =>
        obtain ⟨σ8, H8, J8, q8⟩ := r
        exact ⟨σ8, H8, pin_out ok J8, q8⟩
      | cont =>
        obtain ⟨σ8, H8, J8, q8⟩ := r
        exact ⟨σ8, H8, pin_out ok J8, q8⟩
      | ret u =>
        obtain ⟨v8, σ8, H8, J8, r8, q8⟩ := r
        exact ⟨v8, σ8, H8, pin_out ok J8, r8, q8⟩
    | brk =>
      obtain ⟨_, _, _, q6⟩ := q
      exact False.elim q6
    | cont =>
      obtain ⟨_, _, _, q6⟩ := q
      exact False.elim q6
    | ret u =>
      obtain ⟨_, _, _, _, _, q6⟩ := q
      exact False.elim q6
  · cases f with
    | next =>
      obtain ⟨_, _, _, q6⟩ := z
      exact False.elim q6
    | brk =>
      obtain ⟨_, _, _, q6⟩ := z
      exact False.elim q6
    | cont =>
      obtain ⟨_, _, _, q6⟩ := z
      exact False.elim q6
    | ret u =>
      obtain ⟨v8, σ8, H8, J8, r8, q8⟩ := z
      exact ⟨v8, σ8, H8, J8.ofTry ok, r8, q8⟩
end
/-- what is never reached needs no rule -/
def tNo1 : TE := fun _ _ _ => False
theorem pe_no {X : Cx} {e : Expr} : PE X e tNo1 := ⟨fun _ _ _ _ _ _ h => h.elim⟩
def tNoS : TS := fun _ _ _ => False
theorem pss_no {X : Cx} {b : List Stmt} : PSs X b tNoS := ⟨fun _ _ _ _ _ _ h => h.elim⟩
end Lf
namespace Lf
open PySem PySem.Spec PyProof.Rows L2
/-! ### the least rule -/
def cOf : Option Int → Option Int → Int
  | some x, _ => x
  | none, some y => y
  | none, none => 0
structure LeastR (ds : List Rec) (p q c : Int) : Prop where
  ends : ∃ lo up, LoOk (SD ds) lo ∧ UpOk (SD ds) up ∧ nr lo up = false ∧ ResE (lowE lo) (highE up) p q
  ph : ∃ a b, IsMx (lph p q ds) a ∧ IsMn (hph p q ds) b ∧ okPh a b = true ∧ c = cOf a b
theorem LeastR.uniq {ds : List Rec} {p q c p' q' c' : Int} (h : LeastR ds p q c) (h' : LeastR ds p' q' c') : p = p' ∧ q = q' ∧ c = c' := by
  obtain ⟨⟨lo, up, h1, h2, _, h3⟩, a, b, ha, hb, _, rfl⟩ := h
  obtain ⟨⟨lo', up', h1', h2', _, h3'⟩, a', b', ha', hb', _, rfl⟩ := h'
  rw [lowE_same (lo_same h1 h1' (cov_refl _) (cov_refl _)), highE_same (up_same h2 h2' (cov_refl _) (cov_refl _))] at h3
  obtain ⟨rfl, rfl⟩ := resE_uniq h3 h3'
  rw [mx_uniq ha ha', mn_uniq hb hb']
  exact ⟨rfl, rfl, rfl⟩
section
variable {P : Program} {w : World} {K : PySem.W.Frag} {mg : Str → Option Value} {base : Heap} {CN : Addr}
def spFitE : Sp := fun vs H Q _ => ∃ (L : Addr) (kb : Bool) (xs : List V) (ds : List Rec) (k : Nat), vs = [.ref L] ∧ H L = some (sqO kb xs) ∧ Obs rcO H xs ds ∧ ds.length ≤ 1000 ∧ RcB k ds ∧ 0 < k ∧ k ≤ 8000 ∧ ¬ Cf ds ∧
  ∀ H' T a b lo up, Same H H' → LoOk (SD ds) lo → UpOk (SD ds) up → nr lo up = false → H' T = some (.tup [a, b]) → EndV H' (k + 2) a (lowE lo) → EndV H' (k + 2) b (highE up) → PB k lo → PB k up → Q (.ref T) H'
abbrev s_fitting_ends : Stmt := topS 39
abbrev N_fitting_ends : List Str := ["records", "ends"]
abbrev P_fitting_ends : List Str := ["records"]
theorem sc_fitting_ends : FnScope N_fitting_ends P_fitting_ends (defScope s_fitting_ends) := ⟨rfl, rfl, rfl, by decide +kernel, rfl, by decide +kernel, by decide +kernel⟩
theorem ok_fitting_ends (D : Df K mg "fitting_ends" s_fitting_ends P_fitting_ends) (c_rate_ends : C8.Cal P w K mg base 3 "rate_ends" (spRateEndsS 1000) []) : C8.Cal P w K mg base 4 "fitting_ends" spFitE [] := by
  refine cal_of D sc_fitting_ends (fun vs H Q E h => ?_) (fun f cdv A outer s H vs Q E hr h => ?_)
  · obtain ⟨L, kb, xs, ds, k, rfl, _⟩ := h
    rfl
  · obtain ⟨L, kb, xs, ds, k, rfl, eL, hO, hl, bd, k0, k1, nc, kk⟩ := h
    refine ⟨_, (pss_cons (ps_set (i := 1) sc_fitting_ends.nd rfl (Or.inl rfl) (C8.pe_c c_rate_ends hr (by decide) (by rfl) (pa_cons (pv 0) pa_nil)))
    (pss_cons (ps_if (pt_cmpR op_isN (pv 1) pe_non (nomark _))
      (pss_one ps_never)
      pss_nil)
    (pss_one (ps_ret (pv 1))))), ?_⟩
    refine ⟨_, rfl, L, kb, xs, ds, k, rfl, eL, hO, hl, bd, k0, k1, fun H1 v lo up s1 hlo hup bl bu rv => ?_⟩
    rcases rv with ⟨h1, _⟩ | ⟨h1, T, a, b, rfl, eT, g1, g2⟩
    · exact absurd ((nr_cf hlo hup).mp h1) nc
    · refine ⟨_, rfl, rfl, _, rfl, iteF ?_⟩
      exact ⟨_, rfl, kk H1 T a b lo up s1 hlo hup h1 eT g1 g2 bl bu⟩
/-- where no rule fits: NoRule -/
def spNoR (m : Nat) (CN : Addr) : Sp := fun vs H _ E => ∃ (L : Addr) (kb : Bool) (xs : List V) (ds : List Rec) (k : Nat), vs = [.ref L] ∧ H L = some (sqO kb xs) ∧ Obs rcO H xs ds ∧ ds.length ≤ m ∧ RcB k ds ∧ 0 < k ∧ k ≤ 8000 ∧ Cf ds ∧ ∀ H', Same H H' → E (.ref CN) none H'
theorem okx_fitting_ends (D : Df K mg "fitting_ends" s_fitting_ends P_fitting_ends) (T : OwnE K mg "NoRule" CN) (c_rate_ends : C8.Cal P w K mg base 3 "rate_ends" (spRateEndsS 1000) []) : CalX P w K mg base 4 "fitting_ends" (spNoR 1000 CN) := by
  refine calx_of D sc_fitting_ends (fun vs H Q E h => ?_) (fun f cdv A outer s H vs Q E hr h => ?_)
  · obtain ⟨L, kb, xs, ds, k, rfl, _⟩ := h
    rfl
  · obtain ⟨L, kb, xs, ds, k, rfl, eL, hO, hl, bd, k0, k1, hc, ke⟩ := h
    refine ⟨_, (pss_cons (ps_set (i := 1) sc_fitting_ends.nd rfl (Or.inl rfl) (C8.pe_c c_rate_ends hr (by decide) (by rfl) (pa_cons (pv 0) pa_nil)))
    (pss_cons (ps_if (pt_cmpR op_isN (pv 1) pe_non (nomark _))
      (pss_one (ps_raise rfl (takes_of rfl rfl rfl rfl) (pmk_none PySem.F.excBase_ValueError T.xi T.gC T.kC T.raises rfl)))
      pss_nil)
    (pss_one (ps_ret (pv 1))))), ?_⟩
    refine ⟨_, rfl, L, kb, xs, ds, k, rfl, eL, hO, hl, bd, k0, k1, fun H1 v lo up s1 hlo hup _ _ rv => ?_⟩
    rcases rv with ⟨h1, rfl⟩ | ⟨h1, _⟩
    · refine ⟨_, rfl, rfl, _, rfl, iteT ?_⟩
      exact ke H1 s1
    · rw [(nr_cf hlo hup).mpr hc] at h1
      cases h1
def spFitR (m : Nat) : Sp := fun vs H Q _ => ∃ (L : Addr) (kb : Bool) (xs : List V) (ds : List Rec) (k : Nat), vs = [.ref L] ∧ H L = some (sqO kb xs) ∧ Obs rcO H xs ds ∧ ds.length ≤ m ∧ RcB k ds ∧ 0 < k ∧ k ≤ 1900 ∧ ¬ Cf ds ∧
  ∀ H' r p q c, Same H H' → H' r = some (.tup [.int p, .int q, .int c]) → RuleB (2 * k + 10) p q c → ds.all (fitB p q c) = true → LeastR ds p q c → Q (.ref r) H'
abbrev s_fitting_rule : Stmt := topS 41
abbrev N_fitting_rule : List Str := ["records", "low", "high", "p", "q", "least", "greatest"]
abbrev P_fitting_rule : List Str := ["records"]
theorem sc_fitting_rule : FnScope N_fitting_rule P_fitting_rule (defScope s_fitting_rule) := ⟨rfl, rfl, rfl, by decide +kernel, rfl, by decide +kernel, by decide +kernel⟩
theorem ok_fitting_rule (D : Df K mg "fitting_rule" s_fitting_rule P_fitting_rule) (c_fitting_ends : C8.Cal P w K mg base 4 "fitting_ends" spFitE []) (c_simplest_between : C8.Cal P w K mg base 4 "simplest_between" spSB []) (c_phase_ends : C8.Cal P w K mg base 2 "phase_ends" spPhES []) : C8.Cal P w K mg base 5 "fitting_rule" (spFitR 1000) [] := by
  refine cal_of D sc_fitting_rule (fun vs H Q E h => ?_) (fun f cdv A outer s H vs Q E hr h => ?_)
  · obtain ⟨L, kb, xs, ds, k, rfl, _⟩ := h
    rfl
  · obtain ⟨L, kb, xs, ds, k, rfl, eL, hO, hl, bd, k0, k1, nc, kk⟩ := h
    refine ⟨_, (pss_cons (ps_asg (C8.pe_c c_fitting_ends hr (by decide) (by rfl) (pa_cons (pv 0) pa_nil)) (pg_tup rfl (pgs_cons (pg_name (i := 1) sc_fitting_rule.nd rfl (Or.inl rfl)) (pgs_cons (pg_name (i := 2) sc_fitting_rule.nd rfl (Or.inl rfl)) pgs_nil))))
    (pss_cons (ps_asg (C8.pe_c c_simplest_between hr (by decide) (by rfl) (pa_cons (pv 1) (pa_cons (pv 2) pa_nil))) (pg_tup rfl (pgs_cons (pg_name (i := 3) sc_fitting_rule.nd rfl (Or.inl rfl)) (pgs_cons (pg_name (i := 4) sc_fitting_rule.nd rfl (Or.inl rfl)) pgs_nil))))
    (pss_cons (ps_asg (C8.pe_c c_phase_ends hr (by decide) (by rfl) (pa_cons (pv 0) (pa_cons (pe_tup (pa_cons (pv 3) (pa_cons (pv 4) pa_nil))) pa_nil))) (pg_tup rfl (pgs_cons (pg_name (i := 5) sc_fitting_rule.nd rfl (Or.inl rfl)) (pgs_cons (pg_name (i := 6) sc_fitting_rule.nd rfl (Or.inl rfl)) pgs_nil))))
    (pss_cons (ps_if (pt_cmpR op_notN (pv 5) pe_non (nomark _))
      (pss_one (ps_ret (pe_tup (pa_cons (pv 3) (pa_cons (pv 4) (pa_cons (pv 5) pa_nil))))))
      pss_nil)
    (pss_one (ps_ret (pe_tup (pa_cons (pv 3) (pa_cons (pv 4) (pa_cons (pe_ifExp (pt_cmpR op_isN (pv 6) pe_non (nomark _)) pe_int (pv 6)) pa_nil)))))))))), ?_⟩
    refine ⟨_, rfl, L, kb, xs, ds, k, rfl, eL, hO, hl, bd, k0, by omega, nc, fun H1 T va vb lo up s1 hlo hup hn eT g1 g2 _ _ => ?_⟩
    refine ⟨T, _, rfl, SqT.of eT, rfl, _, _, rfl, _, _, rfl, rfl, ?_⟩
    have ok := ends_ok hlo hup hn
    refine ⟨_, rfl, _, rfl, va, vb, _, _, k + 2, rfl, g1, g2, ok, by omega, by omega, fun r H2 N D s2 nr er res bN bD => ?_⟩
    refine ⟨r, _, rfl, SqT.of er, rfl, _, _, rfl, _, _, rfl, rfl, ?_⟩
    obtain ⟨n0, d1, hg, ins⟩ := res_ins ok res
    have fm := fitm_sd.mp ((rate_iff n0 d1 hlo hup).mpr ((ins_iff n0 d1 hlo hup).mp ins))
    refine ⟨_, rfl, _, rfl, _, rfl, len10 (by simp), fun t nt => ?_⟩
    have z := sm_upd (o := tup2 N D) nt
    have s3 := (s1.trans s2).trans z
    refine ⟨L, t, kb, xs, ds, N, D, k + 3, rfl, s3 _ _ eL, hO.same s3, hl, upd_same, bd.mono (by omega), bN, bD, by omega, by omega, fun T2 H4 a b s4 nT2 eT2 ha hb => ?_⟩
    have s5 := s3.trans s4
    refine ⟨T2, _, rfl, SqT.of eT2, rfl, _, _, rfl, _, _, rfl, rfl, ?_⟩
    have okp := (ph_iff ha hb).mpr (fitm_sd.mpr fm)
    have fin : ∀ c : Int, c = cOf a b → geO a c → leO b c → Bd (2 * k + 10) c → ∀ r', H4 r' = none → Q (.ref r') (upd H4 r' (.tup [.int N, .int D, .int c])) := fun c hc h1 h2 bc r' nr' =>
      kk _ r' N D c (s5.trans (sm_upd nr')) upd_same ⟨n0, d1, hg, bN.mono (by omega), bD.mono (by omega), bc⟩ ((fit_iff d1 ha hb).mpr ⟨h1, h2⟩) ⟨⟨lo, up, hlo, hup, hn, res⟩, a, b, ha, hb, okp, hc⟩
    have bd3 := bd.mono (show k ≤ k + 3 by omega)
    clear kk
    match a, b, ha, hb, okp, fin with
    | some x, b, ha, hb, okp, fin =>
      refine ⟨_, rfl, rfl, _, rfl, iteT ?_⟩
      refine ⟨_, rfl, _, rfl, _, rfl, len10 (by simp), fun r' nr' => ?_⟩
      refine fin x rfl (Int.le_refl _) ?_ ((mx_bd (by omega) bd3 bN bD ha).mono (by omega)) r' nr'
      match b, okp with
      | none, _ => trivial
      | some y, okp => exact of_decide_eq_true (p := _ ≤ y) okp
    | none, none, ha, hb, okp, fin =>
      refine ⟨_, rfl, rfl, _, rfl, iteF ?_⟩
      refine ⟨_, rfl, _, rfl, _, rfl, rfl, _, rfl, iteT ?_⟩
      exact ⟨len10 (by simp), fun r' nr' => fin 0 rfl trivial trivial (Bd.small 0 (by decide) (by omega)) r' nr'⟩
    | none, some y, ha, hb, okp, fin =>
      refine ⟨_, rfl, rfl, _, rfl, iteF ?_⟩
      refine ⟨_, rfl, _, rfl, _, rfl, rfl, _, rfl, iteF ?_⟩
      exact ⟨_, rfl, len10 (by simp), fun r' nr' => fin y rfl trivial (Int.le_refl _) ((mn_bd (by omega) bd3 bN bD hb).mono (by omega)) r' nr'⟩
theorem okx_fitting_rule (D : Df K mg "fitting_rule" s_fitting_rule P_fitting_rule) (cx_fitting_ends : CalX P w K mg base 4 "fitting_ends" (spNoR 1000 CN)) : CalX P w K mg base 5 "fitting_rule" (spNoR 1000 CN) := by
  refine calx_of D sc_fitting_rule (fun vs H Q E h => ?_) (fun f cdv A outer s H vs Q E hr h => ?_)
  · obtain ⟨L, kb, xs, ds, k, rfl, _⟩ := h
    rfl
  · obtain ⟨L, kb, xs, ds, k, rfl, eL, hO, hl, bd, k0, k1, hc, ke⟩ := h
    refine ⟨_, pss_cons (ps_asg (pe_cx cx_fitting_ends hr (by decide) (takes_of rfl rfl rfl rfl) (by rfl) (pa_cons (pv 0) pa_nil)) (pg_tup rfl (pgs_cons (pg_name (i := 1) sc_fitting_rule.nd rfl (Or.inl rfl)) (pgs_cons (pg_name (i := 2) sc_fitting_rule.nd rfl (Or.inl rfl)) pgs_nil)))) pss_no, ?_⟩
    exact ⟨_, rfl, L, kb, xs, ds, k, rfl, eL, hO, hl, bd, k0, k1, hc, ke⟩
abbrev s_least_rule : Stmt := topS 61
abbrev N_least_rule : List Str := ["records"]
abbrev P_least_rule : List Str := ["records"]
theorem sc_least_rule : FnScope N_least_rule P_least_rule (defScope s_least_rule) := ⟨rfl, rfl, rfl, by decide +kernel, rfl, by decide +kernel, by decide +kernel⟩
theorem ok_least_rule (D : Df K mg "least_rule" s_least_rule P_least_rule) (c_check_records : C8.Cal P w K mg base 3 "check_records" spCkS []) (c_fitting_rule : C8.Cal P w K mg base 5 "fitting_rule" (spFitR 1000) []) : C8.Cal P w K mg base 6 "least_rule" (spFitR 200) [] := by
  refine cal_of D sc_least_rule (fun vs H Q E h => ?_) (fun f cdv A outer s H vs Q E hr h => ?_)
  · obtain ⟨L, kb, xs, ds, k, rfl, _⟩ := h
    rfl
  · obtain ⟨L, kb, xs, ds, k, rfl, eL, hO, hl, bd, k0, k1, nc, kk⟩ := h
    refine ⟨_, (pss_cons (ps_expr (C8.pe_c c_check_records hr (by decide) (by rfl) (pa_cons (pv 0) pa_nil)))
    (pss_one (ps_ret (C8.pe_c c_fitting_rule hr (by decide) (by rfl) (pa_cons (pv 0) pa_nil))))), ?_⟩
    refine ⟨_, rfl, L, kb, xs, ds, rfl, eL, hO, hl, fun H1 s1 => ?_⟩
    exact ⟨_, rfl, L, kb, xs, ds, k, rfl, s1 _ _ eL, hO.same s1, by omega, bd, k0, k1, nc, fun H' r p q c s2 => kk H' r p q c (s1.trans s2)⟩
theorem okx_least_rule (D : Df K mg "least_rule" s_least_rule P_least_rule) (c_check_records : C8.Cal P w K mg base 3 "check_records" spCkS []) (cx_fitting_rule : CalX P w K mg base 5 "fitting_rule" (spNoR 1000 CN)) : CalX P w K mg base 6 "least_rule" (spNoR 200 CN) := by
  refine calx_of D sc_least_rule (fun vs H Q E h => ?_) (fun f cdv A outer s H vs Q E hr h => ?_)
  · obtain ⟨L, kb, xs, ds, k, rfl, _⟩ := h
    rfl
  · obtain ⟨L, kb, xs, ds, k, rfl, eL, hO, hl, bd, k0, k1, hc, ke⟩ := h
    refine ⟨_, (pss_cons (ps_expr (C8.pe_c c_check_records hr (by decide) (by rfl) (pa_cons (pv 0) pa_nil)))
    (pss_one (ps_ret (pe_cx cx_fitting_rule hr (by decide) (takes_of rfl rfl rfl rfl) (by rfl) (pa_cons (pv 0) pa_nil))))), ?_⟩
    refine ⟨_, rfl, L, kb, xs, ds, rfl, eL, hO, hl, fun H1 s1 => ?_⟩
    exact ⟨_, rfl, L, kb, xs, ds, k, rfl, s1 _ _ eL, hO.same s1, by omega, bd, k0, k1, hc, fun H' s2 => ke H' (s1.trans s2)⟩
def spLstC : Sp := fun vs H Q _ => ∃ (L : Addr) (kb : Bool) (xs : List V) (ds : List Rec) (k : Nat), vs = [.ref L] ∧ H L = some (sqO kb xs) ∧ Obs rcO H xs ds ∧ ds.length ≤ 200 ∧ RcB k ds ∧ 0 < k ∧ k ≤ 1900 ∧ ¬ Cf ds ∧
  ∀ H' p q c, Same H H' → LeastR ds p q c → RuleB (2 * k + 10) p q c → Q (.int q) H'
end
end Lf
namespace Lf
open PySem PySem.Spec PyProof.Rows L2
/-! ### list(zip(xs, ys)) -/
theorem zip_no_len : typeLookup (.type "zip") "__len__" = pure none := am_miss_of_fast (by decide +kernel)
theorem zip_no_hint : typeLookup (.type "zip") "__length_hint__" = pure none := am_miss_of_fast (by decide +kernel)
structure ZOff (S z TI TO i1 i2 l1 l2 : Addr) : Prop where
  z : z ≠ S
  TI : TI ≠ S
  TO : TO ≠ S
  i1 : i1 ≠ S
  i2 : i2 ≠ S
  l1 : l1 ≠ S
  l2 : l2 ≠ S
/-- the zip in the midst of its walk, while a list at S is filled -/
def ZSt (S z TI TO i1 i2 l1 l2 : Addr) (xs ys : Array Value) (i : Nat) (h : Heap) : Prop :=
  IsPair h TI (.ref i1) (.ref i2) ∧ h.IsListIter i1 l1 i ∧ h.IsListIter i2 l2 i ∧ h.IsList l1 xs ∧ h.IsList l2 ys ∧ (∃ a b, IsPair h TO a b) ∧
    (IsZip h z TI TO .none ∨ ∃ T f oT, IsZipHeld h z TI TO T f ∧ h.get? T = some oT ∧ T ≠ z ∧ T ≠ i1 ∧ T ≠ i2 ∧ T ≠ S)
section
variable {prog : Program} {w : World} {A : Around} {E : Value → Shared → Prop} {s : Shared} {S z TI TO i1 i2 l1 l2 : Addr} {xs ys : Array Value} {i : Nat}
theorem ZSt.frame {h h' : Heap} (O : ZOff S z TI TO i1 i2 l1 l2) (st : ZSt S z TI TO i1 i2 l1 l2 xs ys i h) (hk : ∀ b o, b ≠ S → h.get? b = some o → h'.get? b = some o) : ZSt S z TI TO i1 i2 l1 l2 xs ys i h' := by
  obtain ⟨hTI, h1, h2, hl1, hl2, ⟨a, b, hTO⟩, hz⟩ := st
  refine ⟨hk _ _ O.TI hTI, h1.at fun o e => hk _ o O.i1 e, h2.at fun o e => hk _ o O.i2 e, hl1.at fun o e => hk _ o O.l1 e, hl2.at fun o e => hk _ o O.l2 e, ⟨a, b, hk _ _ O.TO hTO⟩, ?_⟩
  rcases hz with hz | ⟨T, f, oT, hz, hT, r1, r2, r3, r4⟩
  · exact .inl (hk _ _ O.z hz)
  · exact .inr ⟨T, f, oT, hk _ _ O.z hz, hk _ _ r4 hT, r1, r2, r3, r4⟩
theorem ZSt.there {h : Heap} (st : ZSt S z TI TO i1 i2 l1 l2 xs ys i h) : ∀ c ∈ [z, TI, TO, i1, i2], c < h.objs.size := fun c hc => by
  obtain ⟨hTI, ⟨o1, e1, _⟩, ⟨o2, e2, _⟩, _, _, ⟨a, b, hTO⟩, hz⟩ := st
  have e' : c = z ∨ c = TI ∨ c = TO ∨ c = i1 ∨ c = i2 := by simpa using hc
  rcases e' with q | q | q | q | q
  · rw [q]
    rcases hz with hz | ⟨_, _, _, hz, _⟩
    · exact Heap.lt_size hz
    · exact Heap.lt_size hz
  · rw [q]; exact Heap.lt_size hTI
  · rw [q]; exact Heap.lt_size hTO
  · rw [q]; exact Heap.lt_size e1
  · rw [q]; exact Heap.lt_size e2
theorem ZSt.next {x y : Value} {Q : Option Value → Shared → Prop} (D : ZipApart z TI TO i1 i2 l1 l2) (st : ZSt S z TI TO i1 i2 l1 l2 xs ys i s.heap) (hS : S < s.heap.objs.size) (ex : xs[i]? = some x) (ey : ys[i]? = some y)
    (hQ : ∀ h', IsPair h' s.heap.objs.size x y → ZSt S z TI TO i1 i2 l1 l2 xs ys (i + 1) h' → (∀ c o, c ∉ [z, TI, TO, i1, i2] → s.heap.get? c = some o → h'.get? c = some o) → Q (some (.ref s.heap.objs.size)) { s with heap := h' }) :
    wpAny (model prog w) A (pyNext (.ref z)) Q E s := by
  obtain ⟨hTI, h1, h2, hl1, hl2, ⟨a, b, hTO⟩, hz⟩ := st
  have lt : ∀ {c o}, s.heap.get? c = some o → s.heap.objs.size ≠ c := fun e => Nat.ne_of_gt (Heap.lt_size e)
  have n1 : s.heap.objs.size ≠ i1 := let ⟨_, e, _⟩ := h1; lt e
  have n2 : s.heap.objs.size ≠ i2 := let ⟨_, e, _⟩ := h2; lt e
  rcases hz with hz | ⟨T, f, oT, hz, hT, r1, r2, r3, r4⟩
  · refine wpAny_pyNext_zip_item D hz hTI hTO h1 h2 hl1 hl2 ex ey fun h' a1 a2 a3 a4 a5 a6 hk => ?_
    exact hQ h' a5 ⟨hk _ _ D.TIz D.TITO D.TIi1 D.TIi2 hTI, a3, a4, hl1.at fun o e => hk _ o D.l1z D.l1TO D.l1i1 D.l1i2 e, hl2.at fun o e => hk _ o D.l2z D.l2TO D.l2i1 D.l2i2 e, ⟨_, _, a2⟩,
      .inr ⟨s.heap.objs.size, false, _, a1, a5, lt hz, n1, n2, Nat.ne_of_gt hS⟩⟩ fun c o hc e => hk c o (fun x => hc (by simp [x])) (fun x => hc (by simp [x])) (fun x => hc (by simp [x])) (fun x => hc (by simp [x])) e
  · refine wpAny_pyNext_zip_item_held D hz hT hTI h1 h2 hl1 hl2 ex ey fun h' a1 a3 a4 a5 a6 hk => ?_
    exact hQ h' a5 ⟨hk _ _ D.TIz D.TIi1 D.TIi2 hTI, a3, a4, hl1.at fun o e => hk _ o D.l1z D.l1i1 D.l1i2 e, hl2.at fun o e => hk _ o D.l2z D.l2i1 D.l2i2 e, ⟨a, b, hk _ _ D.TOz D.TOi1 D.TOi2 hTO⟩,
      .inr ⟨T, true, oT, a1, hk _ _ r1 r2 r3 hT, r1, r2, r3, r4⟩⟩ fun c o hc e => hk c o (fun x => hc (by simp [x])) (fun x => hc (by simp [x])) (fun x => hc (by simp [x])) e
theorem ZSt.done {Q : Option Value → Shared → Prop} (hA : A.handled = none) (D : ZipApart z TI TO i1 i2 l1 l2) (st : ZSt S z TI TO i1 i2 l1 l2 xs ys i s.heap) (hend : xs[i]? = none ∨ ys[i]? = none)
    (hQ : ∀ h', (∀ c o, c ∉ [z, TI, TO, i1, i2] → s.heap.get? c = some o → h'.get? c = some o) → Q none { s with heap := h' }) : wpAny (model prog w) A (pyNext (.ref z)) Q E s := by
  obtain ⟨hTI, h1, h2, hl1, hl2, ⟨a, b, hTO⟩, hz⟩ := st
  rcases hz with hz | ⟨T, f, oT, hz, hT, r1, r2, r3, r4⟩
  · exact wpAny_pyNext_zip_end hA D hz hTI hTO h1 h2 hl1 hl2 hend fun h' hk => hQ h' fun c o hc e => hk c o (fun x => hc (by simp [x])) (fun x => hc (by simp [x])) (fun x => hc (by simp [x])) (fun x => hc (by simp [x])) e
  · exact wpAny_pyNext_zip_end_held hA D hz hT hTI h1 h2 hl1 hl2 hend fun h' hk => hQ h' fun c o hc e => hk c o (fun x => hc (by simp [x])) (fun x => hc (by simp [x])) (fun x => hc (by simp [x])) e
end
/-- the pairs gathered so far: new tuples of the two lists' items -/
def ZIt (H1 H : Hp) (xs ys : List V) (ts : List Addr) : Prop := ∀ (j : Nat) (T : Addr), ts[j]? = some T → H1 T = none ∧ ∃ x y, xs[j]? = some x ∧ ys[j]? = some y ∧ H T = some (.tup [x, y])
section
variable {X : Cx} {pins : List (Addr × Obj)} {σ : L2.St} {S z TI TO i1 i2 a b : Addr} {A : Around} {R : Result → Shared → Prop} {res : Value} {xs ys : List V} {its its2 : List Value} {H1 : Hp} {n : Nat}
theorem vals_rf : ∀ (ts : List Addr), Vals (ts.map V.ref) (ts.map Value.ref)
  | [] => .nil
  | _ :: ts => .cons rfl (vals_rf ts)
theorem vals_ref_eq : ∀ {ts : List Addr} {us : List Value}, Vals (ts.map V.ref) us → us = ts.map Value.ref
  | [], _, .nil => rfl
  | _ :: ts, _, .cons r t => by
    cases r
    rw [vals_ref_eq t]
    rfl
theorem lz_loop (hA : A.in1.handled = none) (D : ZipApart z TI TO i1 i2 a b) (O : ZOff S z TI TO i1 i2 a b) (rx : Vals xs its) (ry : Vals ys its2) (hn : n = min xs.length ys.length) (hz : n ≤ sizeLine) :
    ∀ (k i : Nat) (s : Shared) (H : Hp) (ts : List Addr), n - i = k → i ≤ n → Inv X pins σ H s → H S = some (.lst (ts.map V.ref)) → ts.length = i → ZIt H1 H xs ys ts → Same H1 H → H1 S = none →
      ZSt S z TI TO i1 i2 a b its.toArray its2.toArray i s.heap → (∀ c ∈ [z, TI, TO, i1, i2], FpOk X pins H c) →
      (∀ s' H' ts', Inv X pins σ H' s' → H' S = some (.lst (ts'.map V.ref)) → ts'.length = n → ZIt H1 H' xs ys ts' → Same H1 H' → R (.ok (.ret res)) s') →
      codeAny (model X.prog X.w) A (.builtin "list.extend.loop" ⟨[.ref S, .ref z, res], []⟩) R s := by
  intro k
  induction k with
  | zero =>
    intro i s H ts hk hi I hH hl hit sm n1 st hf hR
    have hin : i = n := by omega
    subst hin
    refine codeAny_builtin F.entry_extend_loop ?_
    rw [Around.under_plainId F.plain_extend_loop _]
    show wpAny _ A.in1 (pyNext (.ref z) >>= _) _ _ s
    have lx := rx.length
    have ly := ry.length
    refine wpAny_bind (st.done hA D ?_ fun h' hk' => ?_)
    · rcases Nat.le_total xs.length ys.length with h | h
      · refine .inl ?_
        rw [List.getElem?_toArray, List.getElem?_eq_none_iff]
        omega
      · refine .inr ?_
        rw [List.getElem?_toArray, List.getElem?_eq_none_iff]
        omega
    · have I1 : Inv X pins σ H { s with heap := h' } := I.turnedL (t' := s.toks) (ch := [z, TI, TO, i1, i2]) hk' hf
      exact wpAny_pure (hR _ H ts I1 hH hl hit sm)
  | succ k ih =>
    intro i s H ts hk hi I hH hl hit sm n1 st hf hR
    have hlt : i < n := by omega
    refine codeAny_builtin F.entry_extend_loop ?_
    rw [Around.under_plainId F.plain_extend_loop _]
    show wpAny _ A.in1 (pyNext (.ref z) >>= _) _ _ s
    have ex : xs[i]? = some (xs[i]'(by omega)) := List.getElem?_eq_getElem (by omega)
    have ey : ys[i]? = some (ys[i]'(by omega)) := List.getElem?_eq_getElem (by omega)
    generalize xs[i]'(by omega) = x at ex
    generalize ys[i]'(by omega) = y at ey
    obtain ⟨u, hu, ru⟩ := rx.get ex
    obtain ⟨v, hv, rv⟩ := ry.get ey
    obtain ⟨_, itS, nS, rS, lS, eS⟩ := I.lstM hH
    have ltS := Heap.lt_size eS
    have lts := st.there
    refine wpAny_bind (st.next D ltS (x := u) (y := v) (by simpa using hu) (by simpa using hv) fun h' hT st' hk' => ?_)
    have new : ObjOk X.prog X.w (upd H s.heap.objs.size (.tup [x, y])) h' s.heap.objs.size (.tup [x, y]) :=
      ⟨by show 2 ≤ sizeLine; decide, [u, v], .cons ru (.cons rv .nil), ⟨_, hT, rfl, _, rfl⟩⟩
    have I1 : Inv X pins σ (upd H s.heap.objs.size (.tup [x, y])) { s with heap := h' } := I.turnedNew (t' := s.toks) (ch := [z, TI, TO, i1, i2]) hk' hf (Nat.le_refl _) new
    have nT : H s.heap.objs.size = none := I.hok.fresh (Nat.le_refl _)
    have neS : S ≠ s.heap.objs.size := Nat.ne_of_lt ltS
    have hH1 : upd H s.heap.objs.size (.tup [x, y]) S = some (.lst (ts.map V.ref)) := by rw [upd_ne neS]; exact hH
    obtain ⟨_, itT, cT, rT, lT, eT⟩ := I1.lstM hH1
    obtain rfl := vals_ref_eq rT
    rw [List.length_map] at lT
    have hsz1 : (ts.map Value.ref).toArray.size = i := by rw [List.size_toArray, List.length_map, hl]
    show wpAny _ A.in1 (updateSeq S (·.push (.ref s.heap.objs.size)) >>= _) _ _ _
    refine wpAny_bind ?_
    have I2 := I1.lset (t' := s.toks) (its' := (ts ++ [s.heap.objs.size]).map Value.ref) (ys := (ts ++ [s.heap.objs.size]).map V.ref) (f := (·.push (.ref s.heap.objs.size))) hH1 eT (by simp) (vals_rf _) (by
      rw [List.length_map, List.length_append, hl]
      show i + 1 ≤ sizeLine
      omega)
    refine wpAny_updateSeq eT rfl (wpAny_pure ⟨plainId_quiet F.plain_extend_loop _, ih (i + 1) _ _ (ts ++ [s.heap.objs.size]) (by omega) hlt I2 upd_same (by rw [List.length_append, hl]; rfl) (fun j T e => ?_) (fun c o e => ?_) n1 (st'.frame O fun c o hc e => ?_) (fun c hc => ?_) hR⟩) (by rw [hsz1]; omega) (by
      show ((ts.map Value.ref).toArray.push (.ref s.heap.objs.size)).size ≤ sizeLine + 1
      rw [Array.size_push, hsz1]
      omega)
    · by_cases g : j < ts.length
      · rw [List.getElem?_append_left g] at e
        obtain ⟨g1, x', y', g2, g3, g4⟩ := hit j T e
        refine ⟨g1, x', y', g2, g3, ?_⟩
        rw [upd_ne (fun q => by rw [q, hH] at g4; cases g4), upd_ne (fun q => by rw [q, nT] at g4; cases g4)]
        exact g4
      · rw [List.getElem?_append_right (by omega)] at e
        have ej : j = ts.length := by
          have := (List.getElem?_eq_some_iff.mp e).1
          rw [List.length_singleton] at this
          omega
        rw [ej, Nat.sub_self] at e
        cases e
        refine ⟨?_, x, y, by rw [ej, hl]; exact ex, by rw [ej, hl]; exact ey, ?_⟩
        · cases q : H1 s.heap.objs.size with
          | none => rfl
          | some o =>
            rw [sm _ _ q] at nT
            cases nT
        · rw [upd_ne neS.symm, upd_same]
    · rw [upd_ne (fun q => by rw [q, n1] at e; cases e), upd_ne (fun q => by rw [q] at e; rw [sm _ _ e] at nT; cases nT)]
      exact sm _ _ e
    · exact (Heap.get?_update_other _ _ (Ne.symm hc)).trans e
    · have lc := lts c hc
      have f := hf c hc
      have f1 : H c = none := f.1
      refine ⟨?_, f.2⟩
      rw [upd_ne (fun q => by rw [q, hH] at f1; cases f1), upd_ne (Nat.ne_of_lt lc)]
      exact f1
end
def tLZ (K : PySem.W.Frag) (ta : TA) : TE := fun σ H Q => ta σ H fun vs H1 => ∃ a b xs ys, vs = [.ref a, .ref b] ∧ SqL K H1 a xs ∧ SqL K H1 b ys ∧
  ∀ S H2 ts, H1 S = none → Same H1 H2 → H2 S = some (.lst (ts.map V.ref)) → ts.length = min xs.length ys.length → ZIt H1 H2 xs ys ts → Q (.ref S) H2
theorem pe_lz {X : Cx} {e e2 : Expr} {ta : TA} {p p2 pos pos2 : Pos} (hcalm : X.calm = true) (hgL : Gl X "list") (hmL : X.mg "list" = none) (hg : Gl X "zip") (hm : X.mg "zip" = none) (ha : L2.PA X [e, e2] ta)
    (hs : starEach [e, e2] X.env = (false, eval e X.env) :: starEach [e2] X.env := by rfl) (hpl : (backTo pos2 (starEach [e2] X.env)).any (·.1) = false := by rfl) :
    PE X (.Call (.Name "list" p) [.Call (.Name "zip" p2) [e, e2] [] pos2] [] pos) (tLZ X.K ta) := by
  refine ⟨fun pins s σ H Q I h => ?_⟩
  have hA : X.A.handled = none := I.ok.hd hcalm
  refine wpAny_Call_Name_kw (ld_blt I hgL hmL bt_list ?_)
  refine PyProof.Rows.callWith_type1 ?_ rfl rfl
  show wpAny _ _ (spliced [(false, eval (.Call (.Name "zip" p2) [e, e2] [] pos2) X.env)]) _ _ s
  refine Calls.spliced_cons ?_
  refine Call_ (ld_blt I hg hm PyProof.Rows.boot_zip (PyProof.Rows.callWith_type1 (thn (ha.run pos2 pins s σ H _ I h) fun us s1 ⟨vs, H1, I1, r1, q1⟩ => ?_) hs hpl))
  obtain ⟨a, b, xs, ys, ex, hqx, hqy, q⟩ := q1
  subst ex
  cases r1 with
  | cons r rr =>
  cases rr with
  | cons r' rr =>
  cases rr
  cases r
  cases r'
  obtain ⟨its, rv, p1, z1⟩ := I1.list hqx
  obtain ⟨its2, rv2, p2', z2⟩ := I1.list hqy
  have la : a < s1.heap.objs.size := p1.lt
  have lb : b < s1.heap.objs.size := p2'.lt
  refine call_zip_2 p1.isList p2'.isList fun h' hz hTI hTO h1 h2 hsz hk => ?_
  refine Calls.spliced_nil ?_
  have D := PySem.W.ktu_apart s1.heap.objs.size a b la lb
  -- the new list
  refine callType_codes (Q₁ := fun obj s₁ => obj = .ref h'.objs.size ∧ s₁ = { s1 with heap := h'.push { cls := .type "list", data := .seq #[] } }) F.called_list (F.typeCall_list_1 _) F.entry_list_init
    (code_list_new _ ⟨rfl, rfl⟩) fun obj s₁ hq => ?_
  obtain ⟨rfl, rfl⟩ := hq
  have hS : (h'.push { cls := .type "list", data := .seq #[] }).get? h'.objs.size = some { cls := .type "list", data := .seq #[] } := Heap.get?_push_size _ rfl
  refine ⟨⟨_, hS, rfl⟩, F.args_list_init_2 _ _, ?_⟩
  have O : ZOff h'.objs.size (s1.heap.objs.size + 4) (s1.heap.objs.size + 2) (s1.heap.objs.size + 3) s1.heap.objs.size (s1.heap.objs.size + 1) a b := by
    have q4 : s1.heap.objs.size + 4 < h'.objs.size := by rw [hsz]; exact Nat.lt_succ_self _
    have le : ∀ {c : Addr}, c ≤ s1.heap.objs.size + 4 → c ≠ h'.objs.size := fun h => Nat.ne_of_lt (Nat.lt_of_le_of_lt h q4)
    exact ⟨le (Nat.le_refl _), le (Nat.add_le_add_left (by decide) _), le (Nat.add_le_add_left (by decide) _), le (Nat.le_add_right _ _), le (Nat.add_le_add_left (by decide) _), le (Nat.le_trans (Nat.le_of_lt la) (Nat.le_add_right _ _)), le (Nat.le_trans (Nat.le_of_lt lb) (Nat.le_add_right _ _))⟩
  have st : ZSt h'.objs.size (s1.heap.objs.size + 4) (s1.heap.objs.size + 2) (s1.heap.objs.size + 3) s1.heap.objs.size (s1.heap.objs.size + 1) a b its.toArray its2.toArray 0 (h'.push { cls := .type "list", data := .seq #[] }) :=
    ⟨Heap.get?_push_of_some _ hTI, h1.at fun o e => Heap.get?_push_of_some _ e, h2.at fun o e => Heap.get?_push_of_some _ e, p1.isList.at fun o e => Heap.get?_push_of_some _ (hk _ _ e), p2'.isList.at fun o e => Heap.get?_push_of_some _ (hk _ _ e), ⟨_, _, Heap.get?_push_of_some _ hTO⟩, .inl (Heap.get?_push_of_some _ hz)⟩
  have I2 : Inv X pins σ H1 { s1 with heap := h' } := I1.kept (t' := s1.toks) hk
  have nS : H1 h'.objs.size = none := I2.hok.fresh (Nat.le_refl _)
  have I3 : Inv X pins σ (upd H1 h'.objs.size (.lst [])) { s1 with heap := h'.push { cls := .type "list", data := .seq #[] } } := I2.lnew (t' := s1.toks) (its := []) .nil (Nat.zero_le _)
  show wpAny _ _ (do let old ← Builtin.List.listItems (.ref h'.objs.size); Builtin.List.listUpdate (.ref h'.objs.size) (fun _ => #[]); letGo old.toList.reverse; Builtin.List.listExtendWith (.ref h'.objs.size) (.ref (s1.heap.objs.size + 4)) .none) _ _ _
  refine wpAny_bind ?_
  unfold Builtin.List.listItems
  refine wpAny_bind (wpAny_seqItems hS rfl (wpAny_pure ?_))
  show wpAny _ _ (updateSeq h'.objs.size (fun _ => #[]) >>= fun _ => letGo (#[] : Array Value).toList.reverse >>= fun _ => Builtin.List.listExtendWith (.ref h'.objs.size) (.ref (s1.heap.objs.size + 4)) .none) _ _ _
  refine wpAny_bind (wpAny_updateSeq hS rfl ?_)
  have hS₂ := Heap.get?_update_self (Obj.mapSeq (fun _ => (#[] : Array Value))) hS rfl
  have I4 := I3.lset (t' := s1.toks) (its := []) (its' := []) (ys := []) (f := fun _ => #[]) upd_same hS rfl .nil (Nat.zero_le _)
  have st4 := st.frame O fun c o hc e => (Heap.get?_update_other (h'.push { cls := .type "list", data := .seq #[] }) (Obj.mapSeq (fun _ => (#[] : Array Value))) (Ne.symm hc)).trans e
  refine wpAny_bind (wpAny_letGo ?_)
  have hSI : h'.objs.size ≠ s1.heap.objs.size + 4 := O.z.symm
  unfold Builtin.List.listExtendWith
  have hT : ∀ {s : Shared}, ZSt h'.objs.size (s1.heap.objs.size + 4) (s1.heap.objs.size + 2) (s1.heap.objs.size + 3) s1.heap.objs.size (s1.heap.objs.size + 1) a b its.toArray its2.toArray 0 s.heap → s.TypeIs (.ref (s1.heap.objs.size + 4)) "zip" := fun st => by
    rcases st.2.2.2.2.2.2 with q | ⟨_, _, _, q, _⟩
    · exact ⟨_, q, rfl⟩
    · exact ⟨_, q, rfl⟩
  refine wpAny_bind (wpAny_typeOf (hT st4) ?_)
  have g1 : Builtin.List.listSameRef (.ref h'.objs.size) (.ref (s1.heap.objs.size + 4)) = false := by simp [Builtin.List.listSameRef, hSI]
  have g2 : (Value.type "zip" == Value.type "list") = false := by decide
  have g3 : (Value.type "zip" == Value.type "tuple") = false := by decide
  simp only [g1, g2, g3, Bool.or_false, Bool.false_eq_true, if_false]
  have z4 : IsZip ((h'.push { cls := .type "list", data := .seq #[] }).update h'.objs.size (Obj.mapSeq (fun _ => (#[] : Array Value)))) (s1.heap.objs.size + 4) (s1.heap.objs.size + 2) (s1.heap.objs.size + 3) .none := (Heap.get?_update_other _ _ hSI).trans (Heap.get?_push_of_some _ hz)
  refine wpAny_bind (wpAny_pyIter_zip z4 ?_)
  refine wpAny_bind (wpAny_holding ?_)
  unfold Builtin.List.listLengthHint
  refine wpAny_bind (wpAny_specialOf (hT st4) zip_no_len ?_)
  show wpAny _ _ (specialOf (Value.ref (s1.heap.objs.size + 4)) (Str.ofString "__length_hint__") >>= _) _ _ _
  refine wpAny_bind (wpAny_specialOf (hT st4) zip_no_hint ?_)
  refine wpAny_pure ?_
  show wpAny _ _ (rule "list.extend.makes-room" >>= fun _ => Builtin.List.listTouch (.ref h'.objs.size) >>= fun _ =>
    again (.builtin "list.extend.loop" ⟨[.ref h'.objs.size, .ref (s1.heap.objs.size + 4), .none], []⟩)) _ _ _
  refine wpAny_bind (wpAny_rule ?_)
  refine wpAny_bind ?_
  show wpAny _ _ (updateSeq h'.objs.size (·.push .none) >>= fun _ => updateSeq h'.objs.size (·.pop)) _ _ _
  refine wpAny_bind (wpAny_updateSeq hS₂ rfl ?_)
  have hS₃ := Heap.get?_update_self (Obj.mapSeq (·.push Value.none)) hS₂ rfl
  have I5 := I4.lset (t' := s1.toks) (its := []) (its' := [Value.none]) (ys := [.non]) (f := (·.push Value.none)) upd_same hS₂ rfl (.cons rfl .nil) (by decide)
  have I6 := I5.lset (t' := s1.toks) (its := [Value.none]) (its' := []) (ys := []) (f := (·.pop)) upd_same hS₃ rfl .nil (Nat.zero_le _)
  have st6 := (st4.frame O fun c o hc e => (Heap.get?_update_other _ (Obj.mapSeq (·.push Value.none)) (Ne.symm hc)).trans e).frame O fun c o hc e => (Heap.get?_update_other _ (Obj.mapSeq (·.pop)) (Ne.symm hc)).trans e
  refine wpAny_updateSeq hS₃ rfl ?_
  refine wpAny_pure ⟨plainId_quiet F.plain_extend_loop _, ?_⟩
  have I7 : Inv X pins σ (upd H1 h'.objs.size (.lst [])) { s1 with heap := (((h'.push { cls := .type "list", data := .seq #[] }).update h'.objs.size (Obj.mapSeq (fun _ => (#[] : Array Value)))).update h'.objs.size (Obj.mapSeq (·.push Value.none))).update h'.objs.size (Obj.mapSeq (·.pop)) } := by
    have e : upd (upd (upd (upd H1 h'.objs.size (.lst [])) h'.objs.size (.lst [])) h'.objs.size (.lst [.non])) h'.objs.size (.lst []) = upd H1 h'.objs.size (.lst []) := by
      funext c
      by_cases q : c = h'.objs.size
      · rw [q, upd_same, upd_same]
      · simp only [upd_ne q]
    rw [← e]
    exact I6
  refine lz_loop (A := X.A.in1) (H1 := H1) (res := .none) hA D O rv rv2 rfl (by omega) _ 0 _ _ [] rfl (Nat.zero_le _) I7 upd_same rfl (fun j T e => by cases e) (fun c o e => ?_) nS st6 (fun c hc => ?_) fun s' H' ts' I' h1' h2' h3' h4' => ?_
  · have ne : c ≠ h'.objs.size := fun q => by rw [q, nS] at e; cases e
    rw [upd_ne ne]
    exact e
  · have lc : s1.heap.objs.size ≤ c ∧ c ≠ h'.objs.size := by
      have e' : c = s1.heap.objs.size + 4 ∨ c = s1.heap.objs.size + 2 ∨ c = s1.heap.objs.size + 3 ∨ c = s1.heap.objs.size ∨ c = s1.heap.objs.size + 1 := by simpa using hc
      rcases e' with q | q | q | q | q
      · rw [q]; exact ⟨Nat.le_add_right _ _, O.z⟩
      · rw [q]; exact ⟨Nat.le_add_right _ _, O.TI⟩
      · rw [q]; exact ⟨Nat.le_add_right _ _, O.TO⟩
      · rw [q]; exact ⟨Nat.le_refl _, O.i1⟩
      · rw [q]; exact ⟨Nat.le_add_right _ _, O.i2⟩
    have ne := lc.2
    refine I1.fpOk lc.1 ?_
    rw [upd_ne ne]
    exact I1.hok.fresh lc.1
  · exact ⟨rfl, ⟨.ref h'.objs.size, H', I', rfl, q _ _ ts' nS h4' h1' h2' h3'⟩⟩
end Lf
namespace Lf
open PySem PySem.Spec PyProof.Rows L2
/-! ### sorted(xs), a list of pairs of ints -/
abbrev ptO (x : Int × Int) : HO := .tup [.int x.1, .int x.2]
abbrev AP := Addr × (Int × Int)
def refP (ts : List AP) : List V := ts.map fun e => V.ref e.1
def lexL (x y : Int × Int) : Prop := x.1 < y.1 ∨ (x.1 = y.1 ∧ x.2 ≤ y.2)
instance (x y : Int × Int) : Decidable (lexL x y) := by unfold lexL; infer_instance
def rSortP (K : PySem.W.Frag) : List V → Hp → VK → Prop := fun vs H Q => ∃ (a : Addr) (xs : List V) (cs : List (Int × Int)), vs = [V.ref a] ∧ SqL K H a xs ∧ Obs ptO H xs cs ∧
  ∀ us es p, Obs ptO H us es → es.Perm cs → es.Pairwise lexL → H p = none → Q (.ref p) (upd H p (.lst us))
theorem obs_refP {H : Hp} : ∀ {xs : List V} {ds : List (Int × Int)}, Obs ptO H xs ds → ∃ ts : List AP, xs = refP ts ∧ ds = ts.map (·.2) ∧ ∀ e ∈ ts, H e.1 = some (ptO e.2)
  | _, _, .nil => ⟨[], rfl, rfl, fun _ h => (nomatch h)⟩
  | _, _, .cons (r := r) (d := d) e o => by
    obtain ⟨ts, h1, h2, h3⟩ := obs_refP o
    refine ⟨(r, d) :: ts, by rw [h1]; rfl, by rw [h2]; rfl, fun x hx => ?_⟩
    rcases List.mem_cons.mp hx with rfl | hx
    · exact e
    · exact h3 x hx
theorem refP_obs {H : Hp} : ∀ (ts : List AP), (∀ e ∈ ts, H e.1 = some (ptO e.2)) → Obs ptO H (refP ts) (ts.map (·.2))
  | [], _ => .nil
  | e :: ts, h => .cons (h e List.mem_cons_self) (refP_obs ts fun x hx => h x (List.mem_cons_of_mem _ hx))
theorem each_refP : ∀ {us : List Value} {ts : List AP}, Vals (refP ts) us → PySem.W.EachIs (fun v (e : AP) => v = Value.ref e.1) us ts
  | _, [], .nil => .nil
  | _, _ :: _, .cons r t => .cons r (each_refP t)
theorem vals_refP : ∀ {us : List Value} {ts : List AP}, PySem.W.EachIs (fun v (e : AP) => v = Value.ref e.1) us ts → Vals (refP ts) us
  | _, _, .nil => .nil
  | _, _, .cons r t => .cons r (vals_refP t)
theorem cr_sortP {X : Cx} (hu : X.A.units + 64 < cLine) : CallR X (.builtin "sorted") (rSortP X.K) := by
  intro pins s σ H vs us Q I r h
  obtain ⟨a, xs, cs, rfl, hs, ho, q⟩ := h
  obtain ⟨ts, rfl, rfl, hx⟩ := obs_refP ho
  obtain ⟨its, rv, hl, hz⟩ := I.list hs
  rw [Vals.ref1 r]
  have e := each_refP rv
  have er : PySem.W.EachIs (fun v (e : AP) => ∃ as, Reads s.heap v (PyData.tuple [.int e.2.1, .int e.2.2]) as) its ts := (PySem.W.each_mem e).mono fun v b ⟨hv, hb⟩ => by
    obtain ⟨as, rd⟩ := Dp.reads I (PyData.tuple [.int b.2.1, .int b.2.2]) (.ref b.1) v (Dp.tup (SqT.of (hx b hb)) (.cons (.int _) (.cons (.int _) .nil))) (by rw [hv]; rfl)
    exact ⟨as, rd⟩
  have hlen : ts.length ≤ sizeLine := by
    unfold refP at hz
    rw [List.length_map] at hz
    exact hz
  refine PySem.W.sorted_data (bs := ts) (enc := fun e : AP => PyData.tuple [.int e.2.1, .int e.2.2]) hl.isList e er (PySem.W.AllAlike.of fun b b' => by rfl) (PySem.W.Sortable.tuples fun b => ⟨_, _, rfl⟩) hlen (fun b _ => ?_) fun out h1 h2 => ?_
  · show _ + 2 + PyData.depth (.tuple [.int b.2.1, .int b.2.2]) < _
    have : PyData.depth (.tuple [.int b.2.1, .int b.2.2]) = 1 := rfl
    omega
  · have ed : PySem.W.dataLe false (fun e : AP => PyData.tuple [.int e.2.1, .int e.2.2]) = fun p q : AP => decide (lexL p.2 q.2) := PySem.W.dataLe_ii (fun e : AP => e.2.1) (fun e => e.2.2)
    rw [ed] at h2
    have hp := List.mergeSort_perm ts fun (p q : AP) => decide (lexL p.2 q.2)
    have hs := List.pairwise_mergeSort (le := fun (p q : AP) => decide (lexL p.2 q.2)) (fun a b c g1 g2 => decide_eq_true (by
      have g1 : lexL _ _ := of_decide_eq_true g1
      have g2 : lexL _ _ := of_decide_eq_true g2
      unfold lexL at *
      omega)) (fun a b => by
      rw [Bool.or_eq_true, decide_eq_true_eq, decide_eq_true_eq]
      unfold lexL
      omega) ts
    generalize ts.mergeSort (fun (p q : AP) => decide (lexL p.2 q.2)) = us at h2 hp hs
    obtain ⟨ep, he'⟩ := PyProof.Rows.sortedAll_at s.heap its out.toArray
    have hlen' : (refP us).length ≤ sizeLine := by
      unfold refP
      rw [List.length_map, hp.length_eq]
      exact hlen
    have Ob : Obs ptO H (refP us) (us.map (·.2)) := refP_obs us fun e he => hx e (hp.mem_iff.mp he)
    exact ⟨.ref _, upd H (s.heap.objs.size + 1) (.lst (refP us)), I.laid (t' := s.toks) (fun _ _ => PyProof.Rows.sortedAll_old) (Nat.le_succ _) ⟨hlen', out, ep, vals_refP h2, he'⟩, rfl, q (refP us) (us.map (·.2)) _ Ob (hp.map _) (List.pairwise_map.mpr (hs.imp fun g => of_decide_eq_true g)) (I.hok.fresh (Nat.le_succ _))⟩
end Lf
namespace Lf
open PySem PySem.Spec PyProof.Rows L2
/-! ### the upper hull of points (time, count) -/
abbrev P2 := Int × Int
/-- how high the line of slope p / q through a point is (times q, at time 0) -/
def hv (p q : Int) (x : P2) : Int := x.2 * q - p * x.1
/-- the slope of the edge from a to b less that of the rate: its sign -/
def stp (a b : P2) (p q : Int) : Int := (b.2 - a.2) * q - p * (b.1 - a.1)
theorem stp_hv (a b : P2) (p q : Int) : stp a b p q = hv p q b - hv p q a := by
  unfold stp hv
  grind
/-- the slopes fall from one edge to the next -/
def bends (a b c : P2) : Prop := (c.2 - b.2) * (b.1 - a.1) < (b.2 - a.2) * (c.1 - b.1)
/-- a chain, its last point first: times fall, slopes rise -/
def Chn : List P2 → Prop
  | [] => True
  | [_] => True
  | b :: a :: r => a.1 < b.1 ∧ Chn (a :: r) ∧ (match r with | [] => True | z :: _ => bends z a b)
theorem Chn.tail {b : P2} {r : List P2} (h : Chn (b :: r)) : Chn r := by
  cases r with
  | nil => trivial
  | cons a r => exact h.2.1
/-- every point is covered, whatever the rate -/
def Dom (cs xs : List P2) : Prop := ∀ x ∈ xs, ∀ p q : Int, 0 < q → ∃ c ∈ cs, hv p q x ≤ hv p q c
theorem Dom.refl (xs : List P2) : Dom xs xs := fun x hx _ _ _ => ⟨x, hx, Int.le_refl _⟩
theorem Dom.trans {a b c : List P2} (h : Dom a b) (h2 : Dom b c) : Dom a c := fun x hx p q hq => by
  obtain ⟨y, hy, e⟩ := h2 x hx p q hq
  obtain ⟨z, hz, e2⟩ := h y hy p q hq
  exact ⟨z, hz, Int.le_trans e e2⟩
/-- the last corner is hidden beside the next point -/
def hid (cs : List P2) (x : P2) : Prop := match cs with
  | [] => False
  | [b] => b.1 = x.1
  | b :: a :: _ => b.1 = x.1 ∨ ¬ bends a b x
theorem hid_dom {b x : P2} {r : List P2} (hc : Chn (b :: r)) (hs : b.1 ≤ x.1) (hy : b.1 = x.1 → b.2 ≤ x.2) (h : hid (b :: r) x) : Dom (x :: r) (b :: r) := by
  intro y hyy p q hq
  rcases List.mem_cons.mp hyy with rfl | hm
  · by_cases e : y.1 = x.1
    · refine ⟨x, List.mem_cons_self, ?_⟩
      unfold hv
      rw [e]
      have := Int.mul_le_mul_of_nonneg_right (hy e) (show 0 ≤ q by omega)
      omega
    · cases r with
      | nil => exact absurd h e
      | cons a r =>
        have nb : ¬ bends a y x := h.resolve_left e
        have lt := hc.1
        unfold bends at nb
        -- between a and x: one of them is at least as high
        by_cases c : hv p q y ≤ hv p q x
        · exact ⟨x, List.mem_cons_self, c⟩
        · refine ⟨a, List.mem_cons_of_mem _ List.mem_cons_self, ?_⟩
          unfold hv at *
          have d1 : 0 < y.1 - a.1 := by omega
          have d2 : 0 < x.1 - y.1 := by omega
          have nb : (y.2 - a.2) * (x.1 - y.1) ≤ (x.2 - y.2) * (y.1 - a.1) := by omega
          have c : x.2 * q - p * x.1 < y.2 * q - p * y.1 := by omega
          -- times q
          have k1 := Int.mul_le_mul_of_nonneg_right nb (show 0 ≤ q by omega)
          have k2 : ((x.2 - y.2) * q - p * (x.1 - y.1)) * (y.1 - a.1) < 0 := by
            have := Int.mul_lt_mul_of_pos_right (show (x.2 - y.2) * q - p * (x.1 - y.1) < 0 by grind) d1
            omega
          have k3 : ((y.2 - a.2) * q - p * (y.1 - a.1)) * (x.1 - y.1) ≤ ((x.2 - y.2) * q - p * (x.1 - y.1)) * (y.1 - a.1) := by grind
          have k4 : (y.2 - a.2) * q - p * (y.1 - a.1) < 0 := by
            rcases Int.lt_or_le ((y.2 - a.2) * q - p * (y.1 - a.1)) 0 with z | z
            · exact z
            · have := Int.mul_nonneg z (show 0 ≤ x.1 - y.1 by omega)
              omega
          grind
  · exact ⟨y, List.mem_cons_of_mem _ hm, Int.le_refl _⟩
theorem dom_cons {x : P2} {a b : List P2} (h : Dom a b) : Dom (x :: a) (x :: b) := fun y hy p q hq => by
  rcases List.mem_cons.mp hy with rfl | hy
  · exact ⟨y, List.mem_cons_self, Int.le_refl _⟩
  · obtain ⟨c, hc, e⟩ := h y hy p q hq
    exact ⟨c, List.mem_cons_of_mem _ hc, e⟩
/-- what the loop over the sorted points keeps -/
structure HullI (cs ps : List P2) : Prop where
  ch : Chn cs
  dm : Dom cs ps
  sb : ∀ c ∈ cs, c ∈ ps
theorem HullI.nil : HullI [] [] := ⟨trivial, fun _ z => (nomatch z), fun _ z => (nomatch z)⟩
/-- while the last corner is hidden beside x it is taken away -/
structure PopI (cs ps : List P2) (x : P2) : Prop where
  ch : Chn cs
  dm : Dom (x :: cs) (x :: ps)
  sb : ∀ c ∈ cs, c ∈ ps
  le : ∀ c ∈ cs, c.1 ≤ x.1 ∧ (c.1 = x.1 → c.2 ≤ x.2)
theorem PopI.init {cs ps : List P2} {x : P2} (h : HullI cs ps) (hs : ∀ c ∈ ps, c.1 ≤ x.1 ∧ (c.1 = x.1 → c.2 ≤ x.2)) : PopI cs ps x := ⟨h.ch, dom_cons h.dm, h.sb, fun c hc => hs c (h.sb c hc)⟩
theorem PopI.pop {b : P2} {cs ps : List P2} {x : P2} (h : PopI (b :: cs) ps x) (hd : hid (b :: cs) x) : PopI cs ps x := by
  obtain ⟨l1, l2⟩ := h.le b List.mem_cons_self
  refine ⟨h.ch.tail, Dom.trans ?_ h.dm, fun c hc => h.sb c (List.mem_cons_of_mem _ hc), fun c hc => h.le c (List.mem_cons_of_mem _ hc)⟩
  intro y hy p q hq
  rcases List.mem_cons.mp hy with rfl | hy
  · exact ⟨y, List.mem_cons_self, Int.le_refl _⟩
  · exact hid_dom h.ch l1 l2 hd y hy p q hq
theorem PopI.push {cs ps : List P2} {x : P2} (h : PopI cs ps x) (hn : ¬ hid cs x) : HullI (x :: cs) (ps ++ [x]) := by
  refine ⟨?_, fun y hy p q hq => h.dm y ?_ p q hq, fun c hc => ?_⟩
  · cases cs with
    | nil => trivial
    | cons b r =>
      obtain ⟨l1, _⟩ := h.le b List.mem_cons_self
      cases r with
      | nil =>
        have hn : ¬ b.1 = x.1 := hn
        exact ⟨by omega, trivial, trivial⟩
      | cons a r =>
        have hn : ¬ (b.1 = x.1 ∨ ¬ bends a b x) := hn
        have ne : ¬ b.1 = x.1 := fun z => hn (.inl z)
        exact ⟨by omega, h.ch, Classical.byContradiction fun z => hn (.inr z)⟩
  · rcases List.mem_append.mp hy with z | z
    · exact List.mem_cons_of_mem _ z
    · rw [List.mem_singleton.mp z]
      exact List.mem_cons_self
  · rcases List.mem_cons.mp hc with rfl | hc
    · exact List.mem_append.mpr (.inr (List.mem_singleton.mpr rfl))
    · exact List.mem_append.mpr (.inl (h.sb c hc))
/-- the corners by time -/
def ChF (cn : List P2) : Prop := (∀ i a b, cn[i]? = some a → cn[i + 1]? = some b → a.1 < b.1) ∧ ∀ i a b c, cn[i]? = some a → cn[i + 1]? = some b → cn[i + 2]? = some c → bends a b c
theorem chn_chf : ∀ {cs : List P2}, Chn cs → ChF cs.reverse
  | [], _ => ⟨fun i a b h _ => by simp at h, fun i a b c h _ _ => by simp at h⟩
  | x :: cs, h => by
    obtain ⟨i1, i2⟩ := chn_chf h.tail
    rw [List.reverse_cons]
    have at_ : ∀ {j : Nat} {y : P2}, (cs.reverse ++ [x])[j]? = some y → (j < cs.length ∧ cs.reverse[j]? = some y) ∨ (j = cs.length ∧ y = x) := fun {j y} e => by
      rcases Nat.lt_trichotomy j cs.length with c | c | c
      · rw [List.getElem?_append_left (by rw [List.length_reverse]; exact c)] at e
        exact .inl ⟨c, e⟩
      · subst c
        rw [List.getElem?_append_right (by rw [List.length_reverse]; exact Nat.le_refl _), List.length_reverse, Nat.sub_self] at e
        exact .inr ⟨rfl, (Option.some.inj e).symm⟩
      · rw [List.getElem?_eq_none (by rw [List.length_append, List.length_reverse]; show cs.length + 1 ≤ j; omega)] at e
        cases e
    have last : ∀ {b : P2} {r : List P2}, cs = b :: r → cs.reverse[r.length]? = some b := fun {b r} e => by
      subst e
      rw [List.reverse_cons, List.getElem?_append_right (by rw [List.length_reverse]; exact Nat.le_refl _), List.length_reverse, Nat.sub_self]
      rfl
    refine ⟨fun i a b ha hb => ?_, fun i a b c ha hb hc => ?_⟩
    · rcases at_ hb with ⟨l, hb⟩ | ⟨l, rfl⟩
      · rcases at_ ha with ⟨_, ha⟩ | ⟨l2, _⟩
        · exact i1 i a b ha hb
        · omega
      · rcases at_ ha with ⟨_, ha⟩ | ⟨l2, _⟩
        · cases cs with
          | nil => simp at l
          | cons z r =>
            have e : i = r.length := by
              rw [List.length_cons] at l
              omega
            subst e
            rw [last rfl] at ha
            cases ha
            exact h.1
        · omega
    · rcases at_ hc with ⟨l, hc⟩ | ⟨l, rfl⟩
      · rcases at_ hb with ⟨_, hb⟩ | ⟨l2, _⟩
        · rcases at_ ha with ⟨_, ha⟩ | ⟨l3, _⟩
          · exact i2 i a b c ha hb hc
          · omega
        · omega
      · rcases at_ hb with ⟨_, hb⟩ | ⟨l2, _⟩
        · rcases at_ ha with ⟨_, ha⟩ | ⟨l3, _⟩
          · cases cs with
            | nil => simp at l
            | cons z r =>
              cases r with
              | nil => rw [List.length_cons, List.length_nil] at l; omega
              | cons y r =>
                rw [List.length_cons, List.length_cons] at l
                have e : i = r.length := by omega
                subst e
                have e1 := last (b := z) (r := y :: r) rfl
                rw [List.length_cons] at e1
                have e2 : (z :: y :: r).reverse[r.length]? = some y := by
                  rw [List.reverse_cons, List.getElem?_append_left (by rw [List.length_reverse, List.length_cons]; omega), List.reverse_cons, List.getElem?_append_right (by rw [List.length_reverse]; exact Nat.le_refl _), List.length_reverse, Nat.sub_self]
                  rfl
                have hb' := e1.symm.trans hb
                have ha' := e2.symm.trans ha
                rw [← Option.some.inj hb', ← Option.some.inj ha']
                exact h.2.2
          · omega
        · omega
end Lf
namespace Lf
open PySem PySem.Spec PyProof.Rows L2
/-! ### the corners that count, and the least counts -/
theorem stp_fall {a b c : P2} {p q : Int} (hb : bends a b c) (h1 : a.1 < b.1) (h2 : b.1 < c.1) (hq : 0 < q) (h : stp a b p q ≤ 0) : stp b c p q < 0 := by
  unfold bends at hb
  unfold stp at *
  have d1 : 0 < b.1 - a.1 := by omega
  have d2 : 0 < c.1 - b.1 := by omega
  have k1 := Int.mul_lt_mul_of_pos_right hb hq
  have k2 : ((b.2 - a.2) * q - p * (b.1 - a.1)) * (c.1 - b.1) ≤ 0 := by
    have := Int.mul_le_mul_of_nonneg_right h (show 0 ≤ c.1 - b.1 by omega)
    omega
  have k3 : ((c.2 - b.2) * q - p * (c.1 - b.1)) * (b.1 - a.1) < 0 := by grind
  rcases Int.lt_or_le ((c.2 - b.2) * q - p * (c.1 - b.1)) 0 with z | z
  · exact z
  · have := Int.mul_nonneg z (show 0 ≤ b.1 - a.1 by omega)
    omega
theorem pref {α : Type} {P : α → Bool} : ∀ {l : List α}, (∀ i a b, l[i]? = some a → l[i + 1]? = some b → P b = true → P a = true) → ∀ {i a}, l[i]? = some a → (P a = true ↔ i < (l.filter P).length)
  | [], _, i, a, e => by simp at e
  | x :: l, h, i, a, e => by
    have ih : ∀ {i a}, l[i]? = some a → (P a = true ↔ i < (l.filter P).length) := fun {i a} => pref (P := P) (l := l) (fun i a b h1 h2 => h (i + 1) a b h1 h2)
    cases hx : P x with
    | true =>
      rw [List.filter_cons, if_pos hx, List.length_cons]
      cases i with
      | zero =>
        cases e
        exact ⟨fun _ => Nat.succ_pos _, fun _ => hx⟩
      | succ i =>
        have := ih e
        rw [this]
        omega
    | false =>
      have none : ∀ {i : Nat} {a : α}, l[i]? = some a → P a = false := fun {i} => by
        induction i with
        | zero =>
          intro a e
          cases z : P a with
          | false => rfl
          | true =>
            have := h 0 x a rfl e z
            rw [hx] at this
            cases this
        | succ i ih2 =>
          intro a e
          have li : i < l.length := by
            have := (List.getElem?_eq_some_iff.mp e).1
            omega
          cases z : P a with
          | false => rfl
          | true =>
            have g := h (i + 1) l[i] a (by show l[i]? = _; exact List.getElem?_eq_getElem li) e z
            rw [ih2 (List.getElem?_eq_getElem li)] at g
            cases g
      have e0 : l.filter P = [] := List.filter_eq_nil_iff.mpr fun a ha => by
        obtain ⟨i, hi⟩ := List.mem_iff_getElem?.mp ha
        rw [none hi]
        exact Bool.false_ne_true
      rw [List.filter_cons, if_neg (by rw [hx]; exact Bool.false_ne_true), e0]
      cases i with
      | zero =>
        cases e
        exact ⟨(fun z => by rw [hx] at z; cases z), (fun z => by simp at z)⟩
      | succ i => exact ⟨(fun z => by rw [none e] at z; cases z), (fun z => by simp at z)⟩
def edg (cn : List P2) : List (P2 × P2) := cn.zip cn.tail
theorem edg_at {cn : List P2} {i : Nat} {e : P2 × P2} : (edg cn)[i]? = some e ↔ cn[i]? = some e.1 ∧ cn[i + 1]? = some e.2 := by
  unfold edg
  rw [List.getElem?_zip_eq_some, List.getElem?_tail]
theorem edg_len (cn : List P2) : (edg cn).length = cn.length - 1 := by
  unfold edg
  rw [List.length_zip, List.length_tail]
  omega
def geB (p q : Int) (e : P2 × P2) : Bool := decide (0 ≤ stp e.1 e.2 p q)
def gtB (p q : Int) (e : P2 × P2) : Bool := decide (0 < stp e.1 e.2 p q)
section
variable {cn : List P2}
theorem ge_iff (h : ChF cn) {p q : Int} (hq : 0 < q) {i : Nat} {a b : P2} (ea : cn[i]? = some a) (eb : cn[i + 1]? = some b) : 0 ≤ stp a b p q ↔ i < ((edg cn).filter (geB p q)).length := by
  rw [← pref (P := geB p q) (l := edg cn) (fun i x y hx hy hp => by
    obtain ⟨x1, x2⟩ := edg_at.mp hx
    obtain ⟨y1, y2⟩ := edg_at.mp hy
    have e : x.2 = y.1 := Option.some.inj (x2.symm.trans y1)
    refine decide_eq_true (p := 0 ≤ stp x.1 x.2 p q) ?_
    have hp : 0 ≤ stp y.1 y.2 p q := of_decide_eq_true hp
    refine Classical.byContradiction fun z => ?_
    have := stp_fall (p := p) (q := q) (h.2 i _ _ _ x1 x2 y2) (h.1 i _ _ x1 x2) (by rw [e]; exact h.1 (i + 1) _ _ y1 y2) hq (by omega)
    rw [e] at this
    omega) (edg_at.mpr ⟨ea, eb⟩ : (edg cn)[i]? = some (a, b))]
  exact (decide_eq_true_iff (p := 0 ≤ stp a b p q)).symm
theorem gt_iff (h : ChF cn) {p q : Int} (hq : 0 < q) {i : Nat} {a b : P2} (ea : cn[i]? = some a) (eb : cn[i + 1]? = some b) : 0 < stp a b p q ↔ i < ((edg cn).filter (gtB p q)).length := by
  rw [← pref (P := gtB p q) (l := edg cn) (fun i x y hx hy hp => by
    obtain ⟨x1, x2⟩ := edg_at.mp hx
    obtain ⟨y1, y2⟩ := edg_at.mp hy
    have e : x.2 = y.1 := Option.some.inj (x2.symm.trans y1)
    refine decide_eq_true (p := 0 < stp x.1 x.2 p q) ?_
    have hp : 0 < stp y.1 y.2 p q := of_decide_eq_true hp
    refine Classical.byContradiction fun z => ?_
    have := stp_fall (p := p) (q := q) (h.2 i _ _ _ x1 x2 y2) (h.1 i _ _ x1 x2) (by rw [e]; exact h.1 (i + 1) _ _ y1 y2) hq (by omega)
    rw [e] at this
    omega) (edg_at.mpr ⟨ea, eb⟩ : (edg cn)[i]? = some (a, b))]
  exact (decide_eq_true_iff (p := 0 < stp a b p q)).symm
/-- going along the edges -/
theorem up_to (h : ChF cn) {p q : Int} {j m : Nat} {x y : P2} (ex : cn[j]? = some x) (ey : cn[m]? = some y) (jm : j ≤ m) (hs : ∀ i a b, j ≤ i → i < m → cn[i]? = some a → cn[i + 1]? = some b → 0 ≤ stp a b p q) : hv p q x ≤ hv p q y := by
  obtain ⟨k, rfl⟩ : ∃ k, m = j + k := ⟨m - j, by omega⟩
  induction k generalizing y with
  | zero =>
    have : x = y := Option.some.inj (ex.symm.trans ey)
    rw [this]
    exact Int.le_refl _
  | succ k ih =>
    have lk : j + k < cn.length := by
      have := (List.getElem?_eq_some_iff.mp ey).1
      omega
    have ez := List.getElem?_eq_getElem lk
    have h1 := ih ez (by omega) (fun i a b h1 h2 => hs i a b h1 (by omega))
    have h2 := hs (j + k) _ _ (by omega) (by omega) ez ey
    rw [stp_hv] at h2
    omega
theorem dn_to (h : ChF cn) {p q : Int} {j m : Nat} {x y : P2} (ex : cn[j]? = some x) (ey : cn[m]? = some y) (jm : j ≤ m) (hs : ∀ i a b, j ≤ i → i < m → cn[i]? = some a → cn[i + 1]? = some b → stp a b p q ≤ 0) : hv p q y ≤ hv p q x := by
  obtain ⟨k, rfl⟩ : ∃ k, m = j + k := ⟨m - j, by omega⟩
  induction k generalizing y with
  | zero =>
    have : x = y := Option.some.inj (ex.symm.trans ey)
    rw [this]
    exact Int.le_refl _
  | succ k ih =>
    have lk : j + k < cn.length := by
      have := (List.getElem?_eq_some_iff.mp ey).1
      omega
    have ez := List.getElem?_eq_getElem lk
    have h1 := ih ez (by omega) (fun i a b h1 h2 => hs i a b h1 (by omega))
    have h2 := hs (j + k) _ _ (by omega) (by omega) ez ey
    rw [stp_hv] at h2
    omega
/-- where the edges rise up to a corner and fall from it on, it is the highest -/
theorem top_at (h : ChF cn) {p q : Int} {m : Nat} {y : P2} (ey : cn[m]? = some y) (hu : ∀ i a b, i < m → cn[i]? = some a → cn[i + 1]? = some b → 0 ≤ stp a b p q) (hd : ∀ i a b, m ≤ i → cn[i]? = some a → cn[i + 1]? = some b → stp a b p q ≤ 0) {c : P2} (hc : c ∈ cn) : hv p q c ≤ hv p q y := by
  obtain ⟨j, ej⟩ := List.mem_iff_getElem?.mp hc
  rcases Nat.le_total j m with z | z
  · exact up_to h ej ey z fun i a b _ h2 => hu i a b h2
  · exact dn_to h ey ej z fun i a b h1 _ => hd i a b h1
end
/-- the corners that bound c at some rate between the ends -/
structure LowC (l : Int × Int) (e2 : Option (Int × Int)) (ps kc : List P2) : Prop where
  ch : ChF kc
  sb : ∀ c ∈ kc, c ∈ ps
  em : kc = [] → ps = []
  lo : ∀ i a b, kc[i]? = some a → kc[i + 1]? = some b → 0 < stp a b l.1 l.2
  hi : ∀ h, e2 = some h → ∀ i a b, kc[i]? = some a → kc[i + 1]? = some b → stp a b h.1 h.2 < 0
  op : ∀ p q, 0 < q → l.1 * q ≤ p * l.2 → (∀ h, e2 = some h → p * h.2 < h.1 * q) → ∀ x ∈ ps, ∃ c ∈ kc, hv p q x ≤ hv p q c
def firstE (e2 : Option (Int × Int)) (cn : List P2) : Nat := match e2 with
  | none => 0
  | some h => ((edg cn).filter (geB h.1 h.2)).length
def lastE (l : Int × Int) (cn : List P2) : Nat := ((edg cn).filter (gtB l.1 l.2)).length
def keptC (l : Int × Int) (e2 : Option (Int × Int)) (cn : List P2) : List P2 := (cn.drop (firstE e2 cn)).take (lastE l cn + 1 - firstE e2 cn)
/-- an edge against two rates -/
theorem stp_le {a b : P2} {p q r s : Int} (lt : a.1 < b.1) (hq : 0 < q) (hs : 0 < s) (h : p * s ≤ r * q) (g : 0 ≤ stp a b r s) : 0 ≤ stp a b p q := by
  unfold stp at *
  have d : 0 < b.1 - a.1 := by omega
  have k1 := Int.mul_le_mul_of_nonneg_right h (show 0 ≤ b.1 - a.1 by omega)
  have k2 := Int.mul_nonneg g (show 0 ≤ q by omega)
  have k3 : 0 ≤ ((b.2 - a.2) * q - p * (b.1 - a.1)) * s := by grind
  rcases Int.lt_or_le ((b.2 - a.2) * q - p * (b.1 - a.1)) 0 with z | z
  · have := Int.mul_neg_of_neg_of_pos z hs
    omega
  · exact z
theorem stp_lt {a b : P2} {p q r s : Int} (lt : a.1 < b.1) (hq : 0 < q) (hs : 0 < s) (h : p * s < r * q) (g : 0 ≤ stp a b r s) : 0 < stp a b p q := by
  unfold stp at *
  have d : 0 < b.1 - a.1 := by omega
  have k1 := Int.mul_lt_mul_of_pos_right h d
  have k2 := Int.mul_nonneg g (show 0 ≤ q by omega)
  have k3 : 0 < ((b.2 - a.2) * q - p * (b.1 - a.1)) * s := by grind
  rcases Int.lt_or_le 0 ((b.2 - a.2) * q - p * (b.1 - a.1)) with z | z
  · exact z
  · have := Int.mul_le_mul_of_nonneg_right z (show 0 ≤ s by omega)
    omega
theorem kept_low {l : Int × Int} {e2 : Option (Int × Int)} {ps cn : List P2} (l2 : 0 < l.2) (h2 : ∀ h, e2 = some h → 0 < h.2 ∧ l.1 * h.2 < h.1 * l.2) (hc : ChF cn) (hd : Dom cn ps) (hs : ∀ c ∈ cn, c ∈ ps) : LowC l e2 ps (keptC l e2 cn) := by
  have gl : lastE l cn ≤ cn.length - 1 := by
    unfold lastE
    have := List.length_filter_le (gtB l.1 l.2) (edg cn)
    rw [edg_len] at this
    exact this
  have fl : firstE e2 cn ≤ lastE l cn := by
    unfold firstE lastE
    match e2, h2 with
    | none, _ => exact Nat.zero_le _
    | some h, h2 =>
      obtain ⟨a, b⟩ := h2 h rfl
      show ((edg cn).filter (geB h.1 h.2)).length ≤ _
      rw [← List.countP_eq_length_filter, ← List.countP_eq_length_filter]
      refine List.countP_mono_left fun e he g => ?_
      obtain ⟨i, hi⟩ := List.mem_iff_getElem?.mp he
      obtain ⟨x1, x2⟩ := edg_at.mp hi
      have g : 0 ≤ stp e.1 e.2 h.1 h.2 := of_decide_eq_true g
      exact decide_eq_true (stp_lt (hc.1 i _ _ x1 x2) l2 a b g)
  have ix : ∀ i, i < lastE l cn + 1 - firstE e2 cn → (keptC l e2 cn)[i]? = cn[firstE e2 cn + i]? := fun i hi => by
    unfold keptC
    rw [List.getElem?_take_of_lt hi, List.getElem?_drop]
  have il : ∀ {i c}, (keptC l e2 cn)[i]? = some c → i < lastE l cn + 1 - firstE e2 cn := fun {i c} e => by
    have := (List.getElem?_eq_some_iff.mp e).1
    unfold keptC at this
    rw [List.length_take] at this
    omega
  have ia : ∀ {i c}, (keptC l e2 cn)[i]? = some c → cn[firstE e2 cn + i]? = some c := fun {i c} e => by
    rw [← ix i (il e)]
    exact e
  have iin : ∀ {j c}, firstE e2 cn ≤ j → j ≤ lastE l cn → cn[j]? = some c → c ∈ keptC l e2 cn := fun {j c} h1 h2 e => by
    refine List.mem_iff_getElem?.mpr ⟨j - firstE e2 cn, ?_⟩
    rw [ix _ (by omega), show firstE e2 cn + (j - firstE e2 cn) = j by omega]
    exact e
  refine ⟨⟨fun i a b ha hb => hc.1 _ a b (ia ha) (ia hb), fun i a b c ha hb hc' => hc.2 _ a b c (ia ha) (ia hb) (ia hc')⟩, fun c hcm => ?_, fun e => ?_, fun i a b ha hb => ?_, fun h eh i a b ha hb => ?_, fun p q hq hl hh x hx => ?_⟩
  · obtain ⟨i, e⟩ := List.mem_iff_getElem?.mp hcm
    exact hs c (List.mem_of_getElem? (ia e))
  · cases cn with
    | nil =>
      cases ps with
      | nil => rfl
      | cons x r =>
        obtain ⟨c, hcm, _⟩ := hd x List.mem_cons_self 0 1 (by decide)
        cases hcm
    | cons y r =>
      have lt : firstE e2 (y :: r) < (y :: r).length := by
        rw [List.length_cons] at gl ⊢
        omega
      have := iin (c := (y :: r)[firstE e2 (y :: r)]) (Nat.le_refl _) fl (List.getElem?_eq_getElem lt)
      rw [e] at this
      cases this
  · have := il hb
    exact (gt_iff hc l2 (ia ha) (ia hb)).mpr (by show _ < lastE l cn; omega)
  · obtain ⟨a0, _⟩ := h2 h eh
    refine Classical.byContradiction fun z => ?_
    have := (ge_iff (p := h.1) hc a0 (ia ha) (ia hb)).mp (by omega)
    have e : firstE e2 cn = ((edg cn).filter (geB h.1 h.2)).length := by rw [eh]; rfl
    omega
  · obtain ⟨c, hcm, hle⟩ := hd x hx p q hq
    obtain ⟨j, ej⟩ := List.mem_iff_getElem?.mp hcm
    have jl := (List.getElem?_eq_some_iff.mp ej).1
    rcases Nat.lt_or_ge j (firstE e2 cn) with z | z
    · have lt : firstE e2 cn < cn.length := by omega
      have ef := List.getElem?_eq_getElem lt
      refine ⟨_, iin (Nat.le_refl _) fl ef, Int.le_trans hle (up_to hc ej ef (by omega) fun i a b h1 h3 ha hb => ?_)⟩
      match e2, h2, hh, h3 with
      | none, _, _, h3 => exact absurd h3 (Nat.not_lt_zero _)
      | some h, h2, hh, h3 =>
        obtain ⟨a0, _⟩ := h2 h rfl
        have g := (ge_iff hc a0 ha hb).mpr h3
        have := hh h rfl
        exact stp_le (hc.1 i _ _ ha hb) hq a0 (by omega) g
    · rcases Nat.lt_or_ge (lastE l cn) j with y | y
      · have lt : lastE l cn < cn.length := by omega
        have ef := List.getElem?_eq_getElem lt
        refine ⟨_, iin fl (Nat.le_refl _) ef, Int.le_trans hle (dn_to hc ef ej (by omega) fun i a b h1 h3 ha hb => ?_)⟩
        refine Classical.byContradiction fun w => ?_
        -- an edge with a slope above the rate has one above the low end
        have g : 0 < stp a b l.1 l.2 := by
          have lt := hc.1 i _ _ ha hb
          unfold stp at *
          have w : 0 < (b.2 - a.2) * q - p * (b.1 - a.1) := by omega
          have k1 := Int.mul_lt_mul_of_pos_right w l2
          have k2 := Int.mul_le_mul_of_nonneg_right hl (show 0 ≤ b.1 - a.1 by omega)
          have k3 : 0 < ((b.2 - a.2) * l.2 - l.1 * (b.1 - a.1)) * q := by grind
          rcases Int.lt_or_le 0 ((b.2 - a.2) * l.2 - l.1 * (b.1 - a.1)) with z | z
          · exact z
          · have := Int.mul_le_mul_of_nonneg_right z (show 0 ≤ q by omega)
            omega
        have := (gt_iff hc l2 ha hb).mp g
        have e : lastE l cn = ((edg cn).filter (gtB l.1 l.2)).length := rfl
        omega
      · exact ⟨c, iin z y ej, hle⟩
end Lf
namespace Lf
open PySem PySem.Spec PyProof.Rows L2
/-! ### chains of lines, and the least count at a time -/
abbrev Ln := Int × Int × Int
def lineT (x : P2) (s : Int × Int) : Ln := (s.1, x.2 * s.2 - s.1 * x.1, s.2)
abbrev edgeS (a b : P2) : Int × Int := (b.2 - a.2, b.1 - a.1)
def turnsOf (l : Int × Int) : List P2 → List (Int × Option Ln)
  | [] => []
  | [a] => [(a.1, some (lineT a l))]
  | a :: b :: r => (a.1, some (lineT a (edgeS a b))) :: turnsOf l (b :: r)
def befOf (e2 : Option (Int × Int)) : List P2 → Option Ln
  | [] => none
  | a :: _ => e2.map (lineT a)
def lnAt : Option Ln → List (Int × Option Ln) → Int → Option Ln
  | f, [], _ => f
  | f, b :: r, t => if b.1 > t then f else lnAt b.2 r t
def lnV (L : Ln) (t : Int) : Int := (L.1 * t + L.2.1) / L.2.2
theorem lnAt_in {l : Int × Int} {t : Int} : ∀ {a : P2} {r : List P2} {f : Option Ln}, a.1 ≤ t → ∃ i c, (a :: r)[i]? = some c ∧ c.1 ≤ t ∧
    ((∃ b, (a :: r)[i + 1]? = some b ∧ t < b.1 ∧ lnAt f (turnsOf l (a :: r)) t = some (lineT c (edgeS c b))) ∨ ((a :: r)[i + 1]? = none ∧ lnAt f (turnsOf l (a :: r)) t = some (lineT c l)))
  | a, [], f, h => ⟨0, a, rfl, h, .inr ⟨rfl, by
      show (if a.1 > t then f else lnAt (some (lineT a l)) [] t) = _
      rw [if_neg (by omega)]
      rfl⟩⟩
  | a, b :: r, f, h => by
    have e : lnAt f (turnsOf l (a :: b :: r)) t = lnAt (some (lineT a (edgeS a b))) (turnsOf l (b :: r)) t := by
      show (if a.1 > t then f else _) = _
      rw [if_neg (by omega)]
    rw [e]
    by_cases c : b.1 ≤ t
    · obtain ⟨i, z, h1, h2, h3⟩ := lnAt_in (l := l) (a := b) (r := r) (f := some (lineT a (edgeS a b))) c
      exact ⟨i + 1, z, h1, h2, h3⟩
    · refine ⟨0, a, rfl, h, .inl ⟨b, rfl, by omega, ?_⟩⟩
      cases r with
      | nil =>
        show (if b.1 > t then _ else _) = _
        rw [if_pos (by omega)]
      | cons d r =>
        show (if b.1 > t then _ else _) = _
        rw [if_pos (by omega)]
theorem lnAt_out {l : Int × Int} {t : Int} {a : P2} {r : List P2} {f : Option Ln} (h : t < a.1) : lnAt f (turnsOf l (a :: r)) t = f := by
  cases r with
  | nil =>
    show (if a.1 > t then _ else _) = _
    rw [if_pos (by omega)]
  | cons d r =>
    show (if a.1 > t then _ else _) = _
    rw [if_pos (by omega)]
theorem div_cross {x y D q : Int} (hD : 0 < D) (hq : 0 < q) (h : x * q ≤ y * D) : x / D ≤ y / q := by
  refine Int.le_ediv_of_mul_le hq ?_
  have h1 := Int.ediv_mul_le x (show D ≠ 0 by omega)
  have h2 := Int.mul_le_mul_of_nonneg_right h1 (show 0 ≤ q by omega)
  have h3 : (x / D * q) * D ≤ y * D := by grind
  exact Int.le_of_mul_le_mul_right h3 hD
/-- a rate above one and below some others -/
theorem above_low {l : Int × Int} (l2 : 0 < l.2) : ∀ {B : List (Int × Int)}, (∀ b ∈ B, 0 < b.2 ∧ l.1 * b.2 < b.1 * l.2) → ∃ p q : Int, 0 < q ∧ l.1 * q < p * l.2 ∧ ∀ b ∈ B, p * b.2 < b.1 * q
  | [], _ => ⟨l.1 + 1, l.2, l2, by rw [Int.add_mul]; omega, fun _ z => (nomatch z)⟩
  | b :: B, h => by
    obtain ⟨p, q, h1, h2, h3⟩ := above_low l2 (B := B) fun c hc => h c (List.mem_cons_of_mem _ hc)
    obtain ⟨b1, b2⟩ := h b List.mem_cons_self
    rcases Int.lt_or_le (p * b.2) (b.1 * q) with z | z
    · refine ⟨p, q, h1, h2, fun c hc => ?_⟩
      rcases List.mem_cons.mp hc with rfl | hc
      · exact z
      · exact h3 c hc
    · refine ⟨l.1 + b.1, l.2 + b.2, by omega, by grind, fun c hc => ?_⟩
      have m : (l.1 + b.1) * b.2 < b.1 * (l.2 + b.2) := by grind
      rcases List.mem_cons.mp hc with rfl | hc
      · exact m
      · obtain ⟨c1, _⟩ := h c (List.mem_cons_of_mem _ hc)
        have k := h3 c hc
        -- (l + b) < b <= p / q < c
        have k2 : b.1 * c.2 ≤ c.1 * b.2 := by
          have x1 := Int.mul_le_mul_of_nonneg_right z (show 0 ≤ c.2 by omega)
          have x2 := Int.mul_le_mul_of_nonneg_right (Int.le_of_lt k) (show 0 ≤ b.2 by omega)
          have x3 : b.1 * c.2 * q ≤ c.1 * b.2 * q := by grind
          exact Int.le_of_mul_le_mul_right x3 h1
        have x1 := Int.mul_lt_mul_of_pos_right m c1
        have x2 := Int.mul_le_mul_of_nonneg_right k2 (show 0 ≤ l.2 + b.2 by omega)
        have x3 : (l.1 + b.1) * c.2 * b.2 < c.1 * (l.2 + b.2) * b.2 := by grind
        exact Int.lt_of_mul_lt_mul_right x3 (by omega)
theorem below_high {h : Int × Int} (h2 : 0 < h.2) {B : List (Int × Int)} (hb : ∀ b ∈ B, 0 < b.2 ∧ b.1 * h.2 < h.1 * b.2) : ∃ p q : Int, 0 < q ∧ p * h.2 < h.1 * q ∧ ∀ b ∈ B, b.1 * q < p * b.2 := by
  obtain ⟨p, q, g1, g2, g3⟩ := above_low (l := (-h.1, h.2)) h2 (B := B.map fun b => (-b.1, b.2)) fun c hc => by
    obtain ⟨b, m, rfl⟩ := List.mem_map.mp hc
    obtain ⟨x, y⟩ := hb b m
    exact ⟨x, by show -h.1 * b.2 < -b.1 * h.2; grind⟩
  refine ⟨-p, q, g1, by have g2 : -h.1 * q < p * h.2 := g2; grind, fun b m => ?_⟩
  have : p * b.2 < -b.1 * q := g3 _ (List.mem_map.mpr ⟨b, m, rfl⟩)
  grind
theorem beyond : ∀ {B : List (Int × Int)}, (∀ b ∈ B, 0 < b.2) → ∃ p : Int, 0 ≤ p ∧ ∀ b ∈ B, b.1 < p * b.2
  | [], _ => ⟨0, Int.le_refl _, fun _ z => (nomatch z)⟩
  | b :: B, h => by
    obtain ⟨p, p0, hp⟩ := beyond (B := B) fun c hc => h c (List.mem_cons_of_mem _ hc)
    have b2 := h b List.mem_cons_self
    refine ⟨p + (if b.1 < 0 then 0 else b.1) + 1, by by_cases z : b.1 < 0 <;> simp only [z, if_true, if_false] <;> omega, fun c hc => ?_⟩
    rcases List.mem_cons.mp hc with rfl | hc
    · by_cases z : c.1 < 0
      · rw [if_pos z]
        have := Int.mul_nonneg (show 0 ≤ p + 0 + 1 by omega) (show 0 ≤ c.2 by omega)
        omega
      · rw [if_neg z]
        have := Int.mul_le_mul_of_nonneg_left (show 1 ≤ c.2 by omega) (show 0 ≤ p + c.1 + 1 by omega)
        omega
    · have c2 := h c (List.mem_cons_of_mem _ hc)
      have k := hp c hc
      have : p * c.2 ≤ (p + (if b.1 < 0 then 0 else b.1) + 1) * c.2 := Int.mul_le_mul_of_nonneg_right (by by_cases z : b.1 < 0 <;> simp only [z, if_true, if_false] <;> omega) (by omega)
      omega
/-! ### what the least count is -/
abbrev Fit (ds : List Rec) (p q c : Int) : Prop := 0 ≤ p ∧ 1 ≤ q ∧ ds.all (fitB p q c) = true
def LCnt (ds : List Rec) (t : Int) : Option Int → Prop
  | some N => (∀ p q c, Fit ds p q c → N ≤ (p * t + c) / q) ∧ ∃ p q c, Fit ds p q c ∧ (p * t + c) / q = N
  | none => ∀ N : Int, ∃ p q c, Fit ds p q c ∧ (p * t + c) / q < N
def pts (ds : List Rec) : List P2 := (ds.filter fun d => d.lo).map fun d => (d.t, d.n)
theorem mem_pts {ds : List Rec} {x : P2} : x ∈ pts ds ↔ ∃ d ∈ ds, d.lo = true ∧ x = (d.t, d.n) := by
  unfold pts
  rw [List.mem_map]
  constructor
  · rintro ⟨d, h, rfl⟩
    obtain ⟨h1, h2⟩ := List.mem_filter.mp h
    exact ⟨d, h1, h2, rfl⟩
  · rintro ⟨d, h1, h2, rfl⟩
    exact ⟨d, List.mem_filter.mpr ⟨h1, h2⟩, rfl⟩
def lowEnd (e1 : Option (Int × Int)) : Int × Int := e1.getD (0, 1)
structure EndC (ds : List Rec) (e1 e2 : Option (Int × Int)) : Prop where
  fit : ∀ p q, 0 ≤ p → 1 ≤ q → (Ins e1 e2 p q ↔ FitM ds p q)
  ok : OkE e1 e2
  d1 : ∀ l, e1 = some l → 0 ≤ l.1 ∧ 1 ≤ l.2
  d2 : ∀ h, e2 = some h → 1 ≤ h.2
section
variable {ds : List Rec} {e1 e2 : Option (Int × Int)}
theorem EndC.l0 (h : EndC ds e1 e2) : 0 ≤ (lowEnd e1).1 ∧ 1 ≤ (lowEnd e1).2 := by
  match e1, h.d1 with
  | none, _ => exact ⟨Int.le_refl _, Int.le_refl _⟩
  | some l, d => exact d l rfl
theorem EndC.lh (h : EndC ds e1 e2) : ∀ g, e2 = some g → 0 < g.2 ∧ (lowEnd e1).1 * g.2 < g.1 * (lowEnd e1).2 := fun g eg => by
  subst eg
  have a := h.d2 g rfl
  refine ⟨by omega, ?_⟩
  match e1, h.ok with
  | none, ok =>
    have ok : 0 < g.1 := ok
    show 0 * g.2 < g.1 * 1
    omega
  | some l, ok => exact ok
theorem EndC.ins (h : EndC ds e1 e2) {p q : Int} (h1 : (lowEnd e1).1 * q < p * (lowEnd e1).2) (h2 : ∀ g, e2 = some g → p * g.2 < g.1 * q) : Ins e1 e2 p q := by
  refine ⟨fun l el => ?_, h2⟩
  subst el
  exact h1
theorem ins_le {p q : Int} (h0 : 0 ≤ p) (h : Ins e1 e2 p q) : (lowEnd e1).1 * q ≤ p * (lowEnd e1).2 := by
  match e1, h with
  | none, _ =>
    show 0 * q ≤ p * 1
    omega
  | some l, h => exact Int.le_of_lt (h.1 l rfl)
/-- the least c of a rate inside is that of its highest point -/
theorem EndC.attain (h : EndC ds e1 e2) {p q : Int} {x : P2} (p0 : 0 ≤ p) (q1 : 1 ≤ q) (hi : Ins e1 e2 p q) (hx : x ∈ pts ds) (hm : ∀ y ∈ pts ds, hv p q y ≤ hv p q x) : Fit ds p q (hv p q x) := by
  have fm := (h.fit p q p0 q1).mp hi
  refine ⟨p0, q1, ?_⟩
  rw [List.all_eq_true]
  intro d hd
  obtain ⟨d0, m0, l0, rfl⟩ := mem_pts.mp hx
  cases hl : d.lo with
  | true =>
    refine (fit_lo q1 hl).mpr ?_
    exact hm (d.t, d.n) (mem_pts.mpr ⟨d, hd, hl, rfl⟩)
  | false =>
    refine (fit_hi q1 hl).mpr ?_
    have := fm d0 m0 d hd l0 hl
    rw [Int.mul_sub, Int.sub_mul] at this
    show d0.n * q - p * d0.t ≤ _
    omega
theorem fit_hv {p q c : Int} {x : P2} (h : Fit ds p q c) (hx : x ∈ pts ds) : hv p q x ≤ c := by
  obtain ⟨p0, q1, h⟩ := h
  rw [List.all_eq_true] at h
  obtain ⟨d, hd, hl, rfl⟩ := mem_pts.mp hx
  exact (fit_lo q1 hl).mp (h d hd)
theorem EndC.ins_of (h : EndC ds e1 e2) {p q c : Int} (hf : Fit ds p q c) : Ins e1 e2 p q := (h.fit p q hf.1 hf.2.1).mpr (fits_m hf.2.1 hf.2.2)
/-- above a line: no rule that fits is below it -/
theorem over_line {p q c t : Int} {x : P2} {s : Int × Int} (hf : Fit ds p q c) (hx : x ∈ pts ds) (s2 : 0 < s.2) (h : s.1 * (t - x.1) * q ≤ p * (t - x.1) * s.2) : lnV (lineT x s) t ≤ (p * t + c) / q := by
  unfold lnV lineT
  refine div_cross s2 (by have := hf.2.1; omega) ?_
  have h1 := Int.mul_le_mul_of_nonneg_right (fit_hv hf hx) (show 0 ≤ s.2 by omega)
  unfold hv at h1
  show (s.1 * t + (x.2 * s.2 - s.1 * x.1)) * q ≤ _
  grind
theorem mul_le_cross {a b d : Int} (h : a ≤ b) (hd : 0 ≤ d) : a * d ≤ b * d := Int.mul_le_mul_of_nonneg_right h hd
/-- the value of a rate's least c at a time -/
theorem at_val {p q t N : Int} {x : P2} (q1 : 1 ≤ q) (h : x.2 * q + p * (t - x.1) < (N + 1) * q) : (p * t + hv p q x) / q ≤ N := by
  have : (p * t + hv p q x) / q < N + 1 := by
    refine Int.ediv_lt_of_lt_mul (by omega) ?_
    unfold hv
    grind
  omega
theorem lnV_lt {x : P2} {s : Int × Int} {t : Int} (s2 : 0 < s.2) : s.1 * (t - x.1) < (lnV (lineT x s) t + 1 - x.2) * s.2 := by
  have := Int.lt_ediv_add_one_mul_self (s.1 * t + (x.2 * s.2 - s.1 * x.1)) s2
  show _ < ((s.1 * t + (x.2 * s.2 - s.1 * x.1)) / s.2 + 1 - x.2) * s.2
  grind
theorem least_ok (cx : EndC ds e1 e2) {kc : List P2} (hk : LowC (lowEnd e1) e2 (pts ds) kc) (t : Int) : LCnt ds t ((lnAt (befOf e2 kc) (turnsOf (lowEnd e1) kc) t).map fun L => lnV L t) := by
  obtain ⟨l1, l2⟩ := cx.l0
  have lh := cx.lh
  have top : ∀ {p q : Int} {m : Nat} {y : P2}, 1 ≤ q → Ins e1 e2 p q → 0 ≤ p → kc[m]? = some y → (∀ i a b, i < m → kc[i]? = some a → kc[i + 1]? = some b → 0 ≤ stp a b p q) → (∀ i a b, m ≤ i → kc[i]? = some a → kc[i + 1]? = some b → stp a b p q ≤ 0) → Fit ds p q (hv p q y) := fun {p q m y} q1 hi p0 ey hu hd =>
    cx.attain p0 q1 hi (hk.sb y (List.mem_of_getElem? ey)) fun z hz => by
      obtain ⟨c, hc, e⟩ := hk.op p q (by omega) (ins_le p0 hi) hi.2 z hz
      exact Int.le_trans e (top_at hk.ch ey hu hd hc)
  -- the slopes fall
  have fallD : ∀ {p q : Int} {m : Nat}, 0 < q → (∀ a b, kc[m]? = some a → kc[m + 1]? = some b → stp a b p q ≤ 0) → ∀ i a b, m ≤ i → kc[i]? = some a → kc[i + 1]? = some b → stp a b p q ≤ 0 := fun {p q m} hq h0 i => by
    induction i with
    | zero =>
      intro a b h1 ha hb
      have : m = 0 := by omega
      subst this
      exact h0 a b ha hb
    | succ i ih =>
      intro a b h1 ha hb
      rcases Nat.lt_or_ge i m with z | z
      · have : m = i + 1 := by omega
        subst this
        exact h0 a b ha hb
      · have li : i < kc.length := by
          have := (List.getElem?_eq_some_iff.mp ha).1
          omega
        have ez := List.getElem?_eq_getElem li
        have := stp_fall (hk.ch.2 i _ _ _ ez ha hb) (hk.ch.1 i _ _ ez ha) (hk.ch.1 (i + 1) _ _ ha hb) hq (ih _ _ z ez ha)
        omega
  have riseU : ∀ {p q : Int} {m : Nat}, 0 < q → (∀ a b, kc[m]? = some a → kc[m + 1]? = some b → 0 ≤ stp a b p q) → ∀ i a b, i ≤ m → m + 1 < kc.length → kc[i]? = some a → kc[i + 1]? = some b → 0 ≤ stp a b p q := fun {p q m} hq h0 i a b h1 hl ha hb => by
    refine Classical.byContradiction fun z => ?_
    have lm : m < kc.length := by omega
    rcases Nat.lt_or_ge i m with w | w
    · -- strictly below from the next edge on
      have e1 := List.getElem?_eq_getElem lm
      have e2 := List.getElem?_eq_getElem hl
      have z0 : stp a b p q ≤ 0 := by omega
      have e3 : kc[i + 1 + 1]? = some kc[i + 1 + 1] := List.getElem?_eq_getElem (by omega)
      have n1 := stp_fall (hk.ch.2 i _ _ _ ha hb e3) (hk.ch.1 i _ _ ha hb) (hk.ch.1 (i + 1) _ _ hb e3) hq z0
      have key : ∀ k, i + 1 ≤ k → ∀ x y, kc[k]? = some x → kc[k + 1]? = some y → stp x y p q < 0 := fun k => by
        induction k with
        | zero => intro h; omega
        | succ k ih =>
          intro hk1 x y hx hy
          rcases Nat.lt_or_ge i k with v | v
          · have ez := List.getElem?_eq_getElem (show k < kc.length by have := (List.getElem?_eq_some_iff.mp hx).1; omega)
            have := ih (by omega) _ _ ez hx
            exact stp_fall (hk.ch.2 k _ _ _ ez hx hy) (hk.ch.1 k _ _ ez hx) (hk.ch.1 (k + 1) _ _ hx hy) hq (by omega)
          · have : k = i := by omega
            subst this
            rw [hb] at hx
            rw [e3] at hy
            cases hx
            cases hy
            exact n1
      have a1 := key m (by omega) _ _ e1 e2
      have a2 := h0 _ _ e1 e2
      omega
    · have : i = m := by omega
      subst this
      exact z (h0 a b ha hb)
  cases kc with
  | nil =>
    have ep := hk.em rfl
    show LCnt ds t none
    intro N
    obtain ⟨p, q, q1, h1, h2⟩ := above_low (l := lowEnd e1) (by omega) (B := e2.toList) fun b hb => by
      match e2, lh, hb with
      | some g, lh, hb =>
        rw [List.mem_singleton.mp hb]
        exact lh g rfl
    have p0 : 0 ≤ p := by
      have := Int.mul_nonneg l1 (show 0 ≤ q by omega)
      rcases Int.lt_or_le p 0 with z | z
      · have := Int.mul_neg_of_neg_of_pos z (show 0 < (lowEnd e1).2 by omega)
        omega
      · exact z
    have hi := cx.ins h1 fun g eg => h2 g (by rw [eg]; exact List.mem_singleton.mpr rfl)
    have fm := (cx.fit p q p0 q1).mp hi
    -- all highs, and one below
    have ex : ∃ c, (∀ d ∈ ds, d.lo = false → c ≤ (d.n + 1) * q - p * d.t - 1) ∧ c < N * q - p * t := by
      clear fm hi h2
      have : ∀ es : List Rec, ∃ c, (∀ d ∈ es, d.lo = false → c ≤ (d.n + 1) * q - p * d.t - 1) ∧ c < N * q - p * t := fun es => by
        induction es with
        | nil => exact ⟨N * q - p * t - 1, fun _ z => (nomatch z), by omega⟩
        | cons d r ih =>
          obtain ⟨c, h1, h2⟩ := ih
          by_cases z : c ≤ (d.n + 1) * q - p * d.t - 1
          · refine ⟨c, fun e he => ?_, h2⟩
            rcases List.mem_cons.mp he with rfl | he
            · exact fun _ => z
            · exact h1 e he
          · refine ⟨(d.n + 1) * q - p * d.t - 1, fun e he hl => ?_, by omega⟩
            rcases List.mem_cons.mp he with rfl | he
            · exact Int.le_refl _
            · have := h1 e he hl
              omega
      exact this ds
    obtain ⟨c, h3, h4⟩ := ex
    refine ⟨p, q, c, ⟨p0, q1, ?_⟩, Int.ediv_lt_of_lt_mul q1 (by omega)⟩
    rw [List.all_eq_true]
    intro d hd
    cases hl : d.lo with
    | true =>
      have : (d.t, d.n) ∈ pts ds := mem_pts.mpr ⟨d, hd, hl, rfl⟩
      rw [ep] at this
      cases this
    | false => exact (fit_hi q1 hl).mpr (h3 d hd hl)
  | cons a r =>
    have ea : (a :: r)[0]? = some a := rfl
    have hap := hk.sb a List.mem_cons_self
    rcases Int.lt_or_le t a.1 with lt | le
    · rw [lnAt_out lt]
      -- before the first corner
      have edge0 : ∀ p q : Int, 0 < q → (∀ b ∈ (r.head?.map (edgeS a)).toList, b.1 * q < p * b.2) → ∀ x y, (a :: r)[0]? = some x → (a :: r)[0 + 1]? = some y → stp x y p q ≤ 0 := fun p q hq h x y hx hy => by
        cases hx
        cases r with
        | nil => cases hy
        | cons b r =>
          cases hy
          have := h (edgeS a y) (by simp)
          unfold stp
          show (y.2 - a.2) * q - p * (y.1 - a.1) ≤ 0
          have : (y.2 - a.2) * q < p * (y.1 - a.1) := this
          omega
      have eB : ∀ b ∈ (r.head?.map (edgeS a)).toList, 0 < b.2 := fun b hb => by
        cases r with
        | nil => cases hb
        | cons y r =>
          rw [List.mem_singleton.mp (show b ∈ [edgeS a y] from hb)]
          have := hk.ch.1 0 a y rfl rfl
          show 0 < y.1 - a.1
          omega
      match e2, lh, hk, cx, @top with
      | none, lh, hk, cx, top =>
        show LCnt ds t none
        intro N
        obtain ⟨p, p0, hp⟩ := beyond (B := (lowEnd e1) :: (a.2 - N, a.1 - t) :: (r.head?.map (edgeS a)).toList) fun b hb => by
          rcases List.mem_cons.mp hb with rfl | hb
          · omega
          · rcases List.mem_cons.mp hb with rfl | hb
            · show 0 < a.1 - t
              omega
            · exact eB b hb
        have h1 := hp _ List.mem_cons_self
        have h2 : a.2 - N < p * (a.1 - t) := hp _ (List.mem_cons_of_mem _ List.mem_cons_self)
        have hi := cx.ins (p := p) (q := 1) (by omega) fun g eg => (nomatch eg)
        have f := top (p := p) (q := 1) (m := 0) (by decide) hi p0 ea (fun i _ _ z => absurd z (Nat.not_lt_zero _)) (fallD (by decide) (edge0 p 1 (by decide) fun b hb => by have := hp b (List.mem_cons_of_mem _ (List.mem_cons_of_mem _ hb)); omega))
        refine ⟨p, 1, _, f, ?_⟩
        rw [Int.ediv_one]
        unfold hv
        rw [Int.mul_sub] at h2
        omega
      | some g, lh, hk, cx, top =>
        obtain ⟨g2, gl⟩ := lh g rfl
        show LCnt ds t (some (lnV (lineT a g) t))
        constructor
        · intro p q c hf
          refine over_line hf hap g2 ?_
          have := (cx.ins_of hf).2 g rfl
          have := Int.mul_le_mul_of_nonneg_right (Int.le_of_lt this) (show 0 ≤ a.1 - t by omega)
          grind
        · have v := lnV_lt (x := a) (t := t) g2
          obtain ⟨p, q, q1, h1, h2⟩ := below_high (h := g) g2 (B := (lowEnd e1) :: (a.2 - lnV (lineT a g) t - 1, a.1 - t) :: (r.head?.map (edgeS a)).toList) fun b hb => by
            rcases List.mem_cons.mp hb with rfl | hb
            · exact ⟨by omega, gl⟩
            · rcases List.mem_cons.mp hb with rfl | hb
              · refine ⟨by show 0 < a.1 - t; omega, ?_⟩
                show (a.2 - lnV (lineT a g) t - 1) * g.2 < g.1 * (a.1 - t)
                grind
              · refine ⟨eB b hb, ?_⟩
                cases r with
                | nil => cases hb
                | cons y r =>
                  rw [List.mem_singleton.mp (show b ∈ [edgeS a y] from hb)]
                  have := hk.hi g rfl 0 a y rfl rfl
                  unfold stp at this
                  show (y.2 - a.2) * g.2 < g.1 * (y.1 - a.1)
                  omega
          have h3 := h2 _ List.mem_cons_self
          have h4 : (a.2 - lnV (lineT a g) t - 1) * q < p * (a.1 - t) := h2 _ (List.mem_cons_of_mem _ List.mem_cons_self)
          have p0 : 0 ≤ p := by
            have := Int.mul_nonneg l1 (show 0 ≤ q by omega)
            rcases Int.lt_or_le p 0 with z | z
            · have := Int.mul_neg_of_neg_of_pos z (show 0 < (lowEnd e1).2 by omega)
              omega
            · exact z
          have hi := cx.ins h3 fun g' eg => by cases eg; exact h1
          have f := top (m := 0) q1 hi p0 ea (fun i _ _ z => absurd z (Nat.not_lt_zero _)) (fallD q1 (edge0 p q q1 fun b hb => h2 b (List.mem_cons_of_mem _ (List.mem_cons_of_mem _ hb))))
          refine ⟨p, q, _, f, ?_⟩
          have u := at_val (N := lnV (lineT a g) t) (x := a) (p := p) (t := t) q1 (by grind)
          have w : lnV (lineT a g) t ≤ (p * t + hv p q a) / q := by
            refine over_line f hap g2 ?_
            have := Int.mul_le_mul_of_nonneg_right (Int.le_of_lt h1) (show 0 ≤ a.1 - t by omega)
            grind
          omega
    · obtain ⟨i, x, ex, xt, h⟩ := lnAt_in (l := lowEnd e1) (a := a) (r := r) (f := befOf e2 (a :: r)) le
      have hxp := hk.sb x (List.mem_of_getElem? ex)
      rcases h with ⟨b, eb, tb, e⟩ | ⟨en, e⟩
      · -- between two corners
        rw [e]
        show LCnt ds t (some (lnV (lineT x (edgeS x b)) t))
        have xb := hk.ch.1 i x b ex eb
        have hbp := hk.sb b (List.mem_of_getElem? eb)
        have s2 : 0 < (edgeS x b).2 := by show 0 < b.1 - x.1; omega
        have lo : ∀ p q c, Fit ds p q c → lnV (lineT x (edgeS x b)) t ≤ (p * t + c) / q := fun p q c hf => by
          rcases Int.lt_or_le (p * (edgeS x b).2) ((edgeS x b).1 * q) with z | z
          · -- a smaller rate: by the later corner
            have same : lnV (lineT x (edgeS x b)) t = lnV (lineT b (edgeS x b)) t := by
              unfold lnV lineT edgeS
              show ((b.2 - x.2) * t + (x.2 * (b.1 - x.1) - (b.2 - x.2) * x.1)) / (b.1 - x.1) = ((b.2 - x.2) * t + (b.2 * (b.1 - x.1) - (b.2 - x.2) * b.1)) / (b.1 - x.1)
              congr 1
              grind
            rw [same]
            refine over_line hf hbp s2 ?_
            have := Int.mul_le_mul_of_nonneg_right (Int.le_of_lt z) (show 0 ≤ b.1 - t by omega)
            grind
          · refine over_line hf hxp s2 ?_
            have := Int.mul_le_mul_of_nonneg_right z (show 0 ≤ t - x.1 by omega)
            grind
        refine ⟨lo, (edgeS x b).1, (edgeS x b).2, hv (edgeS x b).1 (edgeS x b).2 x, ?_, ?_⟩
        · have a1 : (lowEnd e1).1 * (edgeS x b).2 < (edgeS x b).1 * (lowEnd e1).2 := by
            have := hk.lo i x b ex eb
            unfold stp at this
            show _ * (b.1 - x.1) < (b.2 - x.2) * _
            omega
          have p0 : 0 ≤ (edgeS x b).1 := by
            have := Int.mul_nonneg l1 (show 0 ≤ (edgeS x b).2 by omega)
            rcases Int.lt_or_le (edgeS x b).1 0 with z | z
            · have := Int.mul_neg_of_neg_of_pos z (show 0 < (lowEnd e1).2 by omega)
              omega
            · exact z
          have hi := cx.ins a1 fun g eg => by
            have := hk.hi g eg i x b ex eb
            unfold stp at this
            show (b.2 - x.2) * g.2 < g.1 * (b.1 - x.1)
            omega
          have z0 : stp x b (edgeS x b).1 (edgeS x b).2 = 0 := by
            unfold stp edgeS
            show (b.2 - x.2) * (b.1 - x.1) - (b.2 - x.2) * (b.1 - x.1) = 0
            omega
          have lb := (List.getElem?_eq_some_iff.mp eb).1
          refine top s2 hi p0 ex (fun j u v hj hu hv => riseU s2 (m := i) (fun u v hu hv => ?_) j u v (by omega) lb hu hv) (fallD s2 fun u v hu hv => ?_)
          · rw [ex] at hu
            rw [eb] at hv
            cases hu
            cases hv
            omega
          · rw [ex] at hu
            rw [eb] at hv
            cases hu
            cases hv
            omega
        · unfold lnV lineT hv
          rfl
      · -- behind the last corner
        rw [e]
        show LCnt ds t (some (lnV (lineT x (lowEnd e1)) t))
        have l2' : 0 < (lowEnd e1).2 := by omega
        have v := lnV_lt (x := x) (t := t) l2'
        refine ⟨fun p q c hf => over_line hf hxp l2' ?_, ?_⟩
        · have := Int.mul_le_mul_of_nonneg_right (ins_le hf.1 (cx.ins_of hf)) (show 0 ≤ t - x.1 by omega)
          grind
        · -- the edge before, if there is one
          have pe : ∃ B : List (Int × Int), (∀ b ∈ B, 0 < b.2 ∧ (lowEnd e1).1 * b.2 < b.1 * (lowEnd e1).2) ∧ ∀ p q : Int, 0 < q → (∀ b ∈ B, p * b.2 < b.1 * q) → ∀ j u w, j < i → (a :: r)[j]? = some u → (a :: r)[j + 1]? = some w → 0 ≤ stp u w p q := by
            cases i with
            | zero => exact ⟨[], fun _ z => (nomatch z), fun _ _ _ _ j _ _ z => absurd z (Nat.not_lt_zero _)⟩
            | succ i =>
              have li : i < (a :: r).length := by
                have := (List.getElem?_eq_some_iff.mp ex).1
                omega
              have ey := List.getElem?_eq_getElem li
              have yx := hk.ch.1 i _ _ ey ex
              refine ⟨[edgeS (a :: r)[i] x], fun b hb => ?_, fun p q hq hb j u w hj hu hw => ?_⟩
              · rw [List.mem_singleton.mp hb]
                refine ⟨by show 0 < x.1 - (a :: r)[i].1; omega, ?_⟩
                have := hk.lo i _ _ ey ex
                unfold stp at this
                show _ * (x.1 - (a :: r)[i].1) < (x.2 - (a :: r)[i].2) * _
                omega
              · refine riseU hq (m := i) (fun u v hu hv => ?_) j u w (by omega) ((List.getElem?_eq_some_iff.mp ex).1) hu hw
                rw [ey] at hu
                rw [ex] at hv
                cases hu
                cases hv
                have := hb _ (List.mem_singleton.mpr rfl)
                unfold stp
                have : p * (x.1 - (a :: r)[i].1) < (x.2 - (a :: r)[i].2) * q := this
                omega
          obtain ⟨B, hB, hU⟩ := pe
          have tb : ∃ B2 : List (Int × Int), (∀ b ∈ B2, 0 < b.2 ∧ (lowEnd e1).1 * b.2 < b.1 * (lowEnd e1).2) ∧ ∀ p q : Int, 0 < q → (∀ b ∈ B2, p * b.2 < b.1 * q) → x.2 * q + p * (t - x.1) < (lnV (lineT x (lowEnd e1)) t + 1) * q := by
            rcases Int.lt_or_le x.1 t with z | z
            · refine ⟨[(lnV (lineT x (lowEnd e1)) t + 1 - x.2, t - x.1)], fun b hb => ?_, fun p q hq hb => ?_⟩
              · rw [List.mem_singleton.mp hb]
                exact ⟨by show 0 < t - x.1; omega, v⟩
              · have : p * (t - x.1) < (lnV (lineT x (lowEnd e1)) t + 1 - x.2) * q := hb _ (List.mem_singleton.mpr rfl)
                grind
            · have et : t = x.1 := by omega
              refine ⟨[], fun _ z => (nomatch z), fun p q hq _ => ?_⟩
              rw [et, Int.sub_self, Int.mul_zero] at v
              rw [et, Int.sub_self, Int.mul_zero, Int.add_zero]
              have : 0 < lnV (lineT x (lowEnd e1)) x.1 + 1 - x.2 := by
                rcases Int.lt_or_le 0 (lnV (lineT x (lowEnd e1)) x.1 + 1 - x.2) with y | y
                · exact y
                · have := Int.mul_le_mul_of_nonneg_right y (show 0 ≤ (lowEnd e1).2 by omega)
                  omega
              exact Int.mul_lt_mul_of_pos_right (by omega) hq
          obtain ⟨B2, hB2, hV⟩ := tb
          obtain ⟨p, q, q1, h1, h2⟩ := above_low (l := lowEnd e1) l2' (B := e2.toList ++ (B ++ B2)) fun b hb => by
            rcases List.mem_append.mp hb with hb | hb
            · match e2, lh, hb with
              | some g, lh, hb =>
                rw [List.mem_singleton.mp hb]
                exact lh g rfl
            · rcases List.mem_append.mp hb with hb | hb
              · exact hB b hb
              · exact hB2 b hb
          have p0 : 0 ≤ p := by
            have := Int.mul_nonneg l1 (show 0 ≤ q by omega)
            rcases Int.lt_or_le p 0 with z | z
            · have := Int.mul_neg_of_neg_of_pos z l2'
              omega
            · exact z
          have hi := cx.ins h1 fun g eg => h2 g (List.mem_append.mpr (.inl (by rw [eg]; exact List.mem_singleton.mpr rfl)))
          have f := top q1 hi p0 ex (hU p q q1 fun b hb => h2 b (List.mem_append.mpr (.inr (List.mem_append.mpr (.inl hb))))) (fun j u w hj hu hw => by
            have l1 := (List.getElem?_eq_none_iff.mp en)
            have l2 := (List.getElem?_eq_some_iff.mp hw).1
            omega)
          refine ⟨p, q, _, f, ?_⟩
          have u := at_val (N := lnV (lineT x (lowEnd e1)) t) (x := x) (p := p) (t := t) q1 (hV p q q1 fun b hb => h2 b (List.mem_append.mpr (.inr (List.mem_append.mpr (.inr hb)))))
          have w : lnV (lineT x (lowEnd e1)) t ≤ (p * t + hv p q x) / q := by
            refine over_line f hxp l2' ?_
            have := Int.mul_le_mul_of_nonneg_right (Int.le_of_lt h1) (show 0 ≤ t - x.1 by omega)
            grind
          omega
end
end Lf
namespace Lf
open PySem PySem.Spec PyProof.Rows L2
/-! ### the upper hull, as the program makes it -/
theorem obs_end {α : Type} {O : α → HO} {H : Hp} : ∀ {ds : List α} {d : α} {xs : List V}, Obs O H xs (ds ++ [d]) → ∃ us r, xs = us ++ [.ref r] ∧ Obs O H us ds ∧ H r = some (O d)
  | [], _, _, .cons e .nil => ⟨[], _, rfl, .nil, e⟩
  | _ :: _, _, _, .cons e o => by
    obtain ⟨us, r, rfl, h1, h2⟩ := obs_end o
    exact ⟨_ :: us, r, rfl, .cons e h1, h2⟩
theorem atI_last2 {α : Type} (xs : List α) (u v : α) : atI (xs ++ [u] ++ [v]) (-2) = some u := by
  have hl : (xs ++ [u] ++ [v]).length = xs.length + 2 := by simp
  have e : ixN (xs ++ [u] ++ [v]).length (-2) = some xs.length := by
    unfold ixN
    rw [hl, if_neg (by decide), if_pos (by omega)]
    congr 1
    omega
  unfold atI
  rw [e]
  show (xs ++ [u] ++ [v])[xs.length]? = some u
  simp
def PtB (k : Nat) (cs : List P2) : Prop := ∀ c ∈ cs, Bd k c.1 ∧ Bd k c.2
/-- all but the list at C stays -/
def Sx (C : Addr) (H H' : Hp) : Prop := ∀ b o, b ≠ C → H b = some o → H' b = some o
theorem Sx.refl (C : Addr) (H : Hp) : Sx C H H := fun _ _ _ e => e
theorem Sx.upd {C : Addr} {H H' : Hp} {o : HO} (s : Sx C H H') : Sx C H (upd H' C o) := fun b u n e => by
  rw [upd_ne n]
  exact s b u n e
theorem Sx.after {C : Addr} {H H' H2 : Hp} (s : Sx C H H') (t : Same H' H2) : Sx C H H2 := fun b u n e => t _ _ (s b u n e)
theorem Sx.obs {α : Type} {O : α → HO} {C : Addr} {H H' : Hp} {xs : List V} {ds : List α} (s : Sx C H H') (hC : ∀ d : α, H C ≠ some (O d)) (h : Obs O H xs ds) : Obs O H' xs ds :=
  h.keep fun b d e => s b _ (fun z => hC d (by rw [← z]; exact e)) e
section
variable {P : Program} {w : World} {K : PySem.W.Frag} {mg : Str → Option Value} {base : Heap}
def spHides : Sp := fun vs H Q _ => ∃ (C x : Addr) (xs : List V) (b : P2) (r : List P2) (p : P2) (k : Nat), vs = [.ref C, .ref x] ∧ H C = some (.lst xs) ∧ Obs ptO H xs (b :: r).reverse ∧ r.length ≤ 1000 ∧ H x = some (ptO p) ∧ PtB k (b :: r) ∧ (Bd k p.1 ∧ Bd k p.2) ∧ 0 < k ∧ k ≤ 7000 ∧
  ∀ o : Bool, (o = true ↔ hid (b :: r) p) → Q (.bl o) H
abbrev s_hides_last : Stmt := topS 46
abbrev N_hides_last : List Str := ["corners", "point", "t", "n", "before", "number"]
abbrev P_hides_last : List Str := ["corners", "point"]
theorem sc_hides_last : FnScope N_hides_last P_hides_last (defScope s_hides_last) := ⟨rfl, rfl, rfl, by decide +kernel, rfl, by decide +kernel, by decide +kernel⟩
theorem ok_hides_last (D : Df K mg "hides_last" s_hides_last P_hides_last) (B : Bi mg) : C8.Cal P w K mg base 1 "hides_last" spHides [] := by
  refine cal_of D sc_hides_last (fun vs H Q E h => ?_) (fun f cdv A outer s H vs Q E hr h => ?_)
  · obtain ⟨C, x, xs, b, r, p, k, rfl, _⟩ := h
    rfl
  · obtain ⟨C, x, xs, b, r, p, k, rfl, eC, oC, hl, ex, bc, bp, k0, k1, kk⟩ := h
    refine ⟨_, (pss_cons (ps_asg (pe_ix (r := rIxL K) ix_list (pv 0) (pe_un un_neg pe_int) (fun _ _ => rfl)) (pg_tup rfl (pgs_cons (pg_name (i := 2) sc_hides_last.nd rfl (Or.inl rfl)) (pgs_cons (pg_name (i := 3) sc_hides_last.nd rfl (Or.inl rfl)) pgs_nil))))
    (pss_cons (ps_if (pt_cmpR op_eq (pv 2) (pe_ix (r := rIxT K) ix_tup (pv 1) pe_int (fun _ _ => rfl)) (nomark _))
      (pss_one (ps_ret pe_bl))
      pss_nil)
    (pss_cons (ps_if (pt_cmpR op_eq (pe_callB (call_len_seq) (by rfl) B.len_ bt_len (pa_cons (pv 0) pa_nil)) pe_int (nomark _))
      (pss_one (ps_ret pe_bl))
      pss_nil)
    (pss_cons (ps_asg (pe_ix (r := rIxL K) ix_list (pv 0) (pe_un un_neg pe_int) (fun _ _ => rfl)) (pg_tup rfl (pgs_cons (pg_name (i := 4) sc_hides_last.nd rfl (Or.inl rfl)) (pgs_cons (pg_name (i := 5) sc_hides_last.nd rfl (Or.inl rfl)) pgs_nil))))
    (pss_one (ps_ret (pe_cmpR op_le (pe_op op_mulW (pe_op op_sub (pv 3) (pv 5)) (pe_op op_sub (pe_ix (r := rIxT K) ix_tup (pv 1) pe_int (fun _ _ => rfl)) (pv 2))) (pe_op op_mulW (pe_op op_sub (pe_ix (r := rIxT K) ix_tup (pv 1) pe_int (fun _ _ => rfl)) (pv 3)) (pe_op op_sub (pv 2) (pv 4))) (nomark _)))))))), ?_⟩
    rw [List.reverse_cons] at oC
    obtain ⟨us, rb, rfl, oU, eb⟩ := obs_end oC
    refine ⟨_, rfl, _, rfl, C, _, _, _, rfl, rfl, SqL.of eC, atI_last _ _, ?_⟩
    refine ⟨rb, _, rfl, SqT.of eb, rfl, _, _, rfl, _, _, rfl, rfl, ?_⟩
    refine ⟨_, rfl, _, rfl, x, _, _, _, rfl, rfl, SqT.of ex, atI_nat (j := 0) rfl, rfl, _, rfl, ite2 (fun c => ?_) (fun c => ?_)⟩
    · have c : b.1 = p.1 := V.int.inj (of_decide_eq_true c)
      refine kk true ⟨fun _ => ?_, fun _ => rfl⟩
      cases r with
      | nil => exact c
      | cons a r => exact .inl c
    have c : b.1 ≠ p.1 := fun z => c (decide_eq_true (by rw [z]))
    cases r with
    | nil =>
      cases oU
      refine ⟨_, rfl, C, _, rfl, .inl (SqL.of eC), rfl, _, rfl, iteT ?_⟩
      exact kk false ⟨fun z => (nomatch z), fun z => absurd z c⟩
    | cons a r =>
      rw [List.reverse_cons] at oU
      obtain ⟨us, ra, rfl, oV, ea⟩ := obs_end oU
      have lv := oV.len
      rw [List.length_reverse] at lv
      refine ⟨_, rfl, C, _, rfl, .inl (SqL.of eC), rfl, _, rfl, iteDn (fun z => ?_) ?_⟩
      · have z := V.int.inj z
        rw [List.length_append, List.length_append] at z
        simp only [List.length_singleton] at z
        omega
      refine ⟨_, rfl, _, rfl, C, _, _, _, rfl, rfl, SqL.of eC, atI_last2 _ _ _, ?_⟩
      refine ⟨ra, _, rfl, SqT.of ea, rfl, _, _, rfl, _, _, rfl, rfl, ?_⟩
      have bb := bc b List.mem_cons_self
      have ba := bc a (List.mem_cons_of_mem _ List.mem_cons_self)
      have d1 : Bd (k + 1) (b.2 - a.2) := Bd.sub bb.2 ba.2
      have d2 : Bd (k + 1) (p.1 - b.1) := Bd.sub bp.1 bb.1
      have d3 : Bd (k + 1) (p.2 - b.2) := Bd.sub bp.2 bb.2
      have d4 : Bd (k + 1) (b.1 - a.1) := Bd.sub bb.1 ba.1
      refine ⟨_, rfl, _, rfl, _, _, rfl, rfl, _, rfl, x, _, _, _, rfl, rfl, SqT.of ex, atI_nat (j := 0) rfl, _, rfl, _, _, rfl, rfl, _, _, rfl, rfl, mulW d1 d2 (by omega) (by omega) (by omega), ?_⟩
      refine ⟨_, rfl, x, _, _, _, rfl, rfl, SqT.of ex, atI_nat (j := 1) rfl, _, rfl, _, _, rfl, rfl, _, rfl, _, rfl, _, _, rfl, rfl, _, _, rfl, rfl, mulW d3 d4 (by omega) (by omega) (by omega), _, _, rfl, rfl, ?_⟩
      refine kk _ ⟨fun z => .inr ?_, fun z => decide_eq_true ?_⟩
      · have z := of_decide_eq_true z
        unfold bends
        omega
      · have z : b.1 = p.1 ∨ ¬ bends a b p := z
        have z := z.resolve_left c
        unfold bends at z
        omega
end
end Lf
namespace Lf
open PySem PySem.Spec PyProof.Rows L2
section
variable {P : Program} {w : World} {K : PySem.W.Frag} {mg : Str → Option Value} {base : Heap}
/-! ### upper_hull -/
def spHull : Sp := fun vs H Q _ => ∃ (L : Addr) (xs : List V) (ps : List P2) (k : Nat), vs = [.ref L] ∧ H L = some (.lst xs) ∧ Obs ptO H xs ps ∧ ps.length ≤ 1000 ∧ PtB k ps ∧ 0 < k ∧ k ≤ 7000 ∧
  ∀ C H' ys rs, Same H H' → H C = none → H' C = some (.lst ys) → Obs ptO H' ys rs.reverse → HullI rs ps → rs.length ≤ ps.length → Q (.ref C) H'
def muH (C : Addr) : L2.St → Hp → Nat := fun _ H => match H C with
  | some (.lst ys) => ys.length
  | _ => 0
theorem HullI.perm {rs es ps : List P2} (h : HullI rs es) (p : es.Perm ps) : HullI rs ps := ⟨h.ch, fun x hx => h.dm x (p.mem_iff.mpr hx), fun c hc => p.mem_iff.mp (h.sb c hc)⟩
abbrev s_upper_hull : Stmt := topS 45
abbrev N_upper_hull : List Str := ["points", "corners", "point"]
abbrev P_upper_hull : List Str := ["points"]
theorem sc_upper_hull : FnScope N_upper_hull P_upper_hull (defScope s_upper_hull) := ⟨rfl, rfl, rfl, by decide +kernel, rfl, by decide +kernel, by decide +kernel⟩
theorem ok_upper_hull (D : Df K mg "upper_hull" s_upper_hull P_upper_hull) (B : Bi mg) (c_hides_last : C8.Cal P w K mg base 1 "hides_last" spHides []) : C8.Cal P w K mg base 2 "upper_hull" spHull [] := by
  refine cal_of D sc_upper_hull (fun vs H Q E h => ?_) (fun f cdv A outer s H vs Q E hr h => ?_)
  · obtain ⟨L, xs, ps, k, rfl, _⟩ := h
    rfl
  · obtain ⟨L, xs, ps, k, rfl, eL, oP, hl, bp, k0, k1, kk⟩ := h
    refine ⟨_, (pss_cons (ps_set (i := 1) sc_upper_hull.nd rfl (Or.inl rfl) (pe_lst pa_nil))
    (pss_cons (ps_for PassesOwn.never rfl (pi_list (pe_callB (cr_sortP hr.units) (by rfl) B.sorted_ bt_sorted (pa_cons (pv 0) pa_nil))) (pg_name (i := 2) sc_upper_hull.nd rfl (Or.inl rfl))
      (pss_cons (ps_while PassesOwn.never (PW.pt (pw_and (pt_truth (pv 1) (fun _ => rfl)) (pw_and1 (pt_val (C8.pe_c c_hides_last hr (by decide) (by rfl) (pa_cons (pv 1) (pa_cons (pv 2) pa_nil)))))))
      (pss_one (ps_expr (pe_bm0 PySem.F.plainAttrs_list PySem.F.slot_list_pop PySem.F.type_list_pop mt_pop (pv 1)))))
    (pss_one (ps_expr (pe_bm PySem.F.plainAttrs_list PySem.F.slot_list_append PySem.F.type_list_append mt_append (pv 1) (pa_cons (pv 2) pa_nil))))))
    (pss_one (ps_ret (pv 1))))), ?_⟩
    refine ⟨Nat.zero_le _, fun C nC => ?_⟩
    have s1 := sm_upd (o := .lst []) nC
    refine ⟨_, rfl, L, xs, ps, rfl, SqL.of (s1 _ _ eL), oP.same s1, fun us es p oE pm srt np => ?_⟩
    have pl := pm.length_eq
    have s2 := sm_upd (o := .lst us) np
    have eC := s2 _ _ (upd_same (H := H) (a := C) (o := .lst []))
    have oE := oE.same s2
    have ep : upd (upd H C (.lst [])) p (.lst us) p = some (.lst us) := upd_same
    have pC : p ≠ C := fun z => by rw [z, upd_same] at np; cases np
    have s12 := s1.trans s2
    generalize upd (upd H C (.lst [])) p (.lst us) = H1 at s2 eC oE ep s12
    have be : PtB k es := fun c hc => bp c (pm.mem_iff.mp hc)
    have CnO : ∀ d : P2, H1 C ≠ some (ptO d) := fun d z => by rw [eC] at z; cases z
    refine ⟨p, rfl, ⟨us, SqL.of ep⟩, ?_⟩
    refine for_list (a := p) (xs := us) (Pv := fun i σ H' => ∃ (ys : List V) (rs : List P2) (y2 : Option V), σ = [some (.ref L), some (.ref C), y2] ∧ H' C = some (.lst ys) ∧ Obs ptO H' ys rs.reverse ∧ HullI rs (es.take i) ∧ rs.length ≤ i ∧ Sx C H1 H') ?_ ?_ ?_ ?_
    · exact ⟨[], [], _, rfl, eC, .nil, HullI.nil, Nat.zero_le _, Sx.refl _ _⟩
    · rintro i σ H' _ ⟨ys, rs, y2, rfl, _, _, _, _, sx⟩
      exact SqL.of (sx _ _ pC ep)
    · rintro i v σ H2 hv ⟨ys, rs, y2, rfl, eC2, oR, hI, rl, sx⟩
      obtain ⟨r, e, rfl, er, he⟩ := oE.at hv
      have hi := (List.getElem?_eq_some_iff.mp he).1
      have em : e ∈ es := List.mem_of_getElem? he
      have et : es.take (i + 1) = es.take i ++ [e] := by rw [List.take_add_one, he]; rfl
      have ini : PopI rs (es.take i) e := PopI.init hI fun c hc => by
        obtain ⟨j, hj⟩ := List.getElem?_of_mem hc
        have hj2 := (List.getElem?_eq_some_iff.mp hj).1
        rw [List.length_take] at hj2
        rw [List.getElem?_take_of_lt (by omega)] at hj
        have e1 := (List.getElem?_eq_some_iff.mp hj).2
        have e2 := (List.getElem?_eq_some_iff.mp he).2
        have l := List.pairwise_iff_getElem.mp srt j i (by omega) hi (by omega)
        rw [e1, e2] at l
        unfold lexL at l
        omega
      refine while_by (fun σ H' => ∃ (ys : List V) (rs : List P2), σ = [some (.ref L), some (.ref C), some (.ref r)] ∧ H' C = some (.lst ys) ∧ Obs ptO H' ys rs.reverse ∧ PopI rs (es.take i) e ∧ rs.length ≤ i ∧ Sx C H1 H') (muH C) ⟨ys, rs, rfl, eC2, oR, ini, rl, sx⟩ ?_ ?_
      · rintro σ H3 ⟨ys, rs, rfl, eC3, oR, pI, rl, sx⟩
        have fin : ¬ hid rs e → ys.length < sizeLine ∧ ∃ (ys' : List V) (rs : List P2) (y2 : Option V), [some (V.ref L), some (.ref C), some (.ref r)] = [some (.ref L), some (.ref C), y2] ∧ upd H3 C (.lst (ys ++ [.ref r])) C = some (.lst ys') ∧ Obs ptO (upd H3 C (.lst (ys ++ [.ref r]))) ys' rs.reverse ∧ HullI rs (es.take (i + 1)) ∧ rs.length ≤ i + 1 ∧ Sx C H1 (upd H3 C (.lst (ys ++ [.ref r]))) := fun nh => by
          have yl := oR.len
          rw [List.length_reverse] at yl
          have er3 := sx _ _ (fun z => CnO e (by rw [← z]; exact er)) er
          refine ⟨small1000 (by omega), ys ++ [.ref r], e :: rs, _, rfl, upd_same, ?_, ?_, by rw [List.length_cons]; omega, sx.upd⟩
          · rw [List.reverse_cons]
            refine Obs.keep (oR.snoc er3) fun b d eb => ?_
            rw [upd_ne (fun z => by rw [z, eC3] at eb; cases eb)]
            exact eb
          · rw [et]
            exact pI.push nh
        refine ⟨_, rfl, _, .inl ⟨ys, SqL.of eC3, rfl⟩, ?_⟩
        cases rs with
        | nil =>
          cases oR
          obtain ⟨f1, f2⟩ := fin (fun z => z)
          exact iteF (iteF ⟨_, rfl, .inl ⟨rfl, _, SqL.of eC3⟩, _, rfl, C, _, _, rfl, rfl, eC3, f1, f2⟩)
        | cons b rt =>
          have yl := oR.len
          rw [List.length_reverse, List.length_cons] at yl
          cases ys with
          | nil => simp at yl
          | cons y0 yt =>
          rw [List.length_cons] at rl
          have er3 := sx _ _ (fun z => CnO e (by rw [← z]; exact er)) er
          refine iteT ⟨_, rfl, _, rfl, C, r, y0 :: yt, b, rt, e, k, rfl, eC3, oR, by omega, er3, fun c hc => ?_, be e em, k0, k1, fun o ho => ?_⟩
          · have := pI.sb c hc
            exact be c (List.mem_of_mem_take this)
          · refine ⟨o, rfl, ?_⟩
            cases o with
            | false =>
              obtain ⟨f1, f2⟩ := fin fun z => by have := ho.mpr z; cases this
              exact iteF ⟨_, rfl, .inl ⟨rfl, _, SqL.of eC3⟩, _, rfl, C, _, _, rfl, rfl, eC3, f1, f2⟩
            | true =>
              have hd := ho.mp rfl
              rw [List.reverse_cons] at oR
              obtain ⟨us', rb, ey, oU, eb⟩ := obs_end oR
              rw [ey] at eC3
              refine iteT ⟨_, rfl, .inl ⟨rfl, _, SqL.of eC3⟩, C, _, .ref rb, rfl, rfl, eC3, ?_, ?_⟩
              · rw [List.length_append, List.length_singleton, Nat.add_sub_cancel, List.getElem?_append_right (Nat.le_refl _), Nat.sub_self]
                rfl
              · refine ⟨⟨us', rt, rfl, ?_, ?_, pI.pop hd, by omega, sx.upd⟩, ?_⟩
                · rw [upd_same, List.dropLast_concat]
                · refine Obs.keep oU fun b' d eb' => ?_
                  rw [upd_ne (fun z => by rw [z, eC3] at eb'; cases eb')]
                  exact eb'
                · unfold muH
                  rw [upd_same, eC3, List.dropLast_concat]
                  simp
      · rintro σ H3 Q1 Q2 hQ ⟨v1, h1, b1, h2, h3⟩
        refine ⟨v1, h1, b1, h2, ?_⟩
        cases b1 with
        | false => exact hQ _ _ h3
        | true =>
          obtain ⟨a1, g1, a2, g2, C', x', xs', b', r', p', k', g3, g4, g5, g6, g7, g8, g9, g10, g11, g12⟩ := h3
          exact ⟨a1, g1, a2, g2, C', x', xs', b', r', p', k', g3, g4, g5, g6, g7, g8, g9, g10, g11, fun o ho => let ⟨c, q1, q2⟩ := g12 o ho; ⟨c, q1, hQ _ _ q2⟩⟩
    · rintro σ H2 ⟨ys, rs, y2, rfl, eC2, oR, hI, rl, sx⟩
      have ul := oE.len
      rw [ul, List.take_length] at hI
      refine ⟨_, rfl, ?_⟩
      refine kk C H2 ys rs (fun b o e => sx b o (ne_of_none e nC) (s12 _ _ e)) nC eC2 oR (hI.perm pm) (by omega)
end
end Lf
namespace Lf
open PySem PySem.Spec PyProof.Rows L2
/-! ### low_corners -/
theorem cut_drop1' (xs : List V) : cutV xs (some 1) none = xs.drop 1 := by
  unfold cutV
  rw [HT.sIx_none, show HT.sIx xs.length 0 (some (1 : Int)) = min 1 xs.length from HT.sIx_nat _ _ 1]
  cases xs with
  | nil => rfl
  | cons x xs => simp
theorem cut_between {xs : List V} (f l : Nat) : cutV xs (some ((f : Nat) : Int)) (some ((l : Nat) : Int)) = (xs.drop f).take (l - f) := by
  unfold cutV
  rw [HT.sIx_nat, HT.sIx_nat]
  rcases Nat.le_total xs.length f with h | h
  · rw [Nat.min_eq_right h, List.drop_length, List.drop_eq_nil_of_le h]
    simp
  · rw [Nat.min_eq_left h]
    rcases Nat.le_total l xs.length with g | g
    · rw [Nat.min_eq_left g]
    · rw [Nat.min_eq_right g, List.take_of_length_le (by rw [List.length_drop]; omega), List.take_of_length_le (by rw [List.length_drop]; omega)]
theorem pts_take {ds : List Rec} {i : Nat} {d : Rec} (h : ds[i]? = some d) : pts (ds.take (i + 1)) = pts (ds.take i) ++ (if d.lo = true then [(d.t, d.n)] else []) := by
  unfold pts
  rw [List.take_add_one, h]
  simp only [Option.toList_some, List.filter_append, List.map_append]
  cases e : d.lo <;> simp [e]
theorem pts_len (ds : List Rec) : (pts ds).length ≤ ds.length := by
  unfold pts
  rw [List.length_map]
  exact List.length_filter_le _ _
theorem pts_bd {k : Nat} {ds : List Rec} (h : RcB k ds) : PtB k (pts ds) := fun c hc => by
  obtain ⟨d, hd, _, rfl⟩ := mem_pts.mp hc
  exact h d hd
/-- edges in a row: pairs of corners -/
def Edgs (H : Hp) (ts : List Addr) (es : List (P2 × P2)) : Prop := ts.length = es.length ∧ ∀ (j : Nat) (T : Addr) (e : P2 × P2), ts[j]? = some T → es[j]? = some e → ∃ a b, H T = some (.tup [.ref a, .ref b]) ∧ H a = some (ptO e.1) ∧ H b = some (ptO e.2)
theorem Edgs.same {H H' : Hp} {ts : List Addr} {es : List (P2 × P2)} (h : Edgs H ts es) (s : Same H H') : Edgs H' ts es := ⟨h.1, fun j T e h1 h2 => by
  obtain ⟨a, b, g1, g2, g3⟩ := h.2 j T e h1 h2
  exact ⟨a, b, s _ _ g1, s _ _ g2, s _ _ g3⟩⟩
theorem edgs_of {H1 H2 : Hp} {ys : List V} {cs : List P2} {ts : List Addr} (oC : Obs ptO H1 ys cs) (s : Same H1 H2) (hl : ts.length = min ys.length (ys.drop 1).length) (z : ZIt H1 H2 ys (ys.drop 1) ts) : Edgs H2 ts (edg cs) := by
  refine ⟨?_, fun j T e h1 h2 => ?_⟩
  · rw [hl, edg_len, List.length_drop, oC.len]
    omega
  · obtain ⟨_, x, y, hx, hy, eT⟩ := z j T h1
    obtain ⟨h3, h4⟩ := edg_at.mp h2
    rw [List.getElem?_drop, Nat.add_comm] at hy
    obtain ⟨ra, g1, g2⟩ := oC.on h3
    obtain ⟨rb, g3, g4⟩ := oC.on h4
    rw [hx] at g1
    rw [hy] at g3
    cases g1
    cases g3
    exact ⟨ra, rb, eT, s _ _ g2, s _ _ g4⟩
section
variable {P : Program} {w : World} {K : PySem.W.Frag} {mg : Str → Option Value} {base : Heap}
def spLowE : Sp := fun vs H Q _ => ∃ (E : Addr) (a b : V) (e1 : Option (Int × Int)) (k : Nat), vs = [.ref E] ∧ H E = some (.tup [a, b]) ∧ EndV H k a e1 ∧ ∀ r H', Same H H' → H' r = some (tup2 (lowEnd e1).1 (lowEnd e1).2) → Q (.ref r) H'
abbrev s_low_end : Stmt := topS 43
abbrev N_low_end : List Str := ["ends"]
abbrev P_low_end : List Str := ["ends"]
theorem sc_low_end : FnScope N_low_end P_low_end (defScope s_low_end) := ⟨rfl, rfl, rfl, by decide +kernel, rfl, by decide +kernel, by decide +kernel⟩
theorem ok_low_end (D : Df K mg "low_end" s_low_end P_low_end) : C8.Cal P w K mg base 1 "low_end" spLowE [] := by
  refine cal_of D sc_low_end (fun vs H Q E h => ?_) (fun f cdv A outer s H vs Q E hr h => ?_)
  · obtain ⟨E, a, b, e1, k, rfl, _⟩ := h
    rfl
  · obtain ⟨E, a, b, e1, k, rfl, eE, ea, kk⟩ := h
    refine ⟨_, (pss_one (ps_ret (pe_ifExp (pt_cmpR op_isN (pe_ix (r := rIxT K) ix_tup (pv 0) pe_int (fun _ _ => rfl)) pe_non (nomark _)) (pe_tup (pa_cons pe_int (pa_cons pe_int pa_nil))) (pe_ix (r := rIxT K) ix_tup (pv 0) pe_int (fun _ _ => rfl))))), ?_⟩
    match e1, ea, kk with
    | none, ea, kk =>
      cases ea
      refine ⟨_, rfl, E, _, _, _, rfl, rfl, SqT.of eE, atI_nat (j := 0) rfl, rfl, _, rfl, iteT ?_⟩
      exact ⟨len10 (by simp), fun r nr => kk r _ (sm_upd nr) upd_same⟩
    | some e, ⟨r, ha, er, _⟩, kk =>
      cases ha
      refine ⟨_, rfl, E, _, _, _, rfl, rfl, SqT.of eE, atI_nat (j := 0) rfl, rfl, _, rfl, iteF ?_⟩
      exact ⟨_, rfl, E, _, _, _, rfl, rfl, SqT.of eE, atI_nat (j := 0) rfl, kk r _ (fun _ _ z => z) er⟩
def spSteep : Sp := fun vs H Q _ => ∃ (g R ra rb : Addr) (a b : P2) (p q : Int) (k : Nat), vs = [.ref g, .ref R] ∧ H g = some (.tup [.ref ra, .ref rb]) ∧ H ra = some (ptO a) ∧ H rb = some (ptO b) ∧ H R = some (tup2 p q) ∧
  Bd k a.1 ∧ Bd k a.2 ∧ Bd k b.1 ∧ Bd k b.2 ∧ Bd k p ∧ Bd k q ∧ 0 < k ∧ k ≤ 7000 ∧ Q (.int (stp a b p q)) H
abbrev s_steepness : Stmt := topS 44
abbrev N_steepness : List Str := ["edge", "rate", "t", "n", "other_t", "other_n"]
abbrev P_steepness : List Str := ["edge", "rate"]
theorem sc_steepness : FnScope N_steepness P_steepness (defScope s_steepness) := ⟨rfl, rfl, rfl, by decide +kernel, rfl, by decide +kernel, by decide +kernel⟩
theorem ok_steepness (D : Df K mg "steepness" s_steepness P_steepness) : C8.Cal P w K mg base 1 "steepness" spSteep [] := by
  refine cal_of D sc_steepness (fun vs H Q E h => ?_) (fun f cdv A outer s H vs Q E hr h => ?_)
  · obtain ⟨g, R, ra, rb, a, b, p, q, k, rfl, _⟩ := h
    rfl
  · obtain ⟨g, R, ra, rb, a, b, p, q, k, rfl, eg, ea, eb, eR, b1, b2, b3, b4, bp, bq, k0, k1, kk⟩ := h
    refine ⟨_, (pss_cons (ps_asg (pv 0) (pg_tup rfl (pgs_cons (pg_tup rfl (pgs_cons (pg_name (i := 2) sc_steepness.nd rfl (Or.inl rfl)) (pgs_cons (pg_name (i := 3) sc_steepness.nd rfl (Or.inl rfl)) pgs_nil))) (pgs_cons (pg_tup rfl (pgs_cons (pg_name (i := 4) sc_steepness.nd rfl (Or.inl rfl)) (pgs_cons (pg_name (i := 5) sc_steepness.nd rfl (Or.inl rfl)) pgs_nil))) pgs_nil))))
    (pss_one (ps_ret (pe_op op_sub (pe_op op_mulW (pe_op op_sub (pv 5) (pv 3)) (pe_ix (r := rIxT K) ix_tup (pv 1) pe_int (fun _ _ => rfl))) (pe_op op_mulW (pe_ix (r := rIxT K) ix_tup (pv 1) pe_int (fun _ _ => rfl)) (pe_op op_sub (pv 4) (pv 2))))))), ?_⟩
    refine ⟨_, rfl, g, _, rfl, SqT.of eg, rfl, _, _, rfl, ra, _, rfl, SqT.of ea, rfl, _, _, rfl, _, _, rfl, rfl, _, _, rfl, rb, _, rfl, SqT.of eb, rfl, _, _, rfl, _, _, rfl, rfl, rfl, ?_⟩
    have d1 : Bd (k + 1) (b.2 - a.2) := Bd.sub b4 b2
    have d2 : Bd (k + 1) (b.1 - a.1) := Bd.sub b3 b1
    refine ⟨_, rfl, _, rfl, _, _, rfl, rfl, _, rfl, R, _, _, _, rfl, rfl, SqT.of eR, atI_nat (j := 1) rfl, _, _, rfl, rfl, mulW d1 bq (by omega) k0 (by omega), ?_⟩
    exact ⟨_, rfl, R, _, _, _, rfl, rfl, SqT.of eR, atI_nat (j := 0) rfl, _, rfl, _, rfl, _, _, rfl, rfl, _, _, rfl, rfl, mulW bp d2 k0 (by omega) (by omega), _, _, rfl, rfl, kk⟩
def spLow : Sp := fun vs H Q _ => ∃ (L E : Addr) (kb : Bool) (xs : List V) (ds : List Rec) (a b : V) (e1 e2 : Option (Int × Int)) (k : Nat), vs = [.ref L, .ref E] ∧ H L = some (sqO kb xs) ∧ Obs rcO H xs ds ∧ ds.length ≤ 1000 ∧ RcB k ds ∧ 0 < k ∧ k ≤ 6000 ∧
  H E = some (.tup [a, b]) ∧ EndV H (k + 2) a e1 ∧ EndV H (k + 2) b e2 ∧ 0 < (lowEnd e1).2 ∧ (∀ g, e2 = some g → 0 < g.2 ∧ (lowEnd e1).1 * g.2 < g.1 * (lowEnd e1).2) ∧
  ∀ C H' ys kc, Same H H' → H' C = some (.lst ys) → Obs ptO H' ys kc → LowC (lowEnd e1) e2 (pts ds) kc → kc.length ≤ ds.length → Q (.ref C) H'
theorem lowEnd_bd {H : Hp} {k : Nat} {a : V} {e1 : Option (Int × Int)} (h : EndV H (k + 2) a e1) : Bd (k + 2) (lowEnd e1).1 ∧ Bd (k + 2) (lowEnd e1).2 := by
  match e1, h with
  | none, _ => exact ⟨Bd.small 1 (by decide) (by omega), Bd.small 1 (by decide) (by omega)⟩
  | some e, ⟨_, _, _, R⟩ => exact ⟨R.bp, R.bq⟩
abbrev s_low_corners : Stmt := topS 42
abbrev N_low_corners : List Str := ["records", "ends", "corners", "edges", "low", "high", "first", "last", "word", "t", "n", "edge"]
abbrev P_low_corners : List Str := ["records", "ends"]
theorem sc_low_corners : FnScope N_low_corners P_low_corners (defScope s_low_corners) := ⟨rfl, rfl, rfl, by decide +kernel, rfl, by decide +kernel, by decide +kernel⟩
theorem ok_low_corners (D : Df K mg "low_corners" s_low_corners P_low_corners) (B : Bi mg) (c_upper_hull : C8.Cal P w K mg base 2 "upper_hull" spHull []) (c_steepness : C8.Cal P w K mg base 1 "steepness" spSteep []) (c_low_end : C8.Cal P w K mg base 1 "low_end" spLowE []) : C8.Cal P w K mg base 3 "low_corners" spLow [] := by
  refine cal_of D sc_low_corners (fun vs H Q E h => ?_) (fun f cdv A outer s H vs Q E hr h => ?_)
  · obtain ⟨L, E, kb, xs, ds, a, b, e1, e2, k, rfl, _⟩ := h
    rfl
  · obtain ⟨L, E, kb, xs, ds, a, b, e1, e2, k, rfl, eL, hO, hl, bd, k0, k1, eE, va, vb, l2, lh, kk⟩ := h
    refine ⟨_, (pss_cons (ps_set (i := 2) sc_low_corners.nd rfl (Or.inl rfl) (C8.pe_c c_upper_hull hr (by decide) (by rfl) (pa_cons (pe_lc (own := [("word", 8), ("t", 9), ("n", 10)]) (g := (gTup K 3 (gCons (gName 8) (gCons (gName 9) (gCons (gName 10) gNil))))) (by rfl) sc_low_corners.nd (pi_seq (pv 0)) (blkOk_by (own := [("word", 8), ("t", 9), ("n", 10)]) (N := N_low_corners) (sc := defScope s_low_corners) (by decide +kernel)) (fun _ _ _ _ _ => (pg_tup rfl (pgs_cons (pg_name (i := 8) sc_low_corners.nd rfl (Or.inl rfl)) (pgs_cons (pg_name (i := 9) sc_low_corners.nd rfl (Or.inl rfl)) (pgs_cons (pg_name (i := 10) sc_low_corners.nd rfl (Or.inl rfl)) pgs_nil))))) (fun _ _ _ _ _ => (pts_one (pt_cmpR op_eq (pv 8) pe_str (nomark _)))) (fun _ _ _ _ _ => (pe_tup (pa_cons (pv 9) (pa_cons (pv 10) pa_nil))))) pa_nil)))
    (pss_cons (ps_set (i := 3) sc_low_corners.nd rfl (Or.inl rfl) (pe_lz rfl (by rfl) B.list_ (by rfl) B.zip_ (pa_cons (pv 2) (pa_cons (pe_slice sl_list (pv 2) (po_some pe_int) po_none) pa_nil))))
    (pss_cons (ps_asg (pv 1) (pg_tup rfl (pgs_cons (pg_name (i := 4) sc_low_corners.nd rfl (Or.inl rfl)) (pgs_cons (pg_name (i := 5) sc_low_corners.nd rfl (Or.inr rfl)) pgs_nil))))
    (C8.pss_cut (ps_set (i := 6) sc_low_corners.nd rfl (Or.inl rfl) (pe_ifExp (pt_cmpR op_isN (pv 5) pe_non (nomark _)) pe_int (pe_callB (call_len_seq) (by rfl) B.len_ bt_len (pa_cons (pe_lc (own := [("edge", 11)]) (g := (gName 11)) (by rfl) sc_low_corners.nd (pi_list (pv 3)) (blkOk_by (own := [("edge", 11)]) (N := N_low_corners) (sc := defScope s_low_corners) (by decide +kernel)) (fun _ _ _ _ _ => (pg_name (i := 11) sc_low_corners.nd rfl (Or.inl rfl))) (fun _ _ _ _ _ => (pts_one (pt_cmpR op_ge (C8.pe_c c_steepness hr (by decide) (by rfl) (pa_cons (pv 11) (pa_cons (pv 5) pa_nil))) pe_int (nomark _)))) (fun _ _ _ _ _ => (pv 11))) pa_nil))))
    (pss_cons (ps_set (i := 7) sc_low_corners.nd rfl (Or.inl rfl) (pe_callB (call_len_seq) (by rfl) B.len_ bt_len (pa_cons (pe_lc (own := [("edge", 11)]) (g := (gName 11)) (by rfl) sc_low_corners.nd (pi_list (pv 3)) (blkOk_by (own := [("edge", 11)]) (N := N_low_corners) (sc := defScope s_low_corners) (by decide +kernel)) (fun _ _ _ _ _ => (pg_name (i := 11) sc_low_corners.nd rfl (Or.inl rfl))) (fun _ _ _ _ _ => (pts_one (pt_cmpR op_gt (C8.pe_c c_steepness hr (by decide) (by rfl) (pa_cons (pv 11) (pa_cons (C8.pe_c c_low_end hr (by decide) (by rfl) (pa_cons (pv 1) pa_nil)) pa_nil))) pe_int (nomark _)))) (fun _ _ _ _ _ => (pv 11))) pa_nil)))
    (pss_one (ps_ret (pe_slice sl_list (pv 2) (po_some (pv 6)) (po_some (pe_op op_add (pv 7) pe_int)))))))))), ?_⟩
    refine ⟨_, rfl, L, kb, xs, rfl, SqB.of eL, fun A nA => ?_⟩
    refine lc_it (walk_seq (K := K) (b := kb) (a := L) (xs := xs)) (fun i H' => ∃ as, H' A = some (.lst as) ∧ Obs ptO H' as (pts (ds.take i)) ∧ Same H H') ⟨_, upd_same, .nil, sm_upd nA⟩ ?_ ?_ ?_
    · rintro i H1 _ ⟨_, _, _, s1⟩
      exact SqB.of (s1 _ _ eL)
    · rintro i v H1 H2 hi ⟨as, eA, oA, s1⟩ ⟨rfl, hx⟩
      obtain ⟨r, d, rfl, er, hd⟩ := hO.at hx
      have hdl := (List.getElem?_eq_some_iff.mp hd).1
      refine ⟨r, _, rfl, SqT.of (s1 _ _ er), rfl, _, _, rfl, _, _, rfl, _, _, rfl, rfl, ?_⟩
      refine ⟨rfl, _, rfl, rfl, _, rfl, ?_⟩
      rw [w_lo]
      have al : as.length < sizeLine := by
        have h1 := oA.len
        have h2 := pts_len (ds.take i)
        rw [List.length_take] at h2
        exact small1000 (by omega)
      cases hb : d.lo with
      | true =>
        refine iteT ⟨_, rfl, _, rfl, len10 (by simp), fun t nt => ?_⟩
        have z2 := sm_upd (o := .tup [.int d.t, .int d.n]) nt
        have nA2 : t ≠ A := (ne_of_none eA nt).symm
        refine ⟨as, z2 _ _ eA, al, _, upd_same, ?_, ?_⟩
        · rw [pts_take hd, if_pos hb]
          refine Obs.snoc (Obs.keep (oA.same z2) fun b d' e => ?_) ?_
          · rw [upd_ne (ne_of e (z2 _ _ eA) (by intro q; cases q))]
            exact e
          · rw [upd_ne nA2]
            exact upd_same
        · intro b o e
          rw [upd_ne (ne_of_none e nA)]
          exact z2 _ _ (s1 _ _ e)
      | false =>
        refine iteF ⟨as, eA, ?_, s1⟩
        rw [pts_take hd, if_neg (by rw [hb]; exact Bool.false_ne_true), List.append_nil]
        exact oA
    rintro H1 ⟨as, eA, oA, s1⟩
    rw [List.take_of_length_le (by rw [hO.len]; exact Nat.le_refl _)] at oA
    have pl := pts_len ds
    refine ⟨A, as, pts ds, k, rfl, eA, oA, by omega, pts_bd bd, k0, by omega, fun C H2 ys rs s2 nC eC oC hI rl => ?_⟩
    have s12 := s1.trans s2
    have yl := oC.len
    rw [List.length_reverse] at yl
    -- the edges
    refine ⟨_, rfl, _, rfl, _, rfl, C, ys, rfl, SqL.of eC, fun p np => ?_⟩
    have s3 := sm_upd (o := .lst (cutV ys (some 1) none)) np
    have ep : upd H2 p (.lst (cutV ys (some 1) none)) p = some (.lst (cutV ys (some 1) none)) := upd_same
    generalize upd H2 p (.lst (cutV ys (some 1) none)) = H3 at s3 ep
    rw [cut_drop1'] at ep
    refine ⟨C, p, ys, _, rfl, SqL.of (s3 _ _ eC), SqL.of ep, fun S H4 ts nS s4 eS lS zS => ?_⟩
    have hE := edgs_of (oC.same s3) s4 lS zS
    generalize hcn : rs.reverse = cn at oC hE
    have hch : ChF cn := hcn ▸ chn_chf hI.ch
    have hdm : Dom cn (pts ds) := fun x hx p q hq => by
      obtain ⟨c, hc, e⟩ := hI.dm x hx p q hq
      exact ⟨c, by rw [← hcn]; exact List.mem_reverse.mpr hc, e⟩
    have hsb : ∀ c ∈ cn, c ∈ pts ds := fun c hc => hI.sb c (by rw [← hcn] at hc; exact List.mem_reverse.mp hc)
    have hcl : cn.length = rs.length := by rw [← hcn, List.length_reverse]
    have bcn : PtB k cn := fun c hc => pts_bd bd c (hsb c hc)
    have s14 := s12.trans (s3.trans s4)
    have eE4 := s14 _ _ eE
    have elen := hE.1
    rw [edg_len] at elen
    refine ⟨_, rfl, E, _, rfl, SqT.of eE4, rfl, _, _, rfl, _, _, rfl, rfl, ?_⟩
    have bE : ∀ {j : Nat} {T : Addr} {e : P2 × P2}, ts[j]? = some T → (edg cn)[j]? = some e → Bd (k + 2) e.1.1 ∧ Bd (k + 2) e.1.2 ∧ Bd (k + 2) e.2.1 ∧ Bd (k + 2) e.2.2 := fun _ h2 => by
      obtain ⟨h3, h4⟩ := edg_at.mp h2
      have g1 := bcn _ (List.mem_of_getElem? h3)
      have g2 := bcn _ (List.mem_of_getElem? h4)
      exact ⟨g1.1.mono (by omega), g1.2.mono (by omega), g2.1.mono (by omega), g2.2.mono (by omega)⟩
    refine ⟨fun σ' H' => σ' = [some (.ref L), some (.ref E), some (.ref C), some (.ref S), some a, some b, some (.int (firstE e2 cn : Nat)), none, none, none, none, none] ∧ Same H4 H', ?_, ?_⟩
    · match e2, vb with
      | none, vb =>
        cases vb
        exact ⟨_, rfl, rfl, _, rfl, iteT ⟨rfl, fun _ _ z => z⟩⟩
      | some g, ⟨R, hb, eR, Rg⟩ =>
        cases hb
        refine ⟨_, rfl, rfl, _, rfl, iteF ?_⟩
        refine ⟨_, rfl, S, rfl, ⟨_, SqL.of eS⟩, fun D1 nD1 => ?_⟩
        refine lc_list (K := K) (a := S) (xs := ts.map V.ref) (fun i H' => Same H4 H' ∧ ∃ vs, H' D1 = some (.lst vs) ∧ vs.length = (((edg cn).take i).filter (geB g.1 g.2)).length) ⟨sm_upd nD1, _, upd_same, rfl⟩ ?_ ?_ ?_
        · rintro i H5 _ ⟨s5, _⟩
          exact SqL.of (s5 _ _ eS)
        · rintro i x H5 hx ⟨s5, vs, eD, vl⟩
          rw [List.getElem?_map] at hx
          cases hT : ts[i]? with
          | none => rw [hT] at hx; cases hx
          | some T =>
            rw [hT] at hx
            cases hx
            have hi := (List.getElem?_eq_some_iff.mp hT).1
            have he : (edg cn)[i]? = some ((edg cn)[i]'(by rw [← hE.1]; exact hi)) := List.getElem?_eq_getElem _
            generalize (edg cn)[i]'(by rw [← hE.1]; exact hi) = e at he
            obtain ⟨ra, rb, g1, g2, g3⟩ := (hE.same s5).2 i T e hT he
            obtain ⟨b1, b2, b3, b4⟩ := bE hT he
            have et : ((edg cn).take (i + 1)).filter (geB g.1 g.2) = ((edg cn).take i).filter (geB g.1 g.2) ++ [e].filter (geB g.1 g.2) := by rw [List.take_add_one, he, List.filter_append]; rfl
            have fl := List.length_filter_le (geB g.1 g.2) ((edg cn).take i)
            rw [List.length_take] at fl
            refine ⟨rfl, _, rfl, _, rfl, T, R, ra, rb, e.1, e.2, g.1, g.2, k + 2, rfl, g1, g2, g3, s5 _ _ (s14 _ _ eR), b1, b2, b3, b4, Rg.bp, Rg.bq, by omega, by omega, _, _, rfl, rfl, _, rfl, ?_⟩
            refine ite2 (fun c => ?_) (fun c => ?_)
            · refine ⟨_, rfl, vs, eD, small1000 (by omega), ?_, vs ++ [.ref T], upd_same, ?_⟩
              · intro b' o eb
                rw [upd_ne (ne_of_none eb nD1)]
                exact s5 _ _ eb
              · rw [et, List.length_append, List.length_append, vl]
                have : geB g.1 g.2 e = true := c
                simp [this]
            · refine ⟨s5, vs, eD, ?_⟩
              rw [et, List.length_append, vl]
              have : geB g.1 g.2 e = false := by
                cases q : geB g.1 g.2 e with
                | false => rfl
                | true => exact absurd q c
              simp [this]
        · rintro H5 ⟨s5, vs, eD, vl⟩
          rw [List.length_map, hE.1, List.take_length] at vl
          refine ⟨D1, vs, rfl, .inl (SqL.of eD), ?_, s5⟩
          rw [vl]
          rfl
    rintro σ H5 ⟨rfl, s5⟩
    have s15 := s14.trans s5
    have eE5 := s5 _ _ eE4
    have eS5 := s5 _ _ eS
    have hE5 := hE.same s5
    have va5 := va.sm s15
    obtain ⟨bl1, bl2⟩ := lowEnd_bd va
    refine ⟨_, rfl, S, rfl, ⟨_, SqL.of eS5⟩, fun D1 nD1 => ?_⟩
    refine lc_list (K := K) (a := S) (xs := ts.map V.ref) (fun i H' => Same H5 H' ∧ ∃ vs, H' D1 = some (.lst vs) ∧ vs.length = (((edg cn).take i).filter (gtB (lowEnd e1).1 (lowEnd e1).2)).length) ⟨sm_upd nD1, _, upd_same, rfl⟩ ?_ ?_ ?_
    · rintro i H6 _ ⟨s6, _⟩
      exact SqL.of (s6 _ _ eS5)
    · rintro i x H6 hx ⟨s6, vs, eD, vl⟩
      rw [List.getElem?_map] at hx
      cases hT : ts[i]? with
      | none => rw [hT] at hx; cases hx
      | some T =>
        rw [hT] at hx
        cases hx
        have hi := (List.getElem?_eq_some_iff.mp hT).1
        have he : (edg cn)[i]? = some ((edg cn)[i]'(by rw [← hE.1]; exact hi)) := List.getElem?_eq_getElem _
        generalize (edg cn)[i]'(by rw [← hE.1]; exact hi) = e at he
        obtain ⟨b1, b2, b3, b4⟩ := bE hT he
        have et : ((edg cn).take (i + 1)).filter (gtB (lowEnd e1).1 (lowEnd e1).2) = ((edg cn).take i).filter (gtB (lowEnd e1).1 (lowEnd e1).2) ++ [e].filter (gtB (lowEnd e1).1 (lowEnd e1).2) := by rw [List.take_add_one, he, List.filter_append]; rfl
        have fl := List.length_filter_le (gtB (lowEnd e1).1 (lowEnd e1).2) ((edg cn).take i)
        rw [List.length_take] at fl
        refine ⟨rfl, _, rfl, _, rfl, E, a, b, e1, k + 2, rfl, s6 _ _ eE5, va5.sm s6, fun R H7 s7 eR => ?_⟩
        have s67 := s6.trans s7
        obtain ⟨ra, rb, g1, g2, g3⟩ := (hE5.same s67).2 i T e hT he
        have eD7 : H7 D1 = some (.lst vs) := s7 _ _ eD
        refine ⟨T, R, ra, rb, e.1, e.2, _, _, k + 2, rfl, g1, g2, g3, eR, b1, b2, b3, b4, bl1, bl2, by omega, by omega, _, _, rfl, rfl, _, rfl, ?_⟩
        refine ite2 (fun c => ?_) (fun c => ?_)
        · refine ⟨_, rfl, vs, eD7, small1000 (by omega), ?_, vs ++ [.ref T], upd_same, ?_⟩
          · intro b' o eb
            rw [upd_ne (ne_of_none eb nD1)]
            exact s67 _ _ eb
          · rw [et, List.length_append, List.length_append, vl]
            have : gtB (lowEnd e1).1 (lowEnd e1).2 e = true := c
            simp [this]
        · refine ⟨s67, vs, eD7, ?_⟩
          rw [et, List.length_append, vl]
          have : gtB (lowEnd e1).1 (lowEnd e1).2 e = false := by
            cases q : gtB (lowEnd e1).1 (lowEnd e1).2 e with
            | false => rfl
            | true => exact absurd q c
          simp [this]
    rintro H6 ⟨s6, vs, eD, vl⟩
    rw [List.length_map, hE.1, List.take_length] at vl
    refine ⟨D1, vs, rfl, .inl (SqL.of eD), ?_⟩
    rw [vl]
    refine ⟨_, rfl, _, rfl, _, rfl, _, rfl, _, _, rfl, rfl, _, rfl, C, ys, rfl, SqL.of (s6 _ _ (s5 _ _ (s4 _ _ (s3 _ _ eC)))), fun F nF => ?_⟩
    have e7 : cutV ys (some ((firstE e2 cn : Nat) : Int)) (some (((((edg cn).filter (gtB (lowEnd e1).1 (lowEnd e1).2)).length : Nat) : Int) + 1)) = (ys.drop (firstE e2 cn)).take (lastE (lowEnd e1) cn + 1 - firstE e2 cn) := cut_between (firstE e2 cn) (lastE (lowEnd e1) cn + 1)
    rw [e7]
    have s7 := (s15.trans s6).trans (sm_upd (o := .lst ((ys.drop (firstE e2 cn)).take (lastE (lowEnd e1) cn + 1 - firstE e2 cn))) nF)
    refine kk F _ _ (keptC (lowEnd e1) e2 cn) s7 upd_same ?_ (kept_low l2 lh hch hdm hsb) ?_
    · exact (((oC.same (s3.trans (s4.trans (s5.trans s6)))).drop _).take _).same (sm_upd nF)
    · unfold keptC
      rw [List.length_take, List.length_drop]
      omega
end
end Lf
namespace Lf
open PySem PySem.Spec PyProof.Rows L2
/-! ### records seen in a mirror -/
def mir (d : Rec) : Rec := ⟨!d.lo, -d.t, -d.n⟩
theorem neg_count {x q : Int} (hq : 1 ≤ q) : (-x + (q - 1)) / q = -(x / q) := by
  have h1 := Int.mul_ediv_add_emod x q
  have h2 := Int.emod_nonneg x (show q ≠ 0 by omega)
  have h3 := Int.emod_lt_of_pos x (show 0 < q by omega)
  have e : -x + (q - 1) = (q - 1 - x % q) + q * (-(x / q)) := by
    rw [Int.mul_neg]
    omega
  rw [e, Int.add_mul_ediv_left _ _ (show q ≠ 0 by omega), Int.ediv_eq_zero_of_lt (by omega) (by omega)]
  omega
theorem count_mir {p q c t : Int} (hq : 1 ≤ q) : (p * (-t) + (q - 1 - c)) / q = -((p * t + c) / q) := by
  rw [← neg_count hq]
  congr 1
  rw [Int.mul_neg]
  omega
theorem fitB_mir {p q c : Int} (hq : 1 ≤ q) (d : Rec) : fitB p q (q - 1 - c) (mir d) = fitB p q c d := by
  obtain ⟨lo, t, n⟩ := d
  unfold fitB mir
  simp only []
  rw [count_mir hq]
  cases lo
  · simp only [Bool.not_false, if_true, Bool.false_eq_true, if_false]
    rw [Bool.eq_iff_iff, decide_eq_true_eq, decide_eq_true_eq]
    omega
  · simp only [Bool.not_true, if_true, Bool.false_eq_true, if_false]
    rw [Bool.eq_iff_iff, decide_eq_true_eq, decide_eq_true_eq]
    omega
theorem mir_mir (d : Rec) : mir (mir d) = d := by
  obtain ⟨lo, t, n⟩ := d
  unfold mir
  simp
theorem fit_mir {ds : List Rec} {p q c : Int} : Fit (ds.map mir) p q (q - 1 - c) ↔ Fit ds p q c := by
  unfold Fit
  constructor
  · rintro ⟨h1, h2, h3⟩
    refine ⟨h1, h2, ?_⟩
    rw [List.all_map] at h3
    rw [List.all_eq_true] at *
    intro d hd
    rw [← fitB_mir h2]
    exact h3 d hd
  · rintro ⟨h1, h2, h3⟩
    refine ⟨h1, h2, ?_⟩
    rw [List.all_map]
    rw [List.all_eq_true] at *
    intro d hd
    show fitB p q (q - 1 - c) (mir d) = true
    rw [fitB_mir h2]
    exact h3 d hd
theorem fitm_mir {ds : List Rec} {p q : Int} : FitM (ds.map mir) p q ↔ FitM ds p q := by
  constructor
  · intro h d hd e he ld le
    have := h (mir e) (List.mem_map_of_mem he) (mir d) (List.mem_map_of_mem hd) (by show (!e.lo) = true; rw [le]; rfl) (by show (!d.lo) = false; rw [ld]; rfl)
    have h1 : p * (-d.t - -e.t) < (-d.n + 1 - -e.n) * q := this
    rw [show -d.t - -e.t = e.t - d.t by omega, show -d.n + 1 - -e.n = e.n + 1 - d.n by omega] at h1
    exact h1
  · intro h d hd e he ld le
    obtain ⟨d', hd', rfl⟩ := List.mem_map.mp hd
    obtain ⟨e', he', rfl⟩ := List.mem_map.mp he
    have ld : (!d'.lo) = true := ld
    have le : (!e'.lo) = false := le
    have := h e' he' d' hd' (by cases q : e'.lo <;> rw [q] at le <;> first | rfl | cases le) (by cases q : d'.lo <;> rw [q] at ld <;> first | rfl | cases ld)
    show p * (-e'.t - -d'.t) < (-e'.n + 1 - -d'.n) * q
    rw [show -e'.t - -d'.t = d'.t - e'.t by omega, show -e'.n + 1 - -d'.n = d'.n + 1 - e'.n by omega]
    exact this
theorem cf_mir {ds : List Rec} : Cf (ds.map mir) ↔ Cf ds := by
  constructor <;> intro h p q hp hq f
  · exact h p q hp hq (fitm_mir.mpr f)
  · exact h p q hp hq (fitm_mir.mp f)
theorem EndC.mir {ds : List Rec} {e1 e2 : Option (Int × Int)} (h : EndC ds e1 e2) : EndC (ds.map mir) e1 e2 := ⟨fun p q hp hq => (h.fit p q hp hq).trans fitm_mir.symm, h.ok, h.d1, h.d2⟩
theorem mir_bd {k : Nat} {ds : List Rec} (h : RcB k ds) : RcB k (ds.map mir) := fun d hd => by
  obtain ⟨d', hd', rfl⟩ := List.mem_map.mp hd
  exact ⟨(h d' hd').1.neg, (h d' hd').2.neg⟩
/-- the greatest count at a time -/
def GCnt (ds : List Rec) (t : Int) : Option Int → Prop
  | some N => (∀ p q c, Fit ds p q c → (p * t + c) / q ≤ N) ∧ ∃ p q c, Fit ds p q c ∧ (p * t + c) / q = N
  | none => ∀ N : Int, ∃ p q c, Fit ds p q c ∧ N < (p * t + c) / q
theorem gcnt_of {ds : List Rec} {t : Int} {o : Option Int} (h : LCnt (ds.map mir) (-t) o) : GCnt ds t (o.map fun x => -x) := by
  have bk : ∀ {p q c}, Fit (ds.map mir) p q c → Fit ds p q (q - 1 - c) ∧ (p * t + (q - 1 - c)) / q = -((p * (-t) + c) / q) := fun {p q c} f => by
    have e : q - 1 - (q - 1 - c) = c := by omega
    refine ⟨fit_mir.mp (by rw [e]; exact f), ?_⟩
    have := count_mir (p := p) (c := q - 1 - c) (t := t) f.2.1
    rw [e] at this
    omega
  match o, h with
  | some N, ⟨h1, p, q, c, f, e⟩ =>
    obtain ⟨g1, g2⟩ := bk f
    refine ⟨fun p q c f => ?_, p, q, _, g1, by rw [g2, e]⟩
    have := h1 p q _ (fit_mir.mpr f)
    rw [count_mir f.2.1] at this
    show _ ≤ -N
    omega
  | none, h =>
    intro N
    obtain ⟨p, q, c, f, e⟩ := h (-N)
    obtain ⟨g1, g2⟩ := bk f
    exact ⟨p, q, _, g1, by rw [g2]; omega⟩
theorem lcnt_uniq {ds : List Rec} {t : Int} {a b : Option Int} (h : LCnt ds t a) (g : LCnt ds t b) : a = b := by
  match a, b, h, g with
  | none, none, _, _ => rfl
  | some x, some y, ⟨h1, p, q, c, f, e⟩, ⟨g1, p', q', c', f', e'⟩ =>
    have := h1 _ _ _ f'
    have := g1 _ _ _ f
    congr 1
    omega
  | none, some y, h, ⟨g1, _⟩ =>
    obtain ⟨p, q, c, f, e⟩ := h y
    have := g1 _ _ _ f
    omega
  | some x, none, ⟨h1, _⟩, g =>
    obtain ⟨p, q, c, f, e⟩ := g x
    have := h1 _ _ _ f
    omega
theorem gcnt_uniq {ds : List Rec} {t : Int} {a b : Option Int} (h : GCnt ds t a) (g : GCnt ds t b) : a = b := by
  match a, b, h, g with
  | none, none, _, _ => rfl
  | some x, some y, ⟨h1, p, q, c, f, e⟩, ⟨g1, p', q', c', f', e'⟩ =>
    have := h1 _ _ _ f'
    have := g1 _ _ _ f
    congr 1
    omega
  | none, some y, h, ⟨g1, _⟩ =>
    obtain ⟨p, q, c, f, e⟩ := h y
    have := g1 _ _ _ f
    omega
  | some x, none, ⟨h1, _⟩, g =>
    obtain ⟨p, q, c, f, e⟩ := g x
    have := h1 _ _ _ f
    omega
/-! ### the chain in the mirror -/
def mln (L : Ln) : Ln := (L.1, -L.2.1, L.2.2)
def mirC (f : Option Ln) (tl : List (Int × Option Ln)) : Option Ln × List (Int × Option Ln) :=
  let ls := ((f :: tl.map (·.2)).map (·.map mln)).reverse
  (ls.headD none, ((tl.map fun e => 1 - e.1).reverse).zip ls.tail)
theorem mirC_cons (f : Option Ln) (e : Int × Option Ln) (r : List (Int × Option Ln)) : mirC f (e :: r) = ((mirC e.2 r).1, (mirC e.2 r).2 ++ [(1 - e.1, f.map mln)]) := by
  unfold mirC
  simp only [List.map_cons, List.reverse_cons]
  have ne : ((r.map (·.2)).map (·.map mln)).reverse ++ [e.2.map mln] ≠ [] := by simp
  generalize hA : ((r.map (·.2)).map (·.map mln)).reverse ++ [e.2.map mln] = A at ne
  have lA : A.length = r.length + 1 := by rw [← hA]; simp
  cases A with
  | nil => exact absurd rfl ne
  | cons a A =>
    refine Prod.ext ?_ ?_
    · rfl
    · show _ = List.zip _ A ++ _
      simp only [List.cons_append, List.tail_cons]
      rw [List.zip_append]
      · rfl
      · rw [List.length_reverse, List.length_map]
        simp at lA
        omega
def Asc (tl : List (Int × Option Ln)) : Prop := tl.Pairwise fun a b => a.1 < b.1
theorem lnAt_snoc {f : Option Ln} {l : List (Int × Option Ln)} {b : Int} {x : Option Ln} {t : Int} : lnAt f (l ++ [(b, x)]) t = if (∀ e ∈ l, e.1 ≤ t) ∧ b ≤ t then x else lnAt f l t := by
  induction l generalizing f with
  | nil =>
    show (if b > t then f else x) = _
    by_cases c : b ≤ t
    · rw [if_neg (by omega), if_pos ⟨fun _ z => (nomatch z), c⟩]
    · rw [if_pos (by omega), if_neg fun z => c z.2]
      rfl
  | cons e r ih =>
    show (if e.1 > t then f else lnAt e.2 (r ++ [(b, x)]) t) = _
    by_cases c : e.1 ≤ t
    · rw [if_neg (by omega), ih]
      have e2 : lnAt f (e :: r) t = lnAt e.2 r t := by
        show (if e.1 > t then f else _) = _
        rw [if_neg (by omega)]
      rw [e2]
      by_cases g : (∀ e ∈ r, e.1 ≤ t) ∧ b ≤ t
      · rw [if_pos g, if_pos ⟨fun e' he => by
          rcases List.mem_cons.mp he with rfl | he
          · exact c
          · exact g.1 e' he, g.2⟩]
      · rw [if_neg g, if_neg fun z => g ⟨fun e' he => z.1 e' (List.mem_cons_of_mem _ he), z.2⟩]
    · rw [if_pos (by omega), if_neg fun z => c (z.1 e List.mem_cons_self)]
      show f = if e.1 > t then f else _
      rw [if_pos (by omega)]
theorem mirC_mem {f : Option Ln} {tl : List (Int × Option Ln)} {x : Int × Option Ln} (h : x ∈ (mirC f tl).2) : ∃ e ∈ tl, x.1 = 1 - e.1 := by
  obtain ⟨x1, x2⟩ := x
  have := (List.of_mem_zip h).1
  obtain ⟨e, he, rfl⟩ := List.mem_map.mp (List.mem_reverse.mp this)
  exact ⟨e, he, rfl⟩
theorem mirC_at {t : Int} : ∀ {f : Option Ln} {tl : List (Int × Option Ln)}, Asc tl → lnAt (mirC f tl).1 (mirC f tl).2 t = (lnAt f tl (-t)).map mln
  | f, [], _ => rfl
  | f, e :: r, h => by
    have h1 := List.pairwise_cons.mp h
    rw [mirC_cons]
    simp only []
    rw [lnAt_snoc]
    by_cases c : e.1 ≤ -t
    · rw [if_neg (fun z => by omega)]
      rw [mirC_at h1.2]
      congr 1
      show _ = if e.1 > -t then f else _
      rw [if_neg (by omega)]
    · have hh : ∀ x ∈ (mirC e.2 r).2, x.1 ≤ t := fun x hx => by
        obtain ⟨e', he, q⟩ := mirC_mem hx
        have := h1.1 e' he
        omega
      rw [if_pos ⟨hh, by omega⟩]
      congr 1
      show _ = if e.1 > -t then f else _
      rw [if_pos (by omega)]
theorem turns_fst (l : Int × Int) : ∀ kc : List P2, (turnsOf l kc).map (·.1) = kc.map (·.1)
  | [] => rfl
  | [_] => rfl
  | a :: b :: r => by
    show a.1 :: (turnsOf l (b :: r)).map (·.1) = a.1 :: (b :: r).map (·.1)
    rw [turns_fst l (b :: r)]
theorem chf_asc : ∀ {kc : List P2}, ChF kc → kc.Pairwise fun a b => a.1 < b.1
  | [], _ => .nil
  | [a], _ => List.pairwise_singleton _ _
  | a :: b :: r, h => by
    have hr : ChF (b :: r) := ⟨fun i x y h1 h2 => h.1 (i + 1) x y h1 h2, fun i x y z h1 h2 h3 => h.2 (i + 1) x y z h1 h2 h3⟩
    have ih := chf_asc hr
    have ab := h.1 0 a b rfl rfl
    refine List.pairwise_cons.mpr ⟨fun c hc => ?_, ih⟩
    rcases List.mem_cons.mp hc with rfl | hc
    · exact ab
    · have := (List.pairwise_cons.mp ih).1 c hc
      omega
theorem turns_asc {l : Int × Int} {kc : List P2} (h : ChF kc) : Asc (turnsOf l kc) := by
  have := chf_asc h
  have e : (kc.map (·.1)).Pairwise (· < ·) := List.pairwise_map.mpr this
  rw [← turns_fst l] at e
  exact List.pairwise_map.mp e
theorem turns_eq (l : Int × Int) : ∀ (a : P2) (r : List P2) (z : P2), (a :: r).getLast? = some z → turnsOf l (a :: r) = ((edg (a :: r)).map (fun e => (e.1, edgeS e.1 e.2)) ++ [(z, l)]).map fun e => (e.1.1, some (lineT e.1 e.2))
  | a, [], z, h => by
    cases h
    rfl
  | a, b :: r, z, h => by
    have h2 : (b :: r).getLast? = some z := by rw [List.getLast?_cons_cons] at h; exact h
    show (a.1, some (lineT a (edgeS a b))) :: turnsOf l (b :: r) = _
    rw [turns_eq l b r z h2]
    rfl
end Lf
namespace Lf
open PySem PySem.Spec PyProof.Rows L2
section
variable {P : Program} {w : World} {K : PySem.W.Frag} {mg : Str → Option Value} {base : Heap}
/-! ### divide_up -/
def spDivU : Sp := fun vs H Q _ => ∃ (x s : Int), vs = [.int x, .int s] ∧ 0 < s ∧ Bd 9000 s ∧ Q (.int (-(-x / s))) H
abbrev s_divide_up : Stmt := topS 15
abbrev N_divide_up : List Str := ["number", "divisor"]
abbrev P_divide_up : List Str := ["number", "divisor"]
theorem sc_divide_up : FnScope N_divide_up P_divide_up (defScope s_divide_up) := ⟨rfl, rfl, rfl, by decide +kernel, rfl, by decide +kernel, by decide +kernel⟩
theorem ok_divide_up (D : Df K mg "divide_up" s_divide_up P_divide_up) : C8.Cal P w K mg base 1 "divide_up" spDivU [] := by
  refine cal_of D sc_divide_up (fun vs H Q E h => ?_) (fun f cdv A outer s H vs Q E hr h => ?_)
  · obtain ⟨x, s, rfl, _⟩ := h
    rfl
  · obtain ⟨x, s, rfl, hs, bs, q⟩ := h
    refine ⟨_, (pss_one (ps_ret (pe_un un_neg (pe_op op_fdivW (pe_un un_neg (pv 0)) (pv 1))))), ?_⟩
    exact ⟨_, rfl, _, rfl, _, rfl, _, _, rfl, rfl, divW hs bs (by decide), _, rfl, q⟩
end
end Lf
namespace Lf
open PySem PySem.Spec PyProof.Rows L2
/-! ### the chains, as the program makes them -/
def LnB (j : Nat) (L : Ln) : Prop := Bd j L.1 ∧ Bd j L.2.1 ∧ Bd j L.2.2 ∧ 0 < L.2.2
def LnVl (j : Nat) (H : Hp) (v : V) : Option Ln → Prop
  | none => v = .non
  | some L => ∃ a, v = .ref a ∧ H a = some (trO L) ∧ LnB j L
theorem LnVl.same {j : Nat} {H H' : Hp} {v : V} {o : Option Ln} (h : LnVl j H v o) (s : Same H H') : LnVl j H' v o := by
  match o, h with
  | none, h => exact h
  | some L, ⟨a, h1, h2, h3⟩ => exact ⟨a, h1, s _ _ h2, h3⟩
def Trn (j : Nat) (H : Hp) (xs : List V) (tl : List (Int × Option Ln)) : Prop := xs.length = tl.length ∧ ∀ (i : Nat) (x : V) (e : Int × Option Ln), xs[i]? = some x → tl[i]? = some e → ∃ r v, x = .ref r ∧ H r = some (.tup [.int e.1, v]) ∧ LnVl j H v e.2
theorem Trn.same {j : Nat} {H H' : Hp} {xs : List V} {tl : List (Int × Option Ln)} (h : Trn j H xs tl) (s : Same H H') : Trn j H' xs tl := ⟨h.1, fun i x e h1 h2 => by
  obtain ⟨r, v, g1, g2, g3⟩ := h.2 i x e h1 h2
  exact ⟨r, v, g1, s _ _ g2, g3.same s⟩⟩
theorem Trn.nil {j : Nat} {H : Hp} : Trn j H [] [] := ⟨rfl, fun i x e h => by cases h⟩
theorem Trn.snoc {j : Nat} {H : Hp} {xs : List V} {tl : List (Int × Option Ln)} {r : Addr} {v : V} {e : Int × Option Ln} (h : Trn j H xs tl) (er : H r = some (.tup [.int e.1, v])) (hv : LnVl j H v e.2) : Trn j H (xs ++ [.ref r]) (tl ++ [e]) := by
  refine ⟨by rw [List.length_append, List.length_append, h.1]; rfl, fun i x e' h1 h2 => ?_⟩
  by_cases g : i < xs.length
  · rw [List.getElem?_append_left g] at h1
    rw [List.getElem?_append_left (by rw [← h.1]; exact g)] at h2
    exact h.2 i x e' h1 h2
  · rw [List.getElem?_append_right (by omega)] at h1
    rw [List.getElem?_append_right (by rw [← h.1]; omega), ← h.1] at h2
    have q := (List.getElem?_eq_some_iff.mp h1).1
    rw [List.length_singleton] at q
    have q0 : i - xs.length = 0 := by omega
    rw [q0] at h1 h2
    cases h1
    cases h2
    exact ⟨r, v, rfl, er, hv⟩
theorem Edgs.nil {H : Hp} : Edgs H [] [] := ⟨rfl, fun i x e h => by cases h⟩
theorem Edgs.snoc {H : Hp} {ts : List Addr} {es : List (P2 × P2)} {T a b : Addr} {e : P2 × P2} (h : Edgs H ts es) (eT : H T = some (.tup [.ref a, .ref b])) (ea : H a = some (ptO e.1)) (eb : H b = some (ptO e.2)) : Edgs H (ts ++ [T]) (es ++ [e]) := by
  refine ⟨by rw [List.length_append, List.length_append, h.1]; rfl, fun i x e' h1 h2 => ?_⟩
  by_cases g : i < ts.length
  · rw [List.getElem?_append_left g] at h1
    rw [List.getElem?_append_left (by rw [← h.1]; exact g)] at h2
    exact h.2 i x e' h1 h2
  · rw [List.getElem?_append_right (by omega)] at h1
    rw [List.getElem?_append_right (by rw [← h.1]; omega), ← h.1] at h2
    have q := (List.getElem?_eq_some_iff.mp h1).1
    rw [List.length_singleton] at q
    have q0 : i - ts.length = 0 := by omega
    rw [q0] at h1 h2
    cases h1
    cases h2
    exact ⟨a, b, eT, ea, eb⟩
section
variable {P : Program} {w : World} {K : PySem.W.Frag} {mg : Str → Option Value} {base : Heap}
def spLine : Sp := fun vs H Q _ => ∃ (x s : Addr) (pt sl : Int × Int) (k : Nat), vs = [.ref x, .ref s] ∧ H x = some (ptO pt) ∧ H s = some (ptO sl) ∧ Bd k pt.1 ∧ Bd k pt.2 ∧ Bd k sl.1 ∧ Bd k sl.2 ∧ 0 < sl.2 ∧ 0 < k ∧ k ≤ 7000 ∧
  ∀ r H', Same H H' → H r = none → H' r = some (trO (lineT pt sl)) → LnB (2 * k + 1) (lineT pt sl) → Q (.ref r) H'
abbrev s_line_through : Stmt := topS 52
abbrev N_line_through : List Str := ["point", "slope", "time", "number", "rise", "run"]
abbrev P_line_through : List Str := ["point", "slope"]
theorem sc_line_through : FnScope N_line_through P_line_through (defScope s_line_through) := ⟨rfl, rfl, rfl, by decide +kernel, rfl, by decide +kernel, by decide +kernel⟩
theorem ok_line_through (D : Df K mg "line_through" s_line_through P_line_through) : C8.Cal P w K mg base 1 "line_through" spLine [] := by
  refine cal_of D sc_line_through (fun vs H Q E h => ?_) (fun f cdv A outer s H vs Q E hr h => ?_)
  · obtain ⟨x, s, pt, sl, k, rfl, _⟩ := h
    rfl
  · obtain ⟨x, s, pt, sl, k, rfl, ex, es, b1, b2, b3, b4, s2, k0, k1, kk⟩ := h
    refine ⟨_, (pss_cons (ps_asg (pv 0) (pg_tup rfl (pgs_cons (pg_name (i := 2) sc_line_through.nd rfl (Or.inl rfl)) (pgs_cons (pg_name (i := 3) sc_line_through.nd rfl (Or.inl rfl)) pgs_nil))))
    (pss_cons (ps_asg (pv 1) (pg_tup rfl (pgs_cons (pg_name (i := 4) sc_line_through.nd rfl (Or.inl rfl)) (pgs_cons (pg_name (i := 5) sc_line_through.nd rfl (Or.inl rfl)) pgs_nil))))
    (pss_one (ps_ret (pe_tup (pa_cons (pv 4) (pa_cons (pe_op op_sub (pe_op op_mulW (pv 3) (pv 5)) (pe_op op_mulW (pv 4) (pv 2))) (pa_cons (pv 5) pa_nil)))))))), ?_⟩
    refine ⟨_, rfl, x, _, rfl, SqT.of ex, rfl, _, _, rfl, _, _, rfl, rfl, ?_⟩
    refine ⟨_, rfl, s, _, rfl, SqT.of es, rfl, _, _, rfl, _, _, rfl, rfl, ?_⟩
    refine ⟨_, rfl, _, rfl, _, rfl, _, _, rfl, rfl, mulW b2 b4 k0 k0 (by omega), _, rfl, _, rfl, _, _, rfl, rfl, mulW b3 b1 k0 k0 (by omega), _, _, rfl, rfl, _, rfl, len10 (by simp), fun r nr => ?_⟩
    refine kk r _ (sm_upd nr) nr upd_same ⟨b3.mono (by omega), ?_, b4.mono (by omega), s2⟩
    exact Bd.sub ((Bd.mul b2 b4).mono (by omega)) ((Bd.mul b3 b1).mono (by omega))
def spLeast : Sp := fun vs H Q _ => ∃ (L E : Addr) (kb : Bool) (xs : List V) (ds : List Rec) (a b : V) (e1 e2 : Option (Int × Int)) (k : Nat), vs = [.ref L, .ref E] ∧ H L = some (sqO kb xs) ∧ Obs rcO H xs ds ∧ ds.length ≤ 900 ∧ RcB k ds ∧ 0 < k ∧ k ≤ 6000 ∧
  H E = some (.tup [a, b]) ∧ EndV H (k + 2) a e1 ∧ EndV H (k + 2) b e2 ∧ 0 < (lowEnd e1).2 ∧ (∀ g, e2 = some g → 0 < g.2 ∧ (lowEnd e1).1 * g.2 < g.1 * (lowEnd e1).2) ∧
  ∀ T H' vb tl ys kc, Same H H' → H' T = some (.tup [vb, .ref tl]) → H' tl = some (.lst ys) → LnVl (2 * k + 5) H' vb (befOf e2 kc) → Trn (2 * k + 5) H' ys (turnsOf (lowEnd e1) kc) → LowC (lowEnd e1) e2 (pts ds) kc → kc.length ≤ ds.length → Q (.ref T) H'
abbrev s_least_chain : Stmt := topS 50
abbrev N_least_chain : List Str := ["records", "ends", "corners", "high", "before", "turns", "t", "n", "other_t", "other_n", "corner", "slope"]
abbrev P_least_chain : List Str := ["records", "ends"]
theorem sc_least_chain : FnScope N_least_chain P_least_chain (defScope s_least_chain) := ⟨rfl, rfl, rfl, by decide +kernel, rfl, by decide +kernel, by decide +kernel⟩
theorem ok_least_chain (D : Df K mg "least_chain" s_least_chain P_least_chain) (B : Bi mg) (c_low_corners : C8.Cal P w K mg base 3 "low_corners" spLow []) (c_low_end : C8.Cal P w K mg base 1 "low_end" spLowE []) (c_line_through : C8.Cal P w K mg base 1 "line_through" spLine []) : C8.Cal P w K mg base 4 "least_chain" spLeast [] := by
  refine cal_of D sc_least_chain (fun vs H Q E h => ?_) (fun f cdv A outer s H vs Q E hr h => ?_)
  · obtain ⟨L, E, kb, xs, ds, a, b, e1, e2, k, rfl, _⟩ := h
    rfl
  · obtain ⟨L, E, kb, xs, ds, a, b, e1, e2, k, rfl, eL, hO, hl, bd, k0, k1, eE, va, vb, l2, lh, kk⟩ := h
    refine ⟨_, (pss_cons (ps_set (i := 2) sc_least_chain.nd rfl (Or.inl rfl) (C8.pe_c c_low_corners hr (by decide) (by rfl) (pa_cons (pv 0) (pa_cons (pv 1) pa_nil))))
    (pss_cons (ps_if (pt_not (pt_truth (pv 2) (fun _ => rfl)))
      (pss_one (ps_ret (pe_tup (pa_cons pe_non (pa_cons (pe_lst pa_nil) pa_nil)))))
      pss_nil)
    (pss_cons (ps_set (i := 3) sc_least_chain.nd rfl (Or.inl rfl) (pe_ix (r := rIxT K) ix_tup (pv 1) pe_int (fun _ _ => rfl)))
    (C8.pss_cut (ps_set (i := 4) sc_least_chain.nd rfl (Or.inl rfl) (pe_ifExp (pt_cmpR op_isN (pv 3) pe_non (nomark _)) pe_non (C8.pe_c c_line_through hr (by decide) (by rfl) (pa_cons (pe_ix (r := rIxL K) ix_list (pv 2) pe_int (fun _ _ => rfl)) (pa_cons (pv 3) pa_nil)))))
    (pss_cons (ps_setLc (i := 5) (own := [("t", 6), ("n", 7), ("other_t", 8), ("other_n", 9)]) (g := (gTup K 2 (gCons (gTup K 2 (gCons (gName 6) (gCons (gName 7) gNil))) (gCons (gTup K 2 (gCons (gName 8) (gCons (gName 9) gNil))) gNil)))) (by rfl) sc_least_chain.nd rfl rfl (sw_true rfl rfl rfl (by decide +kernel)) (pi_zip (by rfl) B.zip_ (pa_cons (pv 2) (pa_cons (pe_slice sl_list (pv 2) (po_some pe_int) po_none) pa_nil))) (blkOk_by (own := [("t", 6), ("n", 7), ("other_t", 8), ("other_n", 9)]) (N := N_least_chain) (sc := defScope s_least_chain) (by decide +kernel)) (fun _ _ _ _ _ => (pg_tup rfl (pgs_cons (pg_tup rfl (pgs_cons (pg_name (i := 6) sc_least_chain.nd rfl (Or.inl rfl)) (pgs_cons (pg_name (i := 7) sc_least_chain.nd rfl (Or.inl rfl)) pgs_nil))) (pgs_cons (pg_tup rfl (pgs_cons (pg_name (i := 8) sc_least_chain.nd rfl (Or.inl rfl)) (pgs_cons (pg_name (i := 9) sc_least_chain.nd rfl (Or.inl rfl)) pgs_nil))) pgs_nil)))) (fun _ _ _ _ _ => pts_nil) (fun _ _ _ _ _ => (pe_tup (pa_cons (pe_tup (pa_cons (pv 6) (pa_cons (pv 7) pa_nil))) (pa_cons (pe_tup (pa_cons (pe_op op_sub (pv 9) (pv 7)) (pa_cons (pe_op op_sub (pv 8) (pv 6)) pa_nil))) pa_nil)))))
    (pss_cons (ps_expr (pe_bm PySem.F.plainAttrs_list PySem.F.slot_list_append PySem.F.type_list_append mt_append (pv 5) (pa_cons (pe_tup (pa_cons (pe_ix (r := rIxL K) ix_list (pv 2) (pe_un un_neg pe_int) (fun _ _ => rfl)) (pa_cons (C8.pe_c c_low_end hr (by decide) (by rfl) (pa_cons (pv 1) pa_nil)) pa_nil))) pa_nil)))
    (pss_one (ps_ret (pe_tup (pa_cons (pv 4) (pa_cons (pe_lc (own := [("corner", 10), ("slope", 11)]) (g := (gTup K 2 (gCons (gName 10) (gCons (gName 11) gNil)))) (by rfl) sc_least_chain.nd (pi_list (pv 5)) (blkOk_by (own := [("corner", 10), ("slope", 11)]) (N := N_least_chain) (sc := defScope s_least_chain) (by decide +kernel)) (fun _ _ _ _ _ => (pg_tup rfl (pgs_cons (pg_name (i := 10) sc_least_chain.nd rfl (Or.inl rfl)) (pgs_cons (pg_name (i := 11) sc_least_chain.nd rfl (Or.inl rfl)) pgs_nil)))) (fun _ _ _ _ _ => pts_nil) (fun _ _ _ _ _ => (pe_tup (pa_cons (pe_ix (r := rIxT K) ix_tup (pv 10) pe_int (fun _ _ => rfl)) (pa_cons (C8.pe_c c_line_through hr (by decide) (by rfl) (pa_cons (pv 10) (pa_cons (pv 11) pa_nil))) pa_nil))))) pa_nil))))))))))), ?_⟩
    refine ⟨_, rfl, _, rfl, L, E, kb, xs, ds, a, b, e1, e2, k, rfl, eL, hO, by omega, bd, k0, k1, eE, va, vb, l2, lh, fun C H1 ys kc s1 eC oC hk kl => ?_⟩
    have yl := oC.len
    refine ⟨_, rfl, _, .inl ⟨ys, SqL.of eC, rfl⟩, ?_⟩
    cases kc with
    | nil =>
      cases oC
      refine iteT ?_
      refine ⟨Nat.zero_le _, fun l nl => ⟨len10 (by simp), fun r nr => ?_⟩⟩
      exact kk r _ _ l [] [] (s1.trans ((sm_upd nl).trans (sm_upd nr))) upd_same ((sm_upd nr) _ _ upd_same) rfl Trn.nil hk kl
    | cons c0 kr =>
    cases ys with
    | nil => simp at yl
    | cons y0 yr =>
    have oC' := oC
    cases oC' with
    | cons ec0 oR =>
    rename_i rc0
    refine iteF ?_
    have eE1 := s1 _ _ eE
    refine ⟨_, rfl, E, _, _, _, rfl, rfl, SqT.of eE1, atI_nat (j := 1) rfl, ?_⟩
    have bp : PtB (k + 2) (c0 :: kr) := fun c hc => by
      have := pts_bd bd c (hk.sb c hc)
      exact ⟨this.1.mono (by omega), this.2.mono (by omega)⟩
    have bp1 : PtB k (c0 :: kr) := fun c hc => pts_bd bd c (hk.sb c hc)
    have k5 : 2 * (k + 2) + 1 = 2 * k + 5 := by omega
    refine ⟨fun σ' H' => ∃ v, σ' = [some (.ref L), some (.ref E), some (.ref C), some b, some v, none, none, none, none, none, none, none] ∧ Same H1 H' ∧ LnVl (2 * k + 5) H' v (befOf e2 (c0 :: kr)), ?_, ?_⟩
    · match e2, vb, lh with
      | none, vb, lh =>
        cases vb
        exact ⟨_, rfl, rfl, _, rfl, iteT ⟨_, rfl, fun _ _ z => z, rfl⟩⟩
      | some g, ⟨R, hb, eR, Rg⟩, lh =>
        cases hb
        refine ⟨_, rfl, rfl, _, rfl, iteF ?_⟩
        have b0 := bp c0 List.mem_cons_self
        refine ⟨_, rfl, C, _, _, _, rfl, rfl, SqL.of eC, atI_nat (j := 0) rfl, _, rfl, rc0, R, c0, g, k + 2, rfl, ec0, s1 _ _ eR, b0.1, b0.2, Rg.bp, Rg.bq, (lh g rfl).1, by omega, by omega, fun r H2 s2 nr er lb => ?_⟩
        exact ⟨_, rfl, s2, r, rfl, er, k5 ▸ lb⟩
    rintro σ H2 ⟨v, rfl, s2, hv⟩
    have eC2 := s2 _ _ eC
    have oC2 := oC.same s2
    refine ⟨_, rfl, _, rfl, _, rfl, C, _, rfl, SqL.of eC2, fun p np => ?_⟩
    have s3 := sm_upd (o := .lst (cutV (.ref rc0 :: yr) (some 1) none)) np
    have ep : upd H2 p (.lst (cutV (.ref rc0 :: yr) (some 1) none)) p = some (.lst (cutV (.ref rc0 :: yr) (some 1) none)) := upd_same
    generalize upd H2 p (.lst (cutV (.ref rc0 :: yr) (some 1) none)) = H3 at s3 ep
    rw [cut_drop1'] at ep
    have ep : H3 p = some (.lst yr) := ep
    have oC3 := oC2.same s3
    refine ⟨C, p, _, _, rfl, SqL.of (s3 _ _ eC2), SqL.of ep, fun Z nZ => ?_⟩
    have el : (edg (c0 :: kr)).length = yr.length := by
      rw [edg_len]
      simp only [List.length_cons] at yl ⊢
      omega
    have yrl : yr.length ≤ 900 := by
      simp only [List.length_cons] at yl kl
      omega
    refine lc_it (walk_zip (K := K) (a := C) (b := p) (xs := .ref rc0 :: yr) (ys := yr) (n := yr.length) (by simp)) (fun i H' => Same H3 H' ∧ ∃ ts, H' Z = some (.lst (ts.map V.ref)) ∧ Edgs H' ts (((edg (c0 :: kr)).take i).map fun e => (e.1, edgeS e.1 e.2))) ⟨sm_upd nZ, [], upd_same, Edgs.nil⟩ ?_ ?_ ?_
    · rintro i H4 _ ⟨s4, _⟩
      exact ⟨SqL.of (s4 _ _ (s3 _ _ eC2)), SqL.of (s4 _ _ ep)⟩
    · rintro i x H4 H4' hi ⟨s4, ts, eZ, hE⟩ ⟨T, x, y, rfl, nT, rfl, hx, hy⟩
      obtain ⟨ra, pa, rfl, ea, ha⟩ := oC3.at hx
      have hy2 : (V.ref rc0 :: yr)[i + 1]? = some y := hy
      obtain ⟨rb, pb, rfl, eb, hb⟩ := oC3.at hy2
      have st := sm_upd (o := .tup [.ref ra, .ref rb]) nT
      have ea' := st _ _ (s4 _ _ ea)
      have eb' := st _ _ (s4 _ _ eb)
      have eZ' := st _ _ eZ
      have hE' := hE.same st
      have eT : upd H4 T (.tup [.ref ra, .ref rb]) T = some (.tup [.ref ra, .ref rb]) := upd_same
      have s4' := s4.trans st
      generalize upd H4 T (.tup [.ref ra, .ref rb]) = H5 at st ea' eb' eZ' hE' eT s4'
      refine ⟨T, _, rfl, SqT.of eT, rfl, _, _, rfl, ra, _, rfl, SqT.of ea', rfl, _, _, rfl, _, _, rfl, rfl, _, _, rfl, rb, _, rfl, SqT.of eb', rfl, _, _, rfl, _, _, rfl, rfl, rfl, ?_⟩
      have he : (edg (c0 :: kr))[i]? = some (pa, pb) := edg_at.mpr ⟨ha, hb⟩
      have tl := hE.1
      rw [List.length_map, List.length_take] at tl
      refine ⟨rfl, _, rfl, _, rfl, len10 (by simp), fun r1 n1 => ?_⟩
      refine ⟨_, rfl, _, rfl, _, _, rfl, rfl, _, rfl, _, rfl, _, _, rfl, rfl, len10 (by simp), fun r2 n2 => ⟨len10 (by simp), fun r3 n3 => ?_⟩⟩
      have z1 := sm_upd (o := .tup [.int pa.1, .int pa.2]) n1
      have z2 := sm_upd (o := .tup [.int (pb.2 - pa.2), .int (pb.1 - pa.1)]) n2
      have z3 := sm_upd (o := .tup [.ref r1, .ref r2]) n3
      have z := z1.trans (z2.trans z3)
      refine ⟨ts.map V.ref, z _ _ eZ', small1000 (by rw [List.length_map]; omega), ?_, ts ++ [r3], by rw [upd_same, List.map_append]; rfl, ?_⟩
      · intro b' o eb'
        rw [upd_ne (ne_of_none eb' nZ)]
        exact z _ _ (s4' _ _ eb')
      · rw [List.take_add_one, he, List.map_append]
        have g1 := z3 _ _ (z2 _ _ (upd_same (H := H5) (a := r1) (o := .tup [.int pa.1, .int pa.2])))
        have g2 := z3 _ _ (upd_same (H := upd H5 r1 (.tup [.int pa.1, .int pa.2])) (a := r2) (o := .tup [.int (pb.2 - pa.2), .int (pb.1 - pa.1)]))
        have kz : ∀ (b' : Addr) (us : List V), upd (upd (upd H5 r1 (.tup [.int pa.1, .int pa.2])) r2 (.tup [.int (pb.2 - pa.2), .int (pb.1 - pa.1)])) r3 (.tup [.ref r1, .ref r2]) b' = some (.tup us) → upd (upd (upd (upd H5 r1 (.tup [.int pa.1, .int pa.2])) r2 (.tup [.int (pb.2 - pa.2), .int (pb.1 - pa.1)])) r3 (.tup [.ref r1, .ref r2])) Z (.lst (ts.map V.ref ++ [.ref r3])) b' = some (.tup us) := fun b' us h => by
          rw [upd_ne (fun q => by rw [q, z _ _ eZ'] at h; cases h)]
          exact h
        refine Edgs.snoc (e := (pa, edgeS pa pb)) ⟨(hE'.same z).1, fun j T' e' h1 h2 => ?_⟩ (kz _ _ upd_same) (kz _ _ g1) (kz _ _ g2)
        obtain ⟨a', b', q1, q2, q3⟩ := (hE'.same z).2 j T' e' h1 h2
        exact ⟨a', b', kz _ _ q1, kz _ _ q2, kz _ _ q3⟩
    rintro H4 ⟨s4, ts, eZ, hE⟩
    rw [← el, List.take_length] at hE
    have s14 := s2.trans (s3.trans s4)
    -- the last one
    have eC4 := s14 _ _ eC
    have oC4 := oC.same s14
    obtain ⟨pre, z0, hpre⟩ : ∃ pre z, c0 :: kr = pre ++ [z] := ⟨_, _, (List.dropLast_concat_getLast (List.cons_ne_nil c0 kr)).symm⟩
    have hz0 : (c0 :: kr).getLast? = some z0 := by
      rw [hpre]
      simp
    rw [hpre] at oC4
    obtain ⟨us, rz, ey, oU, ez⟩ := obs_end oC4
    rw [ey] at eC4
    have va4 := va.sm (s1.trans s14)
    refine ⟨_, rfl, .inl ⟨rfl, _, SqL.of eZ⟩, _, rfl, _, rfl, C, _, _, _, rfl, rfl, SqL.of eC4, atI_last _ _, _, rfl, E, a, b, e1, k + 2, rfl, s14 _ _ eE1, va4, fun R H7 s7 eR => ⟨len10 (by simp), fun t nt => ?_⟩⟩
    have st := sm_upd (o := .tup [.ref rz, .ref R]) nt
    have tsl := hE.1
    rw [List.length_map, el] at tsl
    refine ⟨Z, _, .ref t, rfl, rfl, st _ _ (s7 _ _ eZ), small1000 (by rw [List.length_map]; omega), ?_⟩
    have s17 := s14.trans (s7.trans st)
    -- the new list
    have s8 : Same H3 (upd (upd H7 t (.tup [.ref rz, .ref R])) Z (.lst (ts.map V.ref ++ [.ref t]))) := fun b' o eb' => by
      rw [upd_ne (ne_of_none eb' nZ)]
      exact st _ _ (s7 _ _ (s4 _ _ eb'))
    have kz : ∀ (b' : Addr) (us : List V), upd H7 t (.tup [.ref rz, .ref R]) b' = some (.tup us) → upd (upd H7 t (.tup [.ref rz, .ref R])) Z (.lst (ts.map V.ref ++ [.ref t])) b' = some (.tup us) := fun b' us h => by
      rw [upd_ne (fun q => by rw [q, st _ _ (s7 _ _ eZ)] at h; cases h)]
      exact h
    have hE8 : Edgs (upd (upd H7 t (.tup [.ref rz, .ref R])) Z (.lst (ts.map V.ref ++ [.ref t]))) (ts ++ [t]) ((edg (c0 :: kr)).map (fun e => (e.1, edgeS e.1 e.2)) ++ [(z0, lowEnd e1)]) := by
      refine Edgs.snoc ⟨(hE.same (s7.trans st)).1, fun j T' e' h1 h2 => ?_⟩ (kz _ _ upd_same) (kz _ _ (st _ _ (s7 _ _ ez))) (kz _ _ (st _ _ eR))
      obtain ⟨a', b', q1, q2, q3⟩ := (hE.same (s7.trans st)).2 j T' e' h1 h2
      exact ⟨a', b', kz _ _ q1, kz _ _ q2, kz _ _ q3⟩
    have eZ8 : upd (upd H7 t (.tup [.ref rz, .ref R])) Z (.lst (ts.map V.ref ++ [.ref t])) Z = some (.lst ((ts ++ [t]).map V.ref)) := by rw [upd_same, List.map_append]; rfl
    generalize upd (upd H7 t (.tup [.ref rz, .ref R])) Z (.lst (ts.map V.ref ++ [.ref t])) = H8 at s8 hE8 eZ8
    have hv8 := hv.same (s3.trans s8)
    have te := turns_eq (lowEnd e1) c0 kr z0 hz0
    -- bounds of the pairs
    have bb : ∀ e ∈ (edg (c0 :: kr)).map (fun e => (e.1, edgeS e.1 e.2)) ++ [(z0, lowEnd e1)], Bd (k + 2) e.1.1 ∧ Bd (k + 2) e.1.2 ∧ Bd (k + 2) e.2.1 ∧ Bd (k + 2) e.2.2 ∧ 0 < e.2.2 := fun e he => by
      rcases List.mem_append.mp he with he | he
      · obtain ⟨g, hg, rfl⟩ := List.mem_map.mp he
        obtain ⟨j, hj⟩ := List.getElem?_of_mem hg
        obtain ⟨h1, h2⟩ := edg_at.mp hj
        have m1 := bp1 _ (List.mem_of_getElem? h1)
        have m2 := bp1 _ (List.mem_of_getElem? h2)
        have := hk.ch.1 j _ _ h1 h2
        exact ⟨m1.1.mono (by omega), m1.2.mono (by omega), (Bd.sub m2.2 m1.2).mono (by omega), (Bd.sub m2.1 m1.1).mono (by omega), by show 0 < g.2.1 - g.1.1; omega⟩
      · rw [List.mem_singleton.mp he]
        have m := bp z0 (by rw [hpre]; exact List.mem_append.mpr (.inr (List.mem_singleton.mpr rfl)))
        obtain ⟨q1, q2⟩ := lowEnd_bd va
        exact ⟨m.1, m.2, q1, q2, l2⟩
    generalize hes : (edg (c0 :: kr)).map (fun e => (e.1, edgeS e.1 e.2)) ++ [(z0, lowEnd e1)] = es at hE8 te bb
    have esl := hE8.1
    rw [List.length_append] at esl
    simp only [List.length_singleton] at esl
    refine ⟨_, rfl, _, rfl, Z, rfl, ⟨_, SqL.of eZ8⟩, fun D1 nD1 => ?_⟩
    refine lc_list (K := K) (a := Z) (xs := (ts ++ [t]).map V.ref) (fun i H' => Same H8 H' ∧ ∃ vs, H' D1 = some (.lst vs) ∧ Trn (2 * k + 5) H' vs ((es.take i).map fun e => (e.1.1, some (lineT e.1 e.2)))) ⟨sm_upd nD1, [], upd_same, Trn.nil⟩ ?_ ?_ ?_
    · rintro i H9 _ ⟨s9, _⟩
      exact SqL.of (s9 _ _ eZ8)
    · rintro i x H9 hx ⟨s9, vs, eD, hT⟩
      rw [List.getElem?_map] at hx
      cases hTi : (ts ++ [t])[i]? with
      | none => rw [hTi] at hx; cases hx
      | some T =>
        rw [hTi] at hx
        cases hx
        have hi := (List.getElem?_eq_some_iff.mp hTi).1
        have he : es[i]? = some (es[i]'(by rw [← hE8.1]; exact hi)) := List.getElem?_eq_getElem _
        generalize es[i]'(by rw [← hE8.1]; exact hi) = e at he
        obtain ⟨rc, rs, g1, g2, g3⟩ := (hE8.same s9).2 i T e hTi he
        obtain ⟨b1, b2, b3, b4, b5⟩ := bb e (List.mem_of_getElem? he)
        have tl := hT.1
        rw [List.length_map, List.length_take] at tl
        refine ⟨T, _, rfl, SqT.of g1, rfl, _, _, rfl, _, _, rfl, rfl, ?_⟩
        refine ⟨rfl, _, rfl, rc, _, _, _, rfl, rfl, SqT.of g2, atI_nat (j := 0) rfl, _, rfl, _, rfl, rc, rs, e.1, e.2, k + 2, rfl, g2, g3, b1, b2, b3, b4, b5, by omega, by omega, fun r H10 s10 nr er lb => ⟨len10 (by simp), fun u nu => ?_⟩⟩
        have su := sm_upd (o := .tup [.int e.1.1, .ref r]) nu
        have eD' := su _ _ (s10 _ _ eD)
        refine ⟨vs, eD', small1000 (by omega), ?_, _, upd_same, ?_⟩
        · intro b' o eb'
          rw [upd_ne (ne_of_none eb' nD1)]
          exact su _ _ (s10 _ _ (s9 _ _ eb'))
        · rw [List.take_add_one, he, List.map_append]
          have kz : ∀ (b' : Addr) (us : List V), upd H10 u (.tup [.int e.1.1, .ref r]) b' = some (.tup us) → upd (upd H10 u (.tup [.int e.1.1, .ref r])) D1 (.lst (vs ++ [.ref u])) b' = some (.tup us) := fun b' us h => by
            rw [upd_ne (fun q => by rw [q, eD'] at h; cases h)]
            exact h
          have kl : ∀ {v' : V} {o : Option Ln}, LnVl (2 * k + 5) (upd H10 u (.tup [.int e.1.1, .ref r])) v' o → LnVl (2 * k + 5) (upd (upd H10 u (.tup [.int e.1.1, .ref r])) D1 (.lst (vs ++ [.ref u]))) v' o := fun {v' o} h => by
            match o, h with
            | none, h => exact h
            | some L', ⟨a', h1, h2, h3⟩ => exact ⟨a', h1, kz _ _ h2, h3⟩
          have hT' := hT.same (s10.trans su)
          refine Trn.snoc (e := (e.1.1, some (lineT e.1 e.2))) ⟨hT'.1, fun j x' e' h1 h2 => ?_⟩ (kz _ _ upd_same) ⟨r, rfl, kz _ _ (su _ _ er), k5 ▸ lb⟩
          obtain ⟨r', v', q1, q2, q3⟩ := hT'.2 j x' e' h1 h2
          exact ⟨r', v', q1, kz _ _ q2, kl q3⟩
    rintro H9 ⟨s9, vs, eD, hT⟩
    rw [List.length_map, hE8.1, List.take_length, ← te] at hT
    refine ⟨len10 (by simp), fun T nT => ?_⟩
    have sT := sm_upd (o := .tup [v, .ref D1]) nT
    exact kk T _ v D1 vs (c0 :: kr) ((((s1.trans s2).trans s3).trans s8).trans (s9.trans sT)) upd_same (sT _ _ eD) (hv8.same (s9.trans sT)) (hT.same sT) hk kl
end
end Lf
namespace Lf
open PySem PySem.Spec PyProof.Rows L2
/-! ### the greatest chain, and the range at a time -/
def VLn (j : Nat) (H : Hp) (vs : List V) (os : List (Option Ln)) : Prop := vs.length = os.length ∧ ∀ (i : Nat) (v : V) (o : Option Ln), vs[i]? = some v → os[i]? = some o → LnVl j H v o
theorem VLn.nil {j : Nat} {H : Hp} : VLn j H [] [] := ⟨rfl, fun i v o h => by cases h⟩
theorem VLn.same {j : Nat} {H H' : Hp} {vs : List V} {os : List (Option Ln)} (h : VLn j H vs os) (s : Same H H') : VLn j H' vs os := ⟨h.1, fun i v o h1 h2 => (h.2 i v o h1 h2).same s⟩
theorem VLn.snoc {j : Nat} {H : Hp} {vs : List V} {os : List (Option Ln)} {v : V} {o : Option Ln} (h : VLn j H vs os) (hv : LnVl j H v o) : VLn j H (vs ++ [v]) (os ++ [o]) := by
  refine ⟨by rw [List.length_append, List.length_append, h.1]; rfl, fun i x e' h1 h2 => ?_⟩
  by_cases g : i < vs.length
  · rw [List.getElem?_append_left g] at h1
    rw [List.getElem?_append_left (by rw [← h.1]; exact g)] at h2
    exact h.2 i x e' h1 h2
  · rw [List.getElem?_append_right (by omega)] at h1
    rw [List.getElem?_append_right (by rw [← h.1]; omega), ← h.1] at h2
    have q := (List.getElem?_eq_some_iff.mp h1).1
    rw [List.length_singleton] at q
    have q0 : i - vs.length = 0 := by omega
    rw [q0] at h1 h2
    cases h1
    cases h2
    exact hv
theorem LnVl.keep {j : Nat} {H H' : Hp} {v : V} {o : Option Ln} (h : LnVl j H v o) (f : ∀ b us, H b = some (.tup us) → H' b = some (.tup us)) : LnVl j H' v o := by
  match o, h with
  | none, h => exact h
  | some L, ⟨a, h1, h2, h3⟩ => exact ⟨a, h1, f _ _ h2, h3⟩
theorem VLn.keep {j : Nat} {H H' : Hp} {vs : List V} {os : List (Option Ln)} (h : VLn j H vs os) (f : ∀ b us, H b = some (.tup us) → H' b = some (.tup us)) : VLn j H' vs os := ⟨h.1, fun i v o h1 h2 => (h.2 i v o h1 h2).keep f⟩
theorem keep_lst {H : Hp} {D : Addr} {xs ys : List V} (e : H D = some (.lst xs)) : ∀ (b : Addr) (us : List V), H b = some (.tup us) → upd H D (.lst ys) b = some (.tup us) := fun b us h => by
  rw [upd_ne (fun q => by rw [q, e] at h; cases h)]
  exact h
section
variable {P : Program} {w : World} {K : PySem.W.Frag} {mg : Str → Option Value} {base : Heap}
def spMirR : Sp := fun vs H Q _ => ∃ (L : Addr) (kb : Bool) (xs : List V) (ds : List Rec), vs = [.ref L] ∧ H L = some (sqO kb xs) ∧ Obs rcO H xs ds ∧ ds.length ≤ 1000 ∧
  ∀ M H' ys, Same H H' → H M = none → H' M = some (.lst ys) → Obs rcO H' ys (ds.map mir) → Q (.ref M) H'
abbrev s_mirror_records : Stmt := topS 26
abbrev N_mirror_records : List Str := ["records", "word", "t", "n"]
abbrev P_mirror_records : List Str := ["records"]
theorem sc_mirror_records : FnScope N_mirror_records P_mirror_records (defScope s_mirror_records) := ⟨rfl, rfl, rfl, by decide +kernel, rfl, by decide +kernel, by decide +kernel⟩
theorem ok_mirror_records (D : Df K mg "mirror_records" s_mirror_records P_mirror_records) (B : Bi mg) : C8.Cal P w K mg base 1 "mirror_records" spMirR [] := by
  refine cal_of D sc_mirror_records (fun vs H Q E h => ?_) (fun f cdv A outer s H vs Q E hr h => ?_)
  · obtain ⟨L, kb, xs, ds, rfl, _⟩ := h
    rfl
  · obtain ⟨L, kb, xs, ds, rfl, eL, hO, hl, kk⟩ := h
    refine ⟨_, (pss_one (ps_ret (pe_lc (own := [("word", 1), ("t", 2), ("n", 3)]) (g := (gTup K 3 (gCons (gName 1) (gCons (gName 2) (gCons (gName 3) gNil))))) (by rfl) sc_mirror_records.nd (pi_seq (pv 0)) (blkOk_by (own := [("word", 1), ("t", 2), ("n", 3)]) (N := N_mirror_records) (sc := defScope s_mirror_records) (by decide +kernel)) (fun _ _ _ _ _ => (pg_tup rfl (pgs_cons (pg_name (i := 1) sc_mirror_records.nd rfl (Or.inl rfl)) (pgs_cons (pg_name (i := 2) sc_mirror_records.nd rfl (Or.inl rfl)) (pgs_cons (pg_name (i := 3) sc_mirror_records.nd rfl (Or.inl rfl)) pgs_nil))))) (fun _ _ _ _ _ => pts_nil) (fun _ _ _ _ _ => (pe_tup (pa_cons (pe_ifExp (pt_cmpR op_eq (pv 1) pe_str (nomark _)) pe_str pe_str) (pa_cons (pe_un un_neg (pv 2)) (pa_cons (pe_un un_neg (pv 3)) pa_nil)))))))), ?_⟩
    refine ⟨_, rfl, L, kb, xs, rfl, SqB.of eL, fun M nM => ?_⟩
    refine lc_it (walk_seq (K := K) (b := kb) (a := L) (xs := xs)) (fun i H' => Same H H' ∧ ∃ ms, H' M = some (.lst ms) ∧ Obs rcO H' ms ((ds.take i).map mir)) ⟨sm_upd nM, [], upd_same, .nil⟩ ?_ ?_ ?_
    · rintro i H1 _ ⟨s1, _⟩
      exact SqB.of (s1 _ _ eL)
    · rintro i v H1 H2 hi ⟨s1, ms, eM, oM⟩ ⟨rfl, hx⟩
      obtain ⟨r, d, rfl, er, hd⟩ := hO.at hx
      have hdl := (List.getElem?_eq_some_iff.mp hd).1
      have ml := oM.len
      rw [List.length_map, List.length_take] at ml
      have key : ∀ (e : Addr), H2 e = none → ∀ o : HO, o = rcO (mir d) → Same H (upd (upd H2 e o) M (.lst (ms ++ [.ref e]))) ∧ ∃ ms', upd (upd H2 e o) M (.lst (ms ++ [.ref e])) M = some (.lst ms') ∧ Obs rcO (upd (upd H2 e o) M (.lst (ms ++ [.ref e]))) ms' ((ds.take (i + 1)).map mir) := fun e ne o ho => by
        subst ho
        have z := sm_upd (o := rcO (mir d)) ne
        have eM' := z _ _ eM
        refine ⟨fun b o eb => ?_, _, upd_same, ?_⟩
        · rw [upd_ne (ne_of_none eb nM)]
          exact z _ _ (s1 _ _ eb)
        · rw [List.take_add_one, hd, List.map_append]
          exact Obs.keep ((oM.same z).snoc upd_same) fun b d' eb => keep_lst eM' _ _ eb
      refine ⟨r, _, rfl, SqT.of (s1 _ _ er), rfl, _, _, rfl, _, _, rfl, _, _, rfl, rfl, ?_⟩
      refine ⟨rfl, _, rfl, rfl, _, rfl, ?_⟩
      rw [w_lo]
      cases hb : d.lo with
      | true =>
        refine iteT ⟨_, rfl, _, rfl, _, rfl, _, rfl, len10 (by simp), fun e ne => ⟨ms, sm_upd ne _ _ eM, small1000 (by omega), key e ne _ ?_⟩⟩
        unfold mir rcO
        rw [hb]
        rfl
      | false =>
        refine iteF ⟨_, rfl, _, rfl, _, rfl, _, rfl, len10 (by simp), fun e ne => ⟨ms, sm_upd ne _ _ eM, small1000 (by omega), key e ne _ ?_⟩⟩
        unfold mir rcO
        rw [hb]
        rfl
    · rintro H1 ⟨s1, ms, eM, oM⟩
      rw [List.take_of_length_le (by rw [hO.len]; exact Nat.le_refl _)] at oM
      exact kk M H1 ms s1 nM eM oM
def spGreat : Sp := fun vs H Q _ => ∃ (L E : Addr) (kb : Bool) (xs : List V) (ds : List Rec) (a b : V) (e1 e2 : Option (Int × Int)) (k : Nat), vs = [.ref L, .ref E] ∧ H L = some (sqO kb xs) ∧ Obs rcO H xs ds ∧ ds.length ≤ 900 ∧ RcB k ds ∧ 0 < k ∧ k ≤ 6000 ∧
  H E = some (.tup [a, b]) ∧ EndV H (k + 2) a e1 ∧ EndV H (k + 2) b e2 ∧ 0 < (lowEnd e1).2 ∧ (∀ g, e2 = some g → 0 < g.2 ∧ (lowEnd e1).1 * g.2 < g.1 * (lowEnd e1).2) ∧
  ∀ T H' vb tl ys kc, Same H H' → H' T = some (.tup [vb, .ref tl]) → H' tl = some (.lst ys) → LnVl (2 * k + 5) H' vb (mirC (befOf e2 kc) (turnsOf (lowEnd e1) kc)).1 → Trn (2 * k + 5) H' ys (mirC (befOf e2 kc) (turnsOf (lowEnd e1) kc)).2 → LowC (lowEnd e1) e2 (pts (ds.map mir)) kc → kc.length ≤ ds.length → Q (.ref T) H'
theorem turns_len (l : Int × Int) (kc : List P2) : (turnsOf l kc).length = kc.length := by
  have := congrArg List.length (turns_fst l kc)
  rw [List.length_map, List.length_map] at this
  exact this
abbrev s_greatest_chain : Stmt := topS 51
abbrev N_greatest_chain : List Str := ["records", "ends", "before", "turns", "lines", "mirrored", "times", "time", "line"]
abbrev P_greatest_chain : List Str := ["records", "ends"]
theorem sc_greatest_chain : FnScope N_greatest_chain P_greatest_chain (defScope s_greatest_chain) := ⟨rfl, rfl, rfl, by decide +kernel, rfl, by decide +kernel, by decide +kernel⟩
theorem ok_greatest_chain (D : Df K mg "greatest_chain" s_greatest_chain P_greatest_chain) (B : Bi mg) (c_least_chain : C8.Cal P w K mg base 4 "least_chain" spLeast []) (c_mirror_records : C8.Cal P w K mg base 1 "mirror_records" spMirR []) : C8.Cal P w K mg base 5 "greatest_chain" spGreat [] := by
  refine cal_of D sc_greatest_chain (fun vs H Q E h => ?_) (fun f cdv A outer s H vs Q E hr h => ?_)
  · obtain ⟨L, E, kb, xs, ds, a, b, e1, e2, k, rfl, _⟩ := h
    rfl
  · obtain ⟨L, E, kb, xs, ds, a, b, e1, e2, k, rfl, eL, hO, hl, bd, k0, k1, eE, va, vb, l2, lh, kk⟩ := h
    refine ⟨_, (pss_cons (ps_asg (C8.pe_c c_least_chain hr (by decide) (by rfl) (pa_cons (C8.pe_c c_mirror_records hr (by decide) (by rfl) (pa_cons (pv 0) pa_nil)) (pa_cons (pv 1) pa_nil))) (pg_tup rfl (pgs_cons (pg_name (i := 2) sc_greatest_chain.nd rfl (Or.inl rfl)) (pgs_cons (pg_name (i := 3) sc_greatest_chain.nd rfl (Or.inl rfl)) pgs_nil))))
    (pss_cons (ps_set (i := 4) sc_greatest_chain.nd rfl (Or.inl rfl) (pe_op op_cat (pe_lst (pa_cons (pv 2) pa_nil)) (pe_lc (own := [("time", 7), ("line", 8)]) (g := (gTup K 2 (gCons (gName 7) (gCons (gName 8) gNil)))) (by rfl) sc_greatest_chain.nd (pi_list (pv 3)) (blkOk_by (own := [("time", 7), ("line", 8)]) (N := N_greatest_chain) (sc := defScope s_greatest_chain) (by decide +kernel)) (fun _ _ _ _ _ => (pg_tup rfl (pgs_cons (pg_name (i := 7) sc_greatest_chain.nd rfl (Or.inl rfl)) (pgs_cons (pg_name (i := 8) sc_greatest_chain.nd rfl (Or.inl rfl)) pgs_nil)))) (fun _ _ _ _ _ => pts_nil) (fun _ _ _ _ _ => (pv 8)))))
    (pss_cons (ps_setLc (i := 5) (own := [("line", 8)]) (g := (gName 8)) (by rfl) sc_greatest_chain.nd rfl rfl (sw_true rfl rfl rfl (by decide +kernel)) (pi_reversed (by rfl) B.reversed_ (pa_cons (pv 4) pa_nil)) (blkOk_by (own := [("line", 8)]) (N := N_greatest_chain) (sc := defScope s_greatest_chain) (by decide +kernel)) (fun _ _ _ _ _ => (pg_name (i := 8) sc_greatest_chain.nd rfl (Or.inl rfl))) (fun _ _ _ _ _ => pts_nil) (fun _ _ _ _ _ => (pe_ifExp (pt_cmpR op_isN (pv 8) pe_non (nomark _)) pe_non (pe_tup (pa_cons (pe_ix (r := rIxT K) ix_tup (pv 8) pe_int (fun _ _ => rfl)) (pa_cons (pe_un un_neg (pe_ix (r := rIxT K) ix_tup (pv 8) pe_int (fun _ _ => rfl))) (pa_cons (pe_ix (r := rIxT K) ix_tup (pv 8) pe_int (fun _ _ => rfl)) pa_nil)))))))
    (pss_cons (ps_setLc (i := 6) (own := [("time", 7), ("line", 8)]) (g := (gTup K 2 (gCons (gName 7) (gCons (gName 8) gNil)))) (by rfl) sc_greatest_chain.nd rfl rfl (sw_true rfl rfl rfl (by decide +kernel)) (pi_reversed (by rfl) B.reversed_ (pa_cons (pv 3) pa_nil)) (blkOk_by (own := [("time", 7), ("line", 8)]) (N := N_greatest_chain) (sc := defScope s_greatest_chain) (by decide +kernel)) (fun _ _ _ _ _ => (pg_tup rfl (pgs_cons (pg_name (i := 7) sc_greatest_chain.nd rfl (Or.inl rfl)) (pgs_cons (pg_name (i := 8) sc_greatest_chain.nd rfl (Or.inl rfl)) pgs_nil)))) (fun _ _ _ _ _ => pts_nil) (fun _ _ _ _ _ => (pe_op op_sub pe_int (pv 7))))
    (pss_one (ps_ret (pe_tup (pa_cons (pe_ix (r := rIxL K) ix_list (pv 5) pe_int (fun _ _ => rfl)) (pa_cons (pe_lz rfl (by rfl) B.list_ (by rfl) B.zip_ (pa_cons (pv 6) (pa_cons (pe_slice sl_list (pv 5) (po_some pe_int) po_none) pa_nil))) pa_nil))))))))), ?_⟩
    refine ⟨_, rfl, L, kb, xs, ds, rfl, eL, hO, by omega, fun M H1 ys s1 nM eM oM => ?_⟩
    refine ⟨_, rfl, M, E, true, ys, ds.map mir, a, b, e1, e2, k, rfl, eM, oM, by rw [List.length_map]; exact hl, mir_bd bd, k0, k1, s1 _ _ eE, va.sm s1, vb.sm s1, l2, lh, fun T H2 bv tl zs kc s2 eT etl hv hT hk kl => ?_⟩
    rw [List.length_map] at kl
    have s12 := s1.trans s2
    generalize hfo : befOf e2 kc = fo at hv
    generalize htn : turnsOf (lowEnd e1) kc = tn at hT
    have tnl : tn.length = kc.length := by rw [← htn, turns_len]
    have zl := hT.1
    refine ⟨T, _, rfl, SqT.of eT, rfl, _, _, rfl, _, _, rfl, rfl, ?_⟩
    -- the lines
    refine ⟨_, rfl, len10 (by simp), fun l1 n1 => ?_⟩
    have u1 := sm_upd (o := .lst [bv]) n1
    have el1 : upd H2 l1 (.lst [bv]) l1 = some (.lst [bv]) := upd_same
    generalize upd H2 l1 (.lst [bv]) = H3 at u1 el1
    have etl3 := u1 _ _ etl
    have hT3 := hT.same u1
    refine ⟨_, rfl, tl, rfl, ⟨_, SqL.of etl3⟩, fun D1 nD1 => ?_⟩
    refine lc_list (K := K) (a := tl) (xs := zs) (fun i H' => Same H3 H' ∧ ∃ vs, H' D1 = some (.lst vs) ∧ VLn (2 * k + 5) H' vs ((tn.take i).map (·.2))) ⟨sm_upd nD1, [], upd_same, VLn.nil⟩ ?_ ?_ ?_
    · rintro i H4 _ ⟨s4, _⟩
      exact SqL.of (s4 _ _ etl3)
    · rintro i x H4 hx ⟨s4, vs, eD, hV⟩
      have hi := (List.getElem?_eq_some_iff.mp hx).1
      have he : tn[i]? = some (tn[i]'(by omega)) := List.getElem?_eq_getElem _
      generalize tn[i]'(by omega) = e at he
      obtain ⟨r, v, rfl, er, ev⟩ := (hT3.same s4).2 i x e hx he
      have vl := hV.1
      rw [List.length_map, List.length_take] at vl
      refine ⟨r, _, rfl, SqT.of er, rfl, _, _, rfl, _, _, rfl, rfl, ?_⟩
      refine ⟨rfl, _, rfl, vs, eD, small1000 (by omega), ?_, _, upd_same, ?_⟩
      · intro b' o eb'
        rw [upd_ne (ne_of_none eb' nD1)]
        exact s4 _ _ eb'
      · rw [List.take_add_one, he, List.map_append]
        exact (hV.snoc ev).keep (keep_lst eD)
    rintro H4 ⟨s4, vs, eD, hV⟩
    rw [zl, List.take_length] at hV
    have vl := hV.1
    rw [List.length_map] at vl
    refine ⟨l1, D1, _, _, rfl, rfl, s4 _ _ el1, eD, len10 (by simp; omega), fun p np => ?_⟩
    have u5 := sm_upd (o := .lst ([bv] ++ vs)) np
    have ep : upd H4 p (.lst ([bv] ++ vs)) p = some (.lst (bv :: vs)) := upd_same
    generalize upd H4 p (.lst ([bv] ++ vs)) = H5 at u5 ep
    have s25 := u1.trans (s4.trans u5)
    have hV5 : VLn (2 * k + 5) H5 (bv :: vs) (fo :: tn.map (·.2)) := by
      refine ⟨by simp [vl], fun i v o h1 h2 => ?_⟩
      cases i with
      | zero =>
        cases h1
        cases h2
        exact hv.same s25
      | succ i => exact (hV.same u5).2 i v o h1 h2
    generalize hos : fo :: tn.map (·.2) = os at hV5
    have osl : os.length = tn.length + 1 := by rw [← hos]; simp
    -- mirrored
    refine ⟨_, rfl, p, _, rfl, SqL.of ep, fun D2 nD2 => ?_⟩
    refine lc_it (walk_rev (K := K) (a := p) (xs := bv :: vs)) (fun i H' => Same H5 H' ∧ ∃ ms, H' D2 = some (.lst ms) ∧ VLn (2 * k + 5) H' ms ((os.reverse.take i).map (·.map mln))) ⟨sm_upd nD2, [], upd_same, VLn.nil⟩ ?_ ?_ ?_
    · rintro i H6 _ ⟨s6, _⟩
      exact SqL.of (s6 _ _ ep)
    · rintro i v H6 H7 hi ⟨s6, ms, eD2, hM⟩ ⟨rfl, hx⟩
      simp only [List.length_cons] at hi hx
      have hoi : os.reverse[i]? = os[os.length - 1 - i]? := List.getElem?_reverse (by omega)
      have he : os[os.length - 1 - i]? = some (os[os.length - 1 - i]'(by omega)) := List.getElem?_eq_getElem _
      generalize os[os.length - 1 - i]'(by omega) = o at he
      have ix : vs.length + 1 - 1 - i = os.length - 1 - i := by omega
      rw [ix] at hx
      have hL := (hV5.same s6).2 _ _ _ hx he
      have ml := hM.1
      rw [List.length_map, List.length_take, List.length_reverse] at ml
      have rr : (os.reverse.take (i + 1)).map (·.map mln) = (os.reverse.take i).map (·.map mln) ++ [o.map mln] := by
        rw [List.take_add_one, hoi, he, List.map_append]
        rfl
      match o, hL, rr with
      | none, hL, rr =>
        cases hL
        refine ⟨rfl, _, rfl, rfl, _, rfl, iteT ⟨ms, eD2, small1000 (by omega), ?_, _, upd_same, ?_⟩⟩
        · intro b' o eb'
          rw [upd_ne (ne_of_none eb' nD2)]
          exact s6 _ _ eb'
        · rw [rr]
          exact (hM.snoc (v := .non) (o := none) rfl).keep (keep_lst eD2)
      | some Ln', ⟨aa, ha, ea, lb⟩, rr =>
        cases ha
        refine ⟨rfl, _, rfl, rfl, _, rfl, iteF ?_⟩
        refine ⟨_, rfl, aa, _, _, _, rfl, rfl, SqT.of ea, atI_nat (j := 0) rfl, _, rfl, aa, _, _, _, rfl, rfl, SqT.of ea, atI_nat (j := 1) rfl, _, rfl, _, rfl, aa, _, _, _, rfl, rfl, SqT.of ea, atI_nat (j := 2) rfl, len10 (by simp), fun r nr => ?_⟩
        have ur := sm_upd (o := trO (mln Ln')) nr
        refine ⟨ms, ur _ _ eD2, small1000 (by omega), ?_, _, upd_same, ?_⟩
        · intro b' o eb'
          rw [upd_ne (ne_of_none eb' nD2)]
          exact ur _ _ (s6 _ _ eb')
        · rw [rr]
          exact ((hM.same ur).snoc (v := .ref r) (o := some (mln Ln')) ⟨r, rfl, upd_same, lb.1, lb.2.1.neg, lb.2.2.1, lb.2.2.2⟩).keep (keep_lst (ur _ _ eD2))
    rintro H6 ⟨s6, ms, eD2, hM⟩
    rw [List.take_of_length_le (by rw [List.length_reverse, osl]; simp; omega)] at hM
    -- the times
    have s26 := s25.trans s6
    have etl6 := s26 _ _ etl
    have hT6 := hT.same s26
    refine ⟨_, rfl, tl, _, rfl, SqL.of etl6, fun D3 nD3 => ?_⟩
    refine lc_it (walk_rev (K := K) (a := tl) (xs := zs)) (fun i H' => Same H6 H' ∧ H' D3 = some (.lst (((tn.reverse.take i).map fun e => 1 - e.1).map V.int))) ⟨sm_upd nD3, upd_same⟩ ?_ ?_ ?_
    · rintro i H7 _ ⟨s7, _⟩
      exact SqL.of (s7 _ _ etl6)
    · rintro i x H7 H8 hi ⟨s7, eD3⟩ ⟨rfl, hx⟩
      have hoi : tn.reverse[i]? = tn[tn.length - 1 - i]? := List.getElem?_reverse (by omega)
      have he : tn[tn.length - 1 - i]? = some (tn[tn.length - 1 - i]'(by omega)) := List.getElem?_eq_getElem _
      generalize tn[tn.length - 1 - i]'(by omega) = e at he
      rw [zl] at hx
      obtain ⟨r, v, rfl, er, ev⟩ := (hT6.same s7).2 _ _ _ hx he
      refine ⟨r, _, rfl, SqT.of er, rfl, _, _, rfl, _, _, rfl, rfl, ?_⟩
      refine ⟨rfl, _, rfl, _, _, rfl, rfl, _, eD3, small1000 (by rw [List.length_map, List.length_map, List.length_take, List.length_reverse]; omega), ?_, ?_⟩
      · intro b' o eb'
        rw [upd_ne (ne_of_none eb' nD3)]
        exact s7 _ _ eb'
      · rw [upd_same, List.take_add_one, hoi, he, List.map_append, List.map_append]
        rfl
    rintro H7 ⟨s7, eD3⟩
    rw [List.take_of_length_le (by rw [List.length_reverse]; omega)] at eD3
    have eD2' := s7 _ _ eD2
    have hM7 := hM.same s7
    generalize hls : os.reverse.map (·.map mln) = ls at hM7
    have lsl : ls.length = tn.length + 1 := by rw [← hls, List.length_map, List.length_reverse, osl]
    have ml := hM7.1
    obtain ⟨m0, mr, rfl⟩ : ∃ m0 mr, ms = m0 :: mr := by
      cases ms with
      | nil => simp at ml; omega
      | cons m0 mr => exact ⟨m0, mr, rfl⟩
    obtain ⟨o0, lr, rfl⟩ : ∃ o0 lr, ls = o0 :: lr := by
      cases ls with
      | nil => simp at lsl
      | cons m0 mr => exact ⟨m0, mr, rfl⟩
    simp only [List.length_cons] at lsl ml
    refine ⟨_, rfl, D2, _, _, _, rfl, rfl, SqL.of eD2', atI_nat (j := 0) rfl, ?_⟩
    refine ⟨_, rfl, _, rfl, _, rfl, D2, _, rfl, SqL.of eD2', fun p2 np2 => ?_⟩
    have u8 := sm_upd (o := .lst (cutV (m0 :: mr) (some 1) none)) np2
    have ep2 : upd H7 p2 (.lst (cutV (m0 :: mr) (some 1) none)) p2 = some (.lst (cutV (m0 :: mr) (some 1) none)) := upd_same
    generalize upd H7 p2 (.lst (cutV (m0 :: mr) (some 1) none)) = H8 at u8 ep2
    rw [cut_drop1'] at ep2
    have ep2 : H8 p2 = some (.lst mr) := ep2
    refine ⟨D3, p2, _, _, rfl, SqL.of (u8 _ _ eD3), SqL.of ep2, fun S H9 ts nS s9 eS lS zS => ⟨len10 (by simp), fun T2 nT2 => ?_⟩⟩
    have u10 := sm_upd (o := .tup [m0, .ref S]) nT2
    have em : mirC fo tn = (o0, (tn.map fun e => 1 - e.1).reverse.zip lr) := by
      unfold mirC
      rw [hos, ← List.map_reverse, hls]
      rfl
    have sF := (s7.trans u8).trans s9
    refine kk T2 _ m0 S (ts.map V.ref) kc (s12.trans (s26.trans (sF.trans u10))) upd_same (u10 _ _ eS) ?_ ?_ hk kl
    · rw [hfo, htn, em]
      exact (hM7.2 0 _ _ rfl rfl).same ((u8.trans s9).trans u10)
    · rw [hfo, htn, em]
      have lz : (((tn.map fun e => 1 - e.1).reverse).zip lr).length = tn.length := by
        rw [List.length_zip, List.length_reverse, List.length_map]
        omega
      have lt : ts.length = tn.length := by
        rw [lS, List.length_map, List.length_map, List.length_reverse]
        omega
      refine ⟨by rw [List.length_map, lt]; exact lz.symm, fun j x e h1 h2 => ?_⟩
      rw [List.getElem?_map] at h1
      cases hTj : ts[j]? with
      | none => rw [hTj] at h1; cases h1
      | some T' =>
        rw [hTj] at h1
        cases h1
        obtain ⟨_, x', y', hx', hy', eT'⟩ := zS j T' hTj
        obtain ⟨e1', e2'⟩ := List.getElem?_zip_eq_some.mp h2
        rw [← List.map_reverse] at e1'
        rw [List.getElem?_map, e1'] at hx'
        cases hx'
        have := hM7.2 (j + 1) y' e.2 hy' e2'
        exact ⟨T', y', rfl, u10 _ _ eT', this.same ((u8.trans s9).trans u10)⟩
def spLineAt : Sp := fun vs H Q _ => ∃ (T tl : Addr) (vb : V) (ys : List V) (f : Option Ln) (tn : List (Int × Option Ln)) (t : Int) (j : Nat), vs = [.ref T, .int t] ∧ H T = some (.tup [vb, .ref tl]) ∧ H tl = some (.lst ys) ∧ LnVl j H vb f ∧ Trn j H ys tn ∧
  ∀ v, LnVl j H v (lnAt f tn t) → Q v H
abbrev s_line_at : Stmt := topS 53
abbrev N_line_at : List Str := ["chain", "time", "found", "turns", "begin", "line"]
abbrev P_line_at : List Str := ["chain", "time"]
theorem sc_line_at : FnScope N_line_at P_line_at (defScope s_line_at) := ⟨rfl, rfl, rfl, by decide +kernel, rfl, by decide +kernel, by decide +kernel⟩
theorem ok_line_at (D : Df K mg "line_at" s_line_at P_line_at) (B : Bi mg) : C8.Cal P w K mg base 1 "line_at" spLineAt [] := by
  refine cal_of D sc_line_at (fun vs H Q E h => ?_) (fun f cdv A outer s H vs Q E hr h => ?_)
  · obtain ⟨T, tl, vb, ys, f, tn, t, j, rfl, _⟩ := h
    rfl
  · obtain ⟨T, tl, vb, ys, fo, tn, t, j, rfl, eT, etl, hv, hT, kk⟩ := h
    refine ⟨_, (pss_cons (ps_asg (pv 0) (pg_tup rfl (pgs_cons (pg_name (i := 2) sc_line_at.nd rfl (Or.inl rfl)) (pgs_cons (pg_name (i := 3) sc_line_at.nd rfl (Or.inl rfl)) pgs_nil))))
    (pss_cons (ps_for PassesOwn.never rfl (pi_list (pv 3)) (pg_tup rfl (pgs_cons (pg_name (i := 4) sc_line_at.nd rfl (Or.inl rfl)) (pgs_cons (pg_name (i := 5) sc_line_at.nd rfl (Or.inl rfl)) pgs_nil)))
      (pss_cons (ps_if (pt_cmpR op_gt (pv 4) (pv 1) (nomark _))
      (pss_one ps_break)
      pss_nil)
    (pss_one (ps_set (i := 2) sc_line_at.nd rfl (Or.inl rfl) (pv 5)))))
    (pss_one (ps_ret (pv 2))))), ?_⟩
    refine ⟨_, rfl, T, _, rfl, SqT.of eT, rfl, _, _, rfl, _, _, rfl, rfl, ?_⟩
    refine ⟨_, rfl, tl, rfl, ⟨_, SqL.of etl⟩, ?_⟩
    refine for_list (a := tl) (xs := ys) (Pv := fun i σ H' => H' = H ∧ ∃ (v : V) (cur : Option Ln) (y4 y5 : Option V), σ = [some (.ref T), some (.int t), some v, some (.ref tl), y4, y5] ∧ LnVl j H v cur ∧ lnAt fo tn t = lnAt cur (tn.drop i) t) ?_ ?_ ?_ ?_
    · exact ⟨rfl, vb, fo, _, _, rfl, hv, rfl⟩
    · rintro i σ H' _ ⟨rfl, _⟩
      exact SqL.of etl
    · rintro i x σ H' hx ⟨rfl, v, cur, y4, y5, rfl, hc, ee⟩
      have hi := (List.getElem?_eq_some_iff.mp hx).1
      have zl := hT.1
      have he : tn[i]? = some (tn[i]'(by omega)) := List.getElem?_eq_getElem _
      have hdr : tn.drop i = tn[i]'(by omega) :: tn.drop (i + 1) := List.drop_eq_getElem_cons (by omega)
      generalize tn[i]'(by omega) = e at he hdr
      obtain ⟨r, u, rfl, er, eu⟩ := hT.2 i x e hx he
      rw [hdr] at ee
      refine ⟨r, _, rfl, SqT.of er, rfl, _, _, rfl, _, _, rfl, rfl, ?_⟩
      refine ⟨_, rfl, _, rfl, _, _, rfl, rfl, _, rfl, ite2 (fun c => ?_) (fun c => ?_)⟩
      · have c : t < e.1 := of_decide_eq_true c
        refine ⟨_, rfl, kk v ?_⟩
        rw [ee]
        show LnVl j H' v (if e.1 > t then cur else _)
        rw [if_pos c]
        exact hc
      · have c : ¬ t < e.1 := fun z => c (decide_eq_true z)
        refine ⟨_, rfl, rfl, u, e.2, _, _, rfl, eu, ?_⟩
        rw [ee]
        show (if e.1 > t then cur else _) = _
        rw [if_neg c]
    · rintro σ H' ⟨rfl, v, cur, y4, y5, rfl, hc, ee⟩
      refine ⟨_, rfl, kk v ?_⟩
      rw [ee, List.drop_of_length_le (by rw [hT.1]; exact Nat.le_refl _)]
      exact hc
end
end Lf
namespace Lf
open PySem PySem.Spec PyProof.Rows L2
/-! ### count_range -/
theorem endc_of {ds : List Rec} {lo up : Option T4} {H : Hp} {k : Nat} {a b : V} (hlo : LoOk (SD ds) lo) (hup : UpOk (SD ds) up) (hn : nr lo up = false) (g1 : EndV H (k + 2) a (lowE lo)) (g2 : EndV H (k + 2) b (highE up)) : EndC ds (lowE lo) (highE up) := by
  refine ⟨fun p q hp hq => ((ins_iff hp hq hlo hup).trans (rate_iff hp hq hlo hup).symm).trans fitm_sd, ends_ok hlo hup hn, fun l e => ?_, fun l e => ?_⟩
  · rw [e] at g1
    obtain ⟨_, _, _, R⟩ := g1
    exact ⟨R.p0, R.q1⟩
  · rw [e] at g2
    obtain ⟨_, _, _, R⟩ := g2
    exact R.q1
def BdO (j : Nat) (o : Option Int) : Prop := ∀ x, o = some x → Bd j x
theorem BdO.mono {j i : Nat} {o : Option Int} (h : BdO j o) (e : j ≤ i) : BdO i o := fun x hx => (h x hx).mono e
theorem bdo_none {j : Nat} : BdO j none := fun _ z => nomatch z
theorem bdo_some {j : Nat} {x : Int} (h : Bd j x) : BdO j (some x) := fun _ e => by cases e; exact h
section
variable {P : Program} {w : World} {K : PySem.W.Frag} {mg : Str → Option Value} {base : Heap} {CN : Addr}
def spRangeAt : Sp := fun vs H Q _ => ∃ (L : Addr) (kb : Bool) (xs : List V) (ds : List Rec) (k jt : Nat) (t : Int), vs = [.ref L, .int t] ∧ H L = some (sqO kb xs) ∧ Obs rcO H xs ds ∧ ds.length ≤ 900 ∧ RcB k ds ∧ 0 < k ∧ k ≤ 1900 ∧ ¬ Cf ds ∧ 0 < jt ∧ jt ≤ 4000 ∧ Bd jt t ∧
  ∀ T H' a b, Same H H' → H T = none → H' T = some (.tup [oV a, oV b]) → LCnt ds t a → GCnt ds t b → BdO (2 * k + jt + 7) a → BdO (2 * k + jt + 7) b → Q (.ref T) H'
abbrev s_range_at : Stmt := topS 49
abbrev N_range_at : List Str := ["records", "time", "ends", "low", "high"]
abbrev P_range_at : List Str := ["records", "time"]
theorem sc_range_at : FnScope N_range_at P_range_at (defScope s_range_at) := ⟨rfl, rfl, rfl, by decide +kernel, rfl, by decide +kernel, by decide +kernel⟩
theorem ok_range_at (D : Df K mg "range_at" s_range_at P_range_at) (B : Bi mg) (c_fitting_ends : C8.Cal P w K mg base 4 "fitting_ends" spFitE []) (c_least_chain : C8.Cal P w K mg base 4 "least_chain" spLeast []) (c_greatest_chain : C8.Cal P w K mg base 5 "greatest_chain" spGreat []) (c_line_at : C8.Cal P w K mg base 1 "line_at" spLineAt []) (c_divide_up : C8.Cal P w K mg base 1 "divide_up" spDivU []) : C8.Cal P w K mg base 6 "range_at" spRangeAt [] := by
  refine cal_of D sc_range_at (fun vs H Q E h => ?_) (fun f cdv A outer s H vs Q E hr h => ?_)
  · obtain ⟨L, kb, xs, ds, k, jt, t, rfl, _⟩ := h
    rfl
  · obtain ⟨L, kb, xs, ds, k, jt, t, rfl, eL, hO, hl, bd, k0, k1, nc, j0, j1, bt, kk⟩ := h
    refine ⟨_, (pss_cons (ps_set (i := 2) sc_range_at.nd rfl (Or.inl rfl) (C8.pe_c c_fitting_ends hr (by decide) (by rfl) (pa_cons (pv 0) pa_nil)))
    (pss_cons (ps_set (i := 3) sc_range_at.nd rfl (Or.inl rfl) (C8.pe_c c_line_at hr (by decide) (by rfl) (pa_cons (C8.pe_c c_least_chain hr (by decide) (by rfl) (pa_cons (pv 0) (pa_cons (pv 2) pa_nil))) (pa_cons (pv 1) pa_nil))))
    (pss_cons (ps_set (i := 4) sc_range_at.nd rfl (Or.inl rfl) (C8.pe_c c_line_at hr (by decide) (by rfl) (pa_cons (C8.pe_c c_greatest_chain hr (by decide) (by rfl) (pa_cons (pv 0) (pa_cons (pv 2) pa_nil))) (pa_cons (pv 1) pa_nil))))
    (pss_one (ps_ret (pe_tup (pa_cons (pe_ifExp (pt_cmpR op_isN (pv 3) pe_non (nomark _)) pe_non (pe_op op_fdivW (pe_op op_add (pe_op op_mulW (pe_ix (r := rIxT K) ix_tup (pv 3) pe_int (fun _ _ => rfl)) (pv 1)) (pe_ix (r := rIxT K) ix_tup (pv 3) pe_int (fun _ _ => rfl))) (pe_ix (r := rIxT K) ix_tup (pv 3) pe_int (fun _ _ => rfl)))) (pa_cons (pe_ifExp (pt_cmpR op_isN (pv 4) pe_non (nomark _)) pe_non (C8.pe_c c_divide_up hr (by decide) (by rfl) (pa_cons (pe_op op_add (pe_op op_mulW (pe_ix (r := rIxT K) ix_tup (pv 4) pe_int (fun _ _ => rfl)) (pv 1)) (pe_ix (r := rIxT K) ix_tup (pv 4) pe_int (fun _ _ => rfl))) (pa_cons (pe_ix (r := rIxT K) ix_tup (pv 4) pe_int (fun _ _ => rfl)) pa_nil)))) pa_nil)))))))), ?_⟩
    refine ⟨_, rfl, L, kb, xs, ds, k, rfl, eL, hO, by omega, bd, k0, by omega, nc, fun H1 T va vb lo up s1 hlo hup hn eT g1 g2 bl bu => ?_⟩
    have ec := endc_of hlo hup hn g1 g2
    have l2 : 0 < (lowEnd (lowE lo)).2 := by have := ec.l0.2; omega
    refine ⟨_, rfl, _, rfl, L, T, kb, xs, ds, va, vb, lowE lo, highE up, k, rfl, s1 _ _ eL, hO.same s1, hl, bd, k0, by omega, eT, g1, g2, l2, ec.lh, fun C H2 bv tl ys kc s2 eC etl hv hT hk kl => ?_⟩
    refine ⟨_, rfl, C, tl, bv, ys, _, _, t, _, rfl, eC, etl, hv, hT, fun lv hlv => ?_⟩
    have s12 := s1.trans s2
    refine ⟨_, rfl, _, rfl, L, T, kb, xs, ds, va, vb, lowE lo, highE up, k, rfl, s12 _ _ eL, hO.same s12, hl, bd, k0, by omega, s2 _ _ eT, g1.sm s2, g2.sm s2, l2, ec.lh, fun C2 H3 bv2 tl2 ys2 kc2 s3 eC2 etl2 hv2 hT2 hk2 kl2 => ?_⟩
    refine ⟨_, rfl, C2, tl2, bv2, ys2, _, _, t, _, rfl, eC2, etl2, hv2, hT2, fun gv hgv => ?_⟩
    have s13 := s12.trans s3
    have hlv := hlv.same s3
    have ok1 := least_ok ec hk t
    have ok2 := gcnt_of (least_ok (ec.mir) hk2 (-t))
    rw [mirC_at (turns_asc hk2.ch)] at hgv
    generalize lnAt (befOf (highE up) kc) (turnsOf (lowEnd (lowE lo)) kc) t = o1 at hlv ok1
    generalize lnAt (befOf (highE up) kc2) (turnsOf (lowEnd (lowE lo)) kc2) (-t) = o2 at hgv ok2
    have gval : ∀ {Ln' : Ln}, 0 < Ln'.2.2 → -(-(Ln'.1 * t + -Ln'.2.1) / Ln'.2.2) = -lnV Ln' (-t) := fun {Ln'} _ => by
      unfold lnV
      congr 2
      rw [Int.mul_neg]
      omega
    have fin : ∀ (a b : Option Int) (T2 : Addr), H3 T2 = none → LCnt ds t a → GCnt ds t b → BdO (2 * k + jt + 7) a → BdO (2 * k + jt + 7) b → Q (.ref T2) (upd H3 T2 (.tup [oV a, oV b])) := fun a b T2 nT la gb ba bb => by
      refine kk T2 _ a b (s13.trans (sm_upd nT)) ?_ upd_same la gb ba bb
      cases z : H T2 with
      | none => rfl
      | some o =>
        rw [s13 _ _ z] at nT
        cases nT
    have vbd : ∀ {x y z : Int}, Bd (2 * k + 5) x → Bd (2 * k + 5) y → 0 < z → Bd (2 * k + jt + 7) ((x * t + y) / z) := fun {x y z} hx hy hz => by
      have h1 : Bd (2 * k + jt + 5) (x * t) := (Bd.mul hx bt).mono (by omega)
      exact (Bd.ediv (Bd.add h1 (hy.mono (by omega))) hz).mono (by omega)
    have gbd : ∀ {x y z : Int}, Bd (2 * k + 5) x → Bd (2 * k + 5) y → 0 < z → Bd (2 * k + jt + 7) (-(-(x * t + y) / z)) := fun {x y z} hx hy hz => by
      have h1 : Bd (2 * k + jt + 5) (x * t) := (Bd.mul hx bt).mono (by omega)
      exact ((Bd.ediv (Bd.add h1 (hy.mono (by omega))).neg hz).neg).mono (by omega)
    match o1, o2, hlv, hgv, ok1, ok2 with
    | none, none, hlv, hgv, ok1, ok2 =>
      cases hlv
      cases hgv
      exact ⟨_, rfl, rfl, _, rfl, iteT ⟨_, rfl, rfl, _, rfl, iteT ⟨len10 (by simp), fun T2 nT => fin none none T2 nT ok1 ok2 bdo_none bdo_none⟩⟩⟩
    | none, some Lg, hlv, ⟨ga, hga, ega, lbg⟩, ok1, ok2 =>
      cases hlv
      cases hga
      have lz : 0 < Lg.2.2 := lbg.2.2.2
      have lb2 : Bd 9000 Lg.2.2 := lbg.2.2.1.mono (by omega)
      have lb0 : Bd (2 * k + 5) Lg.1 := lbg.1
      have lb1 : Bd (2 * k + 5) (-Lg.2.1) := lbg.2.1
      refine ⟨_, rfl, rfl, _, rfl, iteT ⟨_, rfl, rfl, _, rfl, iteF ?_⟩⟩
      refine ⟨_, rfl, ga, _, _, _, rfl, rfl, SqT.of ega, atI_nat (j := 0) rfl, _, rfl, _, _, rfl, rfl, mulW lb0 bt (by omega) (by omega) (by omega), _, rfl, ga, _, _, _, rfl, rfl, SqT.of ega, atI_nat (j := 1) rfl, _, _, rfl, rfl, ?_⟩
      refine ⟨_, rfl, ga, _, _, _, rfl, rfl, SqT.of ega, atI_nat (j := 2) rfl, _, _, rfl, lz, lb2, len10 (by simp), fun T2 nT => ?_⟩
      have ok2' : GCnt ds t (some (-(-(Lg.1 * t + -Lg.2.1) / Lg.2.2))) := by
        rw [gval lz]
        exact ok2
      exact fin none (some _) T2 nT ok1 ok2' bdo_none (bdo_some (gbd lb0 lb1 lz))
    | some Ll, none, ⟨la, hla, ela, lbl⟩, hgv, ok1, ok2 =>
      cases hgv
      cases hla
      have lz : 0 < Ll.2.2 := lbl.2.2.2
      have lb2 : Bd 9000 Ll.2.2 := lbl.2.2.1.mono (by omega)
      have lb0 : Bd (2 * k + 5) Ll.1 := lbl.1
      have lb1 : Bd (2 * k + 5) Ll.2.1 := lbl.2.1
      refine ⟨_, rfl, rfl, _, rfl, iteF ?_⟩
      refine ⟨_, rfl, la, _, _, _, rfl, rfl, SqT.of ela, atI_nat (j := 0) rfl, _, rfl, _, _, rfl, rfl, mulW lb0 bt (by omega) (by omega) (by omega), _, rfl, la, _, _, _, rfl, rfl, SqT.of ela, atI_nat (j := 1) rfl, _, _, rfl, rfl, ?_⟩
      refine ⟨_, rfl, la, _, _, _, rfl, rfl, SqT.of ela, atI_nat (j := 2) rfl, _, _, rfl, rfl, divW lz lb2 (by decide), ?_⟩
      exact ⟨_, rfl, rfl, _, rfl, iteT ⟨len10 (by simp), fun T2 nT => fin (some _) none T2 nT ok1 ok2 (bdo_some (vbd lb0 lb1 lz)) bdo_none⟩⟩
    | some Ll, some Lg, ⟨la, hla, ela, lbl⟩, ⟨ga, hga, ega, lbg⟩, ok1, ok2 =>
      cases hga
      cases hla
      have lz : 0 < Ll.2.2 := lbl.2.2.2
      have lb2 : Bd 9000 Ll.2.2 := lbl.2.2.1.mono (by omega)
      have lb0 : Bd (2 * k + 5) Ll.1 := lbl.1
      have lb1 : Bd (2 * k + 5) Ll.2.1 := lbl.2.1
      have lz' : 0 < Lg.2.2 := lbg.2.2.2
      have lb2' : Bd 9000 Lg.2.2 := lbg.2.2.1.mono (by omega)
      have lb0' : Bd (2 * k + 5) Lg.1 := lbg.1
      have lb1' : Bd (2 * k + 5) (-Lg.2.1) := lbg.2.1
      refine ⟨_, rfl, rfl, _, rfl, iteF ?_⟩
      refine ⟨_, rfl, la, _, _, _, rfl, rfl, SqT.of ela, atI_nat (j := 0) rfl, _, rfl, _, _, rfl, rfl, mulW lb0 bt (by omega) (by omega) (by omega), _, rfl, la, _, _, _, rfl, rfl, SqT.of ela, atI_nat (j := 1) rfl, _, _, rfl, rfl, ?_⟩
      refine ⟨_, rfl, la, _, _, _, rfl, rfl, SqT.of ela, atI_nat (j := 2) rfl, _, _, rfl, rfl, divW lz lb2 (by decide), ?_⟩
      refine ⟨_, rfl, rfl, _, rfl, iteF ?_⟩
      refine ⟨_, rfl, ga, _, _, _, rfl, rfl, SqT.of ega, atI_nat (j := 0) rfl, _, rfl, _, _, rfl, rfl, mulW lb0' bt (by omega) (by omega) (by omega), _, rfl, ga, _, _, _, rfl, rfl, SqT.of ega, atI_nat (j := 1) rfl, _, _, rfl, rfl, ?_⟩
      refine ⟨_, rfl, ga, _, _, _, rfl, rfl, SqT.of ega, atI_nat (j := 2) rfl, _, _, rfl, lz', lb2', len10 (by simp), fun T2 nT => ?_⟩
      have ok2' : GCnt ds t (some (-(-(Lg.1 * t + -Lg.2.1) / Lg.2.2))) := by
        rw [gval lz']
        exact ok2
      exact fin (some _) (some _) T2 nT ok1 ok2' (bdo_some (vbd lb0 lb1 lz)) (bdo_some (gbd lb0' lb1' lz'))
def spRange : Sp := fun vs H Q _ => ∃ (L : Addr) (kb : Bool) (xs : List V) (ds : List Rec) (k jt : Nat) (t : Int), vs = [.ref L, .int t] ∧ H L = some (sqO kb xs) ∧ Obs rcO H xs ds ∧ ds.length ≤ 200 ∧ RcB k ds ∧ 0 < k ∧ k ≤ 1900 ∧ ¬ Cf ds ∧ 0 < jt ∧ jt ≤ 4000 ∧ Bd jt t ∧
  ∀ T H' a b, Same H H' → H T = none → H' T = some (.tup [oV a, oV b]) → LCnt ds t a → GCnt ds t b → BdO (2 * k + jt + 7) a → BdO (2 * k + jt + 7) b → Q (.ref T) H'
abbrev s_count_range : Stmt := topS 48
abbrev N_count_range : List Str := ["records", "time"]
abbrev P_count_range : List Str := ["records", "time"]
theorem sc_count_range : FnScope N_count_range P_count_range (defScope s_count_range) := ⟨rfl, rfl, rfl, by decide +kernel, rfl, by decide +kernel, by decide +kernel⟩
theorem ok_count_range (D : Df K mg "count_range" s_count_range P_count_range) (c_check_records : C8.Cal P w K mg base 3 "check_records" spCkS []) (c_check_integer : C8.Cal P w K mg base 2 "check_integer" spCheckInt []) (c_range_at : C8.Cal P w K mg base 6 "range_at" spRangeAt []) : C8.Cal P w K mg base 7 "count_range" spRange [] := by
  refine cal_of D sc_count_range (fun vs H Q E h => ?_) (fun f cdv A outer s H vs Q E hr h => ?_)
  · obtain ⟨L, kb, xs, ds, k, jt, t, rfl, _⟩ := h
    rfl
  · obtain ⟨L, kb, xs, ds, k, jt, t, rfl, eL, hO, hl, bd, k0, k1, nc, j0, j1, bt, kk⟩ := h
    refine ⟨_, (pss_cons (ps_expr (C8.pe_c c_check_records hr (by decide) (by rfl) (pa_cons (pv 0) pa_nil)))
    (pss_cons (ps_expr (C8.pe_c c_check_integer hr (by decide) (by rfl) (pa_cons (pv 1) pa_nil)))
    (pss_one (ps_ret (C8.pe_c c_range_at hr (by decide) (by rfl) (pa_cons (pv 0) (pa_cons (pv 1) pa_nil))))))), ?_⟩
    refine ⟨_, rfl, L, kb, xs, ds, rfl, eL, hO, hl, fun H1 s1 => ?_⟩
    refine ⟨_, rfl, t, rfl, ?_⟩
    refine ⟨_, rfl, _, rfl, L, kb, xs, ds, k, jt, t, rfl, s1 _ _ eL, hO.same s1, by omega, bd, k0, k1, nc, j0, j1, bt, fun T H2 a b s2 nT eT la gb ba bb => ?_⟩
    refine kk T H2 a b (s1.trans s2) ?_ eT la gb ba bb
    cases z : H T with
    | none => rfl
    | some o =>
      rw [s1 _ _ z] at nT
      cases nT
/-- where no rule fits -/
def spNoRT (m : Nat) (CN : Addr) : Sp := fun vs H _ E => ∃ (L : Addr) (kb : Bool) (xs : List V) (ds : List Rec) (k : Nat) (t : Int), vs = [.ref L, .int t] ∧ H L = some (sqO kb xs) ∧ Obs rcO H xs ds ∧ ds.length ≤ m ∧ RcB k ds ∧ 0 < k ∧ k ≤ 8000 ∧ Cf ds ∧ ∀ H', Same H H' → E (.ref CN) none H'
theorem okx_range_at (D : Df K mg "range_at" s_range_at P_range_at) (B : Bi mg) (cx_fitting_ends : CalX P w K mg base 4 "fitting_ends" (spNoR 1000 CN)) (c_least_chain : C8.Cal P w K mg base 4 "least_chain" spLeast []) (c_greatest_chain : C8.Cal P w K mg base 5 "greatest_chain" spGreat []) (c_line_at : C8.Cal P w K mg base 1 "line_at" spLineAt []) (c_divide_up : C8.Cal P w K mg base 1 "divide_up" spDivU []) : CalX P w K mg base 6 "range_at" (spNoRT 1000 CN) := by
  refine calx_of D sc_range_at (fun vs H Q E h => ?_) (fun f cdv A outer s H vs Q E hr h => ?_)
  · obtain ⟨L, kb, xs, ds, k, t, rfl, _⟩ := h
    rfl
  · obtain ⟨L, kb, xs, ds, k, t, rfl, eL, hO, hl, bd, k0, k1, hc, ke⟩ := h
    refine ⟨_, (pss_cons (ps_set (i := 2) sc_range_at.nd rfl (Or.inl rfl) (pe_cx cx_fitting_ends hr (by decide) (takes_of rfl rfl rfl rfl) (by rfl) (pa_cons (pv 0) pa_nil)))
    (pss_cons (ps_set (i := 3) sc_range_at.nd rfl (Or.inl rfl) (C8.pe_c c_line_at hr (by decide) (by rfl) (pa_cons (C8.pe_c c_least_chain hr (by decide) (by rfl) (pa_cons (pv 0) (pa_cons (pv 2) pa_nil))) (pa_cons (pv 1) pa_nil))))
    (pss_cons (ps_set (i := 4) sc_range_at.nd rfl (Or.inl rfl) (C8.pe_c c_line_at hr (by decide) (by rfl) (pa_cons (C8.pe_c c_greatest_chain hr (by decide) (by rfl) (pa_cons (pv 0) (pa_cons (pv 2) pa_nil))) (pa_cons (pv 1) pa_nil))))
    (pss_one (ps_ret (pe_tup (pa_cons (pe_ifExp (pt_cmpR op_isN (pv 3) pe_non (nomark _)) pe_non (pe_op op_fdivW (pe_op op_add (pe_op op_mulW (pe_ix (r := rIxT K) ix_tup (pv 3) pe_int (fun _ _ => rfl)) (pv 1)) (pe_ix (r := rIxT K) ix_tup (pv 3) pe_int (fun _ _ => rfl))) (pe_ix (r := rIxT K) ix_tup (pv 3) pe_int (fun _ _ => rfl)))) (pa_cons (pe_ifExp (pt_cmpR op_isN (pv 4) pe_non (nomark _)) pe_non (C8.pe_c c_divide_up hr (by decide) (by rfl) (pa_cons (pe_op op_add (pe_op op_mulW (pe_ix (r := rIxT K) ix_tup (pv 4) pe_int (fun _ _ => rfl)) (pv 1)) (pe_ix (r := rIxT K) ix_tup (pv 4) pe_int (fun _ _ => rfl))) (pa_cons (pe_ix (r := rIxT K) ix_tup (pv 4) pe_int (fun _ _ => rfl)) pa_nil)))) pa_nil)))))))), ?_⟩
    exact ⟨_, rfl, L, kb, xs, ds, k, rfl, eL, hO, hl, bd, k0, k1, hc, ke⟩
theorem okx_count_range (D : Df K mg "count_range" s_count_range P_count_range) (c_check_records : C8.Cal P w K mg base 3 "check_records" spCkS []) (c_check_integer : C8.Cal P w K mg base 2 "check_integer" spCheckInt []) (cx_range_at : CalX P w K mg base 6 "range_at" (spNoRT 1000 CN)) : CalX P w K mg base 7 "count_range" (spNoRT 200 CN) := by
  refine calx_of D sc_count_range (fun vs H Q E h => ?_) (fun f cdv A outer s H vs Q E hr h => ?_)
  · obtain ⟨L, kb, xs, ds, k, t, rfl, _⟩ := h
    rfl
  · obtain ⟨L, kb, xs, ds, k, t, rfl, eL, hO, hl, bd, k0, k1, hc, ke⟩ := h
    refine ⟨_, (pss_cons (ps_expr (C8.pe_c c_check_records hr (by decide) (by rfl) (pa_cons (pv 0) pa_nil)))
    (pss_cons (ps_expr (C8.pe_c c_check_integer hr (by decide) (by rfl) (pa_cons (pv 1) pa_nil)))
    (pss_one (ps_ret (pe_cx cx_range_at hr (by decide) (takes_of rfl rfl rfl rfl) (by rfl) (pa_cons (pv 0) (pa_cons (pv 1) pa_nil))))))), ?_⟩
    refine ⟨_, rfl, L, kb, xs, ds, rfl, eL, hO, hl, fun H1 s1 => ?_⟩
    refine ⟨_, rfl, t, rfl, ?_⟩
    exact ⟨_, rfl, _, rfl, L, kb, xs, ds, k, t, rfl, s1 _ _ eL, hO.same s1, by omega, bd, k0, k1, hc, fun H' s' => ke H' (s1.trans s')⟩
end
end Lf
namespace Lf
open PySem PySem.Spec PyProof.Rows L2
/-! ### the least and the greatest count, by adding a record -/
theorem ex_mx (l : List Int) : ∃ m, IsMx l m := by
  cases l with
  | nil => exact ⟨none, rfl⟩
  | cons x r => exact ⟨some (PySem.W.maxOf x r), maxOf_mx x r⟩
theorem ex_mn (l : List Int) : ∃ m, IsMn l m := by
  cases l with
  | nil => exact ⟨none, rfl⟩
  | cons x r => exact ⟨some (PySem.W.minOf x r), minOf_mn x r⟩
/-- a rate that fits has a rule that fits -/
theorem m_fits {p q : Int} {ds : List Rec} (hq : 1 ≤ q) (h : FitM ds p q) : ∃ c, ds.all (fitB p q c) = true := by
  obtain ⟨a, ha⟩ := ex_mx (lph p q ds)
  obtain ⟨b, hb⟩ := ex_mn (hph p q ds)
  have ok := (ph_iff ha hb).mpr (fitm_sd.mpr h)
  match a, b, ok, ha, hb with
  | some x, none, _, ha, hb => exact ⟨x, (fit_iff hq ha hb).mpr ⟨Int.le_refl _, trivial⟩⟩
  | some x, some y, ok, ha, hb => exact ⟨x, (fit_iff hq ha hb).mpr ⟨Int.le_refl _, of_decide_eq_true (p := x ≤ y) ok⟩⟩
  | none, none, _, ha, hb => exact ⟨0, (fit_iff hq ha hb).mpr ⟨trivial, trivial⟩⟩
  | none, some y, _, ha, hb => exact ⟨y, (fit_iff hq ha hb).mpr ⟨trivial, Int.le_refl _⟩⟩
theorem nc_fit {ds : List Rec} (h : ¬ Cf ds) : ∃ p q c, Fit ds p q c := by
  obtain ⟨p, q, hp, hq, f⟩ := not_cf h
  obtain ⟨c, hc⟩ := m_fits hq f
  exact ⟨p, q, c, hp, hq, hc⟩
theorem fit_nc {ds : List Rec} {p q c : Int} (h : Fit ds p q c) : ¬ Cf ds := fits_nc h.1 h.2.1 h.2.2
theorem fit_snoc {ds : List Rec} {d : Rec} {p q c : Int} : Fit (ds ++ [d]) p q c ↔ Fit ds p q c ∧ fitB p q c d = true := by
  unfold Fit
  rw [List.all_append, List.all_cons, List.all_nil, Bool.and_true, Bool.and_eq_true]
  constructor
  · rintro ⟨a, b, c, d⟩
    exact ⟨⟨a, b, c⟩, d⟩
  · rintro ⟨⟨a, b, c⟩, d⟩
    exact ⟨a, b, c, d⟩
theorem lcnt_ex {ds : List Rec} (t : Int) (nc : ¬ Cf ds) : ∃ o, LCnt ds t o := by
  by_cases h : ∀ N : Int, ∃ p q c, Fit ds p q c ∧ (p * t + c) / q < N
  · exact ⟨none, h⟩
  · obtain ⟨N0, hN⟩ := Classical.not_forall.mp h
    have hN : ∀ p q c, Fit ds p q c → N0 ≤ (p * t + c) / q := fun p q c f => by
      refine Int.not_lt.mp fun z => hN ⟨p, q, c, f, z⟩
    obtain ⟨p, q, c, f⟩ := nc_fit nc
    have go : ∀ (n : Nat) (p q c : Int), Fit ds p q c → ((p * t + c) / q - N0).toNat ≤ n → ∃ o, LCnt ds t o := by
      intro n
      induction n with
      | zero =>
        intro p q c f h
        have := hN p q c f
        exact ⟨some ((p * t + c) / q), fun p' q' c' f' => by have := hN p' q' c' f'; omega, p, q, c, f, rfl⟩
      | succ n ih =>
        intro p q c f h
        by_cases g : ∀ p' q' c', Fit ds p' q' c' → (p * t + c) / q ≤ (p' * t + c') / q'
        · exact ⟨some ((p * t + c) / q), g, p, q, c, f, rfl⟩
        · obtain ⟨p', g⟩ := Classical.not_forall.mp g
          obtain ⟨q', g⟩ := Classical.not_forall.mp g
          obtain ⟨c', g⟩ := Classical.not_forall.mp g
          obtain ⟨f', g⟩ := Classical.not_imp.mp g
          have := hN p' q' c' f'
          exact ih p' q' c' f' (by omega)
    exact go _ p q c f (Nat.le_refl _)
theorem gcnt_ex {ds : List Rec} (t : Int) (nc : ¬ Cf ds) : ∃ o, GCnt ds t o := by
  obtain ⟨o, h⟩ := lcnt_ex (ds := ds.map mir) (-t) (fun z => nc (cf_mir.mp z))
  exact ⟨_, gcnt_of h⟩
/-- a record "at least n" at t agrees exactly if n is not beyond the greatest count -/
theorem gc_cf {ds : List Rec} {t : Int} {o : Option Int} (h : GCnt ds t o) (n : Int) : ¬ Cf (ds ++ [⟨true, t, n⟩]) ↔ ∀ N, o = some N → n ≤ N := by
  constructor
  · intro nc N e
    subst e
    obtain ⟨p, q, c, f⟩ := nc_fit nc
    obtain ⟨f1, f2⟩ := fit_snoc.mp f
    have f2 : decide (n ≤ (p * t + c) / q) = true := f2
    have := of_decide_eq_true f2
    have := h.1 p q c f1
    omega
  · intro hh
    match o, h, hh with
    | some N, ⟨_, p, q, c, f, e⟩, hh =>
      have := hh N rfl
      refine fit_nc (p := p) (q := q) (c := c) (fit_snoc.mpr ⟨f, ?_⟩)
      show decide (n ≤ (p * t + c) / q) = true
      exact decide_eq_true (by omega)
    | none, h, _ =>
      obtain ⟨p, q, c, f, e⟩ := h n
      refine fit_nc (p := p) (q := q) (c := c) (fit_snoc.mpr ⟨f, ?_⟩)
      show decide (n ≤ (p * t + c) / q) = true
      exact decide_eq_true (by omega)
theorem lc_cf {ds : List Rec} {t : Int} {o : Option Int} (h : LCnt ds t o) (n : Int) : ¬ Cf (ds ++ [⟨false, t, n⟩]) ↔ ∀ N, o = some N → N ≤ n := by
  constructor
  · intro nc N e
    subst e
    obtain ⟨p, q, c, f⟩ := nc_fit nc
    obtain ⟨f1, f2⟩ := fit_snoc.mp f
    have f2 : decide ((p * t + c) / q ≤ n) = true := f2
    have := of_decide_eq_true f2
    have := h.1 p q c f1
    omega
  · intro hh
    match o, h, hh with
    | some N, ⟨_, p, q, c, f, e⟩, hh =>
      have := hh N rfl
      refine fit_nc (p := p) (q := q) (c := c) (fit_snoc.mpr ⟨f, ?_⟩)
      show decide ((p * t + c) / q ≤ n) = true
      exact decide_eq_true (by omega)
    | none, h, _ =>
      obtain ⟨p, q, c, f, e⟩ := h n
      refine fit_nc (p := p) (q := q) (c := c) (fit_snoc.mpr ⟨f, ?_⟩)
      show decide ((p * t + c) / q ≤ n) = true
      exact decide_eq_true (by omega)
/-! ### records with small numbers -/
def Sml (ds : List Rec) : Prop := ∀ d ∈ ds, (-45 ≤ d.t ∧ d.t ≤ 45) ∧ -1000 ≤ d.n ∧ d.n ≤ 1000
theorem Sml.mir {ds : List Rec} (h : Sml ds) : Sml (ds.map mir) := fun d hd => by
  obtain ⟨e, he, rfl⟩ := List.mem_map.mp hd
  obtain ⟨⟨a, b⟩, c, d⟩ := h e he
  exact ⟨⟨by show -45 ≤ -e.t; omega, by show -e.t ≤ 45; omega⟩, by show -1000 ≤ -e.n; omega, by show -e.n ≤ 1000; omega⟩
theorem fitm_al {ds : List Rec} {t n p q : Int} : FitM (ds ++ [⟨true, t, n⟩]) p q ↔ FitM ds p q ∧ ∀ e ∈ ds, e.lo = false → p * (e.t - t) < (e.n + 1 - n) * q := by
  constructor
  · intro h
    refine ⟨h.sub fun d hd => List.mem_append.mpr (.inl hd), fun e he le => ?_⟩
    exact h ⟨true, t, n⟩ (List.mem_append.mpr (.inr (List.mem_singleton.mpr rfl))) e (List.mem_append.mpr (.inl he)) rfl le
  · rintro ⟨h, g⟩ d hd e he ld le
    rcases List.mem_append.mp he with he | he
    · rcases List.mem_append.mp hd with hd | hd
      · exact h d hd e he ld le
      · rw [List.mem_singleton.mp hd]
        exact g e he le
    · rw [List.mem_singleton.mp he] at le
      cases le
/-- a rate that fits although it is steep leaves no upper end -/
theorem steep {ds : List Rec} {p q m : Int} (sm : Sml ds) (q1 : 1 ≤ q) (f : FitM ds p q) (big : 1000000000 * q < p) (hm : 3000 ≤ m) : FitM ds m 1 := fun d hd e he ld le => by
  have h := f d hd e he ld le
  obtain ⟨⟨a1, a2⟩, a3, a4⟩ := sm d hd
  obtain ⟨⟨b1, b2⟩, b3, b4⟩ := sm e he
  rw [Int.mul_one]
  rcases Int.lt_trichotomy (e.t - d.t) 0 with z | z | z
  · have h1 : m * (e.t - d.t) ≤ m * (-1) := Int.mul_le_mul_of_nonneg_left (by omega) (by omega)
    omega
  · rw [z, Int.mul_zero] at h ⊢
    have := pos_of_mul h (by omega)
    omega
  · exfalso
    have h1 : p * 1 ≤ p * (e.t - d.t) := Int.mul_le_mul_of_nonneg_left (by omega) (by omega)
    have h2 : (e.n + 1 - d.n) * q ≤ 2001 * q := Int.mul_le_mul_of_nonneg_right (by omega) (by omega)
    omega
theorem low_al {ds : List Rec} {t : Int} (sm : Sml ds) (ht : -45 ≤ t ∧ t ≤ 45) (nc : ¬ Cf ds) : ¬ Cf (ds ++ [⟨true, t, -1000000000000⟩]) := by
  obtain ⟨p, q, p0, q1, f⟩ := not_cf nc
  intro z
  by_cases big : 1000000000 * q < p
  · refine z 3000 1 (by decide) (by decide) (fitm_al.mpr ⟨steep sm q1 f big (by decide), fun e he _ => ?_⟩)
    obtain ⟨⟨b1, b2⟩, b3, b4⟩ := sm e he
    omega
  · refine z p q p0 q1 (fitm_al.mpr ⟨f, fun e he _ => ?_⟩)
    obtain ⟨⟨b1, b2⟩, b3, b4⟩ := sm e he
    have h1 : p * (e.t - t) ≤ p * 90 := Int.mul_le_mul_of_nonneg_left (by omega) p0
    have h2 : 900000000000 * q ≤ (e.n + 1 - -1000000000000) * q := Int.mul_le_mul_of_nonneg_right (by omega) (by omega)
    omega
theorem far_al {ds : List Rec} {t : Int} (sm : Sml ds) (ht : -45 ≤ t ∧ t ≤ 45) (h : ¬ Cf (ds ++ [⟨true, t, 1000000000000⟩])) (M : Int) : ¬ Cf (ds ++ [⟨true, t, M⟩]) := by
  obtain ⟨p, q, p0, q1, f⟩ := not_cf h
  obtain ⟨f1, f2⟩ := fitm_al.mp f
  intro z
  by_cases hh : ∃ e ∈ ds, e.lo = false
  · have key : ∀ e ∈ ds, e.lo = false → e.t < t ∧ 1000000000 * q < p := fun e he le => by
      have g := f2 e he le
      obtain ⟨⟨b1, b2⟩, b3, b4⟩ := sm e he
      have g1 : (e.n + 1 - 1000000000000) * q ≤ -900000000000 * q := Int.mul_le_mul_of_nonneg_right (by omega) (by omega)
      have lt : e.t < t := Int.not_le.mp fun w => by
        have := Int.mul_nonneg p0 (show 0 ≤ e.t - t by omega)
        omega
      refine ⟨lt, ?_⟩
      have g2 : p * (-90) ≤ p * (e.t - t) := Int.mul_le_mul_of_nonneg_left (by omega) p0
      omega
    obtain ⟨e0, he0, le0⟩ := hh
    have big := (key e0 he0 le0).2
    have mm : ∃ m : Int, 3000 ≤ m ∧ M + 2000 ≤ m := by
      by_cases c : M ≤ 1000
      · exact ⟨3000, by omega, by omega⟩
      · exact ⟨M + 2000, by omega, by omega⟩
    obtain ⟨m, m1, m2⟩ := mm
    refine z m 1 (by omega) (by decide) (fitm_al.mpr ⟨steep sm q1 f1 big m1, fun e he le => ?_⟩)
    obtain ⟨⟨b1, b2⟩, b3, b4⟩ := sm e he
    have lt := (key e he le).1
    have h1 : m * (e.t - t) ≤ m * (-1) := Int.mul_le_mul_of_nonneg_left (by omega) (by omega)
    omega
  · refine z p q p0 q1 (fitm_al.mpr ⟨f1, fun e he le => absurd ⟨e, he, le⟩ hh⟩)
/-! ### what the search looks for -/
def sg (s : Bool) : Int := if s = true then 1 else -1
structure Rch (s : Bool) (ds : List Rec) (t : Int) (o : Option Int) : Prop where
  iff : ∀ n, ¬ Cf (ds ++ [⟨s, t, sg s * n⟩]) ↔ ∀ N, o = some N → n ≤ sg s * N
  rg : ∀ N, o = some N → -1000000000000 ≤ sg s * N ∧ sg s * N < 1000000000000
theorem rch_g {ds : List Rec} {t : Int} {o : Option Int} (sm : Sml ds) (ht : -45 ≤ t ∧ t ≤ 45) (nc : ¬ Cf ds) (h : GCnt ds t o) : Rch true ds t o := by
  have e : ∀ n, sg true * n = n := fun n => by show (1 : Int) * n = n; omega
  refine ⟨fun n => ?_, fun N hN => ?_⟩
  · rw [e]
    constructor
    · intro g N hN
      rw [e]
      exact (gc_cf h n).mp g N hN
    · intro g
      exact (gc_cf h n).mpr fun N hN => by have := g N hN; rw [e] at this; exact this
  · rw [e]
    have a := (gc_cf h _).mp (low_al sm ht nc) N hN
    refine ⟨a, Int.not_le.mp fun z => ?_⟩
    have b := far_al sm ht ((gc_cf h 1000000000000).mpr fun N' hN' => by rw [hN] at hN'; cases hN'; exact z) (N + 1)
    have := (gc_cf h (N + 1)).mp b N hN
    omega
theorem lg_mir {ds : List Rec} {t : Int} {o : Option Int} (h : LCnt ds t o) : GCnt (ds.map mir) (-t) (o.map fun x => -x) := by
  have e : (ds.map mir).map mir = ds := by
    rw [List.map_map]
    have : mir ∘ mir = id := funext mir_mir
    rw [this, List.map_id]
  refine gcnt_of ?_
  rw [e, Int.neg_neg]
  exact h
theorem rch_l {ds : List Rec} {t : Int} {o : Option Int} (sm : Sml ds) (ht : -45 ≤ t ∧ t ≤ 45) (nc : ¬ Cf ds) (h : LCnt ds t o) : Rch false ds t o := by
  have e : ∀ n, sg false * n = -n := fun n => by show (-1 : Int) * n = -n; omega
  have R := rch_g sm.mir (show -45 ≤ -t ∧ -t ≤ 45 by omega) (fun z => nc (cf_mir.mp z)) (lg_mir h)
  refine ⟨fun n => ?_, fun N hN => ?_⟩
  · rw [e]
    constructor
    · intro g N hN
      rw [e]
      have := (lc_cf h (-n)).mp g N hN
      omega
    · intro g
      exact (lc_cf h (-n)).mpr fun N hN => by have := g N hN; rw [e] at this; omega
  · have := R.rg (-N) (by rw [hN]; rfl)
    have e1 : sg true * -N = -N := by show (1 : Int) * -N = -N; omega
    rw [e1] at this
    rw [e]
    exact this
end Lf
namespace Lf
open PySem PySem.Spec PyProof.Rows L2
section
variable {P : Program} {w : World} {K : PySem.W.Frag} {mg : Str → Option Value} {base : Heap} {C CV : Addr}
/-! ### fits_record, fits -/
def spFitsRec : Sp := fun vs H Q _ => ∃ (r e : Addr) (p q c : Int) (d : Rec) (k : Nat), vs = [.ref r, .ref e] ∧ H r = some (.tup [.int p, .int q, .int c]) ∧ H e = some (rcO d) ∧ 1 ≤ q ∧ Bd k p ∧ Bd k q ∧ Bd k d.t ∧ 0 < k ∧ k ≤ 9000 ∧ Q (.bl (fitB p q c d)) H
abbrev s_fits_record : Stmt := topS 33
abbrev N_fits_record : List Str := ["rule", "record", "p", "q", "c", "word", "time", "number", "reached"]
abbrev P_fits_record : List Str := ["rule", "record"]
theorem sc_fits_record : FnScope N_fits_record P_fits_record (defScope s_fits_record) := ⟨rfl, rfl, rfl, by decide +kernel, rfl, by decide +kernel, by decide +kernel⟩
theorem ok_fits_record (D : Df K mg "fits_record" s_fits_record P_fits_record) : C8.Cal P w K mg base 1 "fits_record" spFitsRec [] := by
  refine cal_of D sc_fits_record (fun vs H Q E h => ?_) (fun f cdv A outer s H vs Q E hr h => ?_)
  · obtain ⟨r, e, p, q, c, d, k, rfl, _⟩ := h
    rfl
  · obtain ⟨r, e, p, q, c, d, k, rfl, er, ee, q1, bp, bq, bt, k0, k1, kk⟩ := h
    refine ⟨_, (pss_cons (ps_asg (pv 0) (pg_tup rfl (pgs_cons (pg_name (i := 2) sc_fits_record.nd rfl (Or.inl rfl)) (pgs_cons (pg_name (i := 3) sc_fits_record.nd rfl (Or.inl rfl)) (pgs_cons (pg_name (i := 4) sc_fits_record.nd rfl (Or.inl rfl)) pgs_nil)))))
    (pss_cons (ps_asg (pv 1) (pg_tup rfl (pgs_cons (pg_name (i := 5) sc_fits_record.nd rfl (Or.inl rfl)) (pgs_cons (pg_name (i := 6) sc_fits_record.nd rfl (Or.inl rfl)) (pgs_cons (pg_name (i := 7) sc_fits_record.nd rfl (Or.inl rfl)) pgs_nil)))))
    (pss_cons (ps_set (i := 8) sc_fits_record.nd rfl (Or.inl rfl) (pe_op op_fdivW (pe_op op_add (pe_op op_mulW (pv 2) (pv 6)) (pv 4)) (pv 3)))
    (pss_one (ps_ret (pe_ifExp (pt_cmpR op_eq (pv 5) pe_str (nomark _)) (pe_cmpR op_ge (pv 8) (pv 7) (nomark _)) (pe_cmpR op_le (pv 8) (pv 7) (nomark _)))))))), ?_⟩
    refine ⟨_, rfl, r, _, rfl, SqT.of er, rfl, _, _, rfl, _, _, rfl, _, _, rfl, rfl, ?_⟩
    refine ⟨_, rfl, e, _, rfl, SqT.of ee, rfl, _, _, rfl, _, _, rfl, _, _, rfl, rfl, ?_⟩
    refine ⟨_, rfl, _, rfl, _, _, rfl, rfl, mulW bp bt k0 k0 (by omega), _, rfl, _, _, rfl, rfl, _, rfl, _, _, rfl, rfl, divW (by omega) bq (by omega), ?_⟩
    refine ⟨_, rfl, rfl, _, rfl, ?_⟩
    rw [w_lo]
    have kk : Q (.bl (if d.lo = true then decide (d.n ≤ (p * d.t + c) / q) else decide ((p * d.t + c) / q ≤ d.n))) H := kk
    cases hd : d.lo with
    | true =>
      rw [hd] at kk
      refine iteT ?_
      exact ⟨_, rfl, _, rfl, _, _, rfl, rfl, kk⟩
    | false =>
      rw [hd] at kk
      refine iteF ?_
      exact ⟨_, rfl, _, rfl, _, _, rfl, rfl, kk⟩
def spFitsS : Sp := fun vs H Q _ => ∃ (r L : Addr) (p q c : Int) (kb : Bool) (xs : List V) (ds : List Rec) (k : Nat), vs = [.ref r, .ref L] ∧ H r = some (.tup [.int p, .int q, .int c]) ∧ RuleB k p q c ∧ H L = some (sqO kb xs) ∧ Obs rcO H xs ds ∧ ds.length ≤ 200 ∧ RcB k ds ∧ 0 < k ∧ k ≤ 9000 ∧
  ∀ H', Same H H' → Q (.bl (ds.all (fitB p q c))) H'
abbrev s_fits : Stmt := topS 31
abbrev N_fits : List Str := ["rule", "records", "record"]
abbrev P_fits : List Str := ["rule", "records"]
theorem sc_fits : FnScope N_fits P_fits (defScope s_fits) := ⟨rfl, rfl, rfl, by decide +kernel, rfl, by decide +kernel, by decide +kernel⟩
theorem okS_fits (D : Df K mg "fits" s_fits P_fits) (B : Bi mg) (c_check_rule : C8.Cal P w K mg base 3 "check_rule" spCheckRule []) (c_check_records : C8.Cal P w K mg base 3 "check_records" spCkS []) (c_fits_record : C8.Cal P w K mg base 1 "fits_record" spFitsRec []) : C8.Cal P w K mg base 4 "fits" spFitsS [] := by
  refine cal_of D sc_fits (fun vs H Q E h => ?_) (fun f cdv A outer s H vs Q E hr h => ?_)
  · obtain ⟨r, L, p, q, c, kb, xs, ds, k, rfl, _⟩ := h
    rfl
  · obtain ⟨r, L, p, q, c, kb, xs, ds, k, rfl, er, R, eL, hO, hl, bd, k0, k1, kk⟩ := h
    refine ⟨_, (pss_cons (ps_expr (C8.pe_c c_check_rule hr (by decide) (by rfl) (pa_cons (pv 0) pa_nil)))
    (pss_cons (ps_expr (C8.pe_c c_check_records hr (by decide) (by rfl) (pa_cons (pv 1) pa_nil)))
    (pss_one (ps_ret (pe_callB (cr_all rfl) (by rfl) B.all_ bt_all (pa_cons (pe_lc (own := [("record", 2)]) (g := (gName 2)) (by rfl) sc_fits.nd (pi_seq (pv 1)) (blkOk_by (own := [("record", 2)]) (N := N_fits) (sc := defScope s_fits) (by decide +kernel)) (fun _ _ _ _ _ => (pg_name (i := 2) sc_fits.nd rfl (Or.inl rfl))) (fun _ _ _ _ _ => pts_nil) (fun _ _ _ _ _ => (C8.pe_c c_fits_record hr (by decide) (by rfl) (pa_cons (pv 0) (pa_cons (pv 2) pa_nil))))) pa_nil)))))), ?_⟩
    refine ⟨_, rfl, r, p, q, c, k, rfl, er, R, fun H1 s1 => ?_⟩
    refine ⟨_, rfl, L, kb, xs, ds, rfl, s1 _ _ eL, hO.same s1, hl, fun H2 s2 => ?_⟩
    have s12 := s1.trans s2
    refine ⟨_, rfl, L, kb, xs, rfl, SqB.of (s12 _ _ eL), fun D1 nD1 => ?_⟩
    refine lc_it (walk_seq (K := K) (b := kb) (a := L) (xs := xs)) (fun i H' => Same H2 H' ∧ H' D1 = some (.lst (((ds.take i).map (fitB p q c)).map V.bl))) ⟨sm_upd nD1, upd_same⟩ ?_ ?_ ?_
    · rintro i H3 _ ⟨s3, _⟩
      exact SqB.of (s3 _ _ (s12 _ _ eL))
    · rintro i x H3 H4 hi0 ⟨s3, e3⟩ ⟨rfl, hx⟩
      obtain ⟨e, d, rfl, ed, hd⟩ := hO.at hx
      have hi := (List.getElem?_eq_some_iff.mp hd).1
      refine ⟨rfl, _, rfl, _, rfl, r, e, p, q, c, d, k, rfl, s3 _ _ (s12 _ _ er), s3 _ _ (s12 _ _ ed), R.q1, R.bp, R.bq, (bd d (List.mem_of_getElem? hd)).1, k0, k1, _, e3, ?_, ?_, ?_⟩
      · rw [List.length_map, List.length_map, List.length_take]
        exact small1000 (by omega)
      · intro b o eb
        rw [upd_ne (ne_of_none eb nD1)]
        exact s3 _ _ eb
      · rw [upd_same, List.take_add_one, hd, List.map_append, List.map_append]
        rfl
    rintro H3 ⟨s3, e3⟩
    rw [List.take_of_length_le (by rw [hO.len]; exact Nat.le_refl _)] at e3
    refine ⟨D1, _, rfl, SqL.of e3, ?_⟩
    rw [List.all_map]
    exact kk _ (s12.trans s3)
end
end Lf
namespace Lf
open PySem PySem.Spec PyProof.Rows L2
/-! ### own classes: their methods, how they are made, fields as targets -/
def Dm (K : PySem.W.Frag) (C : Addr) (m qual : Str) (st : Stmt) (ps : List Str) : Prop := ∃ f fd, Fun K m qual st f fd ∧ Meth K C m f ∧ Binds K fd ps []
structure ClsT (K : PySem.W.Frag) (mg : Str → Option Value) (x : Str) (C : Addr) : Prop where
  cl : Cls K C
  mks : PySem.W.makesIn K C = true
  kp : PySem.W.keepIn K (.ref C) = true
  g : mg x = some (.ref C)
section
variable {P : Program} {w : World} {K : PySem.W.Frag} {mg : Str → Option Value} {base : Heap} {C : Addr}
theorem met_of {m qual : Str} {st : Stmt} {N ps : List Str} {k : Nat} {sp : Sp} (c : Cls K C) (D : Dm K C m qual st ps) (S : FnScope N ps (defScope st)) (len : ∀ vs H Q E, sp vs H Q E → vs.length = ps.length)
    (hb : ∀ (f : Addr) (cdv : Value) (A : Around) (outer : List Env) (s : Shared) (H : Hp) (vs : List V) (Q : VK) (E : XK), Room k (A.deeper (envOfC qual (defScope st) s.heap.objs.size f cdv)) → sp vs H Q E →
      ∃ t, PSs (cxOf CX0 P w K mg base N qual (defScope st) f cdv A outer s H E).nox (defBody st) t ∧ t { nx := fun _ H' => Q .non H', rt := Q } (start N vs) H) : C8.Met P w K mg base (k + 1) C m sp [] := by
  obtain ⟨f, fd, F, hm, b⟩ := D
  exact ⟨⟨f, fd, ps, [], c, hm, F.ok S len (fun cdv A outer s H vs Q E hr h => hb f cdv A outer s H vs Q E hr h), b, .nil⟩⟩
theorem mak_of {x qual : Str} {st : Stmt} {N ps : List Str} {k : Nat} {sp : Sp} (c : ClsT K mg x C) (D : Dm K C "__init__" qual st ps) (S : FnScope N ps (defScope st)) (len : ∀ vs H Q E, sp vs H Q E → vs.length = ps.length)
    (hb : ∀ (f : Addr) (cdv : Value) (A : Around) (outer : List Env) (s : Shared) (H : Hp) (vs : List V) (Q : VK) (E : XK), Room k (A.deeper (envOfC qual (defScope st) s.heap.objs.size f cdv)) → sp vs H Q E →
      ∃ t, PSs (cxOf CX0 P w K mg base N qual (defScope st) f cdv A outer s H E).nox (defBody st) t ∧ t { nx := fun _ H' => Q .non H', rt := Q } (start N vs) H) : C8.Mak P w K mg base (k + 1) x C sp [] := by
  obtain ⟨f, fd, F, hm, b⟩ := D
  exact ⟨⟨f, fd, ps, [], ⟨c.mks, hm.at_, hm.fn, c.kp⟩, F.ok S len (fun cdv A outer s H vs Q E hr h => hb f cdv A outer s H vs Q E hr h), c.g, b, .nil⟩⟩
end
section
variable {X : Cx}
/-- o.f = .., as one of several targets -/
def gFld (K : PySem.W.Frag) (ta : TE) (f : Str) : TG := fun v σ H Q => ta σ H fun x H1 => ∃ a C dx fs, x = .ref a ∧ H1 a = some (.ins C dx fs) ∧ Cls K C ∧ NoAttr K C f ∧ fs.length < 1000 ∧ Q σ (upd H1 a (.ins C dx (putF f v fs)))
theorem pg_fld {o : Expr} {f : Str} {pos : Pos} {ta : TE} (ho : PE X o ta) : PG X (.Attribute o f pos) (gFld X.K ta f) := by
  refine ⟨fun pins s σ H v u Q I r h => ?_⟩
  rw [assign_Attribute]
  refine wpAny_bind (wpAny_holding (thn (ho.run pins s σ H _ I h) fun ov s1 ⟨x, H1, I1, r1, a, C, dx, fs, ex, ea, c, n, l, q1⟩ => ?_))
  subst ex
  obtain rfl : ov = Value.ref a := r1
  refine wpAny_bind (wpAny_standAt (wpAny_bind (wpAny_holding ?_)))
  exact setattr_ok I1 ea c n l r fun s3 I3 => wpAny_release ⟨σ, _, I3, q1⟩
def rMulA : V → V → Hp → VK → Prop := fun x y H Q => ∃ i j, x = .int i ∧ y = .int j ∧ CMulW i j ∧ Q (.int (i * j)) H
theorem in_mulW : InOp X .Mult rMulA := by
  rintro pins s σ H x y u v Q I rx ry ⟨i, j, rfl, rfl, hc, q⟩
  obtain ⟨t, rfl⟩ := (show ∃ t, u = Value.int i t from rx)
  obtain ⟨t', rfl⟩ := (show ∃ t', v = Value.int j t' from ry)
  exact PyProof.Rows.imul_int ⟨.int (i * j), H, I.tok _, ⟨_, rfl⟩, q⟩ hc.ok
end
end Lf
namespace Lf
open PySem PySem.Spec PyProof.Rows L2
/-! ### a def with one keyword-only parameter, None by default -/
def DfO (K : PySem.W.Frag) (mg : Str → Option Value) (x : Str) (st : Stmt) (ps : List Str) (n : Nat) (kn : Str) : Prop :=
  ∃ f fd ds, Fun K x x st f fd ∧ mg x = some (.ref f) ∧ Vals [V.non] ds ∧ Binds K fd ps ds ∧ KBn K fd ps n [kn] (fun us ws => us ++ ws) (fun vs zs => vs ++ zs)
def CalO (P : Program) (w : World) (K : PySem.W.Frag) (mg : Str → Option Value) (base : Heap) (k : Nat) (x : Str) (sp : Sp) (n : Nat) (kn : Str) : Prop :=
  ∃ f fd ps, FnOk P w K mg base CX0 k f fd ps sp ∧ mg x = some (.ref f) ∧ PySem.W.keepIn K (.ref f) = true ∧ KBn K fd ps n [kn] (fun us ws => us ++ ws) (fun vs zs => vs ++ zs)
section
variable {P : Program} {w : World} {K : PySem.W.Frag} {mg : Str → Option Value} {base : Heap}
theorem calo_of {x kn : Str} {st : Stmt} {N ps : List Str} {k n : Nat} {sp : Sp} (D : DfO K mg x st ps n kn) (S : FnScope N ps (defScope st)) (len : ∀ vs H Q E, sp vs H Q E → vs.length = ps.length)
    (hb : ∀ (f : Addr) (cdv : Value) (A : Around) (outer : List Env) (s : Shared) (H : Hp) (vs : List V) (Q : VK) (E : XK), Room k (A.deeper (envOfC x (defScope st) s.heap.objs.size f cdv)) → sp vs H Q E →
      ∃ t, PSs (cxOf CX0 P w K mg base N x (defScope st) f cdv A outer s H E).nox (defBody st) t ∧ t { nx := fun _ H' => Q .non H', rt := Q } (start N vs) H) :
    C8.Cal P w K mg base (k + 1) x sp [.non] ∧ CalO P w K mg base (k + 1) x sp n kn := by
  obtain ⟨f, fd, ds, F, hm, hv, b, kb⟩ := D
  have G : FnOk P w K mg base CX0 (k + 1) f fd ps sp := F.ok S len (fun cdv A outer s H vs Q E hr h => hb f cdv A outer s H vs Q E hr h)
  exact ⟨⟨⟨f, fd, ps, ds, G, hm, F.kp, b, hv⟩⟩, f, fd, ps, G, hm, F.kp, kb⟩
theorem dfo_mk {x kn : Str} {st : Stmt} {f D : Addr} {ps : List Str} {n : Nat} {oc : Value} {od : Option Addr} {doc pm : Value} {an : Option Addr} {cdv ct : Value} {osl : Array (Option Value)}
    (l : K.lookup f = some ⟨oc, od, .func (PySem.W.fnOf x x (defArgs st) (defBody st) (defScope st) .none (.ref D) doc pm an cdv ct), osl⟩)
    (F : Fun K x x st f (PySem.W.fnOf x x (defArgs st) (defBody st) (defScope st) .none (.ref D) doc pm an cdv ct)) (hm : mg x = some (.ref f)) (hc : PySem.W.codeIn K cdv x = true) (hp : PySem.W.keepIn K (.ref f) = true) (hn : PySem.W.nsIn K D kn = some (some .none)) (lp : n + 1 = ps.length)
    (h0 : ∀ (D : Addr) (doc pm : Value) (an : Option Addr) (cdv ct : Value) (us ks : List Value), us.length = n → ks.length = 1 → KwChain D ([kn].zip ks) (bindArgs (PySem.W.fnOf x x (defArgs st) (defBody st) (defScope st) .none (.ref D) doc pm an cdv ct) ⟨us, []⟩) (ps.zip (us ++ ks)))
    (h1 : ∀ (us ws : List Value), us.length = n → ws.length = 1 → bindArgs (PySem.W.fnOf x x (defArgs st) (defBody st) (defScope st) .none (.ref D) doc pm an cdv ct) ⟨us, [kn].zip ws⟩ = pure (ps.zip (us ++ ws))) : DfO K mg x st ps n kn := by
  have G : FunD K x x (defArgs st) (defBody st) (defScope st) [] [(kn, .non)] f (PySem.W.fnOf x x (defArgs st) (defBody st) (defScope st) .none (.ref D) doc pm an cdv ct) :=
    ⟨⟨oc, od, .none, .ref D, doc, pm, an, cdv, ct, osl, rfl, l, hc, .inl ⟨rfl, rfl⟩, .inr ⟨D, rfl, fun q hq => by
      cases List.mem_singleton.mp hq
      exact ⟨.none, hn, rfl⟩⟩⟩, hp⟩
  obtain ⟨ds, hv, b⟩ := G.binds0 (ps := ps) n (by simp) lp fun D' doc' pm' an' cdv' ct' us ks l1 l2 => h0 D' doc' pm' an' cdv' ct' us ks l1 l2
  exact ⟨f, _, ds, F, hm, hv, b, ⟨fun s us ws _ l1 l2 => .of_eq (h1 us ws l1 l2), fun r1 r2 => r1.append r2⟩⟩
end
section
variable {X : Cx} {k j n : Nat} {kn x : Str} {sp : Sp} {p pos : Pos} {e : Expr} {es : List Expr} {kws : List Keyword} {t tk : TA}
theorem pe_kwo (c : CalO X.prog X.w X.K X.mg X.base k x sp n kn) (hr : Room j X.A) (hk : k ≤ j) (hg : Gl X x) (ha : L2.PA X (e :: es) t) (hkw : L2.PK X kws tk)
    (hall : (backToKw pos (keywordEach kws X.env)).all (·.1.isSome) = true := by rfl) (hks : (backToKw pos (keywordEach kws X.env)).filterMap (·.1) = [kn] := by rfl)
    (hdb : (x == ("__debug__" : Str)) = false := by decide) (he : starEach (e :: es) X.env = (false, eval e X.env) :: starEach es X.env := by rfl)
    (hpl : ((backTo pos (starEach (e :: es) X.env)).any (·.1) || (backToKw pos (keywordEach kws X.env)).any (·.1.isNone)) = false := by rfl) :
    PE X (.Call (.Name x p) (e :: es) kws pos) (tCallN n 1 sp (fun vs zs => vs ++ zs) C8.E0 t tk) := by
  obtain ⟨f, fd, ps, F, hm, kp, kb⟩ := c
  exact pe_callN F (hr.mono hk) hg hm kp kb C8.pass0 ha hkw hall hks hdb he hpl
end
end Lf
namespace Lf
open PySem PySem.Spec PyProof.Rows L2
/-! ### xs[i] op= e; sorted of a list of triples -/
def rGetL (K : PySem.W.Frag) : V → V → Hp → VK → Prop := fun x y H Q => ∃ p xs i v, x = .ref p ∧ y = .int i ∧ SqL K H p xs ∧ 0 ≤ i ∧ atI xs i = some v ∧ Q v H
theorem get_list {X : Cx} : PGet X (rGetL X.K) := by
  intro pins s σ H x y v u Q I rx ry h
  obtain ⟨p, xs, i, z, rfl, rfl, hq, h0, he, q⟩ := h
  cases rx
  obtain ⟨t, rfl⟩ := ry
  obtain ⟨its, r, pl, hz⟩ := I.list hq
  obtain ⟨j, h1, h2, h3, h4, h5⟩ := atI_get he
  obtain ⟨w, ew, rw'⟩ := r.get h2
  have hl := r.length
  have hn := line63
  have fin : EP X pins σ Q w s := ⟨z, H, I, rw', q⟩
  have hj : i.toNat = j := by
    rw [seqIndex_of h0 h5] at h1
    exact Option.some.inj h1
  exact wpAny_getItem_list pl.isList h0 (by omega) (by rw [hj]; simpa using ew) fin
abbrev tpO (x : T3) : HO := .tup [.int x.1, .int x.2.1, .int x.2.2]
abbrev A3 := Addr × T3
def refT (ts : List A3) : List V := ts.map fun e => V.ref e.1
def r3 (x : T3) : List Int := [x.1, x.2.1, x.2.2]
def rSortT (K : PySem.W.Frag) : List V → Hp → VK → Prop := fun vs H Q => ∃ (a : Addr) (xs : List V) (cs : List T3), vs = [V.ref a] ∧ SqL K H a xs ∧ Obs tpO H xs cs ∧
  ∀ us es p, Obs tpO H us es → es.Perm cs → es.Pairwise (fun a b => r3 a ≤ r3 b) → H p = none → Q (.ref p) (upd H p (.lst us))
theorem obs_refT {H : Hp} : ∀ {xs : List V} {ds : List T3}, Obs tpO H xs ds → ∃ ts : List A3, xs = refT ts ∧ ds = ts.map (·.2) ∧ ∀ e ∈ ts, H e.1 = some (tpO e.2)
  | _, _, .nil => ⟨[], rfl, rfl, fun _ h => (nomatch h)⟩
  | _, _, .cons (r := r) (d := d) e o => by
    obtain ⟨ts, h1, h2, h3⟩ := obs_refT o
    refine ⟨(r, d) :: ts, by rw [h1]; rfl, by rw [h2]; rfl, fun x hx => ?_⟩
    rcases List.mem_cons.mp hx with rfl | hx
    · exact e
    · exact h3 x hx
theorem refT_obs {H : Hp} : ∀ (ts : List A3), (∀ e ∈ ts, H e.1 = some (tpO e.2)) → Obs tpO H (refT ts) (ts.map (·.2))
  | [], _ => .nil
  | e :: ts, h => .cons (h e List.mem_cons_self) (refT_obs ts fun x hx => h x (List.mem_cons_of_mem _ hx))
theorem each_refT : ∀ {us : List Value} {ts : List A3}, Vals (refT ts) us → PySem.W.EachIs (fun v (e : A3) => v = Value.ref e.1) us ts
  | _, [], .nil => .nil
  | _, _ :: _, .cons r t => .cons r (each_refT t)
theorem vals_refT : ∀ {us : List Value} {ts : List A3}, PySem.W.EachIs (fun v (e : A3) => v = Value.ref e.1) us ts → Vals (refT ts) us
  | _, _, .nil => .nil
  | _, _, .cons r t => .cons r (vals_refT t)
theorem dataLe_t3 : PySem.W.dataLe false (fun e : A3 => PyData.tuple ((r3 e.2).map PyData.int)) = fun p q : A3 => decide (r3 p.2 ≤ r3 q.2) := by
  funext p q
  show (!PySem.W.dataLt (.tuple ((r3 q.2).map .int)) (.tuple ((r3 p.2).map .int))) = _
  rw [PySem.W.dataLt_tuple]
  show (!PySem.W.rowLt ((r3 q.2).map .int) ((r3 p.2).map .int)) = _
  rw [PySem.W.dataLt_ints]
  by_cases h : r3 q.2 < r3 p.2
  · have h' : ¬ r3 p.2 ≤ r3 q.2 := fun r => List.not_lt.mpr r h
    simp [h, h']
  · have h' : r3 p.2 ≤ r3 q.2 := List.not_lt.mp h
    simp [h, h']
theorem r3_le {a b : T3} (h : r3 a ≤ r3 b) : a.1 < b.1 ∨ (a.1 = b.1 ∧ a.2.1 ≤ b.2.1) := by
  unfold r3 at h
  rw [List.cons_le_cons_iff] at h
  rcases h with h | ⟨e, h⟩
  · exact .inl h
  · rw [List.cons_le_cons_iff] at h
    rcases h with h | ⟨e2, _⟩
    · exact .inr ⟨e, Int.le_of_lt h⟩
    · exact .inr ⟨e, by omega⟩
theorem cr_sortT {X : Cx} (hu : X.A.units + 64 < cLine) : CallR X (.builtin "sorted") (rSortT X.K) := by
  intro pins s σ H vs us Q I r h
  obtain ⟨a, xs, cs, rfl, hs, ho, q⟩ := h
  obtain ⟨ts, rfl, rfl, hx⟩ := obs_refT ho
  obtain ⟨its, rv, hl, hz⟩ := I.list hs
  rw [Vals.ref1 r]
  have e := each_refT rv
  have er : PySem.W.EachIs (fun v (e : A3) => ∃ as, Reads s.heap v (PyData.tuple ((r3 e.2).map PyData.int)) as) its ts := (PySem.W.each_mem e).mono fun v b ⟨hv, hb⟩ => by
    obtain ⟨as, rd⟩ := Dp.reads I (PyData.tuple ((r3 b.2).map PyData.int)) (.ref b.1) v (Dp.tup (SqT.of (hx b hb)) (.cons (.int _) (.cons (.int _) (.cons (.int _) .nil)))) (by rw [hv]; rfl)
    exact ⟨as, rd⟩
  have hlen : ts.length ≤ sizeLine := by
    unfold refT at hz
    rw [List.length_map] at hz
    exact hz
  refine PySem.W.sorted_data (bs := ts) (enc := fun e : A3 => PyData.tuple ((r3 e.2).map PyData.int)) hl.isList e er (PySem.W.AllAlike.of fun b b' => by rfl) (PySem.W.Sortable.tuples fun b => ⟨_, _, rfl⟩) hlen (fun b _ => ?_) fun out h1 h2 => ?_
  · show _ + 2 + PyData.depth (.tuple [.int b.2.1, .int b.2.2.1, .int b.2.2.2]) < _
    have : PyData.depth (.tuple [.int b.2.1, .int b.2.2.1, .int b.2.2.2]) = 1 := rfl
    omega
  · rw [dataLe_t3] at h2
    have hp := List.mergeSort_perm ts fun (p q : A3) => decide (r3 p.2 ≤ r3 q.2)
    have hs := List.pairwise_mergeSort (le := fun (p q : A3) => decide (r3 p.2 ≤ r3 q.2)) (fun a b c g1 g2 => decide_eq_true (List.le_trans (of_decide_eq_true g1) (of_decide_eq_true g2))) (fun a b => by
      rcases List.le_total (r3 a.2) (r3 b.2) with g | g <;> simp [g]) ts
    generalize ts.mergeSort (fun (p q : A3) => decide (r3 p.2 ≤ r3 q.2)) = us at h2 hp hs
    obtain ⟨ep, he'⟩ := PyProof.Rows.sortedAll_at s.heap its out.toArray
    have hlen' : (refT us).length ≤ sizeLine := by
      unfold refT
      rw [List.length_map, hp.length_eq]
      exact hlen
    have Ob : Obs tpO H (refT us) (us.map (·.2)) := refT_obs us fun e he => hx e (hp.mem_iff.mp he)
    exact ⟨.ref _, upd H (s.heap.objs.size + 1) (.lst (refT us)), I.laid (t' := s.toks) (fun _ _ => PyProof.Rows.sortedAll_old) (Nat.le_succ _) ⟨hlen', out, ep, vals_refT h2, he'⟩, rfl, q (refT us) (us.map (·.2)) _ Ob (hp.map _) (List.pairwise_map.mpr (hs.imp fun g => of_decide_eq_true g)) (I.hok.fresh (Nat.le_succ _))⟩
end Lf
namespace Lf
open PySem PySem.Spec PyProof.Rows L2
/-! ### sorted(d), ints as keys, any number of them; max(.., default=int); the square of a wide int; a dict comprehension over any walk -/
def rSortDI : List V → Hp → VK → Prop := fun xs H Q => ∃ (a : Addr) (kvs : List (Key × V)) (ks : List Int), xs = [.ref a] ∧ Rd H a (.dK kvs) ∧ kvs.map (·.1) = ks.map Sum.inl ∧
  ∀ (ys : List Int) (p : Addr), ys.Perm ks → ys.Pairwise (· ≤ ·) → H p = none → Q (.ref p) (upd H p (.lst (ys.map V.int)))
theorem cr_sortDI {X : Cx} (hc : X.calm = true) : CallR X (.builtin "sorted") rSortDI := by
  intro pins s σ H vs us Q I r hq
  obtain ⟨d, kvs, ks, rfl, hd, hks, kk⟩ := hq
  obtain ⟨z, big, ws, rel, dd⟩ := dk_rd I.hok hd
  obtain ⟨ep, at_⟩ := dd.dictAt
  have ek : ws.map (·.1) = ks.map Sum.inl := by rw [← hks, rel.keys]
  have el : ws.length = ks.length := by
    have := congrArg List.length ek
    simpa using this
  have ez : ws.length ≤ sizeLine := by
    have := rel.length
    omega
  rw [Vals.ref1 r]
  refine Calls.call_function_entry PyProof.Rows.kind_sorted PyProof.Rows.plain_sorted PyProof.Rows.entry_sorted (PyProof.Rows.args_sorted1 _) ?_
  unfold Builtin.«sorted»
  refine wpAny_bind (m := checkCount "sorted" 1 1 _) (wpAny_pure (wpAny_bind ?_))
  refine PySem.W.kdu_collect (A := X.A.in1) (PySem.W.kdl_dict (knd := mixKind X.prog X.w) (kvs := ws) (ep := ep) big) (I.ok.hd hc) at_ ez fun g tk acc kept ⟨al, each⟩ => ?_
  have hA : acc.toList.length = ks.length := by rw [Array.length_toList, al, el]
  have isI : IntsAre acc.toList ks := ints_each hA fun j v e => by
    rw [Array.getElem?_toList] at e
    obtain ⟨key, x, e1, e2⟩ := each j v e
    have e3 := congrArg (·[j]?) ek
    simp only [List.getElem?_map, e1, Option.map_some] at e3
    cases e4 : ks[j]? with
    | none =>
      rw [e4] at e3
      cases e3
    | some n =>
      rw [e4] at e3
      cases Option.some.inj e3
      rcases keyIs_shape (show keyIs (Sum.inl n) v = true from e2) with ⟨i, t, ei, ev⟩ | ⟨i, t, ei, ev⟩
      · cases ei
        exact ⟨n, t, rfl, ev⟩
      · cases ei
  have I1 : Inv X pins σ H { s with heap := g, toks := tk } := I.kept kept
  have zl : acc.toList.length ≤ sizeLine := by omega
  refine wpAny_bind (wpAny_newList ?_ zl)
  have own : (g.push (seqObj "list" acc.toList.toArray 0)).get? g.objs.size = some (seqObj "list" acc.toList.toArray 0) := Heap.get?_push_size _ rfl
  refine wpAny_bind (wpAny_holding (wpAny_call_entry PyProof.Rows.slot_list_sort ⟨_, own, rfl⟩ PyProof.Rows.entry_list_sort
    (SrtO.list_sort_ord (s := { s with heap := g.push (seqObj "list" acc.toList.toArray 0), toks := tk }) SrtO.swo_int own zl (fun two => SrtO.ints_sortable isI two) fun out so st => ⟨_, rfl, ?_⟩) (PyProof.Rows.args_list_sort _)))
  obtain ⟨i1, i2, i3⟩ := SrtO.ints_out isI so st
  obtain ⟨en, there⟩ := PyProof.Rows.sortedHeap_at (vs := acc.toList) (out := out.toArray) own
  have ol : ((out.map SrtO.iv).map V.int).length ≤ sizeLine := by
    rw [List.length_map, i2.length_eq]
    omega
  have new : ObjOk X.prog X.w (upd H g.objs.size (.lst ((out.map SrtO.iv).map V.int))) _ g.objs.size (.lst ((out.map SrtO.iv).map V.int)) := ⟨ol, out, en, vals_of_ints i1, there⟩
  refine wpAny_pure ⟨_, rfl, .ref g.objs.size, _, I1.laid (t' := tk) (fun b o e => ?_) (Nat.le_refl _) new, rfl, kk _ _ i2 i3 (I1.hok.fresh (Nat.le_refl _))⟩
  have lt : b < g.objs.size := Heap.lt_size e
  rw [PyProof.Rows.sortedHeap_old (Nat.ne_of_lt lt) (Nat.lt_of_lt_of_eq (Nat.lt_succ_of_lt lt) (size_push' ..).symm)]
  exact Heap.get?_push_of_some _ e
def rMxI (K : PySem.W.Frag) : List V → List V → Hp → VK → Prop := fun vs zs H Q => ∃ (a : Addr) (ns : List Int) (d : Int), vs = [V.ref a] ∧ zs = [.int d] ∧ SqL K H a (ns.map V.int) ∧ ∀ m, ((ns = [] ∧ m = d) ∨ IsMx ns (some m)) → Q (.int m) H
theorem cr_maxI {X : Cx} (hc : X.calm = true) (hu : X.A.units + 64 < cLine) : CallRK X (.builtin "max") [Str.ofString "default"] (rMxI X.K) := by
  intro pins s σ H xs zs us ws Q I r rz h
  obtain ⟨a, ns, d0, rfl, rfl, hs, q⟩ := h
  obtain ⟨its, rv, hl, _⟩ := I.list hs
  rw [Vals.ref1 r]
  obtain ⟨d, rfl, rd⟩ := vals1 rz
  obtain ⟨t0, rfl⟩ := rd
  refine PySem.W.max_list_datum_default (α := Int) (xs := ns) (I.ok.hd hc) hl.isList (by simpa using PySem.W.HoldAll.of_ints rv.ints) (by show _ + 1 + 0 < _; omega) (fun e h' tk hk => ⟨.int d0, H, I.kept hk, ⟨_, rfl⟩, q _ (.inl ⟨e, rfl⟩)⟩) fun y ys i v h' tk e hv hh hk => ?_
  obtain ⟨as, hr⟩ := hh
  obtain ⟨t, rfl⟩ : ∃ t, v = Value.int (PySem.W.maxOf y ys) t := by
    cases hr
    exact ⟨_, rfl⟩
  exact ⟨.int _, H, I.kept hk, ⟨_, rfl⟩, q _ (.inr (by rw [e]; exact maxOf_mx y ys))⟩
def CSq (i j : Int) : Prop := j = 2 ∧ Bd 100000 i
theorem op_sqW {X : Cx} : OpR X (binaryOp .Pow) (rI CSq fun i _ => .int (i * i)) := opI fun i j _ _ _ _ _ hc q => by
  obtain ⟨rfl, hb⟩ := hc
  refine pow_int (by decide) ?_ ?_
  · have h1 : Builtin.Int.intBits i ≤ 100000 := intBits_le_iff.mpr hb
    have h3 : (Builtin.Int.intBits i : Int) * 2 ≤ 100000 * 2 := Int.mul_le_mul_of_nonneg_right (by omega) (by decide)
    exact Int.le_trans h3 (by decide)
  · have e : i ^ (2 : Int).toNat = i * i := by
      show i ^ 2 = i * i
      rw [Int.pow_succ, Int.pow_succ, Int.pow_zero, Int.one_mul]
    rw [e]
    exact q
theorem dc_it {J : It} {n : Nat} {G : Hp → Prop} {Y : Nat → Hp → V → Hp → Prop} (wk : Walk J n G Y) {g : TG} {tt : TT} {tk tv : TE} {vs : List Nat} {σ : L2.St} {H1 : Hp} {D : Addr} {Qd : Hp → Prop} (Pv : Nat → Hp → Prop) (h0 : Pv 0 (upd H1 D (.dK []))) (hG : ∀ i H, i ≤ n → Pv i H → G H)
    (hs : ∀ i x H H', i < n → Pv i H → Y i H x H' → g x (wipe σ vs) H' fun σ2 H2 => wipe σ2 vs = wipe σ vs ∧ tt σ2 H2 fun b H3 =>
      if b = true then tk σ2 H3 fun y H4 => tv σ2 H4 fun z H5 => ∃ kvs k, y = kV k ∧ H5 D = some (.dK kvs) ∧ kvs.length < sizeLine ∧ Pv (i + 1) (upd H5 D (.dK (putK kvs k z))) else Pv (i + 1) H3) (hd : ∀ H, Pv n H → Qd H) :
    ∃ W : Nat → Nat → Hp → Prop, (∃ m, W 0 m (upd H1 D (.dK []))) ∧ ∀ i m H, W i m H →
      (J.stop i H ∧ Qd H) ∨ (J.go i H ∧ ∃ Nx : Hp → Prop, (∀ H', Nx H' → ∃ m', m' < m ∧ W (i + 1) m' H') ∧ ∀ x H', J.yld i H x H' → g x (wipe σ vs) H' fun σ2 H2 => wipe σ2 vs = wipe σ vs ∧ tt σ2 H2 fun b H3 =>
        if b = true then tk σ2 H3 fun y H4 => tv σ2 H4 fun z H5 => ∃ kvs k, y = kV k ∧ H5 D = some (.dK kvs) ∧ kvs.length < sizeLine ∧ Nx (upd H5 D (.dK (putK kvs k z))) else Nx H3) := by
  refine ⟨fun i m H => m + i = n ∧ Pv i H, ⟨n, rfl, h0⟩, fun i m H ⟨hm, p⟩ => ?_⟩
  have st := hG i H (by omega) p
  match m, hm with
  | 0, hm =>
    obtain rfl : i = n := by omega
    exact .inl ⟨wk.stops H st, hd H p⟩
  | m + 1, hm => exact .inr ⟨wk.goes i H (by omega) st, Pv (i + 1), fun H' p' => ⟨m, by omega, by omega, p'⟩, fun x H' y => hs i x H H' (by omega) p (wk.yields i H x H' (by omega) st y)⟩
end Lf
namespace Lf
open PySem PySem.Spec PyProof.Rows L2
/-! ### _law_shuffled -/
def muL (C : Addr) : L2.St → Hp → Nat := fun _ H => match H C with
  | some (.lst ys) => ys.length
  | _ => 0
theorem muL_eq {C : Addr} {σ : L2.St} {H : Hp} {ys : List V} (h : H C = some (.lst ys)) : muL C σ H = ys.length := by
  unfold muL
  rw [h]
theorem seqIndex_at {d : Int} {n : Nat} (h0 : 0 ≤ d) (h1 : d < n) : seqIndex? d n = some d.toNat := by
  unfold seqIndex?
  simp
  omega
theorem erase_perm {y : V} : ∀ {us : List V} {k : Nat}, us[k]? = some y → (y :: us.eraseIdx k).Perm us
  | [], k, h => by simp at h
  | u :: us, 0, h => by
    have h : some u = some y := h
    cases h
    exact List.Perm.refl _
  | u :: us, k + 1, h => (List.Perm.swap u y (us.eraseIdx k)).trans ((erase_perm (us := us) (k := k) h).cons u)
theorem erase_len {y : V} {us : List V} {k : Nat} (h : us[k]? = some y) : (us.eraseIdx k).length + 1 = us.length := (erase_perm h).length_eq
section
variable {P : Program} {w : World} {K : PySem.W.Frag} {mg : Str → Option Value} {base : Heap}
def spShuf : Sp := fun vs H Q _ => ∃ (a : PA) (n : Nat) (L : Addr) (xs : List V), vs = [.ref a, .ref L] ∧ Pen H a n ∧ n < 2 ^ 36 ∧ H L = some (.lst xs) ∧ xs.length ≤ 500 ∧
  ∀ R H' ys, H R = none → H' R = some (.lst ys) → ys.Perm xs → Pen H' a (n + xs.length) → Fr H H' → Q (.ref R) H'
end
end Lf
namespace Lf
open PySem PySem.Spec PyProof.Rows L2
/-! ### a method with one keyword-only parameter, None by default: o.m(), o.m(kw = v) -/
def DmO (K : PySem.W.Frag) (C : Addr) (m qual : Str) (st : Stmt) (ps : List Str) (n : Nat) (kn : Str) : Prop :=
  ∃ f fd ds, Fun K m qual st f fd ∧ Meth K C m f ∧ Vals [V.non] ds ∧ Binds K fd ps ds ∧ KBn K fd ps n [kn] (fun us ws => us ++ ws) (fun vs zs => vs ++ zs)
def MetO (P : Program) (w : World) (K : PySem.W.Frag) (mg : Str → Option Value) (base : Heap) (k : Nat) (C : Addr) (m : Str) (sp : Sp) (n : Nat) (kn : Str) : Prop :=
  ∃ f fd ps, Cls K C ∧ Meth K C m f ∧ FnOk P w K mg base CX0 k f fd ps sp ∧ KBn K fd ps n [kn] (fun us ws => us ++ ws) (fun vs zs => vs ++ zs)
section
variable {P : Program} {w : World} {K : PySem.W.Frag} {mg : Str → Option Value} {base : Heap} {C : Addr}
theorem meto_of {m qual kn : Str} {st : Stmt} {N ps : List Str} {k n : Nat} {sp : Sp} (c : Cls K C) (D : DmO K C m qual st ps n kn) (S : FnScope N ps (defScope st)) (len : ∀ vs H Q E, sp vs H Q E → vs.length = ps.length)
    (hb : ∀ (f : Addr) (cdv : Value) (A : Around) (outer : List Env) (s : Shared) (H : Hp) (vs : List V) (Q : VK) (E : XK), Room k (A.deeper (envOfC qual (defScope st) s.heap.objs.size f cdv)) → sp vs H Q E →
      ∃ t, PSs (cxOf CX0 P w K mg base N qual (defScope st) f cdv A outer s H E).nox (defBody st) t ∧ t { nx := fun _ H' => Q .non H', rt := Q } (start N vs) H) :
    C8.Met P w K mg base (k + 1) C m sp [.non] ∧ MetO P w K mg base (k + 1) C m sp n kn := by
  obtain ⟨f, fd, ds, F, hm, hv, b, kb⟩ := D
  have G : FnOk P w K mg base CX0 (k + 1) f fd ps sp := F.ok S len (fun cdv A outer s H vs Q E hr h => hb f cdv A outer s H vs Q E hr h)
  exact ⟨⟨⟨f, fd, ps, ds, c, hm, G, b, hv⟩⟩, f, fd, ps, c, hm, G, kb⟩
theorem dmo_mk {x qual kn : Str} {st : Stmt} {f D : Addr} {ps : List Str} {n : Nat} {oc : Value} {od : Option Addr} {doc pm : Value} {an : Option Addr} {cdv ct : Value} {osl : Array (Option Value)}
    (l : K.lookup f = some ⟨oc, od, .func (PySem.W.fnOf x qual (defArgs st) (defBody st) (defScope st) .none (.ref D) doc pm an cdv ct), osl⟩)
    (F : Fun K x qual st f (PySem.W.fnOf x qual (defArgs st) (defBody st) (defScope st) .none (.ref D) doc pm an cdv ct)) (hm : Meth K C x f) (hc : PySem.W.codeIn K cdv qual = true) (hn : PySem.W.nsIn K D kn = some (some .none)) (lp : n + 1 = ps.length)
    (h0 : ∀ (D : Addr) (doc pm : Value) (an : Option Addr) (cdv ct : Value) (us ks : List Value), us.length = n → ks.length = 1 → KwChain D ([kn].zip ks) (bindArgs (PySem.W.fnOf x qual (defArgs st) (defBody st) (defScope st) .none (.ref D) doc pm an cdv ct) ⟨us, []⟩) (ps.zip (us ++ ks)))
    (h1 : ∀ (us ws : List Value), us.length = n → ws.length = 1 → bindArgs (PySem.W.fnOf x qual (defArgs st) (defBody st) (defScope st) .none (.ref D) doc pm an cdv ct) ⟨us, [kn].zip ws⟩ = pure (ps.zip (us ++ ws))) : DmO K C x qual st ps n kn := by
  have G : FunD K x qual (defArgs st) (defBody st) (defScope st) [] [(kn, .non)] f (PySem.W.fnOf x qual (defArgs st) (defBody st) (defScope st) .none (.ref D) doc pm an cdv ct) :=
    ⟨⟨oc, od, .none, .ref D, doc, pm, an, cdv, ct, osl, rfl, l, hc, .inl ⟨rfl, rfl⟩, .inr ⟨D, rfl, fun q hq => by
      cases List.mem_singleton.mp hq
      exact ⟨.none, hn, rfl⟩⟩⟩, hm.kp⟩
  obtain ⟨ds, hv, b⟩ := G.binds0 (ps := ps) n (by simp) lp fun D' doc' pm' an' cdv' ct' us ks l1 l2 => h0 D' doc' pm' an' cdv' ct' us ks l1 l2
  exact ⟨f, _, ds, F, hm, hv, b, ⟨fun s us ws _ l1 l2 => .of_eq (h1 us ws l1 l2), fun r1 r2 => r1.append r2⟩⟩
end
def tMethK (C : Addr) (m : Str) (sp : Sp) (E : XK) (ta : TE) (tk : TA) : TE := fun σ H Q => ta σ H fun x H1 => ∃ a dx fs, x = .ref a ∧ H1 a = some (.ins C dx fs) ∧ fs.lookup m = none ∧ tk σ H1 fun zs H2 => zs.length = 1 ∧ sp (x :: zs) H2 Q E
section
variable {X : Cx} {k j : Nat} {kn m : Str} {sp : Sp} {apos pos : Pos} {o : Expr} {kws : List Keyword} {ta : TE} {tk : TA} {C : Addr}
theorem pe_mkw {pl : Sem Bool} (he : PE X o ta) (c : MetO X.prog X.w X.K X.mg X.base k C m sp 1 kn) (hr : Room j X.A) (hk : k ≤ j) (hkw : L2.PK X kws tk)
    (hall : (backToKw pos (keywordEach kws X.env)).all (·.1.isSome) = true := by rfl) (hks : (backToKw pos (keywordEach kws X.env)).filterMap (·.1) = [kn] := by rfl)
    (hpl : ((backTo pos (starEach [] X.env)).any (·.1) || (backToKw pos (keywordEach kws X.env)).any (·.1.isNone)) = false := by rfl)
    (ht : eval (.Call (.Attribute o m apos) [] kws pos) X.env = (do
      let ov ← eval o X.env
      standAt apos.atName
      let (f, first) ← holding [ov] (getMethod ov m pl)
      callWith pos f first (backTo pos (starEach [] X.env)) (backToKw pos (keywordEach kws X.env))) := by rfl) :
    PE X (.Call (.Attribute o m apos) [] kws pos) (tMethK C m sp C8.E0 ta tk) := by
  obtain ⟨f, fd, ps, cc, hm, F, kb⟩ := c
  refine ⟨fun pins s σ H Q I h => ?_⟩
  refine PySem.W.methodCall_KW (pl := pl) (thn (he.run pins s σ H _ I h) fun u s1 ⟨x, H1, I1, rx, a, dx, fs, ex, ea, l, q⟩ => ?_) ht
  subst ex
  obtain rfl : u = Value.ref a := rx
  refine getmeth_ok I1 ea cc hm l ?_
  refine PySem.W.callWith_KW0 (first := [.ref a]) I1.kIn hm.kp hall (thn (hkw.run pos pins s1 σ H1 _ I1 q) fun ws s2 ⟨zs, H2, I2, rz, l1, q2⟩ => ⟨I2.kIn, ?_⟩) hpl
  rw [hks]
  exact run_fnN (us := [.ref a]) (vs := [.ref a]) F (hr.mono hk) kb C8.pass0 I2 (.cons rfl .nil) rz rfl l1 q2
end
end Lf
namespace Lf
open PySem PySem.Spec PyProof.Rows L2
def tNoSb : TS := fun _ _ _ => False
theorem pss_nob {X : Cx} {b : List Stmt} : PSs X b tNoSb := ⟨fun _ _ _ _ _ _ h => h.elim⟩
theorem nf_of {H H' : Hp} (s : Same H H') {F : Addr} (n : H' F = none) : H F = none := by
  cases e : H F with
  | none => rfl
  | some o =>
    rw [s _ _ e] at n
    cases n
theorem at_in {xs : List V} {d : Int} (h0 : 0 ≤ d) (h1 : d < (xs.length : Int)) : ∃ x, atI xs d = some x ∧ x ∈ xs := by
  obtain ⟨j, rfl⟩ := Int.eq_ofNat_of_zero_le h0
  have hj : j < xs.length := by omega
  exact ⟨_, atI_nat (List.getElem?_eq_getElem hj), List.getElem_mem hj⟩
section
variable {P : Program} {w : World} {K : PySem.W.Frag} {mg : Str → Option Value} {base : Heap} {C : Addr}
/-! ### _law_divisor -/
abbrev s_l_divisor : Stmt := topS 65
abbrev N_l_divisor : List Str := ["_law_one", "_law_two"]
abbrev P_l_divisor : List Str := ["_law_one", "_law_two"]
theorem sc_l_divisor : FnScope N_l_divisor P_l_divisor (defScope s_l_divisor) := ⟨rfl, rfl, rfl, by decide +kernel, rfl, by decide +kernel, by decide +kernel⟩
theorem ok_l_divisor (D : Df K mg "_law_divisor" s_l_divisor P_l_divisor) : C8.Cal P w K mg base 1 "_law_divisor" spGcd [] := by
  refine cal_of D sc_l_divisor (fun vs H Q E h => ?_) (fun f cdv A outer s H vs Q E hr h => ?_)
  · obtain ⟨x, y, rfl, _⟩ := h
    rfl
  · obtain ⟨x, y, rfl, hx, hy, q⟩ := h
    refine ⟨_, (pss_cons (ps_while PassesOwn.never (pt_cmpR op_gt (pv 1) pe_int (nomark _))
      (pss_one (ps_par (i := 0) (j := 1) rfl sc_l_divisor.nd rfl rfl (by decide) rfl rfl (pa_cons (pv 1) (pa_cons (pe_op op_mod (pv 0) (pv 1)) pa_nil)) rfl)))
    (pss_one (ps_ret (pv 0)))), ?_⟩
    refine while_by (fun σ H' => ∃ u v : Int, σ = [some (.int u), some (.int v)] ∧ 0 ≤ u ∧ 0 ≤ v ∧ Int.gcd u v = Int.gcd x y ∧ H' = H) mu1 ⟨x, y, rfl, hx, hy, rfl, rfl⟩ ?_ ?_
    · rintro σ H' ⟨u, v, rfl, hu, hv, e, rfl⟩
      refine ⟨_, rfl, _, _, rfl, rfl, _, rfl, ite2 (fun c => ?_) (fun c => ?_)⟩
      · have hv0 : 0 < v := of_decide_eq_true c
        refine ⟨_, rfl, _, rfl, _, rfl, _, _, rfl, rfl, hv0, _, _, rfl, ⟨v, u % v, rfl, hv, Int.emod_nonneg _ (by omega), ?_, rfl⟩, ?_⟩
        · rw [gcd_turn u v hu hv0]; exact e
        · show (u % v).toNat < v.toNat
          have := Int.emod_lt_of_pos u hv0
          omega
      · have hv0 : v = 0 := by
          have : ¬ 0 < v := fun z => c (decide_eq_true z)
          omega
        subst hv0
        refine ⟨_, rfl, ?_⟩
        have e2 : (Int.gcd x y : Int) = u := by
          rw [← e, Int.gcd_zero_right]
          omega
        rw [← e2]
        exact q
    · rintro σ H' Q1 Q2 hQ ⟨v, h1, i, j, h2, h3, b, h4, h5⟩
      exact ⟨v, h1, i, j, h2, h3, b, h4, hQ _ _ h5⟩
/-! ### _law_rule -/
def spRule01 : Sp := fun vs H Q _ => ∃ (a : PA) (n : Nat), vs = [.ref a] ∧ Pen H a n ∧ n < 2 ^ 39 ∧ ∀ r H' p q c, RuleB 100 p q c → H' r = some (.tup [.int p, .int q, .int c]) → Pen H' a (n + 4) → Fr H H' → Q (.ref r) H'
abbrev s_l_rule : Stmt := topS 66
abbrev N_l_rule : List Str := ["_law_state", "_law_scale", "_law_p", "_law_q", "_law_c", "_law_g"]
abbrev P_l_rule : List Str := ["_law_state"]
theorem sc_l_rule : FnScope N_l_rule P_l_rule (defScope s_l_rule) := ⟨rfl, rfl, rfl, by decide +kernel, rfl, by decide +kernel, by decide +kernel⟩
theorem ok_l_rule (D : Df K mg "_law_rule" s_l_rule P_l_rule) (B : Bi mg) (c_l_draw : C8.Cal P w K mg base 1 "_law_draw" spDraw []) (c_l_divisor : C8.Cal P w K mg base 1 "_law_divisor" spGcd []) : C8.Cal P w K mg base 2 "_law_rule" spRule01 [] := by
  refine cal_of D sc_l_rule (fun vs H Q E h => ?_) (fun f cdv A outer s H vs Q E hr h => ?_)
  · obtain ⟨a, n, rfl, _⟩ := h
    rfl
  · obtain ⟨a, n, rfl, hP, hn, kk⟩ := h
    refine ⟨_, (pss_cons (ps_set (i := 1) sc_l_rule.nd rfl (Or.inl rfl) (pe_ix (r := rIxL K) ix_list (pe_lst (pa_cons pe_int (pa_cons pe_int (pa_cons (pe_op op_pow pe_int pe_int) pa_nil)))) (C8.pe_c c_l_draw hr (by decide) (by rfl) (pa_cons (pv 0) (pa_cons pe_int pa_nil))) (fun _ _ => rfl)))
    (pss_cons (ps_par (i := 2) (j := 3) rfl sc_l_rule.nd rfl rfl (by decide) rfl rfl (pa_cons (C8.pe_c c_l_draw hr (by decide) (by rfl) (pa_cons (pv 0) (pa_cons (pv 1) pa_nil))) (pa_cons (pe_op op_add pe_int (C8.pe_c c_l_draw hr (by decide) (by rfl) (pa_cons (pv 0) (pa_cons (pv 1) pa_nil)))) pa_nil)) rfl)
    (pss_cons (ps_par (i := 4) (j := 5) rfl sc_l_rule.nd rfl rfl (by decide) rfl rfl (pa_cons (pe_op op_sub (C8.pe_c c_l_draw hr (by decide) (by rfl) (pa_cons (pv 0) (pa_cons (pe_op op_mul pe_int (pv 1)) pa_nil))) (pv 1)) (pa_cons (C8.pe_c c_l_divisor hr (by decide) (by rfl) (pa_cons (pv 2) (pa_cons (pv 3) pa_nil))) pa_nil)) rfl)
    (pss_one (ps_ret (pe_tup (pa_cons (pe_op op_fdivW (pv 2) (pv 5)) (pa_cons (pe_op op_fdivW (pv 3) (pv 5)) (pa_cons (pe_op op_fdivW (pv 4) (pv 5)) pa_nil))))))))), ?_⟩
    refine ⟨_, _, rfl, rfl, ⟨by decide, by decide, by decide⟩, len10 (by simp), fun O nO => ?_⟩
    refine ⟨_, rfl, a, _, _, rfl, hP.new nO, by omega, by decide, Bd.small 20 (by decide) (by decide), fun i H1 i0 i1 hP1 f1 => ?_⟩
    have eO := f1.l _ _ (upd_same (H := H) (a := O) (o := .lst [.int 5, .int 30, .int (10 ^ (9 : Int).toNat)]))
    obtain ⟨x, hx, mx⟩ := at_in (xs := [.int 5, .int 30, .int (10 ^ (9 : Int).toNat)]) i0 (by show i < 3; omega)
    refine ⟨O, _, _, _, rfl, rfl, SqL.of eO, hx, ?_⟩
    have f1 := (Fr.new nO).trans f1
    obtain ⟨sc, rfl, s1, s2⟩ : ∃ sc : Int, x = .int sc ∧ 1 ≤ sc ∧ sc ≤ 1000000000 := by
      simp only [List.mem_cons, List.not_mem_nil, or_false] at mx
      rcases mx with rfl | rfl | rfl <;> exact ⟨_, rfl, by decide, by decide⟩
    clear mx hx eO
    have bs : ∀ x : Int, x.natAbs < 2 ^ 40 → Bd 100 x := fun x h => Bd.small 40 h (by decide)
    refine ⟨_, rfl, _, rfl, a, _, _, rfl, hP1, by omega, by omega, (bs _ (by omega)).mono (by decide), fun p H2 p0 p1 hP2 f2 => ?_⟩
    refine ⟨_, rfl, _, rfl, a, _, _, rfl, hP2, by omega, by omega, (bs _ (by omega)).mono (by decide), fun q' H3 q0 q1 hP3 f3 => ?_⟩
    refine ⟨_, _, rfl, rfl, _, _, rfl, ?_⟩
    refine ⟨_, rfl, _, rfl, _, _, rfl, rfl, .inl ⟨by decide, by decide⟩, a, _, _, rfl, hP3, by omega, by omega, (bs _ (by omega)).mono (by decide), fun c H4 c0 c1 hP4 f4 => ?_⟩
    refine ⟨_, rfl, _, _, rfl, rfl, ?_⟩
    refine ⟨_, rfl, _, rfl, p, 1 + q', rfl, p0, by omega, ?_⟩
    refine ⟨_, _, rfl, ?_⟩
    have q1' : 1 ≤ 1 + q' := by omega
    have gp : (0 : Int) < (Int.gcd p (1 + q') : Int) := gcd_pos q1'
    have gb : (Int.gcd p (1 + q') : Int) ≤ 1 + q' := by
      have := Int.gcd_le_natAbs_right p (show (1 + q') ≠ 0 by omega)
      omega
    have hd : CDivW 0 (Int.gcd p (1 + q') : Int) := ⟨gp, ((bs _ (by omega)).mono (by decide : 100 ≤ 9000)).log (by decide)⟩
    have R : RuleB 100 (p / (Int.gcd p (1 + q') : Int)) ((1 + q') / (Int.gcd p (1 + q') : Int)) ((c - sc) / (Int.gcd p (1 + q') : Int)) := low_rule p0 q1' (bs _ (by omega)) (bs _ (by omega)) (bs _ (by omega))
    refine ⟨_, rfl, _, rfl, _, _, rfl, rfl, hd, _, rfl, _, rfl, _, _, rfl, rfl, hd, _, rfl, _, rfl, _, _, rfl, rfl, hd, len10 (by simp), fun r nr => ?_⟩
    exact kk r _ _ _ _ R upd_same ((hP4.new nr).mono (by omega)) (f1.trans (f2.trans (f3.trans (f4.trans (Fr.new nr)))))
/-! ### _law_count -/
def spCount30 : Sp := fun vs H Q _ => ∃ (r : Addr) (p q c t : Int) (k : Nat), vs = [.ref r, .int t] ∧ H r = some (.tup [.int p, .int q, .int c]) ∧ RuleB k p q c ∧ Bd k t ∧ 0 < k ∧ k ≤ 3000 ∧ Q (.int ((p * t + c) / q)) H
abbrev s_l_count : Stmt := topS 67
abbrev N_l_count : List Str := ["_law_rule_here", "_law_t"]
abbrev P_l_count : List Str := ["_law_rule_here", "_law_t"]
theorem sc_l_count : FnScope N_l_count P_l_count (defScope s_l_count) := ⟨rfl, rfl, rfl, by decide +kernel, rfl, by decide +kernel, by decide +kernel⟩
theorem ok_l_count (D : Df K mg "_law_count" s_l_count P_l_count) : C8.Cal P w K mg base 1 "_law_count" spCount30 [] := by
  refine cal_of D sc_l_count (fun vs H Q E h => ?_) (fun f cdv A outer s H vs Q E hr h => ?_)
  · obtain ⟨r, p, q, c, t, k, rfl, _⟩ := h
    rfl
  · obtain ⟨r, p, q, c, t, k, rfl, er, R, bt, k0, k3, kk⟩ := h
    refine ⟨_, (pss_one (ps_ret (pe_op op_fdivW (pe_op op_add (pe_op op_mulW (pe_ix (r := rIxT K) ix_tup (pv 0) pe_int (fun _ _ => rfl)) (pv 1)) (pe_ix (r := rIxT K) ix_tup (pv 0) pe_int (fun _ _ => rfl))) (pe_ix (r := rIxT K) ix_tup (pv 0) pe_int (fun _ _ => rfl))))), ?_⟩
    refine ⟨_, rfl, r, _, _, _, rfl, rfl, SqT.of er, atI_nat (j := 0) rfl, _, rfl, _, _, rfl, rfl, mulW R.bp bt k0 k0 (by omega), ?_⟩
    refine ⟨_, rfl, r, _, _, _, rfl, rfl, SqT.of er, atI_nat (j := 2) rfl, _, _, rfl, rfl, ?_⟩
    refine ⟨_, rfl, r, _, _, _, rfl, rfl, SqT.of er, atI_nat (j := 1) rfl, _, _, rfl, rfl, divW (by have := R.q1; omega) R.bq (by omega), kk⟩
end
end Lf
namespace Lf
open PySem PySem.Spec PyProof.Rows L2
/-! ### a log: its entries -/
inductive Wt
  | rd (d : Rec)
  | tr (b : Bool)
structure En where
  m : Int
  w : Str
  x : Wt
def WtAt (H : Hp) : Wt → V → Prop
  | .rd d, v => ∃ a, v = .ref a ∧ H a = some (rcO d)
  | .tr b, v => v = .bl b
def EnAt (H : Hp) (r : Addr) (e : En) : Prop := ∃ v, H r = some (.tup [.int e.m, .str e.w, v]) ∧ WtAt H e.x v
def TupKp (H H' : Hp) : Prop := ∀ b xs, H b = some (.tup xs) → H' b = some (.tup xs)
theorem TupKp.same {H H' : Hp} (s : Same H H') : TupKp H H' := fun b xs e => s _ _ e
theorem WtAt.kp {H H' : Hp} {x : Wt} {v : V} (h : WtAt H x v) (k : TupKp H H') : WtAt H' x v := by
  cases x with
  | rd d =>
    obtain ⟨a, e, h⟩ := h
    exact ⟨a, e, k _ _ h⟩
  | tr b => exact h
theorem EnAt.kp {H H' : Hp} {r : Addr} {e : En} (h : EnAt H r e) (k : TupKp H H') : EnAt H' r e := by
  obtain ⟨v, h1, h2⟩ := h
  exact ⟨v, k _ _ h1, h2.kp k⟩
inductive EnL (H : Hp) : List V → List En → Prop
  | nil : EnL H [] []
  | cons {r : Addr} {e : En} {vs : List V} {es : List En} : EnAt H r e → EnL H vs es → EnL H (.ref r :: vs) (e :: es)
theorem EnL.kp {H H' : Hp} (k : TupKp H H') : ∀ {vs es}, EnL H vs es → EnL H' vs es
  | _, _, .nil => .nil
  | _, _, .cons h r => .cons (h.kp k) (r.kp k)
theorem EnL.len {H : Hp} : ∀ {vs es}, EnL H vs es → vs.length = es.length
  | _, _, .nil => rfl
  | _, _, .cons _ r => congrArg (· + 1) r.len
theorem EnL.at {H : Hp} : ∀ {vs es}, EnL H vs es → ∀ {i : Nat} {v : V}, vs[i]? = some v → ∃ r e, v = .ref r ∧ EnAt H r e ∧ es[i]? = some e
  | _, _, .nil, _, _, h => by simp at h
  | _, _, .cons h _, 0, _, hv => by
    cases hv
    exact ⟨_, _, rfl, h, rfl⟩
  | _, _, .cons _ r, i + 1, _, hv => r.at (i := i) hv
theorem EnL.snoc {H : Hp} {r : Addr} {e : En} : ∀ {vs es}, EnL H vs es → EnAt H r e → EnL H (vs ++ [.ref r]) (es ++ [e])
  | _, _, .nil, h => .cons h .nil
  | _, _, .cons h r, h2 => .cons h (r.snoc h2)
/-- the dict of a log, in step with its entries -/
inductive KvL (H : Hp) : List (Key × V) → List En → Prop
  | nil : KvL H [] []
  | cons {r : Addr} {e : En} {kvs : List (Key × V)} {es : List En} : EnAt H r e → KvL H kvs es → KvL H ((Sum.inl e.m, .ref r) :: kvs) (e :: es)
theorem KvL.kp {H H' : Hp} (k : TupKp H H') : ∀ {kvs es}, KvL H kvs es → KvL H' kvs es
  | _, _, .nil => .nil
  | _, _, .cons h r => .cons (h.kp k) (r.kp k)
theorem KvL.len {H : Hp} : ∀ {kvs es}, KvL H kvs es → kvs.length = es.length
  | _, _, .nil => rfl
  | _, _, .cons _ r => congrArg (· + 1) r.len
theorem KvL.keys {H : Hp} : ∀ {kvs es}, KvL H kvs es → kvs.map (·.1) = (es.map (·.m)).map Sum.inl
  | _, _, .nil => rfl
  | _, _, .cons _ r => congrArg (Sum.inl _ :: ·) r.keys
theorem KvL.none {H : Hp} {m : Int} : ∀ {kvs es}, KvL H kvs es → m ∉ es.map (·.m) → valV kvs (Sum.inl m) = none
  | _, _, .nil, _ => rfl
  | _, _, .cons (e := e) _ r, h => by
    rw [List.map_cons, List.mem_cons, not_or] at h
    rw [valV_neg (fun z => h.1 (Sum.inl.inj z).symm)]
    exact r.none h.2
theorem KvL.some {H : Hp} {e : En} : ∀ {kvs es}, KvL H kvs es → (es.map (·.m)).Nodup → e ∈ es → ∃ r, valV kvs (Sum.inl e.m) = some (.ref r) ∧ EnAt H r e
  | _, _, .nil, _, h => by cases h
  | _, _, .cons (e := e') (es := es) h r, nd, hm => by
    rw [List.map_cons, List.nodup_cons] at nd
    rcases List.mem_cons.mp hm with rfl | hm
    · exact ⟨_, valV_pos rfl, h⟩
    · have ne : e'.m ≠ e.m := fun z => nd.1 (by rw [z]; exact List.mem_map.mpr ⟨e, hm, rfl⟩)
      rw [valV_neg (fun z => ne (Sum.inl.inj z))]
      exact r.some nd.2 hm
theorem KvL.snoc {H : Hp} {r : Addr} {e : En} : ∀ {kvs es}, KvL H kvs es → EnAt H r e → KvL H (kvs ++ [(Sum.inl e.m, .ref r)]) (es ++ [e])
  | _, _, .nil, h => .cons h .nil
  | _, _, .cons h r, h2 => .cons h (r.snoc h2)
/-- an instance whose dict holds these entries, in the order in which they were entered -/
structure LogAt (C : Addr) (H : Hp) (o D : Addr) (es : List En) : Prop where
  o : ∃ dx, H o = some (.ins C dx [("held", .ref D)])
  d : ∃ kvs, H D = some (.dK kvs) ∧ KvL H kvs es
  nd : (es.map (·.m)).Nodup
theorem LogAt.same {C : Addr} {H H' : Hp} {o D : Addr} {es : List En} (h : LogAt C H o D es) (s : Same H H') : LogAt C H' o D es := by
  obtain ⟨⟨dx, h1⟩, ⟨kvs, h2, h3⟩, h4⟩ := h
  exact ⟨⟨dx, s _ _ h1⟩, ⟨kvs, s _ _ h2, h3.kp (.same s)⟩, h4⟩
/-- all but the log's dict stays -/
def KpD (D : Addr) (H H' : Hp) : Prop := ∀ b o, H b = some o → b ≠ D → H' b = some o
theorem KpD.same {D : Addr} {H H' : Hp} (s : Same H H') : KpD D H H' := fun b o e _ => s b o e
theorem KpD.trans {D : Addr} {H H' H'' : Hp} (h : KpD D H H') (g : KpD D H' H'') : KpD D H H'' := fun b o e n => g b o (h b o e n) n
theorem KpD.tup {D : Addr} {H H' : Hp} {kvs : List (Key × V)} (h : KpD D H H') (e : H D = some (.dK kvs)) : TupKp H H' := fun b xs eb => h b _ eb fun z => by
  rw [z, e] at eb
  cases eb
/-! ### which records count -/
def upB (u : Option Int) (e : En) : Bool := match u with
  | none => true
  | some t => decide (e.m ≤ t)
def lastTr : List En → Str → Option Bool
  | [], _ => none
  | e :: r, w => match lastTr r w with
    | some b => some b
    | none => match e.x with
      | .tr b => if e.w = w then some b else none
      | .rd _ => none
theorem lastTr_snoc (e : En) (w : Str) : ∀ es : List En, lastTr (es ++ [e]) w = match e.x with
    | .tr b => if e.w = w then some b else lastTr es w
    | .rd _ => lastTr es w
  | [] => by
    show lastTr [e] w = _
    unfold lastTr
    show (match e.x with
      | .tr b => if e.w = w then some b else none
      | .rd _ => none) = _
    cases e.x <;> rfl
  | x :: r => by
    have ih := lastTr_snoc e w r
    show (match lastTr (r ++ [e]) w with
      | some b => some b
      | none => match x.x with
        | .tr b => if x.w = w then some b else none
        | .rd _ => none) = _
    rw [ih]
    cases hx : e.x with
    | rd d => rfl
    | tr b =>
      show (match (if e.w = w then some b else lastTr r w) with
        | some b => some b
        | none => match x.x with
          | .tr b => if x.w = w then some b else none
          | .rd _ => none) = if e.w = w then some b else lastTr (x :: r) w
      by_cases c : e.w = w
      · rw [if_pos c, if_pos c]
      · rw [if_neg c, if_neg c]
        rfl
def truOf (es : List En) (w : Str) : Bool := (lastTr es w).getD true
/-- the reports that count, of the list ts among the entries es -/
def repsOf (es : List En) : List En → List (Str × Rec)
  | [] => []
  | e :: r => match e.x with
    | .rd d => if truOf es e.w = true then (e.w, d) :: repsOf es r else repsOf es r
    | .tr _ => repsOf es r
theorem repsOf_snoc (es : List En) (e : En) : ∀ ts : List En, repsOf es (ts ++ [e]) = repsOf es ts ++ (match e.x with
    | .rd d => if truOf es e.w = true then [(e.w, d)] else []
    | .tr _ => [])
  | [] => by
    show (match e.x with
      | .rd d => if truOf es e.w = true then (e.w, d) :: repsOf es [] else repsOf es []
      | .tr _ => repsOf es []) = _
    cases e.x <;> rfl
  | x :: r => by
    have ih := repsOf_snoc es e r
    show (match x.x with
      | .rd d => if truOf es x.w = true then (x.w, d) :: repsOf es (r ++ [e]) else repsOf es (r ++ [e])
      | .tr _ => repsOf es (r ++ [e])) = (match x.x with
      | .rd d => if truOf es x.w = true then (x.w, d) :: repsOf es r else repsOf es r
      | .tr _ => repsOf es r) ++ _
    rw [ih]
    cases x.x with
    | rd d =>
      by_cases c : truOf es x.w = true
      · simp only [c, if_true]
        rfl
      · simp only [c]
        rfl
    | tr b => rfl
inductive RepL (H : Hp) : List V → List (Str × Rec) → Prop
  | nil : RepL H [] []
  | cons {r a : Addr} {w : Str} {d : Rec} {vs : List V} {ps : List (Str × Rec)} : H r = some (.tup [.str w, .ref a]) → H a = some (rcO d) → RepL H vs ps → RepL H (.ref r :: vs) ((w, d) :: ps)
theorem RepL.kp {H H' : Hp} (k : TupKp H H') : ∀ {vs ps}, RepL H vs ps → RepL H' vs ps
  | _, _, .nil => .nil
  | _, _, .cons h1 h2 r => .cons (k _ _ h1) (k _ _ h2) (r.kp k)
theorem RepL.len {H : Hp} : ∀ {vs ps}, RepL H vs ps → vs.length = ps.length
  | _, _, .nil => rfl
  | _, _, .cons _ _ r => congrArg (· + 1) r.len
theorem RepL.at {H : Hp} : ∀ {vs ps}, RepL H vs ps → ∀ {i : Nat} {v : V}, vs[i]? = some v → ∃ r a p, v = .ref r ∧ H r = some (.tup [.str p.1, .ref a]) ∧ H a = some (rcO p.2) ∧ ps[i]? = some p
  | _, _, .nil, _, _, h => by simp at h
  | _, _, .cons h1 h2 _, 0, _, hv => by
    cases hv
    exact ⟨_, _, _, rfl, h1, h2, rfl⟩
  | _, _, .cons _ _ r, i + 1, _, hv => r.at (i := i) hv
theorem RepL.snoc {H : Hp} {r a : Addr} {w : Str} {d : Rec} (h1 : H r = some (.tup [.str w, .ref a])) (h2 : H a = some (rcO d)) : ∀ {vs ps}, RepL H vs ps → RepL H (vs ++ [.ref r]) (ps ++ [(w, d)])
  | _, _, .nil => .cons h1 h2 .nil
  | _, _, .cons g1 g2 q => .cons g1 g2 (q.snoc h1 h2)
/-- a bound, or none -/
def UntV (v : V) (u : Option Int) : Prop := match u with
  | none => v = .non
  | some t => v = .int t
/-- one to twelve small letters -/
def WitW (w : Str) : Prop := 1 ≤ w.length ∧ w.length ≤ 12 ∧ ∀ c ∈ w.cps.toList, 97 ≤ c ∧ c ≤ 122
end Lf
namespace Lf
open PySem PySem.Spec PyProof.Rows L2
structure LgT (K : PySem.W.Frag) (mg : Str → Option Value) (C : Addr) : Prop where
  c : ClsT K mg "Log" C
  nh : NoAttr K C "held"
theorem putF_nil {f : Str} {v : V} : putF f v [] = [(f, v)] := rfl
section
variable {P : Program} {w : World} {K : PySem.W.Frag} {mg : Str → Option Value} {base : Heap} {C : Addr}
/-! ### Log(): an empty log -/
def spInitL (C : Addr) : Sp := fun vs H Q _ => ∃ (H0 : Hp) (o dx : Addr), vs = [.ref o] ∧ Same H0 H ∧ H0 o = none ∧ H o = some (.ins C dx []) ∧
  ∀ H' D, Same H0 H' → H0 D = none → LogAt C H' o D [] → Q .non H'
abbrev s_Log_init : Stmt := (C8.clsBody (topS 59)).getD 0 (.Pass ⟨0, 0, 0, 0⟩)
abbrev N_Log_init : List Str := ["self"]
abbrev P_Log_init : List Str := ["self"]
theorem sc_Log_init : FnScope N_Log_init P_Log_init (defScope s_Log_init) := ⟨rfl, rfl, rfl, by decide +kernel, rfl, by decide +kernel, by decide +kernel⟩
theorem okM_Log_init (TK : LgT K mg C) (D : Dm K C "__init__" "Log.__init__" s_Log_init P_Log_init) : C8.Mak P w K mg base 1 "Log" C (spInitL C) [] := by
  refine mak_of TK.c D sc_Log_init (fun vs H Q E h => ?_) (fun f cdv A outer s H vs Q E hr h => ?_)
  · obtain ⟨H0, o, dx, rfl, _⟩ := h
    rfl
  · obtain ⟨H0, o, dx, rfl, s0, no, eo, kk⟩ := h
    refine ⟨_, (pss_one (ps_fld (pv 0) pe_dnewK rfl)), ?_⟩
    intro Dd nD
    have zD := sm_upd (o := .dK []) nD
    refine ⟨_, rfl, o, C, dx, _, rfl, zD _ _ eo, TK.c.cl, TK.nh, by decide, ?_⟩
    rw [putF_nil]
    have ne : Dd ≠ o := fun z => by
      rw [z, eo] at nD
      cases nD
    refine kk _ Dd (fun b x e => ?_) ?_ ⟨⟨dx, upd_same⟩, ⟨[], ?_, .nil⟩, List.nodup_nil⟩
    · rw [upd_ne (ne_of_none e no)]
      exact zD _ _ (s0 _ _ e)
    · exact nf_of s0 nD
    · rw [upd_ne ne]
      exact upd_same
/-! ### enter -/
def spEnter (C : Addr) : Sp := fun vs H Q _ => ∃ (o t D : Addr) (es : List En) (e : En), vs = [.ref o, .ref t] ∧ LogAt C H o D es ∧ EnAt H t e ∧ e.m ∉ es.map (·.m) ∧ es.length ≤ 500 ∧ ∀ H', KpD D H H' → LogAt C H' o D (es ++ [e]) → Q .non H'
abbrev s_Log_enter : Stmt := (C8.clsBody (topS 59)).getD 5 (.Pass ⟨0, 0, 0, 0⟩)
abbrev N_Log_enter : List Str := ["self", "entry"]
abbrev P_Log_enter : List Str := ["self", "entry"]
theorem sc_Log_enter : FnScope N_Log_enter P_Log_enter (defScope s_Log_enter) := ⟨rfl, rfl, rfl, by decide +kernel, rfl, by decide +kernel, by decide +kernel⟩
theorem okM_Log_enter (TK : LgT K mg C) (D : Dm K C "enter" "Log.enter" s_Log_enter P_Log_enter) : C8.Met P w K mg base 1 C "enter" (spEnter C) [] := by
  refine met_of TK.c.cl D sc_Log_enter (fun vs H Q E h => ?_) (fun f cdv A outer s H vs Q E hr h => ?_)
  · obtain ⟨o, t, D, es, e, rfl, _⟩ := h
    rfl
  · obtain ⟨o, t, D, es, e, rfl, hL, hE, hn, hl, kk⟩ := h
    have hu := hu_of hr
    refine ⟨_, (pss_cons (ps_if (pt_cmp (pc_din hu (pe_ix (r := rIxT K) ix_tup (pv 1) pe_int (fun _ _ => rfl)) (pe_fld (pv 0) rfl)))
      (pss_one ps_never)
      pss_nil)
    (pss_one (ps_dput hu (pe_fld (pv 0) rfl) (pe_ix (r := rIxT K) ix_tup (pv 1) pe_int (fun _ _ => rfl)) (pv 1) rfl))), ?_⟩
    obtain ⟨⟨dx, eo⟩, ⟨kvs, eD, hK⟩, nd⟩ := hL
    have hE0 := hE
    obtain ⟨v, et, hx⟩ := hE
    have lk := hK.len
    refine ⟨_, rfl, t, _, _, _, rfl, rfl, SqT.of et, atI_nat (j := 0) rfl, _, rfl, o, C, dx, _, _, rfl, eo, TK.c.cl, TK.nh, rfl, D, _, rfl, DGet.k (k := Sum.inl e.m) eD, ?_⟩
    rw [hK.none hn]
    refine ⟨false, rfl, iteF ?_⟩
    refine ⟨_, rfl, _, rfl, o, C, dx, _, _, rfl, eo, TK.c.cl, TK.nh, rfl, _, rfl, t, _, _, _, rfl, rfl, SqT.of et, atI_nat (j := 0) rfl, D, _, rfl, DPut.k (k := Sum.inl e.m) eD (small1000 (by omega)), ?_⟩
    rw [putK_new _ (hK.none hn)]
    have kp : KpD D H (upd H D (.dK (kvs ++ [(Sum.inl e.m, .ref t)]))) := fun b x eb ne => by
      rw [upd_ne ne]
      exact eb
    have tk := kp.tup eD
    have oD : o ≠ D := fun z => by
      rw [z, eD] at eo
      cases eo
    refine kk _ kp ⟨⟨dx, kp _ _ eo oD⟩, ⟨_, upd_same, (hK.kp tk).snoc (hE0.kp tk)⟩, ?_⟩
    rw [List.map_append, List.nodup_append]
    refine ⟨nd, by simp, fun a ha b hb => ?_⟩
    rw [List.map_cons, List.map_nil, List.mem_singleton] at hb
    intro z
    rw [← hb, ← z] at hn
    exact hn ha
end
end Lf
namespace Lf
open PySem PySem.Spec PyProof.Rows L2
structure Bw (mg : Str → Option Value) : Prop where
  abc_ : ∃ t, mg "LETTERS" = some (.str "abcdefghijklmnopqrstuvwxyz" t)
  most_ : ∃ t, mg "MOST_LETTERS" = some (.int 12 t)
theorem kss : kitB "str" "str" = some true := by decide +kernel
theorem abc_cps : (Str.ofString "abcdefghijklmnopqrstuvwxyz").cps.toList = (List.range 26).map (97 + ·) := by decide +kernel
theorem abc_in {c : Nat} (h1 : 97 ≤ c) (h2 : c ≤ 122) : c ∈ (Str.ofString "abcdefghijklmnopqrstuvwxyz").cps.toList := by
  rw [abc_cps]
  exact List.mem_map.mpr ⟨c - 97, List.mem_range.mpr (by omega), by omega⟩
section
variable {P : Program} {w : World} {K : PySem.W.Frag} {mg : Str → Option Value} {base : Heap} {C : Addr}
def spWit : Sp := fun vs H Q _ => ∃ z : Str, vs = [.str z] ∧ WitW z ∧ ∀ H', Same H H' → Q (.bl true) H'
abbrev s_is_witness : Stmt := topS 57
abbrev N_is_witness : List Str := ["value", "letter"]
abbrev P_is_witness : List Str := ["value"]
theorem sc_is_witness : FnScope N_is_witness P_is_witness (defScope s_is_witness) := ⟨rfl, rfl, rfl, by decide +kernel, rfl, by decide +kernel, by decide +kernel⟩
theorem ok_is_witness (D : Df K mg "is_witness" s_is_witness P_is_witness) (B : Bi mg) (UE : Bw mg) : C8.Cal P w K mg base 1 "is_witness" spWit [] := by
  obtain ⟨tL, hc_LETTERS⟩ := UE.abc_
  obtain ⟨tM, hc_MOST_LETTERS⟩ := UE.most_
  refine cal_of D sc_is_witness (fun vs H Q E h => ?_) (fun f cdv A outer s H vs Q E hr h => ?_)
  · obtain ⟨z, rfl, _⟩ := h
    rfl
  · obtain ⟨z, rfl, hw, kk⟩ := h
    refine ⟨_, (pss_cons (ps_if (PW.pt (pw_or (pt_not (pt_val (pe_callB (call_isi) (by rfl) B.isinstance_ bt_isinstance (pa_cons (pv 0) (pa_cons (pe_bltn (v := .ty "str") (by rfl) B.str_ bt_str rfl) pa_nil))))) (pw_or1 (pt_not (pt_chain op_le op_le pe_int (pe_callB (call_len_str) (by rfl) B.len_ bt_len (pa_cons (pv 0) pa_nil)) (pe_glob (v := .int 12) (by rfl) hc_MOST_LETTERS ⟨_, rfl⟩))))))
      (pss_one (ps_ret pe_bl))
      pss_nil)
    (pss_one (ps_ret (pe_callB (cr_all rfl) (by rfl) B.all_ bt_all (pa_cons (pe_lc (own := [("letter", 1)]) (g := (gName 1)) (by rfl) sc_is_witness.nd (pi_str (pv 0)) (blkOk_by (own := [("letter", 1)]) (N := N_is_witness) (sc := defScope s_is_witness) (by decide +kernel)) (fun _ _ _ _ _ => (pg_name (i := 1) sc_is_witness.nd rfl (Or.inl rfl))) (fun _ _ _ _ _ => pts_nil) (fun _ _ _ _ _ => (pe_cmpR op_in_sign (pv 1) (pe_glob (v := .str "abcdefghijklmnopqrstuvwxyz") (by rfl) hc_LETTERS ⟨_, rfl⟩) rfl))) pa_nil))))), ?_⟩
    obtain ⟨w1, w2, w3⟩ := hw
    have hz : z.cps.size = z.length := rfl
    refine ⟨_, rfl, _, _, _, _, true, rfl, .ty "str", .base (.str z), kit_ty kss, true, rfl, iteF ?_⟩
    refine ⟨_, rfl, z, rfl, by rw [sizeLine_eq]; omega, _, _, rfl, rfl, _, rfl, ?_⟩
    refine iteD (show (1 : Int) ≤ ((z.length : Nat) : Int) by omega) ⟨_, _, rfl, rfl, _, rfl, ?_⟩
    refine iteNS (show ((z.length : Nat) : Int) ≤ 12 by omega) ?_
    refine ⟨_, rfl, z, rfl, fun Y nY => ?_⟩
    refine lc_it (walk_str (z := z)) (fun i H' => Same H H' ∧ H' Y = some (.lst ((List.replicate i true).map V.bl))) ⟨sm_upd nY, upd_same⟩ (fun _ _ _ _ => trivial) ?_ ?_
    · rintro i x H' _ hi ⟨s', eY⟩ ⟨rfl, c, hc, rfl⟩
      have hm : c ∈ z.cps.toList := by
        rw [← Array.getElem?_toList] at hc
        exact List.mem_of_getElem? hc
      have ha := abc_in (w3 c hm).1 (w3 c hm).2
      refine ⟨rfl, _, rfl, c, _, rfl, rfl, _, eY, ?_, ?_, ?_⟩
      · rw [List.length_map, List.length_replicate]
        exact small1000 (by omega)
      · intro b o eb
        rw [upd_ne (ne_of_none eb nY)]
        exact s' _ _ eb
      · rw [upd_same, List.replicate_succ', List.map_append, decide_eq_true ha]
        rfl
    rintro H' ⟨s', eY⟩
    refine ⟨Y, _, rfl, SqL.of eY, ?_⟩
    have e : (List.replicate z.cps.size true).all id = true := by
      rw [List.all_eq_true]
      exact fun x hx => by rw [List.eq_of_mem_replicate hx]; rfl
    rw [e]
    exact kk _ s'
def spSrc : Sp := fun vs H Q _ => ∃ (m : Int) (z : Str), vs = [.int m, .str z] ∧ 0 ≤ m ∧ WitW z ∧ ∀ H', Same H H' → Q .non H'
abbrev s_check_source : Stmt := topS 58
abbrev N_check_source : List Str := ["moment", "witness"]
abbrev P_check_source : List Str := ["moment", "witness"]
theorem sc_check_source : FnScope N_check_source P_check_source (defScope s_check_source) := ⟨rfl, rfl, rfl, by decide +kernel, rfl, by decide +kernel, by decide +kernel⟩
theorem ok_check_source (D : Df K mg "check_source" s_check_source P_check_source) (c_check_at_least : C8.Cal P w K mg base 2 "check_at_least" spCheckAL []) (c_is_witness : C8.Cal P w K mg base 1 "is_witness" spWit []) : C8.Cal P w K mg base 3 "check_source" spSrc [] := by
  refine cal_of D sc_check_source (fun vs H Q E h => ?_) (fun f cdv A outer s H vs Q E hr h => ?_)
  · obtain ⟨m, z, rfl, _⟩ := h
    rfl
  · obtain ⟨m, z, rfl, m0, hw, kk⟩ := h
    refine ⟨_, (pss_cons (ps_expr (C8.pe_c c_check_at_least hr (by decide) (by rfl) (pa_cons (pv 0) (pa_cons pe_int pa_nil))))
    (pss_one (ps_if (pt_not (pt_val (C8.pe_c c_is_witness hr (by decide) (by rfl) (pa_cons (pv 1) pa_nil))))
      (pss_one ps_never)
      pss_nil))), ?_⟩
    refine ⟨_, rfl, m, 0, rfl, m0, ?_⟩
    exact ⟨_, rfl, z, rfl, hw, fun H' s' => ⟨true, rfl, iteF (kk _ s')⟩⟩
def spRep (C : Addr) : Sp := fun vs H Q E => ∃ (m : Int) (z : Str) (d : Rec) (o r : Addr), vs = [.ref o, .int m, .str z, .ref r] ∧ H r = some (rcO d) ∧ ∃ (D : Addr) (es : List En), LogAt C H o D es ∧ 0 ≤ m ∧ WitW z ∧ m ∉ es.map (·.m) ∧ es.length ≤ 500 ∧ ∀ H', KpD D H H' → LogAt C H' o D (es ++ [⟨m, z, .rd d⟩]) → Q .non H'
abbrev s_Log_report : Stmt := (C8.clsBody (topS 59)).getD 2 (.Pass ⟨0, 0, 0, 0⟩)
abbrev N_Log_report : List Str := ["self", "moment", "witness", "record"]
abbrev P_Log_report : List Str := ["self", "moment", "witness", "record"]
theorem sc_Log_report : FnScope N_Log_report P_Log_report (defScope s_Log_report) := ⟨rfl, rfl, rfl, by decide +kernel, rfl, by decide +kernel, by decide +kernel⟩
theorem okM_Log_report (TK : LgT K mg C) (D : Dm K C "report" "Log.report" s_Log_report P_Log_report) (c_check_source : C8.Cal P w K mg base 3 "check_source" spSrc []) (c_is_record : C8.Cal P w K mg base 2 "is_record" spIsRec []) (c_Log_enter : C8.Met P w K mg base 1 C "enter" (spEnter C) []) : C8.Met P w K mg base 4 C "report" (spRep C) [] := by
  refine met_of TK.c.cl D sc_Log_report (fun vs H Q E h => ?_) (fun f cdv A outer s H vs Q E hr h => ?_)
  · obtain ⟨m, z, d, o, r, rfl, _⟩ := h
    rfl
  · obtain ⟨m, z, d, o, r, rfl, er, D, es, hL, m0, hw, hn, hl, kk⟩ := h
    refine ⟨_, (pss_cons (ps_expr (C8.pe_c c_check_source hr (by decide) (by rfl) (pa_cons (pv 1) (pa_cons (pv 2) pa_nil))))
    (pss_cons (ps_if (pt_not (pt_val (C8.pe_c c_is_record hr (by decide) (by rfl) (pa_cons (pv 3) pa_nil))))
      (pss_one ps_never)
      pss_nil)
    (pss_one (ps_expr (C8.pe_mt c_Log_enter hr (by decide) (pv 0) (pa_cons (pe_tup (pa_cons (pv 1) (pa_cons (pv 2) (pa_cons (pv 3) pa_nil)))) pa_nil)))))), ?_⟩
    refine ⟨_, rfl, _, rfl, m, z, rfl, m0, hw, fun H1 s1 => ?_⟩
    refine ⟨_, rfl, r, d, rfl, s1 _ _ er, fun H2 s2 => ⟨true, rfl, iteF ?_⟩⟩
    have hL2 := hL.same (s1.trans s2)
    obtain ⟨dx, eo⟩ := hL2.o
    refine ⟨_, rfl, o, dx, _, rfl, eo, rfl, _, rfl, _, rfl, _, rfl, len10 (by simp), fun t nt => ?_⟩
    have zt := sm_upd (o := .tup [.int m, .str z, .ref r]) nt
    refine ⟨o, t, D, es, ⟨m, z, .rd d⟩, rfl, hL2.same zt, ⟨_, upd_same, r, rfl, (s1.trans (s2.trans zt)) _ _ er⟩, hn, hl, fun H3 k3 hL3 => ?_⟩
    exact kk _ ((KpD.same (s1.trans (s2.trans zt))).trans k3) hL3
def spTr (C : Addr) (b : Bool) : Sp := fun vs H Q E => ∃ (m : Int) (z : Str) (o : Addr), vs = [.ref o, .int m, .str z] ∧ ∃ (D : Addr) (es : List En), LogAt C H o D es ∧ 0 ≤ m ∧ WitW z ∧ m ∉ es.map (·.m) ∧ es.length ≤ 500 ∧ ∀ H', KpD D H H' → LogAt C H' o D (es ++ [⟨m, z, .tr b⟩]) → Q .non H'
abbrev s_Log_trust : Stmt := (C8.clsBody (topS 59)).getD 4 (.Pass ⟨0, 0, 0, 0⟩)
abbrev N_Log_trust : List Str := ["self", "moment", "witness"]
abbrev P_Log_trust : List Str := ["self", "moment", "witness"]
theorem sc_Log_trust : FnScope N_Log_trust P_Log_trust (defScope s_Log_trust) := ⟨rfl, rfl, rfl, by decide +kernel, rfl, by decide +kernel, by decide +kernel⟩
theorem okM_Log_trust (TK : LgT K mg C) (D : Dm K C "trust" "Log.trust" s_Log_trust P_Log_trust) (c_check_source : C8.Cal P w K mg base 3 "check_source" spSrc []) (c_Log_enter : C8.Met P w K mg base 1 C "enter" (spEnter C) []) : C8.Met P w K mg base 4 C "trust" (spTr C true) [] := by
  refine met_of TK.c.cl D sc_Log_trust (fun vs H Q E h => ?_) (fun f cdv A outer s H vs Q E hr h => ?_)
  · obtain ⟨m, z, o, rfl, _⟩ := h
    rfl
  · obtain ⟨m, z, o, rfl, D, es, hL, m0, hw, hn, hl, kk⟩ := h
    refine ⟨_, (pss_cons (ps_expr (C8.pe_c c_check_source hr (by decide) (by rfl) (pa_cons (pv 1) (pa_cons (pv 2) pa_nil))))
    (pss_one (ps_expr (C8.pe_mt c_Log_enter hr (by decide) (pv 0) (pa_cons (pe_tup (pa_cons (pv 1) (pa_cons (pv 2) (pa_cons pe_bl pa_nil)))) pa_nil))))), ?_⟩
    refine ⟨_, rfl, _, rfl, m, z, rfl, m0, hw, fun H1 s1 => ?_⟩
    have hL2 := hL.same s1
    obtain ⟨dx, eo⟩ := hL2.o
    refine ⟨_, rfl, o, dx, _, rfl, eo, rfl, _, rfl, _, rfl, len10 (by simp), fun t nt => ?_⟩
    have zt := sm_upd (o := .tup [.int m, .str z, .bl true]) nt
    refine ⟨o, t, D, es, ⟨m, z, .tr true⟩, rfl, hL2.same zt, ⟨_, upd_same, rfl⟩, hn, hl, fun H3 k3 hL3 => ?_⟩
    exact kk _ ((KpD.same (s1.trans zt)).trans k3) hL3
abbrev s_Log_distrust : Stmt := (C8.clsBody (topS 59)).getD 3 (.Pass ⟨0, 0, 0, 0⟩)
abbrev N_Log_distrust : List Str := ["self", "moment", "witness"]
abbrev P_Log_distrust : List Str := ["self", "moment", "witness"]
theorem sc_Log_distrust : FnScope N_Log_distrust P_Log_distrust (defScope s_Log_distrust) := ⟨rfl, rfl, rfl, by decide +kernel, rfl, by decide +kernel, by decide +kernel⟩
theorem okM_Log_distrust (TK : LgT K mg C) (D : Dm K C "distrust" "Log.distrust" s_Log_distrust P_Log_distrust) (c_check_source : C8.Cal P w K mg base 3 "check_source" spSrc []) (c_Log_enter : C8.Met P w K mg base 1 C "enter" (spEnter C) []) : C8.Met P w K mg base 4 C "distrust" (spTr C false) [] := by
  refine met_of TK.c.cl D sc_Log_distrust (fun vs H Q E h => ?_) (fun f cdv A outer s H vs Q E hr h => ?_)
  · obtain ⟨m, z, o, rfl, _⟩ := h
    rfl
  · obtain ⟨m, z, o, rfl, D, es, hL, m0, hw, hn, hl, kk⟩ := h
    refine ⟨_, (pss_cons (ps_expr (C8.pe_c c_check_source hr (by decide) (by rfl) (pa_cons (pv 1) (pa_cons (pv 2) pa_nil))))
    (pss_one (ps_expr (C8.pe_mt c_Log_enter hr (by decide) (pv 0) (pa_cons (pe_tup (pa_cons (pv 1) (pa_cons (pv 2) (pa_cons pe_bl pa_nil)))) pa_nil))))), ?_⟩
    refine ⟨_, rfl, _, rfl, m, z, rfl, m0, hw, fun H1 s1 => ?_⟩
    have hL2 := hL.same s1
    obtain ⟨dx, eo⟩ := hL2.o
    refine ⟨_, rfl, o, dx, _, rfl, eo, rfl, _, rfl, _, rfl, len10 (by simp), fun t nt => ?_⟩
    have zt := sm_upd (o := .tup [.int m, .str z, .bl false]) nt
    refine ⟨o, t, D, es, ⟨m, z, .tr false⟩, rfl, hL2.same zt, ⟨_, upd_same, rfl⟩, hn, hl, fun H3 k3 hL3 => ?_⟩
    exact kk _ ((KpD.same (s1.trans zt)).trans k3) hL3
end
end Lf
namespace Lf
open PySem PySem.Spec PyProof.Rows L2
theorem perm_lift {α β : Type} (f : α → β) {ys xs : List β} (p : ys.Perm xs) : ∀ {es : List α}, xs = es.map f → ∃ fs : List α, fs.Perm es ∧ fs.map f = ys := by
  induction p with
  | nil =>
    intro es h
    exact ⟨[], by rw [List.map_eq_nil_iff.mp h.symm], rfl⟩
  | cons x p ih =>
    intro es h
    cases es with
    | nil => cases h
    | cons e es =>
      obtain ⟨h1, h2⟩ := List.cons.inj h
      obtain ⟨fs, q, e2⟩ := ih h2
      exact ⟨e :: fs, q.cons _, by rw [List.map_cons, e2, h1]⟩
  | swap x y l =>
    intro es h
    cases es with
    | nil => cases h
    | cons e es =>
      cases es with
      | nil => cases h
      | cons e' es =>
        obtain ⟨h1, h2⟩ := List.cons.inj h
        obtain ⟨h3, h4⟩ := List.cons.inj h2
        exact ⟨e' :: e :: es, List.Perm.swap _ _ _, by rw [List.map_cons, List.map_cons, h1, h3, h4]⟩
  | trans p1 p2 ih1 ih2 =>
    intro es h
    obtain ⟨fs, q, e⟩ := ih2 h
    obtain ⟨gs, q2, e2⟩ := ih1 e.symm
    exact ⟨gs, q2.trans q, e2⟩
theorem repsOf_len (es : List En) : ∀ ts : List En, (repsOf es ts).length ≤ ts.length
  | [] => Nat.le_refl _
  | e :: r => by
    have ih := repsOf_len es r
    unfold repsOf
    cases e.x with
    | rd d =>
      show (if truOf es e.w = true then (e.w, d) :: repsOf es r else repsOf es r).length ≤ r.length + 1
      split
      · show (repsOf es r).length + 1 ≤ r.length + 1
        omega
      · omega
    | tr b =>
      show (repsOf es r).length ≤ r.length + 1
      omega
theorem put_keys {kvs : List (Key × V)} {k : Key} {v : V} : (putK kvs k v).map (·.1) = if (valV kvs k).isSome = true then kvs.map (·.1) else kvs.map (·.1) ++ [k] := by
  unfold putK
  rw [valV_any]
  by_cases c : (valV kvs k).isSome = true
  · rw [if_pos c, if_pos c, List.map_map]
    refine List.map_congr_left fun p _ => ?_
    show (if p.1 = k then (p.1, v) else p).1 = p.1
    split <;> rfl
  · rw [if_neg c, if_neg c, List.map_append]
    rfl
theorem ktb : kitB "tuple" "bool" = some false := by decide +kernel
theorem kbb : kitB "bool" "bool" = some true := by decide +kernel
section
variable {P : Program} {w : World} {K : PySem.W.Frag} {mg : Str → Option Value} {base : Heap} {C : Addr}
def spEnts (C : Addr) : Sp := fun vs H Q _ => ∃ (o D : Addr) (u : V) (t : Option Int) (es : List En), vs = [.ref o, u] ∧ LogAt C H o D es ∧ UntV u t ∧ es.length ≤ 500 ∧
  ∀ F H' vs' (fs : List En), Same H H' → H' F = some (.lst vs') → fs.Perm es → (fs.map (·.m)).Pairwise (· ≤ ·) → EnL H' vs' (fs.filter (upB t)) → Q (.ref F) H'
abbrev s_Log_entries : Stmt := (C8.clsBody (topS 59)).getD 7 (.Pass ⟨0, 0, 0, 0⟩)
abbrev N_Log_entries : List Str := ["self", "until", "moment"]
abbrev P_Log_entries : List Str := ["self", "until"]
theorem sc_Log_entries : FnScope N_Log_entries P_Log_entries (defScope s_Log_entries) := ⟨rfl, rfl, rfl, by decide +kernel, rfl, by decide +kernel, by decide +kernel⟩
theorem okO_Log_entries (TK : LgT K mg C) (D : DmO K C "entries" "Log.entries" s_Log_entries P_Log_entries 1 "until") (B : Bi mg) : C8.Met P w K mg base 1 C "entries" (spEnts C) [.non] ∧ MetO P w K mg base 1 C "entries" (spEnts C) 1 "until" := by
  refine meto_of TK.c.cl D sc_Log_entries (fun vs H Q E h => ?_) (fun f cdv A outer s H vs Q E hr h => ?_)
  · obtain ⟨o, D, u, t, es, rfl, _⟩ := h
    rfl
  · obtain ⟨o, D, u, t, es, rfl, hL, hu', hl, kk⟩ := h
    have hu := hu_of hr
    refine ⟨_, (pss_one (ps_ret (pe_lc (own := [("moment", 2)]) (g := (gName 2)) (by rfl) sc_Log_entries.nd (pi_list (pe_callB ((cr_sortDI rfl)) (by rfl) B.sorted_ bt_sorted (pa_cons (pe_fld (pv 0) rfl) pa_nil))) (blkOk_by (own := [("moment", 2)]) (N := N_Log_entries) (sc := defScope s_Log_entries) (by decide +kernel)) (fun _ _ _ _ _ => (pg_name (i := 2) sc_Log_entries.nd rfl (Or.inl rfl))) (fun _ _ _ _ _ => (pts_one (PW.pt (pw_or (pt_cmpR op_isN (pv 1) pe_non (nomark _)) (pw_or1 (pt_cmpR op_le (pv 2) (pv 1) (nomark _))))))) (fun _ _ _ _ _ => (show PE _ _ (tDGet (tFld K (tVar 0) "held") (tVar 2)) from (pe_dget hu (pe_fld (pv 0) rfl) (pv 2) (fun _ _ => rfl))))))), ?_⟩
    obtain ⟨⟨dx, eo⟩, ⟨kvs, eD, hK⟩, nd⟩ := hL
    refine ⟨_, rfl, o, C, dx, _, _, rfl, eo, TK.c.cl, TK.nh, rfl, D, kvs, es.map (·.m), rfl, .inl eD, hK.keys, fun ys p pm srt np => ?_⟩
    obtain ⟨fs, pf, ef⟩ := perm_lift (fun e : En => e.m) pm rfl
    subst ef
    have zp := sm_upd (o := .lst ((fs.map (·.m)).map V.int)) np
    have lf := pf.length_eq
    refine ⟨p, rfl, ⟨_, SqL.of upd_same⟩, fun Y nY => ?_⟩
    have zY := sm_upd (o := .lst []) nY
    have nY0 := nf_of zp nY
    have Yp : Y ≠ p := fun z => by
      rw [z, upd_same] at nY
      cases nY
    refine lc_list (K := K) (a := p) (xs := (fs.map (·.m)).map V.int) (fun i H' => Same H H' ∧ H' p = some (.lst ((fs.map (·.m)).map V.int)) ∧ ∃ vs', H' Y = some (.lst vs') ∧ vs'.length ≤ i ∧ EnL H' vs' ((fs.take i).filter (upB t))) ⟨zp.trans zY, zY _ _ upd_same, [], upd_same, Nat.le_refl _, .nil⟩ ?_ ?_ ?_
    · rintro i H' _ ⟨_, e, _⟩
      exact SqL.of e
    · rintro i v H' hv ⟨s', ep, vs', eY, lv, hv'⟩
      rw [List.getElem?_map, Option.map_eq_some_iff] at hv
      obtain ⟨m, hm, rfl⟩ := hv
      rw [List.getElem?_map, Option.map_eq_some_iff] at hm
      obtain ⟨e, he, rfl⟩ := hm
      have hi := (List.getElem?_eq_some_iff.mp he).1
      have me : e ∈ es := pf.mem_iff.mp (List.mem_of_getElem? he)
      obtain ⟨r, hr', hE⟩ := hK.some nd me
      have hE := hE.kp (.same s')
      have gt : DGet H' D (.int e.m) (some (.ref r)) := by
        rw [← hr']
        exact DGet.k (k := Sum.inl e.m) (s' _ _ eD)
      have tk : TupKp H' (upd H' Y (.lst (vs' ++ [.ref r]))) := fun b xs eb => by
        rw [upd_ne (fun z => by rw [z, eY] at eb; cases eb)]
        exact eb
      have fin : upB t e = true → vs'.length < sizeLine ∧ Same H (upd H' Y (.lst (vs' ++ [.ref r]))) ∧ (upd H' Y (.lst (vs' ++ [.ref r]))) p = some (.lst ((fs.map (·.m)).map V.int)) ∧ ∃ ws, (upd H' Y (.lst (vs' ++ [.ref r]))) Y = some (.lst ws) ∧ ws.length ≤ i + 1 ∧ EnL (upd H' Y (.lst (vs' ++ [.ref r]))) ws ((fs.take (i + 1)).filter (upB t)) := fun ho => by
        refine ⟨small1000 (by omega), fun b o eb => ?_, ?_, vs' ++ [.ref r], upd_same, by rw [List.length_append]; show vs'.length + 1 ≤ i + 1; omega, ?_⟩
        · rw [upd_ne (ne_of_none eb nY0)]
          exact s' _ _ eb
        · rw [upd_ne Yp.symm]
          exact ep
        · rw [List.take_add_one, he, List.filter_append]
          have e1 : List.filter (upB t) (some e).toList = [e] := by
            show List.filter (upB t) [e] = [e]
            rw [List.filter_cons_of_pos ho]
            rfl
          rw [e1]
          exact (hv'.kp tk).snoc (hE.kp tk)
      have skip : upB t e = false → Same H H' ∧ H' p = some (.lst ((fs.map (·.m)).map V.int)) ∧ ∃ vs', H' Y = some (.lst vs') ∧ vs'.length ≤ i + 1 ∧ EnL H' vs' ((fs.take (i + 1)).filter (upB t)) := fun ho => by
        refine ⟨s', ep, vs', eY, by omega, ?_⟩
        rw [List.take_add_one, he, List.filter_append]
        have e1 : List.filter (upB t) (some e).toList = [] := by
          show List.filter (upB t) [e] = []
          rw [List.filter_cons_of_neg (by rw [ho]; simp)]
          rfl
        rw [e1, List.append_nil]
        exact hv'
      cases t with
      | none =>
        have hu' : u = .non := hu'
        subst hu'
        refine ⟨rfl, _, rfl, rfl, _, rfl, iteTs rfl (iteT ?_)⟩
        exact ⟨_, rfl, o, C, dx, _, _, rfl, s' _ _ eo, TK.c.cl, TK.nh, rfl, _, rfl, D, .ref r, rfl, gt, vs', eY, fin rfl⟩
      | some tm =>
        have hu' : u = .int tm := hu'
        subst hu'
        refine ⟨rfl, _, rfl, rfl, _, rfl, iteFs rfl ⟨_, rfl, _, rfl, _, _, rfl, rfl, _, rfl, ite2 (fun c => ?_) (fun c => ?_)⟩⟩
        · exact ⟨_, rfl, o, C, dx, _, _, rfl, s' _ _ eo, TK.c.cl, TK.nh, rfl, _, rfl, D, .ref r, rfl, gt, vs', eY, fin c⟩
        · exact skip (by simpa [upB] using c)
    rintro H' ⟨s', ep, vs', eY, lv, hv'⟩
    rw [List.length_map, List.length_map, List.take_length] at hv'
    exact kk Y H' vs' fs s' eY pf srt hv'
def spReps (C : Addr) : Sp := fun vs H Q _ => ∃ (o D : Addr) (u : V) (t : Option Int) (es : List En), vs = [.ref o, u] ∧ LogAt C H o D es ∧ UntV u t ∧ es.length ≤ 500 ∧
  ∀ F H' vs' (fs : List En), Same H H' → H' F = some (.lst vs') → fs.Perm es → (fs.map (·.m)).Pairwise (· ≤ ·) → RepL H' vs' (repsOf (fs.filter (upB t)) (fs.filter (upB t))) → Q (.ref F) H'
abbrev s_Log_reports : Stmt := (C8.clsBody (topS 59)).getD 9 (.Pass ⟨0, 0, 0, 0⟩)
abbrev N_Log_reports : List Str := ["self", "until", "entries", "trusted", "moment", "witness", "what"]
abbrev P_Log_reports : List Str := ["self", "until"]
theorem sc_Log_reports : FnScope N_Log_reports P_Log_reports (defScope s_Log_reports) := ⟨rfl, rfl, rfl, by decide +kernel, rfl, by decide +kernel, by decide +kernel⟩
theorem okM_Log_reports (TK : LgT K mg C) (D : Dm K C "reports" "Log.reports" s_Log_reports P_Log_reports) (B : Bi mg) (cO_Log_entries : MetO P w K mg base 1 C "entries" (spEnts C) 1 "until") : C8.Met P w K mg base 2 C "reports" (spReps C) [] := by
  refine met_of TK.c.cl D sc_Log_reports (fun vs H Q E h => ?_) (fun f cdv A outer s H vs Q E hr h => ?_)
  · obtain ⟨o, D, u, t, es, rfl, _⟩ := h
    rfl
  · obtain ⟨o, D, u, t, es, rfl, hL, hu', hl, kk⟩ := h
    have hu := hu_of hr
    refine ⟨_, (pss_cons (ps_set (i := 2) sc_Log_reports.nd rfl (Or.inl rfl) (pe_mkw (pv 0) cO_Log_entries hr (by decide) (pk_cons (pv 1) pk_nil)))
    (C8.pss_cut (ps_set (i := 3) sc_Log_reports.nd rfl (Or.inr rfl) (pe_dc (own := [("moment", 4), ("witness", 5), ("what", 6)]) (g := (gTup K 3 (gCons (gName 4) (gCons (gName 5) (gCons (gName 6) gNil))))) (by rfl) sc_Log_reports.nd (pi_list (pv 2)) (blkOk_by (own := [("moment", 4), ("witness", 5), ("what", 6)]) (N := N_Log_reports) (sc := defScope s_Log_reports) (by decide +kernel)) (fun _ _ _ _ _ => (pg_tup rfl (pgs_cons (pg_name (i := 4) sc_Log_reports.nd rfl (Or.inl rfl)) (pgs_cons (pg_name (i := 5) sc_Log_reports.nd rfl (Or.inl rfl)) (pgs_cons (pg_name (i := 6) sc_Log_reports.nd rfl (Or.inl rfl)) pgs_nil))))) (fun _ _ _ _ _ => (pts_one (pt_val (pe_callB ((show CallR _ _ (rIsi K) from call_isi)) (by rfl) B.isinstance_ bt_isinstance (pa_cons (pv 6) (pa_cons (pe_bltn (v := .ty "bool") (by rfl) B.bool_ bt_bool rfl) pa_nil)))))) (fun _ _ _ _ _ => (pv 5)) (fun _ _ _ _ _ => (pv 6))))
    (pss_one (ps_ret (pe_lc (own := [("moment", 4), ("witness", 5), ("what", 6)]) (g := (gTup K 3 (gCons (gName 4) (gCons (gName 5) (gCons (gName 6) gNil))))) (by rfl) sc_Log_reports.nd (pi_list (pv 2)) (blkOk_by (own := [("moment", 4), ("witness", 5), ("what", 6)]) (N := N_Log_reports) (sc := defScope s_Log_reports) (by decide +kernel)) (fun _ _ _ _ _ => (pg_tup rfl (pgs_cons (pg_name (i := 4) sc_Log_reports.nd rfl (Or.inl rfl)) (pgs_cons (pg_name (i := 5) sc_Log_reports.nd rfl (Or.inl rfl)) (pgs_cons (pg_name (i := 6) sc_Log_reports.nd rfl (Or.inl rfl)) pgs_nil))))) (fun _ _ _ _ _ => (pts_one (PW.pt (pw_and (pt_not (pt_val (pe_callB ((show CallR _ _ (rIsi K) from call_isi)) (by rfl) B.isinstance_ bt_isinstance (pa_cons (pv 6) (pa_cons (pe_bltn (v := .ty "bool") (by rfl) B.bool_ bt_bool rfl) pa_nil))))) (pw_and1 (pt_val (pe_dget2 hu (pv 3) (pv 5) pe_bl ⟨rfl, by rfl, by rfl, rfl⟩))))))) (fun _ _ _ _ _ => (pe_tup (pa_cons (pv 5) (pa_cons (pv 6) pa_nil))))))))), ?_⟩
    obtain ⟨dx, eo⟩ := hL.o
    refine ⟨_, rfl, o, dx, _, rfl, eo, rfl, _, rfl, rfl, o, D, u, t, es, rfl, hL, hu', hl, fun F H1 vs1 fs s1 eF pf srt hE => ?_⟩
    have lg : (fs.filter (upB t)).length ≤ 500 := Nat.le_trans (List.length_filter_le _ _) (by rw [pf.length_eq]; exact hl)
    obtain ⟨gs, hg⟩ : ∃ gs, fs.filter (upB t) = gs := ⟨_, rfl⟩
    have kk := fun F H' vs' a b c => kk F H' vs' fs a b pf srt c
    rw [hg] at hE lg kk
    have l1 := hE.len
    refine ⟨fun σ' H' => ∃ (T : Addr) (kvs : List (Key × V)), σ' = [some (.ref o), some u, some (.ref F), some (.ref T), none, none, none] ∧ Same H1 H' ∧ H' T = some (.dK kvs) ∧ ∀ w, valV kvs (Sum.inr w) = (lastTr gs w).map V.bl, ?_, ?_⟩
    · refine ⟨_, rfl, F, rfl, ⟨_, SqL.of eF⟩, fun T nT => ?_⟩
      refine dc_it (walk_list (K := K) (a := F) (xs := vs1)) (fun i H' => Same H1 H' ∧ ∃ kvs, H' T = some (.dK kvs) ∧ kvs.length ≤ i ∧ ∀ w, valV kvs (Sum.inr w) = (lastTr (gs.take i) w).map V.bl) ⟨sm_upd nT, [], upd_same, Nat.le_refl _, fun w => rfl⟩ ?_ ?_ ?_
      · rintro i H' _ ⟨s', _⟩
        exact SqL.of (s' _ _ eF)
      · rintro i x H' H'' hi ⟨s', kvs, eT, lk, hk⟩ ⟨rfl, hx⟩
        obtain ⟨r, e, rfl, ⟨v, er, hv⟩, he⟩ := (hE.kp (.same s')).at hx
        refine ⟨r, _, rfl, SqT.of er, rfl, _, _, rfl, _, _, rfl, _, _, rfl, rfl, ?_⟩
        have tk : gs.take (i + 1) = gs.take i ++ [e] := by
          rw [List.take_add_one, he]
          rfl
        cases hx : e.x with
        | tr b =>
          rw [hx] at hv
          have hv : v = .bl b := hv
          subst hv
          refine ⟨rfl, _, rfl, _, _, _, _, true, rfl, .ty "bool", .base (.bl b), kit_ty kbb, true, rfl, iteT ?_⟩
          refine ⟨_, rfl, _, rfl, kvs, Sum.inr e.w, rfl, eT, small1000 (by omega), fun b' o' eb => ?_, _, upd_same, ?_, fun w => ?_⟩
          · rw [upd_ne (ne_of_none eb nT)]
            exact s' _ _ eb
          · have := congrArg List.length (put_keys (kvs := kvs) (k := Sum.inr e.w) (v := V.bl b))
            rw [List.length_map] at this
            rw [this]
            split
            · rw [List.length_map]
              omega
            · rw [List.length_append, List.length_map]
              show kvs.length + 1 ≤ i + 1
              omega
          · rw [valV_put, tk, lastTr_snoc, hx, hk w]
            show (if Sum.inr w = (Sum.inr e.w : Key) then some (V.bl b) else (lastTr (gs.take i) w).map V.bl) = (if e.w = w then some b else lastTr (gs.take i) w).map V.bl
            by_cases c : e.w = w
            · rw [if_pos c, if_pos (by rw [c])]
              rfl
            · rw [if_neg c, if_neg (fun z => c (Sum.inr.inj z).symm)]
        | rd d =>
          rw [hx] at hv
          obtain ⟨a, rfl, ha⟩ := hv
          refine ⟨rfl, _, rfl, _, _, _, _, false, rfl, .ty "bool", .base (.tup ha), kit_ty ktb, false, rfl, iteF ⟨s', kvs, eT, by omega, fun w => ?_⟩⟩
          rw [tk, lastTr_snoc, hx]
          exact hk w
      rintro H' ⟨s', kvs, eT, lk, hk⟩
      rw [l1, List.take_length] at hk
      exact ⟨T, kvs, rfl, s', eT, hk⟩
    rintro σ H2 ⟨T, kvs, rfl, s2, eT, hk⟩
    have eF2 := s2 _ _ eF
    have hE2 := hE.kp (.same s2)
    refine ⟨_, rfl, F, rfl, ⟨_, SqL.of eF2⟩, fun Y nY => ?_⟩
    refine lc_list (K := K) (a := F) (xs := vs1) (fun i H' => Same H2 H' ∧ ∃ vs', H' Y = some (.lst vs') ∧ vs'.length ≤ i ∧ RepL H' vs' (repsOf gs (gs.take i))) ⟨sm_upd nY, [], upd_same, Nat.le_refl _, .nil⟩ ?_ ?_ ?_
    · rintro i H' _ ⟨s', _⟩
      exact SqL.of (s' _ _ eF2)
    · rintro i x H' hx ⟨s', vs', eY, lv, hR⟩
      obtain ⟨r, e, rfl, ⟨v, er, hv⟩, he⟩ := (hE2.kp (.same s')).at hx
      have hi := (List.getElem?_eq_some_iff.mp he).1
      refine ⟨r, _, rfl, SqT.of er, rfl, _, _, rfl, _, _, rfl, _, _, rfl, rfl, ?_⟩
      have tk : gs.take (i + 1) = gs.take i ++ [e] := by
        rw [List.take_add_one, he]
        rfl
      cases hx : e.x with
      | tr b =>
        rw [hx] at hv
        have hv : v = .bl b := hv
        subst hv
        refine ⟨rfl, _, rfl, _, _, _, _, true, rfl, .ty "bool", .base (.bl b), kit_ty kbb, true, rfl, iteF (iteF ⟨s', vs', eY, by omega, ?_⟩)⟩
        rw [tk, repsOf_snoc, hx, List.append_nil]
        exact hR
      | rd d =>
        rw [hx] at hv
        obtain ⟨a, rfl, ha⟩ : ∃ a, v = .ref a ∧ H' a = some (rcO d) := hv
        have eg : (valV kvs (Sum.inr e.w)).getD (.bl true) = .bl (truOf gs e.w) := by
          rw [hk e.w]
          unfold truOf
          cases lastTr gs e.w <;> rfl
        refine ⟨rfl, _, rfl, _, _, _, _, false, rfl, .ty "bool", .base (.tup ha), kit_ty ktb, false, rfl, iteT ?_⟩
        refine ⟨_, rfl, T, rfl, .inl ⟨kvs, .inl (s' _ _ eT)⟩, _, rfl, _, DGet.k (k := Sum.inr e.w) (s' _ _ eT), ?_⟩
        rw [eg]
        refine ⟨_, rfl, ite2 (fun c => ?_) (fun c => ?_)⟩
        · refine ⟨_, rfl, _, rfl, len10 (by simp), fun t' nt => ?_⟩
          have zt := sm_upd (o := .tup [.str e.w, .ref a]) nt
          refine ⟨vs', zt _ _ eY, small1000 (by omega), fun b' o' eb => ?_, vs' ++ [.ref t'], upd_same, by rw [List.length_append]; show vs'.length + 1 ≤ i + 1; omega, ?_⟩
          · rw [upd_ne (ne_of_none eb nY)]
            exact zt _ _ (s' _ _ eb)
          · rw [tk, repsOf_snoc, hx]
            show RepL _ _ (repsOf gs (gs.take i) ++ (if truOf gs e.w = true then [(e.w, d)] else []))
            rw [if_pos c]
            have kp : TupKp (upd H' t' (.tup [.str e.w, .ref a])) (upd (upd H' t' (.tup [.str e.w, .ref a])) Y (.lst (vs' ++ [.ref t']))) := fun b' xs' eb => by
              rw [upd_ne (fun z => by rw [z, zt _ _ eY] at eb; cases eb)]
              exact eb
            exact ((hR.kp (.same zt)).kp kp).snoc (kp _ _ upd_same) (kp _ _ (zt _ _ ha))
        · refine ⟨s', vs', eY, by omega, ?_⟩
          rw [tk, repsOf_snoc, hx]
          show RepL _ _ (repsOf gs (gs.take i) ++ (if truOf gs e.w = true then [(e.w, d)] else []))
          rw [if_neg c, List.append_nil]
          exact hR
    rintro H' ⟨s', vs', eY, lv, hR⟩
    rw [l1, List.take_length] at hR
    exact kk Y H' vs' (s1.trans (s2.trans s')) eY hR
def spRecs (C : Addr) : Sp := fun vs H Q _ => ∃ (o D : Addr) (u : V) (t : Option Int) (es : List En), vs = [.ref o, u] ∧ LogAt C H o D es ∧ UntV u t ∧ es.length ≤ 500 ∧
  ∀ F H' vs' (fs : List En), Same H H' → H F = none → H' F = some (.lst vs') → fs.Perm es → (fs.map (·.m)).Pairwise (· ≤ ·) → Obs rcO H' vs' ((repsOf (fs.filter (upB t)) (fs.filter (upB t))).map (·.2)) → Q (.ref F) H'
abbrev s_Log_records : Stmt := (C8.clsBody (topS 59)).getD 8 (.Pass ⟨0, 0, 0, 0⟩)
abbrev N_Log_records : List Str := ["self", "until", "witness", "record"]
abbrev P_Log_records : List Str := ["self", "until"]
theorem sc_Log_records : FnScope N_Log_records P_Log_records (defScope s_Log_records) := ⟨rfl, rfl, rfl, by decide +kernel, rfl, by decide +kernel, by decide +kernel⟩
theorem okO_Log_records (TK : LgT K mg C) (D : DmO K C "records" "Log.records" s_Log_records P_Log_records 1 "until") (B : Bi mg) (c_Log_reports : C8.Met P w K mg base 2 C "reports" (spReps C) []) : C8.Met P w K mg base 3 C "records" (spRecs C) [.non] ∧ MetO P w K mg base 3 C "records" (spRecs C) 1 "until" := by
  refine meto_of TK.c.cl D sc_Log_records (fun vs H Q E h => ?_) (fun f cdv A outer s H vs Q E hr h => ?_)
  · obtain ⟨o, D, u, t, es, rfl, _⟩ := h
    rfl
  · obtain ⟨o, D, u, t, es, rfl, hL, hu', hl, kk⟩ := h
    refine ⟨_, (pss_one (ps_ret (pe_lc (own := [("witness", 2), ("record", 3)]) (g := (gTup K 2 (gCons (gName 2) (gCons (gName 3) gNil)))) (by rfl) sc_Log_records.nd (pi_list (C8.pe_mt c_Log_reports hr (by decide) (pv 0) (pa_cons (pv 1) pa_nil))) (blkOk_by (own := [("witness", 2), ("record", 3)]) (N := N_Log_records) (sc := defScope s_Log_records) (by decide +kernel)) (fun _ _ _ _ _ => (pg_tup rfl (pgs_cons (pg_name (i := 2) sc_Log_records.nd rfl (Or.inl rfl)) (pgs_cons (pg_name (i := 3) sc_Log_records.nd rfl (Or.inl rfl)) pgs_nil)))) (fun _ _ _ _ _ => pts_nil) (fun _ _ _ _ _ => (pv 3))))), ?_⟩
    obtain ⟨dx, eo⟩ := hL.o
    refine ⟨_, rfl, o, dx, _, rfl, eo, rfl, _, rfl, o, D, u, t, es, rfl, hL, hu', hl, fun F H1 vs1 fs s1 eF pf srt hR => ?_⟩
    have kk := fun F H' vs' a b c d => kk F H' vs' fs a b c pf srt d
    have l9 : (repsOf (fs.filter (upB t)) (fs.filter (upB t))).length ≤ 500 := Nat.le_trans (repsOf_len _ _) (Nat.le_trans (List.length_filter_le _ _) (by rw [pf.length_eq]; exact hl))
    generalize repsOf (fs.filter (upB t)) (fs.filter (upB t)) = ps at hR kk l9
    have l1 := hR.len
    refine ⟨F, rfl, ⟨_, SqL.of eF⟩, fun Y nY => ?_⟩
    refine lc_list (K := K) (a := F) (xs := vs1) (fun i H' => Same H1 H' ∧ ∃ vs', H' Y = some (.lst vs') ∧ vs'.length ≤ i ∧ Obs rcO H' vs' ((ps.take i).map (·.2))) ⟨sm_upd nY, [], upd_same, Nat.le_refl _, .nil⟩ ?_ ?_ ?_
    · rintro i H' _ ⟨s', _⟩
      exact SqL.of (s' _ _ eF)
    · rintro i x H' hx ⟨s', vs', eY, lv, oR⟩
      obtain ⟨r, a, p, rfl, er, ha, he⟩ := (hR.kp (.same s')).at hx
      have hi := (List.getElem?_eq_some_iff.mp hx).1
      refine ⟨r, _, rfl, SqT.of er, rfl, _, _, rfl, _, _, rfl, rfl, ?_⟩
      refine ⟨rfl, _, rfl, vs', eY, ?_, fun b' o' eb => ?_, vs' ++ [.ref a], upd_same, by rw [List.length_append]; show vs'.length + 1 ≤ i + 1; omega, ?_⟩
      · exact small1000 (by omega)
      · rw [upd_ne (ne_of_none eb nY)]
        exact s' _ _ eb
      · rw [List.take_add_one, he, List.map_append]
        exact (oR.snoc (d := p.2) ha).keep fun b d' eb => by
          rw [upd_ne (ne_of eb eY (by intro z; cases z))]
          exact eb
    rintro H' ⟨s', vs', eY, lv, oR⟩
    rw [l1, List.take_length] at oR
    exact kk Y H' vs' (s1.trans s') (nf_of s1 nY) eY oR
end
end Lf
namespace Lf
open PySem PySem.Spec PyProof.Rows L2
section
variable {P : Program} {w : World} {K : PySem.W.Frag} {mg : Str → Option Value} {base : Heap} {C : Addr}
/-! ### _law_record -/
def WtB : Wt → Prop
  | .rd d => Bd 300 d.t ∧ Bd 300 d.n
  | .tr _ => True
def spRec81 : Sp := fun vs H Q _ => ∃ (a : PA) (n : Nat) (r : Addr) (p q c : Int), vs = [.ref a, .ref r] ∧ Pen H a n ∧ n < 2 ^ 38 ∧ H r = some (.tup [.int p, .int q, .int c]) ∧ RuleB 100 p q c ∧
  ∀ y d H', H' y = some (rcO d) → Bd 300 d.t → Bd 300 d.n → Pen H' a (n + 8) → Fr H H' → Q (.ref y) H'
abbrev s_l_record : Stmt := topS 68
abbrev N_l_record : List Str := ["_law_state", "_law_rule_here", "_law_t", "_law_here", "_law_off"]
abbrev P_l_record : List Str := ["_law_state", "_law_rule_here"]
theorem sc_l_record : FnScope N_l_record P_l_record (defScope s_l_record) := ⟨rfl, rfl, rfl, by decide +kernel, rfl, by decide +kernel, by decide +kernel⟩
theorem ok_l_record (D : Df K mg "_law_record" s_l_record P_l_record) (B : Bi mg) (c_l_draw : C8.Cal P w K mg base 1 "_law_draw" spDraw []) (c_l_count : C8.Cal P w K mg base 1 "_law_count" spCount30 []) : C8.Cal P w K mg base 2 "_law_record" spRec81 [] := by
  refine cal_of D sc_l_record (fun vs H Q E h => ?_) (fun f cdv A outer s H vs Q E hr h => ?_)
  · obtain ⟨a, n, r, p, q, c, rfl, _⟩ := h
    rfl
  · obtain ⟨a, n, r, p, q, c, rfl, hP, hn, er, R, kk⟩ := h
    refine ⟨_, (pss_cons (ps_set (i := 2) sc_l_record.nd rfl (Or.inl rfl) (pe_op op_sub (pe_ix (r := rIxL K) ix_list (pe_lst (pa_cons (C8.pe_c c_l_draw hr (by decide) (by rfl) (pa_cons (pv 0) (pa_cons pe_int pa_nil))) (pa_cons (C8.pe_c c_l_draw hr (by decide) (by rfl) (pa_cons (pv 0) (pa_cons pe_int pa_nil))) (pa_cons (C8.pe_c c_l_draw hr (by decide) (by rfl) (pa_cons (pv 0) (pa_cons (pe_op op_pow pe_int pe_int) pa_nil))) pa_nil)))) (C8.pe_c c_l_draw hr (by decide) (by rfl) (pa_cons (pv 0) (pa_cons pe_int pa_nil))) (fun _ _ => rfl)) pe_int))
    (pss_cons (ps_par (i := 3) (j := 4) rfl sc_l_record.nd rfl rfl (by decide) rfl rfl (pa_cons (C8.pe_c c_l_count hr (by decide) (by rfl) (pa_cons (pv 1) (pa_cons (pv 2) pa_nil))) (pa_cons (C8.pe_c c_l_draw hr (by decide) (by rfl) (pa_cons (pv 0) (pa_cons pe_int pa_nil))) pa_nil)) rfl)
    (pss_cons (ps_if (pt_cmpR op_eq (C8.pe_c c_l_draw hr (by decide) (by rfl) (pa_cons (pv 0) (pa_cons pe_int pa_nil))) pe_int (nomark _))
      (pss_one (ps_ret (pe_ix (r := rIxL K) ix_list (pe_lst (pa_cons (pe_tup (pa_cons pe_str (pa_cons (pv 2) (pa_cons (pe_op op_sub (pe_op op_sub (pv 3) pe_int) (pv 4)) pa_nil)))) (pa_cons (pe_tup (pa_cons pe_str (pa_cons (pv 2) (pa_cons (pe_op op_add (pe_op op_add (pv 3) pe_int) (pv 4)) pa_nil)))) pa_nil))) (C8.pe_c c_l_draw hr (by decide) (by rfl) (pa_cons (pv 0) (pa_cons pe_int pa_nil))) (fun _ _ => rfl))))
      pss_nil)
    (pss_one (ps_ret (pe_ix (r := rIxL K) ix_list (pe_lst (pa_cons (pe_tup (pa_cons pe_str (pa_cons (pv 2) (pa_cons (pe_op op_add (pv 3) (pv 4)) pa_nil)))) (pa_cons (pe_tup (pa_cons pe_str (pa_cons (pv 2) (pa_cons (pe_op op_sub (pv 3) (pv 4)) pa_nil)))) pa_nil))) (C8.pe_c c_l_draw hr (by decide) (by rfl) (pa_cons (pv 0) (pa_cons pe_int pa_nil))) (fun _ _ => rfl))))))), ?_⟩
    have dB : ∀ x : Int, 0 < x → x < 2 ^ 36 → Bd 9000 x := fun x h0 h => Bd.small 40 (by omega) (by decide)
    refine ⟨_, rfl, a, _, _, rfl, hP, by omega, by decide, dB _ (by decide) (by decide), fun t1 H1 t10 t11 hP1 f1 => ?_⟩
    refine ⟨_, rfl, a, _, _, rfl, hP1, by omega, by decide, dB _ (by decide) (by decide), fun t2 H2 t20 t21 hP2 f2 => ?_⟩
    refine ⟨_, rfl, _, _, rfl, rfl, ⟨by decide, by decide, by decide⟩, a, _, _, rfl, hP2, by omega, by decide, dB _ (by decide) (by decide), fun t3 H3 t30 t31 hP3 f3 => ?_⟩
    refine ⟨len10 (by simp), fun O nO => ?_⟩
    refine ⟨_, rfl, a, _, _, rfl, hP3.new nO, by omega, by decide, dB _ (by decide) (by decide), fun i H4 i0 i1 hP4 f4 => ?_⟩
    have eO := f4.l _ _ (upd_same (H := H3) (a := O) (o := .lst [.int t1, .int t2, .int t3]))
    obtain ⟨x, hx, mx⟩ := at_in (xs := [.int t1, .int t2, .int t3]) i0 (by show i < 3; omega)
    refine ⟨O, _, _, _, rfl, rfl, SqL.of eO, hx, ?_⟩
    have f4 := f1.trans (f2.trans (f3.trans ((Fr.new nO).trans f4)))
    obtain ⟨t, rfl, u1, u2⟩ : ∃ t : Int, x = .int t ∧ 0 ≤ t ∧ t < 1000000000 := by
      have h3 : (10 : Int) ^ (9 : Int).toNat = 1000000000 := by decide
      rw [h3] at t31
      simp only [List.mem_cons, List.not_mem_nil, or_false] at mx
      rcases mx with rfl | rfl | rfl
      · exact ⟨_, rfl, t10, by omega⟩
      · exact ⟨_, rfl, t20, by omega⟩
      · exact ⟨_, rfl, t30, t31⟩
    clear mx hx eO
    refine ⟨_, _, rfl, rfl, ?_⟩
    have er4 := f4.t _ _ er
    refine ⟨_, rfl, _, rfl, r, p, q, c, t - 20, 100, rfl, er4, R, Bd.small 40 (by omega) (by decide), by decide, by decide, ?_⟩
    have bh : Bd 290 ((p * (t - 20) + c) / q) := by
      have b1 : Bd 200 (p * (t - 20)) := R.bp.mul (Bd.small 40 (by omega) (by decide) : Bd 100 (t - 20))
      have b2 : Bd 201 (p * (t - 20) + c) := b1.add (R.bc.mono (by decide))
      exact (b2.ediv (by have := R.q1; omega)).mono (by decide)
    have bt : Bd 300 (t - 20) := Bd.small 40 (by omega) (by decide)
    generalize (p * (t - 20) + c) / q = h at bh ⊢
    have b3 : ∀ x : Int, x.natAbs < 2 ^ 20 → Bd 290 x := fun x hx => Bd.small 20 hx (by decide)
    refine ⟨_, rfl, a, _, _, rfl, hP4, by omega, by decide, dB _ (by decide) (by decide), fun o H5 o0 o1 hP5 f5 => ⟨_, _, rfl, ?_⟩⟩
    refine ⟨_, rfl, a, _, _, rfl, hP5, by omega, by decide, dB _ (by decide) (by decide), fun z H6 z0 z1 hP6 f6 => ⟨rfl, _, rfl, ?_⟩⟩
    have f6 := f4.trans (f5.trans f6)
    have fin : ∀ (k1 k2 : Int) (R1 R2 O : Addr) (H8 : Hp), Bd 300 k1 → Bd 300 k2 → H8 R1 = some (rcO ⟨false, t - 20, k1⟩) → H8 R2 = some (rcO ⟨true, t - 20, k2⟩) → H8 O = some (.lst [.ref R1, .ref R2]) → Pen H8 a (n + 6) → Fr H H8 →
        tCall spDraw [] C8.E0 (tCons (tVar 0) (tCons (tC (.int 2)) tNil)) [some (.ref a.d), some (.ref r), some (.int (t - 20)), some (.int h), some (.int o)] H8 fun y H' => rIxL K (.ref O) y H' Q := fun k1 k2 R1 R2 O H8 bk1 bk2 e1 e2 eO hP8 f8 => by
      refine ⟨_, rfl, a, _, _, rfl, hP8, by omega, by decide, dB _ (by decide) (by decide), fun i H9 i0 i1 hP9 f9 => ?_⟩
      obtain ⟨x, hx, mx⟩ := at_in (xs := [V.ref R1, V.ref R2]) i0 (by show i < 2; omega)
      refine ⟨O, _, _, _, rfl, rfl, SqL.of (f9.l _ _ eO), hx, ?_⟩
      simp only [List.mem_cons, List.not_mem_nil, or_false] at mx
      rcases mx with rfl | rfl
      · exact kk _ _ _ (f9.t _ _ e1) bt bk1 (hP9.mono (by omega)) (f8.trans f9)
      · exact kk _ _ _ (f9.t _ _ e2) bt bk2 (hP9.mono (by omega)) (f8.trans f9)
    refine ite2 (fun cz => ?_) (fun cz => ?_)
    · refine ⟨_, rfl, _, rfl, _, _, rfl, rfl, _, rfl, _, _, rfl, rfl, len10 (by simp), fun R1 nR1 => ?_⟩
      have z1 := sm_upd (o := rcO ⟨false, t - 20, h - 1 - o⟩) nR1
      refine ⟨_, rfl, _, rfl, _, _, rfl, rfl, _, rfl, _, _, rfl, rfl, len10 (by simp), fun R2 nR2 => ⟨len10 (by simp), fun O nO => ?_⟩⟩
      have z2 := sm_upd (o := rcO ⟨true, t - 20, h + 1 + o⟩) nR2
      have z3 := sm_upd (o := .lst [.ref R1, .ref R2]) nO
      exact fin _ _ R1 R2 O _ (((bh.sub (b3 1 (by decide))).sub ((b3 o (by omega)).mono (by decide))).mono (by decide)) (((bh.add (b3 1 (by decide))).add ((b3 o (by omega)).mono (by decide))).mono (by decide)) (z3 _ _ (z2 _ _ upd_same)) (z3 _ _ upd_same) upd_same (((hP6.same z1).same z2).same z3) (f6.trans (Fr.same (z1.trans (z2.trans z3))))
    · refine ⟨_, rfl, _, rfl, _, rfl, _, _, rfl, rfl, len10 (by simp), fun R1 nR1 => ?_⟩
      have z1 := sm_upd (o := rcO ⟨false, t - 20, h + o⟩) nR1
      refine ⟨_, rfl, _, rfl, _, rfl, _, _, rfl, rfl, len10 (by simp), fun R2 nR2 => ⟨len10 (by simp), fun O nO => ?_⟩⟩
      have z2 := sm_upd (o := rcO ⟨true, t - 20, h - o⟩) nR2
      have z3 := sm_upd (o := .lst [.ref R1, .ref R2]) nO
      exact fin _ _ R1 R2 O _ ((bh.add (b3 o (by omega))).mono (by decide)) ((bh.sub (b3 o (by omega))).mono (by decide)) (z3 _ _ (z2 _ _ upd_same)) (z3 _ _ upd_same) upd_same (((hP6.same z1).same z2).same z3) (f6.trans (Fr.same (z1.trans (z2.trans z3))))
end
end Lf
namespace Lf
open PySem PySem.Spec PyProof.Rows L2
theorem joinL_nil : ∀ ls : List (List Nat), TL.joinL [] ls = ls.flatten
  | [] => rfl
  | [p] => by
    show p = (p :: []).flatten
    simp
  | p :: q :: r => by
    show p ++ ([] ++ TL.joinL [] (q :: r)) = p ++ (q :: r).flatten
    rw [joinL_nil (q :: r)]
    rfl
/-- small letters only -/
def SmlW (z : Str) : Prop := ∀ c ∈ z.cps.toList, 97 ≤ c ∧ c ≤ 122
def oneS (c : Nat) : Str := ⟨#[c]⟩
theorem SmlW.cat {y z : Str} (hy : SmlW y) (hz : SmlW z) : SmlW (y ++ z) := fun c hc => by
  have e : (y ++ z).cps.toList = y.cps.toList ++ z.cps.toList := TL.tl_append y z
  rw [e] at hc
  rcases List.mem_append.mp hc with h | h
  · exact hy c h
  · exact hz c h
theorem len_cat (y z : Str) : (y ++ z).length = y.length + z.length := by
  rw [TL.len_tl, TL.len_tl y, TL.len_tl z, TL.tl_append, List.length_append]
theorem SmlW.cut {z : Str} (h : SmlW z) (lo hi : Option Int) : SmlW (cutS z lo hi) := fun c hc => h c (by
  have hc : c ∈ ((z.cps.toList.drop (HT.sIx z.length 0 lo)).take (HT.sIx z.length z.length hi - HT.sIx z.length 0 lo)) := hc
  exact List.mem_of_mem_drop (List.mem_of_mem_take hc))
theorem SmlW.one {c : Nat} (h1 : 97 ≤ c) (h2 : c ≤ 122) : SmlW (oneS c) := fun x hx => by
  have hx : x ∈ [c] := hx
  rw [List.mem_singleton.mp hx]
  exact ⟨h1, h2⟩
theorem join_one (ys : List Nat) : (Txt.join (Str.ofString "") (ys.map oneS)).cps.toList = ys := by
  have e := TL.tl_join (Str.ofString "") (ys.map oneS)
  rw [← TL.join_eq] at e
  have e0 : TL.tl (Str.ofString "") = [] := by decide +kernel
  have e1 : (ys.map oneS).map TL.tl = ys.map fun c => [c] := by
    rw [List.map_map]
    rfl
  rw [e0, joinL_nil, e1] at e
  have e2 : ∀ l : List Nat, (l.map fun c => [c]).flatten = l := fun l => by
    induction l with
    | nil => rfl
    | cons c l ih =>
      show c :: (l.map fun c => [c]).flatten = _
      rw [ih]
  rw [e2] at e
  exact e
theorem sum_one : ∀ ys : List Nat, ((ys.map oneS).map (·.length)).sum = ys.length
  | [] => rfl
  | c :: ys => by
    show 1 + ((ys.map oneS).map (·.length)).sum = ys.length + 1
    rw [sum_one ys]
    omega
theorem abc_at {d : Int} (h0 : 0 ≤ d) (h1 : d < 26) : ∃ c, atI (Str.ofString "abcdefghijklmnopqrstuvwxyz").cps.toList d = some c ∧ 97 ≤ c ∧ c ≤ 122 := by
  obtain ⟨j, rfl⟩ := Int.eq_ofNat_of_zero_le h0
  have hj : j < 26 := by omega
  refine ⟨97 + j, atI_nat ?_, by omega, by omega⟩
  rw [abc_cps, List.getElem?_map, List.getElem?_range hj]
  rfl
theorem WitW.mk {z : Str} (h1 : 1 ≤ z.length) (h2 : z.length ≤ 12) (h : SmlW z) : WitW z := ⟨h1, h2, h⟩
section
variable {P : Program} {w : World} {K : PySem.W.Frag} {mg : Str → Option Value} {base : Heap} {C : Addr}
/-! ### _law_words -/
abbrev strL (zs : List Str) : List V := zs.map V.str
def spWords : Sp := fun vs H Q _ => ∃ (a : PA) (n : Nat), vs = [.ref a, .int 4] ∧ Pen H a n ∧ n < 2 ^ 38 ∧
  ∀ L zs H', H' L = some (.lst (strL zs)) → zs.length = 4 → (∀ z ∈ zs, WitW z) → Pen H' a (n + 20) → Fr H H' → Q (.ref L) H'
abbrev s_l_words : Stmt := topS 69
abbrev N_l_words : List Str := ["_law_state", "_law_size", "_law_letters", "_law_found", "_law_tail", "_law_begin", "_law_k", "_law_some", "_law_word"]
abbrev P_l_words : List Str := ["_law_state", "_law_size"]
theorem sc_l_words : FnScope N_l_words P_l_words (defScope s_l_words) := ⟨rfl, rfl, rfl, by decide +kernel, rfl, by decide +kernel, by decide +kernel⟩
theorem ok_l_words (D : Df K mg "_law_words" s_l_words P_l_words) (B : Bi mg) (c_l_draw : C8.Cal P w K mg base 1 "_law_draw" spDraw []) : C8.Cal P w K mg base 2 "_law_words" spWords [] := by
  refine cal_of D sc_l_words (fun vs H Q E h => ?_) (fun f cdv A outer s H vs Q E hr h => ?_)
  · obtain ⟨a, n, rfl, _⟩ := h
    rfl
  · obtain ⟨a, n, rfl, hP, hn, kk⟩ := h
    refine ⟨_, (pss_cons (ps_asg (pe_tup (pa_cons pe_str (pa_cons (pe_lst pa_nil) pa_nil))) (pg_tup rfl (pgs_cons (pg_name (i := 2) sc_l_words.nd rfl (Or.inr rfl)) (pgs_cons (pg_name (i := 3) sc_l_words.nd rfl (Or.inl rfl)) pgs_nil))))
    (pss_cons (ps_set (i := 4) sc_l_words.nd rfl (Or.inl rfl) (pe_bm PySem.F.plainAttrs_str PySem.F.slot_str_join PySem.F.type_str_join mt_join pe_str (pa_cons (pe_lc (own := [("_law_k", 6)]) (g := (gName 6)) (by rfl) sc_l_words.nd (pi_range1 rfl B.range_ (pa_cons (C8.pe_c c_l_draw hr (by decide) (by rfl) (pa_cons (pv 0) (pa_cons pe_int pa_nil))) pa_nil)) (blkOk_by (own := [("_law_k", 6)]) (N := N_l_words) (sc := defScope s_l_words) (by decide +kernel)) (fun _ _ _ _ _ => (pg_name (i := 6) sc_l_words.nd rfl (Or.inl rfl))) (fun _ _ _ _ _ => pts_nil) (fun _ _ _ _ _ => (pe_ix ix_str (pv 2) (C8.pe_c c_l_draw hr (by decide) (by rfl) (pa_cons (pv 0) (pa_cons pe_int pa_nil))) (fun _ _ => rfl)))) pa_nil)))
    (pss_cons (ps_set (i := 5) sc_l_words.nd rfl (Or.inl rfl) (C8.pe_c c_l_draw hr (by decide) (by rfl) (pa_cons (pv 0) (pa_cons pe_int pa_nil))))
    (pss_cons (ps_for PassesOwn.never rfl (pi_range1 rfl B.range_ (pa_cons (pv 1) pa_nil)) (pg_name (i := 6) sc_l_words.nd rfl (Or.inl rfl))
      (pss_one (ps_expr (pe_bm PySem.F.plainAttrs_list PySem.F.slot_list_append PySem.F.type_list_append mt_append (pv 3) (pa_cons (pe_op op_add_str (pe_slice sl_str (pv 4) po_none (po_some (pe_op op_mod (pv 6) pe_int))) (pe_ix ix_str (pv 2) (pe_op op_mod (pe_op op_add (pv 5) (pe_op op_mul pe_int (pv 6))) pe_int) (fun _ _ => rfl))) pa_nil)))))
    (pss_cons (ps_set (i := 7) sc_l_words.nd rfl (Or.inl rfl) (pe_lst (pa_cons pe_str (pa_cons pe_str (pa_cons pe_str (pa_cons pe_str (pa_cons pe_str (pa_cons pe_str (pa_cons pe_str (pa_cons pe_str (pa_cons pe_str (pa_cons pe_str (pa_cons pe_str (pa_cons pe_str pa_nil))))))))))))))
    (pss_cons (ps_set (i := 8) sc_l_words.nd rfl (Or.inl rfl) (pe_ix (r := rIxL K) ix_list (pv 7) (C8.pe_c c_l_draw hr (by decide) (by rfl) (pa_cons (pv 0) (pa_cons pe_int pa_nil))) (fun _ _ => rfl)))
    (pss_one (ps_ret (pe_ifExp (PW.pt (pw_or (pt_cmpR op_in_seq (pv 8) (pv 3) rfl) (pw_or1 (pt_cmpR op_eq (C8.pe_c c_l_draw hr (by decide) (by rfl) (pa_cons (pv 0) (pa_cons pe_int pa_nil))) pe_int (nomark _))))) (pv 3) (pe_op op_cat (pe_lst (pa_cons (pv 8) pa_nil)) (pe_slice sl_list (pv 3) (po_some pe_int) po_none))))))))))), ?_⟩
    have dB : ∀ x : Int, 0 < x → x < 2 ^ 36 → Bd 9000 x := fun x h0 h => Bd.small 40 (by omega) (by decide)
    obtain ⟨abc, hab⟩ : ∃ z, Str.ofString "abcdefghijklmnopqrstuvwxyz" = z := ⟨_, rfl⟩
    have al : abc.length = 26 := by rw [← hab]; decide +kernel
    have aat : ∀ {d : Int}, 0 ≤ d → d < 26 → ∃ c, atI abc.cps.toList d = some c ∧ 97 ≤ c ∧ c ≤ 122 := fun h0 h1 => by
      rw [← hab]
      exact abc_at h0 h1
    rw [hab]
    refine ⟨Nat.zero_le _, fun F nF => ⟨len10 (by simp), fun T nT => ⟨T, _, rfl, SqT.of upd_same, rfl, _, _, rfl, _, _, rfl, rfl, ?_⟩⟩⟩
    have zF := sm_upd (o := .lst []) nF
    have zT := sm_upd (o := .tup [.str abc, .ref F]) nT
    have hP0 := (hP.same zF).same zT
    have f0 := Fr.same (zF.trans zT)
    have eF := zT _ _ (upd_same (H := H) (a := F) (o := .lst []))
    have nFH := nF
    generalize upd (upd H F (.lst [])) T (.tup [.str abc, .ref F]) = H0 at hP0 f0 eF ⊢
    refine ⟨rfl, _, rfl, a, _, _, rfl, hP0, by omega, by decide, dB _ (by decide) (by decide), fun k H1 k0 k1 hP1 f1 => ?_⟩
    refine ⟨_, rfl, by omega, by omega, fun Y nY => ?_⟩
    obtain ⟨kn, rfl⟩ := Int.eq_ofNat_of_zero_le k0
    refine lc_range (lo := 0) (n := kn) (fun i H' => ∃ ys : List Nat, H' Y = some (.lst ((ys.map oneS).map V.str)) ∧ ys.length = i ∧ (∀ c ∈ ys, 97 ≤ c ∧ c ≤ 122) ∧ Pen H' a (n + 1 + i) ∧ Fr H1 H') ⟨[], upd_same, rfl, fun z hz => (nomatch hz), hP1.new nY, Fr.new nY⟩ ?_ ?_
    · rintro i H2 hi ⟨ys, eY, ly, hy, hP2, f2⟩
      refine ⟨rfl, _, rfl, _, rfl, a, _, _, rfl, hP2, by omega, by decide, dB _ (by decide) (by decide), fun d H3 d0 d1 hP3 f3 => ?_⟩
      obtain ⟨c, hc, c1, c2⟩ := aat d0 d1
      refine ⟨abc, d, c, rfl, rfl, by rw [al, sizeLine_eq]; omega, hc, _, f3.l _ _ eY, small1000 (by simp; omega), ys ++ [c], ?_, by rw [List.length_append, ly]; rfl, ?_, ?_, ?_⟩
      · rw [upd_same, List.map_append, List.map_append]
        rfl
      · intro x hx
        rcases List.mem_append.mp hx with h | h
        · exact hy x h
        · rw [List.mem_singleton.mp h]
          exact ⟨c1, c2⟩
      · exact (hP1.over nY hP3).mono (by omega)
      · exact (f2.trans f3).over nY
    rintro H2 ⟨ys, eY, ly, hy, hP2, f2⟩
    refine ⟨_, Y, ys.map oneS, rfl, rfl, .inl (SqL.of eY), ?_, ?_⟩
    · rw [sum_one, show (Str.ofString "").length = 0 from by decide +kernel, Nat.mul_zero]
      omega
    obtain ⟨tail, ht⟩ : ∃ z, Txt.join (Str.ofString "") (ys.map oneS) = z := ⟨_, rfl⟩
    have et := join_one ys
    rw [ht] at et ⊢
    have tS : SmlW tail := fun c hc => hy c (by rw [← et]; exact hc)
    have tl11 : tail.length ≤ 11 := by
      have : tail.length = tail.cps.toList.length := TL.len_tl tail
      rw [this, et]
      omega
    have f12 := f1.trans f2
    refine ⟨_, rfl, a, _, _, rfl, hP2, by omega, by decide, dB _ (by decide) (by decide), fun bg H3 b0 b1 hP3 f3 => ?_⟩
    have f03 := f0.trans (f12.trans f3)
    have eF3 := (f12.trans f3).l _ _ eF
    refine ⟨_, rfl, 4, rfl, by decide, by decide, ?_⟩
    refine for_range (lo := 0) (n := 4) (fun i σ H' => ∃ (y6 : Option V) (zs : List Str), σ = [some (.ref a.d), some (.int 4), some (.str abc), some (.ref F), some (.str tail), some (.int bg), y6, none, none] ∧ H' F = some (.lst (strL zs)) ∧ zs.length = i ∧ (∀ z ∈ zs, WitW z) ∧ Pen H' a (n + 14) ∧ Fr H H') ⟨_, [], rfl, eF3, rfl, fun z hz => (nomatch hz), hP3.mono (by omega), f03⟩ ?_ ?_
    · rintro i σ H4 hi ⟨y6, zs, rfl, eF4, lz, hz, hP4, f4⟩
      have i4 : (0 : Int) + (i : Int) = (i : Int) := by omega
      rw [i4]
      refine ⟨_, rfl, .inl ⟨rfl, _, SqL.of eF4⟩, _, rfl, _, rfl, _, _, rfl, rfl, (by show (0 : Int) < 4; decide), _, rfl, tail, rfl, by rw [sizeLine_eq]; omega, ?_⟩
      obtain ⟨c, hc, c1, c2⟩ := aat (d := (bg + 3 * (i : Int)) % 26) (by omega) (by omega)
      refine ⟨_, rfl, _, rfl, _, rfl, _, _, rfl, rfl, .inl ⟨by decide, by omega⟩, _, _, rfl, rfl, _, _, rfl, rfl, (by show (0 : Int) < 26; decide), abc, _, c, rfl, rfl, by rw [al, sizeLine_eq]; omega, hc, ?_⟩
      have w1 : (oneS c).length = 1 := rfl
      have w2 : (cutS tail none (some ((i : Int) % 4))).length ≤ tail.length := cutS_length _ _ _
      refine ⟨_, _, rfl, rfl, by show _ + (oneS c).length ≤ _; rw [w1, sizeLine_eq]; omega, ?_⟩
      refine ⟨F, strL zs, _, rfl, rfl, eF4, small1000 (by show (zs.map V.str).length ≤ _; rw [List.length_map]; omega), _, zs ++ [cutS tail none (some ((i : Int) % 4)) ++ oneS c], rfl, ?_, by rw [List.length_append, lz]; rfl, ?_, hP.over nFH hP4, f4.over nFH⟩
      · rw [upd_same]
        unfold strL
        rw [List.map_append]
        rfl
      · intro z hz'
        rcases List.mem_append.mp hz' with h | h
        · exact hz z h
        · rw [List.mem_singleton.mp h]
          have w3 := len_cat (cutS tail none (some ((i : Int) % 4))) (oneS c)
          refine .mk ?_ ?_ ((tS.cut _ _).cat (.one c1 c2))
          · show 1 ≤ (cutS tail none (some ((i : Int) % 4)) ++ oneS c).length
            omega
          · show (cutS tail none (some ((i : Int) % 4)) ++ oneS c).length ≤ 12
            omega
    rintro σ H4 ⟨y6, zs, rfl, eF4, lz, hz, hP4, f4⟩
    refine ⟨len10 (by simp), fun O nO => ?_⟩
    have zO := sm_upd (o := .lst [.str "rule", .str "count", .str "event", .str "differ", .str "rates", .str "best", .str "range", .str "blame", .str "until", .str "at", .str "is", .str "abcdefghijkl"]) nO
    have eO := upd_same (H := H4) (a := O) (o := .lst [.str "rule", .str "count", .str "event", .str "differ", .str "rates", .str "best", .str "range", .str "blame", .str "until", .str "at", .str "is", .str "abcdefghijkl"])
    refine ⟨_, rfl, _, rfl, a, _, _, rfl, hP4.same zO, by omega, by decide, dB _ (by decide) (by decide), fun d H5 d0 d1 hP5 f5 => ?_⟩
    obtain ⟨x, hx, mx⟩ := at_in (xs := [.str "rule", .str "count", .str "event", .str "differ", .str "rates", .str "best", .str "range", .str "blame", .str "until", .str "at", .str "is", .str "abcdefghijkl"]) d0 (by show d < 12; omega)
    refine ⟨O, _, _, _, rfl, rfl, SqL.of (f5.l _ _ eO), hx, ?_⟩
    obtain ⟨wd, rfl, hwd⟩ : ∃ z : Str, x = .str z ∧ WitW z := by
      simp only [List.mem_cons, List.not_mem_nil, or_false] at mx
      rcases mx with rfl | rfl | rfl | rfl | rfl | rfl | rfl | rfl | rfl | rfl | rfl | rfl <;> exact ⟨_, rfl, by decide +kernel, by decide +kernel, by decide +kernel⟩
    clear mx hx eO
    have eF5 := f5.l _ _ (zO _ _ eF4)
    have f5 := f4.trans ((Fr.same zO).trans f5)
    refine ⟨_, rfl, _, rfl, F, _, rfl, .inl (SqL.of eF5), rfl, by simp [strL, flatV], ?_⟩
    have keep : ∀ H7, Pen H7 a (n + 16) → Fr H5 H7 → ∃ v, (some (some (V.ref F)) = some (some v)) ∧ Q v H7 := fun H7 hP7 f7 => ⟨_, rfl, kk F zs H7 (f7.l _ _ eF5) lz hz (hP7.mono (by omega)) (f5.trans f7)⟩
    refine ⟨_, rfl, ite2 (fun cw => iteT ?_) (fun cw => ?_)⟩
    · exact keep H5 (hP5.mono (by omega)) (Fr.refl _)
    refine ⟨_, rfl, a, _, _, rfl, hP5, by omega, by decide, dB _ (by decide) (by decide), fun z H6 z0 z1 hP6 f6 => ⟨rfl, _, rfl, ite2 (fun c => ?_) (fun c => ?_)⟩⟩
    · exact keep H6 (hP6.mono (by omega)) f6
    have eF6 := f6.l _ _ eF5
    refine ⟨_, rfl, len10 (by simp), fun l2 n2 => ⟨_, rfl, 1, rfl, F, _, rfl, SqL.of (sm_upd n2 _ _ eF6), fun l4 n4 => ?_⟩⟩
    have z2 := sm_upd (o := .lst [.str wd]) n2
    have z4 := sm_upd (o := .lst (cutV (strL zs) (some 1) none)) n4
    have lc := cutV_length (strL zs) (some 1) none
    have ls : (strL zs).length = 4 := by
      show (zs.map V.str).length = 4
      rw [List.length_map, lz]
    rw [ls] at lc
    refine ⟨l2, l4, _, _, rfl, rfl, z4 _ _ upd_same, upd_same, len10 (by simp; omega), fun Z nZ => ?_⟩
    have zZ := sm_upd (o := .lst ([.str wd] ++ cutV (strL zs) (some 1) none)) nZ
    obtain ⟨y1, y2, y3, y4, rfl⟩ : ∃ y1 y2 y3 y4, zs = [y1, y2, y3, y4] := by
      match zs, lz with
      | [y1, y2, y3, y4], _ => exact ⟨_, _, _, _, rfl⟩
    refine kk Z [wd, y2, y3, y4] _ upd_same rfl (fun q hq => ?_) ((((hP6.same z2).same z4).same zZ).mono (by omega)) (f5.trans (f6.trans (Fr.same (z2.trans (z4.trans zZ)))))
    simp only [List.mem_cons, List.not_mem_nil, or_false] at hq
    rcases hq with rfl | rfl | rfl | rfl
    · exact hwd
    · exact hz _ (by simp)
    · exact hz _ (by simp)
    · exact hz _ (by simp)
end
end Lf
namespace Lf
open PySem PySem.Spec PyProof.Rows L2
section
variable {P : Program} {w : World} {K : PySem.W.Frag} {mg : Str → Option Value} {base : Heap} {C : Addr}
/-! ### _law_entries -/
def spEn81 : Sp := fun vs H Q _ => ∃ (a : PA) (n : Nat) (r : Addr) (p q c m : Int), vs = [.ref a, .ref r, .int m] ∧ Pen H a n ∧ n < 2 ^ 36 ∧ H r = some (.tup [.int p, .int q, .int c]) ∧ RuleB 100 p q c ∧ 0 ≤ m ∧ m ≤ 150 ∧
  ∀ F H' vs' (es : List En), H' F = some (.lst vs') → EnL H' vs' es → (es.length : Int) = m → (es.map (·.m)).Pairwise (· < ·) → (∀ e ∈ es, 0 ≤ e.m ∧ e.m ≤ 2 ^ 44 ∧ WitW e.w ∧ WtB e.x) → Pen H' a (n + 3000) → Fr H H' → Q (.ref F) H'
abbrev s_l_entries : Stmt := topS 70
abbrev N_l_entries : List Str := ["_law_state", "_law_rule_here", "_law_size", "_law_words_here", "_law_found", "_law_now", "_law_k", "_law_what"]
abbrev P_l_entries : List Str := ["_law_state", "_law_rule_here", "_law_size"]
theorem sc_l_entries : FnScope N_l_entries P_l_entries (defScope s_l_entries) := ⟨rfl, rfl, rfl, by decide +kernel, rfl, by decide +kernel, by decide +kernel⟩
theorem ok_l_entries (D : Df K mg "_law_entries" s_l_entries P_l_entries) (B : Bi mg) (c_l_draw : C8.Cal P w K mg base 1 "_law_draw" spDraw []) (c_l_words : C8.Cal P w K mg base 2 "_law_words" spWords []) (c_l_record : C8.Cal P w K mg base 2 "_law_record" spRec81 []) : C8.Cal P w K mg base 3 "_law_entries" spEn81 [] := by
  refine cal_of D sc_l_entries (fun vs H Q E h => ?_) (fun f cdv A outer s H vs Q E hr h => ?_)
  · obtain ⟨a, n, r, p, q, c, m, rfl, _⟩ := h
    rfl
  · obtain ⟨a, n, r, p, q, c, m, rfl, hP, hn, er, R, m1, m2, kk⟩ := h
    refine ⟨_, (pss_cons (ps_par3 (i := 3) (j := 4) (l := 5) rfl sc_l_entries.nd rfl rfl rfl (by decide) (by decide) (by decide) rfl rfl rfl (pa_cons (C8.pe_c c_l_words hr (by decide) (by rfl) (pa_cons (pv 0) (pa_cons pe_int pa_nil))) (pa_cons (pe_lst pa_nil) (pa_cons (C8.pe_c c_l_draw hr (by decide) (by rfl) (pa_cons (pv 0) (pa_cons pe_int pa_nil))) pa_nil))) rfl)
    (pss_cons (ps_for PassesOwn.never rfl (pi_range1 rfl B.range_ (pa_cons (pv 2) pa_nil)) (pg_name (i := 6) sc_l_entries.nd rfl (Or.inl rfl))
      (pss_cons (ps_set (i := 7) sc_l_entries.nd rfl (Or.inl rfl) (pe_ix (r := rIxL K) ix_list (pe_lst (pa_cons (C8.pe_c c_l_record hr (by decide) (by rfl) (pa_cons (pv 0) (pa_cons (pv 1) pa_nil))) (pa_cons pe_bl (pa_cons pe_bl pa_nil)))) (pe_ix (r := rIxL K) ix_list (pe_lst (pa_cons pe_int (pa_cons pe_int (pa_cons pe_int (pa_cons pe_int (pa_cons pe_int (pa_cons pe_int pa_nil))))))) (C8.pe_c c_l_draw hr (by decide) (by rfl) (pa_cons (pv 0) (pa_cons pe_int pa_nil))) (fun _ _ => rfl)) (fun _ _ => rfl)))
    (pss_cons (ps_expr (pe_bm PySem.F.plainAttrs_list PySem.F.slot_list_append PySem.F.type_list_append mt_append (pv 4) (pa_cons (pe_tup (pa_cons (pv 5) (pa_cons (pe_ix (r := rIxL K) ix_list (pv 3) (C8.pe_c c_l_draw hr (by decide) (by rfl) (pa_cons (pv 0) (pa_cons pe_int pa_nil))) (fun _ _ => rfl)) (pa_cons (pv 7) pa_nil)))) pa_nil)))
    (pss_one (ps_set (i := 5) sc_l_entries.nd rfl (Or.inl rfl) (pe_op op_add (pe_op op_add (pv 5) pe_int) (pe_ix (r := rIxL K) ix_list (pe_lst (pa_cons pe_int (pa_cons (C8.pe_c c_l_draw hr (by decide) (by rfl) (pa_cons (pv 0) (pa_cons pe_int pa_nil))) (pa_cons (C8.pe_c c_l_draw hr (by decide) (by rfl) (pa_cons (pv 0) (pa_cons (pe_op op_pow pe_int pe_int) pa_nil))) pa_nil)))) (C8.pe_c c_l_draw hr (by decide) (by rfl) (pa_cons (pv 0) (pa_cons pe_int pa_nil))) (fun _ _ => rfl))))))))
    (pss_one (ps_ret (pv 4))))), ?_⟩
    have dB : ∀ x : Int, 0 < x → x < 2 ^ 36 → Bd 9000 x := fun x h0 h => Bd.small 40 (by omega) (by decide)
    refine ⟨_, rfl, a, _, rfl, hP, by omega, fun L zs H1 eL lz hz hP1 f1 => ?_⟩
    refine ⟨Nat.zero_le _, fun F nF => ?_⟩
    have zF := sm_upd (o := .lst []) nF
    have eF := upd_same (H := H1) (a := F) (o := .lst [])
    refine ⟨_, rfl, a, _, _, rfl, hP1.same zF, by omega, by decide, dB _ (by decide) (by decide), fun w0 H2 w00 w01 hP2 f2 => ⟨_, _, _, rfl, ?_⟩⟩
    have eF2 := f2.l _ _ eF
    have eL2 := f2.l _ _ (zF _ _ eL)
    have f02 : Fr H1 H2 := (Fr.same zF).trans f2
    obtain ⟨mn, rfl⟩ := Int.eq_ofNat_of_zero_le (show 0 ≤ m by omega)
    refine ⟨_, rfl, _, rfl, by omega, by omega, ?_⟩
    refine for_range (lo := 0) (n := mn) (fun i σ H' => ∃ (y6 y7 : Option V) (now : Int) (vs' : List V) (es : List En), σ = [some (.ref a.d), some (.ref r), some (.int mn), some (.ref L), some (.ref F), some (.int now), y6, y7] ∧ H' F = some (.lst vs') ∧ H' L = some (.lst (strL zs)) ∧ EnL H' vs' es ∧ es.length = i ∧ 0 ≤ now ∧ now ≤ 3 + i * 2147483648 ∧ (∀ e ∈ es, e.m < now) ∧ (es.map (·.m)).Pairwise (· < ·) ∧ (∀ e ∈ es, 0 ≤ e.m ∧ e.m ≤ 2 ^ 44 ∧ WitW e.w ∧ WtB e.x) ∧ Pen H' a (n + 21 + 16 * i) ∧ Fr H1 H') ⟨_, _, w0, [], [], rfl, eF2, eL2, .nil, rfl, w00, by omega, fun z hz => (nomatch hz), .nil, fun z hz => (nomatch hz), hP2.mono (by omega), f02⟩ ?_ ?_
    · rintro i σ H4 hi ⟨y6, y7, now, vs', es, rfl, eF4, eL4, hE, le, n0, n1, hlt, pw, hb, hP4, f4⟩
      refine ⟨_, rfl, _, rfl, a, _, r, p, q, c, rfl, hP4, by omega, (f1.trans f4).t _ _ er, R, fun y d H5 ey bt bn hP5 f5 => ⟨len10 (by simp), fun O nO => ?_⟩⟩
      have zO := sm_upd (o := .lst [.ref y, .bl false, .bl true]) nO
      refine ⟨len10 (by simp), fun O2 nO2 => ?_⟩
      have zO2 := sm_upd (o := .lst [.int 0, .int 0, .int 0, .int 0, .int 1, .int 2]) nO2
      have eO2 := upd_same (H := upd H5 O (.lst [.ref y, .bl false, .bl true])) (a := O2) (o := .lst [.int 0, .int 0, .int 0, .int 0, .int 1, .int 2])
      refine ⟨_, rfl, a, _, _, rfl, (hP5.same zO).same zO2, by omega, by decide, dB _ (by decide) (by decide), fun d1 H6 d10 d11 hP6 f6 => ?_⟩
      obtain ⟨x, hx, mx⟩ := at_in (xs := [.int 0, .int 0, .int 0, .int 0, .int 1, .int 2]) d10 (by show d1 < 6; omega)
      refine ⟨O2, _, _, _, rfl, rfl, SqL.of (f6.l _ _ eO2), hx, ?_⟩
      obtain ⟨u, rfl, u0, u1⟩ : ∃ u : Int, x = .int u ∧ 0 ≤ u ∧ u < 3 := by
        simp only [List.mem_cons, List.not_mem_nil, or_false] at mx
        rcases mx with rfl | rfl | rfl | rfl | rfl | rfl <;> exact ⟨_, rfl, by decide, by decide⟩
      clear mx hx
      obtain ⟨x, hx, mx⟩ := at_in (xs := [.ref y, .bl false, .bl true]) u0 (by show u < 3; omega)
      have eO6 := f6.l _ _ (zO2 _ _ (upd_same (H := H5) (a := O) (o := .lst [.ref y, .bl false, .bl true])))
      refine ⟨O, _, _, _, rfl, rfl, SqL.of eO6, hx, ?_⟩
      have f46 : Fr H4 H6 := f5.trans ((Fr.same (zO.trans zO2)).trans f6)
      have ey6 : H6 y = some (rcO d) := f6.t _ _ (zO2 _ _ (zO _ _ ey))
      obtain ⟨wt, hwt, hwb⟩ : ∃ wt : Wt, WtAt H6 wt x ∧ WtB wt := by
        simp only [List.mem_cons, List.not_mem_nil, or_false] at mx
        rcases mx with rfl | rfl | rfl
        · exact ⟨.rd d, ⟨y, rfl, ey6⟩, bt, bn⟩
        · exact ⟨.tr false, rfl, trivial⟩
        · exact ⟨.tr true, rfl, trivial⟩
      clear mx hx
      have eF6 := f46.l _ _ eF4
      have eL6 := f46.l _ _ eL4
      refine ⟨_, rfl, .inl ⟨rfl, _, SqL.of eF6⟩, _, rfl, _, rfl, _, rfl, a, _, _, rfl, hP6, by omega, by decide, dB _ (by decide) (by decide), fun d2 H7 d20 d21 hP7 f7 => ?_⟩
      obtain ⟨x2, hx2, mx2⟩ := at_in (xs := strL zs) d20 (by show d2 < ((zs.map V.str).length : Int); rw [List.length_map, lz]; exact d21)
      obtain ⟨wd, hwd, rfl⟩ := List.mem_map.mp mx2
      have eF7 := f7.l _ _ eF6
      have eL7 := f7.l _ _ eL6
      refine ⟨L, _, _, _, rfl, rfl, SqL.of eL7, hx2, _, rfl, len10 (by simp), fun t nt => ?_⟩
      have zt := sm_upd (o := .tup [.int now, .str wd, x]) nt
      have lv := hE.len
      have FL : F ≠ L := fun z => by
        rw [z] at nF
        rw [nF] at eL
        cases eL
      refine ⟨F, vs', _, rfl, rfl, zt _ _ eF7, small1000 (by omega), ?_⟩
      have f48 : Fr H4 (upd H7 t (.tup [.int now, .str wd, x])) := f46.trans (f7.trans (Fr.same zt))
      have eF8 := zt _ _ eF7
      have eL8 := zt _ _ eL7
      have et8 := upd_same (H := H7) (a := t) (o := .tup [.int now, .str wd, x])
      have hw8 : WtAt (upd H7 t (.tup [.int now, .str wd, x])) wt x := hwt.kp (fun b xs e => zt _ _ (f7.t _ _ e))
      have hE8 : EnL (upd H7 t (.tup [.int now, .str wd, x])) vs' es := hE.kp (fun b xs e => f48.t _ _ e)
      have hP8 : Pen (upd H7 t (.tup [.int now, .str wd, x])) a (n + 21 + 16 * i + 10) := (hP7.same zt).mono (by omega)
      generalize upd H7 t (.tup [.int now, .str wd, x]) = H8 at f48 eF8 eL8 et8 hw8 hE8 hP8 ⊢
      have tk : TupKp H8 (upd H8 F (.lst (vs' ++ [.ref t]))) := fun b xs eb => by
        rw [upd_ne (fun z => by rw [z, eF8] at eb; cases eb)]
        exact eb
      have hE9 := (hE8.kp tk).snoc (e := ⟨now, wd, wt⟩) ⟨x, tk _ _ et8, hw8.kp tk⟩
      have eF9 := upd_same (H := H8) (a := F) (o := .lst (vs' ++ [.ref t]))
      have eL9 : upd H8 F (.lst (vs' ++ [.ref t])) L = some (.lst (strL zs)) := by
        rw [upd_ne FL.symm]
        exact eL8
      have hP9 : Pen (upd H8 F (.lst (vs' ++ [.ref t]))) a (n + 21 + 16 * i + 10) := hP1.over nF hP8
      have f9 : Fr H1 (upd H8 F (.lst (vs' ++ [.ref t]))) := (f4.trans f48).over nF
      generalize upd H8 F (.lst (vs' ++ [.ref t])) = H9 at hE9 eF9 eL9 hP9 f9 ⊢
      refine ⟨_, rfl, _, _, rfl, rfl, _, rfl, a, _, _, rfl, hP9, by omega, by decide, dB _ (by decide) (by decide), fun u1 H10 u10 u11 hP10 f10 => ?_⟩
      refine ⟨_, rfl, _, _, rfl, rfl, ⟨by decide, by decide, by decide⟩, a, _, _, rfl, hP10, by omega, by decide, dB _ (by decide) (by decide), fun u2 H11 u20 u21 hP11 f11 => ⟨len10 (by simp), fun O3 nO3 => ?_⟩⟩
      have z3 := sm_upd (o := .lst [.int 0, .int u1, .int u2]) nO3
      have eO3 := upd_same (H := H11) (a := O3) (o := .lst [.int 0, .int u1, .int u2])
      refine ⟨_, rfl, a, _, _, rfl, hP11.same z3, by omega, by decide, dB _ (by decide) (by decide), fun d3 H12 d30 d31 hP12 f12 => ?_⟩
      obtain ⟨x3, hx3, mx3⟩ := at_in (xs := [.int 0, .int u1, .int u2]) d30 (by show d3 < 3; omega)
      refine ⟨O3, _, _, _, rfl, rfl, SqL.of (f12.l _ _ eO3), hx3, ?_⟩
      have fz : Fr H9 H12 := f10.trans (f11.trans ((Fr.same z3).trans f12))
      have h9 : (10 : Int) ^ (9 : Int).toNat = 1000000000 := by decide
      rw [h9] at u21
      obtain ⟨g, rfl, g0, g1⟩ : ∃ g : Int, x3 = .int g ∧ 0 ≤ g ∧ g < 1000000000 := by
        simp only [List.mem_cons, List.not_mem_nil, or_false] at mx3
        rcases mx3 with rfl | rfl | rfl
        · exact ⟨_, rfl, by decide, by decide⟩
        · exact ⟨_, rfl, u10, by omega⟩
        · exact ⟨_, rfl, u20, u21⟩
      refine ⟨_, _, rfl, rfl, _, _, now + 1 + g, _, es ++ [⟨now, wd, wt⟩], rfl, fz.l _ _ eF9, fz.l _ _ eL9, hE9.kp (fun b xs e => fz.t _ _ e), by rw [List.length_append, le]; rfl, by omega, by omega, ?_, ?_, ?_, hP12.mono (by omega), f9.trans fz⟩
      · intro e he
        rcases List.mem_append.mp he with h | h
        · have := hlt e h
          omega
        · rw [List.mem_singleton.mp h]
          show now < now + 1 + g
          omega
      · rw [List.map_append, List.pairwise_append]
        refine ⟨pw, List.pairwise_singleton _ _, fun x hx y hy => ?_⟩
        obtain ⟨e, he, rfl⟩ := List.mem_map.mp hx
        rw [show y = now from List.mem_singleton.mp hy]
        exact hlt e he
      · intro e he
        rcases List.mem_append.mp he with h | h
        · exact hb e h
        · rw [List.mem_singleton.mp h]
          exact ⟨n0, by show now ≤ _; omega, hz wd hwd, hwb⟩
    rintro σ H4 ⟨y6, y7, now, vs', es, rfl, eF4, eL4, hE, le, n0, n1, hlt, pw, hb, hP4, f4⟩
    exact ⟨_, rfl, kk F H4 vs' es eF4 hE (by omega) pw hb (hP4.mono (by omega)) (f1.trans f4)⟩
end
end Lf
namespace Lf
open PySem PySem.Spec PyProof.Rows L2
/-- a class made without arguments, by its promise -/
theorem pe_mk0 {X : Cx} {k j : Nat} {C : Addr} {x : Str} {sp : Sp} {dvs : List V} {p pos : Pos} (c : C8.Mak X.prog X.w X.K X.mg X.base k x C sp dvs) (hr : Room j X.A) (hk : k + 1 ≤ j) (hg : Gl X x)
    (hdb : (x == ("__debug__" : Str)) = false := by decide) : PE X (.Call (.Name x p) [] [] pos) (tMake C sp dvs C8.E0 tNil) := by
  obtain ⟨f, fd, ps, ds, M, F, hm, b, d⟩ := c.ex
  exact pe_make0 M F (hr.mono hk) hg hm b d C8.pass0 hdb
end Lf
namespace Lf
open PySem PySem.Spec PyProof.Rows L2
theorem EnL.perm {H : Hp} {ys vs : List V} (p : ys.Perm vs) : ∀ {es : List En}, EnL H vs es → ∃ fs : List En, fs.Perm es ∧ EnL H ys fs := by
  induction p with
  | nil => exact fun h => ⟨_, .refl _, h⟩
  | cons x p ih =>
    intro es h
    cases h with
    | cons h1 h2 =>
      obtain ⟨fs, q, e⟩ := ih h2
      exact ⟨_ :: fs, q.cons _, .cons h1 e⟩
  | swap x y l =>
    intro es h
    cases h with
    | cons h1 h2 =>
      cases h2 with
      | cons h3 h4 => exact ⟨_, List.Perm.swap _ _ _, .cons h3 (.cons h1 h4)⟩
  | trans p1 p2 ih1 ih2 =>
    intro es h
    obtain ⟨fs, q, e⟩ := ih2 h
    obtain ⟨gs, q2, e2⟩ := ih1 e
    exact ⟨gs, q2.trans q, e2⟩
section
variable {P : Program} {w : World} {K : PySem.W.Frag} {mg : Str → Option Value} {base : Heap} {C : Addr}
/-! ### _law_mixed -/
def spMix : Sp := fun vs H Q _ => ∃ (a : PA) (n : Nat) (L : Addr) (xs : List V), vs = [.ref a, .ref L] ∧ Pen H a n ∧ n < 2 ^ 36 ∧ H L = some (.lst xs) ∧ xs.length ≤ 500 ∧
  ∀ R H' ys, H R = none → H' R = some (.lst ys) → ys.Perm xs → Pen H' a (n + xs.length) → Fr H H' → Q (.ref R) H'
abbrev s_l_mixed : Stmt := topS 71
abbrev N_l_mixed : List Str := ["_law_state", "_law_items", "_law_left", "_law_found", "_law_k"]
abbrev P_l_mixed : List Str := ["_law_state", "_law_items"]
theorem sc_l_mixed : FnScope N_l_mixed P_l_mixed (defScope s_l_mixed) := ⟨rfl, rfl, rfl, by decide +kernel, rfl, by decide +kernel, by decide +kernel⟩
theorem ok_l_mixed (D : Df K mg "_law_mixed" s_l_mixed P_l_mixed) (B : Bi mg) (c_l_draw : C8.Cal P w K mg base 1 "_law_draw" spDraw []) : C8.Cal P w K mg base 2 "_law_mixed" spMix [] := by
  refine cal_of D sc_l_mixed (fun vs H Q E h => ?_) (fun f cdv A outer s H vs Q E hr h => ?_)
  · obtain ⟨a, n, L, xs, rfl, _⟩ := h
    rfl
  · obtain ⟨a, n, L, xs, rfl, hP, hn, eL, hl, q⟩ := h
    refine ⟨_, (pss_cons (ps_par (i := 2) (j := 3) rfl sc_l_mixed.nd rfl rfl (by decide) rfl rfl (pa_cons (pe_callTy (call_list_of) (by rfl) B.list_ bt_list (pa_cons (pv 1) pa_nil)) (pa_cons (pe_lst pa_nil) pa_nil)) rfl)
    (pss_cons (ps_for PassesOwn.never rfl (pi_range1 rfl B.range_ (pa_cons (pe_callB (call_len_seq) (by rfl) B.len_ bt_len (pa_cons (pv 1) pa_nil)) pa_nil)) (pg_name (i := 4) sc_l_mixed.nd rfl (Or.inl rfl))
      (pss_one (ps_expr (pe_bm PySem.F.plainAttrs_list PySem.F.slot_list_append PySem.F.type_list_append mt_append (pv 3) (pa_cons (pe_bm PySem.F.plainAttrs_list PySem.F.slot_list_pop PySem.F.type_list_pop mt_popAt (pv 2) (pa_cons (C8.pe_c c_l_draw hr (by decide) (by rfl) (pa_cons (pv 0) (pa_cons (pe_callB (call_len_seq) (by rfl) B.len_ bt_len (pa_cons (pv 2) pa_nil)) pa_nil))) pa_nil)) pa_nil)))))
    (pss_one (ps_ret (pv 3))))), ?_⟩
    refine ⟨_, rfl, L, xs, rfl, .inl (SqL.of eL), fun l nl => ⟨Nat.zero_le _, fun F nF => ?_⟩⟩
    have lF : F ≠ l := fun z => by
      rw [z, upd_same] at nF
      cases nF
    refine ⟨_, _, rfl, ?_⟩
    have nF0 : H F = none := by rw [← nF, upd_ne lF]
    have z1 := sm_upd (o := .lst xs) nl
    have z2 := sm_upd (o := .lst []) nF
    refine ⟨_, rfl, L, xs, rfl, .inl (SqL.of (z2 _ _ (z1 _ _ eL))), _, rfl, by omega, by omega, ?_⟩
    refine for_range (lo := 0) (n := xs.length) (fun i σ H' => ∃ (y4 : Option V) (us vs : List V), σ = [some (.ref a), some (.ref L), some (.ref l), some (.ref F), y4] ∧ H' l = some (.lst us) ∧ H' F = some (.lst vs) ∧ (vs ++ us).Perm xs ∧ vs.length = i ∧ Pen H' a (n + i) ∧ Fr H H') ⟨_, xs, [], rfl, z2 _ _ upd_same, upd_same, List.Perm.refl _, rfl, (hP.same z1).same z2, Fr.same (z1.trans z2)⟩ ?_ ?_
    · rintro i σ H4 hi ⟨y4, us, vs, rfl, el4, eF4, pm, lv, hP4, f4⟩
      have hlen := pm.length_eq
      rw [List.length_append] at hlen
      have u0 : 0 < us.length := by omega
      refine ⟨_, rfl, .inl ⟨rfl, _, SqL.of eF4⟩, _, rfl, .inl ⟨rfl, _, SqL.of el4⟩, _, rfl, _, rfl, l, _, rfl, .inl (SqL.of el4), a, _, _, rfl, hP4, by omega, by omega, Bd.small 20 (by omega) (by decide), fun d H5 d0 d1 hP5 f5 => ?_⟩
      have hk : d.toNat < us.length := by omega
      have hy : us[d.toNat]? = some (us[d.toNat]) := List.getElem?_eq_getElem hk
      generalize us[d.toNat] = y at hy
      have el5 := f5.l _ _ el4
      have eF5 := f5.l _ _ eF4
      have ep := erase_perm hy
      refine ⟨l, us, d, d.toNat, y, rfl, rfl, el5, by omega, by omega, seqIndex_at d0 d1, hy, ?_⟩
      refine ⟨F, vs, _, rfl, rfl, ?_, small1000 (by omega), _, us.eraseIdx d.toNat, vs ++ [y], rfl, ?_, upd_same, ?_, by rw [List.length_append, lv]; rfl, ?_, ?_⟩
      · rw [upd_ne lF]
        exact eF5
      · rw [upd_ne lF.symm]
        exact upd_same
      · rw [List.append_assoc]
        exact (List.Perm.append_left vs ep).trans pm
      · exact (hP.over nF0 (hP.over nl hP5)).mono (Nat.le_refl _)
      · exact ((f4.trans f5).over nl).over nF0
    rintro σ H4 ⟨y4, us, vs, rfl, el4, eF4, pm, lv, hP4, f4⟩
    have hlen := pm.length_eq
    rw [List.length_append] at hlen
    have u0 : us = [] := List.length_eq_zero_iff.mp (by omega)
    subst u0
    rw [List.append_nil] at pm
    exact ⟨_, rfl, q F H4 vs nF0 eF4 pm hP4 f4⟩
/-! ### _law_add -/
def spAdd (C : Addr) : Sp := fun vs H Q E => ∃ (o r D : Addr) (es : List En) (e : En), vs = [.ref o, .ref r] ∧ EnAt H r e ∧ LogAt C H o D es ∧ 0 ≤ e.m ∧ WitW e.w ∧ e.m ∉ es.map (·.m) ∧ es.length ≤ 500 ∧ ∀ H', KpD D H H' → LogAt C H' o D (es ++ [e]) → Q .non H'
abbrev s_l_add : Stmt := topS 72
abbrev N_l_add : List Str := ["_law_log_here", "_law_entry", "_law_moment", "_law_word", "_law_what"]
abbrev P_l_add : List Str := ["_law_log_here", "_law_entry"]
theorem sc_l_add : FnScope N_l_add P_l_add (defScope s_l_add) := ⟨rfl, rfl, rfl, by decide +kernel, rfl, by decide +kernel, by decide +kernel⟩
theorem kbt : kitB "bool" "tuple" = some false := by decide +kernel
theorem ok_l_add (D : Df K mg "_law_add" s_l_add P_l_add) (B : Bi mg) (c_Log_report : C8.Met P w K mg base 4 C "report" (spRep C) []) (c_Log_trust : C8.Met P w K mg base 4 C "trust" (spTr C true) []) (c_Log_distrust : C8.Met P w K mg base 4 C "distrust" (spTr C false) []) : C8.Cal P w K mg base 5 "_law_add" (spAdd C) [] := by
  refine cal_of D sc_l_add (fun vs H Q E h => ?_) (fun f cdv A outer s H vs Q E hr h => ?_)
  · obtain ⟨o, r, D, es, e, rfl, _⟩ := h
    rfl
  · obtain ⟨o, r, D, es, e, rfl, he, hL, m0, hw, hn, hl, kk⟩ := h
    refine ⟨_, (pss_cons (ps_asg (pv 1) (pg_tup rfl (pgs_cons (pg_name (i := 2) sc_l_add.nd rfl (Or.inl rfl)) (pgs_cons (pg_name (i := 3) sc_l_add.nd rfl (Or.inl rfl)) (pgs_cons (pg_name (i := 4) sc_l_add.nd rfl (Or.inl rfl)) pgs_nil)))))
    (pss_one (ps_if (pt_val (pe_callB ((show CallR _ _ (rIsi K) from call_isi)) (by rfl) B.isinstance_ bt_isinstance (pa_cons (pv 4) (pa_cons (pe_bltn (v := .ty "tuple") (by rfl) B.tuple_ bt_tuple rfl) pa_nil))))
      (pss_one (ps_expr (C8.pe_mt c_Log_report hr (by decide) (pv 0) (pa_cons (pv 2) (pa_cons (pv 3) (pa_cons (pv 4) pa_nil))))))
      (pss_one (ps_if (pt_truth (pv 4) (fun _ => rfl))
      (pss_one (ps_expr (C8.pe_mt c_Log_trust hr (by decide) (pv 0) (pa_cons (pv 2) (pa_cons (pv 3) pa_nil)))))
      (pss_one (ps_expr (C8.pe_mt c_Log_distrust hr (by decide) (pv 0) (pa_cons (pv 2) (pa_cons (pv 3) pa_nil)))))))))), ?_⟩
    obtain ⟨dx, eo⟩ := hL.o
    obtain ⟨m, z, x⟩ := e
    obtain ⟨v, er, hv⟩ := he
    refine ⟨_, rfl, r, _, rfl, SqT.of er, rfl, _, _, rfl, _, _, rfl, _, _, rfl, rfl, ?_⟩
    cases x with
    | rd d =>
      obtain ⟨y, rfl, hy⟩ : ∃ y, v = .ref y ∧ H y = some (rcO d) := hv
      refine ⟨_, rfl, _, _, _, _, true, rfl, .ty "tuple", .base (.tup hy), kit_ty ktt, true, rfl, iteT ?_⟩
      exact ⟨_, rfl, o, dx, _, rfl, eo, rfl, _, rfl, _, rfl, _, rfl, m, z, d, o, y, rfl, hy, D, es, hL, m0, hw, hn, hl, kk⟩
    | tr b =>
      obtain rfl : v = .bl b := hv
      refine ⟨_, rfl, _, _, _, _, false, rfl, .ty "tuple", .base (.bl b), kit_ty kbt, false, rfl, iteF ?_⟩
      cases b with
      | true => exact ⟨_, rfl, true, rfl, iteT ⟨_, rfl, o, dx, _, rfl, eo, rfl, _, rfl, _, rfl, m, z, o, rfl, D, es, hL, m0, hw, hn, hl, kk⟩⟩
      | false => exact ⟨_, rfl, false, rfl, iteF ⟨_, rfl, o, dx, _, rfl, eo, rfl, _, rfl, _, rfl, m, z, o, rfl, D, es, hL, m0, hw, hn, hl, kk⟩⟩
/-! ### _law_log -/
def spLog (C : Addr) : Sp := fun vs H Q _ => ∃ (F : Addr) (xs : List V) (es : List En), vs = [.ref F] ∧ H F = some (.lst xs) ∧ EnL H xs es ∧ (es.map (·.m)).Nodup ∧ (∀ e ∈ es, 0 ≤ e.m ∧ WitW e.w) ∧ es.length ≤ 500 ∧ ∀ o D H', Same H H' → H D = none → LogAt C H' o D es → Q (.ref o) H'
abbrev s_l_log : Stmt := topS 73
abbrev N_l_log : List Str := ["_law_entries_here", "_law_found", "_law_entry"]
abbrev P_l_log : List Str := ["_law_entries_here"]
theorem sc_l_log : FnScope N_l_log P_l_log (defScope s_l_log) := ⟨rfl, rfl, rfl, by decide +kernel, rfl, by decide +kernel, by decide +kernel⟩
theorem ok_l_log (TK : LgT K mg C) (D : Df K mg "_law_log" s_l_log P_l_log) (c_Log : C8.Mak P w K mg base 1 "Log" C (spInitL C) []) (c_l_add : C8.Cal P w K mg base 5 "_law_add" (spAdd C) []) : C8.Cal P w K mg base 6 "_law_log" (spLog C) [] := by
  refine cal_of D sc_l_log (fun vs H Q E h => ?_) (fun f cdv A outer s H vs Q E hr h => ?_)
  · obtain ⟨F, xs, es, rfl, _⟩ := h
    rfl
  · obtain ⟨F, xs, es, rfl, eF, hE, nd, hb, hl, kk⟩ := h
    refine ⟨_, (pss_cons (ps_set (i := 1) sc_l_log.nd rfl (Or.inl rfl) (pe_mk0 c_Log hr (by decide) (by rfl)))
    (pss_cons (ps_for PassesOwn.never rfl (pi_list (pv 0)) (pg_name (i := 2) sc_l_log.nd rfl (Or.inl rfl))
      (pss_one (ps_expr (C8.pe_c c_l_add hr (by decide) (by rfl) (pa_cons (pv 1) (pa_cons (pv 2) pa_nil))))))
    (pss_one (ps_ret (pv 1))))), ?_⟩
    intro o dx no nd' od
    have z1 := sm_upd (o := .own o) nd'
    have no1 : upd H dx (.own o) o = none := by rw [upd_ne od.symm]; exact no
    have z2 := sm_upd (o := .ins C dx []) no1
    refine ⟨H, o, dx, rfl, z1.trans z2, no, upd_same, fun H1 D s1 nD hL => ⟨rfl, ?_⟩⟩
    have FD : F ≠ D := ne_of_none eF nD
    have eF1 := s1 _ _ eF
    have hE1 := hE.kp (.same s1)
    have lx := hE.len
    obtain ⟨kvs, eD, _⟩ := hL.d
    have take1 : ∀ {i : Nat} {e : En}, es[i]? = some e → es.take (i + 1) = es.take i ++ [e] := fun he => by
      rw [List.take_add_one, he]
      rfl
    refine ⟨_, rfl, F, rfl, ⟨_, SqL.of eF1⟩, ?_⟩
    refine for_list (K := K) (a := F) (xs := xs) (fun i σ H' => ∃ y2 : Option V, σ = [some (.ref F), some (.ref o), y2] ∧ KpD D H1 H' ∧ LogAt C H' o D (es.take i)) ⟨_, rfl, fun b x e _ => e, by simpa using hL⟩ ?_ ?_ ?_
    · rintro i σ H2 _ ⟨y2, rfl, k2, _⟩
      exact SqL.of (k2 _ _ eF1 FD)
    · rintro i x σ H2 hx ⟨y2, rfl, k2, hL2⟩
      obtain ⟨r, e, rfl, he, hi⟩ := (hE1.kp (k2.tup eD)).at hx
      have me := List.mem_of_getElem? hi
      have ll : (es.take i).length ≤ i := by rw [List.length_take]; omega
      have lt := (List.getElem?_eq_some_iff.mp hi).1
      have nd1 : ((es.take (i + 1)).map (·.m)).Nodup := by
        rw [List.map_take]
        exact (List.take_sublist _ _).nodup nd
      rw [take1 hi, List.map_append, List.nodup_append] at nd1
      refine ⟨_, rfl, _, rfl, o, r, D, es.take i, e, rfl, he, hL2, (hb e me).1, (hb e me).2, fun z => nd1.2.2 _ z _ (List.mem_singleton.mpr rfl) rfl, by omega, fun H3 k3 hL3 => ?_⟩
      exact ⟨_, rfl, k2.trans k3, by rw [take1 hi]; exact hL3⟩
    · rintro σ H2 ⟨y2, rfl, k2, hL2⟩
      rw [lx, List.take_length] at hL2
      refine ⟨_, rfl, kk o D H2 (fun b x e => ?_) nD hL2⟩
      exact k2 _ _ (s1 _ _ e) (ne_of_none e nD)
end
end Lf
namespace Lf
open PySem PySem.Spec PyProof.Rows L2
/-! ### one record more: pairs_with -/
theorem sel_in {b : Bool} {k : Nat} {ds : List Rec} {d : Rec} {x : T3} : x ∈ sel b k (ds ++ [d]) ↔ x ∈ sel b k ds ∨ (d.lo = b ∧ x = (((k + ds.length : Nat) : Int), d.t, d.n)) := by
  rw [sel_snoc, List.mem_append]
  by_cases c : d.lo = b
  · rw [if_pos c, List.mem_singleton]
    exact ⟨fun h => h.imp id fun h => ⟨c, h⟩, fun h => h.imp id fun h => h.2⟩
  · rw [if_neg c]
    exact ⟨fun h => h.imp id fun h => (nomatch h), fun h => h.imp id fun h => absurd h.1 c⟩
theorem sel_one {b : Bool} {d : Rec} {x : T3} : x ∈ sel b 0 [d] ↔ (d.lo = b ∧ x = (0, d.t, d.n)) := by
  have h := sel_in (b := b) (k := 0) (ds := []) (d := d) (x := x)
  rw [List.nil_append] at h
  rw [h]
  exact ⟨fun h => h.elim (fun h => (nomatch h)) id, .inr⟩
theorem cov_with {S : T3 → T3 → Prop} {ds : List Rec} {d : Rec} (c1 : Cov S (SD ds)) (c2 : Cov (SD ds) S) :
    Cov (fun x y => (S x y ∨ (x ∈ sel true 0 [d] ∧ y ∈ sel false 0 ds)) ∨ (x ∈ sel true 0 ds ∧ y ∈ sel false 0 [d])) (SD (ds ++ [d])) ∧
    Cov (SD (ds ++ [d])) (fun x y => (S x y ∨ (x ∈ sel true 0 [d] ∧ y ∈ sel false 0 ds)) ∨ (x ∈ sel true 0 ds ∧ y ∈ sel false 0 [d])) := by
  constructor
  · rintro x y ((h | ⟨hx, hy⟩) | ⟨hx, hy⟩)
    · obtain ⟨x', y', ⟨h1, h2⟩, e1, e2⟩ := c1 x y h
      exact ⟨x', y', ⟨sel_in.mpr (.inl h1), sel_in.mpr (.inl h2)⟩, e1, e2⟩
    · obtain ⟨c, rfl⟩ := sel_one.mp hx
      exact ⟨_, y, ⟨sel_in.mpr (.inr ⟨c, rfl⟩), sel_in.mpr (.inl hy)⟩, rfl, rfl⟩
    · obtain ⟨c, rfl⟩ := sel_one.mp hy
      exact ⟨x, _, ⟨sel_in.mpr (.inl hx), sel_in.mpr (.inr ⟨c, rfl⟩)⟩, rfl, rfl⟩
  · rintro x y ⟨hx, hy⟩
    rcases sel_in.mp hx with hx | ⟨c, rfl⟩
    · rcases sel_in.mp hy with hy | ⟨c', rfl⟩
      · obtain ⟨x', y', h, e1, e2⟩ := c2 x y ⟨hx, hy⟩
        exact ⟨x', y', .inl (.inl h), e1, e2⟩
      · exact ⟨x, (0, d.t, d.n), .inr ⟨hx, sel_one.mpr ⟨c', rfl⟩⟩, rfl, rfl⟩
    · rcases sel_in.mp hy with hy | ⟨c', rfl⟩
      · exact ⟨(0, d.t, d.n), y, .inl (.inr ⟨sel_one.mpr ⟨c, rfl⟩, hy⟩), rfl, rfl⟩
      · rw [c] at c'
        cases c'
/-- whether no rate is left -/
noncomputable def nrD (ds : List Rec) : Bool := @ite Bool (∃ S lo up, Cov S (SD ds) ∧ Cov (SD ds) S ∧ LoOk S lo ∧ UpOk S up ∧ nr lo up = true) (Classical.propDecidable _) true false
theorem cov_rf (S : T3 → T3 → Prop) : Cov S S := fun x y h => ⟨x, y, h, rfl, rfl⟩
theorem cov_tr {S S' S'' : T3 → T3 → Prop} (h : Cov S S') (g : Cov S' S'') : Cov S S'' := fun x y a => by
  obtain ⟨x', y', a', e1, e2⟩ := h x y a
  obtain ⟨x'', y'', a'', e3, e4⟩ := g x' y' a'
  exact ⟨x'', y'', a'', by rw [e3, e1], by rw [e4, e2]⟩
theorem nr_D {S : T3 → T3 → Prop} {ds : List Rec} {lo up : Option T4} (hl : LoOk S lo) (hu : UpOk S up) (c1 : Cov S (SD ds)) (c2 : Cov (SD ds) S) : nr lo up = nrD ds := by
  unfold nrD
  cases e : nr lo up with
  | true => exact (if_pos ⟨S, lo, up, c1, c2, hl, hu, e⟩).symm
  | false =>
    refine (if_neg ?_).symm
    rintro ⟨S', a, b, d1, d2, ha, hb, h⟩
    have key : nr a b = nr lo up := nr_same (lo_same ha hl (cov_tr d1 c2) (cov_tr c1 d2)) (up_same hb hu (cov_tr d1 c2) (cov_tr c1 d2))
    rw [key, e] at h
    cases h
theorem PrV.kp {H H' : Hp} {v : V} {o : Option T4} (h : PrV H v o) (s : TupKp H H') : PrV H' v o := by
  cases o with
  | none => exact h
  | some z =>
    obtain ⟨r, e, h⟩ := h
    exact ⟨r, e, s _ _ h⟩
section
variable {P : Program} {w : World} {K : PySem.W.Frag} {mg : Str → Option Value} {base : Heap} {C : Addr}
def spPWith : Sp := fun vs H Q _ => ∃ (T L r : Addr) (vl vu : V) (lo up : Option T4) (xs : List V) (ds : List Rec) (d : Rec) (S : T3 → T3 → Prop) (k : Nat), vs = [.ref T, .ref L, .ref r] ∧ H T = some (.tup [vl, vu]) ∧ PrV H vl lo ∧ PrV H vu up ∧ PB k lo ∧ PB k up ∧ LoOk S lo ∧ UpOk S up ∧ Cov S (SD ds) ∧ Cov (SD ds) S ∧
  H L = some (.lst xs) ∧ Obs rcO H xs ds ∧ ds.length ≤ 900 ∧ RcB k ds ∧ H r = some (rcO d) ∧ RcB k [d] ∧ 0 < k ∧ k ≤ 8000 ∧
  ∀ R H' wl wu lo' up' S', Same H H' → H' R = some (.tup [wl, wu]) → PrV H' wl lo' → PrV H' wu up' → PB k lo' → PB k up' → LoOk S' lo' → UpOk S' up' → Cov S' (SD (ds ++ [d])) → Cov (SD (ds ++ [d])) S' → Q (.ref R) H'
end
end Lf
namespace Lf
open PySem PySem.Spec PyProof.Rows L2
/-! ### the rates of a log, and its changes -/
def rcs (es : List En) (t : Option Int) : List Rec := (repsOf (es.filter (upB t)) (es.filter (upB t))).map (·.2)
theorem repsOf_mem {es : List En} : ∀ {ts : List En} {p : Str × Rec}, p ∈ repsOf es ts → ∃ e ∈ ts, e.x = .rd p.2
  | [], _, h => nomatch h
  | e :: r, p, h => by
    have ih : p ∈ repsOf es r → ∃ e' ∈ e :: r, e'.x = .rd p.2 := fun h => by
      obtain ⟨e', h1, h2⟩ := repsOf_mem h
      exact ⟨e', List.mem_cons_of_mem _ h1, h2⟩
    cases hx : e.x with
    | tr b =>
      have e1 : repsOf es (e :: r) = repsOf es r := by
        show (match e.x with
          | .rd d => if truOf es e.w = true then (e.w, d) :: repsOf es r else repsOf es r
          | .tr _ => repsOf es r) = _
        rw [hx]
      rw [e1] at h
      exact ih h
    | rd d =>
      have e1 : repsOf es (e :: r) = if truOf es e.w = true then (e.w, d) :: repsOf es r else repsOf es r := by
        show (match e.x with
          | .rd d => if truOf es e.w = true then (e.w, d) :: repsOf es r else repsOf es r
          | .tr _ => repsOf es r) = _
        rw [hx]
      rw [e1] at h
      by_cases c : truOf es e.w = true
      · rw [if_pos c] at h
        rcases List.mem_cons.mp h with rfl | h
        · exact ⟨e, List.mem_cons_self, hx⟩
        · exact ih h
      · rw [if_neg c] at h
        exact ih h
theorem rcs_bd {es : List En} (h : ∀ e ∈ es, WtB e.x) (t : Option Int) : RcB 300 (rcs es t) := fun d hd => by
  obtain ⟨p, hp, rfl⟩ := List.mem_map.mp hd
  obtain ⟨e, he, hx⟩ := repsOf_mem hp
  have := h e (List.mem_filter.mp he).1
  rw [hx] at this
  exact this
theorem rcs_len {es : List En} (h : es.length ≤ 500) (t : Option Int) : (rcs es t).length ≤ 500 := by
  unfold rcs
  rw [List.length_map]
  exact Nat.le_trans (repsOf_len _ _) (Nat.le_trans (List.length_filter_le _ _) h)
section
variable {P : Program} {w : World} {K : PySem.W.Frag} {mg : Str → Option Value} {base : Heap} {C : Addr}
def spRatesD (C : Addr) : Sp := fun vs H Q _ => ∃ (o D : Addr) (u : V) (t : Option Int) (es : List En), vs = [.ref o, u] ∧ LogAt C H o D es ∧ UntV u t ∧ es.length ≤ 500 ∧ (∀ e ∈ es, WtB e.x) ∧
  ∀ H' v lo up (fs : List En), Same H H' → fs.Perm es → (fs.map (·.m)).Pairwise (· ≤ ·) → LoOk (SD (rcs fs t)) lo → UpOk (SD (rcs fs t)) up → RV H' 300 v lo up → Q v H'
abbrev s_Log_rates : Stmt := (C8.clsBody (topS 59)).getD 10 (.Pass ⟨0, 0, 0, 0⟩)
abbrev N_Log_rates : List Str := ["self", "until"]
abbrev P_Log_rates : List Str := ["self", "until"]
theorem sc_Log_rates : FnScope N_Log_rates P_Log_rates (defScope s_Log_rates) := ⟨rfl, rfl, rfl, by decide +kernel, rfl, by decide +kernel, by decide +kernel⟩
theorem okO_Log_rates (TK : LgT K mg C) (D : DmO K C "rates" "Log.rates" s_Log_rates P_Log_rates 1 "until") (cO_Log_records : MetO P w K mg base 3 C "records" (spRecs C) 1 "until") (c_rate_ends : C8.Cal P w K mg base 3 "rate_ends" (spRateEndsS 1000) []) : C8.Met P w K mg base 4 C "rates" (spRatesD C) [.non] ∧ MetO P w K mg base 4 C "rates" (spRatesD C) 1 "until" := by
  refine meto_of TK.c.cl D sc_Log_rates (fun vs H Q E h => ?_) (fun f cdv A outer s H vs Q E hr h => ?_)
  · obtain ⟨o, D, u, t, es, rfl, _⟩ := h
    rfl
  · obtain ⟨o, D, u, t, es, rfl, hL, hu', hl, hw, kk⟩ := h
    refine ⟨_, (pss_one (ps_ret (C8.pe_c c_rate_ends hr (by decide) (by rfl) (pa_cons (pe_mkw (pv 0) cO_Log_records hr (by decide) (pk_cons (pv 1) pk_nil)) pa_nil)))), ?_⟩
    obtain ⟨dx, eo⟩ := hL.o
    refine ⟨_, rfl, o, dx, _, rfl, eo, rfl, _, rfl, rfl, o, D, u, t, es, rfl, hL, hu', hl, fun F H1 vs1 fs s1 nF eF pf srt oR => ?_⟩
    have lf : fs.length ≤ 500 := by rw [pf.length_eq]; exact hl
    have bR : RcB 300 (rcs fs t) := rcs_bd (fun e he => hw e (pf.mem_iff.mp he)) t
    have lR := rcs_len lf t
    exact ⟨F, true, vs1, rcs fs t, 300, rfl, eF, oR, by omega, bR, by decide, by decide, fun H2 v lo up s2 hlo hup bl bu rv => kk H2 v lo up fs (s1.trans s2) pf srt hlo hup rv⟩
end
end Lf
namespace Lf
open PySem PySem.Spec PyProof.Rows L2
theorem lay_recs (ds : List Rec) : (PyData.list (ds.map rcD)).canLay0 = true := by
  have h : (PyData.canLay0 (.list (ds.map rcD)) && decide _) = true := sh_recs ds
  exact (Bool.and_eq_true _ _ ▸ h).1
/-- what is sorted is one -/
theorem en_sorted {fs es : List En} (p : fs.Perm es) (h1 : (fs.map (·.m)).Pairwise (· ≤ ·)) (h2 : (es.map (·.m)).Pairwise (· < ·)) : fs = es := by
  rw [List.pairwise_map] at h1 h2
  have key : ∀ {l : List En}, l.Pairwise (fun a b => a.m < b.m) → ∀ a ∈ l, ∀ b ∈ l, a.m = b.m → a = b := by
    intro l
    induction l with
    | nil => exact fun _ a ha => (nomatch ha)
    | cons x l ih =>
      intro hp a ha b hb e
      rw [List.pairwise_cons] at hp
      rcases List.mem_cons.mp ha with ea | ha'
      · rcases List.mem_cons.mp hb with eb | hb'
        · rw [ea, eb]
        · have := hp.1 b hb'
          rw [ea] at e
          omega
      · rcases List.mem_cons.mp hb with eb | hb'
        · have := hp.1 a ha'
          rw [eb] at e
          omega
        · exact ih hp.2 a ha' b hb' e
  exact List.Perm.eq_of_pairwise (le := fun a b : En => a.m ≤ b.m) (fun a b ha hb e1 e2 => key h2 a (p.mem_iff.mp ha) b hb (Int.le_antisymm e1 e2)) h1 (h2.imp fun h => Int.le_of_lt h) p
theorem LogAt.fr {C : Addr} {H H' : Hp} {o D : Addr} {es : List En} (h : LogAt C H o D es) (ne : es ≠ []) (f : Fr H H') : LogAt C H' o D es := by
  obtain ⟨⟨dx, h1⟩, ⟨kvs, h2, h3⟩, h4⟩ := h
  refine ⟨⟨dx, f.k _ _ h1 fun _ z => by cases z⟩, ⟨kvs, f.k _ _ h2 fun x z => ?_, h3.kp fun b xs e => f.t b xs e⟩, h4⟩
  cases h3 with
  | nil => exact ne rfl
  | cons _ _ =>
    unfold penD at z
    injection z with z
    injection z with z _
    injection z with z _
    cases z
end Lf
namespace Lf
open PySem PySem.Spec PyProof.Rows L2
/-! ### the tightest pairs, the first of those that are as tight -/
def stLo (x y : T3) (o : Option T4) : Option T4 := if y.2.1 < x.2.1 then (match o with
  | none => some (x.2.2 - y.2.2 - 1, x.2.1 - y.2.1, x.1, y.1)
  | some z => if z.1 * (x.2.1 - y.2.1) < (x.2.2 - y.2.2 - 1) * z.2.1 then some (x.2.2 - y.2.2 - 1, x.2.1 - y.2.1, x.1, y.1) else some z) else o
noncomputable def stUp (x y : T3) (o : Option T4) : Option T4 := @ite _ (uc x y) (Classical.propDecidable _) (match o with
  | none => some (y.2.2 + 1 - x.2.2, bot x y, x.1, y.1)
  | some z => if (y.2.2 + 1 - x.2.2) * z.2.1 < z.1 * bot x y then some (y.2.2 + 1 - x.2.2, bot x y, x.1, y.1) else some z) o
def tkR (x : T3) (hs : List T3) (o : Option T4) : Option T4 := hs.foldl (fun o y => stLo x y o) o
noncomputable def tkU (x : T3) (hs : List T3) (o : Option T4) : Option T4 := hs.foldl (fun o y => stUp x y o) o
def tlF (ls hs : List T3) (o : Option T4) : Option T4 := ls.foldl (fun o x => tkR x hs o) o
noncomputable def tuF (ls hs : List T3) (o : Option T4) : Option T4 := ls.foldl (fun o x => tkU x hs o) o
section
variable {x y : T3} {ls hs : List T3} {o : Option T4} {i : Nat} {z : T4}
theorem stLo_skip (c : ¬ y.2.1 < x.2.1) : stLo x y o = o := if_neg c
theorem stLo_first (c : y.2.1 < x.2.1) : stLo x y none = some (x.2.2 - y.2.2 - 1, x.2.1 - y.2.1, x.1, y.1) := if_pos c
theorem stLo_upd (c : y.2.1 < x.2.1) (g : (x.2.2 - y.2.2 - 1) * z.2.1 > z.1 * (x.2.1 - y.2.1)) : stLo x y (some z) = some (x.2.2 - y.2.2 - 1, x.2.1 - y.2.1, x.1, y.1) := (if_pos c).trans (if_pos g)
theorem stLo_keep (c : y.2.1 < x.2.1) (g : ¬ (x.2.2 - y.2.2 - 1) * z.2.1 > z.1 * (x.2.1 - y.2.1)) : stLo x y (some z) = some z := (if_pos c).trans (if_neg g)
theorem stUp_skip (c : ¬ uc x y) : stUp x y o = o := if_neg c
theorem stUp_first (c : uc x y) : stUp x y none = some (y.2.2 + 1 - x.2.2, bot x y, x.1, y.1) := if_pos c
theorem stUp_upd (c : uc x y) (g : (y.2.2 + 1 - x.2.2) * z.2.1 < z.1 * bot x y) : stUp x y (some z) = some (y.2.2 + 1 - x.2.2, bot x y, x.1, y.1) := (if_pos c).trans (if_pos g)
theorem stUp_keep (c : uc x y) (g : ¬ (y.2.2 + 1 - x.2.2) * z.2.1 < z.1 * bot x y) : stUp x y (some z) = some z := (if_pos c).trans (if_neg g)
theorem tkR_snoc (h : hs[i]? = some y) : tkR x (hs.take (i + 1)) o = stLo x y (tkR x (hs.take i) o) := by
  unfold tkR
  rw [List.take_add_one, h, List.foldl_append]
  rfl
theorem tkU_snoc (h : hs[i]? = some y) : tkU x (hs.take (i + 1)) o = stUp x y (tkU x (hs.take i) o) := by
  unfold tkU
  rw [List.take_add_one, h, List.foldl_append]
  rfl
theorem tlF_snoc (h : ls[i]? = some x) : tlF (ls.take (i + 1)) hs o = tkR x hs (tlF (ls.take i) hs o) := by
  unfold tlF
  rw [List.take_add_one, h, List.foldl_append]
  rfl
theorem tuF_snoc (h : ls[i]? = some x) : tuF (ls.take (i + 1)) hs o = tkU x hs (tuF (ls.take i) hs o) := by
  unfold tuF
  rw [List.take_add_one, h, List.foldl_append]
  rfl
end
section
variable {S : T3 → T3 → Prop}
theorem stLo_ok {x y : T3} {o : Option T4} (h : LoOk S o) : LoOk (ad S x y) (stLo x y o) := by
  by_cases c : y.2.1 < x.2.1
  · cases o with
    | none =>
      rw [stLo_first c]
      exact h.first c
    | some z =>
      by_cases g : (x.2.2 - y.2.2 - 1) * z.2.1 > z.1 * (x.2.1 - y.2.1)
      · rw [stLo_upd c g]
        exact h.upd c g
      · rw [stLo_keep c g]
        exact h.keep (by omega)
  · rw [stLo_skip c]
    exact h.skip c
theorem stUp_ok {x y : T3} {o : Option T4} (h : UpOk S o) : UpOk (ad S x y) (stUp x y o) := by
  by_cases c : uc x y
  · cases o with
    | none =>
      rw [stUp_first c]
      exact h.first c
    | some z =>
      by_cases g : (y.2.2 + 1 - x.2.2) * z.2.1 < z.1 * bot x y
      · rw [stUp_upd c g]
        exact h.upd c g
      · rw [stUp_keep c g]
        exact h.keep (by omega)
  · rw [stUp_skip c]
    exact h.skip c
theorem tkR_ok {x : T3} : ∀ (hs : List T3) {S : T3 → T3 → Prop} {o : Option T4}, LoOk S o → LoOk (fun a b => S a b ∨ (a = x ∧ b ∈ hs)) (tkR x hs o)
  | [], _, _, h => h.congr fun a b => ⟨.inl, fun z => z.elim id fun z => (nomatch z.2)⟩
  | y :: hs, S, o, h => (tkR_ok hs (stLo_ok (x := x) (y := y) h)).congr fun a b => by
    show (S a b ∨ (a = x ∧ b = y)) ∨ (a = x ∧ b ∈ hs) ↔ S a b ∨ (a = x ∧ b ∈ y :: hs)
    rw [List.mem_cons]
    constructor
    · rintro ((h | ⟨h1, h2⟩) | ⟨h1, h2⟩)
      · exact .inl h
      · exact .inr ⟨h1, .inl h2⟩
      · exact .inr ⟨h1, .inr h2⟩
    · rintro (h | ⟨h1, h2 | h2⟩)
      · exact .inl (.inl h)
      · exact .inl (.inr ⟨h1, h2⟩)
      · exact .inr ⟨h1, h2⟩
theorem tkU_ok {x : T3} : ∀ (hs : List T3) {S : T3 → T3 → Prop} {o : Option T4}, UpOk S o → UpOk (fun a b => S a b ∨ (a = x ∧ b ∈ hs)) (tkU x hs o)
  | [], _, _, h => h.congr fun a b => ⟨.inl, fun z => z.elim id fun z => (nomatch z.2)⟩
  | y :: hs, S, o, h => (tkU_ok hs (stUp_ok (x := x) (y := y) h)).congr fun a b => by
    show (S a b ∨ (a = x ∧ b = y)) ∨ (a = x ∧ b ∈ hs) ↔ S a b ∨ (a = x ∧ b ∈ y :: hs)
    rw [List.mem_cons]
    constructor
    · rintro ((h | ⟨h1, h2⟩) | ⟨h1, h2⟩)
      · exact .inl h
      · exact .inr ⟨h1, .inl h2⟩
      · exact .inr ⟨h1, .inr h2⟩
    · rintro (h | ⟨h1, h2 | h2⟩)
      · exact .inl (.inl h)
      · exact .inl (.inr ⟨h1, h2⟩)
      · exact .inr ⟨h1, h2⟩
theorem tlF_ok {hs : List T3} : ∀ (ls : List T3) {S : T3 → T3 → Prop} {o : Option T4}, LoOk S o → LoOk (fun a b => S a b ∨ (a ∈ ls ∧ b ∈ hs)) (tlF ls hs o)
  | [], _, _, h => h.congr fun a b => ⟨.inl, fun z => z.elim id fun z => (nomatch z.1)⟩
  | x :: ls, S, o, h => (tlF_ok ls (tkR_ok (x := x) hs h)).congr fun a b => by
    rw [List.mem_cons]
    constructor
    · rintro ((h | ⟨h1, h2⟩) | ⟨h1, h2⟩)
      · exact .inl h
      · exact .inr ⟨.inl h1, h2⟩
      · exact .inr ⟨.inr h1, h2⟩
    · rintro (h | ⟨h1 | h1, h2⟩)
      · exact .inl (.inl h)
      · exact .inl (.inr ⟨h1, h2⟩)
      · exact .inr ⟨h1, h2⟩
theorem tuF_ok {hs : List T3} : ∀ (ls : List T3) {S : T3 → T3 → Prop} {o : Option T4}, UpOk S o → UpOk (fun a b => S a b ∨ (a ∈ ls ∧ b ∈ hs)) (tuF ls hs o)
  | [], _, _, h => h.congr fun a b => ⟨.inl, fun z => z.elim id fun z => (nomatch z.1)⟩
  | x :: ls, S, o, h => (tuF_ok ls (tkU_ok (x := x) hs h)).congr fun a b => by
    rw [List.mem_cons]
    constructor
    · rintro ((h | ⟨h1, h2⟩) | ⟨h1, h2⟩)
      · exact .inl h
      · exact .inr ⟨.inl h1, h2⟩
      · exact .inr ⟨.inr h1, h2⟩
    · rintro (h | ⟨h1 | h1, h2⟩)
      · exact .inl (.inl h)
      · exact .inl (.inr ⟨h1, h2⟩)
      · exact .inr ⟨h1, h2⟩
end
/-- the tightest pairs of records -/
def tpL (ds : List Rec) : Option T4 := tlF (sel true 0 ds) (sel false 0 ds) none
noncomputable def tpU (ds : List Rec) : Option T4 := tuF (sel true 0 ds) (sel false 0 ds) none
theorem tpL_ok (ds : List Rec) : LoOk (SD ds) (tpL ds) := (tlF_ok (S := fun _ _ => False) (o := none) (sel true 0 ds) fun _ _ h => h.elim).congr fun x y => ⟨fun h => h.elim False.elim id, .inr⟩
theorem tpU_ok (ds : List Rec) : UpOk (SD ds) (tpU ds) := (tuF_ok (S := fun _ _ => False) (o := none) (sel true 0 ds) fun _ _ h => h.elim).congr fun x y => ⟨fun h => h.elim False.elim id, .inr⟩
section
variable {P : Program} {w : World} {K : PySem.W.Frag} {mg : Str → Option Value} {base : Heap}
def spTPD : Sp := fun vs H Q _ => ∃ (T A B : Addr) (vl vu : V) (lo up : Option T4) (as bs : List V) (ls hs : List T3) (k : Nat), vs = [.ref T, .ref A, .ref B] ∧ H T = some (.tup [vl, vu]) ∧ PrV H vl lo ∧ PrV H vu up ∧ H A = some (.lst as) ∧ Obs trO H as ls ∧ H B = some (.lst bs) ∧ Obs trO H bs hs ∧
  TB k ls ∧ TB k hs ∧ PB k lo ∧ PB k up ∧ 0 < k ∧ k ≤ 10000 ∧
  ∀ R H' wl wu, Same H H' → H' R = some (.tup [wl, wu]) → PrV H' wl (tlF ls hs lo) → PrV H' wu (tuF ls hs up) → PB k (tlF ls hs lo) → PB k (tuF ls hs up) → Q (.ref R) H'
theorem okA_tighter_pairs (D : Df K mg "tighter_pairs" s_tighter_pairs P_tighter_pairs) (B : Bi mg) : C8.Cal P w K mg base 1 "tighter_pairs" spTPD [] := by
  refine cal_of D sc_tighter_pairs (fun vs H Q E h => ?_) (fun f cdv A outer s H vs Q E hr h => ?_)
  · obtain ⟨T, A, B, vl, vu, lo, up, as, bs, ls, hs, k, rfl, _⟩ := h
    rfl
  · obtain ⟨T, A', B', vl, vu, lo0, up0, as, bs, ls, hs, k, rfl, eT, pl, pu, eA, oA, eB, oB, tA, tB, bl, bu, k0, k1, kk⟩ := h
    refine ⟨_, (pss_cons (ps_asg (pv 0) (pg_tup rfl (pgs_cons (pg_name (i := 3) sc_tighter_pairs.nd rfl (Or.inl rfl)) (pgs_cons (pg_name (i := 4) sc_tighter_pairs.nd rfl (Or.inl rfl)) pgs_nil))))
    (pss_cons (ps_for PassesOwn.never rfl (pi_list (pv 1)) (pg_tup rfl (pgs_cons (pg_name (i := 5) sc_tighter_pairs.nd rfl (Or.inl rfl)) (pgs_cons (pg_name (i := 6) sc_tighter_pairs.nd rfl (Or.inl rfl)) (pgs_cons (pg_name (i := 7) sc_tighter_pairs.nd rfl (Or.inl rfl)) pgs_nil))))
      (pss_one (ps_for PassesOwn.never rfl (pi_list (pv 2)) (pg_tup rfl (pgs_cons (pg_name (i := 8) sc_tighter_pairs.nd rfl (Or.inl rfl)) (pgs_cons (pg_name (i := 9) sc_tighter_pairs.nd rfl (Or.inl rfl)) (pgs_cons (pg_name (i := 10) sc_tighter_pairs.nd rfl (Or.inl rfl)) pgs_nil))))
      (pss_one (ps_if (pt_cmpR op_lt (pv 9) (pv 6) (nomark _))
      (pss_one (ps_if (PW.pt (pw_or (pt_cmpR op_isN (pv 3) pe_non (nomark _)) (pw_or1 (pt_cmpR op_gt (pe_op op_mulW (pe_op op_sub (pe_op op_sub (pv 7) (pv 10)) pe_int) (pe_ix (r := rIxT K) ix_tup (pv 3) pe_int (fun _ _ => rfl))) (pe_op op_mulW (pe_ix (r := rIxT K) ix_tup (pv 3) pe_int (fun _ _ => rfl)) (pe_op op_sub (pv 6) (pv 9))) (nomark _)))))
      (pss_one (ps_set (i := 3) sc_tighter_pairs.nd rfl (Or.inl rfl) (pe_tup (pa_cons (pe_op op_sub (pe_op op_sub (pv 7) (pv 10)) pe_int) (pa_cons (pe_op op_sub (pv 6) (pv 9)) (pa_cons (pv 5) (pa_cons (pv 8) pa_nil)))))))
      pss_nil))
      (pss_one (ps_if (PW.pt (pw_or (pt_cmpR op_lt (pv 6) (pv 9) (nomark _)) (pw_or1 (pt_cmpR op_gt (pv 7) (pv 10) (nomark _)))))
      (pss_cons (ps_set (i := 11) sc_tighter_pairs.nd rfl (Or.inl rfl) (pe_callB (call_max2 rfl) (by rfl) B.max_ bt_max (pa_cons pe_int (pa_cons (pe_op op_sub (pv 9) (pv 6)) pa_nil))))
    (pss_one (ps_if (PW.pt (pw_or (pt_cmpR op_isN (pv 4) pe_non (nomark _)) (pw_or1 (pt_cmpR op_lt (pe_op op_mulW (pe_op op_sub (pe_op op_add (pv 10) pe_int) (pv 7)) (pe_ix (r := rIxT K) ix_tup (pv 4) pe_int (fun _ _ => rfl))) (pe_op op_mulW (pe_ix (r := rIxT K) ix_tup (pv 4) pe_int (fun _ _ => rfl)) (pv 11)) (nomark _)))))
      (pss_one (ps_set (i := 4) sc_tighter_pairs.nd rfl (Or.inl rfl) (pe_tup (pa_cons (pe_op op_sub (pe_op op_add (pv 10) pe_int) (pv 7)) (pa_cons (pv 11) (pa_cons (pv 5) (pa_cons (pv 8) pa_nil)))))))
      pss_nil)))
      pss_nil)))))))
    (pss_one (ps_ret (pe_tup (pa_cons (pv 3) (pa_cons (pv 4) pa_nil))))))), ?_⟩
    refine ⟨_, rfl, T, _, rfl, SqT.of eT, rfl, _, _, rfl, _, _, rfl, rfl, ?_⟩
    refine ⟨_, rfl, A', rfl, ⟨_, SqL.of eA⟩, ?_⟩
    refine for_list (K := K) (a := A') (xs := as) (fun i σ H' => ∃ (vl vu : V) (lo up : Option T4) (y5 y6 y7 y8 y9 y10 y11 : Option V), σ = [some (.ref T), some (.ref A'), some (.ref B'), some vl, some vu, y5, y6, y7, y8, y9, y10, y11] ∧ Same H H' ∧ PrV H' vl lo ∧ PrV H' vu up ∧ PB k lo ∧ PB k up ∧ lo = tlF (ls.take i) hs lo0 ∧ up = tuF (ls.take i) hs up0) ?_ ?_ ?_ ?_
    · exact ⟨vl, vu, lo0, up0, _, _, _, _, _, _, _, rfl, Same.refl _, pl, pu, bl, bu, rfl, rfl⟩
    · rintro i σ H' _ ⟨_, _, _, _, _, _, _, _, _, _, _, _, s', _⟩
      exact SqL.of (s' _ _ eA)
    · rintro i v σ H1 hv ⟨vl, vu, lo, up, y5, y6, y7, y8, y9, y10, y11, rfl, s1, pl, pu, bl, bu, hlo, hup⟩
      obtain ⟨r, x, rfl, er, hx⟩ := oA.at hv
      have xb := tA x (List.mem_of_getElem? hx)
      refine ⟨r, _, rfl, SqT.of (s1 _ _ er), rfl, _, _, rfl, _, _, rfl, _, _, rfl, rfl, ?_⟩
      refine ⟨_, rfl, B', rfl, ⟨_, SqL.of (s1 _ _ eB)⟩, ?_⟩
      refine for_list (K := K) (a := B') (xs := bs) (fun j σ H' => ∃ (vl vu : V) (lo up : Option T4) (y8 y9 y10 y11 : Option V), σ = [some (.ref T), some (.ref A'), some (.ref B'), some vl, some vu, some (.int x.1), some (.int x.2.1), some (.int x.2.2), y8, y9, y10, y11] ∧ Same H H' ∧ PrV H' vl lo ∧ PrV H' vu up ∧ PB k lo ∧ PB k up ∧ lo = tkR x (hs.take j) (tlF (ls.take i) hs lo0) ∧ up = tkU x (hs.take j) (tuF (ls.take i) hs up0)) ?_ ?_ ?_ ?_
      · exact ⟨vl, vu, lo, up, _, _, _, _, rfl, s1, pl, pu, bl, bu, hlo, hup⟩
      · rintro j σ H' _ ⟨_, _, _, _, _, _, _, _, _, s', _⟩
        exact SqL.of (s' _ _ eB)
      · clear hlo hup pl pu bl bu vl vu lo up
        rintro j v σ H2 hv ⟨vl, vu, lo, up, y8, y9, y10, y11, rfl, s2, pl, pu, bl, bu, hlo, hup⟩
        obtain ⟨r2, y, rfl, er2, hy⟩ := oB.at hv
        have yb := tB y (List.mem_of_getElem? hy)
        have cl := tkR_snoc (x := x) (o := tlF (ls.take i) hs lo0) hy
        have cu := tkU_snoc (x := x) (o := tuF (ls.take i) hs up0) hy
        rw [← hlo] at cl
        rw [← hup] at cu
        refine ⟨r2, _, rfl, SqT.of (s2 _ _ er2), rfl, _, _, rfl, _, _, rfl, _, _, rfl, rfl, ?_⟩
        have b1 : Bd (k + 2) (x.2.2 - y.2.2 - 1) := Bd.sub (Bd.sub xb.2 yb.2) (Bd.small 1 (by decide) (by omega))
        have b2 : Bd (k + 1) (x.2.1 - y.2.1) := Bd.sub xb.1 yb.1
        have b3 : Bd (k + 2) (y.2.2 + 1 - x.2.2) := Bd.sub (Bd.add yb.2 (Bd.small 1 (by decide) (by omega))) (xb.2.mono (by omega))
        have b4 : Bd (k + 1) (bot x y) := by
          unfold bot
          by_cases h : y.2.1 - x.2.1 > 1
          · rw [if_pos h]
            exact Bd.sub yb.1 xb.1
          · rw [if_neg h]
            exact Bd.small 1 (by decide) (by omega)
        refine ⟨_, rfl, _, rfl, _, _, rfl, rfl, _, rfl, ite2 (fun c => ?_) (fun c => ?_)⟩
        · have c : y.2.1 < x.2.1 := of_decide_eq_true c
          have upS := cu.trans (stUp_skip (fun z => z.1 c))
          cases lo with
          | none =>
            have e : vl = .non := pl
            subst e
            refine ⟨_, rfl, rfl, _, rfl, iteT (iteT ?_)⟩
            refine ⟨_, rfl, _, rfl, _, _, rfl, rfl, _, _, rfl, rfl, _, rfl, _, rfl, _, _, rfl, rfl, _, rfl, _, rfl, len10 (by simp), fun r3 nr3 => ?_⟩
            have z3 := sm_upd (o := t4O (x.2.2 - y.2.2 - 1, x.2.1 - y.2.1, x.1, y.1)) nr3
            exact ⟨_, _, some (x.2.2 - y.2.2 - 1, x.2.1 - y.2.1, x.1, y.1), up, _, _, _, _, rfl, s2.trans z3, ⟨r3, rfl, upd_same⟩, pu.same z3, fun z e => by cases e; exact ⟨b1, b2.mono (by omega)⟩, bu, cl.trans (stLo_first c) |>.symm, upS.symm⟩
          | some z =>
            obtain ⟨rz, rfl, ez⟩ := pl
            obtain ⟨bz1, bz2⟩ := bl z rfl
            refine ⟨_, rfl, rfl, _, rfl, iteF ?_⟩
            refine ⟨_, rfl, _, rfl, _, _, rfl, rfl, _, _, rfl, rfl, _, rfl, rz, _, _, _, rfl, rfl, SqT.of ez, atI_nat (j := 1) rfl, _, _, rfl, rfl, mulW b1 bz2 (by omega) (by omega) (by omega), _, rfl, rz, _, _, _, rfl, rfl, SqT.of ez, atI_nat (j := 0) rfl, _, rfl, _, rfl, _, _, rfl, rfl, _, _, rfl, rfl, mulW bz1 b2 (by omega) (by omega) (by omega), _, _, rfl, rfl, _, rfl, ite2 (fun g => ?_) (fun g => ?_)⟩
            · have g : (x.2.2 - y.2.2 - 1) * z.2.1 > z.1 * (x.2.1 - y.2.1) := of_decide_eq_true g
              refine ⟨_, rfl, _, rfl, _, _, rfl, rfl, _, _, rfl, rfl, _, rfl, _, rfl, _, _, rfl, rfl, _, rfl, _, rfl, len10 (by simp), fun r3 nr3 => ?_⟩
              have z3 := sm_upd (o := t4O (x.2.2 - y.2.2 - 1, x.2.1 - y.2.1, x.1, y.1)) nr3
              exact ⟨_, _, some (x.2.2 - y.2.2 - 1, x.2.1 - y.2.1, x.1, y.1), up, _, _, _, _, rfl, s2.trans z3, ⟨r3, rfl, upd_same⟩, pu.same z3, fun z e => by cases e; exact ⟨b1, b2.mono (by omega)⟩, bu, cl.trans (stLo_upd c g) |>.symm, upS.symm⟩
            · have g : ¬ (x.2.2 - y.2.2 - 1) * z.2.1 > z.1 * (x.2.1 - y.2.1) := fun h => g (decide_eq_true h)
              exact ⟨_, _, some z, up, _, _, _, _, rfl, s2, ⟨rz, rfl, ez⟩, pu, bl, bu, cl.trans (stLo_keep c g) |>.symm, upS.symm⟩
        · have c : ¬ y.2.1 < x.2.1 := fun h => c (decide_eq_true h)
          have loS := (cl.trans (stLo_skip c)).symm
          refine ⟨_, rfl, _, rfl, _, _, rfl, rfl, _, rfl, ite2 (fun c1 => iteT ((fun (hu : uc x y) => ?tw1) ⟨c, .inl (of_decide_eq_true c1)⟩)) (fun c1 => ⟨_, rfl, _, rfl, _, _, rfl, rfl, _, rfl, ite2 (fun c2 => (fun (hu : uc x y) => ?tw2) ⟨c, .inr (of_decide_eq_true c2)⟩) (fun c2 => ?_)⟩)⟩
          case tw1 | tw2 =>
            refine ⟨_, rfl, _, rfl, _, _, rfl, rfl, _, _, rfl, ?_⟩
            show gName 11 (.int (bot x y)) _ H2 _
            cases up with
            | none =>
              have e : vu = .non := pu
              subst e
              refine ⟨_, rfl, rfl, _, rfl, iteT (iteT ?_)⟩
              refine ⟨_, rfl, _, _, rfl, rfl, _, rfl, _, _, rfl, rfl, _, rfl, _, rfl, _, rfl, len10 (by simp), fun r3 nr3 => ?_⟩
              have z3 := sm_upd (o := t4O (y.2.2 + 1 - x.2.2, bot x y, x.1, y.1)) nr3
              exact ⟨_, _, lo, some (y.2.2 + 1 - x.2.2, bot x y, x.1, y.1), _, _, _, _, rfl, s2.trans z3, pl.same z3, ⟨r3, rfl, upd_same⟩, bl, fun z e => by cases e; exact ⟨b3, b4.mono (by omega)⟩, loS, (cu.trans (stUp_first hu)).symm⟩
            | some z =>
              obtain ⟨rz, rfl, ez⟩ := pu
              obtain ⟨bz1, bz2⟩ := bu z rfl
              refine ⟨_, rfl, rfl, _, rfl, iteF ?_⟩
              refine ⟨_, rfl, _, _, rfl, rfl, _, rfl, _, _, rfl, rfl, _, rfl, rz, _, _, _, rfl, rfl, SqT.of ez, atI_nat (j := 1) rfl, _, _, rfl, rfl, mulW b3 bz2 (by omega) (by omega) (by omega), _, rfl, rz, _, _, _, rfl, rfl, SqT.of ez, atI_nat (j := 0) rfl, _, rfl, _, _, rfl, rfl, mulW bz1 b4 (by omega) (by omega) (by omega), _, _, rfl, rfl, _, rfl, ite2 (fun g => ?_) (fun g => ?_)⟩
              · have g : (y.2.2 + 1 - x.2.2) * z.2.1 < z.1 * bot x y := of_decide_eq_true g
                refine ⟨_, rfl, _, _, rfl, rfl, _, rfl, _, _, rfl, rfl, _, rfl, _, rfl, _, rfl, len10 (by simp), fun r3 nr3 => ?_⟩
                have z3 := sm_upd (o := t4O (y.2.2 + 1 - x.2.2, bot x y, x.1, y.1)) nr3
                exact ⟨_, _, lo, some (y.2.2 + 1 - x.2.2, bot x y, x.1, y.1), _, _, _, _, rfl, s2.trans z3, pl.same z3, ⟨r3, rfl, upd_same⟩, bl, fun z e => by cases e; exact ⟨b3, b4.mono (by omega)⟩, loS, (cu.trans (stUp_upd hu g)).symm⟩
              · have g : ¬ (y.2.2 + 1 - x.2.2) * z.2.1 < z.1 * bot x y := fun h => g (decide_eq_true h)
                exact ⟨_, _, lo, some z, _, _, _, _, rfl, s2, pl, ⟨rz, rfl, ez⟩, bl, bu, loS, (cu.trans (stUp_keep hu g)).symm⟩
          · have nu : ¬ uc x y := fun z => z.2.elim (fun h => c1 (decide_eq_true h)) (fun h => c2 (decide_eq_true h))
            exact ⟨_, _, lo, up, _, _, _, _, rfl, s2, pl, pu, bl, bu, loS, (cu.trans (stUp_skip nu)).symm⟩
      · clear hlo hup pl pu bl bu vl vu lo up
        rintro σ H2 ⟨vl, vu, lo, up, y8, y9, y10, y11, rfl, s2, pl, pu, bl, bu, hlo, hup⟩
        have etk : hs.take bs.length = hs := List.take_of_length_le (by rw [oB.len]; exact Nat.le_refl _)
        rw [etk] at hlo hup
        exact ⟨vl, vu, lo, up, _, _, _, _, _, _, _, rfl, s2, pl, pu, bl, bu, by rw [hlo, tlF_snoc hx], by rw [hup, tuF_snoc hx]⟩
    · clear pl pu bl bu eT vl vu
      rintro σ H2 ⟨vl, vu, lo, up, y5, y6, y7, y8, y9, y10, y11, rfl, s2, pl, pu, bl, bu, hlo, hup⟩
      have etk : ls.take as.length = ls := List.take_of_length_le (by rw [oA.len]; exact Nat.le_refl _)
      rw [etk] at hlo hup
      refine ⟨_, rfl, _, rfl, len10 (by simp), fun R nR => ?_⟩
      have z := sm_upd (o := .tup [vl, vu]) nR
      subst hlo hup
      exact kk R _ vl vu (s2.trans z) upd_same (pl.same z) (pu.same z) bl bu
def spTightD : Sp := fun vs H Q _ => ∃ (L : Addr) (kb : Bool) (xs : List V) (ds : List Rec) (k : Nat), vs = [.ref L] ∧ H L = some (sqO kb xs) ∧ Obs rcO H xs ds ∧ ds.length ≤ 1000 ∧ RcB k ds ∧ 0 < k ∧ k ≤ 8000 ∧
  ∀ R H' wl wu, Same H H' → H' R = some (.tup [wl, wu]) → PrV H' wl (tpL ds) → PrV H' wu (tpU ds) → PB k (tpL ds) → PB k (tpU ds) → Q (.ref R) H'
theorem okA_tight_pairs (D : Df K mg "tight_pairs" s_tight_pairs P_tight_pairs) (c_split_records : C8.Cal P w K mg base 1 "split_records" spSplitS []) (cA_tighter_pairs : C8.Cal P w K mg base 1 "tighter_pairs" spTPD []) : C8.Cal P w K mg base 2 "tight_pairs" spTightD [] := by
  have c_tighter_pairs := cA_tighter_pairs
  refine cal_of D sc_tight_pairs (fun vs H Q E h => ?_) (fun f cdv A outer s H vs Q E hr h => ?_)
  · obtain ⟨L, kb, xs, ds, k, rfl, _⟩ := h
    rfl
  · obtain ⟨L, kb, xs, ds, k, rfl, eL, hO, hl, bd, k0, k1, kk⟩ := h
    refine ⟨_, (pss_cons (ps_asg (C8.pe_c c_split_records hr (by decide) (by rfl) (pa_cons (pv 0) pa_nil)) (pg_tup rfl (pgs_cons (pg_name (i := 1) sc_tight_pairs.nd rfl (Or.inl rfl)) (pgs_cons (pg_name (i := 2) sc_tight_pairs.nd rfl (Or.inl rfl)) pgs_nil))))
    (pss_one (ps_ret (C8.pe_c c_tighter_pairs hr (by decide) (by rfl) (pa_cons (pe_tup (pa_cons pe_non (pa_cons pe_non pa_nil))) (pa_cons (pv 1) (pa_cons (pv 2) pa_nil))))))), ?_⟩
    refine ⟨_, rfl, L, kb, xs, ds, rfl, eL, hO, hl, fun T H1 A' B' as bs s1 eT eA oA eB oB => ?_⟩
    refine ⟨T, _, rfl, SqT.of eT, rfl, _, _, rfl, _, _, rfl, rfl, ?_⟩
    refine ⟨len10 (by simp), fun N nN => ?_⟩
    have z := sm_upd (o := .tup [.non, .non]) nN
    refine ⟨_, rfl, _, rfl, N, A', B', .non, .non, none, none, as, bs, _, _, k, rfl, upd_same, rfl, rfl, z _ _ eA, oA.same z, z _ _ eB, oB.same z, sel_tb bd, sel_tb bd, fun _ h => (nomatch h), fun _ h => (nomatch h), k0, by omega, fun R H2 wl wu s2 eR pl pu bl bu => ?_⟩
    exact kk R H2 wl wu ((s1.trans z).trans s2) eR pl pu bl bu
end
end Lf
namespace Lf
open PySem PySem.Spec PyProof.Rows L2
/-! ### which conflict find_conflict gives -/
noncomputable def fcS (ds : List Rec) (cur : List Nat) (j : Nat) : List Nat := if Cf (pk ds (cur.filter (· ≠ j))) then cur.filter (· ≠ j) else cur
noncomputable def fcJ (ds : List Rec) (js is : List Nat) : List Nat := is.foldl (fcS ds) js
theorem fcJ_snoc {ds : List Rec} {js is : List Nat} {i j : Nat} (h : is[i]? = some j) : fcJ ds js (is.take (i + 1)) = fcS ds (fcJ ds js (is.take i)) j := by
  unfold fcJ
  rw [List.take_add_one, h, List.foldl_append]
  rfl
def FcD (ds : List Rec) (cur : List Nat) : Prop := ∃ js : List Nat, js.Pairwise (· < ·) ∧ (∀ x, x ∈ cb (tpL ds) ++ cb (tpU ds) ↔ ∃ j ∈ js, x = ((j : Nat) : Int)) ∧ cur = fcJ ds js js
theorem up_one : ∀ {a b : List Nat}, a.Pairwise (· < ·) → b.Pairwise (· < ·) → (∀ x, x ∈ a ↔ x ∈ b) → a = b
  | [], [], _, _, _ => rfl
  | [], y :: b, _, _, h => nomatch (h y).mpr List.mem_cons_self
  | x :: a, [], _, _, h => nomatch (h x).mp List.mem_cons_self
  | x :: a, y :: b, h1, h2, h => by
    obtain ⟨p1, q1⟩ := List.pairwise_cons.mp h1
    obtain ⟨p2, q2⟩ := List.pairwise_cons.mp h2
    have e : x = y := by
      rcases List.mem_cons.mp ((h x).mp List.mem_cons_self) with c | c
      · exact c
      · rcases List.mem_cons.mp ((h y).mpr List.mem_cons_self) with d | d
        · exact d.symm
        · have := p1 y d
          have := p2 x c
          omega
    subst e
    rw [up_one q1 q2 fun z => ⟨fun hz => ?_, fun hz => ?_⟩]
    · rcases List.mem_cons.mp ((h z).mp (List.mem_cons_of_mem _ hz)) with c | c
      · have := p1 z hz
        omega
      · exact c
    · rcases List.mem_cons.mp ((h z).mpr (List.mem_cons_of_mem _ hz)) with c | c
      · have := p2 z hz
        omega
      · exact c
theorem FcD.one {ds : List Rec} {a b : List Nat} (h : FcD ds a) (g : FcD ds b) : a = b := by
  obtain ⟨js, u1, m1, e1⟩ := h
  obtain ⟨is, u2, m2, e2⟩ := g
  have e : js = is := up_one u1 u2 fun x => by
    constructor
    · intro hx
      obtain ⟨j, hj, e⟩ := (m2 (x : Int)).mp ((m1 (x : Int)).mpr ⟨x, hx, rfl⟩)
      have : x = j := by omega
      rw [this]
      exact hj
    · intro hx
      obtain ⟨j, hj, e⟩ := (m1 (x : Int)).mp ((m2 (x : Int)).mpr ⟨x, hx, rfl⟩)
      have : x = j := by omega
      rw [this]
      exact hj
  rw [e1, e2, e]
inductive FcRD (H H' : Hp) (ds : List Rec) : V → Prop
  | no : ¬ Cf ds → FcRD H H' ds .non
  | yes {F : Addr} {js : List Nat} : H F = none → H' F = some (.lst ((ni js).map V.int)) → FcD ds js → Least ds js → FcRD H H' ds (.ref F)
def spFindD : Sp := fun vs H Q _ => ∃ (L : Addr) (kb : Bool) (xs : List V) (ds : List Rec) (k : Nat), vs = [.ref L] ∧ H L = some (sqO kb xs) ∧ Obs rcO H xs ds ∧ ds.length ≤ 1000 ∧ RcB k ds ∧ 0 < k ∧ k ≤ 8000 ∧ ∀ v H', Same H H' → FcRD H H' ds v → Q v H'
section
variable {P : Program} {w : World} {K : PySem.W.Frag} {mg : Str → Option Value} {base : Heap}
end
end Lf
namespace Lf
open PySem PySem.Spec PyProof.Rows L2
/-! ### len of an instance by its own __len__ -/
def rLenO (C : Addr) (sp : Sp) : List V → Hp → VK → Prop := fun xs H Q => ∃ (a dx : Addr) (fs : List (Str × V)), xs = [.ref a] ∧ H a = some (.ins C dx fs) ∧ sp [.ref a] H (fun v H' => ∃ n : Nat, v = .int (n : Int) ∧ n < 2 ^ 60 ∧ Q (.int (n : Int)) H') C8.E0
section
variable {X : Cx}
theorem call_lenO {C : Addr} {k j : Nat} {sp : Sp} (c : C8.Met X.prog X.w X.K X.mg X.base k C "__len__" sp []) (hr : Room (j + 1) X.A) (hk : k ≤ j) : CallR X (.builtin "len") (rLenO C sp) := by
  intro pins s σ H xs us Q I r h
  obtain ⟨a, dx, fs, rfl, ha, q⟩ := h
  cases r with
  | cons rx rr =>
    cases rr
    cases rx
    obtain ⟨f, fd, ps, ds, _, hm, F, b, d⟩ := c.ex
    cases d
    obtain ⟨mA, J, _⟩ := ins_get I.hok ha
    obtain ⟨od, J, _⟩ := J.look
    refine Calls.call_function_entry kind_len plain_len entry_len (args_len1 _) ?_
    unfold Builtin.«len»
    refine wpAny_bind (m := oneArg "len" _) (wpAny_pure ?_)
    refine wpAny_bind (m := callSpecial? (.ref a) (PySem.Str.ofString "__len__")) ?_
    unfold callSpecial? specialOf
    refine wpAny_bind (wpAny_bind (J.type.here ((PySem.W.looks_findIn I.kIn hm.at_).here ?_)))
    refine wpAny_holding (wpAny_bind ((PySem.W.bind_fn I.kIn _ (eq_of_beq hm.fn)).here ?_))
    have e0 : Env0 X.prog X.w X.K X.mg X.base X.A.in1 X.stack s H := by
      have e := I.env0
      exact ⟨e.frames, e.mod, e.bs, e.bsz, e.funs, e.frf, e.hok, e.bare⟩
    have hl := F.len _ _ _ _ q
    refine wpAny_bind (wpAny_call (codeAny_mono (F.run X.A.in1 X.stack s H ⟨[.ref a], []⟩ [.ref a] [.ref a] _ C8.E0 ((hr.in1).mono hk) e0 (by
      have := b s [.ref a] I.kIn (by simpa using hl)
      simpa using this) (.cons rfl .nil) q) fun r s' hq => ?_))
    cases r with
    | error e => exact C8.pass0 (X := X) (E := C8.E0) pins σ H s e s' I hq
    | ok fl =>
      cases fl with
      | ret u =>
        obtain ⟨v, H', I', rv, n, rfl, hn, q'⟩ := I.after hq
        obtain ⟨t, rfl⟩ := rv
        refine wpAny_pure ?_
        refine wpAny_bind (wpAny_holding (wpAny_pure ?_))
        refine wpAny_bind (wpAny_letGo ?_)
        show wpAny _ _ (if ((n : Nat) : Int) < 0 then _ else _) _ _ _
        rw [if_neg (by omega)]
        show wpAny _ _ (if ((n : Nat) : Int) ≥ 2 ^ 63 then _ else _) _ _ _
        rw [if_neg (by omega)]
        exact wpAny_bind (wpAny_mkInt (wpAny_pure ⟨_, rfl, .int n, H', I'.tok _, ⟨_, rfl⟩, q'⟩))
      | next => exact False.elim hq
      | brk => exact False.elim hq
      | cont => exact False.elim hq
end
end Lf
namespace Lf
open PySem PySem.Spec PyProof.Rows L2
/-! ### a method with one keyword-only parameter that may raise: o.m(.., kw = v) where what it raises is taken -/
def MetX (P : Program) (w : World) (K : PySem.W.Frag) (mg : Str → Option Value) (base : Heap) (k : Nat) (C : Addr) (m : Str) (sp : Sp) (n : Nat) (kn : Str) : Prop :=
  ∃ f fd ps, Cls K C ∧ Meth K C m f ∧ FnOk P w K mg base (L2.CX P w) k f fd ps sp ∧ KBn K fd ps n [kn] (fun us ws => us ++ ws) (fun vs zs => vs ++ zs)
section
variable {P : Program} {w : World} {K : PySem.W.Frag} {mg : Str → Option Value} {base : Heap} {C : Addr}
theorem metx_of {m qual kn : Str} {st : Stmt} {N ps : List Str} {k n : Nat} {sp : Sp} (c : Cls K C) (D : DmO K C m qual st ps n kn) (S : FnScope N ps (defScope st)) (len : ∀ vs H Q E, sp vs H Q E → vs.length = ps.length)
    (hb : ∀ (f : Addr) (cdv : Value) (A : Around) (outer : List Env) (s : Shared) (H : Hp) (vs : List V) (Q : VK) (E : XK), Room k (A.deeper (envOfC qual (defScope st) s.heap.objs.size f cdv)) → sp vs H Q E →
      ∃ t, PSs (cxOf (L2.CX P w) P w K mg base N qual (defScope st) f cdv A outer s H E) (defBody st) t ∧ t { nx := fun _ H' => Q .non H', rt := Q } (start N vs) H) : MetX P w K mg base (k + 1) C m sp n kn := by
  obtain ⟨f, fd, ds, F, hm, hv, b, kb⟩ := D
  exact ⟨f, fd, ps, c, hm, F.okX S len (fun cdv A outer s H vs Q E hr h => hb f cdv A outer s H vs Q E hr h), kb⟩
/-- the call, what is raised passes at this state -/
theorem run_fnNA {X : Cx} {CX : CXT} {k n : Nat} {f : Addr} {fd : FuncData} {ps ks : List Str} {sp : Sp} {g : List Value → List Value → List Value} {gV : List V → List V → List V} {E : XK} {pins : List (Addr × Obj)} {σ : L2.St} {H : Hp} {s : Shared} {Q : VK} {us ws : List Value} {vs zs : List V}
    (F : FnOk X.prog X.w X.K X.mg X.base CX k f fd ps sp) (hr : Room k X.A) (hb : KBn X.K fd ps n ks g gV) (hx : PassesAt CX X σ E)
    (I : Inv X pins σ H s) (r : Vals vs us) (rz : Vals zs ws) (l1 : vs.length = n) (l2 : zs.length = ks.length) (h : sp (gV vs zs) H Q E) : wpAny (model X.prog X.w) X.A (call (.ref f) us (ks.zip ws)) (EP X pins σ Q) X.xe s := by
  have rr := hb.rel r rz
  have bt := hb.to s us ws I.kIn (r.length.symm.trans l1) (rz.length.symm.trans l2)
  refine wpAny_call (codeAny_mono (F.run X.A X.stack s H ⟨us, ks.zip ws⟩ (g us ws) (gV vs zs) Q E hr I.env0 bt rr h) fun res s' hq => ?_)
  match res, hq with
  | .error e, hq => exact hx pins H s e s' I hq
  | .ok (.ret u), hq => exact I.after hq
  | .ok .next, hq => exact False.elim hq
  | .ok .brk, hq => exact False.elim hq
  | .ok .cont, hq => exact False.elim hq
end
def tMethKX (C : Addr) (m : Str) (sp : Sp) (n : Nat) (W : WX) (to : TE) (ta tk : TA) : TE := fun σ H Q => to σ H fun x H1 => ∃ a dx fs, x = .ref a ∧ H1 a = some (.ins C dx fs) ∧ fs.lookup m = none ∧ ta σ H1 fun vs H2 => vs.length + 1 = n ∧ tk σ H2 fun zs H3 => zs.length = 1 ∧ sp (x :: vs ++ zs) H3 Q (WE W σ)
section
variable {X : Cx} {k j n : Nat} {kn m : Str} {sp : Sp} {apos pos : Pos} {o e : Expr} {es : List Expr} {kws : List Keyword} {to : TE} {ta tk : TA} {C : Addr} {W : WX}
theorem pe_mkwx {pl : Sem Bool} (he : PE X o to) (c : MetX X.prog X.w X.K X.mg X.base k C m sp n kn) (hr : Room j X.A) (hk : k ≤ j) (tx : Takes X W) (ha : L2.PA X (e :: es) ta) (hkw : L2.PK X kws tk)
    (hall : (backToKw pos (keywordEach kws X.env)).all (·.1.isSome) = true := by rfl) (hks : (backToKw pos (keywordEach kws X.env)).filterMap (·.1) = [kn] := by rfl)
    (hpl : ((backTo pos (starEach (e :: es) X.env)).any (·.1) || (backToKw pos (keywordEach kws X.env)).any (·.1.isNone)) = false := by rfl) (hst : starEach (e :: es) X.env = (false, eval e X.env) :: starEach es X.env := by rfl)
    (ht : eval (.Call (.Attribute o m apos) (e :: es) kws pos) X.env = (do
      let ov ← eval o X.env
      standAt apos.atName
      let (f, first) ← holding [ov] (getMethod ov m pl)
      callWith pos f first (backTo pos (starEach (e :: es) X.env)) (backToKw pos (keywordEach kws X.env))) := by rfl) :
    PE X (.Call (.Attribute o m apos) (e :: es) kws pos) (tMethKX C m sp n W to ta tk) := by
  obtain ⟨f, fd, ps, cc, hm, F, kb⟩ := c
  refine ⟨fun pins s σ H Q I h => ?_⟩
  refine PySem.W.methodCall_KW (pl := pl) (thn (he.run pins s σ H _ I h) fun u s1 ⟨x, H1, I1, rx, a, dx, fs, ex, ea, l, q⟩ => ?_) ht
  subst ex
  obtain rfl : u = Value.ref a := rx
  refine getmeth_ok I1 ea cc hm l ?_
  refine PySem.W.callWith_KW (h₀ := X.base) (first := [.ref a]) I1.ok.mod.kin hm.kp hall (thn (ha.run pos pins s1 σ H1 _ I1 q) fun us s2 ⟨vs, H2, I2, rv, lv, q2⟩ => thn (hkw.run pos pins s2 σ H2 _ I2 q2) fun ws s3 ⟨zs, H3, I3, rz, lz, q3⟩ => ⟨I3.kIn, ?_⟩) hpl hst
  rw [hks]
  exact run_fnNA (us := .ref a :: us) (vs := .ref a :: vs) F (hr.mono hk) kb (passAt tx σ) I3 (.cons rfl rv) rz lv lz q3
theorem pe_mkwx0 {pl : Sem Bool} (he : PE X o to) (c : MetX X.prog X.w X.K X.mg X.base k C m sp 1 kn) (hr : Room j X.A) (hk : k ≤ j) (tx : Takes X W) (hkw : L2.PK X kws tk)
    (hall : (backToKw pos (keywordEach kws X.env)).all (·.1.isSome) = true := by rfl) (hks : (backToKw pos (keywordEach kws X.env)).filterMap (·.1) = [kn] := by rfl)
    (hpl : ((backTo pos (starEach [] X.env)).any (·.1) || (backToKw pos (keywordEach kws X.env)).any (·.1.isNone)) = false := by rfl)
    (ht : eval (.Call (.Attribute o m apos) [] kws pos) X.env = (do
      let ov ← eval o X.env
      standAt apos.atName
      let (f, first) ← holding [ov] (getMethod ov m pl)
      callWith pos f first (backTo pos (starEach [] X.env)) (backToKw pos (keywordEach kws X.env))) := by rfl) :
    PE X (.Call (.Attribute o m apos) [] kws pos) (tMethKX C m sp 1 W to tNil tk) := by
  obtain ⟨f, fd, ps, cc, hm, F, kb⟩ := c
  refine ⟨fun pins s σ H Q I h => ?_⟩
  refine PySem.W.methodCall_KW (pl := pl) (thn (he.run pins s σ H _ I h) fun u s1 ⟨x, H1, I1, rx, a, dx, fs, ex, ea, l, q⟩ => ?_) ht
  subst ex
  obtain rfl : u = Value.ref a := rx
  refine getmeth_ok I1 ea cc hm l ?_
  refine PySem.W.callWith_KW0 (first := [.ref a]) I1.kIn hm.kp hall (thn (hkw.run pos pins s1 σ H1 _ I1 q.2) fun ws s2 ⟨zs, H2, I2, rz, l1, q2⟩ => ⟨I2.kIn, ?_⟩) hpl
  rw [hks]
  exact run_fnNA (us := [.ref a]) (vs := [.ref a]) F (hr.mono hk) kb (passAt tx σ) I2 (.cons rfl .nil) rz rfl l1 q2
end
end Lf
namespace Lf
open PySem PySem.Spec PyProof.Rows L2
section
variable {P : Program} {w : World} {K : PySem.W.Frag} {mg : Str → Option Value} {base : Heap} {C : Addr}
/-! ### _law_there -/
def spThere : Sp := fun vs H Q _ => ∃ (F : Addr) (u : V) (t : Option Int) (xs : List V) (es : List En), vs = [.ref F, u] ∧ UntV u t ∧ H F = some (.lst xs) ∧ EnL H xs es ∧ es.length ≤ 500 ∧
  ∀ G H' vs', H G = none → Same H H' → H' G = some (.lst vs') → EnL H' vs' (es.filter (upB t)) → Q (.ref G) H'
abbrev s_l_there : Stmt := topS 74
abbrev N_l_there : List Str := ["_law_entries_here", "_law_end_here", "_law_entry"]
abbrev P_l_there : List Str := ["_law_entries_here", "_law_end_here"]
theorem sc_l_there : FnScope N_l_there P_l_there (defScope s_l_there) := ⟨rfl, rfl, rfl, by decide +kernel, rfl, by decide +kernel, by decide +kernel⟩
theorem ok_l_there (D : Df K mg "_law_there" s_l_there P_l_there) : C8.Cal P w K mg base 1 "_law_there" spThere [] := by
  refine cal_of D sc_l_there (fun vs H Q E h => ?_) (fun f cdv A outer s H vs Q E hr h => ?_)
  · obtain ⟨F, u, t, xs, es, rfl, _⟩ := h
    rfl
  · obtain ⟨F, u, t, xs, es, rfl, hu', eF, hE, hl, kk⟩ := h
    refine ⟨_, (pss_one (ps_ret (pe_lc (own := [("_law_entry", 2)]) (g := (gName 2)) (by rfl) sc_l_there.nd (pi_list (pv 0)) (blkOk_by (own := [("_law_entry", 2)]) (N := N_l_there) (sc := defScope s_l_there) (by decide +kernel)) (fun _ _ _ _ _ => (pg_name (i := 2) sc_l_there.nd rfl (Or.inl rfl))) (fun _ _ _ _ _ => (pts_one (PW.pt (pw_or (pt_cmpR op_isN (pv 1) pe_non (nomark _)) (pw_or1 (pt_cmpR op_le (pe_ix (r := rIxT K) ix_tup (pv 2) pe_int (fun _ _ => rfl)) (pv 1) (nomark _))))))) (fun _ _ _ _ _ => (pv 2))))), ?_⟩
    have lx := hE.len
    refine ⟨_, rfl, F, rfl, ⟨_, SqL.of eF⟩, fun Y nY => ?_⟩
    refine lc_list (K := K) (a := F) (xs := xs) (fun i H' => Same H H' ∧ ∃ vs', H' Y = some (.lst vs') ∧ vs'.length ≤ i ∧ EnL H' vs' ((es.take i).filter (upB t))) ⟨sm_upd nY, [], upd_same, Nat.le_refl _, .nil⟩ ?_ ?_ ?_
    · rintro i H' _ ⟨s', _⟩
      exact SqL.of (s' _ _ eF)
    · rintro i x H' hx ⟨s', vs', eY, lv, hv'⟩
      obtain ⟨r, e, rfl, he', he⟩ := (hE.kp (.same s')).at hx
      obtain ⟨v, er, hv⟩ := he'
      have hi := (List.getElem?_eq_some_iff.mp he).1
      have hE' : EnAt H' r e := ⟨v, er, hv⟩
      have tk : TupKp H' (upd H' Y (.lst (vs' ++ [.ref r]))) := fun b xs eb => by
        rw [upd_ne (fun z => by rw [z, eY] at eb; cases eb)]
        exact eb
      have fin : upB t e = true → vs'.length < sizeLine ∧ Same H (upd H' Y (.lst (vs' ++ [.ref r]))) ∧ ∃ ws, (upd H' Y (.lst (vs' ++ [.ref r]))) Y = some (.lst ws) ∧ ws.length ≤ i + 1 ∧ EnL (upd H' Y (.lst (vs' ++ [.ref r]))) ws ((es.take (i + 1)).filter (upB t)) := fun ho => by
        refine ⟨small1000 (by omega), fun b o eb => ?_, vs' ++ [.ref r], upd_same, by rw [List.length_append]; show vs'.length + 1 ≤ i + 1; omega, ?_⟩
        · rw [upd_ne (ne_of_none eb nY)]
          exact s' _ _ eb
        · rw [List.take_add_one, he, List.filter_append]
          have e1 : List.filter (upB t) (some e).toList = [e] := by
            show List.filter (upB t) [e] = [e]
            rw [List.filter_cons_of_pos ho]
            rfl
          rw [e1]
          exact (hv'.kp tk).snoc (hE'.kp tk)
      have skip : upB t e = false → Same H H' ∧ ∃ vs', H' Y = some (.lst vs') ∧ vs'.length ≤ i + 1 ∧ EnL H' vs' ((es.take (i + 1)).filter (upB t)) := fun ho => by
        refine ⟨s', vs', eY, by omega, ?_⟩
        rw [List.take_add_one, he, List.filter_append]
        have e1 : List.filter (upB t) (some e).toList = [] := by
          show List.filter (upB t) [e] = []
          rw [List.filter_cons_of_neg (by rw [ho]; simp)]
          rfl
        rw [e1, List.append_nil]
        exact hv'
      cases t with
      | none =>
        have hu' : u = .non := hu'
        subst hu'
        refine ⟨rfl, _, rfl, rfl, _, rfl, iteTs rfl (iteT ?_)⟩
        exact ⟨_, rfl, vs', eY, fin rfl⟩
      | some tm =>
        have hu' : u = .int tm := hu'
        subst hu'
        refine ⟨rfl, _, rfl, rfl, _, rfl, iteFs rfl ⟨_, rfl, r, _, _, _, rfl, rfl, SqT.of er, atI_nat (j := 0) rfl, _, rfl, _, _, rfl, rfl, _, rfl, ite2 (fun c => ?_) (fun c => ?_)⟩⟩
        · exact ⟨_, rfl, vs', eY, fin c⟩
        · exact skip (by simpa [upB] using c)
    rintro H' ⟨s', vs', eY, lv, hv'⟩
    rw [lx, List.take_length] at hv'
    exact kk Y H' vs' nY s' eY hv'
/-! ### _law_end -/
def spEnd81 : Sp := fun vs H Q _ => ∃ (a : PA) (n : Nat) (F : Addr) (xs : List V) (es : List En), vs = [.ref a, .ref F] ∧ Pen H a n ∧ n < 2 ^ 36 ∧ H F = some (.lst xs) ∧ EnL H xs es ∧ 1 ≤ es.length ∧ es.length ≤ 500 ∧
  ∀ u t H', UntV u t → Pen H' a (n + 2) → Fr H H' → Q u H'
abbrev s_l_end : Stmt := topS 76
abbrev N_l_end : List Str := ["_law_state", "_law_entries_here", "_law_moment"]
abbrev P_l_end : List Str := ["_law_state", "_law_entries_here"]
theorem sc_l_end : FnScope N_l_end P_l_end (defScope s_l_end) := ⟨rfl, rfl, rfl, by decide +kernel, rfl, by decide +kernel, by decide +kernel⟩
theorem ok_l_end (D : Df K mg "_law_end" s_l_end P_l_end) (B : Bi mg) (c_l_draw : C8.Cal P w K mg base 1 "_law_draw" spDraw []) : C8.Cal P w K mg base 2 "_law_end" spEnd81 [] := by
  refine cal_of D sc_l_end (fun vs H Q E h => ?_) (fun f cdv A outer s H vs Q E hr h => ?_)
  · obtain ⟨a, n, F, xs, es, rfl, _⟩ := h
    rfl
  · obtain ⟨a, n, F, xs, es, rfl, hP, hn, eF, hE, l1, l5, kk⟩ := h
    refine ⟨_, (pss_cons (ps_set (i := 2) sc_l_end.nd rfl (Or.inl rfl) (pe_ix (r := rIxT K) ix_tup (pe_ix (r := rIxL K) ix_list (pv 1) (C8.pe_c c_l_draw hr (by decide) (by rfl) (pa_cons (pv 0) (pa_cons (pe_callB (call_len_seq) (by rfl) B.len_ bt_len (pa_cons (pv 1) pa_nil)) pa_nil))) (fun _ _ => rfl)) pe_int (fun _ _ => rfl)))
    (pss_one (ps_ret (pe_ix (r := rIxL K) ix_list (pe_lst (pa_cons pe_non (pa_cons (pv 2) (pa_cons (pe_op op_sub (pv 2) pe_int) (pa_cons (pe_op op_add (pv 2) pe_int) (pa_cons (pe_op op_sub (pe_un un_neg pe_int) (pv 2)) pa_nil)))))) (C8.pe_c c_l_draw hr (by decide) (by rfl) (pa_cons (pv 0) (pa_cons pe_int pa_nil))) (fun _ _ => rfl))))), ?_⟩
    have lx := hE.len
    refine ⟨_, rfl, _, rfl, _, rfl, F, _, rfl, .inl (SqL.of eF), a, _, _, rfl, hP, by omega, by omega, Bd.small 20 (by omega) (by decide), fun d H1 d0 d1 hP1 f1 => ?_⟩
    obtain ⟨x, hx, mx⟩ := at_in (xs := xs) d0 (by omega)
    obtain ⟨k, hk⟩ := List.mem_iff_getElem?.mp mx
    obtain ⟨r, e, rfl, ⟨v, er, hv⟩, _⟩ := (hE.kp (fun b xs e => f1.t b xs e)).at hk
    refine ⟨F, _, _, _, rfl, rfl, SqL.of (f1.l _ _ eF), hx, ?_⟩
    refine ⟨r, _, _, _, rfl, rfl, SqT.of er, atI_nat (j := 0) rfl, ?_⟩
    refine ⟨_, rfl, _, rfl, _, _, rfl, rfl, _, rfl, _, _, rfl, rfl, _, rfl, _, rfl, _, _, rfl, rfl, len10 (by simp), fun O nO => ?_⟩
    have zO := sm_upd (o := .lst [.non, .int e.m, .int (e.m - 1), .int (e.m + 1), .int (-1 - e.m)]) nO
    have eO := upd_same (H := H1) (a := O) (o := .lst [.non, .int e.m, .int (e.m - 1), .int (e.m + 1), .int (-1 - e.m)])
    refine ⟨_, rfl, a, _, _, rfl, hP1.same zO, by omega, by decide, Bd.small 20 (by decide) (by decide), fun d2 H2 d20 d21 hP2 f2 => ?_⟩
    obtain ⟨x, hx2, mx2⟩ := at_in (xs := [.non, .int e.m, .int (e.m - 1), .int (e.m + 1), .int (-1 - e.m)]) d20 (by show d2 < 5; omega)
    refine ⟨O, _, _, _, rfl, rfl, SqL.of (f2.l _ _ eO), hx2, ?_⟩
    have fz := f1.trans ((Fr.same zO).trans f2)
    simp only [List.mem_cons, List.not_mem_nil, or_false] at mx2
    rcases mx2 with rfl | rfl | rfl | rfl | rfl
    · exact kk _ none _ rfl (hP2.mono (by omega)) fz
    all_goals exact kk _ (some _) _ rfl (hP2.mono (by omega)) fz
end
end Lf
namespace Lf
open PySem PySem.Spec PyProof.Rows L2
theorem inV_str (z : Str) (zs : List Str) : inV (.str z) (strL zs) = decide (z ∈ zs) := by
  induction zs with
  | nil => rfl
  | cons y zs ih =>
    show (eqV (.str y) (.str z) || inV (.str z) (strL zs)) = _
    rw [ih]
    show ((y == z) || decide (z ∈ zs)) = _
    by_cases c : y = z
    · subst c
      simp
    · have c' : z ≠ y := fun e => c e.symm
      simp [c, c']
theorem truOf_snoc (es : List En) (e : En) (w : Str) : truOf (es ++ [e]) w = match e.x with
    | .tr b => if e.w = w then b else truOf es w
    | .rd _ => truOf es w := by
  unfold truOf
  rw [lastTr_snoc]
  cases e.x with
  | rd d => rfl
  | tr b =>
    show (if e.w = w then some b else lastTr es w).getD true = if e.w = w then b else (lastTr es w).getD true
    split <;> rfl
section
variable {P : Program} {w : World} {K : PySem.W.Frag} {mg : Str → Option Value} {base : Heap} {C : Addr}
def spReps81 : Sp := fun vs H Q _ => ∃ (F : Addr) (u : V) (t : Option Int) (xs : List V) (es : List En), vs = [.ref F, u] ∧ UntV u t ∧ H F = some (.lst xs) ∧ EnL H xs es ∧ es.length ≤ 500 ∧
  ∀ G H' vs', H G = none → Same H H' → H' G = some (.lst vs') → RepL H' vs' (repsOf (es.filter (upB t)) (es.filter (upB t))) → Q (.ref G) H'
abbrev s_l_reports : Stmt := topS 75
abbrev N_l_reports : List Str := ["_law_entries_here", "_law_end_here", "_law_there_here", "_law_lost", "_law_moment", "_law_word", "_law_what", "_law_one"]
abbrev P_l_reports : List Str := ["_law_entries_here", "_law_end_here"]
theorem sc_l_reports : FnScope N_l_reports P_l_reports (defScope s_l_reports) := ⟨rfl, rfl, rfl, by decide +kernel, rfl, by decide +kernel, by decide +kernel⟩
theorem ok_l_reports (D : Df K mg "_law_reports" s_l_reports P_l_reports) (B : Bi mg) (c_l_there : C8.Cal P w K mg base 1 "_law_there" spThere []) : C8.Cal P w K mg base 2 "_law_reports" spReps81 [] := by
  refine cal_of D sc_l_reports (fun vs H Q E h => ?_) (fun f cdv A outer s H vs Q E hr h => ?_)
  · obtain ⟨F, u, t, xs, es, rfl, _⟩ := h
    rfl
  · obtain ⟨F, u, t, xs, es, rfl, hu', eF, hE, hl, kk⟩ := h
    refine ⟨_, (pss_cons (ps_asg (pe_tup (pa_cons (C8.pe_c c_l_there hr (by decide) (by rfl) (pa_cons (pv 0) (pa_cons (pv 1) pa_nil))) (pa_cons (pe_lst pa_nil) pa_nil))) (pg_tup rfl (pgs_cons (pg_name (i := 2) sc_l_reports.nd rfl (Or.inl rfl)) (pgs_cons (pg_name (i := 3) sc_l_reports.nd rfl (Or.inr rfl)) pgs_nil))))
    (pss_cons (ps_for PassesOwn.never rfl (pi_list (pv 2)) (pg_tup rfl (pgs_cons (pg_name (i := 4) sc_l_reports.nd rfl (Or.inl rfl)) (pgs_cons (pg_name (i := 5) sc_l_reports.nd rfl (Or.inr rfl)) (pgs_cons (pg_name (i := 6) sc_l_reports.nd rfl (Or.inl rfl)) pgs_nil))))
      (pss_one (ps_if (pt_val (pe_callB ((show CallR _ _ (rIsi K) from call_isi)) (by rfl) B.isinstance_ bt_isinstance (pa_cons (pv 6) (pa_cons (pe_bltn (v := .ty "bool") (by rfl) B.bool_ bt_bool rfl) pa_nil))))
      (pss_one (ps_set (i := 3) sc_l_reports.nd rfl (Or.inr rfl) (pe_op op_cat (pe_lc (own := [("_law_one", 7)]) (g := (gName 7)) (by rfl) sc_l_reports.nd (pi_list (pv 3)) (blkOk_by (own := [("_law_one", 7)]) (N := N_l_reports) (sc := defScope s_l_reports) (by decide +kernel)) (fun _ _ _ _ _ => (pg_name (i := 7) sc_l_reports.nd rfl (Or.inl rfl))) (fun _ _ _ _ _ => (pts_one (pt_cmpR op_ne (pv 7) (pv 5) (nomark _)))) (fun _ _ _ _ _ => (pv 7))) (pe_op op_rep (pe_lst (pa_cons (pv 5) pa_nil)) (pe_callTy (call_int1) (by rfl) B.int_ bt_int (pa_cons (pe_not (pv 6)) pa_nil))))))
      pss_nil)))
    (pss_one (ps_ret (pe_lc (own := [("_law_moment", 4), ("_law_word", 5), ("_law_what", 6)]) (g := (gTup K 3 (gCons (gName 4) (gCons (gName 5) (gCons (gName 6) gNil))))) (by rfl) sc_l_reports.nd (pi_list (pv 2)) (blkOk_by (own := [("_law_moment", 4), ("_law_word", 5), ("_law_what", 6)]) (N := N_l_reports) (sc := defScope s_l_reports) (by decide +kernel)) (fun _ _ _ _ _ => (pg_tup rfl (pgs_cons (pg_name (i := 4) sc_l_reports.nd rfl (Or.inl rfl)) (pgs_cons (pg_name (i := 5) sc_l_reports.nd rfl (Or.inl rfl)) (pgs_cons (pg_name (i := 6) sc_l_reports.nd rfl (Or.inl rfl)) pgs_nil))))) (fun _ _ _ _ _ => (pts_one (PW.pt (pw_and (pt_not (pt_val (pe_callB ((show CallR _ _ (rIsi K) from call_isi)) (by rfl) B.isinstance_ bt_isinstance (pa_cons (pv 6) (pa_cons (pe_bltn (v := .ty "bool") (by rfl) B.bool_ bt_bool rfl) pa_nil))))) (pw_and1 (pt_cmpR (show OpR _ _ (rIn K true) from op_notIn_seq) (pv 5) (pv 3) rfl)))))) (fun _ _ _ _ _ => (pe_tup (pa_cons (pv 5) (pa_cons (pv 6) pa_nil))))))))), ?_⟩
    refine ⟨_, rfl, _, rfl, F, u, t, xs, es, rfl, hu', eF, hE, hl, fun G H1 vs1 nG s1 eG hG => ?_⟩
    refine ⟨Nat.zero_le _, fun Z nZ => ⟨len10 (by simp), fun T nT => ⟨T, _, rfl, SqT.of upd_same, rfl, _, _, rfl, _, _, rfl, rfl, ?_⟩⟩⟩
    have zZ := sm_upd (o := .lst []) nZ
    have zT := sm_upd (o := .tup [.ref G, .ref Z]) nT
    have eZ := zT _ _ (upd_same (H := H1) (a := Z) (o := .lst []))
    have lg : (es.filter (upB t)).length ≤ 500 := Nat.le_trans (List.length_filter_le _ _) hl
    obtain ⟨gs, hg⟩ : ∃ gs, es.filter (upB t) = gs := ⟨_, rfl⟩
    rw [hg] at hG lg kk
    have eG := zT _ _ (zZ _ _ eG)
    have hG := hG.kp (.same (zZ.trans zT))
    have s1 := s1.trans (zZ.trans zT)
    generalize upd (upd H1 Z (.lst [])) T (.tup [.ref G, .ref Z]) = H2 at eZ eG hG s1 ⊢
    have l1 := hG.len
    have nf0 : ∀ {b : Addr} {o : HO}, H b = some o → H2 b = some o := fun e => s1 _ _ e
    refine ⟨_, rfl, G, rfl, ⟨_, SqL.of eG⟩, ?_⟩
    have take1 : ∀ {i : Nat} {e : En}, gs[i]? = some e → gs.take (i + 1) = gs.take i ++ [e] := fun he => by
      rw [List.take_add_one, he]
      rfl
    refine for_list (K := K) (a := G) (xs := vs1) (fun i σ H' => ∃ (L : Addr) (y4 y5 y6 : Option V) (zs : List Str), σ = [some (.ref F), some u, some (.ref G), some (.ref L), y4, y5, y6, none] ∧ Same H2 H' ∧ H' L = some (.lst (strL zs)) ∧ zs.length ≤ i ∧ ∀ w, w ∈ zs ↔ truOf (gs.take i) w = false) ⟨Z, _, _, _, [], rfl, fun b o e => e, eZ, Nat.le_refl _, fun w => by simp [truOf, lastTr]⟩ ?_ ?_ ?_
    · rintro i σ H' _ ⟨L, y4, y5, y6, zs, rfl, s', _⟩
      exact SqL.of (s' _ _ eG)
    · rintro i x σ H' hx ⟨L, y4, y5, y6, zs, rfl, s', eL, lz, hz⟩
      obtain ⟨r, e, rfl, ⟨v, er, hv⟩, he⟩ := (hG.kp (.same s')).at hx
      have hi := (List.getElem?_eq_some_iff.mp he).1
      refine ⟨r, _, rfl, SqT.of er, rfl, _, _, rfl, _, _, rfl, _, _, rfl, rfl, ?_⟩
      cases hx : e.x with
      | rd d =>
        rw [hx] at hv
        obtain ⟨y, rfl, hy⟩ : ∃ y, v = .ref y ∧ H' y = some (rcO d) := hv
        refine ⟨_, rfl, _, _, _, _, false, rfl, .ty "bool", .base (.tup hy), kit_ty ktb, false, rfl, iteF ⟨L, _, _, _, zs, rfl, s', eL, by omega, fun w => ?_⟩⟩
        rw [take1 he, truOf_snoc, hx]
        exact hz w
      | tr b =>
        rw [hx] at hv
        obtain rfl : v = .bl b := hv
        refine ⟨_, rfl, _, _, _, _, true, rfl, .ty "bool", .base (.bl b), kit_ty kbb, true, rfl, iteT ?_⟩
        refine ⟨_, rfl, L, rfl, ⟨_, SqL.of eL⟩, fun Y nY => ?_⟩
        refine lc_list (K := K) (a := L) (xs := strL zs) (fun i H'' => Same H' H'' ∧ H'' Y = some (.lst (strL ((zs.take i).filter (fun z => decide (z ≠ e.w)))))) ⟨sm_upd nY, by rw [upd_same]; rfl⟩ ?_ ?_ ?_
        · rintro j H'' _ ⟨s'', _⟩
          exact SqL.of (s'' _ _ eL)
        · rintro j x H'' hx ⟨s'', eY⟩
          obtain ⟨z, hz1, rfl⟩ : ∃ z, zs[j]? = some z ∧ V.str z = x := by
            have hx : (zs.map V.str)[j]? = some x := hx
            rw [List.getElem?_map, Option.map_eq_some_iff] at hx
            exact hx
          have lf : (strL ((zs.take j).filter (fun z => decide (z ≠ e.w)))).length ≤ 500 := by
            show (List.map V.str _).length ≤ 500
            rw [List.length_map]
            refine Nat.le_trans (List.length_filter_le _ _) ?_
            rw [List.length_take]
            omega
          have tj : zs.take (j + 1) = zs.take j ++ [z] := by
            rw [List.take_add_one, hz1]
            rfl
          refine ⟨rfl, _, rfl, _, rfl, rfl, _, rfl, ite2 (fun c => ?_) (fun c => ?_)⟩
          · have ne : z ≠ e.w := fun q => by
              rw [q] at c
              simp at c
            refine ⟨_, rfl, _, eY, small1000 (by omega), fun b o eb => ?_, ?_⟩
            · rw [upd_ne (ne_of_none eb nY)]
              exact s'' _ _ eb
            · have e1 : [z].filter (fun z => decide (z ≠ e.w)) = [z] := by simp [ne]
              rw [upd_same, tj, List.filter_append, e1]
              show some (HO.lst (List.map V.str _ ++ [V.str z])) = some (HO.lst (List.map V.str _))
              rw [List.map_append]
              rfl
          · have eq : z = e.w := by
              by_cases q : z = e.w
              · exact q
              · exact absurd (show (!decide (V.str z = V.str e.w)) = true by simp [q]) c
            refine ⟨s'', ?_⟩
            have e1 : [z].filter (fun z => decide (z ≠ e.w)) = [] := by simp [eq]
            rw [tj, List.filter_append, e1, List.append_nil]
            exact eY
        rintro H3 ⟨s3, eY⟩
        have ll : (strL zs).length = zs.length := List.length_map _
        rw [ll, List.take_length] at eY
        have lf : (zs.filter (fun z => decide (z ≠ e.w))).length ≤ zs.length := List.length_filter_le _ _
        have fin : ∀ (us : List Str) (N : Addr) (H4 : Hp), Same H3 H4 → H4 N = none → us.length ≤ 1 → (∀ w, w ∈ us ↔ (w = e.w ∧ b = false)) → ∃ (L : Addr) (y4 y5 y6 : Option V) (zs' : List Str), [some (.ref F), some u, some (.ref G), some (.ref N), some (.int e.m), some (.str e.w), some (.bl b), none] = [some (.ref F), some u, some (.ref G), some (.ref L), y4, y5, y6, none] ∧ Same H2 (upd H4 N (.lst (strL (zs.filter (fun z => decide (z ≠ e.w))) ++ strL us))) ∧ (upd H4 N (.lst (strL (zs.filter (fun z => decide (z ≠ e.w))) ++ strL us))) L = some (.lst (strL zs')) ∧ zs'.length ≤ i + 1 ∧ ∀ w, w ∈ zs' ↔ truOf (gs.take (i + 1)) w = false := fun us N H4 s4 nN lu hu => by
          refine ⟨N, _, _, _, zs.filter (fun z => decide (z ≠ e.w)) ++ us, rfl, s'.trans (s3.trans (s4.trans (sm_upd nN))), ?_, by rw [List.length_append]; omega, fun w => ?_⟩
          · rw [upd_same]
            unfold strL
            rw [List.map_append]
          · rw [take1 he, truOf_snoc, hx, List.mem_append, hu w, List.mem_filter, hz w]
            show (_ ∧ decide (w ≠ e.w) = true) ∨ _ ↔ (if e.w = w then b else truOf (gs.take i) w) = false
            by_cases c : e.w = w
            · rw [if_pos c]
              simp [c]
            · have c' : w ≠ e.w := fun q => c q.symm
              rw [if_neg c]
              simp [c']
        refine ⟨_, rfl, len10 (by simp), fun l2 n2 => ⟨_, rfl, b, rfl, .inr ⟨!b, rfl, l2, _, _, rfl, rfl, upd_same, ?_⟩⟩⟩
        have z2 := sm_upd (o := .lst [.str e.w]) n2
        have ly : (strL (zs.filter (fun z => decide (z ≠ e.w)))).length = (zs.filter (fun z => decide (z ≠ e.w))).length := List.length_map _
        cases b with
        | true =>
          refine ⟨by decide, by decide, by show 1 * 0 ≤ _; omega, fun l3 n3 => ?_⟩
          have z3 := sm_upd (o := .lst (List.replicate (0 : Int).toNat [V.str e.w]).flatten) n3
          refine ⟨Y, l3, _, _, rfl, rfl, z3 _ _ (z2 _ _ eY), upd_same, ?_, fun N nN => ?_⟩
          · show _ + 0 ≤ _
            rw [ly]
            exact Nat.le_of_lt (small1000 (by omega))
          · exact fin [] N _ (z2.trans z3) nN (by simp) (by simp)
        | false =>
          refine ⟨by decide, by decide, by show 1 * 1 ≤ _; exact Nat.le_of_lt (small1000 (by omega)), fun l3 n3 => ?_⟩
          have z3 := sm_upd (o := .lst (List.replicate (1 : Int).toNat [V.str e.w]).flatten) n3
          refine ⟨Y, l3, _, _, rfl, rfl, z3 _ _ (z2 _ _ eY), upd_same, ?_, fun N nN => ?_⟩
          · show _ + 1 ≤ _
            rw [ly]
            exact Nat.le_of_lt (small1000 (by omega))
          · exact fin [e.w] N _ (z2.trans z3) nN (by simp) (by simp)
    rintro σ H3 ⟨L, y4, y5, y6, zs, rfl, s3, eL, lz, hz⟩
    rw [l1] at lz hz
    rw [List.take_length] at hz
    have eG3 := s3 _ _ eG
    have hG3 := hG.kp (.same s3)
    refine ⟨_, rfl, G, rfl, ⟨_, SqL.of eG3⟩, fun Y nY => ?_⟩
    refine lc_list (K := K) (a := G) (xs := vs1) (fun i H' => Same H3 H' ∧ ∃ vs', H' Y = some (.lst vs') ∧ vs'.length ≤ i ∧ RepL H' vs' (repsOf gs (gs.take i))) ⟨sm_upd nY, [], upd_same, Nat.le_refl _, .nil⟩ ?_ ?_ ?_
    · rintro i H' _ ⟨s', _⟩
      exact SqL.of (s' _ _ eG3)
    · rintro i x H' hx ⟨s', vs', eY, lv, hR⟩
      obtain ⟨r, e, rfl, ⟨v, er, hv⟩, he⟩ := (hG3.kp (.same s')).at hx
      have hi := (List.getElem?_eq_some_iff.mp he).1
      refine ⟨r, _, rfl, SqT.of er, rfl, _, _, rfl, _, _, rfl, _, _, rfl, rfl, ?_⟩
      have tk := take1 he
      have fz : (strL zs).all flatV = true := by
        rw [List.all_eq_true]
        intro v hv
        obtain ⟨z, _, rfl⟩ := List.mem_map.mp hv
        rfl
      cases hx : e.x with
      | tr b =>
        rw [hx] at hv
        obtain rfl : v = .bl b := hv
        refine ⟨rfl, _, rfl, _, _, _, _, true, rfl, .ty "bool", .base (.bl b), kit_ty kbb, true, rfl, iteF (iteF ⟨s', vs', eY, by omega, ?_⟩)⟩
        rw [tk, repsOf_snoc, hx, List.append_nil]
        exact hR
      | rd d =>
        rw [hx] at hv
        obtain ⟨a, rfl, ha⟩ : ∃ a, v = .ref a ∧ H' a = some (rcO d) := hv
        refine ⟨rfl, _, rfl, _, _, _, _, false, rfl, .ty "bool", .base (.tup ha), kit_ty ktb, false, rfl, iteT ?_⟩
        refine ⟨_, rfl, _, rfl, L, _, rfl, .inl (SqL.of (s' _ _ eL)), rfl, fz, ?_⟩
        rw [if_pos rfl, inV_str]
        have lb := lv
        refine ⟨_, rfl, ite2 (fun c => ?_) (fun c => ?_)⟩
        · have ct : truOf gs e.w = true := by
            have c : (!decide (e.w ∈ zs)) = true := c
            have nm : e.w ∉ zs := by simpa using c
            cases q : truOf gs e.w with
            | true => rfl
            | false => exact absurd ((hz _).mpr q) nm
          refine ⟨_, rfl, _, rfl, len10 (by simp), fun t' nt => ?_⟩
          have zt := sm_upd (o := .tup [.str e.w, .ref a]) nt
          refine ⟨vs', zt _ _ eY, small1000 (by omega), fun b' o' eb => ?_, vs' ++ [.ref t'], upd_same, by rw [List.length_append]; show vs'.length + 1 ≤ i + 1; omega, ?_⟩
          · rw [upd_ne (ne_of_none eb nY)]
            exact zt _ _ (s' _ _ eb)
          · rw [tk, repsOf_snoc, hx]
            show RepL _ _ (repsOf gs (gs.take i) ++ (if truOf gs e.w = true then [(e.w, d)] else []))
            rw [if_pos ct]
            have kp : TupKp (upd H' t' (.tup [.str e.w, .ref a])) (upd (upd H' t' (.tup [.str e.w, .ref a])) Y (.lst (vs' ++ [.ref t']))) := fun b' xs' eb => by
              rw [upd_ne (fun z => by rw [z, zt _ _ eY] at eb; cases eb)]
              exact eb
            exact ((hR.kp (.same zt)).kp kp).snoc (kp _ _ upd_same) (kp _ _ (zt _ _ ha))
        · have ct : ¬ truOf gs e.w = true := fun q => c (by
            have nm : e.w ∉ zs := fun m => by
              rw [(hz _).mp m] at q
              cases q
            simp [nm])
          refine ⟨s', vs', eY, by omega, ?_⟩
          rw [tk, repsOf_snoc, hx]
          show RepL _ _ (repsOf gs (gs.take i) ++ (if truOf gs e.w = true then [(e.w, d)] else []))
          rw [if_neg ct, List.append_nil]
          exact hR
    rintro H' ⟨s', vs', eY, lv, hR⟩
    rw [l1, List.take_length] at hR
    exact kk Y H' vs' (nf_of (s1.trans s3) nY) (s1.trans (s3.trans s')) eY hR
end
end Lf
namespace Lf
open PySem PySem.Spec PyProof.Rows L2
/-! ### data in lists and tuples that stay -/
mutual
inductive Da (H : Hp) : V → PyData → Prop
  | non : Da H .non .none
  | bl (b : Bool) : Da H (.bl b) (.bool b)
  | int (i : Int) : Da H (.int i) (.int i)
  | str (x : Str) : Da H (.str x) (.str x)
  | lst {a : Addr} {xs : List V} {ds : List PyData} : H a = some (.lst xs) → DaAll H xs ds → Da H (.ref a) (.list ds)
  | tup {a : Addr} {xs : List V} {ds : List PyData} : H a = some (.tup xs) → DaAll H xs ds → Da H (.ref a) (.tuple ds)
inductive DaAll (H : Hp) : List V → List PyData → Prop
  | nil : DaAll H [] []
  | cons {v : V} {vs : List V} {d : PyData} {ds : List PyData} : Da H v d → DaAll H vs ds → DaAll H (v :: vs) (d :: ds)
end
/-- lists and tuples stay -/
structure LtK (H H' : Hp) : Prop where
  l : ∀ b xs, H b = some (.lst xs) → H' b = some (.lst xs)
  t : ∀ b xs, H b = some (.tup xs) → H' b = some (.tup xs)
theorem LtK.same {H H' : Hp} (s : Same H H') : LtK H H' := ⟨fun b xs e => s _ _ e, fun b xs e => s _ _ e⟩
theorem LtK.fr {H H' : Hp} (f : Fr H H') : LtK H H' := ⟨f.l, f.t⟩
theorem LtK.trans {H H1 H2 : Hp} (a : LtK H H1) (b : LtK H1 H2) : LtK H H2 := ⟨fun c xs e => b.l _ _ (a.l _ _ e), fun c xs e => b.t _ _ (a.t _ _ e)⟩
theorem LtK.ext {H H' : Hp} (e : LamX.ExtN H H') : LtK H H' := ⟨(ext_kp e).l, (ext_kp e).t⟩
mutual
theorem Da.kp {H H' : Hp} (f : LtK H H') : ∀ (d : PyData) (v : V), Da H v d → Da H' v d
  | .none, _, .non => .non
  | .bool _, _, .bl b => .bl b
  | .int _, _, .int i => .int i
  | .str _, _, .str x => .str x
  | .list ds, _, .lst h hs => .lst (f.l _ _ h) (Da.kpAll f ds _ hs)
  | .tuple ds, _, .tup h hs => .tup (f.t _ _ h) (Da.kpAll f ds _ hs)
theorem Da.kpAll {H H' : Hp} (f : LtK H H') : ∀ (ds : List PyData) (vs : List V), DaAll H vs ds → DaAll H' vs ds
  | [], _, .nil => .nil
  | d :: ds, _, .cons h hs => .cons (Da.kp f d _ h) (Da.kpAll f ds _ hs)
end
mutual
theorem Da.dp {K : PySem.W.Frag} {H : Hp} : ∀ (d : PyData) (v : V), Da H v d → Dp K H v d
  | .none, _, .non => .non
  | .bool _, _, .bl b => .bl b
  | .int _, _, .int i => .int i
  | .str _, _, .str x => .str x
  | .list ds, _, .lst h hs => .lst (SqL.of h) (Da.dpAll ds _ hs)
  | .tuple ds, _, .tup h hs => .tup (SqT.of h) (Da.dpAll ds _ hs)
theorem Da.dpAll {K : PySem.W.Frag} {H : Hp} : ∀ (ds : List PyData) (vs : List V), DaAll H vs ds → DpAll K H vs ds
  | [], _, .nil => .nil
  | d :: ds, _, .cons h hs => .cons (Da.dp d _ h) (Da.dpAll ds _ hs)
end
theorem DaAll.len {H : Hp} : ∀ {vs : List V} {ds : List PyData}, DaAll H vs ds → vs.length = ds.length
  | [], [], .nil => rfl
  | _ :: _, _ :: _, .cons _ h => congrArg (· + 1) h.len
theorem DaAll.app {H : Hp} : ∀ {vs us : List V} {ds es : List PyData}, DaAll H vs ds → DaAll H us es → DaAll H (vs ++ us) (ds ++ es)
  | [], _, [], _, .nil, g => g
  | _ :: _, _, _ :: _, _, .cons a h, g => .cons a (h.app g)
theorem DaAll.take {H : Hp} : ∀ {vs : List V} {ds : List PyData} (n : Nat), DaAll H vs ds → DaAll H (vs.take n) (ds.take n)
  | _, _, 0, _ => by rw [List.take_zero, List.take_zero]; exact .nil
  | [], [], n + 1, .nil => .nil
  | _ :: _, _ :: _, n + 1, .cons a h => .cons a (h.take n)
theorem da_recs {H : Hp} {xs : List V} {ds : List Rec} (h : Obs rcO H xs ds) : DaAll H xs (ds.map rcD) := by
  induction h with
  | nil => exact .nil
  | cons e _ ih => exact .cons (.tup e (.cons (.str _) (.cons (.int _) (.cons (.int _) .nil)))) ih
theorem da_words {H : Hp} : ∀ zs : List Str, DaAll H (strL zs) (zs.map PyData.str)
  | [] => .nil
  | z :: zs => .cons (.str z) (da_words zs)
theorem end_da {H : Hp} {k : Nat} {v : V} {e : Option (Int × Int)} (h : EndV H k v e) : Da H v (endD e) := by
  cases e with
  | none =>
    have h : v = .non := h
    subst h
    exact .non
  | some e =>
    obtain ⟨a, rfl, ea, _⟩ := h
    exact .tup ea (.cons (.int _) (.cons (.int _) .nil))
theorem rv_da {H : Hp} {k : Nat} {v : V} {lo up : Option T4} (h : RV H k v lo up) : Da H v (resD lo up) := by
  unfold resD
  rcases h with ⟨e, rfl⟩ | ⟨e, T, a, b, rfl, eT, h1, h2⟩
  · rw [if_pos e]
    exact .non
  · rw [if_neg (by rw [e]; exact Bool.false_ne_true)]
    exact .tup eT (.cons (end_da h1) (.cons (end_da h2) .nil))
/-! ### the answers of a log, as data -/
def wtP : Wt → PyData
  | .rd d => rcD d
  | .tr b => .bool b
def enP (e : En) : PyData := .tuple [.int e.m, .str e.w, wtP e.x]
theorem da_wt {H : Hp} {x : Wt} {v : V} (h : WtAt H x v) : Da H v (wtP x) := by
  cases x with
  | rd d =>
    obtain ⟨a, rfl, ha⟩ := h
    exact .tup ha (.cons (.str _) (.cons (.int _) (.cons (.int _) .nil)))
  | tr b =>
    have h : v = .bl b := h
    subst h
    exact .bl b
theorem da_ens {H : Hp} : ∀ {vs : List V} {es : List En}, EnL H vs es → DaAll H vs (es.map enP)
  | _, _, .nil => .nil
  | _, _, .cons ⟨v, er, hv⟩ h => .cons (.tup er (.cons (.int _) (.cons (.str _) (.cons (da_wt hv) .nil)))) (da_ens h)
def oP : Option Int → PyData
  | none => .none
  | some x => .int x
theorem da_o {H : Hp} (o : Option Int) : Da H (oV o) (oP o) := by
  cases o
  · exact .non
  · exact .int _
def noP : PyData := .str "no rule"
def recO (gs : List En) : List Rec := (repsOf gs gs).map (·.2)
def ARat (gs : List En) (d : PyData) : Prop := ∃ lo up, LoOk (SD (recO gs)) lo ∧ UpOk (SD (recO gs)) up ∧ d = resD lo up
def ACnt (gs : List En) (x : Int) (d : PyData) : Prop := (Cf (recO gs) ∧ d = noP) ∨ (¬ Cf (recO gs) ∧ ∃ a b, LCnt (recO gs) x a ∧ GCnt (recO gs) x b ∧ d = .tuple [oP a, oP b])
def ALst (gs : List En) (d : PyData) : Prop := (Cf (recO gs) ∧ d = noP) ∨ (¬ Cf (recO gs) ∧ ∃ p q c, LeastR (recO gs) p q c ∧ d = .tuple [.int p, .int q, .int c])
inductive ACnts (gs : List En) : List Int → List PyData → Prop
  | nil : ACnts gs [] []
  | cons {x : Int} {xs : List Int} {d : PyData} {ds : List PyData} : ACnt gs x d → ACnts gs xs ds → ACnts gs (x :: xs) (d :: ds)
theorem ARat.one {gs : List En} {d d' : PyData} (h : ARat gs d) (g : ARat gs d') : d = d' := by
  obtain ⟨lo, up, h1, h2, rfl⟩ := h
  obtain ⟨lo', up', g1, g2, rfl⟩ := g
  have e1 := lo_same h1 g1 (fun x y s => ⟨x, y, s, rfl, rfl⟩) (fun x y s => ⟨x, y, s, rfl, rfl⟩)
  have e2 := up_same h2 g2 (fun x y s => ⟨x, y, s, rfl, rfl⟩) (fun x y s => ⟨x, y, s, rfl, rfl⟩)
  unfold resD
  rw [nr_same e1 e2, lowE_same e1, highE_same e2]
theorem gcnt_one {ds : List Rec} {t : Int} {a b : Option Int} (h : GCnt ds t a) (g : GCnt ds t b) : a = b := by
  match a, b, h, g with
  | none, none, _, _ => rfl
  | some x, some y, ⟨h1, p, q, c, f, e⟩, ⟨g1, p', q', c', f', e'⟩ =>
    have := h1 _ _ _ f'
    have := g1 _ _ _ f
    congr 1
    omega
  | none, some y, h, ⟨g1, _⟩ =>
    obtain ⟨p, q, c, f, e⟩ := h y
    have := g1 _ _ _ f
    omega
  | some x, none, ⟨h1, _⟩, g =>
    obtain ⟨p, q, c, f, e⟩ := g x
    have := h1 _ _ _ f
    omega
theorem ACnt.one {gs : List En} {x : Int} {d d' : PyData} (h : ACnt gs x d) (g : ACnt gs x d') : d = d' := by
  rcases h with ⟨h1, rfl⟩ | ⟨h1, a, b, ha, hb, rfl⟩
  · rcases g with ⟨g1, rfl⟩ | ⟨g1, _⟩
    · rfl
    · exact absurd h1 g1
  · rcases g with ⟨g1, _⟩ | ⟨g1, a', b', ha', hb', rfl⟩
    · exact absurd g1 h1
    · rw [lcnt_uniq ha ha', gcnt_one hb hb']
theorem ACnts.one {gs : List En} : ∀ {xs : List Int} {ds ds' : List PyData}, ACnts gs xs ds → ACnts gs xs ds' → ds = ds'
  | _, _, _, .nil, .nil => rfl
  | _, _, _, .cons h1 h2, .cons g1 g2 => by rw [h1.one g1, h2.one g2]
theorem ALst.one {gs : List En} {d d' : PyData} (h : ALst gs d) (g : ALst gs d') : d = d' := by
  rcases h with ⟨h1, rfl⟩ | ⟨h1, p, q, c, ha, rfl⟩
  · rcases g with ⟨g1, rfl⟩ | ⟨g1, _⟩
    · rfl
    · exact absurd h1 g1
  · rcases g with ⟨g1, _⟩ | ⟨g1, p', q', c', ha', rfl⟩
    · exact absurd g1 h1
    · obtain ⟨e1, e2, e3⟩ := ha.uniq ha'
      rw [e1, e2, e3]
/-! ### their shape -/
def Shp (n : Nat) (d : PyData) : Prop := d.canLay0 = true ∧ d.depth ≤ n
theorem Shp.mono {n m : Nat} {d : PyData} (h : Shp n d) (e : n ≤ m) : Shp m d := ⟨h.1, Nat.le_trans h.2 e⟩
theorem shp_all {n : Nat} : ∀ {ds : List PyData}, (∀ d ∈ ds, Shp n d) → PyData.canLayAll0 ds = true ∧ PyData.depthAll ds ≤ n
  | [], _ => ⟨rfl, Nat.zero_le _⟩
  | d :: ds, h => by
    obtain ⟨i1, i2⟩ := shp_all (ds := ds) fun x hx => h x (List.mem_cons_of_mem _ hx)
    obtain ⟨j1, j2⟩ := h d List.mem_cons_self
    refine ⟨by simp [PyData.canLayAll0, i1, j1], ?_⟩
    simp only [PyData.depthAll]
    omega
theorem shp_list {n : Nat} {ds : List PyData} (h : ∀ d ∈ ds, Shp n d) : Shp (n + 1) (.list ds) := by
  obtain ⟨h1, h2⟩ := shp_all h
  exact ⟨by simpa [PyData.canLay0] using h1, by simp only [PyData.depth]; omega⟩
theorem shp_tup {n : Nat} {ds : List PyData} (h : ∀ d ∈ ds, Shp n d) : Shp (n + 1) (.tuple ds) := by
  obtain ⟨h1, h2⟩ := shp_all h
  exact ⟨by simpa [PyData.canLay0] using h1, by simp only [PyData.depth]; omega⟩
theorem shp_sh {n : Nat} {d : PyData} (h : Shp n d) (e : n ≤ 64) : SeqAt.shaped d = true := by
  show (PyData.canLay0 d && decide (d.depth ≤ 64)) = true
  rw [h.1, decide_eq_true (Nat.le_trans h.2 e)]
  rfl
theorem shp_int (i : Int) : Shp 0 (.int i) := ⟨rfl, Nat.le_refl _⟩
theorem shp_str {z : Str} (h : PyData.strOk z = true) : Shp 0 (.str z) := ⟨by simpa [PyData.canLay0] using h, Nat.le_refl _⟩
theorem strOk_wit {z : Str} (h : WitW z) : PyData.strOk z = true := by
  show z.cps.all (· < 0x110000) = true
  rw [← Array.all_toList, List.all_eq_true]
  intro c hc
  have := h.2.2 c hc
  exact decide_eq_true (by omega)
theorem shp_rec (d : Rec) : Shp 1 (rcD d) := by
  refine shp_tup fun x hx => ?_
  simp only [List.mem_cons, List.not_mem_nil, or_false] at hx
  rcases hx with rfl | rfl | rfl
  · exact shp_str (by cases d.lo <;> decide +kernel)
  · exact shp_int _
  · exact shp_int _
theorem shp_en {e : En} (h : WitW e.w) : Shp 2 (enP e) := by
  refine shp_tup fun x hx => ?_
  simp only [List.mem_cons, List.not_mem_nil, or_false] at hx
  rcases hx with rfl | rfl | rfl
  · exact (shp_int _).mono (by decide)
  · exact (shp_str (strOk_wit h)).mono (by decide)
  · cases e.x with
    | rd d => exact shp_rec d
    | tr b => exact ⟨rfl, Nat.zero_le _⟩
theorem shp_end (e : Option (Int × Int)) : Shp 1 (endD e) := by
  cases e with
  | none => exact ⟨rfl, Nat.zero_le _⟩
  | some e =>
    refine shp_tup fun x hx => ?_
    simp only [List.mem_cons, List.not_mem_nil, or_false] at hx
    rcases hx with rfl | rfl
    · exact shp_int _
    · exact shp_int _
theorem shp_res (lo up : Option T4) : Shp 2 (resD lo up) := by
  unfold resD
  split
  · exact ⟨rfl, Nat.zero_le _⟩
  · refine shp_tup fun x hx => ?_
    simp only [List.mem_cons, List.not_mem_nil, or_false] at hx
    rcases hx with rfl | rfl
    · exact shp_end _
    · exact shp_end _
theorem shp_no : Shp 0 noP := shp_str (by decide +kernel)
theorem shp_o (o : Option Int) : Shp 0 (oP o) := by
  cases o
  · exact ⟨rfl, Nat.le_refl _⟩
  · exact shp_int _
theorem repsOf_wit {es : List En} : ∀ {ts : List En} {p : Str × Rec}, p ∈ repsOf es ts → ∃ e ∈ ts, e.w = p.1
  | [], _, h => nomatch h
  | e :: r, p, h => by
    have up : p ∈ repsOf es r → ∃ e' ∈ e :: r, e'.w = p.1 := fun z => by
      obtain ⟨e', h1, h2⟩ := repsOf_wit z
      exact ⟨e', List.mem_cons_of_mem _ h1, h2⟩
    unfold repsOf at h
    cases hx : e.x with
    | tr b =>
      rw [hx] at h
      exact up h
    | rd d =>
      rw [hx] at h
      have h : p ∈ (if truOf es e.w = true then (e.w, d) :: repsOf es r else repsOf es r) := h
      by_cases c : truOf es e.w = true
      · rw [if_pos c] at h
        rcases List.mem_cons.mp h with rfl | h
        · exact ⟨e, List.mem_cons_self, rfl⟩
        · exact up h
      · rw [if_neg c] at h
        exact up h
theorem ACnts.shp {gs : List En} : ∀ {xs : List Int} {cs : List PyData}, ACnts gs xs cs → ∀ d ∈ cs, Shp 3 d
  | _, _, .nil, _, hd => nomatch hd
  | _, _, .cons h h2, d, hd => by
    rcases List.mem_cons.mp hd with rfl | hd
    · rcases h with ⟨_, rfl⟩ | ⟨_, a, b, _, _, rfl⟩
      · exact shp_no.mono (by decide)
      · refine (shp_tup (n := 0) fun x hx => ?_).mono (by decide)
        simp only [List.mem_cons, List.not_mem_nil, or_false] at hx
        rcases hx with rfl | rfl
        · exact shp_o _
        · exact shp_o _
    · exact h2.shp d hd
/-- data that is the same is not unlike -/
theorem ne_da {K : PySem.W.Frag} {H : Hp} {x y : V} {d : PyData} {n : Nat} {Q : V → Hp → Prop} (h1 : Da H x d) (h2 : Da H y d) (s : Shp n d) (e : n ≤ 64) (q : Q (.bl false) H) : rNeD K x y H Q := by
  refine ⟨d, d, Da.dp _ _ h1, Da.dp _ _ h2, shp_sh s e, shp_sh s e, ?_⟩
  rw [SeqAt.eqv_refl _ s.1]
  exact q
end Lf
namespace Lf
open PySem PySem.Spec PyProof.Rows L2
/-! ### count_range and least_rule of a log -/
theorem rcs_recO (es : List En) (t : Option Int) : rcs es t = recO (es.filter (upB t)) := rfl
section
variable {P : Program} {w : World} {K : PySem.W.Frag} {mg : Str → Option Value} {base : Heap} {C CN : Addr}
def spCntL (C CN : Addr) : Sp := fun vs H Q E => ∃ (o D : Addr) (x : Int) (u : V) (t : Option Int) (ms es : List En), vs = [.ref o, .int x, u] ∧ LogAt C H o D ms ∧ ms.Perm es ∧ (es.map (·.m)).Pairwise (· < ·) ∧ UntV u t ∧ es.length ≤ 500 ∧ (∀ e ∈ es, WtB e.x) ∧ Bd 1000 x ∧
  (¬ Cf (rcs es t) → ∀ T H' a b, Same H H' → H' T = some (.tup [oV a, oV b]) → LCnt (rcs es t) x a → GCnt (rcs es t) x b → Q (.ref T) H') ∧ (Cf (rcs es t) → ∀ H', Same H H' → E (.ref CN) none H')
abbrev s_Log_count_range : Stmt := (C8.clsBody (topS 59)).getD 12 (.Pass ⟨0, 0, 0, 0⟩)
abbrev N_Log_count_range : List Str := ["self", "time", "until"]
abbrev P_Log_count_range : List Str := ["self", "time", "until"]
theorem sc_Log_count_range : FnScope N_Log_count_range P_Log_count_range (defScope s_Log_count_range) := ⟨rfl, rfl, rfl, by decide +kernel, rfl, by decide +kernel, by decide +kernel⟩
theorem okX_Log_count_range (TK : LgT K mg C) (D : DmO K C "count_range" "Log.count_range" s_Log_count_range P_Log_count_range 2 "until") (cO_Log_records : MetO P w K mg base 3 C "records" (spRecs C) 1 "until") (c_check_integer : C8.Cal P w K mg base 2 "check_integer" spCheckInt []) (c_range_at : C8.Cal P w K mg base 6 "range_at" spRangeAt []) (cx_range_at : CalX P w K mg base 6 "range_at" (spNoRT 1000 CN)) : MetX P w K mg base 7 C "count_range" (spCntL C CN) 2 "until" := by
  refine metx_of TK.c.cl D sc_Log_count_range (fun vs H Q E h => ?_) (fun f cdv A outer s H vs Q E hr h => ?_)
  · obtain ⟨o, D, x, u, t, ms, es, rfl, _⟩ := h
    rfl
  · obtain ⟨o, D, x, u, t, ms, es, rfl, hL, pm, pw, hu', le, hw, bx, kk, ke⟩ := h
    obtain ⟨dx, eo⟩ := hL.o
    have lm := pm.length_eq
    have bR : RcB 300 (rcs es t) := rcs_bd hw t
    have lR := rcs_len le t
    have lR2 : (rcs es t).length ≤ es.length := by
      unfold rcs
      rw [List.length_map]
      exact Nat.le_trans (repsOf_len _ _) (List.length_filter_le _ _)
    by_cases hc : Cf (rcs es t)
    · refine ⟨_, (pss_cons (ps_expr (C8.pe_c c_check_integer hr (by decide) (by rfl) (pa_cons (pv 1) pa_nil)))
    (pss_one (ps_ret (pe_cx cx_range_at hr (by decide) (takes_of rfl rfl rfl rfl) (by rfl) (pa_cons (pe_mkw (pv 0) cO_Log_records hr (by decide) (pk_cons (pv 2) pk_nil)) (pa_cons (pv 1) pa_nil)))))), ?_⟩
      refine ⟨_, rfl, x, rfl, ?_⟩
      refine ⟨_, rfl, o, dx, _, rfl, eo, rfl, _, rfl, rfl, o, D, u, t, ms, rfl, hL, hu', by omega, fun F H1 vs1 fs s1 nF eF pf srt oR => ?_⟩
      obtain rfl := en_sorted (pf.trans pm) srt pw
      have oR : Obs rcO H1 vs1 (rcs fs t) := oR
      exact ⟨_, rfl, F, true, vs1, rcs fs t, 300, x, rfl, eF, oR, by omega, bR, by decide, by decide, hc, fun H2 s2 => ke hc H2 (s1.trans s2)⟩
    · refine ⟨_, (pss_cons (ps_expr (C8.pe_c c_check_integer hr (by decide) (by rfl) (pa_cons (pv 1) pa_nil)))
    (pss_one (ps_ret (C8.pe_c c_range_at hr (by decide) (by rfl) (pa_cons (pe_mkw (pv 0) cO_Log_records hr (by decide) (pk_cons (pv 2) pk_nil)) (pa_cons (pv 1) pa_nil)))))), ?_⟩
      refine ⟨_, rfl, x, rfl, ?_⟩
      refine ⟨_, rfl, o, dx, _, rfl, eo, rfl, _, rfl, rfl, o, D, u, t, ms, rfl, hL, hu', by omega, fun F H1 vs1 fs s1 nF eF pf srt oR => ?_⟩
      obtain rfl := en_sorted (pf.trans pm) srt pw
      have oR : Obs rcO H1 vs1 (rcs fs t) := oR
      exact ⟨_, rfl, F, true, vs1, rcs fs t, 300, 1000, x, rfl, eF, oR, by omega, bR, by decide, by decide, hc, by decide, by decide, bx, fun T H2 a b s2 nT eT la gb _ _ => kk hc T H2 a b (s1.trans s2) eT la gb⟩
def spLstL (C CN : Addr) : Sp := fun vs H Q E => ∃ (o D : Addr) (u : V) (t : Option Int) (ms es : List En), vs = [.ref o, u] ∧ LogAt C H o D ms ∧ ms.Perm es ∧ (es.map (·.m)).Pairwise (· < ·) ∧ UntV u t ∧ es.length ≤ 500 ∧ (∀ e ∈ es, WtB e.x) ∧
  (¬ Cf (rcs es t) → ∀ H' r p q c, Same H H' → H' r = some (.tup [.int p, .int q, .int c]) → RuleB 610 p q c → (rcs es t).all (fitB p q c) = true → LeastR (rcs es t) p q c → Q (.ref r) H') ∧ (Cf (rcs es t) → ∀ H', Same H H' → E (.ref CN) none H')
abbrev s_Log_least_rule : Stmt := (C8.clsBody (topS 59)).getD 11 (.Pass ⟨0, 0, 0, 0⟩)
abbrev N_Log_least_rule : List Str := ["self", "until"]
abbrev P_Log_least_rule : List Str := ["self", "until"]
theorem sc_Log_least_rule : FnScope N_Log_least_rule P_Log_least_rule (defScope s_Log_least_rule) := ⟨rfl, rfl, rfl, by decide +kernel, rfl, by decide +kernel, by decide +kernel⟩
theorem okX_Log_least_rule (TK : LgT K mg C) (D : DmO K C "least_rule" "Log.least_rule" s_Log_least_rule P_Log_least_rule 1 "until") (cO_Log_records : MetO P w K mg base 3 C "records" (spRecs C) 1 "until") (c_fitting_rule : C8.Cal P w K mg base 5 "fitting_rule" (spFitR 1000) []) (cx_fitting_rule : CalX P w K mg base 5 "fitting_rule" (spNoR 1000 CN)) : MetX P w K mg base 6 C "least_rule" (spLstL C CN) 1 "until" := by
  refine metx_of TK.c.cl D sc_Log_least_rule (fun vs H Q E h => ?_) (fun f cdv A outer s H vs Q E hr h => ?_)
  · obtain ⟨o, D, u, t, ms, es, rfl, _⟩ := h
    rfl
  · obtain ⟨o, D, u, t, ms, es, rfl, hL, pm, pw, hu', le, hw, kk, ke⟩ := h
    obtain ⟨dx, eo⟩ := hL.o
    have lm := pm.length_eq
    have bR : RcB 300 (rcs es t) := rcs_bd hw t
    have lR := rcs_len le t
    by_cases hc : Cf (rcs es t)
    · refine ⟨_, (pss_one (ps_ret (pe_cx cx_fitting_rule hr (by decide) (takes_of rfl rfl rfl rfl) (by rfl) (pa_cons (pe_mkw (pv 0) cO_Log_records hr (by decide) (pk_cons (pv 1) pk_nil)) pa_nil)))), ?_⟩
      refine ⟨_, rfl, o, dx, _, rfl, eo, rfl, _, rfl, rfl, o, D, u, t, ms, rfl, hL, hu', by omega, fun F H1 vs1 fs s1 nF eF pf srt oR => ?_⟩
      obtain rfl := en_sorted (pf.trans pm) srt pw
      have oR : Obs rcO H1 vs1 (rcs fs t) := oR
      exact ⟨F, true, vs1, rcs fs t, 300, rfl, eF, oR, by omega, bR, by decide, by decide, hc, fun H2 s2 => ke hc H2 (s1.trans s2)⟩
    · refine ⟨_, (pss_one (ps_ret (C8.pe_c c_fitting_rule hr (by decide) (by rfl) (pa_cons (pe_mkw (pv 0) cO_Log_records hr (by decide) (pk_cons (pv 1) pk_nil)) pa_nil)))), ?_⟩
      refine ⟨_, rfl, o, dx, _, rfl, eo, rfl, _, rfl, rfl, o, D, u, t, ms, rfl, hL, hu', by omega, fun F H1 vs1 fs s1 nF eF pf srt oR => ?_⟩
      obtain rfl := en_sorted (pf.trans pm) srt pw
      have oR : Obs rcO H1 vs1 (rcs fs t) := oR
      exact ⟨F, true, vs1, rcs fs t, 300, rfl, eF, oR, by omega, bR, by decide, by decide, hc, fun H2 r p q c s2 er R fa lr => kk hc H2 r p q c (s1.trans s2) er R fa lr⟩
end
end Lf
namespace Lf
open PySem PySem.Spec PyProof.Rows L2
/-! ### _law_caught: what a call gives, or "no rule" -/
def NoRc (C : Addr) (Q : VK) : XK := fun cls _ H' => cls = .ref C ∧ Q (.str "no rule") H'
def TTc (C : Addr) : (XK → Hp → VK → Prop) → Hp → VK → Prop := fun tl H Q => tl (NoRc C Q) H Q
theorem own_meetsC {K : PySem.W.Frag} {mg : Str → Option Value} {nm : Str} {C : Addr} (T : OwnE K mg nm C) : PySem.W.exmOne K (.ref C) (.ref C) = some true := PySem.W.exm_ref T.ex.hs T.ex.hd T.ty T.sf
theorem twoC {α : Type} {l : List α} (h : l.length = 2) : ∃ a b, l = [a, b] := by
  match l, h with
  | [a, b], _ => exact ⟨a, b, rfl⟩
abbrev s_l_caught : Stmt := topS 77
abbrev N_l_caught : List Str := ["_law_call", "_law_found"]
abbrev P_l_caught : List Str := ["_law_call"]
theorem sc_l_caught : FnScope N_l_caught P_l_caught (defScope s_l_caught) := ⟨rfl, rfl, rfl, by decide +kernel, rfl, by decide +kernel, by decide +kernel⟩
theorem gives_caught {X : Cx} {C g : Addr} {cdg : Value} {q : Str} (T : OwnE X.K X.mg "NoRule" C) :
    LamX.GivesTo X N_l_caught "_law_caught" (defScope s_l_caught) g cdg (defBody s_l_caught) "_law_call" q (TTc C) := by
  intro f c' s H Q tl act hc h
  refine ⟨_, pss_cons (ps_set (i := 1) sc_l_caught.nd rfl (Or.inl rfl) pe_non) (pss_cons (ps_try_only (X := (cxOf C8.CX0 X.prog X.w X.K X.mg X.base N_l_caught "_law_caught" (defScope s_l_caught) g cdg X.A X.stack s H C8.E0).nox) (c := .ref C)
      (tb := fun W D σ H => ∃ Ech : XK, (∀ cls d σ' H', Ech cls d H' → σ'.length = 2 → W cls d σ' H') ∧ σ[0]? = some (some (.ref f)) ∧ H c' = some (LamX.CodeO c' q) ∧ tl Ech H (fun v H' => D.nx (σ.set 1 (some v)) H'))
      (ts := fun a cls d D σ H => D.nx (σ.set 1 (some (.str "no rule"))) H)
      rfl rfl ⟨rfl, by decide, .inl T.gC⟩ takes0 (fun W pn xe tk _ => ⟨fun pins s1 σ1 H1 D I h1 => ?hb⟩) (fun a oe cls d pn _ _ => pss_one (ps_set (i := 1) sc_l_caught.nd rfl (Or.inl rfl) pe_str))) (pss_one (ps_ret (pv 1)))), ?_⟩
  case hb =>
    obtain ⟨Ech, hW, h2, h3, h4⟩ := h1
    exact (pss_one (ps_set (i := 1) sc_l_caught.nd rfl (Or.inl rfl) (act (fun cls d σ' H' => σ'.length = 2 → W cls d σ' H') pn xe Ech _ _ (takes_len tk) hW))).run pins s1 σ1 H1 D I ⟨h2, h3, h4⟩
  have e : ∀ v H', (tRet (tVar 1) { nx := fun _ H' => Q .non H', rt := Q } [some (.ref f), some v] H') = Q v H' := fun v H' => propext ⟨fun ⟨x, hx, q⟩ => by cases hx; exact q, fun q => ⟨v, rfl, q⟩⟩
  refine ⟨NoRc C Q, fun cls d σ' H' ⟨e1, e2⟩ hl => ?_, rfl, hc, ?_⟩
  · subst e1
    obtain ⟨s0, s1, rfl⟩ := twoC hl
    exact ⟨true, own_meetsC T, fun _ a na => ⟨_, rfl, e2⟩, fun z => nomatch z⟩
  · have e2 : (fun v H' => tRet (tVar 1) { nx := fun _ H' => Q .non H', rt := Q } [some (.ref f), some v] H') = Q := by
      funext v H'
      exact e v H'
    show tl _ H (fun v H' => tRet (tVar 1) { nx := fun _ H' => Q .non H', rt := Q } [some (.ref f), some v] H')
    rw [e2]
    exact h
end Lf
namespace Lf
open PySem PySem.Spec PyProof.Rows L2
/-! ### a log under ExtN -/
theorem LogAt.ext {C : Addr} {H H' : Hp} {o D : Addr} {es : List En} (h : LogAt C H o D es) (f : LamX.ExtN H H') : LogAt C H' o D es := by
  obtain ⟨⟨dx, h1⟩, ⟨kvs, h2, h3⟩, h4⟩ := h
  exact ⟨⟨dx, f _ _ h1 (fun _ z => by cases z)⟩, ⟨kvs, f _ _ h2 (fun _ z => by cases z), h3.kp fun b xs e => f _ _ e (fun _ z => by cases z)⟩, h4⟩
theorem ext_same {H H' : Hp} (s : Same H H') : LamX.ExtN H H' := fun b o e _ => s b o e
end Lf
namespace Lf
open PySem PySem.Spec PyProof.Rows L2
/-! ### a log's answers and those of its records -/
abbrev qLamR83 : Str := (("_law_is_right" : Str) ++ (".<locals>." : Str)) ++ ("<lambda>" : Str)
structure TbR (TS : List (Addr × Str)) (PT : Addr) : Prop where
  mC : (PT, qLamR83) ∈ TS
  uC : ∀ p ∈ TS, p.1 = PT → p.2 = qLamR83
section
variable {P : Program} {w : World} {K : PySem.W.Frag} {mg : Str → Option Value} {base : Heap} {C CN PT : Addr} {TS : List (Addr × Str)}
def spRight83 (C : Addr) (TS : List (Addr × Str)) : Sp := fun vs H Q _ => ∃ (o D F : Addr) (u : V) (tu : Option Int) (ms es : List En) (x : Int) (xs : List V), vs = [.ref o, .ref F, u, .int x] ∧ LogAt C H o D ms ∧ ms.Perm es ∧ (es.map (·.m)).Pairwise (· < ·) ∧ UntV u tu ∧ es.length ≤ 150 ∧ (∀ e ∈ es, WtB e.x) ∧
  H F = some (.lst xs) ∧ Obs rcO H xs (rcs es tu) ∧ Bd 1000 x ∧ LamX.Tabs TS H ∧ ∀ H', LamX.ExtN H H' → LamX.Tabs TS H' → Q (.bl true) H'
abbrev s_l_is_right : Stmt := topS 78
abbrev N_l_is_right : List Str := ["_law_log_here", "_law_found", "_law_end_here", "_law_t", "_law_told"]
abbrev P_l_is_right : List Str := ["_law_log_here", "_law_found", "_law_end_here", "_law_t"]
theorem sc_l_is_right : FnScope N_l_is_right P_l_is_right (defScope s_l_is_right) := ⟨rfl, rfl, rfl, by decide +kernel, rfl, by decide +kernel, by decide +kernel⟩
theorem ok_l_is_right (DT : DfT K mg base "_law_is_right" s_l_is_right P_l_is_right PT) (T : OwnE K mg "NoRule" CN) (UX : TbR TS PT) (TK : LgT K mg C) (B : Bi mg) (D_l_caught : Df K mg "_law_caught" s_l_caught P_l_caught) (cO_Log_rates : MetO P w K mg base 4 C "rates" (spRatesD C) 1 "until") (c_rates : C8.Cal P w K mg base 4 "rates" (spRateEndsS 200) [])
    (cX_Log_count_range : MetX P w K mg base 7 C "count_range" (spCntL C CN) 2 "until") (cX_Log_least_rule : MetX P w K mg base 6 C "least_rule" (spLstL C CN) 1 "until") (c_count_range : C8.Cal P w K mg base 7 "count_range" spRange []) (cx_count_range : CalX P w K mg base 7 "count_range" (spNoRT 200 CN)) (c_least_rule : C8.Cal P w K mg base 6 "least_rule" (spFitR 200) []) (cx_least_rule : CalX P w K mg base 6 "least_rule" (spNoR 200 CN))
    (c_fits : C8.Cal P w K mg base 4 "fits" spFitsS []) : C8.Cal P w K mg base 10 "_law_is_right" (spRight83 C TS) [] := by
  obtain ⟨g, fdN, FN, hmN, bN⟩ := D_l_caught
  have kpN := FN.kp
  obtain ⟨ocN, odN, kVN, dcN, pmN, anN, cdN, ctN, slN, rfl, lkN, hcN⟩ := FN.ex
  refine calT_of DT sc_l_is_right (fun vs H Q E h => ?_) (fun f cQ A outer s H vs Q E TB hr h => ?_)
  · obtain ⟨o, D, F, u, tu, ms, es, x, xs, rfl, _⟩ := h
    rfl
  · obtain ⟨o, D, F, u, tu, ms, es, x, xs, rfl, hL, pm, pw, hu', le, hw, eF, oF, bx, tb, kk⟩ := h
    obtain ⟨dx, eo⟩ := hL.o
    have lm := pm.length_eq
    have hwm : ∀ e ∈ ms, WtB e.x := fun e he => hw e (pm.mem_iff.mp he)
    have bR : RcB 300 (rcs es tu) := rcs_bd hw tu
    have lR2 : (rcs es tu).length ≤ es.length := by
      unfold rcs
      rw [List.length_map]
      exact Nat.le_trans (repsOf_len _ _) (List.length_filter_le _ _)
    have ko : ∀ {H' : Hp}, LamX.ExtN H H' → Obs rcO H' xs (rcs es tu) := fun y => oF.keep fun b d e => tup_extN y e
    by_cases hc : Cf (rcs es tu)
    · refine ⟨_, (pss_cons (ps_if (pt_cmpR (op_neD hr.units) (pe_mkw (pv 0) cO_Log_rates hr (by decide) (pk_cons (pv 2) pk_nil)) (C8.pe_c c_rates hr (by decide) (by rfl) (pa_cons (pv 1) pa_nil)) (nomark _))
      (pss_one (ps_ret pe_bl))
      pss_nil)
    (pss_cons (ps_set (i := 4) sc_l_is_right.nd rfl (Or.inl rfl) (LamX.pe_lamcall (T := TS) (k := 7) (by rfl) hmN kpN lkN hcN bN sc_l_caught rfl (Or.inl rfl) (gives_caught T) TB rfl UX.mC UX.uC (hr.mono (by decide)) (LamX.lamS_by (by rfl)) rfl (fun _ _ _ _ _ => rfl) (fun A outer s H E f c' hr2 => pe_mkwx (pe_var (i := 0) rfl (Or.inr (Or.inr rfl))) cX_Log_count_range hr2 (by decide) (takes_of rfl rfl rfl rfl) (pa_cons (pe_var (i := 3) rfl (Or.inr (Or.inr rfl))) pa_nil) (pk_cons (pe_var (i := 2) rfl (Or.inr (Or.inr rfl))) pk_nil))))
    (pss_cons (ps_if (pt_cmpR (op_neD hr.units) (pv 4) (LamX.pe_lamcall (T := TS) (k := 7) (by rfl) hmN kpN lkN hcN bN sc_l_caught rfl (Or.inl rfl) (gives_caught T) TB rfl UX.mC UX.uC (hr.mono (by decide)) (LamX.lamS_by (by rfl)) rfl (fun _ _ _ _ _ => rfl) (fun A outer s H E f c' hr2 => pe_cx cx_count_range hr2 (by decide) (takes_of rfl rfl rfl rfl) (by rfl) (pa_cons (pe_var (i := 1) rfl (Or.inr (Or.inr rfl))) (pa_cons (pe_var (i := 3) rfl (Or.inr (Or.inr rfl))) pa_nil)))) (nomark _))
      (pss_one (ps_ret pe_bl))
      pss_nil)
    (pss_cons (ps_set (i := 4) sc_l_is_right.nd rfl (Or.inl rfl) (LamX.pe_lamcall (T := TS) (k := 7) (by rfl) hmN kpN lkN hcN bN sc_l_caught rfl (Or.inl rfl) (gives_caught T) TB rfl UX.mC UX.uC (hr.mono (by decide)) (LamX.lamS_by (by rfl)) rfl (fun _ _ _ _ _ => rfl) (fun A outer s H E f c' hr2 => pe_mkwx0 (pe_var (i := 0) rfl (Or.inr (Or.inr rfl))) cX_Log_least_rule hr2 (by decide) (takes_of rfl rfl rfl rfl) (pk_cons (pe_var (i := 2) rfl (Or.inr (Or.inr rfl))) pk_nil))))
    (pss_cons (ps_if (pt_cmpR (op_neD hr.units) (pv 4) (LamX.pe_lamcall (T := TS) (k := 7) (by rfl) hmN kpN lkN hcN bN sc_l_caught rfl (Or.inl rfl) (gives_caught T) TB rfl UX.mC UX.uC (hr.mono (by decide)) (LamX.lamS_by (by rfl)) rfl (fun _ _ _ _ _ => rfl) (fun A outer s H E f c' hr2 => pe_cx cx_least_rule hr2 (by decide) (takes_of rfl rfl rfl rfl) (by rfl) (pa_cons (pe_var (i := 1) rfl (Or.inr (Or.inr rfl))) pa_nil))) (nomark _))
      (pss_one (ps_ret pe_bl))
      pss_nil)
    (pss_one (ps_ret (pe_or (pe_cmpR (op_eqD hr.units) (pv 4) pe_str (nomark _)) (pe_one (C8.pe_c c_fits hr (by decide) (by rfl) (pa_cons (pv 4) (pa_cons (pv 1) pa_nil)))))))))))), ?_⟩
      refine ⟨_, rfl, o, dx, _, rfl, eo, rfl, _, rfl, rfl, o, D, u, tu, ms, rfl, hL, hu', by omega, hwm, fun H1 v1 lo up fs1 s1 pf1 srt1 hlo hup rv1 => ?_⟩
      obtain rfl := en_sorted (pf1.trans pm) srt1 pw
      refine ⟨_, rfl, F, true, xs, rcs fs1 tu, 300, rfl, s1 _ _ eF, oF.same s1, by omega, bR, by decide, by decide, fun H2 v2 lo2 up2 s2 hlo2 hup2 _ _ rv2 => ?_⟩
      have er : resD lo up = resD lo2 up2 := ARat.one (gs := fs1.filter (upB tu)) ⟨lo, up, hlo, hup, rfl⟩ ⟨lo2, up2, hlo2, hup2, rfl⟩
      refine ne_da (Da.kp (.same s2) _ _ (rv_da rv1)) (by rw [er]; exact rv_da rv2) (shp_res lo up) (by decide) ⟨_, rfl, iteFs rfl ?_⟩
      have x2 := ext_same (s1.trans s2)
      have t2 := tabs_same tb (s1.trans s2)
      refine ⟨t2, fun H3 x3 t3 => ?_⟩
      have y3 := x2.trans x3
      refine ⟨_, rfl, o, dx, _, rfl, y3 _ _ eo (fun _ z => by cases z), rfl, _, rfl, rfl, _, rfl, rfl, o, D, x, u, tu, ms, fs1, rfl, hL.ext y3, pm, pw, hu', by omega, hw, bx, fun nc => absurd hc nc, fun _ H4 s4 => ⟨rfl, ?_⟩⟩
      have y4 := y3.trans (ext_same s4)
      refine ⟨_, rfl, tabs_same t3 s4, fun H5 x5 t5 => ?_⟩
      have y5 := y4.trans x5
      refine ⟨_, rfl, _, rfl, F, true, xs, _, 300, x, rfl, y5 _ _ eF (fun _ z => by cases z), ko y5, by omega, bR, by decide, by decide, hc, fun H6 s6 => ⟨rfl, ?_⟩⟩
      refine ne_da (d := noP) (.str _) (.str _) shp_no (by decide) ⟨_, rfl, iteFs rfl ?_⟩
      have y6 := y5.trans (ext_same s6)
      refine ⟨tabs_same t5 s6, fun H7 x7 t7 => ?_⟩
      have y7 := y6.trans x7
      refine ⟨_, rfl, o, dx, _, rfl, y7 _ _ eo (fun _ z => by cases z), rfl, rfl, _, rfl, rfl, o, D, u, tu, ms, fs1, rfl, hL.ext y7, pm, pw, hu', by omega, hw, fun nc => absurd hc nc, fun _ H8 s8 => ⟨rfl, ?_⟩⟩
      have y8 := y7.trans (ext_same s8)
      refine ⟨_, rfl, tabs_same t7 s8, fun H9 x9 t9 => ?_⟩
      have y9 := y8.trans x9
      refine ⟨_, rfl, F, true, xs, _, 300, rfl, y9 _ _ eF (fun _ z => by cases z), ko y9, by omega, bR, by decide, by decide, hc, fun H10 s10 => ⟨rfl, ?_⟩⟩
      refine ne_da (d := noP) (.str _) (.str _) shp_no (by decide) ⟨_, rfl, iteFs rfl ?_⟩
      have y10 := y9.trans (ext_same s10)
      refine ⟨_, rfl, noP, noP, .str _, .str _, shp_sh shp_no (by decide), shp_sh shp_no (by decide), ?_⟩
      exact ⟨_, rfl, iteTs (SeqAt.eqv_refl _ shp_no.1) (kk _ y10 (tabs_same t9 s10))⟩
    · refine ⟨_, (pss_cons (ps_if (pt_cmpR (op_neD hr.units) (pe_mkw (pv 0) cO_Log_rates hr (by decide) (pk_cons (pv 2) pk_nil)) (C8.pe_c c_rates hr (by decide) (by rfl) (pa_cons (pv 1) pa_nil)) (nomark _))
      (pss_one (ps_ret pe_bl))
      pss_nil)
    (pss_cons (ps_set (i := 4) sc_l_is_right.nd rfl (Or.inl rfl) (LamX.pe_lamcall (T := TS) (k := 7) (by rfl) hmN kpN lkN hcN bN sc_l_caught rfl (Or.inl rfl) (gives_caught T) TB rfl UX.mC UX.uC (hr.mono (by decide)) (LamX.lamS_by (by rfl)) rfl (fun _ _ _ _ _ => rfl) (fun A outer s H E f c' hr2 => pe_mkwx (pe_var (i := 0) rfl (Or.inr (Or.inr rfl))) cX_Log_count_range hr2 (by decide) (takes_of rfl rfl rfl rfl) (pa_cons (pe_var (i := 3) rfl (Or.inr (Or.inr rfl))) pa_nil) (pk_cons (pe_var (i := 2) rfl (Or.inr (Or.inr rfl))) pk_nil))))
    (pss_cons (ps_if (pt_cmpR (op_neD hr.units) (pv 4) (LamX.pe_lamcall (T := TS) (k := 7) (by rfl) hmN kpN lkN hcN bN sc_l_caught rfl (Or.inl rfl) (gives_caught T) TB rfl UX.mC UX.uC (hr.mono (by decide)) (LamX.lamS_by (by rfl)) rfl (fun _ _ _ _ _ => rfl) (fun A outer s H E f c' hr2 => C8.pe_c c_count_range hr2 (by decide) (by rfl) (pa_cons (pe_var (i := 1) rfl (Or.inr (Or.inr rfl))) (pa_cons (pe_var (i := 3) rfl (Or.inr (Or.inr rfl))) pa_nil)))) (nomark _))
      (pss_one (ps_ret pe_bl))
      pss_nil)
    (pss_cons (ps_set (i := 4) sc_l_is_right.nd rfl (Or.inl rfl) (LamX.pe_lamcall (T := TS) (k := 7) (by rfl) hmN kpN lkN hcN bN sc_l_caught rfl (Or.inl rfl) (gives_caught T) TB rfl UX.mC UX.uC (hr.mono (by decide)) (LamX.lamS_by (by rfl)) rfl (fun _ _ _ _ _ => rfl) (fun A outer s H E f c' hr2 => pe_mkwx0 (pe_var (i := 0) rfl (Or.inr (Or.inr rfl))) cX_Log_least_rule hr2 (by decide) (takes_of rfl rfl rfl rfl) (pk_cons (pe_var (i := 2) rfl (Or.inr (Or.inr rfl))) pk_nil))))
    (pss_cons (ps_if (pt_cmpR (op_neD hr.units) (pv 4) (LamX.pe_lamcall (T := TS) (k := 7) (by rfl) hmN kpN lkN hcN bN sc_l_caught rfl (Or.inl rfl) (gives_caught T) TB rfl UX.mC UX.uC (hr.mono (by decide)) (LamX.lamS_by (by rfl)) rfl (fun _ _ _ _ _ => rfl) (fun A outer s H E f c' hr2 => C8.pe_c c_least_rule hr2 (by decide) (by rfl) (pa_cons (pe_var (i := 1) rfl (Or.inr (Or.inr rfl))) pa_nil))) (nomark _))
      (pss_one (ps_ret pe_bl))
      pss_nil)
    (pss_one (ps_ret (pe_or (pe_cmpR (op_eqD hr.units) (pv 4) pe_str (nomark _)) (pe_one (C8.pe_c c_fits hr (by decide) (by rfl) (pa_cons (pv 4) (pa_cons (pv 1) pa_nil)))))))))))), ?_⟩
      refine ⟨_, rfl, o, dx, _, rfl, eo, rfl, _, rfl, rfl, o, D, u, tu, ms, rfl, hL, hu', by omega, hwm, fun H1 v1 lo up fs1 s1 pf1 srt1 hlo hup rv1 => ?_⟩
      obtain rfl := en_sorted (pf1.trans pm) srt1 pw
      refine ⟨_, rfl, F, true, xs, rcs fs1 tu, 300, rfl, s1 _ _ eF, oF.same s1, by omega, bR, by decide, by decide, fun H2 v2 lo2 up2 s2 hlo2 hup2 _ _ rv2 => ?_⟩
      have er : resD lo up = resD lo2 up2 := ARat.one (gs := fs1.filter (upB tu)) ⟨lo, up, hlo, hup, rfl⟩ ⟨lo2, up2, hlo2, hup2, rfl⟩
      refine ne_da (Da.kp (.same s2) _ _ (rv_da rv1)) (by rw [er]; exact rv_da rv2) (shp_res lo up) (by decide) ⟨_, rfl, iteFs rfl ?_⟩
      have x2 := ext_same (s1.trans s2)
      have t2 := tabs_same tb (s1.trans s2)
      refine ⟨t2, fun H3 x3 t3 => ?_⟩
      have y3 := x2.trans x3
      refine ⟨_, rfl, o, dx, _, rfl, y3 _ _ eo (fun _ z => by cases z), rfl, _, rfl, rfl, _, rfl, rfl, o, D, x, u, tu, ms, fs1, rfl, hL.ext y3, pm, pw, hu', by omega, hw, bx, fun _ T4 H4 a b s4 eT la gb => ?_, fun h => absurd h hc⟩
      have y4 := y3.trans (ext_same s4)
      refine ⟨_, rfl, tabs_same t3 s4, fun H5 x5 t5 => ?_⟩
      have y5 := y4.trans x5
      refine ⟨_, rfl, _, rfl, F, true, xs, _, 300, 1000, x, rfl, y5 _ _ eF (fun _ z => by cases z), ko y5, by omega, bR, by decide, by decide, hc, by decide, by decide, bx, fun T6 H6 a' b' s6 nT6 eT6 la' gb' _ _ => ?_⟩
      obtain rfl := lcnt_uniq la la'
      obtain rfl := gcnt_one gb gb'
      refine ne_da (d := .tuple [oP a, oP b]) (.tup (s6 _ _ (tup_extN x5 eT)) (.cons (da_o a) (.cons (da_o b) .nil))) (.tup eT6 (.cons (da_o a) (.cons (da_o b) .nil))) (shp_tup (n := 0) fun z hz => by
        simp only [List.mem_cons, List.not_mem_nil, or_false] at hz
        rcases hz with rfl | rfl <;> exact shp_o _) (by decide) ⟨_, rfl, iteFs rfl ?_⟩
      have y6 := y5.trans (ext_same s6)
      refine ⟨tabs_same t5 s6, fun H7 x7 t7 => ?_⟩
      have y7 := y6.trans x7
      refine ⟨_, rfl, o, dx, _, rfl, y7 _ _ eo (fun _ z => by cases z), rfl, rfl, _, rfl, rfl, o, D, u, tu, ms, fs1, rfl, hL.ext y7, pm, pw, hu', by omega, hw, fun _ H8 r p q c s8 er R fa lr => ?_, fun h => absurd h hc⟩
      have y8 := y7.trans (ext_same s8)
      refine ⟨_, rfl, tabs_same t7 s8, fun H9 x9 t9 => ?_⟩
      have y9 := y8.trans x9
      refine ⟨_, rfl, F, true, xs, _, 300, rfl, y9 _ _ eF (fun _ z => by cases z), ko y9, by omega, bR, by decide, by decide, hc, fun H10 r' p' q' c' s10 er' R' fa' lr' => ?_⟩
      obtain ⟨rfl, rfl, rfl⟩ := lr.uniq lr'
      have er10 := s10 _ _ (tup_extN x9 er)
      have sh3 : Shp 1 (.tuple [.int p, .int q, .int c]) := shp_tup (n := 0) fun z hz => by
        simp only [List.mem_cons, List.not_mem_nil, or_false] at hz
        rcases hz with rfl | rfl | rfl <;> exact shp_int _
      refine ne_da (d := .tuple [.int p, .int q, .int c]) (.tup er10 (.cons (.int _) (.cons (.int _) (.cons (.int _) .nil)))) (.tup er' (.cons (.int _) (.cons (.int _) (.cons (.int _) .nil)))) sh3 (by decide) ⟨_, rfl, iteFs rfl ?_⟩
      have y10 := y9.trans (ext_same s10)
      refine ⟨_, rfl, .tuple [.int p, .int q, .int c], noP, Da.dp _ _ (.tup er10 (.cons (.int _) (.cons (.int _) (.cons (.int _) .nil)))), .str _, shp_sh sh3 (by decide), shp_sh shp_no (by decide), ?_⟩
      refine ⟨_, rfl, iteFs (by simp [noP, PyData.eqv]) ⟨_, rfl, _, rfl, r, F, p, q, c, true, xs, _, 610, rfl, er10, R, y10 _ _ eF (fun _ z => by cases z), ko y10, by omega, bR.mono (by decide), by decide, by decide, fun H11 s11 => ?_⟩⟩
      rw [fa]
      exact kk _ (y10.trans (ext_same s11)) (tabs_same t9 (s10.trans s11))
end
end Lf
namespace Lf
open PySem PySem.Spec PyProof.Rows L2
/-! ### a method with a keyword-only parameter that is left out, called where what it raises is taken -/
def MetD (P : Program) (w : World) (K : PySem.W.Frag) (mg : Str → Option Value) (base : Heap) (k : Nat) (C : Addr) (m : Str) (sp : Sp) (dvs : List V) : Prop :=
  ∃ f fd ps ds, Cls K C ∧ Meth K C m f ∧ FnOk P w K mg base (L2.CX P w) k f fd ps sp ∧ Binds K fd ps ds ∧ Vals dvs ds
section
variable {P : Program} {w : World} {K : PySem.W.Frag} {mg : Str → Option Value} {base : Heap} {C : Addr}
theorem metd_of {m qual kn : Str} {st : Stmt} {N ps : List Str} {k n : Nat} {sp : Sp} (c : Cls K C) (D : DmO K C m qual st ps n kn) (S : FnScope N ps (defScope st)) (len : ∀ vs H Q E, sp vs H Q E → vs.length = ps.length)
    (hb : ∀ (f : Addr) (cdv : Value) (A : Around) (outer : List Env) (s : Shared) (H : Hp) (vs : List V) (Q : VK) (E : XK), Room k (A.deeper (envOfC qual (defScope st) s.heap.objs.size f cdv)) → sp vs H Q E →
      ∃ t, PSs (cxOf (L2.CX P w) P w K mg base N qual (defScope st) f cdv A outer s H E) (defBody st) t ∧ t { nx := fun _ H' => Q .non H', rt := Q } (start N vs) H) : MetD P w K mg base (k + 1) C m sp [.non] := by
  obtain ⟨f, fd, ds, F, hm, hv, b, kb⟩ := D
  exact ⟨f, fd, ps, ds, c, hm, F.okX S len (fun cdv A outer s H vs Q E hr h => hb f cdv A outer s H vs Q E hr h), b, hv⟩
end
def tMethD (C : Addr) (m : Str) (sp : Sp) (dvs : List V) (W : WX) (to : TE) (ta : TA) : TE := fun σ H Q => to σ H fun x H1 => ∃ a dx fs, x = .ref a ∧ H1 a = some (.ins C dx fs) ∧ fs.lookup m = none ∧ ta σ H1 fun vs H2 => sp (x :: (vs ++ dvs)) H2 Q (WE W σ)
section
variable {X : Cx} {k j : Nat} {m : Str} {sp : Sp} {apos pos : Pos} {o e : Expr} {es : List Expr} {to : TE} {ta : TA} {C : Addr} {W : WX} {dvs : List V}
theorem pe_mtx {pl : Sem Bool} (he : PE X o to) (c : MetD X.prog X.w X.K X.mg X.base k C m sp dvs) (hr : Room j X.A) (hk : k ≤ j) (tx : Takes X W) (ha : L2.PA X (e :: es) ta)
    (hst : starEach (e :: es) X.env = (false, eval e X.env) :: starEach es X.env := by rfl) (hpl : (backTo pos (starEach es X.env)).any (·.1) = false := by rfl)
    (ht : eval (.Call (.Attribute o m apos) (e :: es) [] pos) X.env = (do
      let ov ← eval o X.env
      standAt apos.atName
      let (f, first) ← holding [ov] (getMethod ov m pl)
      callWith pos f first (backTo pos (starEach (e :: es) X.env)) (backToKw pos (keywordEach [] X.env))) := by rfl) :
    PE X (.Call (.Attribute o m apos) (e :: es) [] pos) (tMethD C m sp dvs W to ta) := by
  obtain ⟨f, fd, ps, ds, cc, hm, F, b, hv⟩ := c
  refine ⟨fun pins s σ H Q I h => ?_⟩
  refine PySem.W.methodCall_KW (pl := pl) (thn (he.run pins s σ H _ I h) fun u s1 ⟨x, H1, I1, rx, a, dx, fs, ex, ea, l, q⟩ => ?_) ht
  subst ex
  obtain rfl : u = Value.ref a := rx
  refine getmeth_ok I1 ea cc hm l ?_
  refine PySem.W.callWith_K (first := [.ref a]) (h₀ := X.base) I1.ok.mod.kin hm.kp (thn (ha.run pos pins s1 σ H1 _ I1 q) fun us s2 ⟨vs, H2, I2, r, q2⟩ => ⟨I2.kIn, ?_⟩) hst hpl
  exact run_fnSD (us := .ref a :: us) (vs := .ref a :: vs) F (hr.mono hk) b hv (passAt tx σ) I2 (.cons rfl r) q2
end
section
variable {P : Program} {w : World} {K : PySem.W.Frag} {mg : Str → Option Value} {base : Heap} {C CI : Addr}
/-! ### log.count_range(value) at a value that is no int -/
def spCntO (CI : Addr) : Sp := fun vs H Q E => ∃ (o : Addr) (v u : V) (d : PyData), vs = [.ref o, v, u] ∧ Dv H v d ∧ isI d = false ∧ Out CI v H E
theorem cnt_odd (TK : LgT K mg C) (D : DmO K C "count_range" "Log.count_range" s_Log_count_range P_Log_count_range 2 "until") (cO_Log_records : MetO P w K mg base 3 C "records" (spRecs C) 1 "until") (cx_check_integer : CalX P w K mg base 3 "check_integer" (spCkI CI)) (c_range_at : C8.Cal P w K mg base 6 "range_at" spRangeAt []) : MetD P w K mg base 7 C "count_range" (spCntO CI) [.non] := by
  refine metd_of TK.c.cl D sc_Log_count_range (fun vs H Q E h => ?_) (fun f cdv A outer s H vs Q E hr h => ?_)
  · obtain ⟨o, v, u, d, rfl, _⟩ := h
    rfl
  · obtain ⟨o, v, u, d, rfl, dv, hd, he⟩ := h
    refine ⟨_, (pss_cons (ps_expr (pe_cx cx_check_integer hr (by decide) (takes_of rfl rfl rfl rfl) (by rfl) (pa_cons (pv 1) pa_nil)))
    (pss_one (ps_ret (C8.pe_c c_range_at hr (by decide) (by rfl) (pa_cons (pe_mkw (pv 0) cO_Log_records hr (by decide) (pk_cons (pv 2) pk_nil)) (pa_cons (pv 1) pa_nil)))))), ?_⟩
    exact ⟨_, rfl, v, d, rfl, dv, (fun z => by rw [hd] at z; cases z), fun _ => he⟩
/-! ### _law_odd_time -/
theorem eqv_self {H H' : Hp} {v : V} {d : PyData} (dv : Dv H v d) : EqV K H' 1 v v := by
  cases dv with
  | non => exact .inl ⟨rfl, rfl⟩
  | bl b => exact .inl ⟨rfl, rfl⟩
  | int i => exact .inl ⟨rfl, rfl⟩
  | str x => exact .inl ⟨rfl, rfl⟩
  | lst h1 h2 h3 => exact .inr (.inl ⟨_, rfl, rfl⟩)
  | tup h2 h3 => exact .inr (.inl ⟨_, rfl, rfl⟩)
  | dk0 h => exact .inr (.inl ⟨_, rfl, rfl⟩)
  | dk1 h h2 => exact .inr (.inl ⟨_, rfl, rfl⟩)
def spOddT (C : Addr) : Sp := fun vs H Q _ => ∃ (o D : Addr) (ms : List En) (v : V) (d : PyData), vs = [.ref o, v] ∧ LogAt C H o D ms ∧ Dv H v d ∧ isI d = false ∧ ∀ H', Same H H' → Q (.bl true) H'
abbrev s_l_odd_time : Stmt := topS 79
abbrev N_l_odd_time : List Str := ["_law_log_here", "_law_value", "_law_wrong", "e"]
abbrev P_l_odd_time : List Str := ["_law_log_here", "_law_value"]
theorem sc_l_odd_time : FnScope N_l_odd_time P_l_odd_time (defScope s_l_odd_time) := ⟨rfl, rfl, rfl, by decide +kernel, rfl, by decide +kernel, by decide +kernel⟩
theorem ok_l_odd_time (D : Df K mg "_law_odd_time" s_l_odd_time P_l_odd_time) (T : ValC P K mg CI "InvalidNumber" "value") (TK : LgT K mg C) (D_Log_count_range : DmO K C "count_range" "Log.count_range" s_Log_count_range P_Log_count_range 2 "until") (cO_Log_records : MetO P w K mg base 3 C "records" (spRecs C) 1 "until") (cx_check_integer : CalX P w K mg base 3 "check_integer" (spCkI CI)) (c_range_at : C8.Cal P w K mg base 6 "range_at" spRangeAt []) : C8.Cal P w K mg base 8 "_law_odd_time" (spOddT C) [] := by
  have cD := cnt_odd TK D_Log_count_range cO_Log_records cx_check_integer c_range_at
  refine cal_of D sc_l_odd_time (fun vs H Q E h => ?_) (fun f cdv A outer s H vs Q E hr h => ?_)
  · obtain ⟨o, D, ms, v, d, rfl, _⟩ := h
    rfl
  · obtain ⟨o, D, ms, v, d, rfl, hL, dv, hd, kk⟩ := h
    refine ⟨_, pss_cons (ps_set (i := 2) sc_l_odd_time.nd rfl (Or.inl rfl) pe_non) (pss_cons (ps_try_as (X := (cxOf CX0 P w K mg base N_l_odd_time "_law_odd_time" (defScope s_l_odd_time) f cdv A outer s H E).nox) (i := 3) (c := .ref CI)
      (ts := fun a cls d D σ H => ∃ dd, cls = .ref CI ∧ d = some dd ∧ tAsg (tLst (tCons (tXf a (.ref CI) (some dd) CI "value" (tVar 3)) tNil)) (gName 2) D σ H) (Wout := fun _ _ _ _ => False) rfl rfl sc_l_odd_time.nd rfl rfl ⟨rfl, by decide, .inl T.gC⟩ takes0
      (fun W pn xe tk _ => pss_one (ps_expr (pe_mtx (pv 0) cD hr (by decide) tk (pa_cons (pv 1) pa_nil))))
      (fun a oe cls d pn hz hf => ⟨fun pins s1 σ1 H1 D I h1 => ?hs⟩)) (pss_one (ps_ret (pe_cmpR (op_eqV hr.units) (pv 2) (pe_lst (pa_cons (pv 1) pa_nil)) (nomark _))))), ?_⟩
    case hs =>
      obtain ⟨dd, e1, e2, h2⟩ := h1
      subst e1 e2
      exact (pss_one (ps_set (i := 2) sc_l_odd_time.nd rfl (Or.inl rfl) (pe_lst (pa_cons (pe_xf T.xf T.no hz hf (pv 3)) pa_nil)))).run pins s1 σ1 H1 D I h2
    obtain ⟨dx, eo⟩ := hL.o
    refine ⟨_, rfl, o, dx, _, rfl, eo, rfl, _, rfl, o, v, .non, d, rfl, dv, hd, fun dd ndd => ?_⟩
    refine ⟨true, T.meets, fun _ a na => ⟨dd, rfl, rfl, ?_⟩, fun z => nomatch z⟩
    refine ⟨_, rfl, rfl, rfl, dd, _, v, rfl, upd_same, rfl, len10 (by simp), fun W nW => ?_⟩
    have zW := sm_upd (o := .lst [v]) nW
    refine ⟨_, rfl, _, rfl, len10 (by simp), fun Z nZ => ?_⟩
    have zZ := sm_upd (o := .lst [v]) nZ
    refine ⟨1, by decide, .inl ⟨W, Z, [v], [v], rfl, rfl, SqL.of (zZ _ _ upd_same), SqL.of upd_same, .cons (eqv_self dv) .nil⟩, ?_⟩
    exact kk _ (((sm_upd ndd).trans zW).trans zZ)
end
end Lf
namespace Lf
open PySem PySem.Spec PyProof.Rows L2
theorem mn2 (x : Int) (h : 0 ≤ x) : 0 ≤ (if x < 2 then x else 2) ∧ (if x < 2 then x else 2) ≤ 2 := by
  by_cases z : x < 2
  · rw [if_pos z]
    omega
  · rw [if_neg z]
    omega
theorem LogAt.fr0 {C : Addr} {H H' : Hp} {o D : Addr} {es : List En} (h : LogAt C H o D es) (f : Fr H H') : LogAt C H' o D es := by
  by_cases ne : es = []
  · obtain ⟨⟨dx, h1⟩, ⟨kvs, h2, h3⟩, h4⟩ := h
    subst ne
    cases h3
    exact ⟨⟨dx, f.k _ _ h1 fun _ z => by cases z⟩, ⟨[], f.d0 _ h2, .nil⟩, h4⟩
  · exact h.fr ne f
/-- what stays -/
structure S83 (C : Addr) (TS : List (Addr × Str)) (o D L : Addr) (xs : List V) (es ms : List En) (a : PA) (n : Nat) (H : Hp) : Prop where
  pn : Pen H a n
  tb : LamX.Tabs TS H
  eL : H L = some (.lst xs)
  hE : EnL H xs es
  lg : LogAt C H o D ms
section
variable {C : Addr} {TS : List (Addr × Str)} {o D L : Addr} {xs : List V} {es ms : List En} {a : PA} {n m : Nat} {H H' : Hp}
theorem S83.extN (h : S83 C TS o D L xs es ms a n H) (x : LamX.ExtN H H') (t : LamX.Tabs TS H') : S83 C TS o D L xs es ms a n H' := ⟨h.pn.extN x, t, x _ _ h.eL (fun _ z => by cases z), h.hE.kp fun b ys e => tup_extN x e, h.lg.ext x⟩
theorem S83.same (h : S83 C TS o D L xs es ms a n H) (s : Same H H') : S83 C TS o D L xs es ms a n H' := h.extN (ext_same s) (tabs_same h.tb s)
theorem S83.fr (h : S83 C TS o D L xs es ms a n H) (f : Fr H H') (g : Pen H' a m) : S83 C TS o D L xs es ms a m H' := ⟨g, tabs_fr h.tb f, f.l _ _ h.eL, h.hE.kp fun b ys e => f.t b ys e, h.lg.fr0 f⟩
end
section
variable {P : Program} {w : World} {K : PySem.W.Frag} {mg : Str → Option Value} {base : Heap} {C PT : Addr}
abbrev s_law : Stmt := topS 80
abbrev N_law : List Str := ["_law_script", "_law_state", "_law_turn", "_law_size", "_law_entries_here", "_law_log_here", "_law_step", "_law_end_here", "_law_found", "_law_t", "_law_word", "_law_what"]
abbrev P_law : List Str := ["_law_script"]
theorem sc_law : FnScope N_law P_law (defScope s_law) := ⟨rfl, rfl, rfl, by decide +kernel, rfl, by decide +kernel, by decide +kernel⟩
theorem ok_law {f : Addr} {fd : FuncData} (F : Fun K "law" "law" s_law f fd) (TK : LgT K mg C) (B : Bi mg) (c_l_start : C8.Cal P w K mg base 1 "_law_start" (spStart K) []) (c_l_draw : C8.Cal P w K mg base 1 "_law_draw" spDraw []) (c_l_rule : C8.Cal P w K mg base 2 "_law_rule" spRule01 []) (c_l_entries : C8.Cal P w K mg base 3 "_law_entries" spEn81 []) (c_l_mixed : C8.Cal P w K mg base 2 "_law_mixed" spMix []) (c_l_log : C8.Cal P w K mg base 6 "_law_log" (spLog C) []) (c_l_end : C8.Cal P w K mg base 2 "_law_end" spEnd81 []) (c_l_reports : C8.Cal P w K mg base 2 "_law_reports" spReps81 [])
    (c_l_is_right : C8.Cal P w K mg base 10 "_law_is_right" (spRight83 C [(PT, qLamR83)]) []) (c_l_odd_time : C8.Cal P w K mg base 8 "_law_odd_time" (spOddT C) []) : FnG P w K mg base 11 f fd P_law (spLawT K PT) := by
  refine fnG_of F sc_law (fun vs H Q E h => ?_) (fun cdv A outer s H vs Q E hr gd h => ?_)
  · obtain ⟨a, ns, rfl, _⟩ := h
    rfl
  · obtain ⟨sc, ns, rfl, hS, hlen, hPT, kk⟩ := h
    refine ⟨_, (pss_cons (ps_set (i := 1) sc_law.nd rfl (Or.inl rfl) (C8.pe_c c_l_start hr (by decide) (by rfl) (pa_cons (pv 0) pa_nil)))
    (pss_cons (ps_for PassesOwn.never rfl (pi_range1 rfl B.range_ (pa_cons (pe_op op_add pe_int (pe_callB (call_min2 rfl) (by rfl) B.min_ bt_min (pa_cons pe_int (pa_cons (pe_op op_fdiv (pe_callB (call_len_seq) (by rfl) B.len_ bt_len (pa_cons (pv 0) pa_nil)) pe_int) pa_nil)))) pa_nil)) (pg_name (i := 2) sc_law.nd rfl (Or.inl rfl))
      (pss_cons (ps_set (i := 3) sc_law.nd rfl (Or.inl rfl) (pe_op op_add (pe_ix (r := rIxL K) ix_list (pe_lst1 (pa_cons pe_int (pa_cons pe_int (pa_cons (pe_op op_add pe_int (C8.pe_c c_l_draw hr (by decide) (by rfl) (pa_cons (pv 1) (pa_cons pe_int pa_nil)))) pa_nil)))) (C8.pe_c c_l_draw hr (by decide) (by rfl) (pa_cons (pv 1) (pa_cons pe_int pa_nil))) (fun _ _ => rfl)) (C8.pe_c c_l_draw hr (by decide) (by rfl) (pa_cons (pv 1) (pa_cons pe_int pa_nil)))))
    (pss_cons (ps_set (i := 4) sc_law.nd rfl (Or.inl rfl) (C8.pe_c c_l_entries hr (by decide) (by rfl) (pa_cons (pv 1) (pa_cons (C8.pe_c c_l_rule hr (by decide) (by rfl) (pa_cons (pv 1) pa_nil)) (pa_cons (pv 3) pa_nil)))))
    (pss_cons (ps_set (i := 5) sc_law.nd rfl (Or.inl rfl) (C8.pe_c c_l_log hr (by decide) (by rfl) (pa_cons (C8.pe_c c_l_mixed hr (by decide) (by rfl) (pa_cons (pv 1) (pa_cons (pv 4) pa_nil))) pa_nil)))
    (pss_one (ps_for PassesOwn.never rfl (pi_range1 rfl B.range_ (pa_cons pe_int pa_nil)) (pg_name (i := 6) sc_law.nd rfl (Or.inl rfl))
      (pss_cons (ps_set (i := 7) sc_law.nd rfl (Or.inl rfl) (C8.pe_c c_l_end hr (by decide) (by rfl) (pa_cons (pv 1) (pa_cons (pv 4) pa_nil))))
    (pss_cons (ps_setLc (i := 8) (own := [("_law_word", 10), ("_law_what", 11)]) (g := (gTup K 2 (gCons (gName 10) (gCons (gName 11) gNil)))) (by rfl) sc_law.nd rfl rfl (sw_true rfl rfl rfl (by decide +kernel)) (pi_list (C8.pe_c c_l_reports hr (by decide) (by rfl) (pa_cons (pv 4) (pa_cons (pv 7) pa_nil)))) (blkOk_by (own := [("_law_word", 10), ("_law_what", 11)]) (N := N_law) (sc := defScope s_law) (by decide +kernel)) (fun _ _ _ _ _ => (pg_tup rfl (pgs_cons (pg_name (i := 10) sc_law.nd rfl (Or.inl rfl)) (pgs_cons (pg_name (i := 11) sc_law.nd rfl (Or.inl rfl)) pgs_nil)))) (fun _ _ _ _ _ => pts_nil) (fun _ _ _ _ _ => (pv 11)))
    (pss_cons (ps_set (i := 9) sc_law.nd rfl (Or.inl rfl) (pe_ix (r := rIxL K) ix_list (pe_lst1 (pa_cons (C8.pe_c c_l_draw hr (by decide) (by rfl) (pa_cons (pv 1) (pa_cons pe_int pa_nil))) (pa_cons (C8.pe_c c_l_draw hr (by decide) (by rfl) (pa_cons (pv 1) (pa_cons (pe_op op_pow pe_int pe_int) pa_nil))) (pa_cons (pe_un un_neg (C8.pe_c c_l_draw hr (by decide) (by rfl) (pa_cons (pv 1) (pa_cons (pe_op op_pow pe_int pe_int) pa_nil)))) pa_nil)))) (C8.pe_c c_l_draw hr (by decide) (by rfl) (pa_cons (pv 1) (pa_cons pe_int pa_nil))) (fun _ _ => rfl)))
    (pss_cons (ps_if (pt_not (pt_val (C8.pe_c c_l_is_right hr (by decide) (by rfl) (pa_cons (pv 5) (pa_cons (pv 8) (pa_cons (pv 7) (pa_cons (pv 9) pa_nil)))))))
      (pss_one (ps_ret pe_bl))
      pss_nil)
    (pss_one (ps_if (pt_not (pt_val (C8.pe_c c_l_odd_time hr (by decide) (by rfl) (pa_cons (pv 5) (pa_cons (pe_ix (r := rIxL K) ix_list (pe_lst1 (pa_cons pe_non (pa_cons pe_bl (pa_cons pe_str (pa_cons (pe_tup (pa_cons pe_int pa_nil)) (pa_cons (pe_lst1 (pa_cons pe_int pa_nil)) (pa_cons pe_dnewK pa_nil))))))) (C8.pe_c c_l_draw hr (by decide) (by rfl) (pa_cons (pv 1) (pa_cons pe_int pa_nil))) (fun _ _ => rfl)) pa_nil)))))
      (pss_one (ps_ret pe_bl))
      pss_nil))))))))))))
    (pss_one (ps_ret pe_bl)))), ?_⟩
    refine ⟨_, rfl, sc, ns, rfl, hS, fun a H0 hP0 s0 => ?_⟩
    have t0 : LamX.Tabs [(PT, qLamR83)] H0 := fun p hp => by
      rw [List.mem_singleton.mp hp]
      exact LamX.TabS.nil (s0 _ _ hPT)
    refine ⟨_, rfl, sc, _, rfl, .inl (s0.seq hS), _, _, rfl, rfl, ⟨by decide, by decide⟩, _, _, rfl, _, _, rfl, rfl, _, rfl, ?_⟩
    obtain ⟨m0, m1⟩ := mn2 (((ns.map V.int).length : Int) / 3) (by omega)
    refine ⟨by omega, by omega, ?_⟩
    generalize hnn : (1 + (if ((ns.map V.int).length : Int) / 3 < 2 then ((ns.map V.int).length : Int) / 3 else 2)) = nn
    have hn3 : nn.toNat ≤ 3 := by omega
    generalize hTS : [(PT, qLamR83)] = TS at *
    refine for_range (lo := 0) (n := nn.toNat) (fun i σ H1 => ∃ (y2 y3 y4 y5 y6 y7 y8 y9 : Option V), σ = [some (.ref sc), some (.ref a), y2, y3, y4, y5, y6, y7, y8, y9, none, none] ∧ Pen H1 a (10000 * i) ∧ LamX.Tabs TS H1) ⟨_, _, _, _, _, _, _, _, rfl, hP0, t0⟩ ?_ ?_
    · rintro i σ H1 hi ⟨y2, y3, y4, y5, y6, y7, y8, y9, rfl, hP1, t1⟩
      have dB : ∀ x : Int, 0 < x → x < 2 ^ 36 → Bd 9000 x := fun x h0 h => Bd.small 40 (by omega) (by decide)
      have hi3 : i < 3 := by omega
      refine ⟨_, rfl, a, _, _, rfl, hP1, by omega, by decide, dB _ (by decide) (by decide), fun u H2 u0 u1 hP2 f2 => ?_⟩
      refine ⟨_, _, rfl, rfl, len10 (by simp), fun O nO _ => ?_⟩
      have zO := sm_upd (o := .lst [.int 1, .int 1, .int (20 + u)]) nO
      have eO := upd_same (H := H2) (a := O) (o := .lst [.int 1, .int 1, .int (20 + u)])
      refine ⟨_, rfl, a, _, _, rfl, hP2.same zO, by omega, by decide, dB _ (by decide) (by decide), fun d H3 d0 d1 hP3 f3 => ?_⟩
      obtain ⟨x, hx, mx⟩ := at_in (xs := [.int 1, .int 1, .int (20 + u)]) d0 (by show d < 3; omega)
      refine ⟨O, _, _, _, rfl, rfl, SqL.of (f3.l _ _ eO), hx, ?_⟩
      obtain ⟨v, rfl, v0, v1⟩ : ∃ v : Int, x = .int v ∧ 1 ≤ v ∧ v ≤ 60 := by
        simp only [List.mem_cons, List.not_mem_nil, or_false] at mx
        rcases mx with rfl | rfl | rfl
        · exact ⟨_, rfl, by decide, by decide⟩
        · exact ⟨_, rfl, by decide, by decide⟩
        · exact ⟨_, rfl, by omega, by omega⟩
      refine ⟨_, rfl, a, _, _, rfl, hP3, by omega, by decide, dB _ (by decide) (by decide), fun d2 H4 d20 d21 hP4 f4 => ⟨_, _, rfl, rfl, ?_⟩⟩
      -- the entries
      refine ⟨_, rfl, _, rfl, a, _, rfl, hP4, by omega, fun r H5 p q c R er hP5 f5 => ?_⟩
      refine ⟨_, rfl, a, _, r, p, q, c, v + d2, rfl, hP5, by omega, er, R, by omega, by omega, fun L H6 xs es eL hE le pw hb hP6 f6 => ?_⟩
      have f16 : Fr H1 H6 := f2.trans ((Fr.same zO).trans (f3.trans (f4.trans (f5.trans f6))))
      have lx := hE.len
      -- the log
      refine ⟨_, rfl, _, rfl, a, _, L, xs, rfl, hP6, by omega, eL, by omega, fun M H7 ys nM eM pm hP7 f7 => ?_⟩
      have hE7 := hE.kp (fun b xs e => f7.t b xs e)
      obtain ⟨ms, pms, hM⟩ := EnL.perm pm hE7
      have lm := pms.length_eq
      have ndE : (es.map (·.m)).Nodup := pw.imp fun h e => by rw [e] at h; exact absurd h (Int.lt_irrefl _)
      have ndM : (ms.map (·.m)).Nodup := (pms.map (·.m)).nodup_iff.mpr ndE
      refine ⟨M, ys, ms, rfl, eM, hM, ndM, fun e he => ⟨(hb e (pms.mem_iff.mp he)).1, (hb e (pms.mem_iff.mp he)).2.2.1⟩, by omega, fun o D H8 s8 nD hL8 => ?_⟩
      have st8 : S83 C TS o D L xs es ms a (10000 * i + 5000) H8 := ⟨(hP7.mono (by omega)).same s8, tabs_same (tabs_fr t1 (f16.trans f7)) s8, s8 _ _ (f7.l _ _ eL), hE7.kp (.same s8), hL8⟩
      have hwe : ∀ e ∈ es, WtB e.x := fun e he => (hb e he).2.2.2
      have l1 : 1 ≤ es.length := by omega
      have l73 : es.length ≤ 73 := by omega
      clear f2 f3 f4 f5 f6 f7 f16 hP1 hP2 hP3 hP4 hP5 hP6 hP7 eL hE hE7 t1 s8 hL8 eM hM pm nM er zO eO nO hx
      -- the questions
      refine ⟨4, rfl, by decide, by decide, ?_⟩
      refine for_range (lo := 0) (n := 4) (fun j σ H' => ∃ (y6 y7 y8 y9 : Option V), σ = [some (.ref sc), some (.ref a), some (.int (0 + (i : Int))), some (.int (v + d2)), some (.ref L), some (.ref o), y6, y7, y8, y9, none, none] ∧ S83 C TS o D L xs es ms a (10000 * i + 5000 + 20 * j) H') ⟨_, _, _, _, rfl, st8⟩ ?_ ?_
      · rintro j σ H9 hj ⟨y6, y7, y8, y9, rfl, st9⟩
        clear st8 nD
        refine ⟨_, rfl, _, rfl, a, _, L, xs, es, rfl, st9.pn, by omega, st9.eL, st9.hE, by omega, by omega, fun u t H10 hu hP10 f10 => ?_⟩
        have st10 := st9.fr f10 hP10
        refine ⟨_, rfl, _, rfl, L, u, t, xs, es, rfl, hu, st10.eL, st10.hE, by omega, fun G H11 vs11 nG s11 eG hR => ?_⟩
        have ls : (repsOf (es.filter (upB t)) (es.filter (upB t))).length ≤ 500 := Nat.le_trans (repsOf_len _ _) (Nat.le_trans (List.length_filter_le _ _) (by omega))
        obtain ⟨ps, hps⟩ : ∃ ps, repsOf (es.filter (upB t)) (es.filter (upB t)) = ps := ⟨_, rfl⟩
        rw [hps] at hR ls
        have l11 := hR.len
        refine ⟨G, rfl, ⟨_, SqL.of eG⟩, fun Y nY => ?_⟩
        refine lc_list (K := K) (a := G) (xs := vs11) (fun i H' => Same H11 H' ∧ ∃ vs', H' Y = some (.lst vs') ∧ vs'.length ≤ i ∧ Obs rcO H' vs' ((ps.take i).map (·.2))) ⟨sm_upd nY, [], upd_same, Nat.le_refl _, .nil⟩ ?_ ?_ ?_
        · rintro i H' _ ⟨s', _⟩
          exact SqL.of (s' _ _ eG)
        · rintro i x H' hx ⟨s', vs', eY, lv, oR⟩
          obtain ⟨r, a, p, rfl, er, ha, he⟩ := (hR.kp (.same s')).at hx
          have hi := (List.getElem?_eq_some_iff.mp hx).1
          refine ⟨r, _, rfl, SqT.of er, rfl, _, _, rfl, _, _, rfl, rfl, ?_⟩
          refine ⟨rfl, _, rfl, vs', eY, ?_, fun b' o' eb => ?_, vs' ++ [.ref a], upd_same, by rw [List.length_append]; show vs'.length + 1 ≤ i + 1; omega, ?_⟩
          · exact small1000 (by omega)
          · rw [upd_ne (ne_of_none eb nY)]
            exact s' _ _ eb
          · rw [List.take_add_one, he, List.map_append]
            exact (oR.snoc (d := p.2) ha).keep fun b d' eb => by
              rw [upd_ne (ne_of eb eY (by intro z; cases z))]
              exact eb
        rintro H12 ⟨s12, vY, eY, lv, oY⟩
        rw [l11, List.take_length] at oY
        have oY : Obs rcO H12 vY (rcs es t) := by
          unfold rcs
          rw [hps]
          exact oY
        have st12 := st10.same (s11.trans s12)
        clear st9 st10 hR eG nG s11 s12 l11 hP10 f10 nY
        -- a time
        refine ⟨_, rfl, a, _, _, rfl, st12.pn, by omega, by decide, dB _ (by decide) (by decide), fun x1 H13 x10 x11 hP13 f13 => ?_⟩
        refine ⟨_, rfl, _, _, rfl, rfl, ⟨by decide, by decide⟩, a, _, _, rfl, hP13, by omega, by decide, dB _ (by decide) (by decide), fun x2 H14 x20 x21 hP14 f14 => ?_⟩
        refine ⟨_, rfl, _, _, rfl, rfl, ⟨by decide, by decide⟩, a, _, _, rfl, hP14, by omega, by decide, dB _ (by decide) (by decide), fun x3 H15 x30 x31 hP15 f15 => ?_⟩
        refine ⟨_, rfl, len10 (by simp), fun O2 nO2 _ => ?_⟩
        have zO2 := sm_upd (o := .lst [.int x1, .int x2, .int (-x3)]) nO2
        have eO2 := upd_same (H := H15) (a := O2) (o := .lst [.int x1, .int x2, .int (-x3)])
        refine ⟨_, rfl, a, _, _, rfl, hP15.same zO2, by omega, by decide, dB _ (by decide) (by decide), fun d3 H16 d30 d31 hP16 f16 => ?_⟩
        obtain ⟨x, hx, mx⟩ := at_in (xs := [.int x1, .int x2, .int (-x3)]) d30 (by show d3 < 3; omega)
        refine ⟨O2, _, _, _, rfl, rfl, SqL.of (f16.l _ _ eO2), hx, ?_⟩
        obtain ⟨tt, rfl, btt⟩ : ∃ tt : Int, x = .int tt ∧ Bd 1000 tt := by
          have x21 : x2 < 10 ^ 9 := x21
          have x31 : x3 < 10 ^ 6 := x31
          simp only [List.mem_cons, List.not_mem_nil, or_false] at mx
          rcases mx with rfl | rfl | rfl
          · exact ⟨_, rfl, Bd.small 40 (by omega) (by decide)⟩
          · exact ⟨_, rfl, Bd.small 40 (by omega) (by decide)⟩
          · exact ⟨_, rfl, Bd.small 40 (by omega) (by decide)⟩
        have f1216 : Fr H12 H16 := f13.trans (f14.trans (f15.trans ((Fr.same zO2).trans f16)))
        have st16 := st12.fr f1216 hP16
        have oY16 : Obs rcO H16 vY (rcs es t) := oY.keep fun b d e => f1216.t _ _ e
        have eY16 := f1216.l _ _ eY
        clear f13 f14 f15 f16 zO2 eO2 nO2 hP13 hP14 hP15 hP16 f1216 st12 oY eY hx
        refine ⟨_, rfl, _, rfl, _, rfl, _, rfl, o, D, Y, u, t, ms, es, tt, vY, rfl, st16.lg, pms, pw, hu, by omega, hwe, eY16, oY16, btt, st16.tb, fun H17 x17 t17 => ⟨true, rfl, iteF ?_⟩⟩
        have st17 := st16.extN x17 t17
        clear st16 oY16 eY16 x17 t17
        -- a time that is none
        refine ⟨_, rfl, len10 (by simp), fun T1 nT1 => ?_⟩
        have zT1 := sm_upd (o := .tup [.int 1]) nT1
        have eT1 := upd_same (H := H17) (a := T1) (o := .tup [.int 1])
        refine ⟨len10 (by simp), fun M2 nM2 nM1 => ?_⟩
        have zM2 := sm_upd (o := .lst [.int 2]) nM2
        have eM2 := upd_same (H := upd H17 T1 (.tup [.int 1])) (a := M2) (o := .lst [.int 2])
        refine fun Dd nDd => ?_
        have zDd := sm_upd (o := .dK []) nDd
        have eDd := upd_same (H := upd (upd H17 T1 (.tup [.int 1])) M2 (.lst [.int 2])) (a := Dd) (o := .dK [])
        have eT18 := zDd _ _ (zM2 _ _ eT1)
        have eM18 := zDd _ _ eM2
        have s18 := zT1.trans (zM2.trans zDd)
        generalize upd (upd (upd H17 T1 (.tup [.int 1])) M2 (.lst [.int 2])) Dd (.dK []) = H18 at eT18 eM18 eDd s18 ⊢
        refine ⟨len10 (by simp), fun O3 nO3 _ => ?_⟩
        have zO3 := sm_upd (o := .lst [.non, .bl true, .str "1", .ref T1, .ref M2, .ref Dd]) nO3
        have eO3 := upd_same (H := H18) (a := O3) (o := .lst [.non, .bl true, .str "1", .ref T1, .ref M2, .ref Dd])
        have st19 := (st17.same s18).same zO3
        refine ⟨_, rfl, a, _, _, rfl, st19.pn, by omega, by decide, dB _ (by decide) (by decide), fun d4 H20 d40 d41 hP20 f20 => ?_⟩
        obtain ⟨x, hx, mx⟩ := at_in (xs := [.non, .bl true, .str "1", .ref T1, .ref M2, .ref Dd]) d40 (by show d4 < 6; omega)
        refine ⟨O3, _, _, _, rfl, rfl, SqL.of (f20.l _ _ eO3), hx, ?_⟩
        have st20 := st19.fr f20 hP20
        have eT20 := f20.t _ _ (zO3 _ _ eT18)
        have eM20 := f20.l _ _ (zO3 _ _ eM18)
        have eD20 := f20.d0 _ (zO3 _ _ eDd)
        obtain ⟨dd, dv, hd⟩ : ∃ dd, Dv H20 x dd ∧ isI dd = false := by
          simp only [List.mem_cons, List.not_mem_nil, or_false] at mx
          rcases mx with rfl | rfl | rfl | rfl | rfl | rfl
          · exact ⟨_, .non, rfl⟩
          · exact ⟨_, .bl true, rfl⟩
          · exact ⟨_, .str _, rfl⟩
          · exact ⟨_, .tup eT20 (.cons (.int 1) .nil), rfl⟩
          · exact ⟨_, .lst nM1 eM20 (.cons (.int 2) .nil), rfl⟩
          · exact ⟨_, .dk0 eD20, rfl⟩
        refine ⟨o, D, ms, x, dd, rfl, st20.lg, dv, hd, fun H21 s21 => ⟨true, rfl, iteF ?_⟩⟩
        have st21 := st20.same s21
        exact ⟨_, _, _, _, rfl, ⟨st21.pn.mono (by omega), st21.tb, st21.eL, st21.hE, st21.lg⟩⟩
      · rintro σ H9 ⟨y6, y7, y8, y9, rfl, st9⟩
        exact ⟨_, _, _, _, _, _, _, _, rfl, st9.pn.mono (by omega), st9.tb⟩
    · rintro σ H1 _
      exact kk _
end
/-! ### what the top has written -/
abbrev sI_InvalidNumber : Stmt := (C8.clsBody (topS 4)).getD 0 (.Pass ⟨0, 0, 0, 0⟩)
theorem iniT_InvalidNumber : IniT "value" (defArgs sI_InvalidNumber) (defBody sI_InvalidNumber) (defScope sI_InvalidNumber) := ⟨⟨_, rfl, rfl⟩, ⟨_, _, _, _, _, _, _, _, _, _, _, _, rfl, _, fun env => rfl⟩, rfl, rfl, rfl, rfl, by decide +kernel, by decide +kernel, rfl, rfl, rfl, by decide +kernel, by decide +kernel, by decide +kernel⟩


theorem all_mk {l : PySem.W.OpenLaw} {w : World} {K : PySem.W.Frag} {h : Heap} {mg : Str → Option Value} {fa : Addr} (X : K.In h) (G : h.Ns mainGlobals mg) (hfa : mg "law" = some (.ref fa))
    {f0 f1 f2 f3 f4 f5 f6 f7 f8 f9 f10 f11 f12 f13 f14 f15 f16 f17 f18 f19 f20 f21 f22 f23 f24 f25 f26 f27 f28 f29 f30 f31 f32 f33 f34 f35 f36 f37 f38 f39 f40 f41 f42 f43 f44 f45 f46 f47 f48 f49 f50 f51 f52 f53 f54 f55 f56 f57 : Addr} {od0 an0 od1 an1 od2 an2 od3 an3 od4 an4 od5 an5 od6 an6 od7 an7 od8 an8 od9 an9 od10 an10 od11 an11 od12 an12 od13 an13 od14 an14 od15 an15 od16 an16 od17 an17 od18 an18 od19 an19 od20 an20 od21 an21 od22 an22 od23 an23 od24 an24 od25 an25 od26 an26 od27 an27 od28 an28 od29 an29 od30 an30 od31 an31 od32 an32 od33 an33 od34 an34 od35 an35 od36 an36 od37 an37 od38 an38 od39 an39 od40 an40 od41 an41 od42 an42 od43 an43 od44 an44 od45 an45 od46 an46 od47 an47 od48 an48 od49 an49 od50 an50 od51 an51 od52 an52 od53 an53 od54 an54 od55 an55 od56 an56 od57 an57 : Option Addr} {sl0 sl1 sl2 sl3 sl4 sl5 sl6 sl7 sl8 sl9 sl10 sl11 sl12 sl13 sl14 sl15 sl16 sl17 sl18 sl19 sl20 sl21 sl22 sl23 sl24 sl25 sl26 sl27 sl28 sl29 sl30 sl31 sl32 sl33 sl34 sl35 sl36 sl37 sl38 sl39 sl40 sl41 sl42 sl43 sl44 sl45 sl46 sl47 sl48 sl49 sl50 sl51 sl52 sl53 sl54 sl55 sl56 sl57 : Array (Option Value)} {oc0 kV0 dc0 pm0 cd0 ct0 oc1 kV1 dc1 pm1 cd1 ct1 oc2 kV2 dc2 pm2 cd2 ct2 oc3 kV3 dc3 pm3 cd3 ct3 oc4 kV4 dc4 pm4 cd4 ct4 oc5 kV5 dc5 pm5 cd5 ct5 oc6 kV6 dc6 pm6 cd6 ct6 oc7 kV7 dc7 pm7 cd7 ct7 oc8 kV8 dc8 pm8 cd8 ct8 oc9 kV9 dc9 pm9 cd9 ct9 oc10 kV10 dc10 pm10 cd10 ct10 oc11 kV11 dc11 pm11 cd11 ct11 oc12 kV12 dc12 pm12 cd12 ct12 oc13 kV13 dc13 pm13 cd13 ct13 oc14 kV14 dc14 pm14 cd14 ct14 oc15 kV15 dc15 pm15 cd15 ct15 oc16 kV16 dc16 pm16 cd16 ct16 oc17 kV17 dc17 pm17 cd17 ct17 oc18 kV18 dc18 pm18 cd18 ct18 oc19 kV19 dc19 pm19 cd19 ct19 oc20 kV20 dc20 pm20 cd20 ct20 oc21 kV21 dc21 pm21 cd21 ct21 oc22 kV22 dc22 pm22 cd22 ct22 oc23 kV23 dc23 pm23 cd23 ct23 oc24 kV24 dc24 pm24 cd24 ct24 oc25 kV25 dc25 pm25 cd25 ct25 oc26 kV26 dc26 pm26 cd26 ct26 oc27 kV27 dc27 pm27 cd27 ct27 oc28 kV28 dc28 pm28 cd28 ct28 oc29 kV29 dc29 pm29 cd29 ct29 oc30 kV30 dc30 pm30 cd30 ct30 oc31 kV31 dc31 pm31 cd31 ct31 oc32 kV32 dc32 pm32 cd32 ct32 oc33 kV33 dc33 pm33 cd33 ct33 oc34 kV34 dc34 pm34 cd34 ct34 oc35 kV35 dc35 pm35 cd35 ct35 oc36 kV36 dc36 pm36 cd36 ct36 oc37 kV37 dc37 pm37 cd37 ct37 oc38 kV38 dc38 pm38 cd38 ct38 oc39 kV39 dc39 pm39 cd39 ct39 oc40 kV40 dc40 pm40 cd40 ct40 oc41 kV41 dc41 pm41 cd41 ct41 oc42 kV42 dc42 pm42 cd42 ct42 oc43 kV43 dc43 pm43 cd43 ct43 oc44 kV44 dc44 pm44 cd44 ct44 oc45 kV45 dc45 pm45 cd45 ct45 oc46 kV46 dc46 pm46 cd46 ct46 oc47 kV47 dc47 pm47 cd47 ct47 oc48 kV48 dc48 pm48 cd48 ct48 oc49 kV49 dc49 pm49 cd49 ct49 oc50 kV50 dc50 pm50 cd50 ct50 oc51 kV51 dc51 pm51 cd51 ct51 oc52 kV52 dc52 pm52 cd52 ct52 oc53 kV53 dc53 pm53 cd53 ct53 oc54 kV54 dc54 pm54 cd54 ct54 oc55 kV55 dc55 pm55 cd55 ct55 oc56 kV56 dc56 pm56 cd56 ct56 oc57 kV57 dc57 pm57 cd57 ct57 : Value}
    (a0 : PySem.W.nsIn K mainGlobals "_law_start" = some (some (.ref f0))) (l0 : K.lookup f0 = some ⟨oc0, od0, .func (PySem.W.fnOf "_law_start" "_law_start" (defArgs s_l_start) (defBody s_l_start) (defScope s_l_start) .none kV0 dc0 pm0 an0 cd0 ct0), sl0⟩) (c0 : PySem.W.codeIn K cd0 "_law_start" = true) (k0 : PySem.W.keepIn K (.ref f0) = true)
    (a1 : PySem.W.nsIn K mainGlobals "_law_draw" = some (some (.ref f1))) (l1 : K.lookup f1 = some ⟨oc1, od1, .func (PySem.W.fnOf "_law_draw" "_law_draw" (defArgs s_l_draw) (defBody s_l_draw) (defScope s_l_draw) .none kV1 dc1 pm1 an1 cd1 ct1), sl1⟩) (c1 : PySem.W.codeIn K cd1 "_law_draw" = true) (k1 : PySem.W.keepIn K (.ref f1) = true)
    (a2 : PySem.W.nsIn K mainGlobals "is_integer" = some (some (.ref f2))) (l2 : K.lookup f2 = some ⟨oc2, od2, .func (PySem.W.fnOf "is_integer" "is_integer" (defArgs s_is_integer) (defBody s_is_integer) (defScope s_is_integer) .none kV2 dc2 pm2 an2 cd2 ct2), sl2⟩) (c2 : PySem.W.codeIn K cd2 "is_integer" = true) (k2 : PySem.W.keepIn K (.ref f2) = true)
    (a3 : PySem.W.nsIn K mainGlobals "check_integer" = some (some (.ref f3))) (l3 : K.lookup f3 = some ⟨oc3, od3, .func (PySem.W.fnOf "check_integer" "check_integer" (defArgs s_check_integer) (defBody s_check_integer) (defScope s_check_integer) .none kV3 dc3 pm3 an3 cd3 ct3), sl3⟩) (c3 : PySem.W.codeIn K cd3 "check_integer" = true) (k3 : PySem.W.keepIn K (.ref f3) = true)
    (a4 : PySem.W.nsIn K mainGlobals "gcd" = some (some (.ref f4))) (l4 : K.lookup f4 = some ⟨oc4, od4, .func (PySem.W.fnOf "gcd" "gcd" (defArgs s_gcd) (defBody s_gcd) (defScope s_gcd) .none kV4 dc4 pm4 an4 cd4 ct4), sl4⟩) (c4 : PySem.W.codeIn K cd4 "gcd" = true) (k4 : PySem.W.keepIn K (.ref f4) = true)
    (a5 : PySem.W.nsIn K mainGlobals "is_rule" = some (some (.ref f5))) (l5 : K.lookup f5 = some ⟨oc5, od5, .func (PySem.W.fnOf "is_rule" "is_rule" (defArgs s_is_rule) (defBody s_is_rule) (defScope s_is_rule) .none kV5 dc5 pm5 an5 cd5 ct5), sl5⟩) (c5 : PySem.W.codeIn K cd5 "is_rule" = true) (k5 : PySem.W.keepIn K (.ref f5) = true)
    (a6 : PySem.W.nsIn K mainGlobals "check_rule" = some (some (.ref f6))) (l6 : K.lookup f6 = some ⟨oc6, od6, .func (PySem.W.fnOf "check_rule" "check_rule" (defArgs s_check_rule) (defBody s_check_rule) (defScope s_check_rule) .none kV6 dc6 pm6 an6 cd6 ct6), sl6⟩) (c6 : PySem.W.codeIn K cd6 "check_rule" = true) (k6 : PySem.W.keepIn K (.ref f6) = true)
    (a7 : PySem.W.nsIn K mainGlobals "is_rate" = some (some (.ref f7))) (l7 : K.lookup f7 = some ⟨oc7, od7, .func (PySem.W.fnOf "is_rate" "is_rate" (defArgs s_is_rate) (defBody s_is_rate) (defScope s_is_rate) .none kV7 dc7 pm7 an7 cd7 ct7), sl7⟩) (c7 : PySem.W.codeIn K cd7 "is_rate" = true) (k7 : PySem.W.keepIn K (.ref f7) = true)
    (a8 : PySem.W.nsIn K mainGlobals "check_rate" = some (some (.ref f8))) (l8 : K.lookup f8 = some ⟨oc8, od8, .func (PySem.W.fnOf "check_rate" "check_rate" (defArgs s_check_rate) (defBody s_check_rate) (defScope s_check_rate) .none kV8 dc8 pm8 an8 cd8 ct8), sl8⟩) (c8 : PySem.W.codeIn K cd8 "check_rate" = true) (k8 : PySem.W.keepIn K (.ref f8) = true)
    (a9 : PySem.W.nsIn K mainGlobals "simplest_inside" = some (some (.ref f9))) (l9 : K.lookup f9 = some ⟨oc9, od9, .func (PySem.W.fnOf "simplest_inside" "simplest_inside" (defArgs s_simplest_inside) (defBody s_simplest_inside) (defScope s_simplest_inside) .none kV9 dc9 pm9 an9 cd9 ct9), sl9⟩) (c9 : PySem.W.codeIn K cd9 "simplest_inside" = true) (k9 : PySem.W.keepIn K (.ref f9) = true)
    (a10 : PySem.W.nsIn K mainGlobals "check_at_least" = some (some (.ref f10))) (l10 : K.lookup f10 = some ⟨oc10, od10, .func (PySem.W.fnOf "check_at_least" "check_at_least" (defArgs s_check_at_least) (defBody s_check_at_least) (defScope s_check_at_least) .none kV10 dc10 pm10 an10 cd10 ct10), sl10⟩) (c10 : PySem.W.codeIn K cd10 "check_at_least" = true) (k10 : PySem.W.keepIn K (.ref f10) = true)
    (a11 : PySem.W.nsIn K mainGlobals "is_record" = some (some (.ref f11))) (l11 : K.lookup f11 = some ⟨oc11, od11, .func (PySem.W.fnOf "is_record" "is_record" (defArgs s_is_record) (defBody s_is_record) (defScope s_is_record) .none kV11 dc11 pm11 an11 cd11 ct11), sl11⟩) (c11 : PySem.W.codeIn K cd11 "is_record" = true) (k11 : PySem.W.keepIn K (.ref f11) = true)
    (a12 : PySem.W.nsIn K mainGlobals "check_records" = some (some (.ref f12))) (l12 : K.lookup f12 = some ⟨oc12, od12, .func (PySem.W.fnOf "check_records" "check_records" (defArgs s_check_records) (defBody s_check_records) (defScope s_check_records) .none kV12 dc12 pm12 an12 cd12 ct12), sl12⟩) (c12 : PySem.W.codeIn K cd12 "check_records" = true) (k12 : PySem.W.keepIn K (.ref f12) = true)
    (a13 : PySem.W.nsIn K mainGlobals "split_records" = some (some (.ref f13))) (l13 : K.lookup f13 = some ⟨oc13, od13, .func (PySem.W.fnOf "split_records" "split_records" (defArgs s_split_records) (defBody s_split_records) (defScope s_split_records) .none kV13 dc13 pm13 an13 cd13 ct13), sl13⟩) (c13 : PySem.W.codeIn K cd13 "split_records" = true) (k13 : PySem.W.keepIn K (.ref f13) = true)
    (a14 : PySem.W.nsIn K mainGlobals "tighter_pairs" = some (some (.ref f14))) (l14 : K.lookup f14 = some ⟨oc14, od14, .func (PySem.W.fnOf "tighter_pairs" "tighter_pairs" (defArgs s_tighter_pairs) (defBody s_tighter_pairs) (defScope s_tighter_pairs) .none kV14 dc14 pm14 an14 cd14 ct14), sl14⟩) (c14 : PySem.W.codeIn K cd14 "tighter_pairs" = true) (k14 : PySem.W.keepIn K (.ref f14) = true)
    (a15 : PySem.W.nsIn K mainGlobals "simplest_between" = some (some (.ref f15))) (l15 : K.lookup f15 = some ⟨oc15, od15, .func (PySem.W.fnOf "simplest_between" "simplest_between" (defArgs s_simplest_between) (defBody s_simplest_between) (defScope s_simplest_between) .none kV15 dc15 pm15 an15 cd15 ct15), sl15⟩) (c15 : PySem.W.codeIn K cd15 "simplest_between" = true) (k15 : PySem.W.keepIn K (.ref f15) = true)
    (a16 : PySem.W.nsIn K mainGlobals "reduce_rate" = some (some (.ref f16))) (l16 : K.lookup f16 = some ⟨oc16, od16, .func (PySem.W.fnOf "reduce_rate" "reduce_rate" (defArgs s_reduce_rate) (defBody s_reduce_rate) (defScope s_reduce_rate) .none kV16 dc16 pm16 an16 cd16 ct16), sl16⟩) (c16 : PySem.W.codeIn K cd16 "reduce_rate" = true) (k16 : PySem.W.keepIn K (.ref f16) = true)
    (a17 : PySem.W.nsIn K mainGlobals "tight_pairs" = some (some (.ref f17))) (l17 : K.lookup f17 = some ⟨oc17, od17, .func (PySem.W.fnOf "tight_pairs" "tight_pairs" (defArgs s_tight_pairs) (defBody s_tight_pairs) (defScope s_tight_pairs) .none kV17 dc17 pm17 an17 cd17 ct17), sl17⟩) (c17 : PySem.W.codeIn K cd17 "tight_pairs" = true) (k17 : PySem.W.keepIn K (.ref f17) = true)
    (a18 : PySem.W.nsIn K mainGlobals "leave_no_rate" = some (some (.ref f18))) (l18 : K.lookup f18 = some ⟨oc18, od18, .func (PySem.W.fnOf "leave_no_rate" "leave_no_rate" (defArgs s_leave_no_rate) (defBody s_leave_no_rate) (defScope s_leave_no_rate) .none kV18 dc18 pm18 an18 cd18 ct18), sl18⟩) (c18 : PySem.W.codeIn K cd18 "leave_no_rate" = true) (k18 : PySem.W.keepIn K (.ref f18) = true)
    (a19 : PySem.W.nsIn K mainGlobals "rate_ends" = some (some (.ref f19))) (l19 : K.lookup f19 = some ⟨oc19, od19, .func (PySem.W.fnOf "rate_ends" "rate_ends" (defArgs s_rate_ends) (defBody s_rate_ends) (defScope s_rate_ends) .none kV19 dc19 pm19 an19 cd19 ct19), sl19⟩) (c19 : PySem.W.codeIn K cd19 "rate_ends" = true) (k19 : PySem.W.keepIn K (.ref f19) = true)
    (a20 : PySem.W.nsIn K mainGlobals "rates" = some (some (.ref f20))) (l20 : K.lookup f20 = some ⟨oc20, od20, .func (PySem.W.fnOf "rates" "rates" (defArgs s_rates) (defBody s_rates) (defScope s_rates) .none kV20 dc20 pm20 an20 cd20 ct20), sl20⟩) (c20 : PySem.W.codeIn K cd20 "rates" = true) (k20 : PySem.W.keepIn K (.ref f20) = true)
    (a21 : PySem.W.nsIn K mainGlobals "phase_ends" = some (some (.ref f21))) (l21 : K.lookup f21 = some ⟨oc21, od21, .func (PySem.W.fnOf "phase_ends" "phase_ends" (defArgs s_phase_ends) (defBody s_phase_ends) (defScope s_phase_ends) .none kV21 dc21 pm21 an21 cd21 ct21), sl21⟩) (c21 : PySem.W.codeIn K cd21 "phase_ends" = true) (k21 : PySem.W.keepIn K (.ref f21) = true)
    (a22 : PySem.W.nsIn K mainGlobals "fitting_ends" = some (some (.ref f22))) (l22 : K.lookup f22 = some ⟨oc22, od22, .func (PySem.W.fnOf "fitting_ends" "fitting_ends" (defArgs s_fitting_ends) (defBody s_fitting_ends) (defScope s_fitting_ends) .none kV22 dc22 pm22 an22 cd22 ct22), sl22⟩) (c22 : PySem.W.codeIn K cd22 "fitting_ends" = true) (k22 : PySem.W.keepIn K (.ref f22) = true)
    (a23 : PySem.W.nsIn K mainGlobals "fitting_rule" = some (some (.ref f23))) (l23 : K.lookup f23 = some ⟨oc23, od23, .func (PySem.W.fnOf "fitting_rule" "fitting_rule" (defArgs s_fitting_rule) (defBody s_fitting_rule) (defScope s_fitting_rule) .none kV23 dc23 pm23 an23 cd23 ct23), sl23⟩) (c23 : PySem.W.codeIn K cd23 "fitting_rule" = true) (k23 : PySem.W.keepIn K (.ref f23) = true)
    (a24 : PySem.W.nsIn K mainGlobals "least_rule" = some (some (.ref f24))) (l24 : K.lookup f24 = some ⟨oc24, od24, .func (PySem.W.fnOf "least_rule" "least_rule" (defArgs s_least_rule) (defBody s_least_rule) (defScope s_least_rule) .none kV24 dc24 pm24 an24 cd24 ct24), sl24⟩) (c24 : PySem.W.codeIn K cd24 "least_rule" = true) (k24 : PySem.W.keepIn K (.ref f24) = true)
    (a25 : PySem.W.nsIn K mainGlobals "hides_last" = some (some (.ref f25))) (l25 : K.lookup f25 = some ⟨oc25, od25, .func (PySem.W.fnOf "hides_last" "hides_last" (defArgs s_hides_last) (defBody s_hides_last) (defScope s_hides_last) .none kV25 dc25 pm25 an25 cd25 ct25), sl25⟩) (c25 : PySem.W.codeIn K cd25 "hides_last" = true) (k25 : PySem.W.keepIn K (.ref f25) = true)
    (a26 : PySem.W.nsIn K mainGlobals "upper_hull" = some (some (.ref f26))) (l26 : K.lookup f26 = some ⟨oc26, od26, .func (PySem.W.fnOf "upper_hull" "upper_hull" (defArgs s_upper_hull) (defBody s_upper_hull) (defScope s_upper_hull) .none kV26 dc26 pm26 an26 cd26 ct26), sl26⟩) (c26 : PySem.W.codeIn K cd26 "upper_hull" = true) (k26 : PySem.W.keepIn K (.ref f26) = true)
    (a27 : PySem.W.nsIn K mainGlobals "low_end" = some (some (.ref f27))) (l27 : K.lookup f27 = some ⟨oc27, od27, .func (PySem.W.fnOf "low_end" "low_end" (defArgs s_low_end) (defBody s_low_end) (defScope s_low_end) .none kV27 dc27 pm27 an27 cd27 ct27), sl27⟩) (c27 : PySem.W.codeIn K cd27 "low_end" = true) (k27 : PySem.W.keepIn K (.ref f27) = true)
    (a28 : PySem.W.nsIn K mainGlobals "steepness" = some (some (.ref f28))) (l28 : K.lookup f28 = some ⟨oc28, od28, .func (PySem.W.fnOf "steepness" "steepness" (defArgs s_steepness) (defBody s_steepness) (defScope s_steepness) .none kV28 dc28 pm28 an28 cd28 ct28), sl28⟩) (c28 : PySem.W.codeIn K cd28 "steepness" = true) (k28 : PySem.W.keepIn K (.ref f28) = true)
    (a29 : PySem.W.nsIn K mainGlobals "low_corners" = some (some (.ref f29))) (l29 : K.lookup f29 = some ⟨oc29, od29, .func (PySem.W.fnOf "low_corners" "low_corners" (defArgs s_low_corners) (defBody s_low_corners) (defScope s_low_corners) .none kV29 dc29 pm29 an29 cd29 ct29), sl29⟩) (c29 : PySem.W.codeIn K cd29 "low_corners" = true) (k29 : PySem.W.keepIn K (.ref f29) = true)
    (a30 : PySem.W.nsIn K mainGlobals "divide_up" = some (some (.ref f30))) (l30 : K.lookup f30 = some ⟨oc30, od30, .func (PySem.W.fnOf "divide_up" "divide_up" (defArgs s_divide_up) (defBody s_divide_up) (defScope s_divide_up) .none kV30 dc30 pm30 an30 cd30 ct30), sl30⟩) (c30 : PySem.W.codeIn K cd30 "divide_up" = true) (k30 : PySem.W.keepIn K (.ref f30) = true)
    (a31 : PySem.W.nsIn K mainGlobals "line_through" = some (some (.ref f31))) (l31 : K.lookup f31 = some ⟨oc31, od31, .func (PySem.W.fnOf "line_through" "line_through" (defArgs s_line_through) (defBody s_line_through) (defScope s_line_through) .none kV31 dc31 pm31 an31 cd31 ct31), sl31⟩) (c31 : PySem.W.codeIn K cd31 "line_through" = true) (k31 : PySem.W.keepIn K (.ref f31) = true)
    (a32 : PySem.W.nsIn K mainGlobals "least_chain" = some (some (.ref f32))) (l32 : K.lookup f32 = some ⟨oc32, od32, .func (PySem.W.fnOf "least_chain" "least_chain" (defArgs s_least_chain) (defBody s_least_chain) (defScope s_least_chain) .none kV32 dc32 pm32 an32 cd32 ct32), sl32⟩) (c32 : PySem.W.codeIn K cd32 "least_chain" = true) (k32 : PySem.W.keepIn K (.ref f32) = true)
    (a33 : PySem.W.nsIn K mainGlobals "mirror_records" = some (some (.ref f33))) (l33 : K.lookup f33 = some ⟨oc33, od33, .func (PySem.W.fnOf "mirror_records" "mirror_records" (defArgs s_mirror_records) (defBody s_mirror_records) (defScope s_mirror_records) .none kV33 dc33 pm33 an33 cd33 ct33), sl33⟩) (c33 : PySem.W.codeIn K cd33 "mirror_records" = true) (k33 : PySem.W.keepIn K (.ref f33) = true)
    (a34 : PySem.W.nsIn K mainGlobals "greatest_chain" = some (some (.ref f34))) (l34 : K.lookup f34 = some ⟨oc34, od34, .func (PySem.W.fnOf "greatest_chain" "greatest_chain" (defArgs s_greatest_chain) (defBody s_greatest_chain) (defScope s_greatest_chain) .none kV34 dc34 pm34 an34 cd34 ct34), sl34⟩) (c34 : PySem.W.codeIn K cd34 "greatest_chain" = true) (k34 : PySem.W.keepIn K (.ref f34) = true)
    (a35 : PySem.W.nsIn K mainGlobals "line_at" = some (some (.ref f35))) (l35 : K.lookup f35 = some ⟨oc35, od35, .func (PySem.W.fnOf "line_at" "line_at" (defArgs s_line_at) (defBody s_line_at) (defScope s_line_at) .none kV35 dc35 pm35 an35 cd35 ct35), sl35⟩) (c35 : PySem.W.codeIn K cd35 "line_at" = true) (k35 : PySem.W.keepIn K (.ref f35) = true)
    (a36 : PySem.W.nsIn K mainGlobals "range_at" = some (some (.ref f36))) (l36 : K.lookup f36 = some ⟨oc36, od36, .func (PySem.W.fnOf "range_at" "range_at" (defArgs s_range_at) (defBody s_range_at) (defScope s_range_at) .none kV36 dc36 pm36 an36 cd36 ct36), sl36⟩) (c36 : PySem.W.codeIn K cd36 "range_at" = true) (k36 : PySem.W.keepIn K (.ref f36) = true)
    (a37 : PySem.W.nsIn K mainGlobals "count_range" = some (some (.ref f37))) (l37 : K.lookup f37 = some ⟨oc37, od37, .func (PySem.W.fnOf "count_range" "count_range" (defArgs s_count_range) (defBody s_count_range) (defScope s_count_range) .none kV37 dc37 pm37 an37 cd37 ct37), sl37⟩) (c37 : PySem.W.codeIn K cd37 "count_range" = true) (k37 : PySem.W.keepIn K (.ref f37) = true)
    (a38 : PySem.W.nsIn K mainGlobals "fits_record" = some (some (.ref f38))) (l38 : K.lookup f38 = some ⟨oc38, od38, .func (PySem.W.fnOf "fits_record" "fits_record" (defArgs s_fits_record) (defBody s_fits_record) (defScope s_fits_record) .none kV38 dc38 pm38 an38 cd38 ct38), sl38⟩) (c38 : PySem.W.codeIn K cd38 "fits_record" = true) (k38 : PySem.W.keepIn K (.ref f38) = true)
    (a39 : PySem.W.nsIn K mainGlobals "fits" = some (some (.ref f39))) (l39 : K.lookup f39 = some ⟨oc39, od39, .func (PySem.W.fnOf "fits" "fits" (defArgs s_fits) (defBody s_fits) (defScope s_fits) .none kV39 dc39 pm39 an39 cd39 ct39), sl39⟩) (c39 : PySem.W.codeIn K cd39 "fits" = true) (k39 : PySem.W.keepIn K (.ref f39) = true)
    (a40 : PySem.W.nsIn K mainGlobals "_law_divisor" = some (some (.ref f40))) (l40 : K.lookup f40 = some ⟨oc40, od40, .func (PySem.W.fnOf "_law_divisor" "_law_divisor" (defArgs s_l_divisor) (defBody s_l_divisor) (defScope s_l_divisor) .none kV40 dc40 pm40 an40 cd40 ct40), sl40⟩) (c40 : PySem.W.codeIn K cd40 "_law_divisor" = true) (k40 : PySem.W.keepIn K (.ref f40) = true)
    (a41 : PySem.W.nsIn K mainGlobals "_law_rule" = some (some (.ref f41))) (l41 : K.lookup f41 = some ⟨oc41, od41, .func (PySem.W.fnOf "_law_rule" "_law_rule" (defArgs s_l_rule) (defBody s_l_rule) (defScope s_l_rule) .none kV41 dc41 pm41 an41 cd41 ct41), sl41⟩) (c41 : PySem.W.codeIn K cd41 "_law_rule" = true) (k41 : PySem.W.keepIn K (.ref f41) = true)
    (a42 : PySem.W.nsIn K mainGlobals "_law_count" = some (some (.ref f42))) (l42 : K.lookup f42 = some ⟨oc42, od42, .func (PySem.W.fnOf "_law_count" "_law_count" (defArgs s_l_count) (defBody s_l_count) (defScope s_l_count) .none kV42 dc42 pm42 an42 cd42 ct42), sl42⟩) (c42 : PySem.W.codeIn K cd42 "_law_count" = true) (k42 : PySem.W.keepIn K (.ref f42) = true)
    (a43 : PySem.W.nsIn K mainGlobals "is_witness" = some (some (.ref f43))) (l43 : K.lookup f43 = some ⟨oc43, od43, .func (PySem.W.fnOf "is_witness" "is_witness" (defArgs s_is_witness) (defBody s_is_witness) (defScope s_is_witness) .none kV43 dc43 pm43 an43 cd43 ct43), sl43⟩) (c43 : PySem.W.codeIn K cd43 "is_witness" = true) (k43 : PySem.W.keepIn K (.ref f43) = true)
    (a44 : PySem.W.nsIn K mainGlobals "check_source" = some (some (.ref f44))) (l44 : K.lookup f44 = some ⟨oc44, od44, .func (PySem.W.fnOf "check_source" "check_source" (defArgs s_check_source) (defBody s_check_source) (defScope s_check_source) .none kV44 dc44 pm44 an44 cd44 ct44), sl44⟩) (c44 : PySem.W.codeIn K cd44 "check_source" = true) (k44 : PySem.W.keepIn K (.ref f44) = true)
    (a45 : PySem.W.nsIn K mainGlobals "_law_record" = some (some (.ref f45))) (l45 : K.lookup f45 = some ⟨oc45, od45, .func (PySem.W.fnOf "_law_record" "_law_record" (defArgs s_l_record) (defBody s_l_record) (defScope s_l_record) .none kV45 dc45 pm45 an45 cd45 ct45), sl45⟩) (c45 : PySem.W.codeIn K cd45 "_law_record" = true) (k45 : PySem.W.keepIn K (.ref f45) = true)
    (a46 : PySem.W.nsIn K mainGlobals "_law_words" = some (some (.ref f46))) (l46 : K.lookup f46 = some ⟨oc46, od46, .func (PySem.W.fnOf "_law_words" "_law_words" (defArgs s_l_words) (defBody s_l_words) (defScope s_l_words) .none kV46 dc46 pm46 an46 cd46 ct46), sl46⟩) (c46 : PySem.W.codeIn K cd46 "_law_words" = true) (k46 : PySem.W.keepIn K (.ref f46) = true)
    (a47 : PySem.W.nsIn K mainGlobals "_law_entries" = some (some (.ref f47))) (l47 : K.lookup f47 = some ⟨oc47, od47, .func (PySem.W.fnOf "_law_entries" "_law_entries" (defArgs s_l_entries) (defBody s_l_entries) (defScope s_l_entries) .none kV47 dc47 pm47 an47 cd47 ct47), sl47⟩) (c47 : PySem.W.codeIn K cd47 "_law_entries" = true) (k47 : PySem.W.keepIn K (.ref f47) = true)
    (a48 : PySem.W.nsIn K mainGlobals "_law_mixed" = some (some (.ref f48))) (l48 : K.lookup f48 = some ⟨oc48, od48, .func (PySem.W.fnOf "_law_mixed" "_law_mixed" (defArgs s_l_mixed) (defBody s_l_mixed) (defScope s_l_mixed) .none kV48 dc48 pm48 an48 cd48 ct48), sl48⟩) (c48 : PySem.W.codeIn K cd48 "_law_mixed" = true) (k48 : PySem.W.keepIn K (.ref f48) = true)
    (a49 : PySem.W.nsIn K mainGlobals "_law_add" = some (some (.ref f49))) (l49 : K.lookup f49 = some ⟨oc49, od49, .func (PySem.W.fnOf "_law_add" "_law_add" (defArgs s_l_add) (defBody s_l_add) (defScope s_l_add) .none kV49 dc49 pm49 an49 cd49 ct49), sl49⟩) (c49 : PySem.W.codeIn K cd49 "_law_add" = true) (k49 : PySem.W.keepIn K (.ref f49) = true)
    (a50 : PySem.W.nsIn K mainGlobals "_law_log" = some (some (.ref f50))) (l50 : K.lookup f50 = some ⟨oc50, od50, .func (PySem.W.fnOf "_law_log" "_law_log" (defArgs s_l_log) (defBody s_l_log) (defScope s_l_log) .none kV50 dc50 pm50 an50 cd50 ct50), sl50⟩) (c50 : PySem.W.codeIn K cd50 "_law_log" = true) (k50 : PySem.W.keepIn K (.ref f50) = true)
    (a51 : PySem.W.nsIn K mainGlobals "_law_there" = some (some (.ref f51))) (l51 : K.lookup f51 = some ⟨oc51, od51, .func (PySem.W.fnOf "_law_there" "_law_there" (defArgs s_l_there) (defBody s_l_there) (defScope s_l_there) .none kV51 dc51 pm51 an51 cd51 ct51), sl51⟩) (c51 : PySem.W.codeIn K cd51 "_law_there" = true) (k51 : PySem.W.keepIn K (.ref f51) = true)
    (a52 : PySem.W.nsIn K mainGlobals "_law_end" = some (some (.ref f52))) (l52 : K.lookup f52 = some ⟨oc52, od52, .func (PySem.W.fnOf "_law_end" "_law_end" (defArgs s_l_end) (defBody s_l_end) (defScope s_l_end) .none kV52 dc52 pm52 an52 cd52 ct52), sl52⟩) (c52 : PySem.W.codeIn K cd52 "_law_end" = true) (k52 : PySem.W.keepIn K (.ref f52) = true)
    (a53 : PySem.W.nsIn K mainGlobals "_law_reports" = some (some (.ref f53))) (l53 : K.lookup f53 = some ⟨oc53, od53, .func (PySem.W.fnOf "_law_reports" "_law_reports" (defArgs s_l_reports) (defBody s_l_reports) (defScope s_l_reports) .none kV53 dc53 pm53 an53 cd53 ct53), sl53⟩) (c53 : PySem.W.codeIn K cd53 "_law_reports" = true) (k53 : PySem.W.keepIn K (.ref f53) = true)
    (a54 : PySem.W.nsIn K mainGlobals "_law_caught" = some (some (.ref f54))) (l54 : K.lookup f54 = some ⟨oc54, od54, .func (PySem.W.fnOf "_law_caught" "_law_caught" (defArgs s_l_caught) (defBody s_l_caught) (defScope s_l_caught) .none kV54 dc54 pm54 an54 cd54 ct54), sl54⟩) (c54 : PySem.W.codeIn K cd54 "_law_caught" = true) (k54 : PySem.W.keepIn K (.ref f54) = true)
    (a55 : PySem.W.nsIn K mainGlobals "_law_is_right" = some (some (.ref f55))) (l55 : K.lookup f55 = some ⟨oc55, od55, .func (PySem.W.fnOf "_law_is_right" "_law_is_right" (defArgs s_l_is_right) (defBody s_l_is_right) (defScope s_l_is_right) .none kV55 dc55 pm55 an55 cd55 ct55), sl55⟩) (c55 : PySem.W.codeIn K cd55 "_law_is_right" = true) (k55 : PySem.W.keepIn K (.ref f55) = true)
    (a56 : PySem.W.nsIn K mainGlobals "_law_odd_time" = some (some (.ref f56))) (l56 : K.lookup f56 = some ⟨oc56, od56, .func (PySem.W.fnOf "_law_odd_time" "_law_odd_time" (defArgs s_l_odd_time) (defBody s_l_odd_time) (defScope s_l_odd_time) .none kV56 dc56 pm56 an56 cd56 ct56), sl56⟩) (c56 : PySem.W.codeIn K cd56 "_law_odd_time" = true) (k56 : PySem.W.keepIn K (.ref f56) = true)
    (a57 : PySem.W.nsIn K mainGlobals "law" = some (some (.ref f57))) (l57 : K.lookup f57 = some ⟨oc57, od57, .func (PySem.W.fnOf "law" "law" (defArgs s_law) (defBody s_law) (defScope s_law) .none kV57 dc57 pm57 an57 cd57 ct57), sl57⟩) (c57 : PySem.W.codeIn K cd57 "law" = true) (k57 : PySem.W.keepIn K (.ref f57) = true)
    (z0 : PySem.W.nsIn K mainGlobals "len" = some none) (z1 : PySem.W.nsIn K mainGlobals "abs" = some none) (z2 : PySem.W.nsIn K mainGlobals "list" = some none) (z3 : PySem.W.nsIn K mainGlobals "range" = some none) (z4 : PySem.W.nsIn K mainGlobals "sum" = some none) (z5 : PySem.W.nsIn K mainGlobals "repr" = some none) (z6 : PySem.W.nsIn K mainGlobals "max" = some none) (z7 : PySem.W.nsIn K mainGlobals "min" = some none) (z8 : PySem.W.nsIn K mainGlobals "reversed" = some none) (z9 : PySem.W.nsIn K mainGlobals "divmod" = some none) (z10 : PySem.W.nsIn K mainGlobals "isinstance" = some none) (z11 : PySem.W.nsIn K mainGlobals "all" = some none) (z12 : PySem.W.nsIn K mainGlobals "int" = some none) (z13 : PySem.W.nsIn K mainGlobals "bool" = some none) (z14 : PySem.W.nsIn K mainGlobals "tuple" = some none) (z15 : PySem.W.nsIn K mainGlobals "sorted" = some none) (z16 : PySem.W.nsIn K mainGlobals "zip" = some none) (z17 : PySem.W.nsIn K mainGlobals "enumerate" = some none) (z18 : PySem.W.nsIn K mainGlobals "set" = some none) (z19 : PySem.W.nsIn K mainGlobals "str" = some none)
    {vC0 vI0 vD0 vX0 vN0 : Addr} {vnm0 vqn0 : Str} {vbs0 vbm0 vsb0 : List Value} {vsn0 : List Str} {vab0 : Bool} {vcl0 : Option Bool} {vdd0 von0 vcd0 vce0 van0 : Option Addr} {vk00 vk10 vk20 vk30 vk50 : Option Value} {voc0 vkV0 vdc0 vpm0 vct0 vcc0 vce20 : Value} {vsl0 vcs0 vcs20 : Array (Option Value)} {vvs0 : Array Value} {vfl0 : Str} {vtf0 : Tok} (v0_0 : PySem.W.nsIn K mainGlobals "InvalidNumber" = some (some (.ref vC0))) (v0_1 : K.lookup vC0 = some (excClassObj vnm0 vqn0 vC0 vN0 vbs0 vbm0 true vsn0 vsb0 vab0 vcl0 vdd0 vk00 vk10 vk20 vk30 vk50 "ValueError.__new__")) (v0_2 : PySem.HandSPX.refsVE vbm0 = true) (v0_3 : PySem.W.findIn K (.ref vC0) "__setattr__" = some (some (.builtin "object.__setattr__"))) (v0_4 : PySem.W.subIn K (.ref vC0) (.type "BaseException") = some true) (v0_5 : PySem.W.typeIn K (.ref vC0) = some (.type "type")) (v0_6 : PySem.W.keepIn K (.ref vC0) = true) (v0_7 : PySem.W.findIn K (.ref vC0) "__init__" = some (some (.ref vI0))) (v0_8 : K.lookup vI0 = some ⟨voc0, von0, .func (PySem.W.ksFn "__init__" "InvalidNumber.__init__" (defArgs sI_InvalidNumber) (defBody sI_InvalidNumber) (defScope sI_InvalidNumber) .none vkV0 vdc0 vpm0 van0 (.ref vD0) vct0 vX0), vsl0⟩) (v0_9 : PySem.W.codeIn K (.ref vD0) "InvalidNumber.__init__" = true) (v0_10 : K.lookup vD0 = some ⟨vcc0, vcd0, .fields vvs0, vcs0⟩) (v0_11 : vvs0[2]? = some (.str vfl0 vtf0)) (v0_12 : ((l.prog.main.file : Str) == vfl0) = true) (v0_13 : K.lookup vX0 = some ⟨vce20, vce0, .cell (some (.ref vC0)), vcs20⟩) (v0_14 : PySem.W.mroIn K vC0 (.ref vC0) = some true) (v0_15 : PySem.W.ks_superIn K vC0 vC0 "__init__" = some (some (.builtin "ValueError.__init__"))) (v0_16 : PySem.W.subIn K (.ref vC0) (.type "ValueError") = some true) (v0_17 : PySem.W.findIn K (.ref vC0) "value" = some none) (v0_18 : PySem.W.typeIn K (.ref vI0) = some (.type "function")) (v0_19 : PySem.W.findIn K (.ref vC0) "__getattribute__" = some (some (.builtin "BaseException.__getattribute__"))) (v0_20 : PySem.W.findIn K (.ref vC0) "__getattr__" = some none) (v0_21 : PySem.W.hasDictIn K vC0 = true) (v0_22 : PySem.W.findIn K (.ref vC0) "__class__" = some (some (.builtin "object.__class__"))) (v0_23 : PySem.W.mroIn K vC0 (.type "object") = some true) (v0_24 : PySem.W.subIn K (.ref vC0) (.ref vC0) = some true) (vu0 : PySem.W.nsIn K cStatics "thirdparty.any" = some none) (vu1 : PySem.W.specialIn K (.builtin "object.__class__") "__get__" = some (some (.builtin "getset_descriptor.__get__"))) (vu2 : PySem.W.takesIn K (.builtin "object.__class__") = some true) (vu3 : (l.prog.main.scope.names.lookup ("super" : Str)).isSome = false) (vu4 : PySem.W.nsIn K mainGlobals "super" = some none)
    {oC0 : Addr} (o0_0 : PySem.W.nsIn K mainGlobals "NoRule" = some (some (.ref oC0))) (o0_1 : PySem.W.keepIn K (.ref oC0) = true) (o0_2 : PySem.W.excIn K oC0 [.type "ValueError", .type "Exception", .type "BaseException", .type "object"] "ValueError.__new__" = true) (o0_3 : PySem.W.findIn K (.ref oC0) "__getattribute__" = some (some (.builtin "BaseException.__getattribute__"))) (o0_4 : PySem.W.findIn K (.ref oC0) "__getattr__" = some none) (o0_5 : PySem.W.subIn K (.ref oC0) (.type "BaseException") = some true) (o0_6 : PySem.W.hasDictIn K oC0 = true) (o0_7 : PySem.W.findIn K (.ref oC0) "__class__" = some (some (.builtin "object.__class__"))) (o0_8 : PySem.W.mroIn K oC0 (.type "object") = some true) (o0_9 : PySem.W.typeIn K (.ref oC0) = some (.type "type")) (o0_10 : PySem.W.subIn K (.ref oC0) (.ref oC0) = some true) (ou1 : PySem.W.specialIn K (.builtin "object.__class__") "__get__" = some (some (.builtin "getset_descriptor.__get__"))) (ou2 : PySem.W.takesIn K (.builtin "object.__class__") = some true)
    {kC0 : Addr} (w0_0 : PySem.W.nsIn K mainGlobals "Log" = some (some (.ref kC0))) (w0_1 : PySem.W.plainGet K kC0 Str.empty = true) (w0_2 : PySem.W.hasDictIn K kC0 = true) (w0_3 : PySem.W.plainOver K kC0 = true) (w0_4 : PySem.W.findIn K (.ref kC0) "__setattr__" = some (some (.builtin "object.__setattr__"))) (w0_5 : PySem.W.makesIn K kC0 = true) (w0_6 : PySem.W.keepIn K (.ref kC0) = true) (w0_7 : PySem.W.findIn K (.ref kC0) "held" = some none) {kf0_0 : Addr} {kod0_0 kan0_0 : Option Addr} {ksl0_0 : Array (Option Value)} {koc0_0 kkV0_0 kdc0_0 kpm0_0 kcd0_0 kct0_0 : Value} (w0_0_0 : PySem.W.findIn K (.ref kC0) "__init__" = some (some (.ref kf0_0))) (w0_0_1 : PySem.W.isFn K (.ref kf0_0) = true) (w0_0_2 : K.lookup kf0_0 = some ⟨koc0_0, kod0_0, .func (PySem.W.fnOf "__init__" "Log.__init__" (defArgs s_Log_init) (defBody s_Log_init) (defScope s_Log_init) .none kkV0_0 kdc0_0 kpm0_0 kan0_0 kcd0_0 kct0_0), ksl0_0⟩) (w0_0_3 : PySem.W.codeIn K kcd0_0 "Log.__init__" = true) (w0_0_4 : PySem.W.keepIn K (.ref kf0_0) = true) {kf0_1 : Addr} {kod0_1 kan0_1 : Option Addr} {ksl0_1 : Array (Option Value)} {koc0_1 kkV0_1 kdc0_1 kpm0_1 kcd0_1 kct0_1 : Value} (w0_1_0 : PySem.W.findIn K (.ref kC0) "enter" = some (some (.ref kf0_1))) (w0_1_1 : PySem.W.isFn K (.ref kf0_1) = true) (w0_1_2 : K.lookup kf0_1 = some ⟨koc0_1, kod0_1, .func (PySem.W.fnOf "enter" "Log.enter" (defArgs s_Log_enter) (defBody s_Log_enter) (defScope s_Log_enter) .none kkV0_1 kdc0_1 kpm0_1 kan0_1 kcd0_1 kct0_1), ksl0_1⟩) (w0_1_3 : PySem.W.codeIn K kcd0_1 "Log.enter" = true) (w0_1_4 : PySem.W.keepIn K (.ref kf0_1) = true) {kf0_2 : Addr} {kod0_2 kan0_2 : Option Addr} {ksl0_2 : Array (Option Value)} {koc0_2 kkV0_2 kdc0_2 kpm0_2 kcd0_2 kct0_2 : Value} (w0_2_0 : PySem.W.findIn K (.ref kC0) "report" = some (some (.ref kf0_2))) (w0_2_1 : PySem.W.isFn K (.ref kf0_2) = true) (w0_2_2 : K.lookup kf0_2 = some ⟨koc0_2, kod0_2, .func (PySem.W.fnOf "report" "Log.report" (defArgs s_Log_report) (defBody s_Log_report) (defScope s_Log_report) .none kkV0_2 kdc0_2 kpm0_2 kan0_2 kcd0_2 kct0_2), ksl0_2⟩) (w0_2_3 : PySem.W.codeIn K kcd0_2 "Log.report" = true) (w0_2_4 : PySem.W.keepIn K (.ref kf0_2) = true) {kf0_3 : Addr} {kod0_3 kan0_3 : Option Addr} {ksl0_3 : Array (Option Value)} {koc0_3 kkV0_3 kdc0_3 kpm0_3 kcd0_3 kct0_3 : Value} (w0_3_0 : PySem.W.findIn K (.ref kC0) "trust" = some (some (.ref kf0_3))) (w0_3_1 : PySem.W.isFn K (.ref kf0_3) = true) (w0_3_2 : K.lookup kf0_3 = some ⟨koc0_3, kod0_3, .func (PySem.W.fnOf "trust" "Log.trust" (defArgs s_Log_trust) (defBody s_Log_trust) (defScope s_Log_trust) .none kkV0_3 kdc0_3 kpm0_3 kan0_3 kcd0_3 kct0_3), ksl0_3⟩) (w0_3_3 : PySem.W.codeIn K kcd0_3 "Log.trust" = true) (w0_3_4 : PySem.W.keepIn K (.ref kf0_3) = true) {kf0_4 : Addr} {kod0_4 kan0_4 : Option Addr} {ksl0_4 : Array (Option Value)} {koc0_4 kkV0_4 kdc0_4 kpm0_4 kcd0_4 kct0_4 : Value} (w0_4_0 : PySem.W.findIn K (.ref kC0) "distrust" = some (some (.ref kf0_4))) (w0_4_1 : PySem.W.isFn K (.ref kf0_4) = true) (w0_4_2 : K.lookup kf0_4 = some ⟨koc0_4, kod0_4, .func (PySem.W.fnOf "distrust" "Log.distrust" (defArgs s_Log_distrust) (defBody s_Log_distrust) (defScope s_Log_distrust) .none kkV0_4 kdc0_4 kpm0_4 kan0_4 kcd0_4 kct0_4), ksl0_4⟩) (w0_4_3 : PySem.W.codeIn K kcd0_4 "Log.distrust" = true) (w0_4_4 : PySem.W.keepIn K (.ref kf0_4) = true) {kf0_5 : Addr} {kod0_5 kan0_5 : Option Addr} {ksl0_5 : Array (Option Value)} {koc0_5 kkV0_5 kdc0_5 kpm0_5 kcd0_5 kct0_5 : Value} {kDR0_5 : Addr} (w0_5_0 : PySem.W.findIn K (.ref kC0) "entries" = some (some (.ref kf0_5))) (w0_5_1 : PySem.W.isFn K (.ref kf0_5) = true) (w0_5_2 : K.lookup kf0_5 = some ⟨koc0_5, kod0_5, .func (PySem.W.fnOf "entries" "Log.entries" (defArgs s_Log_entries) (defBody s_Log_entries) (defScope s_Log_entries) .none kkV0_5 kdc0_5 kpm0_5 kan0_5 kcd0_5 kct0_5), ksl0_5⟩) (w0_5_3 : PySem.W.codeIn K kcd0_5 "Log.entries" = true) (w0_5_4 : PySem.W.keepIn K (.ref kf0_5) = true) (w0_5_5 : kkV0_5 = .ref kDR0_5) (w0_5_6 : PySem.W.nsIn K kDR0_5 "until" = some (some .none)) {kf0_6 : Addr} {kod0_6 kan0_6 : Option Addr} {ksl0_6 : Array (Option Value)} {koc0_6 kkV0_6 kdc0_6 kpm0_6 kcd0_6 kct0_6 : Value} (w0_6_0 : PySem.W.findIn K (.ref kC0) "reports" = some (some (.ref kf0_6))) (w0_6_1 : PySem.W.isFn K (.ref kf0_6) = true) (w0_6_2 : K.lookup kf0_6 = some ⟨koc0_6, kod0_6, .func (PySem.W.fnOf "reports" "Log.reports" (defArgs s_Log_reports) (defBody s_Log_reports) (defScope s_Log_reports) .none kkV0_6 kdc0_6 kpm0_6 kan0_6 kcd0_6 kct0_6), ksl0_6⟩) (w0_6_3 : PySem.W.codeIn K kcd0_6 "Log.reports" = true) (w0_6_4 : PySem.W.keepIn K (.ref kf0_6) = true) {kf0_7 : Addr} {kod0_7 kan0_7 : Option Addr} {ksl0_7 : Array (Option Value)} {koc0_7 kkV0_7 kdc0_7 kpm0_7 kcd0_7 kct0_7 : Value} {kDR0_7 : Addr} (w0_7_0 : PySem.W.findIn K (.ref kC0) "records" = some (some (.ref kf0_7))) (w0_7_1 : PySem.W.isFn K (.ref kf0_7) = true) (w0_7_2 : K.lookup kf0_7 = some ⟨koc0_7, kod0_7, .func (PySem.W.fnOf "records" "Log.records" (defArgs s_Log_records) (defBody s_Log_records) (defScope s_Log_records) .none kkV0_7 kdc0_7 kpm0_7 kan0_7 kcd0_7 kct0_7), ksl0_7⟩) (w0_7_3 : PySem.W.codeIn K kcd0_7 "Log.records" = true) (w0_7_4 : PySem.W.keepIn K (.ref kf0_7) = true) (w0_7_5 : kkV0_7 = .ref kDR0_7) (w0_7_6 : PySem.W.nsIn K kDR0_7 "until" = some (some .none)) {kf0_8 : Addr} {kod0_8 kan0_8 : Option Addr} {ksl0_8 : Array (Option Value)} {koc0_8 kkV0_8 kdc0_8 kpm0_8 kcd0_8 kct0_8 : Value} {kDR0_8 : Addr} (w0_8_0 : PySem.W.findIn K (.ref kC0) "rates" = some (some (.ref kf0_8))) (w0_8_1 : PySem.W.isFn K (.ref kf0_8) = true) (w0_8_2 : K.lookup kf0_8 = some ⟨koc0_8, kod0_8, .func (PySem.W.fnOf "rates" "Log.rates" (defArgs s_Log_rates) (defBody s_Log_rates) (defScope s_Log_rates) .none kkV0_8 kdc0_8 kpm0_8 kan0_8 kcd0_8 kct0_8), ksl0_8⟩) (w0_8_3 : PySem.W.codeIn K kcd0_8 "Log.rates" = true) (w0_8_4 : PySem.W.keepIn K (.ref kf0_8) = true) (w0_8_5 : kkV0_8 = .ref kDR0_8) (w0_8_6 : PySem.W.nsIn K kDR0_8 "until" = some (some .none)) {kf0_9 : Addr} {kod0_9 kan0_9 : Option Addr} {ksl0_9 : Array (Option Value)} {koc0_9 kkV0_9 kdc0_9 kpm0_9 kcd0_9 kct0_9 : Value} {kDR0_9 : Addr} (w0_9_0 : PySem.W.findIn K (.ref kC0) "count_range" = some (some (.ref kf0_9))) (w0_9_1 : PySem.W.isFn K (.ref kf0_9) = true) (w0_9_2 : K.lookup kf0_9 = some ⟨koc0_9, kod0_9, .func (PySem.W.fnOf "count_range" "Log.count_range" (defArgs s_Log_count_range) (defBody s_Log_count_range) (defScope s_Log_count_range) .none kkV0_9 kdc0_9 kpm0_9 kan0_9 kcd0_9 kct0_9), ksl0_9⟩) (w0_9_3 : PySem.W.codeIn K kcd0_9 "Log.count_range" = true) (w0_9_4 : PySem.W.keepIn K (.ref kf0_9) = true) (w0_9_5 : kkV0_9 = .ref kDR0_9) (w0_9_6 : PySem.W.nsIn K kDR0_9 "until" = some (some .none)) {kf0_10 : Addr} {kod0_10 kan0_10 : Option Addr} {ksl0_10 : Array (Option Value)} {koc0_10 kkV0_10 kdc0_10 kpm0_10 kcd0_10 kct0_10 : Value} {kDR0_10 : Addr} (w0_10_0 : PySem.W.findIn K (.ref kC0) "least_rule" = some (some (.ref kf0_10))) (w0_10_1 : PySem.W.isFn K (.ref kf0_10) = true) (w0_10_2 : K.lookup kf0_10 = some ⟨koc0_10, kod0_10, .func (PySem.W.fnOf "least_rule" "Log.least_rule" (defArgs s_Log_least_rule) (defBody s_Log_least_rule) (defScope s_Log_least_rule) .none kkV0_10 kdc0_10 kpm0_10 kan0_10 kcd0_10 kct0_10), ksl0_10⟩) (w0_10_3 : PySem.W.codeIn K kcd0_10 "Log.least_rule" = true) (w0_10_4 : PySem.W.keepIn K (.ref kf0_10) = true) (w0_10_5 : kkV0_10 = .ref kDR0_10) (w0_10_6 : PySem.W.nsIn K kDR0_10 "until" = some (some .none))
    {cL PT : Addr} {eL : Value} {dL : Option Addr} {vL : Array Value} {sL : Array (Option Value)}
    {tL : Tok} (xL : PySem.W.nsIn K mainGlobals "LETTERS" = some (some (.str "abcdefghijklmnopqrstuvwxyz" tL)))
    {tM : Tok} (xM : PySem.W.nsIn K mainGlobals "MOST_LETTERS" = some (some (.int 12 tM)))
    {tR : Tok} (xR : PySem.W.nsIn K mainGlobals "MOST_RECORDS" = some (some (.int 200 tR)))
    (v0 : cd55 = .ref cL) (v1 : K.lookup cL = some ⟨eL, dL, .fields vL, sL⟩) (v2 : vL[11]? = some (.ref PT)) (v3 : K.lookup PT = none) (v4 : PySem.W.codeHdIn K cL PT = true) (v5 : h.get? PT = some { cls := .none, data := .fields #[] }) :
    LawGTn l w K 11 "_law_script" mg fa h := by
  have e := hfa.symm.trans (PySem.W.mg_of X G a57)
  cases e
  subst v0
  have B : Bi mg := ⟨PySem.W.mg_none_of X G z0, PySem.W.mg_none_of X G z1, PySem.W.mg_none_of X G z2, PySem.W.mg_none_of X G z3, PySem.W.mg_none_of X G z4, PySem.W.mg_none_of X G z5, PySem.W.mg_none_of X G z6, PySem.W.mg_none_of X G z7, PySem.W.mg_none_of X G z8, PySem.W.mg_none_of X G z9, PySem.W.mg_none_of X G z10, PySem.W.mg_none_of X G z11, PySem.W.mg_none_of X G z12, PySem.W.mg_none_of X G z13, PySem.W.mg_none_of X G z14, PySem.W.mg_none_of X G z15, PySem.W.mg_none_of X G z16, PySem.W.mg_none_of X G z17, PySem.W.mg_none_of X G z18, PySem.W.mg_none_of X G z19⟩
  have U : Bc mg := ⟨⟨tR, PySem.W.mg_of X G xR⟩⟩
  have UE : Bw mg := ⟨⟨tL, PySem.W.mg_of X G xL⟩, ⟨tM, PySem.W.mg_of X G xM⟩⟩
  have V_InvalidNumber : ValC l.prog K mg vC0 "InvalidNumber" "value" := ⟨PySem.W.mg_of X G v0_0, ⟨vI0, vD0, vX0, "InvalidNumber.__init__", defArgs sI_InvalidNumber, defBody sI_InvalidNumber, defScope sI_InvalidNumber, vkV0, vdc0, vpm0, vct0, voc0, van0, von0, vsl0, v0_8, v0_9, iniT_InvalidNumber, ⟨⟨⟨vnm0, vqn0, vN0, vbs0, vbm0, vsn0, vsb0, vab0, vcl0, vdd0, vk00, vk10, vk20, vk30, vk50, v0_1, v0_2⟩, v0_3, v0_4, v0_5, v0_6⟩, ⟨_, _, _, _, _, _, v0_10, v0_11, v0_12⟩, ⟨_, _, _, v0_13⟩, v0_14, vu0, v0_15, v0_16, v0_17, vu3⟩, v0_7, v0_18, .all fun us hl => match us, hl with | [_, _], _ => rfl⟩, PySem.W.mg_none_of X G vu4, ⟨v0_19, v0_20, v0_4, v0_21, v0_22, vu1, vu2, v0_23⟩, v0_24⟩
  have O_NoRule : OwnE K mg "NoRule" oC0 := ⟨PySem.W.mg_of X G o0_0, o0_1, o0_2, ⟨o0_3, o0_4, o0_5, o0_6, o0_7, ou1, ou2, o0_8⟩, o0_9, o0_10⟩
  have F0 := fun_mk (st := s_l_start) l0 c0 k0
  have D_l_start : Df K mg "_law_start" s_l_start P_l_start := ⟨f0, _, F0, PySem.W.mg_of X G a0, F0.binds fun _ _ _ _ _ _ us hl => match us, hl with | [_], _ => rfl⟩
  have F1 := fun_mk (st := s_l_draw) l1 c1 k1
  have D_l_draw : Df K mg "_law_draw" s_l_draw P_l_draw := ⟨f1, _, F1, PySem.W.mg_of X G a1, F1.binds fun _ _ _ _ _ _ us hl => match us, hl with | [_, _], _ => rfl⟩
  have F2 := fun_mk (st := s_is_integer) l2 c2 k2
  have D_is_integer : Df K mg "is_integer" s_is_integer P_is_integer := ⟨f2, _, F2, PySem.W.mg_of X G a2, F2.binds fun _ _ _ _ _ _ us hl => match us, hl with | [_], _ => rfl⟩
  have F3 := fun_mk (st := s_check_integer) l3 c3 k3
  have D_check_integer : Df K mg "check_integer" s_check_integer P_check_integer := ⟨f3, _, F3, PySem.W.mg_of X G a3, F3.binds fun _ _ _ _ _ _ us hl => match us, hl with | [_], _ => rfl⟩
  have F4 := fun_mk (st := s_gcd) l4 c4 k4
  have D_gcd : Df K mg "gcd" s_gcd P_gcd := ⟨f4, _, F4, PySem.W.mg_of X G a4, F4.binds fun _ _ _ _ _ _ us hl => match us, hl with | [_, _], _ => rfl⟩
  have F5 := fun_mk (st := s_is_rule) l5 c5 k5
  have D_is_rule : Df K mg "is_rule" s_is_rule P_is_rule := ⟨f5, _, F5, PySem.W.mg_of X G a5, F5.binds fun _ _ _ _ _ _ us hl => match us, hl with | [_], _ => rfl⟩
  have F6 := fun_mk (st := s_check_rule) l6 c6 k6
  have D_check_rule : Df K mg "check_rule" s_check_rule P_check_rule := ⟨f6, _, F6, PySem.W.mg_of X G a6, F6.binds fun _ _ _ _ _ _ us hl => match us, hl with | [_], _ => rfl⟩
  have F7 := fun_mk (st := s_is_rate) l7 c7 k7
  have D_is_rate : Df K mg "is_rate" s_is_rate P_is_rate := ⟨f7, _, F7, PySem.W.mg_of X G a7, F7.binds fun _ _ _ _ _ _ us hl => match us, hl with | [_], _ => rfl⟩
  have F8 := fun_mk (st := s_check_rate) l8 c8 k8
  have D_check_rate : Df K mg "check_rate" s_check_rate P_check_rate := ⟨f8, _, F8, PySem.W.mg_of X G a8, F8.binds fun _ _ _ _ _ _ us hl => match us, hl with | [_], _ => rfl⟩
  have F9 := fun_mk (st := s_simplest_inside) l9 c9 k9
  have D_simplest_inside : Df K mg "simplest_inside" s_simplest_inside P_simplest_inside := ⟨f9, _, F9, PySem.W.mg_of X G a9, F9.binds fun _ _ _ _ _ _ us hl => match us, hl with | [_, _], _ => rfl⟩
  have F10 := fun_mk (st := s_check_at_least) l10 c10 k10
  have D_check_at_least : Df K mg "check_at_least" s_check_at_least P_check_at_least := ⟨f10, _, F10, PySem.W.mg_of X G a10, F10.binds fun _ _ _ _ _ _ us hl => match us, hl with | [_, _], _ => rfl⟩
  have F11 := fun_mk (st := s_is_record) l11 c11 k11
  have D_is_record : Df K mg "is_record" s_is_record P_is_record := ⟨f11, _, F11, PySem.W.mg_of X G a11, F11.binds fun _ _ _ _ _ _ us hl => match us, hl with | [_], _ => rfl⟩
  have F12 := fun_mk (st := s_check_records) l12 c12 k12
  have D_check_records : Df K mg "check_records" s_check_records P_check_records := ⟨f12, _, F12, PySem.W.mg_of X G a12, F12.binds fun _ _ _ _ _ _ us hl => match us, hl with | [_], _ => rfl⟩
  have F13 := fun_mk (st := s_split_records) l13 c13 k13
  have D_split_records : Df K mg "split_records" s_split_records P_split_records := ⟨f13, _, F13, PySem.W.mg_of X G a13, F13.binds fun _ _ _ _ _ _ us hl => match us, hl with | [_], _ => rfl⟩
  have F14 := fun_mk (st := s_tighter_pairs) l14 c14 k14
  have D_tighter_pairs : Df K mg "tighter_pairs" s_tighter_pairs P_tighter_pairs := ⟨f14, _, F14, PySem.W.mg_of X G a14, F14.binds fun _ _ _ _ _ _ us hl => match us, hl with | [_, _, _], _ => rfl⟩
  have F15 := fun_mk (st := s_simplest_between) l15 c15 k15
  have D_simplest_between : Df K mg "simplest_between" s_simplest_between P_simplest_between := ⟨f15, _, F15, PySem.W.mg_of X G a15, F15.binds fun _ _ _ _ _ _ us hl => match us, hl with | [_, _], _ => rfl⟩
  have F16 := fun_mk (st := s_reduce_rate) l16 c16 k16
  have D_reduce_rate : Df K mg "reduce_rate" s_reduce_rate P_reduce_rate := ⟨f16, _, F16, PySem.W.mg_of X G a16, F16.binds fun _ _ _ _ _ _ us hl => match us, hl with | [_, _], _ => rfl⟩
  have F17 := fun_mk (st := s_tight_pairs) l17 c17 k17
  have D_tight_pairs : Df K mg "tight_pairs" s_tight_pairs P_tight_pairs := ⟨f17, _, F17, PySem.W.mg_of X G a17, F17.binds fun _ _ _ _ _ _ us hl => match us, hl with | [_], _ => rfl⟩
  have F18 := fun_mk (st := s_leave_no_rate) l18 c18 k18
  have D_leave_no_rate : Df K mg "leave_no_rate" s_leave_no_rate P_leave_no_rate := ⟨f18, _, F18, PySem.W.mg_of X G a18, F18.binds fun _ _ _ _ _ _ us hl => match us, hl with | [_], _ => rfl⟩
  have F19 := fun_mk (st := s_rate_ends) l19 c19 k19
  have D_rate_ends : Df K mg "rate_ends" s_rate_ends P_rate_ends := ⟨f19, _, F19, PySem.W.mg_of X G a19, F19.binds fun _ _ _ _ _ _ us hl => match us, hl with | [_], _ => rfl⟩
  have F20 := fun_mk (st := s_rates) l20 c20 k20
  have D_rates : Df K mg "rates" s_rates P_rates := ⟨f20, _, F20, PySem.W.mg_of X G a20, F20.binds fun _ _ _ _ _ _ us hl => match us, hl with | [_], _ => rfl⟩
  have F21 := fun_mk (st := s_phase_ends) l21 c21 k21
  have D_phase_ends : Df K mg "phase_ends" s_phase_ends P_phase_ends := ⟨f21, _, F21, PySem.W.mg_of X G a21, F21.binds fun _ _ _ _ _ _ us hl => match us, hl with | [_, _], _ => rfl⟩
  have F22 := fun_mk (st := s_fitting_ends) l22 c22 k22
  have D_fitting_ends : Df K mg "fitting_ends" s_fitting_ends P_fitting_ends := ⟨f22, _, F22, PySem.W.mg_of X G a22, F22.binds fun _ _ _ _ _ _ us hl => match us, hl with | [_], _ => rfl⟩
  have F23 := fun_mk (st := s_fitting_rule) l23 c23 k23
  have D_fitting_rule : Df K mg "fitting_rule" s_fitting_rule P_fitting_rule := ⟨f23, _, F23, PySem.W.mg_of X G a23, F23.binds fun _ _ _ _ _ _ us hl => match us, hl with | [_], _ => rfl⟩
  have F24 := fun_mk (st := s_least_rule) l24 c24 k24
  have D_least_rule : Df K mg "least_rule" s_least_rule P_least_rule := ⟨f24, _, F24, PySem.W.mg_of X G a24, F24.binds fun _ _ _ _ _ _ us hl => match us, hl with | [_], _ => rfl⟩
  have F25 := fun_mk (st := s_hides_last) l25 c25 k25
  have D_hides_last : Df K mg "hides_last" s_hides_last P_hides_last := ⟨f25, _, F25, PySem.W.mg_of X G a25, F25.binds fun _ _ _ _ _ _ us hl => match us, hl with | [_, _], _ => rfl⟩
  have F26 := fun_mk (st := s_upper_hull) l26 c26 k26
  have D_upper_hull : Df K mg "upper_hull" s_upper_hull P_upper_hull := ⟨f26, _, F26, PySem.W.mg_of X G a26, F26.binds fun _ _ _ _ _ _ us hl => match us, hl with | [_], _ => rfl⟩
  have F27 := fun_mk (st := s_low_end) l27 c27 k27
  have D_low_end : Df K mg "low_end" s_low_end P_low_end := ⟨f27, _, F27, PySem.W.mg_of X G a27, F27.binds fun _ _ _ _ _ _ us hl => match us, hl with | [_], _ => rfl⟩
  have F28 := fun_mk (st := s_steepness) l28 c28 k28
  have D_steepness : Df K mg "steepness" s_steepness P_steepness := ⟨f28, _, F28, PySem.W.mg_of X G a28, F28.binds fun _ _ _ _ _ _ us hl => match us, hl with | [_, _], _ => rfl⟩
  have F29 := fun_mk (st := s_low_corners) l29 c29 k29
  have D_low_corners : Df K mg "low_corners" s_low_corners P_low_corners := ⟨f29, _, F29, PySem.W.mg_of X G a29, F29.binds fun _ _ _ _ _ _ us hl => match us, hl with | [_, _], _ => rfl⟩
  have F30 := fun_mk (st := s_divide_up) l30 c30 k30
  have D_divide_up : Df K mg "divide_up" s_divide_up P_divide_up := ⟨f30, _, F30, PySem.W.mg_of X G a30, F30.binds fun _ _ _ _ _ _ us hl => match us, hl with | [_, _], _ => rfl⟩
  have F31 := fun_mk (st := s_line_through) l31 c31 k31
  have D_line_through : Df K mg "line_through" s_line_through P_line_through := ⟨f31, _, F31, PySem.W.mg_of X G a31, F31.binds fun _ _ _ _ _ _ us hl => match us, hl with | [_, _], _ => rfl⟩
  have F32 := fun_mk (st := s_least_chain) l32 c32 k32
  have D_least_chain : Df K mg "least_chain" s_least_chain P_least_chain := ⟨f32, _, F32, PySem.W.mg_of X G a32, F32.binds fun _ _ _ _ _ _ us hl => match us, hl with | [_, _], _ => rfl⟩
  have F33 := fun_mk (st := s_mirror_records) l33 c33 k33
  have D_mirror_records : Df K mg "mirror_records" s_mirror_records P_mirror_records := ⟨f33, _, F33, PySem.W.mg_of X G a33, F33.binds fun _ _ _ _ _ _ us hl => match us, hl with | [_], _ => rfl⟩
  have F34 := fun_mk (st := s_greatest_chain) l34 c34 k34
  have D_greatest_chain : Df K mg "greatest_chain" s_greatest_chain P_greatest_chain := ⟨f34, _, F34, PySem.W.mg_of X G a34, F34.binds fun _ _ _ _ _ _ us hl => match us, hl with | [_, _], _ => rfl⟩
  have F35 := fun_mk (st := s_line_at) l35 c35 k35
  have D_line_at : Df K mg "line_at" s_line_at P_line_at := ⟨f35, _, F35, PySem.W.mg_of X G a35, F35.binds fun _ _ _ _ _ _ us hl => match us, hl with | [_, _], _ => rfl⟩
  have F36 := fun_mk (st := s_range_at) l36 c36 k36
  have D_range_at : Df K mg "range_at" s_range_at P_range_at := ⟨f36, _, F36, PySem.W.mg_of X G a36, F36.binds fun _ _ _ _ _ _ us hl => match us, hl with | [_, _], _ => rfl⟩
  have F37 := fun_mk (st := s_count_range) l37 c37 k37
  have D_count_range : Df K mg "count_range" s_count_range P_count_range := ⟨f37, _, F37, PySem.W.mg_of X G a37, F37.binds fun _ _ _ _ _ _ us hl => match us, hl with | [_, _], _ => rfl⟩
  have F38 := fun_mk (st := s_fits_record) l38 c38 k38
  have D_fits_record : Df K mg "fits_record" s_fits_record P_fits_record := ⟨f38, _, F38, PySem.W.mg_of X G a38, F38.binds fun _ _ _ _ _ _ us hl => match us, hl with | [_, _], _ => rfl⟩
  have F39 := fun_mk (st := s_fits) l39 c39 k39
  have D_fits : Df K mg "fits" s_fits P_fits := ⟨f39, _, F39, PySem.W.mg_of X G a39, F39.binds fun _ _ _ _ _ _ us hl => match us, hl with | [_, _], _ => rfl⟩
  have F40 := fun_mk (st := s_l_divisor) l40 c40 k40
  have D_l_divisor : Df K mg "_law_divisor" s_l_divisor P_l_divisor := ⟨f40, _, F40, PySem.W.mg_of X G a40, F40.binds fun _ _ _ _ _ _ us hl => match us, hl with | [_, _], _ => rfl⟩
  have F41 := fun_mk (st := s_l_rule) l41 c41 k41
  have D_l_rule : Df K mg "_law_rule" s_l_rule P_l_rule := ⟨f41, _, F41, PySem.W.mg_of X G a41, F41.binds fun _ _ _ _ _ _ us hl => match us, hl with | [_], _ => rfl⟩
  have F42 := fun_mk (st := s_l_count) l42 c42 k42
  have D_l_count : Df K mg "_law_count" s_l_count P_l_count := ⟨f42, _, F42, PySem.W.mg_of X G a42, F42.binds fun _ _ _ _ _ _ us hl => match us, hl with | [_, _], _ => rfl⟩
  have F43 := fun_mk (st := s_is_witness) l43 c43 k43
  have D_is_witness : Df K mg "is_witness" s_is_witness P_is_witness := ⟨f43, _, F43, PySem.W.mg_of X G a43, F43.binds fun _ _ _ _ _ _ us hl => match us, hl with | [_], _ => rfl⟩
  have F44 := fun_mk (st := s_check_source) l44 c44 k44
  have D_check_source : Df K mg "check_source" s_check_source P_check_source := ⟨f44, _, F44, PySem.W.mg_of X G a44, F44.binds fun _ _ _ _ _ _ us hl => match us, hl with | [_, _], _ => rfl⟩
  have F45 := fun_mk (st := s_l_record) l45 c45 k45
  have D_l_record : Df K mg "_law_record" s_l_record P_l_record := ⟨f45, _, F45, PySem.W.mg_of X G a45, F45.binds fun _ _ _ _ _ _ us hl => match us, hl with | [_, _], _ => rfl⟩
  have F46 := fun_mk (st := s_l_words) l46 c46 k46
  have D_l_words : Df K mg "_law_words" s_l_words P_l_words := ⟨f46, _, F46, PySem.W.mg_of X G a46, F46.binds fun _ _ _ _ _ _ us hl => match us, hl with | [_, _], _ => rfl⟩
  have F47 := fun_mk (st := s_l_entries) l47 c47 k47
  have D_l_entries : Df K mg "_law_entries" s_l_entries P_l_entries := ⟨f47, _, F47, PySem.W.mg_of X G a47, F47.binds fun _ _ _ _ _ _ us hl => match us, hl with | [_, _, _], _ => rfl⟩
  have F48 := fun_mk (st := s_l_mixed) l48 c48 k48
  have D_l_mixed : Df K mg "_law_mixed" s_l_mixed P_l_mixed := ⟨f48, _, F48, PySem.W.mg_of X G a48, F48.binds fun _ _ _ _ _ _ us hl => match us, hl with | [_, _], _ => rfl⟩
  have F49 := fun_mk (st := s_l_add) l49 c49 k49
  have D_l_add : Df K mg "_law_add" s_l_add P_l_add := ⟨f49, _, F49, PySem.W.mg_of X G a49, F49.binds fun _ _ _ _ _ _ us hl => match us, hl with | [_, _], _ => rfl⟩
  have F50 := fun_mk (st := s_l_log) l50 c50 k50
  have D_l_log : Df K mg "_law_log" s_l_log P_l_log := ⟨f50, _, F50, PySem.W.mg_of X G a50, F50.binds fun _ _ _ _ _ _ us hl => match us, hl with | [_], _ => rfl⟩
  have F51 := fun_mk (st := s_l_there) l51 c51 k51
  have D_l_there : Df K mg "_law_there" s_l_there P_l_there := ⟨f51, _, F51, PySem.W.mg_of X G a51, F51.binds fun _ _ _ _ _ _ us hl => match us, hl with | [_, _], _ => rfl⟩
  have F52 := fun_mk (st := s_l_end) l52 c52 k52
  have D_l_end : Df K mg "_law_end" s_l_end P_l_end := ⟨f52, _, F52, PySem.W.mg_of X G a52, F52.binds fun _ _ _ _ _ _ us hl => match us, hl with | [_, _], _ => rfl⟩
  have F53 := fun_mk (st := s_l_reports) l53 c53 k53
  have D_l_reports : Df K mg "_law_reports" s_l_reports P_l_reports := ⟨f53, _, F53, PySem.W.mg_of X G a53, F53.binds fun _ _ _ _ _ _ us hl => match us, hl with | [_, _], _ => rfl⟩
  have F54 := fun_mk (st := s_l_caught) l54 c54 k54
  have D_l_caught : Df K mg "_law_caught" s_l_caught P_l_caught := ⟨f54, _, F54, PySem.W.mg_of X G a54, F54.binds fun _ _ _ _ _ _ us hl => match us, hl with | [_], _ => rfl⟩
  have F55 := fun_mk (st := s_l_is_right) l55 c55 k55
  have D_l_is_right : Df K mg "_law_is_right" s_l_is_right P_l_is_right := ⟨f55, _, F55, PySem.W.mg_of X G a55, F55.binds fun _ _ _ _ _ _ us hl => match us, hl with | [_, _, _, _], _ => rfl⟩
  have F56 := fun_mk (st := s_l_odd_time) l56 c56 k56
  have D_l_odd_time : Df K mg "_law_odd_time" s_l_odd_time P_l_odd_time := ⟨f56, _, F56, PySem.W.mg_of X G a56, F56.binds fun _ _ _ _ _ _ us hl => match us, hl with | [_, _], _ => rfl⟩
  have F57 := fun_mk (st := s_law) l57 c57 k57
  have T_Log : ClsT K mg "Log" kC0 := ⟨⟨w0_1, w0_2, w0_3, w0_4⟩, w0_5, w0_6, PySem.W.mg_of X G w0_0⟩
  have NO_Log : NoAttr K kC0 "held" := w0_7
  have FM_Log_init := fun_mk (st := s_Log_init) w0_0_2 w0_0_3 w0_0_4
  have D_Log_init : Dm K kC0 "__init__" "Log.__init__" s_Log_init P_Log_init := ⟨kf0_0, _, FM_Log_init, ⟨w0_0_0, w0_0_1, w0_0_4⟩, FM_Log_init.binds fun _ _ _ _ _ _ us hl => match us, hl with | [_], _ => rfl⟩
  have FM_Log_enter := fun_mk (st := s_Log_enter) w0_1_2 w0_1_3 w0_1_4
  have D_Log_enter : Dm K kC0 "enter" "Log.enter" s_Log_enter P_Log_enter := ⟨kf0_1, _, FM_Log_enter, ⟨w0_1_0, w0_1_1, w0_1_4⟩, FM_Log_enter.binds fun _ _ _ _ _ _ us hl => match us, hl with | [_, _], _ => rfl⟩
  have FM_Log_report := fun_mk (st := s_Log_report) w0_2_2 w0_2_3 w0_2_4
  have D_Log_report : Dm K kC0 "report" "Log.report" s_Log_report P_Log_report := ⟨kf0_2, _, FM_Log_report, ⟨w0_2_0, w0_2_1, w0_2_4⟩, FM_Log_report.binds fun _ _ _ _ _ _ us hl => match us, hl with | [_, _, _, _], _ => rfl⟩
  have FM_Log_trust := fun_mk (st := s_Log_trust) w0_3_2 w0_3_3 w0_3_4
  have D_Log_trust : Dm K kC0 "trust" "Log.trust" s_Log_trust P_Log_trust := ⟨kf0_3, _, FM_Log_trust, ⟨w0_3_0, w0_3_1, w0_3_4⟩, FM_Log_trust.binds fun _ _ _ _ _ _ us hl => match us, hl with | [_, _, _], _ => rfl⟩
  have FM_Log_distrust := fun_mk (st := s_Log_distrust) w0_4_2 w0_4_3 w0_4_4
  have D_Log_distrust : Dm K kC0 "distrust" "Log.distrust" s_Log_distrust P_Log_distrust := ⟨kf0_4, _, FM_Log_distrust, ⟨w0_4_0, w0_4_1, w0_4_4⟩, FM_Log_distrust.binds fun _ _ _ _ _ _ us hl => match us, hl with | [_, _, _], _ => rfl⟩
  subst w0_5_5
  have FM_Log_entries := fun_mk (st := s_Log_entries) w0_5_2 w0_5_3 w0_5_4
  have D_Log_entries : DmO K kC0 "entries" "Log.entries" s_Log_entries P_Log_entries 1 "until" := dmo_mk w0_5_2 FM_Log_entries ⟨w0_5_0, w0_5_1, w0_5_4⟩ w0_5_3 w0_5_6 rfl (fun D doc pm an cdv ct us ks h1 h2 => match us, h1, ks, h2 with | [_], _, [_], _ => ⟨_, _, _, _, _, _, rfl, rfl, rfl⟩) (fun us ws h1 h2 => match us, h1, ws, h2 with | [_], _, [_], _ => rfl)
  have FM_Log_reports := fun_mk (st := s_Log_reports) w0_6_2 w0_6_3 w0_6_4
  have D_Log_reports : Dm K kC0 "reports" "Log.reports" s_Log_reports P_Log_reports := ⟨kf0_6, _, FM_Log_reports, ⟨w0_6_0, w0_6_1, w0_6_4⟩, FM_Log_reports.binds fun _ _ _ _ _ _ us hl => match us, hl with | [_, _], _ => rfl⟩
  subst w0_7_5
  have FM_Log_records := fun_mk (st := s_Log_records) w0_7_2 w0_7_3 w0_7_4
  have D_Log_records : DmO K kC0 "records" "Log.records" s_Log_records P_Log_records 1 "until" := dmo_mk w0_7_2 FM_Log_records ⟨w0_7_0, w0_7_1, w0_7_4⟩ w0_7_3 w0_7_6 rfl (fun D doc pm an cdv ct us ks h1 h2 => match us, h1, ks, h2 with | [_], _, [_], _ => ⟨_, _, _, _, _, _, rfl, rfl, rfl⟩) (fun us ws h1 h2 => match us, h1, ws, h2 with | [_], _, [_], _ => rfl)
  subst w0_8_5
  have FM_Log_rates := fun_mk (st := s_Log_rates) w0_8_2 w0_8_3 w0_8_4
  have D_Log_rates : DmO K kC0 "rates" "Log.rates" s_Log_rates P_Log_rates 1 "until" := dmo_mk w0_8_2 FM_Log_rates ⟨w0_8_0, w0_8_1, w0_8_4⟩ w0_8_3 w0_8_6 rfl (fun D doc pm an cdv ct us ks h1 h2 => match us, h1, ks, h2 with | [_], _, [_], _ => ⟨_, _, _, _, _, _, rfl, rfl, rfl⟩) (fun us ws h1 h2 => match us, h1, ws, h2 with | [_], _, [_], _ => rfl)
  subst w0_9_5
  have FM_Log_count_range := fun_mk (st := s_Log_count_range) w0_9_2 w0_9_3 w0_9_4
  have D_Log_count_range : DmO K kC0 "count_range" "Log.count_range" s_Log_count_range P_Log_count_range 2 "until" := dmo_mk w0_9_2 FM_Log_count_range ⟨w0_9_0, w0_9_1, w0_9_4⟩ w0_9_3 w0_9_6 rfl (fun D doc pm an cdv ct us ks h1 h2 => match us, h1, ks, h2 with | [_, _], _, [_], _ => ⟨_, _, _, _, _, _, rfl, rfl, rfl⟩) (fun us ws h1 h2 => match us, h1, ws, h2 with | [_, _], _, [_], _ => rfl)
  subst w0_10_5
  have FM_Log_least_rule := fun_mk (st := s_Log_least_rule) w0_10_2 w0_10_3 w0_10_4
  have D_Log_least_rule : DmO K kC0 "least_rule" "Log.least_rule" s_Log_least_rule P_Log_least_rule 1 "until" := dmo_mk w0_10_2 FM_Log_least_rule ⟨w0_10_0, w0_10_1, w0_10_4⟩ w0_10_3 w0_10_6 rfl (fun D doc pm an cdv ct us ks h1 h2 => match us, h1, ks, h2 with | [_], _, [_], _ => ⟨_, _, _, _, _, _, rfl, rfl, rfl⟩) (fun us ws h1 h2 => match us, h1, ws, h2 with | [_], _, [_], _ => rfl)
  have TK : LgT K mg kC0 := ⟨T_Log, NO_Log⟩
  have al : ∀ {p : Addr × Addr → Prop}, p (cL, PT) → ∀ q ∈ [(cL, PT)], p q := fun h1 q hq => by
    rw [List.mem_singleton.mp hq]
    exact h1
  refine ⟨PySem.W.fnOf "law" "law" (defArgs s_law) (defBody s_law) (defScope s_law) .none kV57 dc57 pm57 an57 cd57 ct57, [(cL, PT)], spLawT K PT, al v5, al v3, al (PySem.W.codeHd_of_K X v4), fun s v => .of_eq rfl, fun H a ns hl ht hS => ⟨a, ns, rfl, hS, hl, ht _ List.mem_cons_self, fun _ => rfl⟩, fun base _ _ o1 TBs => ?_⟩
  have DT_l_is_right : DfT K mg base "_law_is_right" s_l_is_right P_l_is_right PT := ⟨_, cL, _, _, _, _, _, _, _, _, l55, c55, k55, PySem.W.mg_of X G a55, F55.binds fun _ _ _ _ _ _ us hl => match us, hl with | [_, _, _, _], _ => rfl, TBs _ List.mem_cons_self⟩
  have UX : TbR [(PT, qLamR83)] PT := ⟨List.mem_cons_self, fun p hp _ => by
    rw [List.mem_singleton.mp hp]⟩
  have c_l_start := ok_l_start (P := l.prog) (w := w) (base := base) D_l_start B
  have c_l_draw := ok_l_draw (P := l.prog) (w := w) (base := base) D_l_draw B
  have cA_is_integer := okA_is_integer (P := l.prog) (w := w) (base := base) D_is_integer B
  have c_is_integer := ok_is_integer (P := l.prog) (w := w) (base := base) D_is_integer B
  have cx_check_integer := okx_check_integer (P := l.prog) (w := w) (base := base) D_check_integer V_InvalidNumber cA_is_integer
  have c_check_integer := ok_check_integer (P := l.prog) (w := w) (base := base) D_check_integer c_is_integer
  have c_gcd := ok_gcd (P := l.prog) (w := w) (base := base) D_gcd
  have c_is_rule := ok_is_rule (P := l.prog) (w := w) (base := base) D_is_rule B c_is_integer c_gcd
  have c_check_rule := ok_check_rule (P := l.prog) (w := w) (base := base) D_check_rule c_is_rule
  have cA_is_rate := okA_is_rate (P := l.prog) (w := w) (base := base) D_is_rate B cA_is_integer c_gcd
  have c_is_rate := ok_is_rate (P := l.prog) (w := w) (base := base) D_is_rate B c_is_integer c_gcd
  have c_check_rate := ok_check_rate (P := l.prog) (w := w) (base := base) D_check_rate c_is_rate
  have c_simplest_inside := ok_simplest_inside (P := l.prog) (w := w) (base := base) D_simplest_inside B
  have cx_check_at_least := okx_check_at_least (P := l.prog) (w := w) (base := base) D_check_at_least V_InvalidNumber cA_is_integer
  have c_check_at_least := ok_check_at_least (P := l.prog) (w := w) (base := base) D_check_at_least c_is_integer
  have cA_is_record := okA_is_record (P := l.prog) (w := w) (base := base) D_is_record B cA_is_integer
  have c_is_record := ok_is_record (P := l.prog) (w := w) (base := base) D_is_record B c_is_integer
  have c_check_records := okS_check_records (P := l.prog) (w := w) (base := base) D_check_records B U c_is_record
  have c_split_records := okS_split_records (P := l.prog) (w := w) (base := base) D_split_records B
  have cA_tighter_pairs := okA_tighter_pairs (P := l.prog) (w := w) (base := base) D_tighter_pairs B
  have c_tighter_pairs := ok_tighter_pairs (P := l.prog) (w := w) (base := base) D_tighter_pairs B
  have cA_simplest_between := okA_simplest_between (P := l.prog) (w := w) (base := base) D_simplest_between c_check_rate c_simplest_inside
  have c_simplest_between := ok_simplest_between (P := l.prog) (w := w) (base := base) cA_simplest_between
  have c_reduce_rate := ok_reduce_rate (P := l.prog) (w := w) (base := base) D_reduce_rate c_gcd
  have cA_tight_pairs := okA_tight_pairs (P := l.prog) (w := w) (base := base) D_tight_pairs c_split_records cA_tighter_pairs
  have c_tight_pairs := okS_tight_pairs (P := l.prog) (w := w) (base := base) D_tight_pairs c_split_records c_tighter_pairs
  have c_leave_no_rate := ok_leave_no_rate (P := l.prog) (w := w) (base := base) D_leave_no_rate
  have c_rate_ends := okS_rate_ends (P := l.prog) (w := w) (base := base) D_rate_ends c_tight_pairs c_leave_no_rate c_reduce_rate
  have c_rates := okS_rates (P := l.prog) (w := w) (base := base) D_rates c_check_records c_rate_ends
  have c_phase_ends := okS_phase_ends (P := l.prog) (w := w) (base := base) D_phase_ends B c_split_records
  have cx_fitting_ends := okx_fitting_ends (P := l.prog) (w := w) (base := base) D_fitting_ends O_NoRule c_rate_ends
  have c_fitting_ends := ok_fitting_ends (P := l.prog) (w := w) (base := base) D_fitting_ends c_rate_ends
  have cx_fitting_rule := okx_fitting_rule (P := l.prog) (w := w) (base := base) D_fitting_rule cx_fitting_ends
  have c_fitting_rule := ok_fitting_rule (P := l.prog) (w := w) (base := base) D_fitting_rule c_fitting_ends c_simplest_between c_phase_ends
  have cx_least_rule := okx_least_rule (P := l.prog) (w := w) (base := base) D_least_rule c_check_records cx_fitting_rule
  have c_least_rule := ok_least_rule (P := l.prog) (w := w) (base := base) D_least_rule c_check_records c_fitting_rule
  have c_hides_last := ok_hides_last (P := l.prog) (w := w) (base := base) D_hides_last B
  have c_upper_hull := ok_upper_hull (P := l.prog) (w := w) (base := base) D_upper_hull B c_hides_last
  have c_low_end := ok_low_end (P := l.prog) (w := w) (base := base) D_low_end
  have c_steepness := ok_steepness (P := l.prog) (w := w) (base := base) D_steepness
  have c_low_corners := ok_low_corners (P := l.prog) (w := w) (base := base) D_low_corners B c_upper_hull c_steepness c_low_end
  have c_divide_up := ok_divide_up (P := l.prog) (w := w) (base := base) D_divide_up
  have c_line_through := ok_line_through (P := l.prog) (w := w) (base := base) D_line_through
  have c_least_chain := ok_least_chain (P := l.prog) (w := w) (base := base) D_least_chain B c_low_corners c_low_end c_line_through
  have c_mirror_records := ok_mirror_records (P := l.prog) (w := w) (base := base) D_mirror_records B
  have c_greatest_chain := ok_greatest_chain (P := l.prog) (w := w) (base := base) D_greatest_chain B c_least_chain c_mirror_records
  have c_line_at := ok_line_at (P := l.prog) (w := w) (base := base) D_line_at B
  have cx_range_at := okx_range_at (P := l.prog) (w := w) (base := base) D_range_at B cx_fitting_ends c_least_chain c_greatest_chain c_line_at c_divide_up
  have c_range_at := ok_range_at (P := l.prog) (w := w) (base := base) D_range_at B c_fitting_ends c_least_chain c_greatest_chain c_line_at c_divide_up
  have cx_count_range := okx_count_range (P := l.prog) (w := w) (base := base) D_count_range c_check_records c_check_integer cx_range_at
  have c_count_range := ok_count_range (P := l.prog) (w := w) (base := base) D_count_range c_check_records c_check_integer c_range_at
  have c_fits_record := ok_fits_record (P := l.prog) (w := w) (base := base) D_fits_record
  have c_fits := okS_fits (P := l.prog) (w := w) (base := base) D_fits B c_check_rule c_check_records c_fits_record
  have c_l_divisor := ok_l_divisor (P := l.prog) (w := w) (base := base) D_l_divisor
  have c_l_rule := ok_l_rule (P := l.prog) (w := w) (base := base) D_l_rule B c_l_draw c_l_divisor
  have c_l_count := ok_l_count (P := l.prog) (w := w) (base := base) D_l_count
  have c_Log := okM_Log_init (P := l.prog) (w := w) (base := base) TK D_Log_init
  have c_Log_enter := okM_Log_enter (P := l.prog) (w := w) (base := base) TK D_Log_enter
  have c_is_witness := ok_is_witness (P := l.prog) (w := w) (base := base) D_is_witness B UE
  have c_check_source := ok_check_source (P := l.prog) (w := w) (base := base) D_check_source c_check_at_least c_is_witness
  have c_Log_report := okM_Log_report (P := l.prog) (w := w) (base := base) TK D_Log_report c_check_source c_is_record c_Log_enter
  have c_Log_trust := okM_Log_trust (P := l.prog) (w := w) (base := base) TK D_Log_trust c_check_source c_Log_enter
  have c_Log_distrust := okM_Log_distrust (P := l.prog) (w := w) (base := base) TK D_Log_distrust c_check_source c_Log_enter
  have cO0_Log_entries := okO_Log_entries (P := l.prog) (w := w) (base := base) TK D_Log_entries B
  have c_Log_entries := cO0_Log_entries.1
  have cO_Log_entries := cO0_Log_entries.2
  have c_Log_reports := okM_Log_reports (P := l.prog) (w := w) (base := base) TK D_Log_reports B cO_Log_entries
  have cO0_Log_records := okO_Log_records (P := l.prog) (w := w) (base := base) TK D_Log_records B c_Log_reports
  have c_Log_records := cO0_Log_records.1
  have cO_Log_records := cO0_Log_records.2
  have c_l_record := ok_l_record (P := l.prog) (w := w) (base := base) D_l_record B c_l_draw c_l_count
  have c_l_words := ok_l_words (P := l.prog) (w := w) (base := base) D_l_words B c_l_draw
  have c_l_entries := ok_l_entries (P := l.prog) (w := w) (base := base) D_l_entries B c_l_draw c_l_words c_l_record
  have c_l_mixed := ok_l_mixed (P := l.prog) (w := w) (base := base) D_l_mixed B c_l_draw
  have c_l_add := ok_l_add (P := l.prog) (w := w) (base := base) D_l_add B c_Log_report c_Log_trust c_Log_distrust
  have c_l_log := ok_l_log (P := l.prog) (w := w) (base := base) TK D_l_log c_Log c_l_add
  have cO0_Log_rates := okO_Log_rates (P := l.prog) (w := w) (base := base) TK D_Log_rates cO_Log_records c_rate_ends
  have c_Log_rates := cO0_Log_rates.1
  have cO_Log_rates := cO0_Log_rates.2
  have c_l_there := ok_l_there (P := l.prog) (w := w) (base := base) D_l_there
  have c_l_end := ok_l_end (P := l.prog) (w := w) (base := base) D_l_end B c_l_draw
  have c_l_reports := ok_l_reports (P := l.prog) (w := w) (base := base) D_l_reports B c_l_there
  have cX_Log_count_range := okX_Log_count_range (P := l.prog) (w := w) (base := base) TK D_Log_count_range cO_Log_records c_check_integer c_range_at cx_range_at
  have cX_Log_least_rule := okX_Log_least_rule (P := l.prog) (w := w) (base := base) TK D_Log_least_rule cO_Log_records c_fitting_rule cx_fitting_rule
  have c_l_is_right := ok_l_is_right (P := l.prog) (w := w) (base := base) DT_l_is_right O_NoRule UX TK B D_l_caught cO_Log_rates c_rates cX_Log_count_range cX_Log_least_rule c_count_range cx_count_range c_least_rule cx_least_rule c_fits
  have c_l_odd_time := ok_l_odd_time (P := l.prog) (w := w) (base := base) D_l_odd_time V_InvalidNumber TK D_Log_count_range cO_Log_records cx_check_integer c_range_at
  exact ok_law (P := l.prog) (w := w) (base := base) F57 TK B c_l_start c_l_draw c_l_rule c_l_entries c_l_mixed c_l_log c_l_end c_l_reports c_l_is_right c_l_odd_time
end Lf
open PySem PySem.W PyProof.Rows
set_option maxRecDepth 100000 in
set_option maxHeartbeats 0 in
theorem PySem.Challenge.cw_leapfit_k83_whole_logs_and_functions_holds : PySem.Challenge.rw_leapfit_k83_whole_logs_and_functions.Holds := by
  w_on; o_law; k_head; (case hw => w_witness2)
  k_fill
  refine Lf.walkGTn (l := PySem.Challenge.rw_leapfit_k83_whole_logs_and_functions) (k := 11) (x := "_law_script") rfl rfl rfl ⟨rfl, by decide, by decide⟩ (fun w h Y => PySem.W.km_in_of Y) ?F
  case F =>
    intro w mg fa h Y KX G hmg
    refine' Lf.all_mk KX G hmg ?a0 ?l0 ?c0 ?k0 ?a1 ?l1 ?c1 ?k1 ?a2 ?l2 ?c2 ?k2 ?a3 ?l3 ?c3 ?k3 ?a4 ?l4 ?c4 ?k4 ?a5 ?l5 ?c5 ?k5 ?a6 ?l6 ?c6 ?k6 ?a7 ?l7 ?c7 ?k7 ?a8 ?l8 ?c8 ?k8 ?a9 ?l9 ?c9 ?k9 ?a10 ?l10 ?c10 ?k10 ?a11 ?l11 ?c11 ?k11 ?a12 ?l12 ?c12 ?k12 ?a13 ?l13 ?c13 ?k13 ?a14 ?l14 ?c14 ?k14 ?a15 ?l15 ?c15 ?k15 ?a16 ?l16 ?c16 ?k16 ?a17 ?l17 ?c17 ?k17 ?a18 ?l18 ?c18 ?k18 ?a19 ?l19 ?c19 ?k19 ?a20 ?l20 ?c20 ?k20 ?a21 ?l21 ?c21 ?k21 ?a22 ?l22 ?c22 ?k22 ?a23 ?l23 ?c23 ?k23 ?a24 ?l24 ?c24 ?k24 ?a25 ?l25 ?c25 ?k25 ?a26 ?l26 ?c26 ?k26 ?a27 ?l27 ?c27 ?k27 ?a28 ?l28 ?c28 ?k28 ?a29 ?l29 ?c29 ?k29 ?a30 ?l30 ?c30 ?k30 ?a31 ?l31 ?c31 ?k31 ?a32 ?l32 ?c32 ?k32 ?a33 ?l33 ?c33 ?k33 ?a34 ?l34 ?c34 ?k34 ?a35 ?l35 ?c35 ?k35 ?a36 ?l36 ?c36 ?k36 ?a37 ?l37 ?c37 ?k37 ?a38 ?l38 ?c38 ?k38 ?a39 ?l39 ?c39 ?k39 ?a40 ?l40 ?c40 ?k40 ?a41 ?l41 ?c41 ?k41 ?a42 ?l42 ?c42 ?k42 ?a43 ?l43 ?c43 ?k43 ?a44 ?l44 ?c44 ?k44 ?a45 ?l45 ?c45 ?k45 ?a46 ?l46 ?c46 ?k46 ?a47 ?l47 ?c47 ?k47 ?a48 ?l48 ?c48 ?k48 ?a49 ?l49 ?c49 ?k49 ?a50 ?l50 ?c50 ?k50 ?a51 ?l51 ?c51 ?k51 ?a52 ?l52 ?c52 ?k52 ?a53 ?l53 ?c53 ?k53 ?a54 ?l54 ?c54 ?k54 ?a55 ?l55 ?c55 ?k55 ?a56 ?l56 ?c56 ?k56 ?a57 ?l57 ?c57 ?k57 ?z0 ?z1 ?z2 ?z3 ?z4 ?z5 ?z6 ?z7 ?z8 ?z9 ?z10 ?z11 ?z12 ?z13 ?z14 ?z15 ?z16 ?z17 ?z18 ?z19 ?v0_0 ?v0_1 ?v0_2 ?v0_3 ?v0_4 ?v0_5 ?v0_6 ?v0_7 ?v0_8 ?v0_9 ?v0_10 ?v0_11 ?v0_12 ?v0_13 ?v0_14 ?v0_15 ?v0_16 ?v0_17 ?v0_18 ?v0_19 ?v0_20 ?v0_21 ?v0_22 ?v0_23 ?v0_24 ?vu0 ?vu1 ?vu2 ?vu3 ?vu4 ?o0_0 ?o0_1 ?o0_2 ?o0_3 ?o0_4 ?o0_5 ?o0_6 ?o0_7 ?o0_8 ?o0_9 ?o0_10 ?ou1 ?ou2 ?w0_0 ?w0_1 ?w0_2 ?w0_3 ?w0_4 ?w0_5 ?w0_6 ?w0_7 ?w0_0_0 ?w0_0_1 ?w0_0_2 ?w0_0_3 ?w0_0_4 ?w0_1_0 ?w0_1_1 ?w0_1_2 ?w0_1_3 ?w0_1_4 ?w0_2_0 ?w0_2_1 ?w0_2_2 ?w0_2_3 ?w0_2_4 ?w0_3_0 ?w0_3_1 ?w0_3_2 ?w0_3_3 ?w0_3_4 ?w0_4_0 ?w0_4_1 ?w0_4_2 ?w0_4_3 ?w0_4_4 ?w0_5_0 ?w0_5_1 ?w0_5_2 ?w0_5_3 ?w0_5_4 ?w0_5_5 ?w0_5_6 ?w0_6_0 ?w0_6_1 ?w0_6_2 ?w0_6_3 ?w0_6_4 ?w0_7_0 ?w0_7_1 ?w0_7_2 ?w0_7_3 ?w0_7_4 ?w0_7_5 ?w0_7_6 ?w0_8_0 ?w0_8_1 ?w0_8_2 ?w0_8_3 ?w0_8_4 ?w0_8_5 ?w0_8_6 ?w0_9_0 ?w0_9_1 ?w0_9_2 ?w0_9_3 ?w0_9_4 ?w0_9_5 ?w0_9_6 ?w0_10_0 ?w0_10_1 ?w0_10_2 ?w0_10_3 ?w0_10_4 ?w0_10_5 ?w0_10_6 ?xL ?xM ?xR ?v0 ?v1 ?v2 ?v3 ?v4 ?v5
    (case a0 => k_is); (case l0 => k_is); (case c0 => k_is); (case k0 => k_is)
    (case a1 => k_is); (case l1 => k_is); (case c1 => k_is); (case k1 => k_is)
    (case a2 => k_is); (case l2 => k_is); (case c2 => k_is); (case k2 => k_is)
    (case a3 => k_is); (case l3 => k_is); (case c3 => k_is); (case k3 => k_is)
    (case a4 => k_is); (case l4 => k_is); (case c4 => k_is); (case k4 => k_is)
    (case a5 => k_is); (case l5 => k_is); (case c5 => k_is); (case k5 => k_is)
    (case a6 => k_is); (case l6 => k_is); (case c6 => k_is); (case k6 => k_is)
    (case a7 => k_is); (case l7 => k_is); (case c7 => k_is); (case k7 => k_is)
    (case a8 => k_is); (case l8 => k_is); (case c8 => k_is); (case k8 => k_is)
    (case a9 => k_is); (case l9 => k_is); (case c9 => k_is); (case k9 => k_is)
    (case a10 => k_is); (case l10 => k_is); (case c10 => k_is); (case k10 => k_is)
    (case a11 => k_is); (case l11 => k_is); (case c11 => k_is); (case k11 => k_is)
    (case a12 => k_is); (case l12 => k_is); (case c12 => k_is); (case k12 => k_is)
    (case a13 => k_is); (case l13 => k_is); (case c13 => k_is); (case k13 => k_is)
    (case a14 => k_is); (case l14 => k_is); (case c14 => k_is); (case k14 => k_is)
    (case a15 => k_is); (case l15 => k_is); (case c15 => k_is); (case k15 => k_is)
    (case a16 => k_is); (case l16 => k_is); (case c16 => k_is); (case k16 => k_is)
    (case a17 => k_is); (case l17 => k_is); (case c17 => k_is); (case k17 => k_is)
    (case a18 => k_is); (case l18 => k_is); (case c18 => k_is); (case k18 => k_is)
    (case a19 => k_is); (case l19 => k_is); (case c19 => k_is); (case k19 => k_is)
    (case a20 => k_is); (case l20 => k_is); (case c20 => k_is); (case k20 => k_is)
    (case a21 => k_is); (case l21 => k_is); (case c21 => k_is); (case k21 => k_is)
    (case a22 => k_is); (case l22 => k_is); (case c22 => k_is); (case k22 => k_is)
    (case a23 => k_is); (case l23 => k_is); (case c23 => k_is); (case k23 => k_is)
    (case a24 => k_is); (case l24 => k_is); (case c24 => k_is); (case k24 => k_is)
    (case a25 => k_is); (case l25 => k_is); (case c25 => k_is); (case k25 => k_is)
    (case a26 => k_is); (case l26 => k_is); (case c26 => k_is); (case k26 => k_is)
    (case a27 => k_is); (case l27 => k_is); (case c27 => k_is); (case k27 => k_is)
    (case a28 => k_is); (case l28 => k_is); (case c28 => k_is); (case k28 => k_is)
    (case a29 => k_is); (case l29 => k_is); (case c29 => k_is); (case k29 => k_is)
    (case a30 => k_is); (case l30 => k_is); (case c30 => k_is); (case k30 => k_is)
    (case a31 => k_is); (case l31 => k_is); (case c31 => k_is); (case k31 => k_is)
    (case a32 => k_is); (case l32 => k_is); (case c32 => k_is); (case k32 => k_is)
    (case a33 => k_is); (case l33 => k_is); (case c33 => k_is); (case k33 => k_is)
    (case a34 => k_is); (case l34 => k_is); (case c34 => k_is); (case k34 => k_is)
    (case a35 => k_is); (case l35 => k_is); (case c35 => k_is); (case k35 => k_is)
    (case a36 => k_is); (case l36 => k_is); (case c36 => k_is); (case k36 => k_is)
    (case a37 => k_is); (case l37 => k_is); (case c37 => k_is); (case k37 => k_is)
    (case a38 => k_is); (case l38 => k_is); (case c38 => k_is); (case k38 => k_is)
    (case a39 => k_is); (case l39 => k_is); (case c39 => k_is); (case k39 => k_is)
    (case a40 => k_is); (case l40 => k_is); (case c40 => k_is); (case k40 => k_is)
    (case a41 => k_is); (case l41 => k_is); (case c41 => k_is); (case k41 => k_is)
    (case a42 => k_is); (case l42 => k_is); (case c42 => k_is); (case k42 => k_is)
    (case a43 => k_is); (case l43 => k_is); (case c43 => k_is); (case k43 => k_is)
    (case a44 => k_is); (case l44 => k_is); (case c44 => k_is); (case k44 => k_is)
    (case a45 => k_is); (case l45 => k_is); (case c45 => k_is); (case k45 => k_is)
    (case a46 => k_is); (case l46 => k_is); (case c46 => k_is); (case k46 => k_is)
    (case a47 => k_is); (case l47 => k_is); (case c47 => k_is); (case k47 => k_is)
    (case a48 => k_is); (case l48 => k_is); (case c48 => k_is); (case k48 => k_is)
    (case a49 => k_is); (case l49 => k_is); (case c49 => k_is); (case k49 => k_is)
    (case a50 => k_is); (case l50 => k_is); (case c50 => k_is); (case k50 => k_is)
    (case a51 => k_is); (case l51 => k_is); (case c51 => k_is); (case k51 => k_is)
    (case a52 => k_is); (case l52 => k_is); (case c52 => k_is); (case k52 => k_is)
    (case a53 => k_is); (case l53 => k_is); (case c53 => k_is); (case k53 => k_is)
    (case a54 => k_is); (case l54 => k_is); (case c54 => k_is); (case k54 => k_is)
    (case a55 => k_is); (case l55 => k_is); (case c55 => k_is); (case k55 => k_is)
    (case a56 => k_is); (case l56 => k_is); (case c56 => k_is); (case k56 => k_is)
    (case a57 => k_is); (case l57 => k_is); (case c57 => k_is); (case k57 => k_is)
    (case z0 => k_is); (case z1 => k_is); (case z2 => k_is); (case z3 => k_is); (case z4 => k_is); (case z5 => k_is); (case z6 => k_is); (case z7 => k_is); (case z8 => k_is); (case z9 => k_is); (case z10 => k_is); (case z11 => k_is); (case z12 => k_is); (case z13 => k_is); (case z14 => k_is); (case z15 => k_is); (case z16 => k_is); (case z17 => k_is); (case z18 => k_is); (case z19 => k_is)
    (case v0_0 => k_is)
    (case v0_1 => k_is)
    (case v0_2 => first | rfl | decide +kernel)
    (case v0_3 => k_is)
    (case v0_4 => k_is)
    (case v0_5 => k_is)
    (case v0_6 => k_is)
    (case v0_7 => k_is)
    (case v0_8 => k_is)
    (case v0_9 => k_is)
    (case v0_10 => k_is)
    (case v0_11 => first | rfl | k_is)
    (case v0_12 => first | rfl | decide +kernel)
    (case v0_13 => k_is)
    (case v0_14 => first | k_is | kernel_rfl)
    (case v0_15 => kernel_rfl)
    (case v0_16 => k_is)
    (case v0_17 => k_is)
    (case v0_18 => k_is)
    (case v0_19 => k_is)
    (case v0_20 => k_is)
    (case v0_21 => k_is)
    (case v0_22 => k_is)
    (case v0_23 => k_is)
    (case v0_24 => first | rfl | k_is)
    (case vu0 => k_is)
    (case vu1 => k_is)
    (case vu2 => k_is)
    (case vu3 => first | rfl | decide +kernel)
    (case vu4 => k_is)
    (case o0_0 => k_is)
    (case o0_1 => k_is)
    (case o0_2 => kernel_rfl)
    (case o0_3 => k_is)
    (case o0_4 => k_is)
    (case o0_5 => k_is)
    (case o0_6 => k_is)
    (case o0_7 => k_is)
    (case o0_8 => k_is)
    (case o0_9 => k_is)
    (case o0_10 => first | rfl | k_is)
    (case ou1 => k_is)
    (case ou2 => k_is)
    (case w0_0 => k_is)
    (case w0_1 => k_is)
    (case w0_2 => k_is)
    (case w0_3 => k_is)
    (case w0_4 => k_is)
    (case w0_5 => k_is)
    (case w0_6 => k_is)
    (case w0_7 => k_is)
    (case w0_0_0 => k_is)
    (case w0_0_1 => k_is)
    (case w0_0_2 => k_is)
    (case w0_0_3 => k_is)
    (case w0_0_4 => k_is)
    (case w0_1_0 => k_is)
    (case w0_1_1 => k_is)
    (case w0_1_2 => k_is)
    (case w0_1_3 => k_is)
    (case w0_1_4 => k_is)
    (case w0_2_0 => k_is)
    (case w0_2_1 => k_is)
    (case w0_2_2 => k_is)
    (case w0_2_3 => k_is)
    (case w0_2_4 => k_is)
    (case w0_3_0 => k_is)
    (case w0_3_1 => k_is)
    (case w0_3_2 => k_is)
    (case w0_3_3 => k_is)
    (case w0_3_4 => k_is)
    (case w0_4_0 => k_is)
    (case w0_4_1 => k_is)
    (case w0_4_2 => k_is)
    (case w0_4_3 => k_is)
    (case w0_4_4 => k_is)
    (case w0_5_0 => k_is)
    (case w0_5_1 => k_is)
    (case w0_5_2 => k_is)
    (case w0_5_3 => k_is)
    (case w0_5_4 => k_is)
    (case w0_5_5 => first | rfl | k_is)
    (case w0_5_6 => k_is)
    (case w0_6_0 => k_is)
    (case w0_6_1 => k_is)
    (case w0_6_2 => k_is)
    (case w0_6_3 => k_is)
    (case w0_6_4 => k_is)
    (case w0_7_0 => k_is)
    (case w0_7_1 => k_is)
    (case w0_7_2 => k_is)
    (case w0_7_3 => k_is)
    (case w0_7_4 => k_is)
    (case w0_7_5 => first | rfl | k_is)
    (case w0_7_6 => k_is)
    (case w0_8_0 => k_is)
    (case w0_8_1 => k_is)
    (case w0_8_2 => k_is)
    (case w0_8_3 => k_is)
    (case w0_8_4 => k_is)
    (case w0_8_5 => first | rfl | k_is)
    (case w0_8_6 => k_is)
    (case w0_9_0 => k_is)
    (case w0_9_1 => k_is)
    (case w0_9_2 => k_is)
    (case w0_9_3 => k_is)
    (case w0_9_4 => k_is)
    (case w0_9_5 => first | rfl | k_is)
    (case w0_9_6 => k_is)
    (case w0_10_0 => k_is)
    (case w0_10_1 => k_is)
    (case w0_10_2 => k_is)
    (case w0_10_3 => k_is)
    (case w0_10_4 => k_is)
    (case w0_10_5 => first | rfl | k_is)
    (case w0_10_6 => k_is)
    (case xL => k_is); (case xM => k_is); (case xR => k_is)
    (case v0 => first | rfl | k_is); (case v1 => k_is); (case v2 => first | rfl | k_is); (case v3 => kernel_rfl); (case v4 => kernel_rfl); (case v5 => exact PySem.W.km_tabs_of Y _ (by decide))
