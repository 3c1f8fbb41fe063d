import PyProof.Rows.All
import Wide.All
import OpenK.AllK
import Wide.FinOn
import HandS.ForMost
import HandS.Codes
import HandS.Wide
import HandS.WideBits
import HandS.IsInst
import HandS.RaiseMore
import HandS.Style
import HandS.NoneIn
import HandS.TupMul
import HandS.TupAny
import HandS.Walk
import HandS.SetFor
import HandS.Strs
import KE.LtSeq
import HandS.Conv
import HandS.Exc
import HandS.TryOnly
import HandS.ExcOwn
import HandS.ExcIs
import HandS.WordsExc
import HandS.Lambda
import HandS.EndTab
import HandS.EndOwn
import KE.KNestM
import HandS.ExcInit
import HandS.ExcField
import KE.KExcSuper
import KE.KExcIs
import HandS.Defaults
import KE.DatumOrd
import KE.SortData
import KE.SortKeyHeap
import KE.KSortKey
import KE.GoesMore
import KE.GoesEnumKw
import HandS.SortInts
import HandS.Deep
import HandS.DictComp
import HandS.Evl
import HandS.SortKw
import HandS.RevRange
import HandS.TupLe
import KE.KDictZip
import PyProof.ListNew
import PySem.Challenge.RW_leapfit_k23_whole_cycle_rules
set_option Elab.async false
set_option linter.all false
set_option maxRecDepth 100000
set_option maxHeartbeats 4000000
set_option linter.all false
namespace Lf
/-! ### sums of rounded quotients -/
def fs : Nat → Int → Int → Int → Int
  | 0, _, _, _ => 0
  | n + 1, a, b, m => fs n a b m + (a * n + b) / m
def tri (n : Int) : Int := n * (n - 1) / 2
theorem tri_succ (n : Int) : tri (n + 1) = tri n + n := by
  unfold tri
  rw [show (n + 1) * (n + 1 - 1) = n * (n - 1) + n * 2 by
    rw [Int.add_sub_cancel, Int.mul_sub, Int.add_mul]; omega]
  rw [Int.add_mul_ediv_right _ _ (by decide)]
theorem tri_zero : tri 0 = 0 := rfl
theorem div_shift (x k m : Int) (h : 0 < m) : (x + m * k) / m = x / m + k := by
  rw [Int.add_mul_ediv_left _ _ (by omega)]
theorem fs_red (n : Nat) (a b m : Int) (h : 0 < m) : fs n a b m = fs n (a % m) b m + a / m * tri n := by
  induction n with
  | zero => simp [fs, tri_zero]
  | succ n ih =>
    show fs n a b m + (a * n + b) / m = fs n (a % m) b m + (a % m * n + b) / m + a / m * tri ((n + 1 : Nat) : Int)
    have e : a * n + b = (a % m * n + b) + m * (a / m * n) := by
      have q := Int.emod_add_mul_ediv a m
      have q2 : a * n = (a % m + m * (a / m)) * n := by rw [q]
      rw [q2, Int.add_mul, Int.mul_assoc]; omega
    rw [e, div_shift _ _ _ h, ih, Int.natCast_add, Int.natCast_one, tri_succ, Int.mul_add]
    omega
theorem fs_redb (n : Nat) (a b m : Int) (h : 0 < m) : fs n a b m = fs n a (b % m) m + b / m * n := by
  induction n with
  | zero => simp [fs]
  | succ n ih =>
    show fs n a b m + (a * n + b) / m = fs n a (b % m) m + (a * n + b % m) / m + b / m * ((n + 1 : Nat) : Int)
    have e : a * n + b = (a * n + b % m) + m * (b / m) := by
      have q := Int.emod_add_mul_ediv b m
      omega
    rw [e, div_shift _ _ _ h, ih, Int.natCast_add, Int.natCast_one, Int.mul_add, Int.mul_one]
    omega
/-- each term of the second sum grows by one when its offset grows by its divisor -/
theorem fs_up (n : Nat) (a b m : Int) (h : 0 < m) : fs n a (b + m) m = fs n a b m + n := by
  induction n with
  | zero => simp [fs]
  | succ n ih =>
    show fs n a (b + m) m + (a * n + (b + m)) / m = fs n a b m + (a * n + b) / m + ((n + 1 : Nat) : Int)
    rw [show a * n + (b + m) = (a * n + b) + m * 1 by omega, div_shift _ _ _ h, ih]
    omega
/-- the first term apart -/
theorem fs_first (n : Nat) (a b m : Int) : fs (n + 1) a b m = b / m + fs n a (b + a) m := by
  induction n with
  | zero => show 0 + (a * ((0 : Nat) : Int) + b) / m = b / m + 0; simp
  | succ n ih =>
    show fs (n + 1) a b m + (a * ((n + 1 : Nat) : Int) + b) / m = b / m + (fs n a (b + a) m + (a * n + (b + a)) / m)
    rw [ih, show a * ((n + 1 : Nat) : Int) + b = a * n + (b + a) by
      rw [Int.natCast_add, Int.natCast_one, Int.mul_add]; omega]
    omega
theorem fs_swap (n : Nat) (a b m : Int) (ha : 0 < a) (ham : a < m) (hb : 0 ≤ b) (hbm : b < m) :
    fs n a b m = fs ((a * n + b) / m).toNat m ((a * n + b) % m) a := by
  induction n with
  | zero =>
    have e : (a * ((0 : Nat) : Int) + b) / m = 0 := by
      rw [show a * ((0 : Nat) : Int) + b = b by simp]
      exact Int.ediv_eq_zero_of_lt hb hbm
    rw [e]; rfl
  | succ n ih =>
    show fs n a b m + (a * n + b) / m = fs ((a * ((n + 1 : Nat) : Int) + b) / m).toNat m ((a * ((n + 1 : Nat) : Int) + b) % m) a
    rw [ih]
    have hm : 0 < m := by omega
    have hy : 0 ≤ a * n + b := by
      have := Int.mul_nonneg (Int.le_of_lt ha) (Int.natCast_nonneg n); omega
    generalize hyd : a * (n : Int) + b = y at hy
    have e : a * ((n + 1 : Nat) : Int) + b = y + a := by
      rw [Int.natCast_add, Int.natCast_one, Int.mul_add]; omega
    rw [e]
    have hq : 0 ≤ y / m := Int.ediv_nonneg hy (by omega)
    have hr0 : 0 ≤ y % m := Int.emod_nonneg _ (by omega)
    have hr1 : y % m < m := Int.emod_lt_of_pos _ hm
    have hd := Int.emod_add_mul_ediv y m
    generalize y / m = q at *
    generalize y % m = r at *
    by_cases hc : r + a < m
    · have e1 : (y + a) / m = q := by
        rw [show y + a = (r + a) + m * q by omega, div_shift _ _ _ hm, Int.ediv_eq_zero_of_lt (by omega) hc]
        omega
      have e2 : (y + a) % m = r + a := by
        have := Int.emod_add_mul_ediv (y + a) m
        rw [e1] at this
        omega
      rw [e1, e2, fs_up _ _ _ _ ha]
      omega
    · have e1 : (y + a) / m = q + 1 := by
        rw [show y + a = (r + a - m) + m * (q + 1) by rw [Int.mul_add]; omega, div_shift _ _ _ hm, Int.ediv_eq_zero_of_lt (by omega) (by omega)]
        omega
      have e2 : (y + a) % m = r + a - m := by
        have := Int.emod_add_mul_ediv (y + a) m
        rw [e1, Int.mul_add] at this
        omega
      rw [e1, e2, show (q + 1).toNat = q.toNat + 1 by omega, fs_first, Int.ediv_eq_zero_of_lt (by omega) (by omega), show r + a - m + m = r + a by omega, fs_up _ _ _ _ ha]
      omega
/-- a whole turn of the loop -/
theorem fs_turn (n a b m : Int) (hn : 0 ≤ n) (hm : 0 < m) :
    fs n.toNat a b m = a / m * tri n + b / m * n + fs ((a % m * n + b % m) / m).toNat m ((a % m * n + b % m) % m) (a % m) := by
  have h1 := fs_red n.toNat a b m hm
  have h2 := fs_redb n.toNat (a % m) b m hm
  have en : ((n.toNat : Nat) : Int) = n := by omega
  rw [en] at h1 h2
  have ha0 : 0 ≤ a % m := Int.emod_nonneg _ (by omega)
  have ha1 : a % m < m := Int.emod_lt_of_pos _ hm
  have hb0 : 0 ≤ b % m := Int.emod_nonneg _ (by omega)
  have hb1 : b % m < m := Int.emod_lt_of_pos _ hm
  by_cases hz : a % m = 0
  · have e0 : (a % m * n + b % m) / m = 0 := by
      rw [hz, Int.zero_mul, Int.zero_add]
      exact Int.ediv_eq_zero_of_lt hb0 hb1
    have z : fs n.toNat (a % m) (b % m) m = 0 := by
      rw [hz]
      have : ∀ k : Nat, fs k 0 (b % m) m = 0 := fun k => by
        induction k with
        | zero => rfl
        | succ k ih =>
          show fs k 0 (b % m) m + (0 * (k : Int) + b % m) / m = 0
          rw [ih, Int.zero_mul, Int.zero_add, Int.zero_add]
          exact Int.ediv_eq_zero_of_lt hb0 hb1
      exact this _
    rw [e0]
    show _ = _ + fs 0 m _ _
    have e3 : fs 0 m ((a % m * n + b % m) % m) (a % m) = 0 := rfl
    have e4 : (0 : Int).toNat = 0 := rfl
    rw [e3, h1, h2, z]
    omega
  · have h3 := fs_swap n.toNat (a % m) (b % m) m (by omega) ha1 hb0 hb1
    rw [en] at h3
    rw [h1, h2, h3]
    omega
theorem turn_le (n a b m : Int) (hn : 0 < n) (hm : 0 < m) : (a % m * n + b % m) / m ≤ n ∧ 0 ≤ (a % m * n + b % m) / m := by
  have ha0 : 0 ≤ a % m := Int.emod_nonneg _ (by omega)
  have ha1 : a % m < m := Int.emod_lt_of_pos _ hm
  have hb0 : 0 ≤ b % m := Int.emod_nonneg _ (by omega)
  have hb1 : b % m < m := Int.emod_lt_of_pos _ hm
  have h0 : 0 ≤ a % m * n := Int.mul_nonneg ha0 (by omega)
  refine ⟨?_, Int.ediv_nonneg (by omega) (by omega)⟩
  have h1 : a % m * n ≤ (m - 1) * n := Int.mul_le_mul_of_nonneg_right (by omega) (by omega)
  rw [Int.sub_mul, Int.one_mul] at h1
  have h2 : (a % m * n + b % m) / m < n + 1 := by
    apply Int.ediv_lt_of_lt_mul hm
    rw [Int.add_mul, Int.one_mul, Int.mul_comm n m]
    omega
  omega
theorem turn_zero (n a b m : Int) (hm : 0 < m) (hz : a % m = 0) : (a % m * n + b % m) / m = 0 := by
  rw [hz, Int.zero_mul, Int.zero_add]
  exact Int.ediv_eq_zero_of_lt (Int.emod_nonneg _ (by omega)) (Int.emod_lt_of_pos _ hm)
/-! ### sizes -/
def Bd (k : Nat) (i : Int) : Prop := i.natAbs < 2 ^ k
theorem Bd.mono {k j : Nat} {i : Int} (h : Bd k i) (e : k ≤ j) : Bd j i := Nat.lt_of_lt_of_le h (Nat.pow_le_pow_right (by decide) e)
theorem Bd.le {k : Nat} {i j : Int} (h : Bd k j) (e : i.natAbs ≤ j.natAbs) : Bd k i := Nat.lt_of_le_of_lt e h
theorem Bd.mul {k j : Nat} {x y : Int} (h : Bd k x) (h2 : Bd j y) : Bd (k + j) (x * y) := by
  unfold Bd
  rw [Int.natAbs_mul, Nat.pow_add]
  exact Nat.mul_lt_mul'' h h2
theorem Bd.add {k : Nat} {x y : Int} (h : Bd k x) (h2 : Bd k y) : Bd (k + 1) (x + y) := by
  unfold Bd at *
  rw [Nat.pow_succ]
  omega
theorem Bd.sub {k : Nat} {x y : Int} (h : Bd k x) (h2 : Bd k y) : Bd (k + 1) (x - y) := by
  unfold Bd at *
  rw [Nat.pow_succ]
  omega
theorem Bd.neg {k : Nat} {x : Int} (h : Bd k x) : Bd k (-x) := by
  unfold Bd at *
  omega
theorem Bd.ediv {k : Nat} {x m : Int} (h : Bd k x) (hm : 0 < m) : Bd k (x / m) := by
  refine h.le ?_
  rcases Int.lt_or_le x 0 with hx | hx
  · have h1 : x / m < 0 := Int.ediv_neg_of_neg_of_pos hx hm
    have h2 : x ≤ x / m := by
      apply Int.le_ediv_of_mul_le hm
      have : (-x) * 1 ≤ (-x) * m := Int.mul_le_mul_of_nonneg_left (by omega) (by omega)
      rw [Int.neg_mul, Int.neg_mul, Int.mul_one] at this
      omega
    omega
  · have h1 : 0 ≤ x / m := Int.ediv_nonneg hx (by omega)
    have h2 : x / m ≤ x := Int.ediv_le_self _ hx
    omega
theorem Bd.emod {k : Nat} {x m : Int} (h : Bd k m) (hm : 0 < m) : Bd k (x % m) := by
  refine h.le ?_
  have := Int.emod_nonneg x (show m ≠ 0 by omega)
  have := Int.emod_lt_of_pos x hm
  omega
theorem Bd.log {k : Nat} {i : Int} (h : Bd k i) (hk : 0 < k) : i.natAbs.log2 < k := by
  by_cases e : i.natAbs = 0
  · rw [e]; exact hk
  · exact (Nat.log2_lt e).mpr h
theorem Bd.small {k : Nat} {i : Int} (c : Nat) (h : i.natAbs < 2 ^ c) (e : c ≤ k) : Bd k i := Bd.mono (k := c) h e
theorem Bd.between {k : Nat} {x y : Int} (h : Bd k y) (h0 : 0 ≤ x) (h1 : x ≤ y) : Bd k x := h.le (by omega)
/-! ### the greatest common divisor -/
theorem gcd_turn (x y : Int) (hx : 0 ≤ x) (hy : 0 < y) : Int.gcd y (x % y) = Int.gcd x y := by
  unfold Int.gcd
  rw [show (x % y).natAbs = x.natAbs % y.natAbs by
    obtain ⟨a, rfl⟩ := Int.eq_ofNat_of_zero_le hx
    obtain ⟨b, rfl⟩ := Int.eq_ofNat_of_zero_le (Int.le_of_lt hy)
    rfl]
  rw [Nat.gcd_comm, ← Nat.gcd_rec, Nat.gcd_comm]
end Lf
namespace Lf
theorem nab_ediv {x m : Int} (hm : 0 < m) : (x / m).natAbs ≤ x.natAbs := by
  rcases Int.lt_or_le x 0 with hx | hx
  · have h1 : x / m < 0 := Int.ediv_neg_of_neg_of_pos hx hm
    have h2 : x ≤ x / m := by
      apply Int.le_ediv_of_mul_le hm
      have : (-x) * 1 ≤ (-x) * m := Int.mul_le_mul_of_nonneg_left (by omega) (by omega)
      rw [Int.neg_mul, Int.neg_mul, Int.mul_one] at this
      omega
    omega
  · have h1 : 0 ≤ x / m := Int.ediv_nonneg hx (by omega)
    have h2 : x / m ≤ x := Int.ediv_le_self _ hx
    omega
theorem fs_nab (n : Nat) (a b m : Int) (hm : 0 < m) : (fs n a b m).natAbs ≤ n * (a.natAbs * n + b.natAbs) := by
  induction n with
  | zero => show (0 : Int).natAbs ≤ _; simp
  | succ n ih =>
    show (fs n a b m + (a * n + b) / m).natAbs ≤ (n + 1) * (a.natAbs * (n + 1) + b.natAbs)
    have h1 := nab_ediv (x := a * n + b) hm
    have h2 := Int.natAbs_add_le (a * n) b
    have h3 := Int.natAbs_add_le (fs n a b m) ((a * n + b) / m)
    have h4 : (a * (n : Int)).natAbs = a.natAbs * n := by rw [Int.natAbs_mul]; rfl
    rw [h4] at h2
    have h5 : n * (a.natAbs * n + b.natAbs) ≤ n * (a.natAbs * (n + 1) + b.natAbs) := Nat.mul_le_mul_left _ (Nat.add_le_add_right (Nat.mul_le_mul_left _ (by omega)) _)
    have h6 : a.natAbs * n ≤ a.natAbs * (n + 1) := Nat.mul_le_mul_left _ (by omega)
    rw [Nat.add_mul, Nat.one_mul]
    omega
theorem fs_bd {n k j : Nat} {a b m : Int} (hm : 0 < m) (hn : n < 2 ^ j) (ha : Bd k a) (hb : Bd k b) : Bd (j + (k + j + 1)) (fs n a b m) := by
  unfold Bd at *
  have h := fs_nab n a b m hm
  refine Nat.lt_of_le_of_lt h ?_
  rw [Nat.pow_add 2 j]
  have h1 : a.natAbs * n + b.natAbs < 2 ^ (k + j + 1) := by
    have e : a.natAbs * n ≤ 2 ^ k * 2 ^ j := Nat.mul_le_mul (Nat.le_of_lt ha) (Nat.le_of_lt hn)
    have e2 : 2 ^ k ≤ 2 ^ k * 2 ^ j := Nat.le_mul_of_pos_right _ (Nat.pow_pos (by decide))
    rw [Nat.pow_succ, Nat.pow_add]
    omega
  exact Nat.mul_lt_mul'' hn h1
def trm (p q c s : Int) (i : Nat) : Int := (p * (s + i) + c) / q
theorem trm_sum (p q c s : Int) (n : Nat) : ((List.range n).map (trm p q c s)).sum = fs n p (p * s + c) q := by
  induction n with
  | zero => rfl
  | succ n ih =>
    rw [List.range_succ, List.map_append, List.sum_append, ih]
    show _ + (trm p q c s n + 0) = fs n p (p * s + c) q + (p * n + (p * s + c)) / q
    unfold trm
    rw [show p * (s + (n : Int)) + c = p * n + (p * s + c) by rw [Int.mul_add]; omega]
    omega
end Lf
namespace Lf
/-! ### triples in lowest terms -/
def gg (p q : Int) : Int := (Int.gcd p q : Int)
theorem gg_pos {p q : Int} (h : 1 ≤ q) : 0 < gg p q := by
  have : 0 < Int.gcd p q := Int.gcd_pos_of_ne_zero_right _ (by omega)
  unfold gg
  omega
theorem gg_p (p q : Int) : p = gg p q * (p / gg p q) := (Int.mul_ediv_cancel' (Int.gcd_dvd_left ..)).symm
theorem gg_q (p q : Int) : q = gg p q * (q / gg p q) := (Int.mul_ediv_cancel' (Int.gcd_dvd_right ..)).symm
theorem gg_mul (g x y : Int) (h : 0 ≤ g) : gg (g * x) (g * y) = g * gg x y := by
  unfold gg
  rw [Int.gcd_mul_left, Int.natCast_mul, Int.natAbs_of_nonneg h]
/-- reduced, multiplied, reduced again -/
theorem gg_twice (p q u v : Int) (h : 1 ≤ q) : gg (u * p) (v * q) = gg p q * gg (u * (p / gg p q)) (v * (q / gg p q)) := by
  have hg := gg_pos (p := p) h
  rw [← gg_mul _ _ _ (Int.le_of_lt hg)]
  congr 1
  · rw [Int.mul_left_comm, ← gg_p]
  · rw [Int.mul_left_comm, ← gg_q]
theorem red_p (p q u v : Int) (h : 1 ≤ q) (hv : 1 ≤ v) : u * (p / gg p q) / gg (u * (p / gg p q)) (v * (q / gg p q)) = u * p / gg (u * p) (v * q) := by
  have hg := gg_pos (p := p) h
  have e := gg_twice p q u v h
  rw [e]
  have e2 : u * p = gg p q * (u * (p / gg p q)) := by rw [Int.mul_left_comm, ← gg_p]
  rw [e2, Int.mul_ediv_mul_of_pos _ _ hg]
theorem red_q (p q u v : Int) (h : 1 ≤ q) (hv : 1 ≤ v) : v * (q / gg p q) / gg (u * (p / gg p q)) (v * (q / gg p q)) = v * q / gg (u * p) (v * q) := by
  have hg := gg_pos (p := p) h
  have e := gg_twice p q u v h
  rw [e]
  have e2 : v * q = gg p q * (v * (q / gg p q)) := by rw [Int.mul_left_comm, ← gg_q]
  rw [e2, Int.mul_ediv_mul_of_pos _ _ hg]
theorem red_c (p q u v c : Int) (h : 1 ≤ q) (hv : 1 ≤ v) : c / gg p q / gg (u * (p / gg p q)) (v * (q / gg p q)) = c / gg (u * p) (v * q) := by
  have hg := gg_pos (p := p) h
  rw [gg_twice p q u v h, Int.ediv_ediv_of_nonneg (Int.le_of_lt hg)]
theorem red_shift (p q a b c : Int) (h : 1 ≤ q) : (p * a + q * b + c) / gg p q = p / gg p q * a + q / gg p q * b + c / gg p q := by
  have hg := gg_pos (p := p) h
  have e : p * a + q * b + c = c + gg p q * (p / gg p q * a + q / gg p q * b) := by
    rw [Int.mul_add, ← Int.mul_assoc, ← Int.mul_assoc, ← gg_p, ← gg_q]
    omega
  rw [e, div_shift _ _ _ hg]
  omega
theorem div_neg1 (c g : Int) (hg : 0 < g) : (-1 - c) / g = -1 - c / g := by
  have e := Int.emod_add_mul_ediv c g
  have h0 := Int.emod_nonneg c (show g ≠ 0 by omega)
  have h1 := Int.emod_lt_of_pos c hg
  have e2 : -1 - c = (g - 1 - c % g) + g * (-1 - c / g) := by
    rw [Int.mul_sub]
    omega
  rw [e2, div_shift _ _ _ hg, Int.ediv_eq_zero_of_lt (by omega) (by omega)]
  omega
theorem red_mirror (p q c : Int) (h : 1 ≤ q) : (q - 1 - c) / gg p q = q / gg p q - 1 - c / gg p q := by
  have hg := gg_pos (p := p) h
  have e : q - 1 - c = (-1 - c) + gg p q * (q / gg p q) := by
    rw [← gg_q]
    omega
  rw [e, div_shift _ _ _ hg, div_neg1 _ _ hg]
  omega
end Lf
namespace Lf
theorem gg1 {p q : Int} (h : Int.gcd p q = 1) : gg p q = 1 := by
  unfold gg
  rw [h]
  rfl
theorem thin2 (p q c j k : Int) (h : 1 ≤ q * j) (hk : 1 ≤ k) :
    p / gg p (q * j) / gg (p / gg p (q * j)) (q * j / gg p (q * j) * k) = p / gg p (q * (j * k)) ∧
    q * j / gg p (q * j) * k / gg (p / gg p (q * j)) (q * j / gg p (q * j) * k) = q * (j * k) / gg p (q * (j * k)) ∧
    c / gg p (q * j) / gg (p / gg p (q * j)) (q * j / gg p (q * j) * k) = c / gg p (q * (j * k)) := by
  have e : q * (j * k) = k * (q * j) := by rw [← Int.mul_assoc, Int.mul_comm]
  have h1 := red_p p (q * j) 1 k h hk
  have h2 := red_q p (q * j) 1 k h hk
  have h3 := red_c p (q * j) 1 k c h hk
  simp only [Int.one_mul] at h1 h2 h3
  rw [Int.mul_comm (q * j / gg p (q * j)) k, e]
  exact ⟨h1, h2, h3⟩
theorem sample2 (p q c j k : Int) (h : 1 ≤ q) :
    p * j / gg (p * j) q * k / gg (p * j / gg (p * j) q * k) (q / gg (p * j) q) = p * (j * k) / gg (p * (j * k)) q ∧
    q / gg (p * j) q / gg (p * j / gg (p * j) q * k) (q / gg (p * j) q) = q / gg (p * (j * k)) q ∧
    c / gg (p * j) q / gg (p * j / gg (p * j) q * k) (q / gg (p * j) q) = c / gg (p * (j * k)) q := by
  have e : p * (j * k) = k * (p * j) := by rw [← Int.mul_assoc, Int.mul_comm]
  have h1 := red_p (p * j) q k 1 h (by decide)
  have h2 := red_q (p * j) q k 1 h (by decide)
  have h3 := red_c (p * j) q k 1 c h (by decide)
  simp only [Int.one_mul] at h1 h2 h3
  rw [Int.mul_comm (p * j / gg (p * j) q) k, e]
  exact ⟨h1, h2, h3⟩
theorem both2 (p q c k : Int) (h : 1 ≤ q) (hk : 1 ≤ k) :
    p * k / gg (p * k) q / gg (p * k / gg (p * k) q) (q / gg (p * k) q * k) = k * p / gg (k * p) (k * q) ∧
    q / gg (p * k) q * k / gg (p * k / gg (p * k) q) (q / gg (p * k) q * k) = k * q / gg (k * p) (k * q) ∧
    c / gg (p * k) q / gg (p * k / gg (p * k) q) (q / gg (p * k) q * k) = c / gg (k * p) (k * q) := by
  have h1 := red_p (p * k) q 1 k h hk
  have h2 := red_q (p * k) q 1 k h hk
  have h3 := red_c (p * k) q 1 k c h hk
  simp only [Int.one_mul] at h1 h2 h3
  rw [Int.mul_comm (q / gg (p * k) q) k, Int.mul_comm k p]
  exact ⟨h1, h2, h3⟩
theorem one_le_mul {x y : Int} (h : 1 ≤ x) (h2 : 1 ≤ y) : 1 ≤ x * y := by
  have := Int.mul_le_mul h h2 (by decide) (by omega)
  omega
end Lf
namespace Lf
/-! ### sums over ranges -/
theorem fs_add (n m : Nat) (a b q : Int) : fs (n + m) a b q = fs n a b q + fs m a (a * n + b) q := by
  induction m with
  | zero => show fs n a b q = fs n a b q + 0; omega
  | succ m ih =>
    show fs (n + m) a b q + (a * ((n + m : Nat) : Int) + b) / q = fs n a b q + (fs m a (a * n + b) q + (a * m + (a * n + b)) / q)
    rw [ih, show a * ((n + m : Nat) : Int) + b = a * m + (a * n + b) by rw [Int.natCast_add, Int.mul_add]; omega]
    omega
/-- two neighbouring ranges -/
theorem fs_split (p q c s m e : Int) (h1 : s ≤ m) (h2 : m ≤ e) : fs (m - s).toNat p (p * s + c) q + fs (e - m).toNat p (p * m + c) q = fs (e - s).toNat p (p * s + c) q := by
  have e1 : (e - s).toNat = (m - s).toNat + (e - m).toNat := by omega
  rw [e1, fs_add, show ((m - s).toNat : Int) = m - s by omega, show p * (m - s) + (p * s + c) = p * m + c by rw [Int.mul_sub]; omega]
theorem fs_one (p b q : Int) : fs 1 p b q = b / q := by
  show 0 + (p * ((0 : Nat) : Int) + b) / q = b / q
  simp
/-- one step of the offset: a term grows by one exactly where the divisor divides -/
theorem step_div (x q : Int) (h : 0 < q) : (x + 1) / q = x / q + (if (x + 1) % q = 0 then 1 else 0) := by
  have e := Int.emod_add_mul_ediv x q
  have h0 := Int.emod_nonneg x (show q ≠ 0 by omega)
  have h1 := Int.emod_lt_of_pos x h
  by_cases hc : x % q + 1 = q
  · have e2 : x + 1 = 0 + q * (x / q + 1) := by rw [Int.mul_add]; omega
    have e3 : (x + 1) % q = 0 := by rw [e2, Int.zero_add, Int.mul_emod_right]
    rw [if_pos e3, e2, div_shift _ _ _ h, Int.zero_ediv]
    omega
  · have e2 : x + 1 = (x % q + 1) + q * (x / q) := by omega
    have e3 : (x + 1) % q = x % q + 1 := by
      rw [e2, Int.add_mul_emod_self_left]
      exact Int.emod_eq_of_lt (by omega) (by omega)
    rw [if_neg (by omega)]
    rw [e2, div_shift _ _ _ h, Int.ediv_eq_zero_of_lt (by omega) (by omega)]
    omega
theorem hit_once (p q b : Int) (hg : Int.gcd p q = 1) (i j : Int) (hi : 0 ≤ i) (hij : i < j) (hj : j < q) (h1 : (p * i + b) % q = 0) (h2 : (p * j + b) % q = 0) : False := by
  have d1 := Int.dvd_of_emod_eq_zero h1
  have d2 := Int.dvd_of_emod_eq_zero h2
  have d3 : q ∣ p * (j - i) := by
    have := Int.dvd_sub d2 d1
    rw [show p * j + b - (p * i + b) = p * (j - i) by rw [Int.mul_sub]; omega] at this
    exact this
  have d4 : q ∣ j - i := by
    have n1 : q.natAbs ∣ p.natAbs * (j - i).natAbs := by
      rw [← Int.natAbs_mul]
      exact Int.natAbs_dvd_natAbs.mpr d3
    have n2 : Nat.Coprime q.natAbs p.natAbs := by
      unfold Nat.Coprime
      rw [Nat.gcd_comm]
      exact hg
    exact Int.natAbs_dvd_natAbs.mp (Nat.Coprime.dvd_of_dvd_mul_left n2 n1)
  have := Int.le_of_dvd (by omega) d4
  omega
theorem fs_step_le (p q b : Int) (hq : 0 < q) (hg : Int.gcd p q = 1) (n : Nat) (hn : (n : Int) ≤ q) :
    fs n p (b + 1) q - fs n p b q = 0 ∧ (∀ i : Nat, i < n → (p * i + (b + 1)) % q ≠ 0) ∨ fs n p (b + 1) q - fs n p b q = 1 ∧ (∃ i : Nat, i < n ∧ (p * i + (b + 1)) % q = 0) := by
  induction n with
  | zero => exact .inl ⟨rfl, fun i h => absurd h (by omega)⟩
  | succ n ih =>
    have e : fs (n + 1) p (b + 1) q - fs (n + 1) p b q = (fs n p (b + 1) q - fs n p b q) + ((p * n + (b + 1)) / q - (p * n + b) / q) := by
      show fs n p (b + 1) q + (p * n + (b + 1)) / q - (fs n p b q + (p * n + b) / q) = _
      omega
    have s := step_div (p * n + b) q hq
    rw [show p * (n : Int) + b + 1 = p * n + (b + 1) by omega] at s
    rw [e]
    rcases ih (by omega) with ⟨h1, h2⟩ | ⟨h1, i, hi, h2⟩
    · by_cases hc : (p * (n : Int) + (b + 1)) % q = 0
      · rw [if_pos hc] at s
        exact .inr ⟨by omega, n, by omega, hc⟩
      · rw [if_neg hc] at s
        refine .inl ⟨by omega, fun i hi => ?_⟩
        by_cases hin : i = n
        · subst hin; exact hc
        · exact h2 i (by omega)
    · have hc : ¬ (p * (n : Int) + (b + 1)) % q = 0 := fun z => hit_once p q (b + 1) hg i n (by omega) (by omega) (by omega) h2 z
      rw [if_neg hc] at s
      exact .inr ⟨by omega, i, by omega, h2⟩
theorem fs_step (p q b : Int) (hq : 0 < q) (hg : Int.gcd p q = 1) : fs q.toNat p (b + 1) q = fs q.toNat p b q + 1 := by
  have hle : ∀ b, fs q.toNat p (b + 1) q - fs q.toNat p b q ≤ 1 := fun b => by
    rcases fs_step_le p q b hq hg q.toNat (by omega) with ⟨h, _⟩ | ⟨h, _⟩ <;> omega
  have many : ∀ (k : Nat) (b : Int), fs q.toNat p (b + k) q - fs q.toNat p b q ≤ k := fun k => by
    induction k with
    | zero => intro b; simp
    | succ k ih =>
      intro b
      have h1 := ih b
      have h2 := hle (b + k)
      rw [show b + ((k + 1 : Nat) : Int) = b + k + 1 by omega]
      omega
  have up := fs_up q.toNat p b q hq
  have h1 := many (q.toNat - 1) (b + 1)
  rw [show b + 1 + ((q.toNat - 1 : Nat) : Int) = b + q by omega] at h1
  have h2 := hle b
  omega
theorem fs_from (p q : Int) (hq : 0 < q) (hg : Int.gcd p q = 1) (k : Nat) (b : Int) : fs q.toNat p (b + k) q = fs q.toNat p b q + k := by
  induction k with
  | zero => simp
  | succ k ih =>
    rw [show b + ((k + 1 : Nat) : Int) = b + k + 1 by omega, fs_step p q _ hq hg, ih]
    omega
theorem fs_any (p q b : Int) (hq : 0 < q) (hg : Int.gcd p q = 1) : fs q.toNat p b q = fs q.toNat p 0 q + b := by
  rcases Int.lt_or_le b 0 with h | h
  · have := fs_from p q hq hg (-b).toNat b
    rw [show b + ((-b).toNat : Int) = 0 by omega] at this
    omega
  · have := fs_from p q hq hg b.toNat 0
    rw [show 0 + (b.toNat : Int) = b by omega] at this
    omega
/-- terms in reverse order -/
theorem fs_rev (n : Nat) (a b q : Int) : fs n a b q = fs n (-a) (a * (n - 1) + b) q := by
  induction n with
  | zero => rfl
  | succ n ih =>
    rw [fs_first n (-a)]
    show fs n a b q + (a * n + b) / q = _
    rw [ih, show a * (((n + 1 : Nat) : Int) - 1) + b = a * n + b by rw [show ((n + 1 : Nat) : Int) - 1 = n by omega],
      show a * (n : Int) + b + -a = a * (n - 1) + b by rw [Int.mul_sub]; omega]
    omega
/-- negated terms -/
theorem fs_neg (n : Nat) (a b q : Int) (hq : 0 < q) : fs n (-a) (-b) q = - fs n a (b + q - 1) q := by
  induction n with
  | zero => rfl
  | succ n ih =>
    show fs n (-a) (-b) q + (-a * n + -b) / q = - (fs n a (b + q - 1) q + (a * n + (b + q - 1)) / q)
    rw [ih]
    have h1 := div_neg1 (a * n + (b - 1)) q hq
    have h2 := div_shift (a * n + (b - 1)) 1 q hq
    rw [show -1 - (a * (n : Int) + (b - 1)) = -a * n + -b by rw [Int.neg_mul]; omega] at h1
    rw [show a * (n : Int) + (b - 1) + q * 1 = a * n + (b + q - 1) by omega] at h2
    omega
theorem fs_cycle (p q b : Int) (hq : 0 < q) (hg : Int.gcd p q = 1) : fs q.toNat p b q = b + (p - 1) * (q - 1) / 2 := by
  have h0 := fs_any p q b hq hg
  have r := fs_rev q.toNat p 0 q
  have ng := fs_neg q.toNat p (-(p * (q - 1))) q hq
  rw [show ((q.toNat : Nat) : Int) = q by omega, Int.add_zero] at r
  rw [Int.neg_neg] at ng
  have h2 := fs_any p q (-(p * (q - 1)) + q - 1) hq hg
  have key : 2 * fs q.toNat p 0 q = (p - 1) * (q - 1) := by
    have e : (p - 1) * (q - 1) = p * (q - 1) - (q - 1) := by rw [Int.sub_mul, Int.one_mul]
    omega
  have : (p - 1) * (q - 1) / 2 = fs q.toNat p 0 q := by
    rw [← key, Int.mul_ediv_cancel_left _ (by decide)]
  omega
/-- Hermite's identity -/
theorem fs_hermite (k y : Int) (hk : 0 < k) : fs k.toNat 1 y k = y := by
  have := fs_cycle 1 k y hk (by simp [Int.gcd])
  rw [this]
  simp
/-- mirrored -/
theorem fs_mirror (n : Nat) (p q c s : Int) (hq : 0 < q) : fs n p (p * (1 - (s + n)) + (q - 1 - c)) q = - fs n p (p * s + c) q := by
  induction n with
  | zero => rfl
  | succ n ih =>
    rw [fs_first]
    show _ = -(fs n p (p * s + c) q + (p * n + (p * s + c)) / q)
    have e1 : p * (1 - (s + ((n + 1 : Nat) : Int))) + (q - 1 - c) + p = p * (1 - (s + n)) + (q - 1 - c) := by
      rw [show (1 - (s + ((n + 1 : Nat) : Int))) = (1 - (s + n)) - 1 by omega, Int.mul_sub p _ 1]
      omega
    rw [e1, ih]
    have h1 := div_neg1 (p * n + (p * s + c)) q hq
    have h2 := div_shift (-1 - (p * n + (p * s + c))) 1 q hq
    rw [show -1 - (p * (n : Int) + (p * s + c)) + q * 1 = p * (1 - (s + ((n + 1 : Nat) : Int))) + (q - 1 - c) by
      rw [show (1 - (s + ((n + 1 : Nat) : Int))) = -(n : Int) - s by omega, Int.mul_sub, Int.mul_neg]; omega] at h2
    omega
theorem fs_lowest (n : Nat) (p q c s : Int) (hq : 1 ≤ q) : fs n (p / gg p q) (p / gg p q * s + c / gg p q) (q / gg p q) = fs n p (p * s + c) q := by
  have hg := gg_pos (p := p) hq
  induction n with
  | zero => rfl
  | succ n ih =>
    show fs n (p / gg p q) (p / gg p q * s + c / gg p q) (q / gg p q) + (p / gg p q * n + (p / gg p q * s + c / gg p q)) / (q / gg p q) = fs n p (p * s + c) q + (p * n + (p * s + c)) / q
    rw [ih]
    have e1 : p / gg p q * n + (p / gg p q * s + c / gg p q) = (p * n + (p * s + c)) / gg p q := by
      have : p * n + (p * s + c) = c + gg p q * (p / gg p q * n + p / gg p q * s) := by
        rw [Int.mul_add, ← Int.mul_assoc, ← Int.mul_assoc, ← gg_p]
        omega
      rw [this, div_shift _ _ _ hg]
      omega
    have e2 : (p * n + (p * s + c)) / gg p q / (q / gg p q) = (p * n + (p * s + c)) / q := by
      rw [Int.ediv_ediv_of_nonneg (Int.le_of_lt hg), ← gg_q]
    rw [e1, e2]
theorem sum_map_add {α : Type} (l : List α) (f g : α → Int) : (l.map fun x => f x + g x).sum = (l.map f).sum + (l.map g).sum := by
  induction l with
  | nil => rfl
  | cons x r ih => simp only [List.map_cons, List.sum_cons, ih]; omega
theorem range_fs (k : Nat) (a b q : Int) : ((List.range k).map fun (j : Nat) => (a * j + b) / q).sum = fs k a b q := by
  induction k with
  | zero => rfl
  | succ k ih =>
    rw [List.range_succ, List.map_append, List.sum_append, ih]
    show _ + ((a * k + b) / q + 0) = fs k a b q + (a * k + b) / q
    omega
theorem fs_thin (n : Nat) (p q b k : Int) (hq : 0 < q) (hk : 0 < k) : ((List.range k.toNat).map fun (j : Nat) => fs n p (b + q * j) (q * k)).sum = fs n p b q := by
  induction n with
  | zero =>
    show ((List.range k.toNat).map fun _ => (0 : Int)).sum = 0
    induction k.toNat with
    | zero => rfl
    | succ m ih => rw [List.range_succ, List.map_append, List.sum_append, ih]; rfl
  | succ n ih =>
    have e : (List.range k.toNat).map (fun (j : Nat) => fs (n + 1) p (b + q * j) (q * k)) = (List.range k.toNat).map (fun (j : Nat) => fs n p (b + q * j) (q * k) + (1 * (j : Int) + (p * n + b) / q) / k) := by
      apply List.map_congr_left
      intro j _
      show fs n p (b + q * j) (q * k) + (p * n + (b + q * j)) / (q * k) = _
      rw [← Int.ediv_ediv_of_nonneg (Int.le_of_lt hq), show p * (n : Int) + (b + q * j) = (p * n + b) + q * j by omega, div_shift _ _ _ hq, Int.one_mul, Int.add_comm]
      rw [Int.add_comm (j : Int)]
      omega
    rw [e, sum_map_add, ih, range_fs, fs_hermite _ _ hk]
    rfl
theorem fs_sample (n : Nat) (p q b k : Int) (hk : 0 ≤ k) : ((List.range k.toNat).map fun (j : Nat) => fs n (p * k) (b + p * j) q).sum = fs (k.toNat * n) p b q := by
  induction n with
  | zero =>
    show ((List.range k.toNat).map fun _ => (0 : Int)).sum = 0
    induction k.toNat with
    | zero => rfl
    | succ m ih => rw [List.range_succ, List.map_append, List.sum_append, ih]; rfl
  | succ n ih =>
    have e : (List.range k.toNat).map (fun (j : Nat) => fs (n + 1) (p * k) (b + p * j) q) = (List.range k.toNat).map (fun (j : Nat) => fs n (p * k) (b + p * j) q + (p * (j : Int) + (p * ((k.toNat * n : Nat) : Int) + b)) / q) := by
      apply List.map_congr_left
      intro j _
      show fs n (p * k) (b + p * j) q + (p * k * n + (b + p * j)) / q = _
      rw [Int.natCast_mul, show ((k.toNat : Nat) : Int) = k by omega, ← Int.mul_assoc]
      rw [show p * k * (n : Int) + (b + p * j) = p * j + (p * k * n + b) by omega]
    rw [e, sum_map_add, ih, range_fs, Nat.mul_succ, fs_add]
end Lf
namespace Lf
theorem fs_lin (n : Nat) (a b m i j : Int) (hm : 0 < m) : fs n (a + i * m) (b + j * m) m = fs n a b m + i * tri n + j * n := by
  induction n with
  | zero => simp [fs, tri_zero]
  | succ n ih =>
    show fs n (a + i * m) (b + j * m) m + ((a + i * m) * n + (b + j * m)) / m = fs n a b m + (a * n + b) / m + i * tri ((n + 1 : Nat) : Int) + j * ((n + 1 : Nat) : Int)
    rw [ih, show (a + i * m) * (n : Int) + (b + j * m) = (a * n + b) + m * (i * n + j) by
      rw [Int.add_mul, Int.mul_add, Int.mul_comm i m, Int.mul_assoc, Int.mul_comm j m]; omega, div_shift _ _ _ hm, Int.natCast_add, Int.natCast_one, tri_succ, Int.mul_add, Int.mul_add]
    omega
theorem fs_scale (n : Nat) (a b m k : Int) (hk : 0 < k) : fs n (a * k) (b * k) (m * k) = fs n a b m := by
  induction n with
  | zero => rfl
  | succ n ih =>
    show fs n (a * k) (b * k) (m * k) + (a * k * n + b * k) / (m * k) = fs n a b m + (a * n + b) / m
    rw [ih, show a * k * (n : Int) + b * k = (a * n + b) * k by rw [Int.add_mul, Int.mul_right_comm], Int.mul_ediv_mul_of_pos_left _ _ hk]
theorem fs_last (n a b m : Int) (hn : 0 < n) : fs n.toNat a b m - fs (n - 1).toNat a b m = (a * (n - 1) + b) / m := by
  have e : n.toNat = (n - 1).toNat + 1 := by omega
  rw [e]
  show fs (n - 1).toNat a b m + (a * ((n - 1).toNat : Int) + b) / m - fs (n - 1).toNat a b m = _
  rw [show ((n - 1).toNat : Int) = n - 1 by omega]
  omega
theorem fs_part (n k a b m : Int) (h0 : 0 ≤ k) (h1 : k ≤ n) : fs k.toNat a b m + fs (n - k).toNat a (a * k + b) m = fs n.toNat a b m := by
  rw [show n.toNat = k.toNat + (n - k).toNat by omega, fs_add, show ((k.toNat : Nat) : Int) = k by omega]
theorem Bd.grow3 {k : Nat} {r d : Int} (h0 : 0 ≤ r) (h : Bd k r) (d0 : 0 ≤ d) (d1 : d < 1000) : Bd (k + 10) (1000 * r + d) := by
  unfold Bd at *
  have e : (2 : Nat) ^ (k + 10) = 2 ^ k * 1024 := by rw [Nat.pow_add]
  rw [e]
  generalize (2 : Nat) ^ k = m at h
  omega
theorem Bd.grow1 {k : Nat} {r d : Int} (h0 : 0 ≤ r) (h : Bd k r) (d0 : 0 ≤ d) (d1 : d < 10) : Bd (k + 4) (10 * r + d) := by
  unfold Bd at *
  have e : (2 : Nat) ^ (k + 4) = 2 ^ k * 16 := by rw [Nat.pow_add]
  rw [e]
  generalize (2 : Nat) ^ k = m at h
  omega
end Lf
namespace Lf
/-! ### events -/
theorem gal {p q : Int} (c m t : Int) (hp : 1 ≤ p) (hq : 1 ≤ q) : m ≤ (p * t + c) / q ↔ (q * m + (p - 1 - c)) / p ≤ t := by
  rw [Int.le_ediv_iff_mul_le (by omega), ← Int.lt_add_one_iff (a := (q * m + (p - 1 - c)) / p), Int.ediv_lt_iff_lt_mul (by omega), Int.mul_comm m q, Int.add_mul, Int.one_mul, Int.mul_comm t p]
  omega
theorem ct_mono {p q c s t : Int} (hp : 0 ≤ p) (hq : 1 ≤ q) (h : s ≤ t) : (p * s + c) / q ≤ (p * t + c) / q := by
  apply Int.ediv_le_ediv (by omega)
  have := Int.mul_le_mul_of_nonneg_left h hp
  omega
theorem ev_at {p q c m t : Int} (hp : 1 ≤ p) (hq : 1 ≤ q) (h1 : (p * (t - 1) + c) / q < m) (h2 : m ≤ (p * t + c) / q) : (q * m + (p - 1 - c)) / p = t := by
  have a := (gal c m t hp hq).mp h2
  have b : ¬ (q * m + (p - 1 - c)) / p ≤ t - 1 := fun h => by
    have := (gal c m (t - 1) hp hq).mpr h
    omega
  omega
theorem fs_const (k : Nat) (a b m v : Int) (h : ∀ i : Nat, i < k → (a * i + b) / m = v) : fs k a b m = k * v := by
  induction k with
  | zero => simp [fs]
  | succ k ih =>
    show fs k a b m + (a * k + b) / m = ((k + 1 : Nat) : Int) * v
    rw [ih (fun i hi => h i (by omega)), h k (by omega), Int.natCast_add, Int.natCast_one, Int.add_mul]
    omega
/-- the sum of the counts of a range by the times of its events -/
theorem fs_dual (p q c s : Int) (hp : 1 ≤ p) (hq : 1 ≤ q) (n : Nat) :
    fs n p (p * s + c) q = n * ((p * (s - 1) + c) / q) + ((p * (s + n - 1) + c) / q - (p * (s - 1) + c) / q) * (s + n) - fs ((p * (s + n - 1) + c) / q - (p * (s - 1) + c) / q).toNat q (q * ((p * (s - 1) + c) / q + 1) + (p - 1 - c)) p := by
  induction n with
  | zero =>
    rw [show s + ((0 : Nat) : Int) - 1 = s - 1 by omega, Int.sub_self]
    simp [fs]
  | succ n ih =>
    show fs n p (p * s + c) q + (p * n + (p * s + c)) / q = _
    rw [ih]
    have e0 : p * (n : Int) + (p * s + c) = p * (s + ((n + 1 : Nat) : Int) - 1) + c := by
      rw [show s + ((n + 1 : Nat) : Int) - 1 = s + n by omega, Int.mul_add]
      omega
    rw [e0]
    have m1 : (p * (s - 1) + c) / q ≤ (p * (s + n - 1) + c) / q := ct_mono (by omega) hq (by omega)
    have m2 : (p * (s + n - 1) + c) / q ≤ (p * (s + ((n + 1 : Nat) : Int) - 1) + c) / q := ct_mono (by omega) hq (by omega)
    have key : ∀ i : Nat, (i : Int) < (p * (s + ((n + 1 : Nat) : Int) - 1) + c) / q - (p * (s + n - 1) + c) / q → (q * ((p * (s + n - 1) + c) / q + 1 + i) + (p - 1 - c)) / p = s + n := fun i hi => by
      apply ev_at hp hq
      · show (p * (s + n - 1) + c) / q < _
        omega
      · rw [show s + (n : Int) = s + ((n + 1 : Nat) : Int) - 1 by omega] at *
        omega
    generalize hl : (p * (s - 1) + c) / q = low at *
    generalize hh : (p * (s + n - 1) + c) / q = hi at *
    generalize hh2 : (p * (s + ((n + 1 : Nat) : Int) - 1) + c) / q = hi2 at *
    rw [show (hi2 - low).toNat = (hi - low).toNat + (hi2 - hi).toNat by omega, fs_add, show ((hi - low).toNat : Int) = hi - low by omega]
    have fc := fs_const (hi2 - hi).toNat q (q * (hi - low) + (q * (low + 1) + (p - 1 - c))) p (s + n) (fun i h => by
      have := key i (by omega)
      rw [show q * (i : Int) + (q * (hi - low) + (q * (low + 1) + (p - 1 - c))) = q * (hi + 1 + i) + (p - 1 - c) by
        have : q * (hi + 1 + i) = q * i + q * (hi - low) + q * (low + 1) := by rw [← Int.mul_add, ← Int.mul_add]; congr 1; omega
        omega]
      exact this)
    rw [fc, show ((hi2 - hi).toNat : Int) = hi2 - hi by omega]
    rw [show s + ((n + 1 : Nat) : Int) = s + n + 1 by omega, show ((n + 1 : Nat) : Int) = n + 1 by omega]
    generalize s + (n : Int) = x
    have e3 : (hi2 - low) * (x + 1) = hi2 * x - low * x + hi2 - low := by rw [Int.mul_add, Int.sub_mul]; omega
    have e4 : (hi - low) * x = hi * x - low * x := by rw [Int.sub_mul]
    have e5 : (hi2 - hi) * x = hi2 * x - hi * x := by rw [Int.sub_mul]
    have e6 : ((n : Int) + 1) * low = n * low + low := by rw [Int.add_mul, Int.one_mul]
    rw [e3, e4, e5, e6]
    omega
theorem ct_fast {p q c s : Int} (hq : 1 ≤ q) (h : q ≤ p) (n : Nat) : (n : Int) ≤ (p * (s + n) + c) / q - (p * s + c) / q := by
  induction n with
  | zero => simp
  | succ n ih =>
    have : (p * (s + n) + c) / q + 1 ≤ (p * (s + ((n + 1 : Nat) : Int)) + c) / q := by
      have e := div_shift (p * (s + n) + c) 1 q (by omega)
      rw [← e]
      apply Int.ediv_le_ediv (by omega)
      rw [show s + ((n + 1 : Nat) : Int) = s + n + 1 by omega, Int.mul_add p (s + n) 1]
      omega
    omega
theorem ct_slow {p q c s : Int} (hq : 1 ≤ q) (h : p ≤ q) (n : Nat) : (p * (s + n) + c) / q - (p * s + c) / q ≤ n := by
  induction n with
  | zero => simp
  | succ n ih =>
    have : (p * (s + ((n + 1 : Nat) : Int)) + c) / q ≤ (p * (s + n) + c) / q + 1 := by
      have e := div_shift (p * (s + n) + c) 1 q (by omega)
      rw [← e]
      apply Int.ediv_le_ediv (by omega)
      rw [show s + ((n + 1 : Nat) : Int) = s + n + 1 by omega, Int.mul_add p (s + n) 1]
      omega
    omega
end Lf

namespace Lf
open PySem PySem.Spec PyProof.Rows L2
def topS (i : Nat) : Stmt := PySem.Challenge.pw_leapfit_k23_whole_cycle_rules.main.body.getD i (.Pass ⟨0, 0, 0, 0⟩)
/-! ### heaps -/
theorem len10 {n : Nat} (h : n ≤ 1000) : n ≤ sizeLine := Nat.le_of_lt (small1000 h)
def penD (l : Addr) (t r : Int) : List (Key × V) := [(Sum.inr "cells", .ref l), (Sum.inr "turn", .int t), (Sum.inr "rest", .int r)]
/-- all but the source's own dict stays -/
structure Fr (H H' : Hp) : Prop where
  k : ∀ b o, H b = some o → (∀ x : Addr × Int × Int, o ≠ .dK (penD x.1 x.2.1 x.2.2)) → H' b = some o
theorem Fr.t {H H' : Hp} (f : Fr H H') (b : Addr) (xs : List V) (h : H b = some (.tup xs)) : H' b = some (.tup xs) := f.k b _ h fun _ z => by cases z
theorem Fr.l {H H' : Hp} (f : Fr H H') (b : Addr) (xs : List V) (h : H b = some (.lst xs)) : H' b = some (.lst xs) := f.k b _ h fun _ z => by cases z
theorem Fr.refl (H : Hp) : Fr H H := ⟨fun _ _ h _ => h⟩
theorem Fr.trans {H H1 H2 : Hp} (a : Fr H H1) (b : Fr H1 H2) : Fr H H2 := ⟨fun c o h n => b.k c o (a.k c o h n) n⟩
theorem Fr.same {H H1 : Hp} (a : Same H H1) : Fr H H1 := ⟨fun c o h _ => a c _ h⟩
theorem sm_upd {H : Hp} {p : Addr} {o : HO} (h : H p = none) : Same H (upd H p o) := fun b x e => by
  rw [upd_ne (ne_of_none e h)]
  exact e
theorem Fr.new {H : Hp} {p : Addr} {o : HO} (h : H p = none) : Fr H (upd H p o) := Fr.same (sm_upd h)
theorem Fr.dict {H : Hp} {p l : Addr} {t r : Int} {o : HO} (h : H p = some (.dK (penD l t r))) : Fr H (upd H p o) :=
  ⟨fun b o e n => by rw [upd_ne (ne_of e h (n (l, t, r)))]; exact e⟩
theorem Fr.d0 {H H' : Hp} (f : Fr H H') (b : Addr) (h : H b = some (.dK [])) : H' b = some (.dK []) := f.k b _ h fun _ z => by cases z
/-! ### the source of numbers -/
theorem sct : ¬ ("cells" : Str) = "turn" := by decide +kernel
theorem scr : ¬ ("cells" : Str) = "rest" := by decide +kernel
theorem str_ : ¬ ("turn" : Str) = "rest" := by decide +kernel
theorem srt : ¬ ("rest" : Str) = "turn" := by decide +kernel
theorem kct : ¬ (Sum.inr ("cells" : Str) : Key) = Sum.inr ("turn" : Str) := fun h => sct (Sum.inr.inj h)
theorem kcr : ¬ (Sum.inr ("cells" : Str) : Key) = Sum.inr ("rest" : Str) := fun h => scr (Sum.inr.inj h)
theorem ktr : ¬ (Sum.inr ("turn" : Str) : Key) = Sum.inr ("rest" : Str) := fun h => str_ (Sum.inr.inj h)
theorem krt : ¬ (Sum.inr ("rest" : Str) : Key) = Sum.inr ("turn" : Str) := fun h => srt (Sum.inr.inj h)
theorem dg_rest {H : Hp} {a l : Addr} {t r : Int} (h : H a = some (.dK (penD l t r))) : DGet H a (.str "rest") (some (.int r)) := by
  have e : valV (penD l t r) (Sum.inr "rest" : Key) = some (.int r) := by
    unfold penD
    rw [valV_neg kcr, valV_neg ktr, valV_pos rfl]
  rw [← e]
  exact DGet.k (k := Sum.inr "rest") h
theorem dg_turn {H : Hp} {a l : Addr} {t r : Int} (h : H a = some (.dK (penD l t r))) : DGet H a (.str "turn") (some (.int t)) := by
  have e : valV (penD l t r) (Sum.inr "turn" : Key) = some (.int t) := by
    unfold penD
    rw [valV_neg kct, valV_pos rfl]
  rw [← e]
  exact DGet.k (k := Sum.inr "turn") h
theorem dg_cells {H : Hp} {a l : Addr} {t r : Int} (h : H a = some (.dK (penD l t r))) : DGet H a (.str "cells") (some (.ref l)) := by
  have e : valV (penD l t r) (Sum.inr "cells" : Key) = some (.ref l) := by
    unfold penD
    rw [valV_pos rfl]
  rw [← e]
  exact DGet.k (k := Sum.inr "cells") h
theorem dp_rest {H : Hp} {a l : Addr} {t r y : Int} (h : H a = some (.dK (penD l t r))) : DPut H a (.str "rest") (.int y) (upd H a (.dK (penD l t y))) := by
  have e : putK (penD l t r) (Sum.inr "rest" : Key) (.int y) = penD l t y := by
    simp [putK, penD, scr, str_]
  rw [← e]
  exact DPut.k (k := Sum.inr "rest") h (by show 3 < sizeLine; exact small1000 (by decide))
theorem dp_turn {H : Hp} {a l : Addr} {t r y : Int} (h : H a = some (.dK (penD l t r))) : DPut H a (.str "turn") (.int y) (upd H a (.dK (penD l y r))) := by
  have e : putK (penD l t r) (Sum.inr "turn" : Key) (.int y) = penD l y r := by
    simp [putK, penD, sct, srt]
  rw [← e]
  exact DPut.k (k := Sum.inr "turn") h (by show 3 < sizeLine; exact small1000 (by decide))
/-- where the source stands: its dict, its list of cells -/
structure PA where
  d : Addr
  l : Addr
instance : Coe PA Addr := ⟨PA.d⟩
structure Pen (H : Hp) (a : PA) (n : Nat) : Prop where
  ex : ∃ (cs : List Int) (t r : Int), H a.d = some (.dK (penD a.l t r)) ∧ H a.l = some (.lst (cs.map V.int)) ∧ cs.length ≤ 63 ∧ 0 ≤ t ∧ t ≤ n ∧ 0 ≤ r
theorem Pen.same {H H' : Hp} {a : PA} {n : Nat} (p : Pen H a n) (s : Same H H') : Pen H' a n := by
  obtain ⟨cs, t, r, h1, h2, h3⟩ := p.ex
  exact ⟨cs, t, r, s _ _ h1, s _ _ h2, h3⟩
theorem Pen.new {H : Hp} {a : PA} {p : Addr} {n : Nat} {o : HO} (q : Pen H a n) (h : H p = none) : Pen (upd H p o) a n := q.same (sm_upd h)
theorem Pen.mono {H : Hp} {a : PA} {n m : Nat} (p : Pen H a n) (h : n ≤ m) : Pen H a m := by
  obtain ⟨cs, t, r, h1, h2, h3, h4, h5, h6⟩ := p.ex
  exact ⟨cs, t, r, h1, h2, h3, h4, by omega, h6⟩
theorem Pen.put {H : Hp} {a l : Addr} {cs : List Int} {t r : Int} {n : Nat} {kvs : List (Key × V)} (ha : H a = some (.dK kvs)) (hl : H l = some (.lst (cs.map V.int))) (h1 : cs.length ≤ 63) (h2 : 0 ≤ t) (h3 : t ≤ n) (h4 : 0 ≤ r) :
    Pen (upd H a (.dK (penD l t r))) ⟨a, l⟩ n :=
  ⟨cs, t, r, upd_same, by show upd H a _ l = _; rw [upd_ne (ne_of hl ha (by intro z; cases z))]; exact hl, h1, h2, h3, h4⟩
/-- an address that was free when the source stood already -/
theorem Pen.over {H H' : Hp} {a : PA} {L : Addr} {n m : Nat} {o : HO} (p0 : Pen H a m) (hL : H L = none) (p : Pen H' a n) : Pen (upd H' L o) a n := by
  obtain ⟨_, _, _, g1, g2, _⟩ := p0.ex
  obtain ⟨cs, t, r, h1, h2, h3⟩ := p.ex
  exact ⟨cs, t, r, by rw [upd_ne (ne_of_none g1 hL)]; exact h1, by rw [upd_ne (ne_of_none g2 hL)]; exact h2, h3⟩
theorem Fr.over {H H' : Hp} {L : Addr} {o : HO} (f : Fr H H') (hL : H L = none) : Fr H (upd H' L o) :=
  ⟨fun b o e n => by rw [upd_ne (ne_of_none e hL)]; exact f.k _ _ e n⟩
/-! ### defs by their names -/
def Df (K : PySem.W.Frag) (mg : Str → Option Value) (x : Str) (st : Stmt) (ps : List Str) : Prop := ∃ f fd, Fun K x x st f fd ∧ mg x = some (.ref f) ∧ Binds K fd ps []
structure Bi (mg : Str → Option Value) : Prop where
  len_ : mg "len" = none
  abs_ : mg "abs" = none
  list_ : mg "list" = none
  range_ : mg "range" = none
  sum_ : mg "sum" = none
  repr_ : mg "repr" = none
  max_ : mg "max" = none
  min_ : mg "min" = none
  reversed_ : mg "reversed" = none
  divmod_ : mg "divmod" = none
  isinstance_ : mg "isinstance" = none
  all_ : mg "all" = none
  int_ : mg "int" = none
  bool_ : mg "bool" = none
  tuple_ : mg "tuple" = none
  sorted_ : mg "sorted" = none
  zip_ : mg "zip" = none
  enumerate_ : mg "enumerate" = none
  set_ : mg "set" = none
  str_ : mg "str" = none
theorem bt_len : bootBuiltins ("len" : Str) = Option.some (Value.builtin "len") := by decide +kernel
theorem bt_abs : bootBuiltins ("abs" : Str) = Option.some (Value.builtin "abs") := by decide +kernel
theorem bt_sum : bootBuiltins ("sum" : Str) = Option.some (Value.builtin "sum") := by decide +kernel
theorem bt_repr : bootBuiltins ("repr" : Str) = Option.some (Value.builtin "repr") := by decide +kernel
theorem bt_max : bootBuiltins ("max" : Str) = Option.some (Value.builtin "max") := by decide +kernel
theorem bt_min : bootBuiltins ("min" : Str) = Option.some (Value.builtin "min") := by decide +kernel
theorem bt_divmod : bootBuiltins ("divmod" : Str) = Option.some (Value.builtin "divmod") := by decide +kernel
theorem bt_isinstance : bootBuiltins ("isinstance" : Str) = Option.some (Value.builtin "isinstance") := by decide +kernel
theorem bt_all : bootBuiltins ("all" : Str) = Option.some (Value.builtin "all") := by decide +kernel
theorem bt_set : bootBuiltins ("set" : Str) = Option.some (Value.type "set") := by decide +kernel
theorem bt_str : bootBuiltins ("str" : Str) = Option.some (Value.type "str") := by decide +kernel
theorem bt_sorted : bootBuiltins ("sorted" : Str) = Option.some (Value.builtin "sorted") := by decide +kernel
theorem bt_list : bootBuiltins ("list" : Str) = Option.some (Value.type "list") := by decide +kernel
theorem bt_int : bootBuiltins ("int" : Str) = Option.some (Value.type "int") := by decide +kernel
theorem bt_bool : bootBuiltins ("bool" : Str) = Option.some (Value.type "bool") := by decide +kernel
theorem bt_tuple : bootBuiltins ("tuple" : Str) = Option.some (Value.type "tuple") := by decide +kernel
section
variable {P : Program} {w : World} {K : PySem.W.Frag} {mg : Str → Option Value} {base : Heap}
theorem cal_of {x : Str} {st : Stmt} {N ps : List Str} {k : Nat} {sp : Sp} (D : Df K mg x st ps) (S : FnScope N ps (defScope st)) (len : ∀ vs H Q E, sp vs H Q E → vs.length = ps.length)
    (hb : ∀ (f : Addr) (cdv : Value) (A : Around) (outer : List Env) (s : Shared) (H : Hp) (vs : List V) (Q : VK) (E : XK), Room k (A.deeper (envOfC x (defScope st) s.heap.objs.size f cdv)) → sp vs H Q E →
      ∃ t, PSs (cxOf CX0 P w K mg base N x (defScope st) f cdv A outer s H E).nox (defBody st) t ∧ t { nx := fun _ H' => Q .non H', rt := Q } (start N vs) H) : C8.Cal P w K mg base (k + 1) x sp [] := by
  obtain ⟨f, fd, F, hm, b⟩ := D
  exact ⟨⟨f, fd, ps, [], F.ok S len (fun cdv A outer s H vs Q E hr h => hb f cdv A outer s H vs Q E hr h), hm, F.kp, b, .nil⟩⟩
/-- the same, its own row known (for calls with keywords) -/
def CalF (P : Program) (w : World) (K : PySem.W.Frag) (mg : Str → Option Value) (base : Heap) (k : Nat) (x : Str) (st : Stmt) (ps : List Str) (sp : Sp) : Prop :=
  ∃ f fd, Fun K x x st f fd ∧ mg x = some (.ref f) ∧ FnOk P w K mg base CX0 k f fd ps sp ∧ Binds K fd ps []
theorem calF_of {x : Str} {st : Stmt} {N ps : List Str} {k : Nat} {sp : Sp} (D : Df K mg x st ps) (S : FnScope N ps (defScope st)) (len : ∀ vs H Q E, sp vs H Q E → vs.length = ps.length)
    (hb : ∀ (f : Addr) (cdv : Value) (A : Around) (outer : List Env) (s : Shared) (H : Hp) (vs : List V) (Q : VK) (E : XK), Room k (A.deeper (envOfC x (defScope st) s.heap.objs.size f cdv)) → sp vs H Q E →
      ∃ t, PSs (cxOf CX0 P w K mg base N x (defScope st) f cdv A outer s H E).nox (defBody st) t ∧ t { nx := fun _ H' => Q .non H', rt := Q } (start N vs) H) : CalF P w K mg base (k + 1) x st ps sp := by
  obtain ⟨f, fd, F, hm, b⟩ := D
  exact ⟨f, fd, F, hm, F.ok S len (fun cdv A outer s H vs Q E hr h => hb f cdv A outer s H vs Q E hr h), b⟩
theorem CalF.cal {x : Str} {st : Stmt} {ps : List Str} {k : Nat} {sp : Sp} (c : CalF P w K mg base k x st ps sp) : C8.Cal P w K mg base k x sp [] := by
  obtain ⟨f, fd, F, hm, G, b⟩ := c
  exact ⟨⟨f, fd, ps, [], G, hm, F.kp, b, .nil⟩⟩
/-! ### _law_pen -/
theorem cut_ints (ns : List Int) : ∃ cs : List Int, cutV (ns.map V.int) none (some 63) = cs.map V.int ∧ cs.length ≤ 63 := by
  refine ⟨ns.take 63, ?_, by rw [List.length_take]; omega⟩
  unfold cutV
  rw [HT.sIx_none, show HT.sIx (ns.map V.int).length (ns.map V.int).length (some 63) = min 63 (ns.map V.int).length from HT.sIx_nat _ _ 63]
  rw [List.drop_zero, Nat.sub_zero, List.map_take, List.length_map]
  by_cases h : 63 ≤ ns.length
  · rw [Nat.min_eq_left h]
  · rw [Nat.min_eq_right (by omega), List.take_of_length_le (by rw [List.length_map]; omega), List.take_of_length_le (by rw [List.length_map]; omega)]
def spPen (K : PySem.W.Frag) : Sp := fun vs H Q _ => ∃ (s : Addr) (ns : List Int), vs = [.ref s] ∧ SqL K H s (ns.map V.int) ∧ ∀ (a : PA) H', Pen H' a 0 → Same H H' → Q (.ref a) H'
abbrev s_l_pen : Stmt := topS 19
abbrev N_l_pen : List Str := ["_law_script"]
abbrev P_l_pen : List Str := ["_law_script"]
theorem sc_l_pen : FnScope N_l_pen P_l_pen (defScope s_l_pen) := ⟨rfl, rfl, rfl, by decide +kernel, rfl, by decide +kernel, by decide +kernel⟩
theorem ok_l_pen (D : Df K mg "_law_pen" s_l_pen P_l_pen) (B : Bi mg) : C8.Cal P w K mg base 1 "_law_pen" (spPen K) [] := by
  refine cal_of D sc_l_pen (fun vs H Q E h => ?_) (fun f cdv A outer s H vs Q E hr h => ?_)
  · obtain ⟨a, ns, rfl, _⟩ := h
    rfl
  · obtain ⟨a, ns, rfl, hS, q⟩ := h
    refine ⟨_, (pss_one (ps_ret (pe_disp (pps_cons pe_str (pe_callTy (call_list_of) (by rfl) B.list_ bt_list (pa_cons (pe_slice sl_list (pv 0) po_none (po_some pe_int)) pa_nil)) (pps_cons pe_str pe_int (pps_cons pe_str pe_int pps_nil))) (by rfl) (by rfl) (fun z => by cases z) (by decide)))), ?_⟩
    refine fun p np => ?_
    have s1 : Same H (upd H p (.dK [])) := sm_upd np
    refine ⟨_, rfl, 63, rfl, a, _, rfl, s1.seq hS, fun c nc => ?_⟩
    obtain ⟨cs, ec, hc⟩ := cut_ints ns
    rw [ec]
    refine ⟨c, _, rfl, .inl (SqL.of upd_same), fun l nl => ?_⟩
    have ncp : p ≠ c := ne_of_none upd_same nc
    have nlc : c ≠ l := ne_of_none upd_same nl
    have nlp : p ≠ l := ne_of_none (by rw [upd_ne ncp]; exact upd_same) nl
    refine ⟨by rw [upd_ne nlp, upd_ne ncp, upd_same], penD l 0 0, rfl, by show 3 ≤ 15; decide, ?_⟩
    have e : mergeK [] (penD l 0 0) = penD l 0 0 := by
      simp [mergeK, penD, putK, sct, scr, str_]
    rw [e]
    refine q ⟨p, l⟩ _ ⟨cs, 0, 0, upd_same, ?_, hc, by omega, by omega, by omega⟩ ?_
    · show upd _ p _ l = _
      rw [upd_ne nlp.symm, upd_same]
    · intro b o eb
      have nb : b ≠ p := ne_of_none eb np
      have nb2 : b ≠ c := ne_of_none (s1 _ _ eb) nc
      have nb3 : b ≠ l := ne_of_none (sm_upd nc _ _ (s1 _ _ eb)) nl
      rw [upd_ne nb, upd_ne nb3, upd_ne nb2, upd_ne nb]
      exact eb
end
end Lf
namespace Lf
open PySem PySem.Spec PyProof.Rows L2
/-! ### a try that catches, and keeps the exception in a name -/
abbrev dead : Ends := { nx := fun _ _ => False, rt := fun _ _ => False }
/-- the wish: the clause's class; then the suite; then, with the exception known, what follows -/
def wKeep (K : PySem.W.Frag) (c : Value) (i : Nat) (ts : Addr → TS) (go : Addr → Value → Option Addr → L2.St → Hp → Prop) : WX := fun cls d σ H =>
  PySem.W.exmOne K cls c = some true ∧ ∀ a, H a = none → ts a { nx := fun σ' H' => go a cls d (σ'.set i none) H', rt := fun _ _ => False } (σ.set i (some (.ref a))) H
/-- slots are as many as names -/
theorem takes_len {X : Cx} {W : WX} (t : Takes X W) : Takes X (fun cls d σ H => σ.length = X.N.length → W cls d σ H) := fun u s' ⟨a, B, sI, pins, σ, H, cls, d, e, I, nb, up, sky, na, os, ag, ww⟩ =>
  t u s' ⟨a, B, sI, pins, σ, H, cls, d, e, I, nb, up, sky, na, os, ag, ww I.len⟩
section
variable {X : Cx} {pins : List (Addr × Obj)} {σ : L2.St} {H : Hp} {s : Shared}
/-- an exception's object, known from now on -/
theorem pin_in (J : Inv X pins σ H s) {a : Addr} {oe : Obj} {vs : Array Value} (ge : s.heap.get? a = some oe) (dt : oe.data = .fields vs) (na : H a = none) (n1 : a ≠ X.env.locals) (n2 : a ∉ X.fs) : Inv (X.tr ((a, oe) :: (X.pn ++ pins)) X.xe) [] σ H s := by
  refine ⟨J.ok.toTry _ _, J.os, J.bare, J.base, J.loc, J.cell, J.free, J.freeC, fun p hp => ?_, J.hok, J.len⟩
  rw [List.append_nil] at hp
  rcases List.mem_cons.mp hp with rfl | hp
  · refine ⟨ge, na, n1, n2, fun v z => ?_⟩
    have z : oe.data = .cell v := z
    rw [dt] at z
    cases z
  · exact J.pin p hp
theorem pin_out {a : Addr} {oe : Obj} {pn : List (Addr × Obj)} (ok : X.Ok) (J : Inv (X.tr ((a, oe) :: (X.pn ++ pins)) X.xe) pn σ H s) : Inv X pins σ H s :=
  ⟨ok, J.os, J.bare, J.base, J.loc, J.cell, J.free, J.freeC, fun p hp => J.pin p (List.mem_append.mpr (.inl (List.mem_cons_of_mem _ hp))), J.hok, J.len⟩
theorem out_suite {a : Addr} {oe : Obj} {pn : List (Addr × Obj)} (ok : X.Ok) (J : Inv (X.suite a ((a, oe) :: (X.pn ++ pins))) pn σ H s) : Inv (X.tr ((a, oe) :: (X.pn ++ pins)) X.xe) [] σ H s :=
  ⟨ok.toTry _ _, J.os, J.bare, J.base, J.loc, J.cell, J.free, J.freeC, fun p hp => J.pin p (List.mem_append.mpr (.inl (by rw [List.append_nil] at hp; exact hp))), J.hok, J.len⟩
end
section
variable {X : Cx} {x n : Str} {c : Value} {i : Nat} {body suite rest : List Stmt} {b0 : Stmt} {np po pq : Pos} {tb : WX → TS} {ts : Addr → TS} {tr : Addr → Value → Option Addr → TS}
theorem pss_keep (stk : X.stack = X.env :: X.outer) (fr : X.env.frame = some X.env.locals) (nd : X.N.Nodup) (ni : X.N[i]? = some n) (kn : X.env.kindOf n = some .local) (hc : Names X x c)
    (hb : ∀ (W : WX) (pn : List (Addr × Obj)) (xe : Value → Shared → Prop), Takes (X.tr pn xe) W → PSs (X.tr pn xe) body (tb W))
    (hsu : ∀ (a : Addr) (oe : Obj) (pn : List (Addr × Obj)), PSs (X.suite a ((a, oe) :: pn)) (b0 :: suite) (ts a))
    (hre : ∀ (a : Addr) (oe : Obj) (cls : Value) (d : Option Addr) (pn : List (Addr × Obj)), Zc cls d oe → (∃ vs, oe.data = .fields vs) → PSs (X.tr ((a, oe) :: pn) X.xe) rest (tr a cls d)) :
    PSs X (.Try body [.ExceptHandler (some (.Name x np)) (some n) (b0 :: suite) pq] [] [] po :: rest) (fun D σ H => tb (wKeep X.K c i ts (fun a cls d σ' H' => tr a cls d D σ' H')) dead σ H) := by
  refine ⟨fun pins s σ H D I h => wpAny_execs_cons (wpAny_Try_except ?_)⟩
  have ok := I.ok
  have frm : X.A.frames = some (X.env :: X.outer) := by rw [ok.frames, stk]
  refine wpAny_mono ((hb (wKeep X.K c i ts (fun a cls d σ' H' => tr a cls d D σ' H')) (X.pn ++ pins) _ (fun u s' air => ?_)).run [] s σ H dead (I.toTry _) h) (fun f s1 z => ?_) (fun e s1 he => he)
  · obtain ⟨a, B, sI, pins', σ1, H1, cls, d, rfl, J0, nb, up, sky, na, os, ag, em, go⟩ := air
    have J : Inv X pins σ1 H1 sI := J0.ofTry ok
    rw [stk] at sky
    refine Sky.land Zc.steady frm fr sky fun h3 f3 u3 => ?_
    have J3 : Inv X pins σ1 H1 { s' with heap := h3 } := J.landed nb f3.1 (up.trans u3) os ag
    obtain ⟨o3, v3, g3, z3, d3⟩ := f3.there
    have nf : a ∉ frs (X.env :: X.outer) := fun hm => by
      obtain ⟨_, o', e', hn⟩ := f3.2.2.1.mem hm
      rw [g3] at e'
      cases e'
      exact hn _ d3
    have n1 : a ≠ X.env.locals := fun z => nf (List.mem_filterMap.mpr ⟨X.env, List.mem_cons_self, by rw [fr, z]⟩)
    have n2 : a ∉ X.fs := fun hm => by
      obtain ⟨e, he, q⟩ := List.mem_filterMap.mp hm
      exact nf (List.mem_filterMap.mpr ⟨e, List.mem_cons_of_mem _ he, q⟩)
    have S3 := J3.suite g3 d3 na n1 n2
    refine wpAny_handleBy_cons (codeAny_handlers_test ?_) (by intro q; cases q)
    have lt : PySem.W.Looks (model X.prog X.w) h3 (typeOf (.ref a)) cls := fun A Q E s k q => wpAny_typeOf_ref (k _ _ g3) (by rw [z3.1]; exact q)
    have lm := PySem.W.exm_one (M := model X.prog X.w) J3.kIn lt em
    have seen : ∀ {Q : Value → Shared → Prop} {E : Value → Shared → Prop}, Q c { s' with heap := h3 } → wpAny (model X.prog X.w) (X.A.mark (some (.ref a))) (eval (.Name x np) X.env) Q E { s' with heap := h3 } := fun {Q E} q => by
      obtain ⟨hg, hd, hm | ⟨hm, hv, hw⟩⟩ := hc
      · exact ld_glob S3 hg hm q hd
      · exact ld_blt S3 hg hm hv q hw hd
    refine seen (lm.here (codeAny_handlers_suite_as (HandSPX.lands_againZ f3 fun h4 f4 u4 => ?_)))
    have J4 : Inv X pins σ1 H1 { s' with heap := h4 } := J.landed nb f4.1 ((up.trans u3).trans u4) os ag
    obtain ⟨o4, v4, g4, z4, d4⟩ := f4.there
    have S4 := J4.suite g4 d4 na n1 n2
    refine store_ok (X := X.suite a ((a, o4) :: (X.pn ++ pins))) (v := .ref a) S4 nd ni (.inl kn) rfl (fun s5 S5 => ?_) (.inr kn)
    refine wpAny_mono ((hsu a o4 (X.pn ++ pins)).run [] s5 _ H1 _ S5 (go a na)) (fun f s6 q => ?_) (fun _ _ z => False.elim z)
    cases f with
    | next =>
      obtain ⟨σ6, H6, S6, q6⟩ := q
      refine gone_ok (X := X.tr ((a, o4) :: (X.pn ++ pins)) X.xe) (out_suite ok S6) nd ni kn fun s7 J7 => ?_
      refine wpAny_mono ((hre a o4 cls d (X.pn ++ pins) z4 ⟨_, d4⟩).run [] s7 _ H6 D J7 q6) (fun f s8 r => ?_) (fun _ _ z => z)
      cases f with
      | next =>
        obtain ⟨σ8, H8, J8, q8⟩ := r
        exact ⟨σ8, H8, pin_out ok J8, q8⟩
      | brk =>
        obtain ⟨σ8, H8, J8, q8⟩ := r
        exact ⟨σ8, H8, pin_out ok J8, q8⟩
      | cont =>
        obtain ⟨σ8, H8, J8, q8⟩ := r
        exact ⟨σ8, H8, pin_out ok J8, q8⟩
      | ret u =>
        obtain ⟨v8, σ8, H8, J8, r8, q8⟩ := r
        exact ⟨v8, σ8, H8, pin_out ok J8, r8, q8⟩
    | brk =>
      obtain ⟨_, _, _, q6⟩ := q
      exact False.elim q6
    | cont =>
      obtain ⟨_, _, _, q6⟩ := q
      exact False.elim q6
    | ret u =>
      obtain ⟨_, _, _, _, _, q6⟩ := q
      exact False.elim q6
  · cases f with
    | next =>
      obtain ⟨_, _, _, q6⟩ := z
      exact False.elim q6
    | brk =>
      obtain ⟨_, _, _, q6⟩ := z
      exact False.elim q6
    | cont =>
      obtain ⟨_, _, _, q6⟩ := z
      exact False.elim q6
    | ret u =>
      obtain ⟨_, _, _, _, _, q6⟩ := z
      exact False.elim q6
end
/-! ### isinstance of a known exception -/
/-- by one class, or by a tuple of classes -/
def rIsK (K : PySem.W.Frag) (D a : Addr) : List V → Hp → VK → Prop := fun xs H Q => ∃ (y : V) (b : Bool), xs = [.ref a, y] ∧ Q (.bl b) H ∧
  ((∃ cv, (∀ u, RelV y u → u = cv) ∧ PySem.W.kitOne K (.ref D) cv = some b) ∨ ∃ (tp : Addr) (cs : List Addr), y = .ref tp ∧ SqT K H tp (cs.map V.ref) ∧ PySem.W.kitAny K (.ref D) (cs.map Value.ref) = some b)
theorem vals_refs : ∀ {cs : List Addr} {us : List Value}, Vals (cs.map V.ref) us → us = cs.map Value.ref
  | [], _, r => by cases r; rfl
  | c :: cs, _, r => by
    cases r with
    | cons r1 r2 =>
      rw [vals_refs r2]
      cases r1
      rfl
theorem call_isK {X : Cx} {a D : Addr} {oe : Obj} {pn : List (Addr × Obj)} {xe : Value → Shared → Prop} (C : ExcC X.K D) (hz : Zc (.ref D) none oe) (hf : ∃ vs, oe.data = .fields vs) : CallR (X.tr ((a, oe) :: pn) xe) (.builtin "isinstance") (rIsK X.K D a) := by
  intro pins s σ H xs us Q I r h
  obtain ⟨y, b, rfl, q, h⟩ := h
  cases r with
  | cons rx rr =>
    cases rr with
    | cons rt rr =>
      cases rr
      cases rx
      obtain ⟨ge, _⟩ := I.pin (a, oe) (List.mem_append.mpr (.inl List.mem_cons_self))
      obtain ⟨vs, hv⟩ := hf
      have J : PySem.W.InstAt s.heap a oe D none := by
        obtain ⟨oc, od, oda, osl⟩ := oe
        obtain ⟨h1, h2⟩ := hz
        dsimp only at h1 h2 hv
        subst h1 h2 hv
        exact ⟨ge, rfl, rfl, trivial⟩
      have kx := PySem.W.handS_kitx_exc (x := a) (ox := oe) C.hg C.hk C.hs C.hd C.ha C.hn C.ht C.hm
      rcases h with ⟨cv, hcv, e⟩ | ⟨tp, cs, rfl, hT, e⟩
      · have ec := hcv _ rt
        subst ec
        exact PySem.W.kia_one kx I.kIn J e (fun z => nomatch z) fun tk => ⟨.bl b, H, I.kept (t' := tk) fun _ _ z => z, rfl, q⟩
      · obtain ⟨its, rv, ⟨o, e1, e2, nn, e3⟩, _⟩ := I.tuple hT
        have ei := vals_refs rv
        subst ei
        cases rt
        obtain ⟨oc, od, oda, osl⟩ := o
        dsimp only at e2 e3
        subst e2 e3
        exact PySem.W.kia_tup kx I.kIn J e1 e (fun z => nomatch z) fun tk => ⟨.bl b, H, I.kept (t' := tk) fun _ _ z => z, rfl, q⟩
/-! ### an own exception without arguments, made -/
theorem pmk_none {X : Cx} {C : Addr} {bmB : List Value} {B newId initId : String} {x : Str} {p po : Pos} (F : ExcBaseFacts B newId initId bmB) (q : PySem.W.excIn X.K C bmB newId = true) (gC : X.mg x = some (.ref C)) (kC : PySem.W.keepIn X.K (.ref C) = true) (r : Raises X (.ref C)) (hg : Gl X x)
    (hdb : (x == ("__debug__" : Str)) = false := by decide) : PMk X (.Call (.Name x p) [] [] po) (fun _ H Q => Q (.ref C) none H) := by
  intro pins s σ H Q I h
  refine wpAny_Call_Name_kw (ld_glob I hg gC ?_ hdb)
  refine PySem.W.callWith_K0 I.kIn kC ?_
  show wpAny _ _ (call (.ref C) []) _ _ _
  obtain ⟨bm, N, nm, qn, bs, hdct, sn, sub, ab, col, dd, k0, k1, k2, k3, k5, mN, hC, hN, hni, T⟩ := exc_obj I.kIn q
  refine wpAny_call_exc_subT F T hC hN hni (fun h' e hm => ?_) (by show 0 ≤ sizeLine; omega)
  exact mk_of I hm r h (I.hok.gone hm.new)
/-! ### what the top tells of the class NoEvents, at C, and of the classes beside it -/
structure NoEv (K : PySem.W.Frag) (mg : Str → Option Value) (C : Addr) : Prop where
  gC : mg "NoEvents" = some (.ref C)
  kC : PySem.W.keepIn K (.ref C) = true
  xi : PySem.W.excIn K C [.type "ValueError", .type "Exception", .type "BaseException", .type "object"] "ValueError.__new__" = true
  ex : ExcC K C
  ty : PySem.W.typeIn K (.ref C) = some (.type "type")
  sf : PySem.W.subIn K (.ref C) (.ref C) = some true
structure NoEvB (K : PySem.W.Frag) (mg : Str → Option Value) (C L N R E I : Addr) : Prop where
  gL : mg "LeapfitError" = some (.ref L)
  gN : mg "InvalidNumber" = some (.ref N)
  gR : mg "InvalidRule" = some (.ref R)
  gE : mg "NoRule" = some (.ref E)
  gI : mg "InvalidCounts" = some (.ref I)
  bV : mg "ValueError" = none
  oL : PySem.W.kitOne K (.ref C) (.ref L) = some true
  oV : PySem.W.kitOne K (.ref C) (.type "ValueError") = some true
  oN : PySem.W.kitAny K (.ref C) [.ref N, .ref R, .ref E, .ref I] = some false
theorem NoEv.raises {X : Cx} {C : Addr} (T : NoEv X.K X.mg C) : Raises X (.ref C) := raises_own T.ex.hs T.ty
theorem NoEv.meets {K : PySem.W.Frag} {mg : Str → Option Value} {C : Addr} (T : NoEv K mg C) : PySem.W.exmOne K (.ref C) (.ref C) = some true := PySem.W.exm_ref T.ex.hs T.ex.hd T.ty T.sf
/-- a def that raises, by its name -/
def CalX (P : Program) (w : World) (K : PySem.W.Frag) (mg : Str → Option Value) (base : Heap) (k : Nat) (x : Str) (sp : Sp) : Prop :=
  ∃ f fd ps, FnOk P w K mg base (L2.CX P w) k f fd ps sp ∧ mg x = some (.ref f) ∧ PySem.W.keepIn K (.ref f) = true ∧ Binds K fd ps []
theorem calx_of {P : Program} {w : World} {K : PySem.W.Frag} {mg : Str → Option Value} {base : Heap} {x : Str} {st : Stmt} {N ps : List Str} {k : Nat} {sp : Sp} (D : Df K mg x st ps) (S : FnScope N ps (defScope st)) (len : ∀ vs H Q E, sp vs H Q E → vs.length = ps.length)
    (hb : ∀ (f : Addr) (cdv : Value) (A : Around) (outer : List Env) (s : Shared) (H : Hp) (vs : List V) (Q : VK) (E : XK), Room k (A.deeper (envOfC x (defScope st) s.heap.objs.size f cdv)) → sp vs H Q E →
      ∃ t, PSs (cxOf (L2.CX P w) P w K mg base N x (defScope st) f cdv A outer s H E) (defBody st) t ∧ t { nx := fun _ H' => Q .non H', rt := Q } (start N vs) H) : CalX P w K mg base (k + 1) x sp := by
  obtain ⟨f, fd, F, hm, b⟩ := D
  exact ⟨f, fd, ps, F.okX S len (fun cdv A outer s H vs Q E hr h => hb f cdv A outer s H vs Q E hr h), hm, F.kp, b⟩
section
variable {X : Cx} {x : Str} {sp : Sp} {W : WX} {j k : Nat} {e : Expr} {es : List Expr} {t : TA} {p po : Pos}
/-- it is called where what it raises is taken -/
theorem pe_cx (c : CalX X.prog X.w X.K X.mg X.base k x sp) (hr : Room j X.A) (hk : k ≤ j) (tk : Takes X W) (hg : Gl X x) (ha : L2.PA X (e :: es) t)
    (hdb : (x == ("__debug__" : Str)) = false := by decide) (he : starEach (e :: es) X.env = (false, eval e X.env) :: starEach es X.env := by rfl) (hpl : (backTo po (starEach es X.env)).any (·.1) = false := by rfl) :
    PE X (.Call (.Name x p) (e :: es) [] po) (tCallS sp (WE W) t) := by
  obtain ⟨f, fd, ps, F, hm, kp, b⟩ := c
  exact pe_callS F (hr.mono hk) hg hm kp b (fun σ => passAt tk σ) ha hdb he hpl
end
end Lf
namespace Lf
open PySem PySem.Spec PyProof.Rows L2
/-! ### a def called where no repr is under way -/
structure FnG (P : Program) (w : World) (K : PySem.W.Frag) (mg : Str → Option Value) (base : Heap) (k : Nat) (f : Addr) (fd : FuncData) (ps : List Str) (sp : Sp) : Prop where
  lenG : ∀ vs H Q E, sp vs H Q E → vs.length = ps.length
  runG : ∀ (A : Around) (out : List Env) (sh : Shared) (H : Hp) (ar : Args) (us : List Value) (vs : List V) (Q : VK) (E : XK), Room k A → A.guards = some [] → Env0 P w K mg base A out sh H → BindsTo sh fd ar (ps.zip us) → Vals vs us → sp vs H Q E →
    codeAny (model P w) A (.call (.ref f) ar) (CR CX0 out P w H sh Q E) sh
theorem fnG_of {P : Program} {w : World} {K : PySem.W.Frag} {mg : Str → Option Value} {base : Heap} {x qual : Str} {st : Stmt} {f : Addr} {fd : FuncData} {N ps : List Str} {k : Nat} {sp : Sp} (F : Fun K x qual st f fd) (S : FnScope N ps (defScope st)) (ln : ∀ vs H Q E, sp vs H Q E → vs.length = ps.length)
    (bd : ∀ (cdv : Value) (A : Around) (out : List Env) (sh : Shared) (H : Hp) (vs : List V) (Q : VK) (E : XK), Room k (A.deeper (envOfC qual (defScope st) sh.heap.objs.size f cdv)) → A.guards = some [] → sp vs H Q E →
      ∃ t, PSs (cxOf CX0 P w K mg base N qual (defScope st) f cdv A out sh H E).nox (defBody st) t ∧ t { nx := fun _ H' => Q .non H', rt := Q } (start N vs) H) : FnG P w K mg base (k + 1) f fd ps sp := by
  obtain ⟨oc, od, kV, doc, pm, an, cdv, ct, osl, rfl, lkp, cin⟩ := F.ex
  refine ⟨ln, fun A out sh H ar us vs Q E rm gd en bnd rel pr => ?_⟩
  have lv := ln _ _ _ _ pr
  have inK : K.In sh.heap := en.mod.kin.keeps fun b o e => (en.bs b o e).1
  have nol : sh.heap.NoLimit := en.mod.nolimit.keeps fun b o e => (en.bs b o e).1
  have knd : ∀ y ∈ ps.zip us, (defScope st).names.lookup y.1 = some .local ∨ ((defScope st).names.lookup y.1 = some .cell ∧ ((cellsFrom (sh.heap.objs.size + 1) (defScope st).names []).lookup y.1).isSome = true) := fun ⟨n, v⟩ hy => by
    rcases S.par n (List.of_mem_zip hy).1 with z | z
    · exact .inl z
    · exact .inr ⟨z, PySem.W.cellsFrom_some _ _ _ (.inl z)⟩
  refine codeAny_call_function rm.depth (inK _ _ lkp) rfl S.co S.gen rfl (PySem.W.codeRec_of inK cin) (bnd _ _ _ _ ?_)
  refine wpAny_newFunctionEnv_cells S.kind knd fun env he sh1 x1 => ?_
  subst he
  refine ⟨nol.keeps x1.toInCall.keep, codeAny_func ?_⟩
  obtain ⟨t, ht, hq⟩ := bd cdv A out sh H vs Q E (rm.deeper _) gd pr
  have inv := inv_start (CX := CX0) (P := P) (w := w) (K := K) (mg := mg) (base := base) (E := E) (f := f) (cd := cdv) (qual := qual) S rm.hd en lv rel x1
  refine wpAny_mono (ht.nox.run [] sh1 (start N vs) H _ inv hq) (fun fl sh' hs => ?_) fun e sh' hs => hs
  cases fl with
  | ret u =>
    obtain ⟨v, σ', H', J, rv, z⟩ := hs
    exact ⟨v, H', J.os, J.bare, J.base, J.hok, rv, z⟩
  | next =>
    obtain ⟨σ', H', J, z⟩ := hs
    exact ⟨V.non, H', J.os, J.bare, J.base, J.hok, rfl, z⟩
  | brk =>
    obtain ⟨_, _, _, z⟩ := hs
    exact False.elim z
  | cont =>
    obtain ⟨_, _, _, z⟩ := hs
    exact False.elim z
/-- the law called, at the heap behind the top -/
theorem lawG {P : Program} {w : World} {K : PySem.W.Frag} {mg mb : Str → Option Value} {k : Nat} {fa ad : Addr} {fd : FuncData} {x : Str} {sp : Sp} {sh : Shared} {vs : List Value} {ns : List Int}
    (inK : K.In sh.heap) (nsm : sh.heap.Ns mainGlobals mg) (nsb : sh.heap.Ns builtinsNs mb) (bb : ∀ x : Str, x ≠ "__name__" → mb x = bootBuiltins x) (nol : sh.heap.NoLimit) (gn : sh.gens = #[])
    (ga : sh.heap.get? ad = some { cls := .type "list", data := .seq vs.toArray }) (isI : IntsAre vs ns) (len : ns.length ≤ sizeLine) (rm : Room k callerA)
    (F : ∀ base : Heap, K.In base → base.Ns mainGlobals mg → FnG P w K mg base k fa fd [x] sp) (bnd : ∀ (s : Shared) (u : Value), BindsTo s fd ⟨[u], []⟩ [(x, u)])
    (pr : ∀ H : Hp, SqL K H ad (ns.map V.int) → sp [.ref ad] H (fun v _ => v = .bl true) fun _ _ _ => False) :
    codeAny (model P w) callerA (.call (.ref fa) ⟨[.ref ad], []⟩) (fun r sh' => r = .ok (.ret (.bool true)) ∧ OldK sh.heap sh'.heap ∧ sh'.os = sh.os ∧ AllBare sh'.gens) sh := by
  have rel := vals_ints isI
  have lnv := isI.length
  have main : ∀ H : Hp, Only H → SqL K H ad (ns.map V.int) → HOk P w H sh.heap → (∀ b, H b ≠ none → b = ad) → (H ad ≠ none → K.lookup ad = none) →
      codeAny (model P w) callerA (.call (.ref fa) ⟨[.ref ad], []⟩) (fun r sh' => r = .ok (.ret (.bool true)) ∧ OldK sh.heap sh'.heap ∧ sh'.os = sh.os ∧ AllBare sh'.gens) sh := by
    intro H only seq hok one nk
    have lay : ∀ {b : Addr} {o : Obj}, sh.heap.get? b = some o → H b = none → (hidT sh.heap H).get? b = some o := fun e n => hidT_get e n
    have nod : ∀ {b : Addr} {o : Obj} {es : Array DictEntry} {ep : Nat}, sh.heap.get? b = some o → o.data = .dict es ep → H b = none := fun {b o es ep} e d => by
      cases z : H b with
      | none => rfl
      | some u =>
        have eb : b = ad := one b (by rw [z]; simp)
        subst eb
        rw [ga] at e
        cases e
        exact (nomatch (show Data.seq vs.toArray _ = Data.dict es ep from d))
    have nsL : ∀ {b : Addr} {m : Str → Option Value}, sh.heap.Ns b m → (hidT sh.heap H).Ns b m := fun {b m} ⟨o, es, ep, e, d, r⟩ => ⟨o, es, ep, lay e (nod e d), d, r⟩
    have inB : K.In (hidT sh.heap H) := fun b o e => lay (inK b o e) (by
      cases z : H b with
      | none => rfl
      | some u =>
        have eb : b = ad := one b (by rw [z]; simp)
        subst eb
        rw [nk (by rw [z]; simp)] at e
        cases e)
    have md : Mod K mg (hidT sh.heap H) := ⟨inB, nsL nsm, ⟨mb, nsL nsb, bb⟩, let ⟨mc, h1, h2⟩ := nol; ⟨mc, nsL h1, h2⟩⟩
    have en : Env0 P w K mg (hidT sh.heap H) callerA [] sh H := ⟨rfl, md, fun b o e => of_hidT e, Nat.le_of_eq (hidT_size _ _), trivial, fun b hb => absurd (show b ∈ ([] : List Addr) from hb) (by simp), hok, .of_eq gn⟩
    refine codeAny_mono ((F _ inB (nsL nsm)).runG callerA [] sh H ⟨[.ref ad], []⟩ [.ref ad] [.ref ad] _ _ rm rfl en (bnd sh (.ref ad)) (.cons rfl .nil) (pr H seq)) fun r sh' h => ?_
    match r, h with
    | .error e, h => exact (show False from h).elim
    | .ok .next, h => exact False.elim h
    | .ok .brk, h => exact False.elim h
    | .ok .cont, h => exact False.elim h
    | .ok (.ret u), h =>
      obtain ⟨v, H', os, bare, un, hok', rv, z⟩ := h
      have z' : v = .bl true := z
      subst z'
      have eu : u = Value.bool true := rv
      subst eu
      refine ⟨rfl, OldK.of_keep (fun b o e => ?_), os, bare⟩
      cases zb : H b with
      | none => exact un.keep b o e zb (fun z => absurd (show b ∈ ([] : List Addr) from z) (by simp)) (by simp)
      | some u =>
        rcases only b with z | ⟨ob, xs, z⟩
        · rw [zb] at z
          cases z
        · have e1 := (hok b _ z).1
          have e2 := (hok' b _ (un.frzs b ob _ z)).1
          rw [e] at e1
          cases e1
          exact e2
  cases hk : K.lookup ad with
  | some o =>
    have e := inK ad o hk
    rw [ga] at e
    cases e
    exact main (fun _ => none) (fun _ => .inl rfl) (.inr ⟨_, vs.toArray, _, hk, rfl, rfl, rfl, by rw [List.size_toArray, lnv]; exact len, by simpa using rel⟩) (fun b u z => nomatch (show (none : Option HO) = some u from z)) (fun b z => absurd rfl z) (fun z => absurd rfl z)
  | none =>
    refine main (fun b => if b = ad then some (.frz { cls := .type "list", data := .seq vs.toArray } (.lst (ns.map V.int))) else none) (fun b => ?_) (.inl (.inr ⟨{ cls := .type "list", data := .seq vs.toArray }, if_pos rfl⟩)) (fun b u z => ?_) (fun b z => ?_) (fun _ => hk)
    · by_cases eb : b = ad
      · exact .inr ⟨_, _, if_pos eb⟩
      · exact .inl (if_neg eb)
    · by_cases eb : b = ad
      · subst eb
        have z' := (if_pos rfl).symm.trans z
        cases z'
        exact ⟨ga, by rw [List.length_map]; exact len, vs, _, rel, ga⟩
      · exact (nomatch (if_neg eb).symm.trans z)
    · by_cases eb : b = ad
      · exact eb
      · exact absurd (if_neg eb) z
theorem walkG {l : PySem.W.OpenLaw} {n k : Nat} {q : Program} {loose : List Str} {XP : (Str → Option Value) → Heap → Prop} {YP : World → Heap → Prop} {d : DefRec} {K : Params → PySem.W.Frag} {sp : World → Sp} {x : Str}
    (most : l.most = some n) (nsz : n ≤ sizeLine) (nodf : d.params.defaults = []) (rm : Room k callerA) (inY : ∀ (w : World) (h : Heap), YP w h → (K w.params).In h)
    (F : ∀ (w : World) (mg : Str → Option Value) (fa : Addr) (h : Heap), (K w.params).In h → h.Ns mainGlobals mg → mg d.name = some (.ref fa) → ∃ fd : FuncData, (∀ (s : Shared) (u : Value), BindsTo s fd ⟨[u], []⟩ [(x, u)]) ∧ ∀ base : Heap, (K w.params).In base → base.Ns mainGlobals mg → FnG l.prog w (K w.params) mg base k fa fd [x] (sp w))
    (pr : ∀ (w : World) (H : Hp) (a : Addr) (ns : List Int), ns.length ≤ n → SqL (K w.params) H a (ns.map V.int) → sp w [.ref a] H (fun v _ => v = .bl true) fun _ _ _ => False) : PySem.W.WalkO q loose XP YP l.row.toRowW d [] (fun f vs => PySem.call f vs) := by
  refine Att.attach_call most nodf fun w s₀ sh mg mb fa o pm cd doc a vs ns G Y ho hd hcd hmg hobj hints hlen hg => ?_
  have inK := inY w _ Y
  obtain ⟨fd, hb, hF⟩ := F w mg fa _ inK G.T.g hmg
  exact lawG inK G.T.g G.T.b G.T.builtins G.T.nolimit hg hobj hints (Nat.le_trans hlen nsz) rm hF hb (fun H hS => pr w H a ns hlen hS)
/-! ### repr of data -/
theorem repr_data {X : Cx} (gd : X.A.guards = some []) (hu : X.A.units + 70 < cLine) : CallR X (.builtin "repr") (fun xs H Q => ∃ (a : Addr) (d : PyData), xs = [.ref a] ∧ Dp X.K H (.ref a) d ∧ d.showable = true ∧ d.hasDict = false ∧ d.depth ≤ 60 ∧ d.shown.length ≤ sizeLine ∧ Q (.str d.shown) H) := by
  intro pins s σ H xs us Q I rel h
  obtain ⟨a, d, rfl, dp, sw, nd, dd, sz, hq⟩ := h
  obtain ⟨u, hu1, ru⟩ := vals1 rel
  subst hu1
  obtain ⟨as, rd⟩ := Dp.reads I d (.ref a) u dp ru
  have eu : u = Value.ref a := ru
  subst eu
  refine repr_of_reads' rd sw (fun z => by rw [nd] at z; cases z) gd (by omega) (fun _ _ e => e) (fun h' u tk hk => ?_) sz
  exact ⟨.str d.shown, H, I.kept hk, ⟨u, rfl⟩, hq⟩
theorem show_fits (ds : List Int) (hb : ∀ z ∈ ds, Bd 1900 z) (hl : ds.length ≤ 100) : (PyData.tuple (ds.map PyData.int)).showable = true ∧ (PyData.tuple (ds.map PyData.int)).hasDict = false ∧ (PyData.tuple (ds.map PyData.int)).depth ≤ 60 ∧ (PyData.tuple (ds.map PyData.int)).shown.length ≤ sizeLine := by
  have lg : ∀ z ∈ ds, z.natAbs.log2 < 1920 := fun z hz => ((hb z hz).mono (show 1900 ≤ 1920 by decide)).log (by decide)
  have key : ∀ l : List Int, (∀ z ∈ l, z.natAbs.log2 < 1920) → PyData.showableAll (l.map PyData.int) = true ∧ PyData.hasDictAll (l.map PyData.int) = false ∧ PyData.depthAll (l.map PyData.int) = 0 ∧ ((PyData.shownAll (l.map PyData.int)).map (·.length)).sum ≤ 1921 * l.length ∧ (PyData.shownAll (l.map PyData.int)).length = l.length := by
    intro l
    induction l with
    | nil => intro _; exact ⟨rfl, rfl, rfl, by simp [PyData.shownAll], rfl⟩
    | cons z r ih =>
      intro h
      obtain ⟨i1, i2, i3, i4, i5⟩ := ih fun y hy => h y (List.mem_cons_of_mem _ hy)
      have hz := h z (List.mem_cons_self ..)
      refine ⟨?_, ?_, ?_, ?_, ?_⟩
      · simp [PyData.showableAll, PyData.showable, hz, i1]
      · simp [PyData.hasDictAll, PyData.hasDict, i2]
      · simp [PyData.depthAll, PyData.depth, i3]
      · have := PyProof.Rows.int_text_len_1921 hz
        simp only [List.map_cons, PyData.shownAll, PyData.shown, List.sum_cons, List.length_cons]
        omega
      · simp [PyData.shownAll, i5]
  obtain ⟨k1, k2, k3, k4, k5⟩ := key ds lg
  refine ⟨by simpa [PyData.showable] using k1, by simpa [PyData.hasDict] using k2, by simp [PyData.depth, k3], ?_⟩
  have := tupleText_len_le (PyData.shownAll (ds.map PyData.int))
  rw [k5] at this
  show (tupleText (PyData.shownAll (ds.map PyData.int))).length ≤ sizeLine
  rw [sizeLine_eq]
  omega
theorem dpAll_ints {K : PySem.W.Frag} {H : Hp} : ∀ ds : List Int, DpAll K H (ds.map V.int) (ds.map PyData.int)
  | [] => .nil
  | c :: r => .cons (.int c) (dpAll_ints r)
/-- repr of a tuple of ints -/
theorem rp_ints {K : PySem.W.Frag} {H : Hp} {a : Addr} {Q : VK} (ds : List Int) (e : H a = some (.tup (ds.map V.int))) (hb : ∀ z ∈ ds, Bd 1900 z) (hl : ds.length ≤ 100) (h : Q (.str (PyData.tuple (ds.map PyData.int)).shown) H) :
    ∃ (a' : Addr) (d : PyData), [V.ref a] = [.ref a'] ∧ Dp K H (.ref a') d ∧ d.showable = true ∧ d.hasDict = false ∧ d.depth ≤ 60 ∧ d.shown.length ≤ sizeLine ∧ Q (.str d.shown) H := by
  obtain ⟨f1, f2, f3, f4⟩ := show_fits ds hb hl
  exact ⟨a, _, rfl, Dp.tup (SqT.of e) (dpAll_ints ds), f1, f2, f3, f4, h⟩
end Lf
namespace Lf
open PySem PySem.Spec PyProof.Rows L2
/-! ### guards and a table of code objects together -/
theorem lawGT {P : Program} {w : World} {K : PySem.W.Frag} {mg mb : Str → Option Value} {k : Nat} {fa ad cT PT : Addr} {fd : FuncData} {x : Str} {sp : Sp} {sh : Shared} {vs : List Value} {ns : List Int}
    (inK : K.In sh.heap) (nsm : sh.heap.Ns mainGlobals mg) (nsb : sh.heap.Ns builtinsNs mb) (bb : ∀ x : Str, x ≠ "__name__" → mb x = bootBuiltins x) (nol : sh.heap.NoLimit) (gn : sh.gens = #[])
    (tP : sh.heap.get? PT = some { cls := .none, data := .fields #[] }) (nP : K.lookup PT = none) (hC : PySem.W.CodeHd sh.heap cT PT)
    (bM : ∃ (bm : Addr) (ob : Obj), mg "__builtins__" = some (.ref bm) ∧ bm ≠ builtinsNs ∧ sh.heap.get? bm = some ob ∧ ob.cls = .type "module" ∧ ob.dict = some builtinsNs ∧ ob.data = .plain)
    (ga : sh.heap.get? ad = some { cls := .type "list", data := .seq vs.toArray }) (isI : IntsAre vs ns) (len : ns.length ≤ sizeLine) (rm : Room k callerA)
    (F : ∀ base : Heap, K.In base → base.Ns mainGlobals mg → LamX.TabB base mg cT PT → FnG P w K mg base k fa fd [x] sp) (bnd : ∀ (s : Shared) (u : Value), BindsTo s fd ⟨[u], []⟩ [(x, u)])
    (pr : ∀ H : Hp, H PT = some (.tbl #[]) → SqL K H ad (ns.map V.int) → sp [.ref ad] H (fun v _ => v = .bl true) fun _ _ _ => False) :
    codeAny (model P w) callerA (.call (.ref fa) ⟨[.ref ad], []⟩) (fun r sh' => r = .ok (.ret (.bool true)) ∧ OldK sh.heap sh'.heap ∧ sh'.os = sh.os ∧ AllBare sh'.gens) sh := by
  have rel := vals_ints isI
  have lnv := isI.length
  have nab : ¬ ad = PT := fun z => by
    rw [z, tP] at ga
    cases ga
  have main : ∀ H : Hp, H PT = some (.tbl #[]) → (∀ b, H b = none ∨ b = PT ∨ ∃ o xs, H b = some (.frz o (.lst xs))) → SqL K H ad (ns.map V.int) → HOk P w H sh.heap → (∀ b, H b ≠ none → b = ad ∨ b = PT) → (H ad ≠ none → K.lookup ad = none) →
      codeAny (model P w) callerA (.call (.ref fa) ⟨[.ref ad], []⟩) (fun r sh' => r = .ok (.ret (.bool true)) ∧ OldK sh.heap sh'.heap ∧ sh'.os = sh.os ∧ AllBare sh'.gens) sh := by
    intro H hT only seq hok one nk
    have lay : ∀ {b : Addr} {o : Obj}, sh.heap.get? b = some o → H b = none → (hidT sh.heap H).get? b = some o := fun e n => hidT_get e n
    -- what is no list and no empty record is not tracked
    have off : ∀ {b : Addr} {o : Obj}, sh.heap.get? b = some o → (∀ zs m, o.data ≠ .seq zs m) → o.data ≠ .fields #[] → H b = none := fun {b o} e n1 n2 => by
      cases z : H b with
      | none => rfl
      | some u =>
        rcases one b (by rw [z]; simp) with eb | eb
        · rw [eb, ga] at e
          cases e
          exact absurd rfl (n1 _ _)
        · rw [eb, tP] at e
          cases e
          exact absurd rfl n2
    have nsL : ∀ {b : Addr} {m : Str → Option Value}, sh.heap.Ns b m → (hidT sh.heap H).Ns b m := fun {b m} ⟨o, es, ep, e, d, r⟩ =>
      ⟨o, es, ep, lay e (off e (fun zs m z => by rw [d] at z; cases z) (fun z => by rw [d] at z; cases z)), d, r⟩
    have inB : K.In (hidT sh.heap H) := fun b o e => lay (inK b o e) (by
      cases z : H b with
      | none => rfl
      | some u =>
        rcases one b (by rw [z]; simp) with eb | eb
        · subst eb
          rw [nk (by rw [z]; simp)] at e
          cases e
        · rw [eb, nP] at e
          cases e)
    have md : Mod K mg (hidT sh.heap H) := ⟨inB, nsL nsm, ⟨mb, nsL nsb, bb⟩, let ⟨mc, h1, h2⟩ := nol; ⟨mc, nsL h1, h2⟩⟩
    have gP : ¬ mainGlobals = PT := fun z => by
      obtain ⟨o, es, ep, e, d, _⟩ := nsm
      rw [z, tP] at e
      cases e
      cases d
    have tb : LamX.TabB (hidT sh.heap H) mg cT PT := by
      refine ⟨?_, ?_, gP⟩
      · obtain ⟨o, us, fi, tf, fl, tg, iF, tx, tt, e1, r1, r2, r3, rr⟩ := hC
        refine ⟨o, us, fi, tf, fl, tg, iF, tx, tt, lay e1 (off e1 (fun zs m z => by rw [r2] at z; cases z) (fun z => ?_)), r1, r2, r3, rr⟩
        rw [r2] at z
        cases z
        simp at r3
      · obtain ⟨bm, ob, b1, b2, b3, b4, b5, b6⟩ := bM
        refine ⟨bm, ob, b1, b2, fun z => ?_, fun z => ?_, lay b3 (off b3 (fun zs m z => by rw [b6] at z; cases z) (fun z => by rw [b6] at z; cases z)), b4, b5, b6⟩
        · obtain ⟨o, es, ep, e, d, _⟩ := nsm
          rw [z, e] at b3
          cases b3
          rw [d] at b6
          cases b6
        · rw [z, tP] at b3
          cases b3
          cases b6
    have en : Env0 P w K mg (hidT sh.heap H) callerA [] sh H := ⟨rfl, md, fun b o e => of_hidT e, Nat.le_of_eq (hidT_size _ _), trivial, fun b hb => absurd (show b ∈ ([] : List Addr) from hb) (by simp), hok, .of_eq gn⟩
    refine codeAny_mono ((F _ inB (nsL nsm) tb).runG callerA [] sh H ⟨[.ref ad], []⟩ [.ref ad] [.ref ad] _ _ rm rfl en (bnd sh (.ref ad)) (.cons rfl .nil) (pr H hT seq)) fun r sh' h => ?_
    match r, h with
    | .error e, h => exact (show False from h).elim
    | .ok .next, h => exact False.elim h
    | .ok .brk, h => exact False.elim h
    | .ok .cont, h => exact False.elim h
    | .ok (.ret u), h =>
      obtain ⟨v, H', os, bare, un, hok', rv, z⟩ := h
      have z' : v = .bl true := z
      subst z'
      have eu : u = Value.bool true := rv
      subst eu
      have old : ∀ b o, ¬ b = PT → sh.heap.get? b = some o → sh'.heap.get? b = some o := fun b o nb e => by
        cases zb : H b with
        | none => exact un.keep b o e zb (fun z => absurd (show b ∈ ([] : List Addr) from z) (by simp)) (by simp)
        | some u =>
          rcases only b with z | z | ⟨ob, xs, z⟩
          · rw [zb] at z
            cases z
          · exact absurd z nb
          · have e1 := (hok b _ z).1
            have e2 := (hok' b _ (un.frzs b ob _ z)).1
            rw [e] at e1
            cases e1
            exact e2
      obtain ⟨more, zm⟩ := un.tbls PT #[] hT
      have grown : sh'.heap.get? PT = some { cls := .none, data := .fields (#[] ++ more) } := hok' PT _ zm
      refine ⟨rfl, ⟨fun b o e => ?_, fun b o e => ?_⟩, os, bare⟩
      · by_cases hb : b = PT
        · rw [hb] at e ⊢
          rw [tP] at e
          cases e
          exact .inr (.inl ⟨(hC.tab tP).isCodeTable, rfl, #[], more, rfl, grown⟩)
        · exact .inl (old b o hb e)
      · by_cases hb : b = PT
        · rw [hb]
          exact ⟨_, grown⟩
        · exact ⟨o, old b o hb e⟩
  cases hk : K.lookup ad with
  | some o =>
    have e := inK ad o hk
    rw [ga] at e
    cases e
    refine main (fun b => if b = PT then some (.tbl #[]) else none) (if_pos rfl) (fun b => ?_) (.inr ⟨_, vs.toArray, _, hk, rfl, rfl, rfl, by rw [List.size_toArray, lnv]; exact len, by simpa using rel⟩) (fun b u z => ?_) (fun b z => ?_) (fun z => absurd (if_neg nab) z)
    · by_cases hb : b = PT
      · exact .inr (.inl hb)
      · exact .inl (if_neg hb)
    · by_cases hb : b = PT
      · rw [hb] at z ⊢
        have z' := (if_pos rfl).symm.trans z
        cases z'
        exact tP
      · exact (nomatch (if_neg hb).symm.trans z)
    · by_cases hb : b = PT
      · exact .inr hb
      · exact absurd (if_neg hb) z
  | none =>
    refine main (fun b => if b = ad then some (.frz { cls := .type "list", data := .seq vs.toArray } (.lst (ns.map V.int))) else if b = PT then some (.tbl #[]) else none) ((if_neg (fun z => nab z.symm)).trans (if_pos rfl)) (fun b => ?_) (.inl (.inr ⟨{ cls := .type "list", data := .seq vs.toArray }, if_pos rfl⟩)) (fun b u z => ?_) (fun b z => ?_) (fun _ => hk)
    · by_cases eb : b = ad
      · exact .inr (.inr ⟨_, _, if_pos eb⟩)
      · by_cases hb : b = PT
        · exact .inr (.inl hb)
        · exact .inl ((if_neg eb).trans (if_neg hb))
    · by_cases eb : b = ad
      · subst eb
        have z' := (if_pos rfl).symm.trans z
        cases z'
        exact ⟨ga, by rw [List.length_map]; exact len, vs, _, rel, ga⟩
      · have z1 := (if_neg eb).symm.trans z
        by_cases hb : b = PT
        · rw [hb] at z1 ⊢
          have z' := (if_pos rfl).symm.trans z1
          cases z'
          exact tP
        · exact (nomatch (if_neg hb).symm.trans z1)
    · by_cases eb : b = ad
      · exact .inl eb
      · by_cases hb : b = PT
        · exact .inr hb
        · exact absurd ((if_neg eb).trans (if_neg hb)) z
/-- what the head tells of the law, of the table PT of the code object cT -/
structure LawGT (l : PySem.W.OpenLaw) (w : World) (K : PySem.W.Frag) (k : Nat) (x : Str) (mg : Str → Option Value) (fa : Addr) (h : Heap) : Prop where
  ex : ∃ (fd : FuncData) (cT PT : Addr) (sp : Sp), h.get? PT = some { cls := .none, data := .fields #[] } ∧ K.lookup PT = none ∧ PySem.W.CodeHd h cT PT ∧ (∀ (s : Shared) (u : Value), BindsTo s fd ⟨[u], []⟩ [(x, u)]) ∧
    (∀ (H : Hp) (a : Addr) (ns : List Int), ns.length ≤ 63 → H PT = some (.tbl #[]) → SqL K H a (ns.map V.int) → sp [.ref a] H (fun v _ => v = .bl true) fun _ _ _ => False) ∧
    ∀ base : Heap, K.In base → base.Ns mainGlobals mg → LamX.TabB base mg cT PT → FnG l.prog w K mg base k fa fd [x] sp
theorem walkGT {l : PySem.W.OpenLaw} {k : Nat} {q : Program} {loose : List Str} {XP : (Str → Option Value) → Heap → Prop} {YP : World → Heap → Prop} {d : DefRec} {K : Params → PySem.W.Frag} {x : Str}
    (most : l.most = some 63) (nodf : d.params.defaults = []) (rm : Room k callerA) (inY : ∀ (w : World) (h : Heap), YP w h → (K w.params).In h)
    (F : ∀ (w : World) (mg : Str → Option Value) (fa : Addr) (h : Heap), YP w h → (K w.params).In h → h.Ns mainGlobals mg → mg d.name = some (.ref fa) → LawGT l w (K w.params) k x mg fa h) : PySem.W.WalkO q loose XP YP l.row.toRowW d [] (fun f vs => PySem.call f vs) := by
  refine Att.attach_call most nodf fun w s₀ sh mg mb fa o pm cd doc a vs ns G Y ho hd hcd hmg hobj hints hlen hg => ?_
  have inK := inY w _ Y
  obtain ⟨fd, cT, PT, sp, tP, nP, hC, hb, hp, hF⟩ := (F w mg fa _ Y inK G.T.g hmg).ex
  exact lawGT inK G.T.g G.T.b G.T.builtins G.T.nolimit hg tP nP hC G.T.bmain hobj hints (Nat.le_trans hlen (by decide)) rm hF hb (fun H hH hS => hp H a ns hlen hH hS)
/-! ### a def by its row, called where no repr is under way -/
theorem fnG_lk {P : Program} {w : World} {K : PySem.W.Frag} {mg : Str → Option Value} {base : Heap} {x : Str} {st : Stmt} {f : Addr} {N ps : List Str} {k : Nat} {sp : Sp} {oc kV doc pm cdv ct : Value} {od an : Option Addr} {osl : Array (Option Value)}
    (lkp : K.lookup f = some ⟨oc, od, .func (PySem.W.fnOf x x (defArgs st) (defBody st) (defScope st) .none kV doc pm an cdv ct), osl⟩) (cin : PySem.W.codeIn K cdv x = true) (S : FnScope N ps (defScope st)) (ln : ∀ vs H Q E, sp vs H Q E → vs.length = ps.length)
    (bd : ∀ (A : Around) (out : List Env) (sh : Shared) (H : Hp) (vs : List V) (Q : VK) (E : XK), Room k (A.deeper (envOfC x (defScope st) sh.heap.objs.size f cdv)) → A.guards = some [] → sp vs H Q E →
      ∃ t, PSs (cxOf CX0 P w K mg base N x (defScope st) f cdv A out sh H E).nox (defBody st) t ∧ t { nx := fun _ H' => Q .non H', rt := Q } (start N vs) H) : FnG P w K mg base (k + 1) f (PySem.W.fnOf x x (defArgs st) (defBody st) (defScope st) .none kV doc pm an cdv ct) ps sp := by
  refine ⟨ln, fun A out sh H ar us vs Q E rm gd en bnd rel pr => ?_⟩
  have lv := ln _ _ _ _ pr
  have kIn : K.In sh.heap := en.mod.kin.keeps fun b o e => (en.bs b o e).1
  have nol : sh.heap.NoLimit := en.mod.nolimit.keeps fun b o e => (en.bs b o e).1
  have knd : ∀ y ∈ ps.zip us, (defScope st).names.lookup y.1 = some .local ∨ ((defScope st).names.lookup y.1 = some .cell ∧ ((cellsFrom (sh.heap.objs.size + 1) (defScope st).names []).lookup y.1).isSome = true) := fun ⟨n, v⟩ hy => by
    rcases S.par n (List.of_mem_zip hy).1 with z | z
    · exact .inl z
    · exact .inr ⟨z, PySem.W.cellsFrom_some _ _ _ (.inl z)⟩
  refine codeAny_call_function rm.depth (kIn _ _ lkp) rfl S.co S.gen rfl (PySem.W.codeRec_of kIn cin) (bnd _ _ _ _ ?_)
  refine wpAny_newFunctionEnv_cells S.kind knd fun env he sh1 x1 => ?_
  subst he
  refine ⟨nol.keeps x1.toInCall.keep, codeAny_func ?_⟩
  obtain ⟨t, ht, hq⟩ := bd A out sh H vs Q E (rm.deeper _) gd pr
  have inv := inv_start (CX := CX0) (P := P) (w := w) (K := K) (mg := mg) (base := base) (E := E) (f := f) (cd := cdv) (qual := x) S rm.hd en lv rel x1
  refine wpAny_mono (ht.nox.run [] sh1 (start N vs) H _ inv hq) (fun fl sh' hs => ?_) fun e sh' hs => hs
  cases fl with
  | ret u =>
    obtain ⟨v, σ', H', J, rv, z⟩ := hs
    exact ⟨v, H', J.os, J.bare, J.base, J.hok, rv, z⟩
  | next =>
    obtain ⟨σ', H', J, z⟩ := hs
    exact ⟨V.non, H', J.os, J.bare, J.base, J.hok, rfl, z⟩
  | brk =>
    obtain ⟨_, _, _, z⟩ := hs
    exact False.elim z
  | cont =>
    obtain ⟨_, _, _, z⟩ := hs
    exact False.elim z
section
variable {X : Cx} {x : Str} {sp : Sp} {W : WX} {j k i : Nat} {f : Addr} {fd : FuncData} {ps : List Str} {e : Expr} {es : List Expr} {t : TA} {p po : Pos}
/-- such a def, called by its name -/
theorem pe_g (F : FnG X.prog X.w X.K X.mg X.base k f fd ps sp) (gd : X.A.guards = some []) (hr : Room j X.A) (hk : k ≤ j) (hg : Gl X x) (hm : X.mg x = some (.ref f)) (kp : PySem.W.keepIn X.K (.ref f) = true) (hb : Binds X.K fd ps []) (ha : L2.PA X (e :: es) t)
    (hdb : (x == ("__debug__" : Str)) = false := by decide) (he : starEach (e :: es) X.env = (false, eval e X.env) :: starEach es X.env := by rfl) (hpl : (backTo po (starEach es X.env)).any (·.1) = false := by rfl) :
    PE X (.Call (.Name x p) (e :: es) [] po) (fun σ H Q => t σ H fun vs H1 => sp vs H1 Q (fun _ _ _ => False)) := by
  refine ⟨fun pins s σ H Q I h => wpAny_Call_Name_kw (ld_glob I hg hm ?_ hdb)⟩
  refine PySem.W.callWith_K (h₀ := X.base) I.ok.mod.kin kp (thn (ha.run po pins s σ H _ I h) fun us s1 ⟨vs, H1, I1, rv, q⟩ => ⟨I1.kIn, ?_⟩) he hpl
  have hl : us.length = ps.length := by rw [← rv.length]; exact F.lenG _ _ _ _ q
  have b := hb s1 us I1.kIn (by rw [List.append_nil]; exact hl)
  rw [List.append_nil] at b
  refine wpAny_call (codeAny_mono (F.runG X.A X.stack s1 H1 ⟨us, []⟩ us vs Q _ (hr.mono hk) gd I1.env0 b rv q) fun r s' hq => ?_)
  cases r with
  | error e => exact (show False from hq).elim
  | ok fl =>
    cases fl with
    | ret u => exact I1.after hq
    | next => exact False.elim hq
    | brk => exact False.elim hq
    | cont => exact False.elim hq
/-- a name that holds one of some defs that raise -/
theorem pe_vx (S : Addr → Prop) (hS : ∀ f, S f → ∃ fd ps, FnOk X.prog X.w X.K X.mg X.base (L2.CX X.prog X.w) k f fd ps sp ∧ PySem.W.keepIn X.K (.ref f) = true ∧ Binds X.K fd ps []) (hr : Room j X.A) (hk : k ≤ j) (tk : Takes X W) (hN : X.N[i]? = some x) (hv : Vis X.env.scope x) (ha : L2.PA X (e :: es) t)
    (hd : (x == ("__debug__" : Str)) = false := by decide) (hcd : (x == ("__classdict__" : Str)) = false := by decide) (he : starEach (e :: es) X.env = (false, eval e X.env) :: starEach es X.env := by rfl) (hpl : (backTo po (starEach es X.env)).any (·.1) = false := by rfl) :
    PE X (.Call (.Name x p) (e :: es) [] po) (fun σ H Q => ∃ f, σ[i]? = some (some (.ref f)) ∧ S f ∧ t σ H fun vs H1 => sp vs H1 Q (WE W σ)) := by
  refine ⟨fun pins s σ H Q I h => ?_⟩
  obtain ⟨f, hs, hf, h⟩ := h
  obtain ⟨fd, ps, F, kp, b⟩ := hS f hf
  refine wpAny_Call_Name_kw (thn ((pe_var (pos := p) (i := i) hN hv hd hcd).run pins s σ H (fun v H1 => v = .ref f ∧ H1 = H) I ⟨.ref f, hs, rfl, rfl⟩) fun u s1 ⟨v, H1, I1, r1, q1, q2⟩ => ?_)
  subst q1
  rw [q2] at I1
  cases r1
  refine PySem.W.callWith_K (h₀ := X.base) I1.ok.mod.kin kp (thn (ha.run po pins s1 σ H _ I1 h) fun us s2 ⟨vs, H2, I2, rv, q⟩ => ⟨I2.kIn, ?_⟩) he hpl
  exact run_fnS F (hr.mono hk) b (passAt tk σ) I2 rv q
end
end Lf
namespace Lf
open PySem PySem.Spec PyProof.Rows L2
/-! ### as lawGT, and the base has the table of modules -/
theorem lawGT1 {P : Program} {w : World} {K : PySem.W.Frag} {mg mb : Str → Option Value} {k : Nat} {fa ad cT PT : Addr} {fd : FuncData} {x : Str} {sp : Sp} {sh : Shared} {vs : List Value} {ns : List Int}
    (inK : K.In sh.heap) (nsm : sh.heap.Ns mainGlobals mg) (nsb : sh.heap.Ns builtinsNs mb) (bb : ∀ x : Str, x ≠ "__name__" → mb x = bootBuiltins x) (nol : sh.heap.NoLimit) (gn : sh.gens = #[])
    (sM : ∃ mm, sh.heap.Ns sysModules mm) (tP : sh.heap.get? PT = some { cls := .none, data := .fields #[] }) (nP : K.lookup PT = none) (hC : PySem.W.CodeHd sh.heap cT PT)
    (bM : ∃ (bm : Addr) (ob : Obj), mg "__builtins__" = some (.ref bm) ∧ bm ≠ builtinsNs ∧ sh.heap.get? bm = some ob ∧ ob.cls = .type "module" ∧ ob.dict = some builtinsNs ∧ ob.data = .plain)
    (ga : sh.heap.get? ad = some { cls := .type "list", data := .seq vs.toArray }) (isI : IntsAre vs ns) (len : ns.length ≤ sizeLine) (rm : Room k callerA)
    (F : ∀ base : Heap, K.In base → base.Ns mainGlobals mg → (∃ o, base.get? 1 = some o) → LamX.TabB base mg cT PT → FnG P w K mg base k fa fd [x] sp) (bnd : ∀ (s : Shared) (u : Value), BindsTo s fd ⟨[u], []⟩ [(x, u)])
    (pr : ∀ H : Hp, H PT = some (.tbl #[]) → SqL K H ad (ns.map V.int) → sp [.ref ad] H (fun v _ => v = .bl true) fun _ _ _ => False) :
    codeAny (model P w) callerA (.call (.ref fa) ⟨[.ref ad], []⟩) (fun r sh' => r = .ok (.ret (.bool true)) ∧ OldK sh.heap sh'.heap ∧ sh'.os = sh.os ∧ AllBare sh'.gens) sh := by
  have rel := vals_ints isI
  have lnv := isI.length
  have nab : ¬ ad = PT := fun z => by
    rw [z, tP] at ga
    cases ga
  have main : ∀ H : Hp, H PT = some (.tbl #[]) → (∀ b, H b = none ∨ b = PT ∨ ∃ o xs, H b = some (.frz o (.lst xs))) → SqL K H ad (ns.map V.int) → HOk P w H sh.heap → (∀ b, H b ≠ none → b = ad ∨ b = PT) → (H ad ≠ none → K.lookup ad = none) →
      codeAny (model P w) callerA (.call (.ref fa) ⟨[.ref ad], []⟩) (fun r sh' => r = .ok (.ret (.bool true)) ∧ OldK sh.heap sh'.heap ∧ sh'.os = sh.os ∧ AllBare sh'.gens) sh := by
    intro H hT only seq hok one nk
    have lay : ∀ {b : Addr} {o : Obj}, sh.heap.get? b = some o → H b = none → (hidT sh.heap H).get? b = some o := fun e n => hidT_get e n
    -- what is no list and no empty record is not tracked
    have off : ∀ {b : Addr} {o : Obj}, sh.heap.get? b = some o → (∀ zs m, o.data ≠ .seq zs m) → o.data ≠ .fields #[] → H b = none := fun {b o} e n1 n2 => by
      cases z : H b with
      | none => rfl
      | some u =>
        rcases one b (by rw [z]; simp) with eb | eb
        · rw [eb, ga] at e
          cases e
          exact absurd rfl (n1 _ _)
        · rw [eb, tP] at e
          cases e
          exact absurd rfl n2
    have nsL : ∀ {b : Addr} {m : Str → Option Value}, sh.heap.Ns b m → (hidT sh.heap H).Ns b m := fun {b m} ⟨o, es, ep, e, d, r⟩ =>
      ⟨o, es, ep, lay e (off e (fun zs m z => by rw [d] at z; cases z) (fun z => by rw [d] at z; cases z)), d, r⟩
    have inB : K.In (hidT sh.heap H) := fun b o e => lay (inK b o e) (by
      cases z : H b with
      | none => rfl
      | some u =>
        rcases one b (by rw [z]; simp) with eb | eb
        · subst eb
          rw [nk (by rw [z]; simp)] at e
          cases e
        · rw [eb, nP] at e
          cases e)
    have md : Mod K mg (hidT sh.heap H) := ⟨inB, nsL nsm, ⟨mb, nsL nsb, bb⟩, let ⟨mc, h1, h2⟩ := nol; ⟨mc, nsL h1, h2⟩⟩
    have gP : ¬ mainGlobals = PT := fun z => by
      obtain ⟨o, es, ep, e, d, _⟩ := nsm
      rw [z, tP] at e
      cases e
      cases d
    have tb : LamX.TabB (hidT sh.heap H) mg cT PT := by
      refine ⟨?_, ?_, gP⟩
      · obtain ⟨o, us, fi, tf, fl, tg, iF, tx, tt, e1, r1, r2, r3, rr⟩ := hC
        refine ⟨o, us, fi, tf, fl, tg, iF, tx, tt, lay e1 (off e1 (fun zs m z => by rw [r2] at z; cases z) (fun z => ?_)), r1, r2, r3, rr⟩
        rw [r2] at z
        cases z
        simp at r3
      · obtain ⟨bm, ob, b1, b2, b3, b4, b5, b6⟩ := bM
        refine ⟨bm, ob, b1, b2, fun z => ?_, fun z => ?_, lay b3 (off b3 (fun zs m z => by rw [b6] at z; cases z) (fun z => by rw [b6] at z; cases z)), b4, b5, b6⟩
        · obtain ⟨o, es, ep, e, d, _⟩ := nsm
          rw [z, e] at b3
          cases b3
          rw [d] at b6
          cases b6
        · rw [z, tP] at b3
          cases b3
          cases b6
    have en : Env0 P w K mg (hidT sh.heap H) callerA [] sh H := ⟨rfl, md, fun b o e => of_hidT e, Nat.le_of_eq (hidT_size _ _), trivial, fun b hb => absurd (show b ∈ ([] : List Addr) from hb) (by simp), hok, .of_eq gn⟩
    refine codeAny_mono ((F _ inB (nsL nsm) (let ⟨_, h⟩ := sM; let ⟨o, _, _, e, _⟩ := nsL h; ⟨o, e⟩) tb).runG callerA [] sh H ⟨[.ref ad], []⟩ [.ref ad] [.ref ad] _ _ rm rfl en (bnd sh (.ref ad)) (.cons rfl .nil) (pr H hT seq)) fun r sh' h => ?_
    match r, h with
    | .error e, h => exact (show False from h).elim
    | .ok .next, h => exact False.elim h
    | .ok .brk, h => exact False.elim h
    | .ok .cont, h => exact False.elim h
    | .ok (.ret u), h =>
      obtain ⟨v, H', os, bare, un, hok', rv, z⟩ := h
      have z' : v = .bl true := z
      subst z'
      have eu : u = Value.bool true := rv
      subst eu
      have old : ∀ b o, ¬ b = PT → sh.heap.get? b = some o → sh'.heap.get? b = some o := fun b o nb e => by
        cases zb : H b with
        | none => exact un.keep b o e zb (fun z => absurd (show b ∈ ([] : List Addr) from z) (by simp)) (by simp)
        | some u =>
          rcases only b with z | z | ⟨ob, xs, z⟩
          · rw [zb] at z
            cases z
          · exact absurd z nb
          · have e1 := (hok b _ z).1
            have e2 := (hok' b _ (un.frzs b ob _ z)).1
            rw [e] at e1
            cases e1
            exact e2
      obtain ⟨more, zm⟩ := un.tbls PT #[] hT
      have grown : sh'.heap.get? PT = some { cls := .none, data := .fields (#[] ++ more) } := hok' PT _ zm
      refine ⟨rfl, ⟨fun b o e => ?_, fun b o e => ?_⟩, os, bare⟩
      · by_cases hb : b = PT
        · rw [hb] at e ⊢
          rw [tP] at e
          cases e
          exact .inr (.inl ⟨(hC.tab tP).isCodeTable, rfl, #[], more, rfl, grown⟩)
        · exact .inl (old b o hb e)
      · by_cases hb : b = PT
        · rw [hb]
          exact ⟨_, grown⟩
        · exact ⟨o, old b o hb e⟩
  cases hk : K.lookup ad with
  | some o =>
    have e := inK ad o hk
    rw [ga] at e
    cases e
    refine main (fun b => if b = PT then some (.tbl #[]) else none) (if_pos rfl) (fun b => ?_) (.inr ⟨_, vs.toArray, _, hk, rfl, rfl, rfl, by rw [List.size_toArray, lnv]; exact len, by simpa using rel⟩) (fun b u z => ?_) (fun b z => ?_) (fun z => absurd (if_neg nab) z)
    · by_cases hb : b = PT
      · exact .inr (.inl hb)
      · exact .inl (if_neg hb)
    · by_cases hb : b = PT
      · rw [hb] at z ⊢
        have z' := (if_pos rfl).symm.trans z
        cases z'
        exact tP
      · exact (nomatch (if_neg hb).symm.trans z)
    · by_cases hb : b = PT
      · exact .inr hb
      · exact absurd (if_neg hb) z
  | none =>
    refine main (fun b => if b = ad then some (.frz { cls := .type "list", data := .seq vs.toArray } (.lst (ns.map V.int))) else if b = PT then some (.tbl #[]) else none) ((if_neg (fun z => nab z.symm)).trans (if_pos rfl)) (fun b => ?_) (.inl (.inr ⟨{ cls := .type "list", data := .seq vs.toArray }, if_pos rfl⟩)) (fun b u z => ?_) (fun b z => ?_) (fun _ => hk)
    · by_cases eb : b = ad
      · exact .inr (.inr ⟨_, _, if_pos eb⟩)
      · by_cases hb : b = PT
        · exact .inr (.inl hb)
        · exact .inl ((if_neg eb).trans (if_neg hb))
    · by_cases eb : b = ad
      · subst eb
        have z' := (if_pos rfl).symm.trans z
        cases z'
        exact ⟨ga, by rw [List.length_map]; exact len, vs, _, rel, ga⟩
      · have z1 := (if_neg eb).symm.trans z
        by_cases hb : b = PT
        · rw [hb] at z1 ⊢
          have z' := (if_pos rfl).symm.trans z1
          cases z'
          exact tP
        · exact (nomatch (if_neg hb).symm.trans z1)
    · by_cases eb : b = ad
      · exact .inl eb
      · by_cases hb : b = PT
        · exact .inr hb
        · exact absurd ((if_neg eb).trans (if_neg hb)) z
/-- what the head tells of the law, of the table PT of the code object cT -/
structure LawGT1 (l : PySem.W.OpenLaw) (w : World) (K : PySem.W.Frag) (k : Nat) (x : Str) (mg : Str → Option Value) (fa : Addr) (h : Heap) : Prop where
  ex : ∃ (fd : FuncData) (cT PT : Addr) (sp : Sp), h.get? PT = some { cls := .none, data := .fields #[] } ∧ K.lookup PT = none ∧ PySem.W.CodeHd h cT PT ∧ (∀ (s : Shared) (u : Value), BindsTo s fd ⟨[u], []⟩ [(x, u)]) ∧
    (∀ (H : Hp) (a : Addr) (ns : List Int), ns.length ≤ 63 → H PT = some (.tbl #[]) → SqL K H a (ns.map V.int) → sp [.ref a] H (fun v _ => v = .bl true) fun _ _ _ => False) ∧
    ∀ base : Heap, K.In base → base.Ns mainGlobals mg → (∃ o, base.get? 1 = some o) → LamX.TabB base mg cT PT → FnG l.prog w K mg base k fa fd [x] sp
theorem walkGT1 {l : PySem.W.OpenLaw} {k : Nat} {q : Program} {loose : List Str} {XP : (Str → Option Value) → Heap → Prop} {YP : World → Heap → Prop} {d : DefRec} {K : Params → PySem.W.Frag} {x : Str}
    (noImp : importsNone q = true) (most : l.most = some 63) (nodf : d.params.defaults = []) (rm : Room k callerA) (inY : ∀ (w : World) (h : Heap), YP w h → (K w.params).In h)
    (F : ∀ (w : World) (mg : Str → Option Value) (fa : Addr) (h : Heap), YP w h → (K w.params).In h → h.Ns mainGlobals mg → mg d.name = some (.ref fa) → LawGT1 l w (K w.params) k x mg fa h) : PySem.W.WalkO q loose XP YP l.row.toRowW d [] (fun f vs => PySem.call f vs) := by
  refine Att.attach_call most nodf fun w s₀ sh mg mb fa o pm cd doc a vs ns G Y ho hd hcd hmg hobj hints hlen hg => ?_
  have inK := inY w _ Y
  obtain ⟨fd, cT, PT, sp, tP, nP, hC, hb, hp, hF⟩ := (F w mg fa _ Y inK G.T.g hmg).ex
  exact lawGT1 inK G.T.g G.T.b G.T.builtins G.T.nolimit hg (let ⟨mm, h, _⟩ := (G.T.seer noImp).mods; ⟨mm, h⟩) tP nP hC G.T.bmain hobj hints (Nat.le_trans hlen (by decide)) rm hF hb (fun H hH hS => hp H a ns hlen hH hS)
end Lf
namespace Lf
open PySem PySem.Spec PyProof.Rows L2
/-! ### an own exception class over ValueError whose __init__ says super().__init__(text), self.x = x -/
/-- the context of such an __init__ at its entry -/
def cxSup (P : Program) (w : World) (K : PySem.W.Frag) (mg : Str → Option Value) (base : Heap) (N : List Str) (env : Env) (A : Around) (outer : List Env) (s : Shared) (H : Hp) : Cx where
  prog := P
  w := w
  K := K
  mg := mg
  base := base
  A := A.deeper env
  N := N
  s_0 := s
  H_0 := H
  env := env
  outer := outer
  stack := env :: outer
  ex := []
  calm := true
  fn := fun _ => false
  pn := []
  xe := fun _ _ => False
/-- what it promises -/
def spIni (C : Addr) (x : Str) : Sp := fun vs H Q _ => ∃ (a : Addr) (v : V), vs = [.ref a, v] ∧ H a = some (exo a C none) ∧
  ∀ dx, H dx = none → dx ≠ a → Q .non (upd (upd H dx (exd dx [(x, v)])) a (exo a C (some dx)))
/-- its text -/
structure IniT (x : Str) (params : Arguments) (body : List Stmt) (scope : Scope) : Prop where
  pa : ∃ ar, (params.posonlyargs ++ params.args).head? = some ar ∧ ar.arg = "self"
  bd : ∃ txt p0 p1 p2 p3 p4 p5 p6 p7 p8 p9 j, body = [.Expr (.Call (.Attribute (.Call (.Name "super" p0) [] [] p1) "__init__" p2) [.Constant (.str txt) j p3] [] p4) p5, .Assign [.Attribute (.Name "self" p6) x p7] (.Name x p8) p9] ∧
    ∃ pl : Env → Sem Bool, ∀ env : Env, eval (.Call (.Attribute (.Call (.Name "super" p0) [] [] p1) "__init__" p2) [.Constant (.str txt) j p3] [] p4) env = (do
      let ov ← attributeBase (.Call (.Name "super" p0) [] [] p1) "__init__" env (eval (.Call (.Name "super" p0) [] [] p1) env)
      standAt p2.atName
      let (f, first) ← holding [ov] (getMethod ov "__init__" (pl env))
      callWith p4 f first (backTo p4 (starEach [.Constant (.str txt) j p3] env)) [])
  ls : scope.names.lookup ("self" : Str) = some .local
  lx : scope.names.lookup x = some .local
  lc : scope.names.lookup ("__class__" : Str) = some .free
  lu : scope.names.lookup ("super" : Str) = some .globalImplicit
  nc : ∀ y ∈ scope.names, y.2 ≠ .cell
  nf : ∀ y ∈ scope.names, y.2 = .free → y.1 = "__class__"
  co : scope.isCoroutine = false
  ge : scope.isGenerator = false
  kd : scope.kind = .function
  ne : x ≠ "self"
  dx : (x == ("__debug__" : Str)) = false
  dc : (x == ("__classdict__" : Str)) = false
/-- what the written part tells of it -/
structure SupC (P : Program) (K : PySem.W.Frag) (C cda cc : Addr) (x : Str) : Prop where
  cls : OexC K C
  code : ∃ ccl cdd vs ccs file tf, K.lookup cda = some ⟨ccl, cdd, .fields vs, ccs⟩ ∧ vs[2]? = some (.str file tf) ∧ ((P.main.file : Str) == file) = true
  cell : ∃ cl cld csl, K.lookup cc = some ⟨cl, cld, .cell (some (.ref C)), csl⟩
  sub : PySem.W.mroIn K C (.ref C) = some true
  st : PySem.W.nsIn K cStatics "thirdparty.any" = some none
  sup : PySem.W.ks_superIn K C C "__init__" = some (some (.builtin "ValueError.__init__"))
  ve : PySem.W.subIn K (.ref C) (.type "ValueError") = some true
  no : PySem.W.findIn K (.ref C) x = some none
  top : (P.main.scope.names.lookup ("super" : Str)).isSome = false
theorem bt_super : bootBuiltins ("super" : Str) = Option.some (Value.type "super") := by decide +kernel
section
variable {P : Program} {w : World} {K : PySem.W.Frag} {mg : Str → Option Value} {base : Heap}
theorem fn_sup {CX : CXT} {C f cda cc : Addr} {name qual x : Str} {params : Arguments} {body : List Stmt} {scope : Scope} {dV kV doc pm ct oc : Value} {an od : Option Addr} {osl : Array (Option Value)}
    (lk : K.lookup f = some ⟨oc, od, .func (PySem.W.ksFn name qual params body scope dV kV doc pm an (.ref cda) ct cc), osl⟩) (hcd : PySem.W.codeIn K (.ref cda) qual = true) (T : IniT x params body scope) (S : SupC P K C cda cc x) (ms : mg "super" = none) :
    FnOk P w K mg base CX 1 f (PySem.W.ksFn name qual params body scope dV kV doc pm an (.ref cda) ct cc) ["self", x] (spIni C x) := by
  refine ⟨fun vs H Q E h => ?_, fun A outer s H args us vs Q E hr e0 hb r hsp => ?_⟩
  · obtain ⟨a, v, rfl, _⟩ := h
    rfl
  obtain ⟨a, v, rfl, ea, q⟩ := hsp
  obtain ⟨u, rfl, ru⟩ : ∃ u, us = [.ref a, u] ∧ RelV v u := by
    cases r with
    | cons ra r =>
      cases r with
      | cons rv r =>
        cases r
        cases ra
        exact ⟨_, rfl, rv⟩
  have KX : K.In s.heap := e0.mod.kin.keeps fun b o e => (e0.bs b o e).1
  have lim : s.heap.NoLimit := e0.mod.nolimit.keeps fun b o e => (e0.bs b o e).1
  refine ks_codeAny_call_defAt (fd := PySem.W.ksFn name qual params body scope dV kV doc pm an (.ref cda) ct cc) (body := body) hr.depth (KX _ _ lk) rfl lim (PySem.W.codeRec_of KX hcd) rfl hb T.nc (fun y hy => ?_) (fun h₀ hns hk => ?_) T.co T.ge T.kd
  · have : y = (("self" : Str), Value.ref a) ∨ y = (x, u) := by simpa using hy
    rcases this with rfl | rfl
    · exact T.ls
    · exact T.lx
  obtain ⟨txt, p0, p1, p2, p3, p4, p5, p6, p7, p8, p9, j, rfl, pl, hpl⟩ := T.bd
  obtain ⟨ar, har, ear⟩ := T.pa
  obtain ⟨cl, cld, csl, hcell⟩ := S.cell
  obtain ⟨ccl, cdd, fvs, ccs, file, tf, hcode, hvs, hfile⟩ := S.code
  show _root_.PySem.wpAt _ (A.deeper (PySem.W.ksEnv qual scope s.heap.objs.size f (.ref cda) cc)) (.func _ (PySem.W.ksEnv qual scope s.heap.objs.size f (.ref cda) cc)) (execs _ (PySem.W.ksEnv qual scope s.heap.objs.size f (.ref cda) cc)) _ _ _
  generalize hX : cxSup P w K mg base ["self", x] (PySem.W.ksEnv qual scope s.heap.objs.size f (.ref cda) cc) A outer s H = X
  have bcell : base.get? cc = some ⟨cl, cld, .cell (some (.ref C)), csl⟩ := e0.mod.kin _ _ hcell
  have luc : ∀ y c, List.lookup y [(("__class__" : Str), cc)] = some c → y = "__class__" ∧ c = cc := fun y c h => by
    rw [List.lookup_cons] at h
    by_cases hy : (y == ("__class__" : Str)) = true
    · rw [hy] at h
      exact ⟨by simpa using hy, (Option.some.inj h).symm⟩
    · rw [Bool.not_eq_true] at hy
      rw [hy] at h
      cases h
  have noA : ∀ b : Addr, b ∉ ([] : List Addr) := fun b z => nomatch z
  have I : Inv X [] [some (.ref a), some v] H { s with heap := h₀, toks := s.toks + [(("self" : Str), Value.ref a), (x, u)].length } := by
    subst hX
    refine ⟨⟨e0.mod, T.kd, rfl, rfl, Nat.le_refl _, fun y z c h1 h2 => ?_, fun y hy => ?_, fun y c z _ => (nomatch z), fun _ => hr.hd, Around.frames_deeper e0.frames, .inr ⟨rfl, rfl⟩, fun b z => absurd z (noA b), e0.bs, e0.bsz, fun b _ _ => noA b, fun b z => absurd z (noA b), e0.funs, e0.frf⟩,
      rfl, e0.bare, Un.kept hk, ⟨_, hns, fun i y v' h1 h2 h3 => ?_⟩, fun y c h => ?_, e0.hok.fresh (Nat.le_refl _), fun y c h => ?_, fun p hp => absurd (show p ∈ ([] : List (Addr × Obj)) from hp) (by simp), e0.hok.kept hk, rfl⟩
    · rw [(luc y c h1).1, (luc z c h2).1]
    · have hy : scope.names.lookup y = some .cell ∨ scope.names.lookup y = some .free := hy
      rcases hy with hy | hy
      · exact absurd rfl (T.nc _ (PySem.mem_of_lookup hy))
      · have := T.nf _ (PySem.mem_of_lookup hy) rfl
        dsimp only at this
        subst this
        exact ⟨cc, rfl⟩
    · match i, h1, h2 with
      | 0, h1, h2 =>
        cases h1
        cases h2
        refine ⟨.ref a, rfl, .inl ⟨T.ls, ?_⟩⟩
        show List.lookup _ [(x, u), ("self", .ref a)] = _
        rw [List.lookup_cons, show (("self" : Str) == x) = false by simpa using fun z => T.ne z.symm]
        rfl
      | 1, h1, h2 =>
        cases h1
        cases h2
        refine ⟨u, ru, .inl ⟨T.lx, ?_⟩⟩
        show List.lookup _ [(x, u), ("self", .ref a)] = _
        rw [List.lookup_cons, beq_self_eq_true]
    · obtain ⟨_, rfl⟩ := luc y c h
      exact ⟨_, _, hk _ _ ((e0.bs _ _ bcell).1), rfl⟩
    · obtain ⟨_, rfl⟩ := luc y c h
      exact (e0.bs _ _ bcell).2
  have eE : X.env = PySem.W.ksEnv qual scope s.heap.objs.size f (.ref cda) cc := by subst hX; rfl
  have eA : X.A = A.deeper (PySem.W.ksEnv qual scope s.heap.objs.size f (.ref cda) cc) := by subst hX; rfl
  have eP : X.prog = P ∧ X.w = w ∧ X.K = K ∧ X.mg = mg ∧ X.base = base ∧ X.N = [("self" : Str), x] ∧ X.stack = PySem.W.ksEnv qual scope s.heap.objs.size f (.ref cda) cc :: outer ∧ X.s_0 = s ∧ X.H_0 = H ∧ X.outer = outer ∧ X.ex = [] := by subst hX; exact ⟨rfl, rfl, rfl, rfl, rfl, rfl, rfl, rfl, rfl, rfl, rfl⟩
  have Z : ∀ s', (∃ σ' H', Inv X [] σ' H' s' ∧ Q .non H') → CR CX outer P w H s Q E (.ok (.ret .none)) s' := fun s' ⟨σ', H', J, q'⟩ => by
    subst hX
    exact ⟨.non, H', J.os, J.bare, J.base, J.hok, rfl, q'⟩
  have hxe : ∀ e s', X.xe e s' → False := by subst hX; exact fun _ _ z => z
  have hprog : X.prog = P := by subst hX; rfl
  have hw : X.w = w := by subst hX; rfl
  have hK : X.K = K := by subst hX; rfl
  have hmg : X.mg = mg := by subst hX; rfl
  have hN : X.N = [("self" : Str), x] := by subst hX; rfl
  subst hprog hw hK hmg
  rw [← eA, ← eE]
  obtain ⟨nm, qn, N, bs, bm, sn, sub, ab, col, dd, k0, k1, k2, k3, k5, hC, hbm⟩ := S.cls.cls
  obtain ⟨t1, ho⟩ := exo_at I.hok ea
  obtain ⟨cdD, hcl⟩ : ∃ cdD, PySem.W.clsIn X.K C = some cdD := ⟨_, by unfold PySem.W.clsIn; rw [hC] <;> rfl⟩
  have hne : ¬ (("__init__" : Str) == ("__class__" : Str)) = true := by decide
  have hbase : ∀ s', Inv X [] [some (.ref a), some v] H s' → (∃ m, s'.heap.Ns X.env.locals m ∧ m "self" = some (.ref a)) := fun s' J => by
    obtain ⟨m, hn, hl⟩ := J.loc
    obtain ⟨u', ru', lk'⟩ := hl 0 "self" (.ref a) (by rw [hN]; rfl) rfl (by rw [eE]; exact .inl T.ls)
    cases ru'
    rcases lk' with ⟨_, e⟩ | ⟨z, _⟩
    · exact ⟨m, hn, e⟩
    · rw [eE] at z
      have z : scope.names.lookup ("self" : Str) = some .cell ∨ scope.names.lookup ("self" : Str) = some .free := z
      rw [T.ls] at z
      rcases z with z | z <;> cases z
  obtain ⟨m, hn, hself⟩ := hbase _ I
  obtain ⟨mb, hb1, hb2⟩ := I.mod.blt
  have hfr : ∀ {s'} , Inv X [] [some (.ref a), some v] H s' → ∃ o, s'.heap.get? a = some o ∧ o.cls = .ref C ∧ ∀ c, o.data ≠ .cls c := fun {s'} J => by
    obtain ⟨t1, h1⟩ := exo_at J.hok ea
    exact ⟨_, h1, rfl, fun c z => by cases z⟩
  obtain ⟨oD, hD1, hD2⟩ : ∃ oD, h₀.get? C = some oD ∧ oD.data = .cls cdD := by
    unfold PySem.W.clsIn at hcl
    split at hcl
    · rename_i c d cd' sl hoo
      cases hcl
      exact ⟨_, I.kIn _ _ hoo, rfl⟩
    · cases hcl
  refine ks_wpAt_execs_cons (ks_wpAt_Expr_any (ks_wpAt_MethodCall (pl := pl X.env) ?_ (hpl X.env)) ?hi ?hs)
  case hi => exact I.quiet
  case hs => rfl
  refine ks_wpAt_super_base (env := X.env) (attr := "__init__") (f := f) (cc := cda) (fd := PySem.W.ksFn name qual params _ scope dV kV doc pm an (.ref cda) ct cc) (ar := ar) (by rw [eE]; exact T.lu) (by rw [eE]; exact T.lc) (by decide) (by rw [eE]) (I.kIn _ _ lk) rfl har (by rw [eE]) (I.kIn _ _ hcode) rfl hvs hfile S.top ?_
  refine PySem.W.ks_loadName_global I.ok.kind (by rw [eE]; exact T.lu) (Calls.loadGlobal_builtin (by rw [I.ok.glob]; exact I.mod.glob.keeps I.bk) ms (by rw [I.ok.blt]; exact hb1.keeps I.bk) ((hb2 _ (by decide)).trans bt_super) ⟨rfl, ?_⟩)
  refine wpAny_loadName_free I.ok.kind (by rw [eE]; exact T.lc) (by rw [eE]; rfl) ⟨_, I.kIn _ _ hcell, rfl⟩ ?_
  rw [ear]
  refine wpAny_loadName_local I.ok.kind (by rw [eE]; exact T.ls) hn hself ?_
  refine ks_wpAny_isType_cls hD1 hD2 ⟨rfl, ?_⟩
  refine ks_wpAny_call_super hD1 hD2 ho rfl (fun c z => by cases z) (PySem.W.looks_mroIn I.kIn S.sub) (fun h1 e1 kk1 => ?_)
  have I1 := I.kept (t' := s.toks + [(("self" : Str), Value.ref a), (x, u)].length) kk1
  have hm : PySem.W.alongIn X.K "__init__" ((cdD.mro.dropWhile (· != .ref C)).drop 1) = some (some (.builtin "ValueError.__init__")) := by
    have z := S.sup
    unfold PySem.W.ks_superIn at z
    rw [hcl, Option.bind_some] at z
    exact z
  obtain ⟨t2, ho1⟩ := exo_at I1.hok ea
  have IA : PySem.W.InstAt h1 a { cls := .ref C, dict := none, data := .fields #[.ref t2, .none, .none, .none, .bool false, .none] } C none := ⟨ho1, rfl, rfl, trivial⟩
  refine PySem.W.kxs_getMethod PySem.W.kxs_ValueError e1 (PySem.W.looks_opaque I1.kIn S.st) (l₀ := cdD.mro) (fun A Q E s k q => wpAny_bind ((PySem.W.looks_clsIn I1.kIn hcl) A _ E s k (wpAny_pure q))) rfl I1.kIn hm (IA.type.andThen (PySem.W.looks_subIn I1.kIn S.ve)) (PySem.W.ks_ne I1.kIn IA hcl) (by decide) ?_
  have I2 := I1.kept (h' := h1.push (PySem.W.kxs_mw "ValueError.__init__" a)) (t' := s.toks + [(("self" : Str), Value.ref a), (x, u)].length + 1) (fun b o e => Heap.get?_push_of_some _ e)
  have hmw : (h1.push (PySem.W.kxs_mw "ValueError.__init__" a)).get? h1.objs.size = some (PySem.W.kxs_mw "ValueError.__init__" a) := Heap.get?_push_at rfl rfl
  have I3 : Inv X [(h1.objs.size, PySem.W.kxs_mw "ValueError.__init__" a)] [some (.ref a), some v] H _ := I2.pins_of (fun p hp => by
    have hp : p = (h1.objs.size, PySem.W.kxs_mw "ValueError.__init__" a) := by simpa using hp
    subst hp
    exact ⟨hmw, I1.hok.fresh (Nat.le_refl _), fun z => absurd I1.lt (by rw [← z]; exact Nat.lt_irrefl _), I1.nofs (Nat.le_refl _), fun v z => by cases z⟩)
  have hst : starEach [Expr.Constant (Const.str txt) j p3] X.env = (false, eval (Expr.Constant (Const.str txt) j p3) X.env) :: starEach [] X.env := rfl
  refine PySem.W.kxs_callWith (i := "ValueError.__init__") (x := a) (by rfl) ?_
  show wpAny _ _ (evalArgs _ true ((false, eval (Expr.Constant (Const.str txt) j p3) X.env) :: _) []) _ _ _
  refine Calls.evalArgs_plain ?_
  have hpa : L2.PA X [Expr.Constant (Const.str txt) j p3] (tCons (tC (.str txt)) tNil) := pa_cons pe_str pa_nil
  refine thn (hpa.run p4 _ _ _ H (fun vs H' => H' = H ∧ vs = [.str txt]) I3 ⟨rfl, rfl⟩) fun us s4 ⟨vs, H4, I4, r4, eH, ev⟩ => ?_
  subst eH ev
  have hu4 := (I4.pin (h1.objs.size, PySem.W.kxs_mw "ValueError.__init__" a) (by simp)).1
  refine ⟨hu4, ?_⟩
  obtain ⟨t3, ho4⟩ := exo_at I4.hok ea
  have hlen : us.length ≤ sizeLine := by
    rw [← r4.length]
    rw [sizeLine_eq]; exact (by show 1 ≤ _; omega)
  obtain ⟨h4, g4, d4, t4, os4⟩ := s4
  refine wpAny_call (codeAny_of_tree ?_)
  show wpAny _ _ (callAny (.ref h1.objs.size) ⟨us, []⟩) _ _ _
  simp only [callAny]
  refine wpAny_bind (wpAny_load hu4 ?_)
  simp only [PySem.W.kxs_mw, show (Value.type "method-wrapper" == Value.type "method" || Value.type "method-wrapper" == Value.type "builtin_function_or_method" || Value.type "method-wrapper" == Value.type "method-wrapper") = true by decide, if_true]
  refine PySem.W.KFB.if_so (by decide) ?_
  refine wpAny_bind (PySem.W.check_bound_init F.excBase_ValueError.toExcCallFacts (I4.kIn _ _ hC) ho4 rfl ?_)
  refine wpAny_bind (wpAny_pure (wpAny_pure ?_))
  refine ⟨plainId_quiet F.excBase_ValueError.init.plain _, codeAny_builtin F.excBase_ValueError.initEntry ?_⟩
  refine PySem.W.exc_init_tree (cls := .ref C) (t0 := t3) (dv := none) (c2 := .none) (c3 := .none) (b4 := .bool false) ho4 hlen (fun h5 k5 e5 _ => ?_)
  have J5 := I4.write (t' := t4) (x := a) (e := a) (o := exo a C none) (by rw [ea]; exact True.intro) (.inl rfl) k5 ⟨_, e5⟩ (exo_ok e5)
  have eu : upd H4 a (exo a C none) = H4 := by
    funext b
    by_cases hb : b = a
    · rw [hb, upd_same, ea]
    · rw [upd_ne hb]
  rw [eu] at J5
  have J6 : Inv X [] [some (.ref a), some v] H4 _ := J5.pins_of (fun p hp => nomatch hp)
  have hps : PSs X [Stmt.Assign [(Expr.Name "self" p6).Attribute x p7] (Expr.Name x p8) p9] (tOst X.K x (tVar 0) (tVar 1)) :=
    pss_one (ps_ost (pe_var (by rw [hN]; rfl) (by rw [eE]; exact .inl T.ls) (by decide) (by decide)) (pe_var (by rw [hN]; rfl) (by rw [eE]; exact .inl T.lx) T.dx T.dc))
  show _root_.PySem.wpAt _ _ _ _ _ _ _
  refine wpAt_of_wpAny (wpAny_mono (hps.run [] _ _ H4 { nx := fun _ H' => Q .non H', rt := fun _ _ => False } J6 ?_) (fun fl s' hs => ?_) fun e s' hs => ?_)
  · exact ⟨_, rfl, _, rfl, a, C, rfl, S.cls, S.no, .inl ⟨ea, fun dx n ne => q dx n ne⟩⟩
  · cases fl with
    | ret u =>
      obtain ⟨v, σ', H', J, rv, q⟩ := hs
      exact False.elim q
    | next =>
      obtain ⟨σ', H', J, q⟩ := hs
      exact Z s' ⟨σ', H', J, q⟩
    | brk =>
      obtain ⟨_, _, _, q⟩ := hs
      exact False.elim q
    | cont =>
      obtain ⟨_, _, _, q⟩ := hs
      exact False.elim q
  · exact (hxe _ _ hs).elim
end

section
variable {P : Program} {w : World} {K : PySem.W.Frag} {mg : Str → Option Value} {base : Heap}
/-- what the top tells of such a class: at C, its __init__ at fI, its name nm, its field x -/
structure ValC (P : Program) (K : PySem.W.Frag) (mg : Str → Option Value) (C : Addr) (nm x : Str) : Prop where
  gC : mg nm = some (.ref C)
  ini : ∃ (fI cda cc : Addr) (qual : Str) (params : Arguments) (body : List Stmt) (scope : Scope) (kV doc pm ct oc : Value) (an od : Option Addr) (osl : Array (Option Value)),
    K.lookup fI = some ⟨oc, od, .func (PySem.W.ksFn "__init__" qual params body scope .none kV doc pm an (.ref cda) ct cc), osl⟩ ∧ PySem.W.codeIn K (.ref cda) qual = true ∧ IniT x params body scope ∧ SupC P K C cda cc x ∧
    PySem.W.findIn K (.ref C) "__init__" = some (some (.ref fI)) ∧ PySem.W.typeIn K (.ref fI) = some (.type "function") ∧ Binds K (PySem.W.ksFn "__init__" qual params body scope .none kV doc pm an (.ref cda) ct cc) ["self", x] []
  ms : mg "super" = none
  ex : ExcC K C
  sf : PySem.W.subIn K (.ref C) (.ref C) = some true
theorem ValC.oex {C : Addr} {nm x : Str} (T : ValC P K mg C nm x) : OexC K C := by
  obtain ⟨fI, cda, cc, qual, params, body, scope, kV, doc, pm, ct, oc, an, od, osl, _, _, _, S, _⟩ := T.ini
  exact S.cls
theorem ValC.raises {X : Cx} {C : Addr} {nm x : Str} (T : ValC P X.K X.mg C nm x) : Raises X (.ref C) := raises_own T.oex.exC T.oex.tyC
theorem ValC.meets {C : Addr} {nm x : Str} (T : ValC P K mg C nm x) : PySem.W.exmOne K (.ref C) (.ref C) = some true := PySem.W.exm_ref T.ex.hs T.ex.hd T.oex.tyC T.sf
theorem ValC.no {C : Addr} {nm x : Str} (T : ValC P K mg C nm x) : PySem.W.findIn K (.ref C) x = some none := by
  obtain ⟨fI, cda, cc, qual, params, body, scope, kV, doc, pm, ct, oc, an, od, osl, _, _, _, S, _⟩ := T.ini
  exact S.no
theorem ValC.xf {C : Addr} {nm x : Str} (T : ValC P K mg C nm x) : XfC K C := ⟨T.ex.hg, T.ex.hk, T.ex.hs, T.ex.hd⟩
theorem back_to {H1 : Hp} {a d C : Addr} {fs : List (Str × V)} (ha : H1 a = none) (hd : d ≠ a) :
    upd (del (upd (upd (upd H1 a (exo a C none)) d (exd d fs)) a (exo a C (some d))) a) d (.xd fs) = upd H1 d (.xd fs) := by
  funext b
  by_cases h1 : b = d
  · subst h1
    rw [upd_same, upd_same]
  · rw [upd_ne h1, upd_ne h1]
    by_cases h2 : b = a
    · subst h2
      rw [del_same, ha]
    · rw [del_ne h2, upd_ne h2, upd_ne h1, upd_ne h2]
/-- nm(e): the exception, its value -/
theorem pmk_val {X : Cx} {C : Addr} {nm x : Str} {e : Expr} {te : TE} {p pos : Pos} {j : Nat} (T : ValC X.prog X.K X.mg C nm x) (hr : Room j X.A) (hj : 2 ≤ j) (hg : Gl X nm) (he : PE X e te)
    (hdb : (nm == ("__debug__" : Str)) = false := by decide) (hs : starEach [e] X.env = (false, eval e X.env) :: starEach [] X.env := by rfl) :
    PMk X (.Call (.Name nm p) [e] [] pos) (tMkO C (spIni C x) [] (tCons te tNil)) := by
  obtain ⟨fI, cda, cc, qual, params, body, scope, kV, doc, pm, ct, oc, an, od, osl, lk, hcd, iT, S, fi, ti, bi⟩ := T.ini
  have F := fn_sup (P := X.prog) (w := X.w) (base := X.base) (CX := CX0) lk hcd iT S T.ms
  exact pmk_oex (X := X) (p := p) (pos := pos) (x := nm) S.cls fi ti F (hr.mono hj) bi .nil (fun _ _ _ _ _ _ _ z => z.elim) hg T.gC (pa_cons he pa_nil hs) hdb hs
theorem mkv {C : Addr} {x : Str} {v : V} {H1 : Hp} {Q : XK} (h : ∀ d, H1 d = none → Q (.ref C) (some d) (upd H1 d (.xd [(x, v)]))) : [v].length ≤ 1000 ∧ ∀ a, H1 a = none → spIni C x (.ref a :: ([v] ++ [])) (upd H1 a (exo a C none))
    (fun v H2 => v = .non ∧ ∃ (d : Addr) (fs : List (Str × V)), H2 a = some (exo a C (some d)) ∧ H2 d = some (exd d fs) ∧ H1 d = none ∧ Q (.ref C) (some d) (upd (del H2 a) d (.xd fs))) (fun _ _ _ => False) := by
  refine ⟨by show 1 ≤ 1000; decide, fun a ha => ⟨a, v, rfl, upd_same, fun dx hx hne => ⟨rfl, dx, [(x, v)], upd_same, ?_, ?_, ?_⟩⟩⟩
  · rw [upd_ne hne, upd_same]
  · rw [upd_ne hne] at hx
    exact hx
  · rw [back_to ha hne]
    rw [upd_ne hne] at hx
    exact h dx hx
/-! ### isinstance of a caught exception that has its dict -/
/-- in the suite -/
def rIsV (K : PySem.W.Frag) (D a dd : Addr) : List V → Hp → VK → Prop := fun xs H Q => ∃ (c : V) (cv : Value) (b : Bool) (fs : List (Str × V)), xs = [.ref a, c] ∧ (∀ u, RelV c u → u = cv) ∧ PySem.W.kitOne K (.ref D) cv = some b ∧ H dd = some (.xd fs) ∧ Q (.bl b) H
theorem call_isV {X : Cx} {a D dd : Addr} {oe : Obj} {pn : List (Addr × Obj)} (C : ExcC X.K D) (hz : Zc (.ref D) (some dd) oe) (hf : ∃ vs, oe.data = .fields vs) : CallR (X.suite a ((a, oe) :: pn)) (.builtin "isinstance") (rIsV X.K D a dd) := by
  intro pins s σ H xs us Q I r h
  obtain ⟨c, cv, b, fs, rfl, hcv, e, ed, q⟩ := h
  cases r with
  | cons rx rr =>
    cases rr with
    | cons rt rr =>
      cases rr
      cases rx
      obtain ⟨ge, _⟩ := I.pin (a, oe) (List.mem_append.mpr (.inl List.mem_cons_self))
      obtain ⟨vs, hv⟩ := hf
      obtain ⟨mA, hns, _⟩ := (show ObjOk X.prog X.w H s.heap dd (.xd fs) from I.hok dd _ ed)
      obtain ⟨od, _, _, ho, _⟩ := hns
      have J : PySem.W.InstAt s.heap a oe D (some od) := by
        obtain ⟨oc, od', oda, osl⟩ := oe
        obtain ⟨h1, h2⟩ := hz
        dsimp only at h1 h2 hv
        subst h1 h2 hv
        exact ⟨ge, rfl, rfl, ho⟩
      have hcl : (PySem.W.clsIn X.K D).isSome = true := by
        obtain ⟨cd, hc, _⟩ := PySem.W.any_some C.hd
        rw [hc]
        rfl
      have kx := PySem.W.kitx_exc (x := a) (ox := oe) (od := some od) hcl C.hg C.hk C.hs C.ha C.hn C.ht C.hm
      have ec := hcv _ rt
      subst ec
      exact PySem.W.kia_one kx I.kIn J e (fun z => nomatch z) fun tk => ⟨.bl b, H, I.kept (t' := tk) fun _ _ z => z, rfl, q⟩
end
end Lf
namespace Lf
open PySem PySem.Spec PyProof.Rows L2
/-! ### data of any kind -/
mutual
inductive Dv (H : Hp) : V → PyData → Prop
  | non : Dv H .non .none
  | bl (b : Bool) : Dv H (.bl b) (.bool b)
  | int (i : Int) : Dv H (.int i) (.int i)
  | str (x : Str) : Dv H (.str x) (.str x)
  | lst {a : Addr} {xs : List V} {ds : List PyData} : a ≠ 1 → H a = some (.lst xs) → DvAll H xs ds → Dv H (.ref a) (.list ds)
  | tup {a : Addr} {xs : List V} {ds : List PyData} : H a = some (.tup xs) → DvAll H xs ds → Dv H (.ref a) (.tuple ds)
  | dk0 {a : Addr} : H a = some (.dK []) → Dv H (.ref a) (.dict [])
  | dk1 {a : Addr} {x : Str} {v : V} {d : PyData} : H a = some (.dK [(Sum.inr x, v)]) → Dv H v d → Dv H (.ref a) (.dict [(.str x, d)])
inductive DvAll (H : Hp) : List V → List PyData → Prop
  | nil : DvAll H [] []
  | cons {v : V} {vs : List V} {d : PyData} {ds : List PyData} : Dv H v d → DvAll H vs ds → DvAll H (v :: vs) (d :: ds)
end
/-- what such data leans on stays -/
structure Kp (H H' : Hp) : Prop where
  l : ∀ b xs, H b = some (.lst xs) → H' b = some (.lst xs)
  t : ∀ b xs, H b = some (.tup xs) → H' b = some (.tup xs)
  d0 : ∀ b, H b = some (.dK []) → H' b = some (.dK [])
  d1 : ∀ b x v, H b = some (.dK [(Sum.inr x, v)]) → H' b = some (.dK [(Sum.inr x, v)])
theorem Fr.kp {H H' : Hp} (f : Fr H H') : Kp H H' := ⟨f.l, f.t, f.d0, fun b x v h => f.k _ _ h fun _ z => by cases z⟩
theorem ext_kp {H H' : Hp} (e : LamX.ExtN H H') : Kp H H' := ⟨fun _ _ h => e _ _ h (fun _ z => by cases z), fun _ _ h => e _ _ h (fun _ z => by cases z), fun _ h => e _ _ h (fun _ z => by cases z), fun _ _ _ h => e _ _ h (fun _ z => by cases z)⟩
mutual
theorem Dv.kp {H H' : Hp} (f : Kp H H') : ∀ (d : PyData) (v : V), Dv H v d → Dv H' v d
  | .none, _, .non => .non
  | .bool _, _, .bl b => .bl b
  | .int _, _, .int i => .int i
  | .str _, _, .str x => .str x
  | .list ds, _, .lst n h hs => .lst n (f.l _ _ h) (Dv.kpAll f ds _ hs)
  | .tuple ds, _, .tup h hs => .tup (f.t _ _ h) (Dv.kpAll f ds _ hs)
  | .dict [], _, .dk0 h => .dk0 (f.d0 _ h)
  | .dict [(.str _, d)], _, .dk1 h h2 => .dk1 (f.d1 _ _ _ h) (Dv.kp f d _ h2)
theorem Dv.kpAll {H H' : Hp} (f : Kp H H') : ∀ (ds : List PyData) (vs : List V), DvAll H vs ds → DvAll H' vs ds
  | [], _, .nil => .nil
  | d :: ds, _, .cons h hs => .cons (Dv.kp f d _ h) (Dv.kpAll f ds _ hs)
end
theorem Dv.fr {H H' : Hp} (f : Fr H H') (d : PyData) (v : V) (h : Dv H v d) : Dv H' v d := Dv.kp f.kp d v h
section
variable {X : Cx} {pins : List (Addr × Obj)} {σ : L2.St} {H : Hp} {s : Shared}
mutual
theorem Dv.reads (I : Inv X pins σ H s) : ∀ (d : PyData) (v : V) (u : Value), Dv H v d → RelV v u → ∃ as, Reads s.heap u d as ∧ sysModules ∉ as
  | .none, _, _, .non, r => by
    cases r
    exact ⟨_, Reads.none, by simp⟩
  | .bool b, _, _, .bl _, r => by
    cases r
    exact ⟨_, Reads.bool b, by simp⟩
  | .int i, _, _, .int _, r => by
    obtain ⟨t, rfl⟩ := r
    exact ⟨_, Reads.int i t, by simp⟩
  | .str x, _, _, .str _, r => by
    obtain ⟨t, rfl⟩ := r
    exact ⟨_, Reads.str x t, by simp⟩
  | .list ds, _, _, .lst n1 h hs, r => by
    cases r
    obtain ⟨its, rv, ⟨o, n, ho, hc, _, hd⟩, _⟩ := I.list (SqL.of h)
    obtain ⟨as, hr, ns⟩ := Dv.readsAll I ds _ its hs rv
    exact ⟨_, Reads.list ho hc hd hr, fun z => (List.mem_cons.mp z).elim (fun e => n1 e.symm) ns⟩
  | .tuple ds, _, _, .tup h hs, r => by
    cases r
    obtain ⟨its, rv, ⟨o, ho, hc, n, hd⟩, _⟩ := I.tuple (SqT.of h)
    obtain ⟨as, hr, ns⟩ := Dv.readsAll I ds _ its hs rv
    exact ⟨_, Reads.tuple ho hc hd hr, ns⟩
  | .dict [], _, _, .dk0 (a := a) h, r => by
    cases r
    obtain ⟨_, hne, vs, kv, o, es, ep, ho, hx, hd, hk, hp, hn⟩ := (show ObjOk X.prog X.w H s.heap a (.dK []) from I.hok a _ h)
    cases kv
    have he : es.toList = [] := by
      cases hE : es.toList with
      | nil => rfl
      | cons x y => rw [hE] at hp; cases hp
    refine ⟨_, Reads.dict (kvs := []) ho hx.1 hd (by rw [he]; exact .nil) (by rw [he]; exact .nil), ?_⟩
    intro z
    have z' : sysModules = a := by simpa using z
    rw [z'] at hne
    simp at hne
  | .dict [(.str x, d)], _, _, .dk1 (a := a) (v := v) h h2, r => by
    cases r
    obtain ⟨_, hne, vs, kv, o, es, ep, ho, hx, hd, hk, hp, hn⟩ := (show ObjOk X.prog X.w H s.heap a (.dK [(Sum.inr x, v)]) from I.hok a _ h)
    cases kv with
    | @cons _ q _ _ k1 k2 =>
      cases k2
      obtain ⟨qk, qv⟩ := q
      obtain ⟨ek, rv⟩ := k1
      dsimp only at ek rv
      subst ek
      obtain ⟨as, hr, ns⟩ := Dv.reads I d v qv h2 rv
      have hE : ∃ e t, es.toList = [e] ∧ e.key = .str x t ∧ e.val = qv := by
        generalize es.toList = l at hp
        cases hp with
        | @cons e _ es' _ hi hv hr =>
          cases hr
          rcases keyIs_shape (show keyIs (Sum.inr x) e.key = true from hi) with ⟨i, t, z, _⟩ | ⟨y, t, z, ev⟩
          · cases z
          · cases z
            exact ⟨e, t, rfl, ev, hv⟩
      obtain ⟨e, t, hE1, hE2, hE3⟩ := hE
      have q1 : ReadsAll s.heap (es.toList.map (·.key)) [PyData.str x] ([] ++ []) := by
        rw [hE1]
        simp only [List.map_cons, List.map_nil]
        rw [hE2]
        exact .cons (Reads.str x t) .nil
      have q2 : ReadsAll s.heap (es.toList.map (·.val)) [d] (as ++ []) := by
        rw [hE1]
        simp only [List.map_cons, List.map_nil]
        rw [hE3]
        exact .cons hr .nil
      refine ⟨_, Reads.dict (kvs := [(.str x, d)]) ho hx.1 hd q1 q2, fun z => ?_⟩
      have z' : sysModules = a ∨ sysModules ∈ as := by simpa using z
      rcases z' with z' | z'
      · rw [z'] at hne
        simp at hne
      · exact ns z'
theorem Dv.readsAll (I : Inv X pins σ H s) : ∀ (ds : List PyData) (vs : List V) (us : List Value), DvAll H vs ds → Vals vs us → ∃ as, ReadsAll s.heap us ds as ∧ sysModules ∉ as
  | [], _, _, .nil, r => by
    cases r
    exact ⟨_, ReadsAll.nil, by simp⟩
  | d :: ds, _, _, .cons h1 h2, r => by
    cases r with
    | cons r1 r2 =>
      obtain ⟨as, q1, n1⟩ := Dv.reads I d _ _ h1 r1
      obtain ⟨bs, q2, n2⟩ := Dv.readsAll I ds _ _ h2 r2
      exact ⟨_, ReadsAll.cons q1 q2, fun z => (List.mem_append.mp z).elim n1 n2⟩
end
end
/-- repr of such data -/
theorem repr_any {X : Cx} (gd : X.A.guards = some []) (hu : X.A.units + 70 < cLine) : CallR X (.builtin "repr") (fun xs H Q => ∃ (v : V) (d : PyData), xs = [v] ∧ Dv H v d ∧ d.showable = true ∧ d.depth ≤ 60 ∧ d.shown.length ≤ sizeLine ∧ Q (.str d.shown) H) := by
  intro pins s σ H xs us Q I rel h
  obtain ⟨v, d, rfl, dp, sw, dd, sz, hq⟩ := h
  obtain ⟨u, hu1, ru⟩ := vals1 rel
  subst hu1
  obtain ⟨as, rd, hsm⟩ := Dv.reads I d v u dp ru
  have big : ∀ a, u = Value.ref a → wpAny (model X.prog X.w) X.A (call (.builtin "repr") [u]) (EP X pins σ Q) X.xe s := fun a ea => by
    subst ea
    refine repr_of_reads' rd sw (fun _ => hsm) gd (by omega) (fun _ _ e => e) (fun h' u tk hk => ?_) sz
    exact ⟨.str d.shown, H, I.kept hk, ⟨u, rfl⟩, hq⟩
  cases dp with
  | non =>
    have eu : u = Value.none := ru
    subst eu
    exact PySem.P.repr_of_none ⟨.str "None", H, I.tok _, ⟨_, rfl⟩, hq⟩
  | bl b =>
    have eu : u = Value.bool b := ru
    subst eu
    refine PySem.P.repr_of_bool ⟨.str (if b then "True" else "False"), H, I.tok _, ⟨_, rfl⟩, ?_⟩
    cases b <;> exact hq
  | int i =>
    obtain ⟨t, rfl⟩ := ru
    refine PySem.P.repr_of_int (by simpa [PyData.showable] using sw) ⟨.str (toString i), H, I.tok _, ⟨_, rfl⟩, hq⟩
  | str x =>
    obtain ⟨t, rfl⟩ := ru
    exact PySem.P.repr_of_str ⟨.str (reprText x), H, I.tok _, ⟨_, rfl⟩, hq⟩ sz
  | lst _ h hs => exact big _ ru
  | tup h hs => exact big _ ru
  | dk0 h => exact big _ ru
  | dk1 h h2 => exact big _ ru
/-- the name of its type -/
def tyN : PyData → String
  | .none => "NoneType"
  | .bool _ => "bool"
  | .int _ => "int"
  | .str _ => "str"
  | .list _ => "list"
  | .tuple _ => "tuple"
  | .dict _ => "dict"
def isB : PyData → Bool
  | .bool _ => true
  | _ => false
def isIB : PyData → Bool
  | .bool _ => true
  | .int _ => true
  | _ => false
/-- an integer, not a bool -/
def isI : PyData → Bool
  | .int _ => true
  | _ => false
theorem Dv.ty {K : PySem.W.Frag} {H : Hp} {v : V} {d : PyData} (h : Dv H v d) : TyX K H v (.type (tyN d)) := by
  cases h with
  | non => exact .base .non
  | bl b => exact .base (.bl b)
  | int i => exact .base (.int i)
  | str x => exact .base (.str x)
  | lst _ h _ => exact .base (.lst h)
  | tup h _ => exact .base (.tup h)
  | dk0 h => exact .base (.dK h)
  | dk1 h _ => exact .base (.dK h)
theorem kit_int (d : PyData) : kitB (tyN d) "int" = some (isIB d) := by
  cases d
  · show kitB "NoneType" "int" = some false; decide +kernel
  · show kitB "bool" "int" = some true; decide +kernel
  · show kitB "int" "int" = some true; decide +kernel
  · show kitB "str" "int" = some false; decide +kernel
  · show kitB "list" "int" = some false; decide +kernel
  · show kitB "tuple" "int" = some false; decide +kernel
  · show kitB "dict" "int" = some false; decide +kernel
theorem kit_bool (d : PyData) : kitB (tyN d) "bool" = some (isB d) := by
  cases d
  · show kitB "NoneType" "bool" = some false; decide +kernel
  · show kitB "bool" "bool" = some true; decide +kernel
  · show kitB "int" "bool" = some false; decide +kernel
  · show kitB "str" "bool" = some false; decide +kernel
  · show kitB "list" "bool" = some false; decide +kernel
  · show kitB "tuple" "bool" = some false; decide +kernel
  · show kitB "dict" "bool" = some false; decide +kernel
/-- a new list is not where the modules are -/
def tLst1 (t : TA) : TE := fun σ H Q => t σ H fun xs H1 => xs.length ≤ sizeLine ∧ ∀ l, H1 l = none → l ≠ 1 → Q (.ref l) (upd H1 l (.lst xs))
theorem pe_lst1 {X : Cx} {es : List Expr} {t : TA} {pos : Pos} (h : L2.PA X es t) : PE X (.List es pos) (tLst1 t) := by
  constructor
  intro pins s σ H Q I hq
  refine wpAny_List_spliced (thn (h.run pos pins s σ H _ I hq) fun us s1 ⟨xs, H1, J, r, z, q⟩ => ?_)
  refine ⟨r.length ▸ z, ?_⟩
  have fresh := J.hok.fresh (Nat.le_refl s1.heap.objs.size)
  have n1 : s1.heap.objs.size ≠ 1 := by
    obtain ⟨o, _, _, e, _⟩ := J.mod.glob
    have lt := Heap.lt_size (J.bk _ _ e)
    intro c
    rw [c] at lt
    exact absurd lt (by decide)
  refine ⟨.ref s1.heap.objs.size, upd H1 s1.heap.objs.size (.lst xs), ?_, rfl, q _ fresh n1⟩
  exact J.laid (t' := s1.toks) (fun b u e => Heap.get?_push_of_some _ e) (Nat.le_refl _) ⟨z, us, 0, r, Heap.get?_push_size _ rfl⟩
end Lf
namespace Lf
open PySem PySem.Spec PyProof.Rows L2
/-! ### data of any kind at any address: where the modules are known to stand, nothing tracked is there -/
mutual
inductive DvF (H : Hp) : V → PyData → Prop
  | non : DvF H .non .none
  | bl (b : Bool) : DvF H (.bl b) (.bool b)
  | int (i : Int) : DvF H (.int i) (.int i)
  | str (x : Str) : DvF H (.str x) (.str x)
  | lst {a : Addr} {xs : List V} {ds : List PyData} : H a = some (.lst xs) → DvFAll H xs ds → DvF H (.ref a) (.list ds)
  | tup {a : Addr} {xs : List V} {ds : List PyData} : H a = some (.tup xs) → DvFAll H xs ds → DvF H (.ref a) (.tuple ds)
  | dk0 {a : Addr} : H a = some (.dK []) → DvF H (.ref a) (.dict [])
  | dk1 {a : Addr} {x : Str} {v : V} {d : PyData} : H a = some (.dK [(Sum.inr x, v)]) → DvF H v d → DvF H (.ref a) (.dict [(.str x, d)])
inductive DvFAll (H : Hp) : List V → List PyData → Prop
  | nil : DvFAll H [] []
  | cons {v : V} {vs : List V} {d : PyData} {ds : List PyData} : DvF H v d → DvFAll H vs ds → DvFAll H (v :: vs) (d :: ds)
end
mutual
theorem DvF.dv {H : Hp} (n : H 1 = none) : ∀ (d : PyData) (v : V), DvF H v d → Dv H v d
  | .none, _, .non => .non
  | .bool _, _, .bl b => .bl b
  | .int _, _, .int i => .int i
  | .str _, _, .str x => .str x
  | .list ds, _, .lst (a := a) h hs => .lst (fun e => by subst e; rw [n] at h; cases h) h (DvFAll.dv n ds _ hs)
  | .tuple ds, _, .tup h hs => .tup h (DvFAll.dv n ds _ hs)
  | .dict [], _, .dk0 h => .dk0 h
  | .dict [(.str _, d)], _, .dk1 h g => .dk1 h (DvF.dv n d _ g)
theorem DvFAll.dv {H : Hp} (n : H 1 = none) : ∀ (ds : List PyData) (vs : List V), DvFAll H vs ds → DvAll H vs ds
  | [], _, .nil => .nil
  | d :: ds, _, .cons h hs => .cons (DvF.dv n d _ h) (DvFAll.dv n ds _ hs)
end
theorem dvf_ints {H : Hp} : ∀ ns : List Int, DvFAll H (ns.map V.int) (ns.map PyData.int)
  | [] => .nil
  | _ :: r => .cons (.int _) (dvf_ints r)
/-- repr of such data, where the base has the table of modules -/
theorem repr_any1 {X : Cx} (h1 : ∃ o, X.base.get? 1 = some o) (gd : X.A.guards = some []) (hu : X.A.units + 70 < cLine) : CallR X (.builtin "repr") (fun xs H Q => ∃ (v : V) (d : PyData), xs = [v] ∧ DvF H v d ∧ d.showable = true ∧ d.depth ≤ 60 ∧ d.shown.length ≤ sizeLine ∧ Q (.str d.shown) H) := by
  intro pins s σ H xs us Q I rel h
  obtain ⟨v, d, e, dp, sw, dd, sz, hq⟩ := h
  obtain ⟨o, ho⟩ := h1
  exact repr_any gd hu pins s σ H xs us Q I rel ⟨v, d, e, DvF.dv (I.bs 1 o ho).2 d v dp, sw, dd, sz, hq⟩
end Lf
namespace Lf
open PySem PySem.Spec PyProof.Rows L2
section
variable {P : Program} {w : World} {K : PySem.W.Frag} {mg : Str → Option Value} {base : Heap}
/-! ### _law_draw -/
theorem at_mod (cs : List Int) (t : Int) (h : cs ≠ []) : ∃ c, atI (cs.map V.int) (t % ((cs.map V.int).length : Int)) = some (.int c) := by
  have hl : 0 < cs.length := List.length_pos_iff.mpr h
  rw [List.length_map]
  have h0 := Int.emod_nonneg t (show (cs.length : Int) ≠ 0 by omega)
  have h1 := Int.emod_lt_of_pos t (show (0 : Int) < cs.length by omega)
  generalize t % (cs.length : Int) = i at h0 h1
  obtain ⟨j, rfl⟩ := Int.eq_ofNat_of_zero_le h0
  have hj : j < cs.length := by omega
  refine ⟨cs[j], atI_nat ?_⟩
  rw [List.getElem?_map, List.getElem?_eq_getElem hj]
  rfl
theorem dp_ints {K : PySem.W.Frag} {H : Hp} : ∀ cs : List Int, DpAll K H (cs.map V.int) (cs.map PyData.int)
  | [] => .nil
  | c :: r => .cons (.int c) (dp_ints r)
theorem sh_ints (cs : List Int) : SeqAt.shaped (.list (cs.map PyData.int)) = true := by
  have h : ∀ cs : List Int, PyData.canLayAll0 (cs.map PyData.int) = true ∧ PyData.depthAll (cs.map PyData.int) = 0 := by
    intro cs
    induction cs with
    | nil => exact ⟨rfl, rfl⟩
    | cons c r ih => exact ⟨by simpa [PyData.canLayAll0, PyData.canLay0] using ih.1, by simpa [PyData.depthAll, PyData.depth] using ih.2⟩
  simp [SeqAt.shaped, PyData.canLay0, PyData.depth, (h cs).1, (h cs).2]
def spDraw : Sp := fun vs H Q _ => ∃ (a : PA) (n : Nat) (many : Int), vs = [.ref a, .int many] ∧ Pen H a n ∧ n < 2 ^ 40 ∧ 0 < many ∧ Bd 9000 many ∧
  ∀ d H', 0 ≤ d → d < many → Pen H' a (n + 1) → Fr H H' → Q (.int d) H'
end
end Lf
namespace Lf
open PySem PySem.Spec PyProof.Rows L2
section
variable {P : Program} {w : World} {K : PySem.W.Frag} {mg : Str → Option Value} {base : Heap}
theorem at_primes (t : Int) : ∃ pr : Int, atI ([.int 2147483647, .int 2147483629, .int 2147483587, .int 2147483579, .int 2147483563] : List V) (t % 5) = some (V.int pr) ∧ 0 < pr ∧ pr < 2147483648 := by
  have h0 := Int.emod_nonneg t (show (5 : Int) ≠ 0 by decide)
  have h1 := Int.emod_lt_of_pos t (show (0 : Int) < 5 by decide)
  generalize t % 5 = i at h0 h1
  obtain ⟨j, rfl⟩ := Int.eq_ofNat_of_zero_le h0
  have hj : j < 5 := by omega
  match j, hj with
  | 0, _ => exact ⟨_, atI_nat (j := 0) rfl, by decide, by decide⟩
  | 1, _ => exact ⟨_, atI_nat (j := 1) rfl, by decide, by decide⟩
  | 2, _ => exact ⟨_, atI_nat (j := 2) rfl, by decide, by decide⟩
  | 3, _ => exact ⟨_, atI_nat (j := 3) rfl, by decide, by decide⟩
  | 4, _ => exact ⟨_, atI_nat (j := 4) rfl, by decide, by decide⟩
abbrev s_l_draw : Stmt := topS 20
abbrev N_l_draw : List Str := ["_law_pen_here", "_law_many", "_law_digit", "_law_turn", "_law_cell", "_law_primes", "_law_prime", "_law_drawn"]
abbrev P_l_draw : List Str := ["_law_pen_here", "_law_many"]
theorem sc_l_draw : FnScope N_l_draw P_l_draw (defScope s_l_draw) := ⟨rfl, rfl, rfl, by decide +kernel, rfl, by decide +kernel, by decide +kernel⟩
theorem ok_l_draw (D : Df K mg "_law_draw" s_l_draw P_l_draw) (B : Bi mg) : C8.Cal P w K mg base 1 "_law_draw" spDraw [] := by
  refine cal_of D sc_l_draw (fun vs H Q E h => ?_) (fun f cdv A outer s H vs Q E hr h => ?_)
  · obtain ⟨a, n, many, rfl, _⟩ := h
    rfl
  · obtain ⟨⟨a, l⟩, n, many, rfl, hP, hn, h0, hb, q⟩ := h
    have hu := hu_of hr
    have hd : CDivW 0 many := ⟨h0, hb.log (by decide)⟩
    obtain ⟨cs, t, r, ea, el, hl, ht0, htn, hr0⟩ := hP.ex
    have ea : H a = some (.dK (penD l t r)) := ea
    have el : H l = some (.lst (cs.map V.int)) := el
    refine ⟨_, (pss_cons (ps_if (pt_cmpR op_gt (pe_dget hu (pv 0) pe_str (fun _ _ => rfl)) pe_int (nomark _))
      (pss_cons (ps_set (i := 2) sc_l_draw.nd rfl (Or.inl rfl) (pe_op op_mod (pe_dget hu (pv 0) pe_str (fun _ _ => rfl)) (pv 1)))
    (pss_cons (ps_dput hu (pv 0) pe_str (pe_op op_fdivW (pe_dget hu (pv 0) pe_str (fun _ _ => rfl)) (pv 1)) rfl)
    (pss_one (ps_ret (pv 2)))))
      pss_nil)
    (pss_cons (ps_set (i := 3) sc_l_draw.nd rfl (Or.inl rfl) (pe_dget hu (pv 0) pe_str (fun _ _ => rfl)))
    (pss_cons (ps_dput hu (pv 0) pe_str (pe_op op_add (pv 3) pe_int) rfl)
    (pss_cons (ps_set (i := 4) sc_l_draw.nd rfl (Or.inl rfl) (pe_op op_add (pe_op op_mul pe_int (pv 3)) pe_int))
    (C8.pss_cut (ps_if (pt_cmpR (op_neD hr.units) (pe_dget hu (pv 0) pe_str (fun _ _ => rfl)) (pe_lst pa_nil) (nomark _))
      (pss_one (ps_set (i := 4) sc_l_draw.nd rfl (Or.inl rfl) (pe_ix (r := rIxL K) ix_list (pe_dget hu (pv 0) pe_str (fun _ _ => rfl)) (pe_op op_mod (pv 3) (pe_callB (call_len_seq) (by rfl) B.len_ bt_len (pa_cons (pe_dget hu (pv 0) pe_str (fun _ _ => rfl)) pa_nil))) (fun _ _ => rfl))))
      pss_nil)
    (C8.pss_cut (ps_if (PW.pt (pw_and (pt_cmpR op_lt (pv 3) (pe_callB (call_len_seq) (by rfl) B.len_ bt_len (pa_cons (pe_dget hu (pv 0) pe_str (fun _ _ => rfl)) pa_nil)) (nomark _)) (pw_and1 (pt_cmpR op_ge (pe_callB (call_abs) (by rfl) B.abs_ bt_abs (pa_cons (pv 4) pa_nil)) (pe_op op_pow pe_int pe_int) (nomark _)))))
      (pss_cons (ps_dput hu (pv 0) pe_str (pe_op op_fdivW (pe_op op_sub (pe_callB (call_abs) (by rfl) B.abs_ bt_abs (pa_cons (pv 4) pa_nil)) (pe_op op_pow pe_int pe_int)) (pv 1)) rfl)
    (pss_one (ps_ret (pe_op op_mod (pe_op op_sub (pe_callB (call_abs) (by rfl) B.abs_ bt_abs (pa_cons (pv 4) pa_nil)) (pe_op op_pow pe_int pe_int)) (pv 1)))))
      pss_nil)
    (pss_cons (ps_set (i := 5) sc_l_draw.nd rfl (Or.inl rfl) (pe_lst (pa_cons pe_int (pa_cons pe_int (pa_cons pe_int (pa_cons pe_int (pa_cons pe_int pa_nil)))))))
    (pss_cons (ps_set (i := 6) sc_l_draw.nd rfl (Or.inl rfl) (pe_ix (r := rIxL K) ix_list (pv 5) (pe_op op_mod (pv 3) pe_int) (fun _ _ => rfl)))
    (pss_cons (ps_set (i := 7) sc_l_draw.nd rfl (Or.inl rfl) (pe_op op_mod (pe_op op_add (pe_op op_add (pe_op op_mul (pe_op op_mod (pv 4) (pv 6)) pe_int) (pe_op op_mul (pe_op op_mul pe_int (pv 3)) (pv 3))) pe_int) (pv 6)))
    (pss_cons (ps_set (i := 7) sc_l_draw.nd rfl (Or.inl rfl) (pe_op op_mod (pe_op op_mul (pv 7) (pe_op op_add (pv 7) pe_int)) (pe_ix (r := rIxL K) ix_list (pv 5) (pe_op op_mod (pe_op op_add (pv 3) pe_int) pe_int) (fun _ _ => rfl))))
    (pss_one (ps_ret (pe_op op_mod (pe_op op_fdiv (pe_op op_mod (pe_op op_mul (pv 7) (pv 7)) pe_int) pe_int) (pv 1)))))))))))))), ?_⟩
    -- rest > 0
    refine ⟨_, rfl, a, _, rfl, dg_rest ea, _, _, rfl, rfl, _, rfl, ite2 (fun e => ?_) (fun e => ?_)⟩
    · refine ⟨_, rfl, a, _, rfl, dg_rest ea, _, rfl, _, _, rfl, rfl, h0, ?_⟩
      refine ⟨_, rfl, a, _, rfl, dg_rest ea, _, rfl, _, _, rfl, rfl, hd, _, rfl, a, _, rfl, dp_rest ea, ?_⟩
      refine ⟨_, rfl, ?_⟩
      exact q _ _ (Int.emod_nonneg _ (by omega)) (Int.emod_lt_of_pos _ h0) (Pen.put ea el hl ht0 (by omega) (Int.ediv_nonneg hr0 (by omega))) (Fr.dict ea)
    · -- turn = ..; turn + 1; 43 * turn + 19
      refine ⟨_, rfl, a, _, rfl, dg_turn ea, ?_⟩
      refine ⟨_, rfl, _, _, rfl, rfl, _, rfl, a, _, rfl, dp_turn ea, ?_⟩
      have ea1 : upd H a (.dK (penD l (t + 1) r)) a = some (.dK (penD l (t + 1) r)) := upd_same
      have nla : l ≠ a := ne_of el ea (by intro z; cases z)
      have el1 : upd H a (.dK (penD l (t + 1) r)) l = some (.lst (cs.map V.int)) := by rw [upd_ne nla]; exact el
      have f1 : Fr H (upd H a (.dK (penD l (t + 1) r))) := Fr.dict ea
      generalize upd H a (.dK (penD l (t + 1) r)) = H1 at ea1 el1 f1
      refine ⟨_, rfl, _, _, rfl, rfl, .inl ⟨by decide, by decide⟩, _, _, rfl, rfl, ?_⟩
      refine ⟨fun σ' H' => ∃ c : Int, σ' = [some (.ref a), some (.int many), none, some (.int t), some (.int c), none, none, none] ∧ Same H1 H', ?_, ?_⟩
      · refine ⟨_, rfl, a, _, rfl, dg_cells ea1, Nat.zero_le _, fun p np => ?_⟩
        have s1 : Same H1 (upd H1 p (.lst [])) := sm_upd np
        refine ⟨.list (cs.map PyData.int), .list [], Dp.lst (SqL.of (s1 _ _ el1)) (dp_ints cs), Dp.lst (SqL.of upd_same) .nil, sh_ints cs, rfl, _, rfl, ?_⟩
        by_cases hc : cs = []
        · subst hc
          refine iteF ?_
          exact ⟨_, rfl, s1⟩
        · obtain ⟨c, r', rfl⟩ : ∃ c r', cs = c :: r' := by
            cases cs with
            | nil => exact absurd rfl hc
            | cons c r' => exact ⟨c, r', rfl⟩
          refine iteT ?_
          obtain ⟨v, hv⟩ := at_mod (c :: r') t hc
          refine ⟨_, rfl, a, _, rfl, dg_cells (s1 _ _ ea1), _, rfl, _, rfl, a, _, rfl, dg_cells (s1 _ _ ea1), l, _, rfl, .inl (SqL.of (s1 _ _ el1)), _, _, rfl, rfl, ?_, l, _, _, _, rfl, rfl, SqL.of (s1 _ _ el1), hv, ?_⟩
          · show (0 : Int) < (((c :: r').map V.int).length : Int)
            rw [List.length_map, List.length_cons]
            omega
          · exact ⟨v, rfl, s1⟩
      · rintro σ' H2 ⟨c, rfl, s2⟩
        have ea2 := s2 _ _ ea1
        have el2 := s2 _ _ el1
        have f2 : Fr H H2 := f1.trans (Fr.same s2)
        refine ⟨fun σ' H' => σ' = [some (.ref a), some (.int many), none, some (.int t), some (.int c), none, none, none] ∧ H' = H2, ?_, ?_⟩
        · refine ⟨_, rfl, _, rfl, a, _, rfl, dg_cells ea2, l, _, rfl, .inl (SqL.of el2), _, _, rfl, rfl, _, rfl, ite2 (fun e1 => ?_) (fun e1 => ?_)⟩
          · refine ⟨_, rfl, _, rfl, _, _, rfl, rfl, ⟨by decide, by decide, by decide⟩, _, _, rfl, rfl, _, rfl, ite2 (fun e2 => ?_) (fun e2 => ?_)⟩
            · have e3 := of_decide_eq_true e2
              refine ⟨_, rfl, _, rfl, _, _, rfl, rfl, ⟨by decide, by decide, by decide⟩, _, _, rfl, rfl, _, rfl, _, _, rfl, rfl, hd, _, rfl, a, _, rfl, dp_rest ea2, ?_⟩
              refine ⟨_, rfl, _, rfl, _, _, rfl, rfl, ⟨by decide, by decide, by decide⟩, _, _, rfl, rfl, _, rfl, _, _, rfl, rfl, h0, ?_⟩
              exact q _ _ (Int.emod_nonneg _ (by omega)) (Int.emod_lt_of_pos _ h0) (Pen.put ea2 el2 hl (by omega) (by omega) (Int.ediv_nonneg (by omega) (by omega))) (f2.trans (Fr.dict ea2))
            · exact ⟨rfl, rfl⟩
          · exact iteF ⟨rfl, rfl⟩
        · rintro σ' H' ⟨rfl, rfl⟩
          refine ⟨by show 5 ≤ sizeLine; exact Nat.le_of_lt (small1000 (by decide)), fun p np => ?_⟩
          have s3 := sm_upd (o := .lst [.int 2147483647, .int 2147483629, .int 2147483587, .int 2147483579, .int 2147483563]) np
          obtain ⟨pr, hp, hp0, hp1⟩ := at_primes t
          obtain ⟨pr2, hp2, hp20, hp21⟩ := at_primes (t + 2)
          refine ⟨_, rfl, _, rfl, _, _, rfl, rfl, (by show (0 : Int) < 5; decide), p, _, _, _, rfl, rfl, SqL.of upd_same, hp, ?_⟩
          refine ⟨_, rfl, _, rfl, _, _, rfl, rfl, hp0, _, _, rfl, rfl, .inr ⟨by decide, by decide⟩, _, rfl, _, _, rfl, rfl, .inl ⟨by decide, by decide⟩, _, rfl, _, _, rfl, rfl, .inr ⟨by omega, by omega⟩, _, _, rfl, rfl, _, _, rfl, rfl, _, rfl, _, _, rfl, rfl, hp0, ?_⟩
          have d0 := Int.emod_nonneg (c % pr * 48271 + 40609 * t * t + 23) (show pr ≠ 0 by omega)
          have d1 := Int.emod_lt_of_pos (c % pr * 48271 + 40609 * t * t + 23) hp0
          refine ⟨_, rfl, _, rfl, _, _, rfl, rfl, _, _, rfl, rfl, .inl ⟨by omega, by omega⟩, _, rfl, _, rfl, _, _, rfl, rfl, _, _, rfl, rfl, (by show (0 : Int) < 5; decide), p, _, _, _, rfl, rfl, SqL.of upd_same, hp2, _, _, rfl, rfl, hp20, ?_⟩
          have d20 := Int.emod_nonneg ((c % pr * 48271 + 40609 * t * t + 23) % pr * ((c % pr * 48271 + 40609 * t * t + 23) % pr + 69621)) (show pr2 ≠ 0 by omega)
          have d21 := Int.emod_lt_of_pos ((c % pr * 48271 + 40609 * t * t + 23) % pr * ((c % pr * 48271 + 40609 * t * t + 23) % pr + 69621)) hp20
          refine ⟨_, rfl, _, rfl, _, _, rfl, rfl, .inl ⟨by omega, by omega⟩, _, _, rfl, rfl, (by show (0 : Int) < 2147483549; decide), _, _, rfl, rfl, ⟨by decide, by decide⟩, _, rfl, _, _, rfl, rfl, h0, ?_⟩
          have hP2 : Pen H' ⟨a, l⟩ (n + 1) := ⟨cs, t + 1, r, ea2, el2, hl, by omega, by omega, hr0⟩
          exact q _ _ (Int.emod_nonneg _ (by omega)) (Int.emod_lt_of_pos _ h0) (hP2.new np) (f2.trans (Fr.new np))
end
end Lf
namespace Lf
open PySem PySem.Spec PyProof.Rows L2
section
variable {P : Program} {w : World} {K : PySem.W.Frag} {mg : Str → Option Value} {base : Heap}
/-! ### _law_pick -/
def spPick : Sp := fun vs H Q _ => ∃ (a : PA) (l : Addr) (n : Nat) (xs : List V), vs = [.ref a, .ref l] ∧ Pen H a n ∧ n < 2 ^ 40 ∧ H l = some (.lst xs) ∧ xs ≠ [] ∧ xs.length ≤ 1000 ∧
  ∀ x H', x ∈ xs → Pen H' a (n + 1) → Fr H H' → Q x H'
abbrev s_l_pick : Stmt := topS 21
abbrev N_l_pick : List Str := ["_law_pen_here", "_law_options"]
abbrev P_l_pick : List Str := ["_law_pen_here", "_law_options"]
theorem sc_l_pick : FnScope N_l_pick P_l_pick (defScope s_l_pick) := ⟨rfl, rfl, rfl, by decide +kernel, rfl, by decide +kernel, by decide +kernel⟩
theorem ok_l_pick (D : Df K mg "_law_pick" s_l_pick P_l_pick) (B : Bi mg) (c_l_draw : C8.Cal P w K mg base 1 "_law_draw" spDraw []) : C8.Cal P w K mg base 2 "_law_pick" spPick [] := by
  refine cal_of D sc_l_pick (fun vs H Q E h => ?_) (fun f cdv A outer s H vs Q E hr h => ?_)
  · obtain ⟨a, l, n, xs, rfl, _⟩ := h
    rfl
  · obtain ⟨a, l, n, xs, rfl, hP, hn, el, hx, hxl, q⟩ := h
    have hu := hu_of hr
    refine ⟨_, (pss_one (ps_ret (pe_ix (r := rIxL K) ix_list (pv 1) (C8.pe_c c_l_draw hr (by decide) (by rfl) (pa_cons (pv 0) (pa_cons (pe_callB (call_len_seq) (by rfl) B.len_ bt_len (pa_cons (pv 1) pa_nil)) pa_nil))) (fun _ _ => rfl)))), ?_⟩
    have hl : 0 < xs.length := List.length_pos_iff.mpr hx
    refine ⟨_, rfl, _, rfl, _, rfl, l, _, rfl, .inl (SqL.of el), a, n, _, rfl, hP, hn, by omega, Bd.small 20 (by omega) (by decide), fun d H' d0 d1 hP' f' => ?_⟩
    obtain ⟨j, rfl⟩ := Int.eq_ofNat_of_zero_le d0
    have hj : j < xs.length := by omega
    refine ⟨l, _, _, _, rfl, rfl, SqL.of (f'.l _ _ el), atI_nat (List.getElem?_eq_getElem hj), ?_⟩
    exact q _ _ (List.getElem_mem hj) hP' f'
end
end Lf
namespace Lf
open PySem PySem.Spec PyProof.Rows L2
theorem Bd.grow {k : Nat} {r d : Int} (h0 : 0 ≤ r) (h : Bd k r) (d0 : 0 ≤ d) (d1 : d < 10 ^ 6) : Bd (k + 20) (r * 10 ^ 6 + d) := by
  unfold Bd at *
  have e : (2 : Nat) ^ (k + 20) = 2 ^ k * 1048576 := by rw [Nat.pow_add]
  rw [e]
  generalize (2 : Nat) ^ k = m at h
  omega
/-- a rule, its numbers within k bits -/
structure RuleB (k : Nat) (p q c : Int) : Prop where
  p0 : 0 ≤ p
  q1 : 1 ≤ q
  g : Int.gcd p q = 1
  bp : Bd k p
  bq : Bd k q
  bc : Bd k c
theorem RuleB.mono {k j : Nat} {p q c : Int} (h : RuleB k p q c) (e : k ≤ j) : RuleB j p q c := ⟨h.p0, h.q1, h.g, h.bp.mono e, h.bq.mono e, h.bc.mono e⟩
theorem gcd_pos {p q : Int} (h : 1 ≤ q) : 0 < (Int.gcd p q : Int) := by
  have : 0 < Int.gcd p q := Int.gcd_pos_of_ne_zero_right _ (by omega)
  omega
theorem gcd_le {p q : Int} (h : 1 ≤ q) : (Int.gcd p q : Int) ≤ q := Int.le_of_dvd (by omega) (Int.gcd_dvd_right ..)
theorem low_rule {k : Nat} {p q c : Int} (h0 : 0 ≤ p) (h1 : 1 ≤ q) (bp : Bd k p) (bq : Bd k q) (bc : Bd k c) : RuleB k (p / (Int.gcd p q : Int)) (q / (Int.gcd p q : Int)) (c / (Int.gcd p q : Int)) := by
  have hg := gcd_pos (p := p) h1
  refine ⟨Int.ediv_nonneg h0 (by omega), ?_, ?_, bp.ediv hg, bq.ediv hg, bc.ediv hg⟩
  · exact Int.le_ediv_of_mul_le hg (by rw [Int.one_mul]; exact gcd_le h1)
  · have : 0 < Int.gcd p q := by omega
    exact Int.gcd_ediv_gcd_ediv_gcd this
/-- a new rule stands at r -/
abbrev tup3 (p q c : Int) : HO := .tup [.int p, .int q, .int c]
theorem low_rule' {k : Nat} {p q c : Int} (h0 : 0 ≤ p) (h1 : 1 ≤ q) (bp : Bd k p) (bq : Bd k q) (bc : Bd k c) : RuleB k (p / gg p q) (q / gg p q) (c / gg p q) := low_rule h0 h1 bp bq bc
theorem low_le {p q : Int} (h1 : 1 ≤ q) : q / (Int.gcd p q : Int) ≤ q := Int.ediv_le_self _ (by omega)
section
variable {P : Program} {w : World} {K : PySem.W.Frag} {mg : Str → Option Value} {base : Heap}
/-! ### _law_great -/
def spGreat : Sp := fun vs H Q _ => ∃ (a : PA) (n : Nat) (d : Int), vs = [.ref a, .int d] ∧ Pen H a n ∧ n < 2 ^ 39 ∧ 6 ≤ d ∧ d ≤ 1200 ∧
  ∀ g H', 0 ≤ g → Bd (20 * (d / 6).toNat) g → Pen H' a (n + 1 + (d / 6).toNat) → Fr H H' → Q (.int g) H'
abbrev s_l_great : Stmt := topS 22
abbrev N_l_great : List Str := ["_law_pen_here", "_law_digits", "_law_result", "_law_k"]
abbrev P_l_great : List Str := ["_law_pen_here", "_law_digits"]
theorem sc_l_great : FnScope N_l_great P_l_great (defScope s_l_great) := ⟨rfl, rfl, rfl, by decide +kernel, rfl, by decide +kernel, by decide +kernel⟩
theorem ok_l_great (D : Df K mg "_law_great" s_l_great P_l_great) (B : Bi mg) (c_l_draw : C8.Cal P w K mg base 1 "_law_draw" spDraw []) : C8.Cal P w K mg base 2 "_law_great" spGreat [] := by
  refine cal_of D sc_l_great (fun vs H Q E h => ?_) (fun f cdv A outer s H vs Q E hr h => ?_)
  · obtain ⟨a, n, d, rfl, _⟩ := h
    rfl
  · obtain ⟨a, n, d, rfl, hP, hn, h6, h12, q⟩ := h
    refine ⟨_, (pss_cons (ps_set (i := 2) sc_l_great.nd rfl (Or.inl rfl) pe_int)
    (pss_cons (ps_for PassesOwn.never rfl (pi_range1 rfl B.range_ (pa_cons (pe_op op_add pe_int (C8.pe_c c_l_draw hr (by decide) (by rfl) (pa_cons (pv 0) (pa_cons (pe_op op_fdiv (pv 1) pe_int) pa_nil)))) pa_nil)) (pg_name (i := 3) sc_l_great.nd rfl (Or.inl rfl))
      (pss_one (ps_set (i := 2) sc_l_great.nd rfl (Or.inl rfl) (pe_op op_add (pe_op op_mul (pv 2) (pe_op op_pow pe_int pe_int)) (C8.pe_c c_l_draw hr (by decide) (by rfl) (pa_cons (pv 0) (pa_cons (pe_op op_pow pe_int pe_int) pa_nil)))))))
    (pss_one (ps_ret (pv 2))))), ?_⟩
    refine ⟨_, rfl, _, rfl, _, _, rfl, rfl, ⟨by decide, by decide⟩, a, n, _, rfl, hP, by omega, by omega, Bd.small 20 (by omega) (by decide), fun dd H1 d0 d1 hP1 f1 => ?_⟩
    refine ⟨_, _, rfl, rfl, _, rfl, by omega, by omega, ?_⟩
    refine for_range (lo := 0) (n := (1 + dd).toNat) (fun i σ H2 => ∃ (r : Int) (y : Option V), σ = [some (.ref a), some (.int d), some (.int r), y] ∧ 0 ≤ r ∧ Bd (20 * i) r ∧ Pen H2 a (n + 1 + i) ∧ Fr H H2) ?_ ?_ ?_
    · exact ⟨0, none, rfl, by omega, by show (0 : Int).natAbs < 2 ^ 0; decide, hP1, f1⟩
    · rintro i σ H2 hi ⟨r, y, rfl, r0, rb, hP2, f2⟩
      refine ⟨_, rfl, _, _, rfl, rfl, ⟨by decide, by decide, by decide⟩, _, _, rfl, rfl, .inr ⟨by decide, by decide⟩, _, rfl, _, _, rfl, rfl, ⟨by decide, by decide, by decide⟩, a, _, _, rfl, hP2, by omega, by decide, Bd.small 20 (by decide) (by decide), fun e H3 e0 e1 hP3 f3 => ?_⟩
      refine ⟨_, _, rfl, rfl, ?_⟩
      refine ⟨_, _, rfl, ?_, ?_, hP3, f2.trans f3⟩
      · have : (0 : Int) ≤ 10 ^ (6 : Int).toNat := by decide
        have := Int.mul_nonneg r0 this
        omega
      · exact Bd.grow r0 rb e0 e1
    · rintro σ H2 ⟨r, y, rfl, r0, rb, hP2, f2⟩
      have h3 : (1 + dd).toNat ≤ (d / 6).toNat := by omega
      refine ⟨_, rfl, ?_⟩
      exact q _ _ r0 (rb.mono (by omega)) (hP2.mono (by omega)) f2
/-! ### _law_signed -/
def spSigned : Sp := fun vs H Q _ => ∃ (a : PA) (n : Nat) (d : Int), vs = [.ref a, .int d] ∧ Pen H a n ∧ n < 2 ^ 38 ∧ 6 ≤ d ∧ d ≤ 1200 ∧
  ∀ g H', Bd (20 * (d / 6).toNat) g → Pen H' a (n + 5 + (d / 6).toNat) → Fr H H' → Q (.int g) H'
abbrev s_l_signed : Stmt := topS 23
abbrev N_l_signed : List Str := ["_law_pen_here", "_law_digits"]
abbrev P_l_signed : List Str := ["_law_pen_here", "_law_digits"]
theorem sc_l_signed : FnScope N_l_signed P_l_signed (defScope s_l_signed) := ⟨rfl, rfl, rfl, by decide +kernel, rfl, by decide +kernel, by decide +kernel⟩
theorem ok_l_signed (D : Df K mg "_law_signed" s_l_signed P_l_signed) (B : Bi mg) (c_l_draw : C8.Cal P w K mg base 1 "_law_draw" spDraw []) (c_l_pick : C8.Cal P w K mg base 2 "_law_pick" spPick []) (c_l_great : C8.Cal P w K mg base 2 "_law_great" spGreat []) : C8.Cal P w K mg base 3 "_law_signed" spSigned [] := by
  refine cal_of D sc_l_signed (fun vs H Q E h => ?_) (fun f cdv A outer s H vs Q E hr h => ?_)
  · obtain ⟨a, n, d, rfl, _⟩ := h
    rfl
  · obtain ⟨a, n, d, rfl, hP, hn, h6, h12, q⟩ := h
    refine ⟨_, (pss_one (ps_ret (pe_op op_mul (C8.pe_c c_l_pick hr (by decide) (by rfl) (pa_cons (pv 0) (pa_cons (pe_lst (pa_cons pe_int (pa_cons (pe_un un_neg pe_int) pa_nil))) pa_nil))) (C8.pe_c c_l_pick hr (by decide) (by rfl) (pa_cons (pv 0) (pa_cons (pe_lst (pa_cons (C8.pe_c c_l_draw hr (by decide) (by rfl) (pa_cons (pv 0) (pa_cons pe_int pa_nil))) (pa_cons (C8.pe_c c_l_draw hr (by decide) (by rfl) (pa_cons (pv 0) (pa_cons pe_int pa_nil))) (pa_cons (C8.pe_c c_l_great hr (by decide) (by rfl) (pa_cons (pv 0) (pa_cons (pv 1) pa_nil))) pa_nil)))) pa_nil)))))), ?_⟩
    refine ⟨_, rfl, 1, rfl, len10 (by simp), fun p np => ?_⟩
    refine ⟨a, p, n, _, rfl, hP.new np, by omega, upd_same, by simp, by simp, fun x H1 hx hP1 f1 => ?_⟩
    have f1' : Fr H H1 := (Fr.new np).trans f1
    refine ⟨_, rfl, _, rfl, a, _, _, rfl, hP1, by omega, by decide, Bd.small 20 (by decide) (by decide), fun d1 H2 d10 d11 hP2 f2 => ?_⟩
    refine ⟨_, rfl, a, _, _, rfl, hP2, by omega, by decide, Bd.small 20 (by decide) (by decide), fun d2 H3 d20 d21 hP3 f3 => ?_⟩
    refine ⟨_, rfl, _, rfl, a, _, _, rfl, hP3, by omega, h6, h12, fun g H4 g0 gb hP4 f4 => ?_⟩
    refine ⟨len10 (by simp), fun p2 np2 => ?_⟩
    refine ⟨a, p2, _, _, rfl, hP4.new np2, by omega, upd_same, by simp, by simp, fun y H5 hy hP5 f5 => ?_⟩
    have hk : 20 ≤ 20 * (d / 6).toNat := by omega
    obtain ⟨v, rfl, bv⟩ : ∃ v, y = V.int v ∧ Bd (20 * (d / 6).toNat) v := by
      simp only [List.mem_cons, List.not_mem_nil, or_false] at hy
      rcases hy with rfl | rfl | rfl
      · exact ⟨_, rfl, Bd.small 20 (by omega) hk⟩
      · exact ⟨_, rfl, Bd.small 20 (by omega) hk⟩
      · exact ⟨_, rfl, gb⟩
    have hPF : Pen H5 a (n + 5 + (d / 6).toNat) := hP5.mono (by omega)
    have fF : Fr H H5 := f1'.trans (f2.trans (f3.trans (f4.trans ((Fr.new np2).trans f5))))
    simp only [List.mem_cons, List.not_mem_nil, or_false] at hx
    rcases hx with rfl | rfl
    · refine ⟨_, _, rfl, rfl, .inl ⟨by decide, by decide⟩, ?_⟩
      show Q (V.int (1 * v)) H5
      rw [Int.one_mul]
      exact q _ _ bv hPF fF
    · refine ⟨_, _, rfl, rfl, .inl ⟨by decide, by decide⟩, ?_⟩
      show Q (V.int (-1 * v)) H5
      rw [Int.neg_mul, Int.one_mul]
      exact q _ _ bv.neg hPF fF
/-! ### _law_gcd, _law_lowest -/
def spGcd : Sp := fun vs H Q _ => ∃ (x y : Int), vs = [.int x, .int y] ∧ 0 ≤ x ∧ 0 ≤ y ∧ Q (.int (Int.gcd x y : Int)) H
def mu1 : L2.St → Hp → Nat := fun σ _ => match σ with
  | _ :: some (.int v) :: _ => v.toNat
  | _ => 0
abbrev s_l_gcd : Stmt := topS 24
abbrev N_l_gcd : List Str := ["_law_one", "_law_other"]
abbrev P_l_gcd : List Str := ["_law_one", "_law_other"]
theorem sc_l_gcd : FnScope N_l_gcd P_l_gcd (defScope s_l_gcd) := ⟨rfl, rfl, rfl, by decide +kernel, rfl, by decide +kernel, by decide +kernel⟩
theorem ok_l_gcd (D : Df K mg "_law_gcd" s_l_gcd P_l_gcd) : C8.Cal P w K mg base 1 "_law_gcd" spGcd [] := by
  refine cal_of D sc_l_gcd (fun vs H Q E h => ?_) (fun f cdv A outer s H vs Q E hr h => ?_)
  · obtain ⟨x, y, rfl, _⟩ := h
    rfl
  · obtain ⟨x, y, rfl, hx, hy, q⟩ := h
    refine ⟨_, (pss_cons (ps_while PassesOwn.never (pt_cmpR op_gt (pv 1) pe_int (nomark _))
      (pss_one (ps_par (i := 0) (j := 1) rfl sc_l_gcd.nd rfl rfl (by decide) rfl rfl (pa_cons (pv 1) (pa_cons (pe_op op_mod (pv 0) (pv 1)) pa_nil)) rfl)))
    (pss_one (ps_ret (pv 0)))), ?_⟩
    refine while_by (fun σ H' => ∃ u v : Int, σ = [some (.int u), some (.int v)] ∧ 0 ≤ u ∧ 0 ≤ v ∧ Int.gcd u v = Int.gcd x y ∧ H' = H) mu1 ⟨x, y, rfl, hx, hy, rfl, rfl⟩ ?_ ?_
    · rintro σ H' ⟨u, v, rfl, hu, hv, e, rfl⟩
      refine ⟨_, rfl, _, _, rfl, rfl, _, rfl, ite2 (fun c => ?_) (fun c => ?_)⟩
      · have hv0 : 0 < v := of_decide_eq_true c
        refine ⟨_, rfl, _, rfl, _, rfl, _, _, rfl, rfl, hv0, _, _, rfl, ⟨v, u % v, rfl, hv, Int.emod_nonneg _ (by omega), ?_, rfl⟩, ?_⟩
        · rw [gcd_turn u v hu hv0]; exact e
        · show (u % v).toNat < v.toNat
          have := Int.emod_lt_of_pos u hv0
          omega
      · have hv0 : v = 0 := by
          have : ¬ 0 < v := fun z => c (decide_eq_true z)
          omega
        subst hv0
        refine ⟨_, rfl, ?_⟩
        have e2 : (Int.gcd x y : Int) = u := by
          rw [← e, Int.gcd_zero_right]
          omega
        rw [← e2]
        exact q
    · rintro σ H' Q1 Q2 hQ ⟨v, h1, i, j, h2, h3, b, h4, h5⟩
      exact ⟨v, h1, i, j, h2, h3, b, h4, hQ _ _ h5⟩
def spLowest : Sp := fun vs H Q _ => ∃ (p q c : Int), vs = [.int p, .int q, .int c] ∧ 0 ≤ p ∧ 1 ≤ q ∧ Bd 9000 q ∧
  ∀ r H', Same H H' → H' r = some (.tup [.int (p / (Int.gcd p q : Int)), .int (q / (Int.gcd p q : Int)), .int (c / (Int.gcd p q : Int))]) → Q (.ref r) H'
abbrev s_l_lowest : Stmt := topS 25
abbrev N_l_lowest : List Str := ["_law_p", "_law_q", "_law_c", "_law_both"]
abbrev P_l_lowest : List Str := ["_law_p", "_law_q", "_law_c"]
theorem sc_l_lowest : FnScope N_l_lowest P_l_lowest (defScope s_l_lowest) := ⟨rfl, rfl, rfl, by decide +kernel, rfl, by decide +kernel, by decide +kernel⟩
theorem ok_l_lowest (D : Df K mg "_law_lowest" s_l_lowest P_l_lowest) (c_l_gcd : C8.Cal P w K mg base 1 "_law_gcd" spGcd []) : C8.Cal P w K mg base 2 "_law_lowest" spLowest [] := by
  refine cal_of D sc_l_lowest (fun vs H Q E h => ?_) (fun f cdv A outer s H vs Q E hr h => ?_)
  · obtain ⟨p, q, c, rfl, _⟩ := h
    rfl
  · obtain ⟨p, q, c, rfl, hp, hq, hb, k⟩ := h
    refine ⟨_, (pss_cons (ps_set (i := 3) sc_l_lowest.nd rfl (Or.inl rfl) (C8.pe_c c_l_gcd hr (by decide) (by rfl) (pa_cons (pv 0) (pa_cons (pv 1) pa_nil))))
    (pss_one (ps_ret (pe_tup (pa_cons (pe_op op_fdivW (pv 0) (pv 3)) (pa_cons (pe_op op_fdivW (pv 1) (pv 3)) (pa_cons (pe_op op_fdivW (pv 2) (pv 3)) pa_nil))))))), ?_⟩
    have hg := gcd_pos (p := p) hq
    have hd : CDivW 0 (Int.gcd p q : Int) := ⟨hg, (hb.between (by omega) (gcd_le hq)).log (by decide)⟩
    refine ⟨_, rfl, _, rfl, p, q, rfl, hp, by omega, ?_⟩
    refine ⟨_, rfl, _, rfl, _, _, rfl, rfl, hd, _, rfl, _, rfl, _, _, rfl, rfl, hd, _, rfl, _, rfl, _, _, rfl, rfl, hd, len10 (by simp), fun r nr => ?_⟩
    exact k r _ (sm_upd nr) upd_same
/-! ### _law_rule, _law_far_rule -/
def spRule : Sp := fun vs H Q _ => ∃ (a : PA) (n : Nat) (m : Int), vs = [.ref a, .int m] ∧ Pen H a n ∧ n < 2 ^ 38 ∧ 1 ≤ m ∧ m ≤ 1048576 ∧
  ∀ r p q c H', RuleB 24 p q c → q ≤ m → p ≤ 3 * m → H' r = some (.tup [.int p, .int q, .int c]) → Pen H' a (n + 8) → Fr H H' → Q (.ref r) H'
abbrev s_l_rule : Stmt := topS 26
abbrev N_l_rule : List Str := ["_law_pen_here", "_law_most", "_law_q", "_law_p"]
abbrev P_l_rule : List Str := ["_law_pen_here", "_law_most"]
theorem sc_l_rule : FnScope N_l_rule P_l_rule (defScope s_l_rule) := ⟨rfl, rfl, rfl, by decide +kernel, rfl, by decide +kernel, by decide +kernel⟩
theorem ok_l_rule (D : Df K mg "_law_rule" s_l_rule P_l_rule) (B : Bi mg) (c_l_draw : C8.Cal P w K mg base 1 "_law_draw" spDraw []) (c_l_pick : C8.Cal P w K mg base 2 "_law_pick" spPick []) (c_l_lowest : C8.Cal P w K mg base 2 "_law_lowest" spLowest []) : C8.Cal P w K mg base 3 "_law_rule" spRule [] := by
  refine cal_of D sc_l_rule (fun vs H Q E h => ?_) (fun f cdv A outer s H vs Q E hr h => ?_)
  · obtain ⟨a, n, d, rfl, _⟩ := h
    rfl
  · obtain ⟨a, n, m, rfl, hP, hn, hm1, hm2, k⟩ := h
    refine ⟨_, (pss_cons (ps_set (i := 2) sc_l_rule.nd rfl (Or.inl rfl) (pe_op op_add pe_int (C8.pe_c c_l_draw hr (by decide) (by rfl) (pa_cons (pv 0) (pa_cons (pv 1) pa_nil)))))
    (pss_cons (ps_set (i := 3) sc_l_rule.nd rfl (Or.inl rfl) (C8.pe_c c_l_pick hr (by decide) (by rfl) (pa_cons (pv 0) (pa_cons (pe_lst (pa_cons pe_int (pa_cons pe_int (pa_cons (C8.pe_c c_l_draw hr (by decide) (by rfl) (pa_cons (pv 0) (pa_cons (pe_op op_add (pv 2) pe_int) pa_nil))) (pa_cons (C8.pe_c c_l_draw hr (by decide) (by rfl) (pa_cons (pv 0) (pa_cons (pe_op op_add (pv 2) pe_int) pa_nil))) (pa_cons (C8.pe_c c_l_draw hr (by decide) (by rfl) (pa_cons (pv 0) (pa_cons (pe_op op_mul pe_int (pv 2)) pa_nil))) (pa_cons (pe_op op_add (pv 2) pe_int) pa_nil))))))) pa_nil))))
    (pss_one (ps_ret (C8.pe_c c_l_lowest hr (by decide) (by rfl) (pa_cons (pv 3) (pa_cons (pv 2) (pa_cons (C8.pe_c c_l_pick hr (by decide) (by rfl) (pa_cons (pv 0) (pa_cons (pe_lst (pa_cons pe_int (pa_cons (C8.pe_c c_l_draw hr (by decide) (by rfl) (pa_cons (pv 0) (pa_cons (pv 2) pa_nil))) (pa_cons (pe_op op_sub (C8.pe_c c_l_draw hr (by decide) (by rfl) (pa_cons (pv 0) (pa_cons (pe_op op_mul pe_int (pv 2)) pa_nil))) (pe_op op_mul pe_int (pv 2))) pa_nil)))) pa_nil))) pa_nil)))))))), ?_⟩
    refine ⟨_, rfl, _, rfl, a, n, _, rfl, hP, by omega, by omega, Bd.small 21 (by omega) (by decide), fun d H1 d0 d1 hP1 f1 => ?_⟩
    refine ⟨_, _, rfl, rfl, ?_⟩
    -- p
    refine ⟨_, rfl, _, rfl, _, rfl, _, _, rfl, rfl, a, _, _, rfl, hP1, by omega, by omega, Bd.small 22 (by omega) (by decide), fun p1 H2 p10 p11 hP2 f2 => ?_⟩
    refine ⟨_, rfl, _, rfl, _, _, rfl, rfl, a, _, _, rfl, hP2, by omega, by omega, Bd.small 22 (by omega) (by decide), fun p2 H3 p20 p21 hP3 f3 => ?_⟩
    refine ⟨_, rfl, _, rfl, _, _, rfl, rfl, .inl ⟨by decide, by decide⟩, a, _, _, rfl, hP3, by omega, by omega, Bd.small 24 (by omega) (by decide), fun p3 H4 p30 p31 hP4 f4 => ?_⟩
    refine ⟨_, rfl, _, _, rfl, rfl, len10 (by simp), fun l nl => ?_⟩
    refine ⟨a, l, _, _, rfl, hP4.new nl, by omega, upd_same, by simp, by simp, fun x H5 hx hP5 f5 => ?_⟩
    obtain ⟨p, rfl, hp0, hp3⟩ : ∃ p, x = V.int p ∧ 0 ≤ p ∧ p ≤ 3 * m := by
      simp only [List.mem_cons, List.not_mem_nil, or_false] at hx
      rcases hx with rfl | rfl | rfl | rfl | rfl | rfl <;> exact ⟨_, rfl, by omega, by omega⟩
    -- c
    refine ⟨_, rfl, _, rfl, _, rfl, _, rfl, _, rfl, a, _, _, rfl, hP5, by omega, by omega, Bd.small 22 (by omega) (by decide), fun c1 H6 c10 c11 hP6 f6 => ?_⟩
    refine ⟨_, rfl, _, rfl, _, _, rfl, rfl, .inl ⟨by decide, by decide⟩, a, _, _, rfl, hP6, by omega, by omega, Bd.small 24 (by omega) (by decide), fun c2 H7 c20 c21 hP7 f7 => ?_⟩
    refine ⟨_, rfl, _, _, rfl, rfl, .inl ⟨by decide, by decide⟩, _, _, rfl, rfl, len10 (by simp), fun l2 nl2 => ?_⟩
    refine ⟨a, l2, _, _, rfl, hP7.new nl2, by omega, upd_same, by simp, by simp, fun y H8 hy hP8 f8 => ?_⟩
    obtain ⟨c, rfl, bc⟩ : ∃ c, y = V.int c ∧ Bd 24 c := by
      simp only [List.mem_cons, List.not_mem_nil, or_false] at hy
      rcases hy with rfl | rfl | rfl
      · exact ⟨_, rfl, Bd.small 22 (by decide) (by decide)⟩
      · exact ⟨_, rfl, Bd.small 22 (by omega) (by decide)⟩
      · exact ⟨_, rfl, Bd.small 24 (by omega) (by decide)⟩
    refine ⟨p, 1 + d, c, rfl, hp0, by omega, Bd.small 22 (by omega) (by decide), fun r H9 s9 er => ?_⟩
    have hq1 : (1 : Int) ≤ 1 + d := by omega
    have R := low_rule (k := 24) (c := c) hp0 hq1 (Bd.small 24 (by omega) (by decide)) (Bd.small 24 (by omega) (by decide)) bc
    refine k r _ _ _ H9 R ?_ ?_ er ((hP8.same s9).mono (by omega)) ?_
    · have := low_le (p := p) hq1
      omega
    · have := Int.ediv_le_self (Int.gcd p (1 + d) : Int) hp0
      omega
    · exact f1.trans (f2.trans (f3.trans (f4.trans ((Fr.new nl).trans (f5.trans (f6.trans (f7.trans ((Fr.new nl2).trans (f8.trans (Fr.same s9))))))))))
end
end Lf
namespace Lf
open PySem PySem.Spec PyProof.Rows L2
section
variable {P : Program} {w : World} {K : PySem.W.Frag} {mg : Str → Option Value} {base : Heap}
def spFar : Sp := fun vs H Q _ => ∃ (a : PA) (n : Nat) (d : Int), vs = [.ref a, .int d] ∧ Pen H a n ∧ n < 2 ^ 37 ∧ 6 ≤ d ∧ d ≤ 1200 ∧
  ∀ r p q c H', RuleB (20 * (d / 6).toNat + 2) p q c → H' r = some (.tup [.int p, .int q, .int c]) → Pen H' a (n + 9 + 4 * (d / 6).toNat) → Fr H H' → Q (.ref r) H'
end
end Lf
namespace Lf
open PySem PySem.Spec PyProof.Rows L2
theorem iteD {c A B : Prop} [Decidable c] (hc : c) (h : A) : if decide c = true then A else B := by
  rw [if_pos (decide_eq_true hc)]
  exact h
theorem iteDn {c A B : Prop} [Decidable c] (hc : ¬ c) (h : B) : if decide c = true then A else B := by
  rw [if_neg (fun z => hc (of_decide_eq_true z))]
  exact h
theorem iteTs {b : Bool} {A B : Prop} (h : b = true) (hA : A) : if b = true then A else B := by
  rw [h, if_pos rfl]
  exact hA
theorem iteFz {b : Bool} {A B : Prop} (h : b = false) (hB : B) : if b = true then A else B := by
  rw [h, if_neg Bool.false_ne_true]
  exact hB
theorem bool_f {b : Bool} (h : ¬ b = true) : b = false := by
  cases b
  · rfl
  · exact absurd rfl h
theorem lenS {n : Nat} (h : n ≤ 100000) : n ≤ sizeLine := by
  rw [sizeLine_eq]
  omega
theorem ltS {n : Nat} (h : n ≤ 100000) : n < sizeLine := by
  rw [sizeLine_eq]
  omega
theorem flat_is (ns : List Int) : (ns.map V.int).all flatV = true := by
  induction ns with
  | nil => rfl
  | cons n r ih => simpa [flatV] using ih
theorem mulW {a b : Nat} {x y : Int} (h : Bd a x) (h2 : Bd b y) (ha : 0 < a) (hb : 0 < b) (hab : a + b ≤ 1000000) : CMulW x y := wide_mul h h2 ha hb hab
theorem divW {b : Nat} {x y : Int} (h0 : 0 < y) (h : Bd b y) (hb : b ≤ 9000) : CDivW x y := ⟨h0, (h.mono hb).log (by decide)⟩
theorem divP {b : Nat} {x y : Int} (h0 : 0 < y) (h : Bd b y) (hb : b ≤ 9000) : CDivP x y := ⟨h0, PyProof.noPylong_of_log2 ((h.mono hb).log (by decide))⟩
theorem kii : kitB "int" "int" = some true := by decide +kernel
theorem kib : kitB "int" "bool" = some false := by decide +kernel
theorem ktt : kitB "tuple" "tuple" = some true := by decide +kernel
section
variable {P : Program} {w : World} {K : PySem.W.Frag} {mg : Str → Option Value} {base : Heap}
/-! ### integers -/
def spIsInt : Sp := fun vs H Q _ => ∃ i : Int, vs = [.int i] ∧ Q (.bl true) H
abbrev s_is_integer : Stmt := topS 8
abbrev N_is_integer : List Str := ["value"]
abbrev P_is_integer : List Str := ["value"]
theorem sc_is_integer : FnScope N_is_integer P_is_integer (defScope s_is_integer) := ⟨rfl, rfl, rfl, by decide +kernel, rfl, by decide +kernel, by decide +kernel⟩
theorem ok_is_integer (D : Df K mg "is_integer" s_is_integer P_is_integer) (B : Bi mg) : C8.Cal P w K mg base 1 "is_integer" spIsInt [] := by
  refine cal_of D sc_is_integer (fun vs H Q E h => ?_) (fun f cdv A outer s H vs Q E hr h => ?_)
  · obtain ⟨i, rfl, _⟩ := h
    rfl
  · obtain ⟨i, rfl, q⟩ := h
    refine ⟨_, (pss_one (ps_ret (pe_and (pe_callB (call_isi) (by rfl) B.isinstance_ bt_isinstance (pa_cons (pv 0) (pa_cons (pe_bltn (v := .ty "int") (by rfl) B.int_ bt_int rfl) pa_nil))) (pe_one (pe_not (pe_callB (call_isi) (by rfl) B.isinstance_ bt_isinstance (pa_cons (pv 0) (pa_cons (pe_bltn (v := .ty "bool") (by rfl) B.bool_ bt_bool rfl) pa_nil)))))))), ?_⟩
    refine ⟨_, rfl, _, _, _, _, true, rfl, .ty "int", .base (.int i), kit_ty kii, true, rfl, iteT ?_⟩
    exact ⟨_, rfl, _, _, _, _, false, rfl, .ty "bool", .base (.int i), kit_ty kib, false, rfl, q⟩
def spCheckInt : Sp := fun vs H Q _ => ∃ i : Int, vs = [.int i] ∧ Q .non H
abbrev s_check_integer : Stmt := topS 9
abbrev N_check_integer : List Str := ["value"]
abbrev P_check_integer : List Str := ["value"]
theorem sc_check_integer : FnScope N_check_integer P_check_integer (defScope s_check_integer) := ⟨rfl, rfl, rfl, by decide +kernel, rfl, by decide +kernel, by decide +kernel⟩
theorem ok_check_integer (D : Df K mg "check_integer" s_check_integer P_check_integer) (c_is_integer : C8.Cal P w K mg base 1 "is_integer" spIsInt []) : C8.Cal P w K mg base 2 "check_integer" spCheckInt [] := by
  refine cal_of D sc_check_integer (fun vs H Q E h => ?_) (fun f cdv A outer s H vs Q E hr h => ?_)
  · obtain ⟨i, rfl, _⟩ := h
    rfl
  · obtain ⟨i, rfl, q⟩ := h
    refine ⟨_, (pss_one (ps_if (pt_not (pt_val (C8.pe_c c_is_integer hr (by decide) (by rfl) (pa_cons (pv 0) pa_nil))))
      (pss_one ps_never)
      pss_nil)), ?_⟩
    exact ⟨_, rfl, i, rfl, true, rfl, iteF q⟩
end
end Lf
namespace Lf
open PySem PySem.Spec PyProof.Rows L2
section
variable {P : Program} {w : World} {K : PySem.W.Frag} {mg : Str → Option Value} {base : Heap}
def spCheckAL : Sp := fun vs H Q _ => ∃ v l : Int, vs = [.int v, .int l] ∧ l ≤ v ∧ Q .non H
abbrev s_check_at_least : Stmt := topS 10
abbrev N_check_at_least : List Str := ["value", "least"]
abbrev P_check_at_least : List Str := ["value", "least"]
theorem sc_check_at_least : FnScope N_check_at_least P_check_at_least (defScope s_check_at_least) := ⟨rfl, rfl, rfl, by decide +kernel, rfl, by decide +kernel, by decide +kernel⟩
theorem ok_check_at_least (D : Df K mg "check_at_least" s_check_at_least P_check_at_least) (c_is_integer : C8.Cal P w K mg base 1 "is_integer" spIsInt []) : C8.Cal P w K mg base 2 "check_at_least" spCheckAL [] := by
  refine cal_of D sc_check_at_least (fun vs H Q E h => ?_) (fun f cdv A outer s H vs Q E hr h => ?_)
  · obtain ⟨v, l, rfl, _⟩ := h
    rfl
  · obtain ⟨v, l, rfl, hl, q⟩ := h
    refine ⟨_, (pss_one (ps_if (PW.pt (pw_or (pt_not (pt_val (C8.pe_c c_is_integer hr (by decide) (by rfl) (pa_cons (pv 0) pa_nil)))) (pw_or1 (pt_cmpR op_lt (pv 0) (pv 1) (nomark _)))))
      (pss_one ps_never)
      pss_nil)), ?_⟩
    refine ⟨_, rfl, v, rfl, true, rfl, iteF ?_⟩
    exact ⟨_, rfl, _, rfl, _, _, rfl, rfl, _, rfl, iteDn (by omega) q⟩
end
end Lf
namespace Lf
open PySem PySem.Spec PyProof.Rows L2
section
variable {P : Program} {w : World} {K : PySem.W.Frag} {mg : Str → Option Value} {base : Heap}
abbrev s_gcd : Stmt := topS 11
abbrev N_gcd : List Str := ["first", "second"]
abbrev P_gcd : List Str := ["first", "second"]
theorem sc_gcd : FnScope N_gcd P_gcd (defScope s_gcd) := ⟨rfl, rfl, rfl, by decide +kernel, rfl, by decide +kernel, by decide +kernel⟩
theorem ok_gcd (D : Df K mg "gcd" s_gcd P_gcd) : C8.Cal P w K mg base 1 "gcd" spGcd [] := by
  refine cal_of D sc_gcd (fun vs H Q E h => ?_) (fun f cdv A outer s H vs Q E hr h => ?_)
  · obtain ⟨x, y, rfl, _⟩ := h
    rfl
  · obtain ⟨x, y, rfl, hx, hy, q⟩ := h
    refine ⟨_, (pss_cons (ps_while PassesOwn.never (pt_truth (pv 1) (fun _ => rfl))
      (pss_one (ps_par (i := 0) (j := 1) rfl sc_gcd.nd rfl rfl (by decide) rfl rfl (pa_cons (pv 1) (pa_cons (pe_op op_mod (pv 0) (pv 1)) pa_nil)) rfl)))
    (pss_one (ps_ret (pv 0)))), ?_⟩
    refine while_by (fun σ H' => ∃ u v : Int, σ = [some (.int u), some (.int v)] ∧ 0 ≤ u ∧ 0 ≤ v ∧ Int.gcd u v = Int.gcd x y ∧ H' = H) mu1 ⟨x, y, rfl, hx, hy, rfl, rfl⟩ ?_ ?_
    · rintro σ H' ⟨u, v, rfl, hu, hv, e, rfl⟩
      refine ⟨_, rfl, _, rfl, ite2 (fun c => ?_) (fun c => ?_)⟩
      · have hv0 : 0 < v := by
          have : v ≠ 0 := by simpa using c
          omega
        refine ⟨_, rfl, _, rfl, _, rfl, _, _, rfl, rfl, hv0, _, _, rfl, ⟨v, u % v, rfl, hv, Int.emod_nonneg _ (by omega), ?_, rfl⟩, ?_⟩
        · rw [gcd_turn u v hu hv0]; exact e
        · show (u % v).toNat < v.toNat
          have := Int.emod_lt_of_pos u hv0
          omega
      · have hv0 : v = 0 := by simpa using c
        subst hv0
        refine ⟨_, rfl, ?_⟩
        have e2 : (Int.gcd x y : Int) = u := by
          rw [← e, Int.gcd_zero_right]
          omega
        rw [← e2]
        exact q
    · rintro σ H' Q1 Q2 hQ ⟨v, h1, b, h4, h5⟩
      exact ⟨v, h1, b, h4, hQ _ _ h5⟩
/-! ### rules -/
def spIsRule : Sp := fun vs H Q _ => ∃ (r : Addr) (p q c : Int) (k : Nat), vs = [.ref r] ∧ H r = some (.tup [.int p, .int q, .int c]) ∧ RuleB k p q c ∧ ∀ H', Same H H' → Q (.bl true) H'
def spCheckRule : Sp := fun vs H Q _ => ∃ (r : Addr) (p q c : Int) (k : Nat), vs = [.ref r] ∧ H r = some (.tup [.int p, .int q, .int c]) ∧ RuleB k p q c ∧ ∀ H', Same H H' → Q .non H'
end
end Lf
namespace Lf
open PySem PySem.Spec PyProof.Rows L2
section
variable {P : Program} {w : World} {K : PySem.W.Frag} {mg : Str → Option Value} {base : Heap}
/-! ### count -/
def spCount : Sp := fun vs H Q _ => ∃ (r : Addr) (p q c t : Int) (k : Nat), vs = [.ref r, .int t] ∧ H r = some (.tup [.int p, .int q, .int c]) ∧ RuleB k p q c ∧ Bd k t ∧ 0 < k ∧ k ≤ 4000 ∧
  ∀ H', Same H H' → Q (.int ((p * t + c) / q)) H'
end
end Lf
namespace Lf
open PySem PySem.Spec PyProof.Rows L2
section
variable {P : Program} {w : World} {K : PySem.W.Frag} {mg : Str → Option Value} {base : Heap}
def spTally : Sp := fun vs H Q _ => ∃ (r : Addr) (p q c t : Int) (k : Nat), vs = [.ref r, .int t] ∧ H r = some (.tup [.int p, .int q, .int c]) ∧ RuleB k p q c ∧ Bd k t ∧ 0 < k ∧ k ≤ 3000 ∧ Q (.int ((p * t + c) / q)) H
abbrev s_l_tally : Stmt := topS 27
abbrev N_l_tally : List Str := ["_law_rule_here", "_law_time"]
abbrev P_l_tally : List Str := ["_law_rule_here", "_law_time"]
theorem sc_l_tally : FnScope N_l_tally P_l_tally (defScope s_l_tally) := ⟨rfl, rfl, rfl, by decide +kernel, rfl, by decide +kernel, by decide +kernel⟩
theorem ok_l_tally (D : Df K mg "_law_tally" s_l_tally P_l_tally) : C8.Cal P w K mg base 1 "_law_tally" spTally [] := by
  refine cal_of D sc_l_tally (fun vs H Q E h => ?_) (fun f cdv A outer s H vs Q E hr h => ?_)
  · obtain ⟨r, p, q, c, t, k, rfl, _⟩ := h
    rfl
  · obtain ⟨r, p, q, c, t, k, rfl, er, R, bt, k0, k3, kk⟩ := h
    refine ⟨_, (pss_one (ps_ret (pe_op op_fdivW (pe_op op_add (pe_op op_mulW (pe_ix (r := rIxT K) ix_tup (pv 0) pe_int (fun _ _ => rfl)) (pv 1)) (pe_ix (r := rIxT K) ix_tup (pv 0) pe_int (fun _ _ => rfl))) (pe_ix (r := rIxT K) ix_tup (pv 0) pe_int (fun _ _ => rfl))))), ?_⟩
    refine ⟨_, rfl, r, _, _, _, rfl, rfl, SqT.of er, atI_nat (j := 0) rfl, _, rfl, _, _, rfl, rfl, mulW R.bp bt k0 k0 (by omega), ?_⟩
    refine ⟨_, rfl, r, _, _, _, rfl, rfl, SqT.of er, atI_nat (j := 2) rfl, _, _, rfl, rfl, ?_⟩
    refine ⟨_, rfl, r, _, _, _, rfl, rfl, SqT.of er, atI_nat (j := 1) rfl, _, _, rfl, rfl, divW (by have := R.q1; omega) R.bq (by omega), kk⟩
end
end Lf
namespace Lf
open PySem PySem.Spec PyProof.Rows L2
/-! ### checks of integers: any value -/
def atLeast (l : Int) : PyData → Bool
  | .int i => decide (l ≤ i)
  | _ => false
theorem isI_b {d : PyData} (h : isI d = true) : isIB d = true ∧ isB d = false := by
  cases d <;> first | exact ⟨rfl, rfl⟩ | cases h
section
variable {P : Program} {w : World} {K : PySem.W.Frag} {mg : Str → Option Value} {base : Heap} {C : Addr}
def spIsAny : Sp := fun vs H Q _ => ∃ (v : V) (d : PyData), vs = [v] ∧ Dv H v d ∧ Q (.bl (isI d)) H
theorem okA_is_integer (D : Df K mg "is_integer" s_is_integer P_is_integer) (B : Bi mg) : C8.Cal P w K mg base 1 "is_integer" spIsAny [] := by
  refine cal_of D sc_is_integer (fun vs H Q E h => ?_) (fun f cdv A outer s H vs Q E hr h => ?_)
  · obtain ⟨v, d, rfl, _⟩ := h
    rfl
  · obtain ⟨v, d, rfl, dv, q⟩ := h
    refine ⟨_, (pss_one (ps_ret (pe_and (pe_callB (call_isi) (by rfl) B.isinstance_ bt_isinstance (pa_cons (pv 0) (pa_cons (pe_bltn (v := .ty "int") (by rfl) B.int_ bt_int rfl) pa_nil))) (pe_one (pe_not (pe_callB (call_isi) (by rfl) B.isinstance_ bt_isinstance (pa_cons (pv 0) (pa_cons (pe_bltn (v := .ty "bool") (by rfl) B.bool_ bt_bool rfl) pa_nil)))))))), ?_⟩
    refine ⟨_, rfl, _, _, _, _, isIB d, rfl, .ty "int", dv.ty, kit_ty (kit_int d), isIB d, rfl, ?_⟩
    by_cases hb : isIB d = true
    · rw [if_pos hb]
      refine ⟨_, rfl, _, _, _, _, isB d, rfl, .ty "bool", dv.ty, kit_ty (kit_bool d), isB d, rfl, ?_⟩
      have e : (!isB d) = isI d := by
        cases d <;> first | rfl | cases hb
      rw [e]
      exact q
    · rw [if_neg hb]
      have e : isI d = false := by
        cases d <;> first | rfl | exact absurd rfl hb
      rw [e] at q
      exact q
/-- InvalidNumber, with the value -/
def Out (C : Addr) (v : V) (H : Hp) (E : XK) : Prop := ∀ dd, H dd = none → E (.ref C) (some dd) (upd H dd (.xd [("value", v)]))
def spCkI (C : Addr) : Sp := fun vs H Q E => ∃ (v : V) (d : PyData), vs = [v] ∧ Dv H v d ∧ (isI d = true → Q .non H) ∧ (isI d = false → Out C v H E)
theorem okx_check_integer (D : Df K mg "check_integer" s_check_integer P_check_integer) (T : ValC P K mg C "InvalidNumber" "value") (cA_is_integer : C8.Cal P w K mg base 1 "is_integer" spIsAny []) : CalX P w K mg base 3 "check_integer" (spCkI C) := by
  refine calx_of D sc_check_integer (fun vs H Q E h => ?_) (fun f cdv A outer s H vs Q E hr h => ?_)
  · obtain ⟨v, d, rfl, _⟩ := h
    rfl
  · obtain ⟨v, d, rfl, dv, hq, he⟩ := h
    have c_is_integer := cA_is_integer
    refine ⟨_, (pss_one (ps_if (pt_not (pt_val (C8.pe_c c_is_integer hr (by decide) (by rfl) (pa_cons (pv 0) pa_nil))))
      (pss_one (ps_raise rfl (takes_of rfl rfl rfl rfl) (pmk_val T hr (by decide) rfl (pv 0))))
      pss_nil)), ?_⟩
    refine ⟨_, rfl, v, d, rfl, dv, isI d, rfl, ?_⟩
    cases hd : isI d with
    | true => exact iteF (hq hd)
    | false => exact iteT ⟨_, rfl, mkv (he hd)⟩
def spCkL (C : Addr) : Sp := fun vs H Q E => ∃ (v : V) (d : PyData) (l : Int), vs = [v, .int l] ∧ Dv H v d ∧ (atLeast l d = true → Q .non H) ∧ (atLeast l d = false → Out C v H E)
theorem okx_check_at_least (D : Df K mg "check_at_least" s_check_at_least P_check_at_least) (T : ValC P K mg C "InvalidNumber" "value") (cA_is_integer : C8.Cal P w K mg base 1 "is_integer" spIsAny []) : CalX P w K mg base 3 "check_at_least" (spCkL C) := by
  refine calx_of D sc_check_at_least (fun vs H Q E h => ?_) (fun f cdv A outer s H vs Q E hr h => ?_)
  · obtain ⟨v, d, l, rfl, _⟩ := h
    rfl
  · obtain ⟨v, d, l, rfl, dv, hq, he⟩ := h
    have c_is_integer := cA_is_integer
    refine ⟨_, (pss_one (ps_if (PW.pt (pw_or (pt_not (pt_val (C8.pe_c c_is_integer hr (by decide) (by rfl) (pa_cons (pv 0) pa_nil)))) (pw_or1 (pt_cmpR op_lt (pv 0) (pv 1) (nomark _)))))
      (pss_one (ps_raise rfl (takes_of rfl rfl rfl rfl) (pmk_val T hr (by decide) rfl (pv 0))))
      pss_nil)), ?_⟩
    refine ⟨_, rfl, v, d, rfl, dv, isI d, rfl, ?_⟩
    cases hd : isI d with
    | false =>
      have e : atLeast l d = false := by
        cases d <;> first | rfl | cases hd
      exact iteT ⟨_, rfl, mkv (he e)⟩
    | true =>
      cases dv with
      | int i =>
        refine iteF ⟨_, rfl, _, rfl, _, _, rfl, rfl, _, rfl, ?_⟩
        by_cases hl : l ≤ i
        · refine iteDn (by omega) (hq (decide_eq_true hl))
        · refine iteD (by omega) ⟨_, rfl, mkv (he (decide_eq_false hl))⟩
      | non => cases hd
      | bl => cases hd
      | str => cases hd
      | lst => cases hd
      | tup => cases hd
      | dk0 => cases hd
      | dk1 => cases hd
end
end Lf
namespace Lf
open PySem PySem.Spec PyProof.Rows L2
/-- repr of an int or of None -/
theorem repr_some {X : Cx} : CallR X (.builtin "repr") (fun xs H Q => (∃ i : Int, xs = [.int i] ∧ i.natAbs.log2 < 1920 ∧ Q (.str (toString i)) H) ∨ (xs = [.non] ∧ Q (.str "None") H)) := by
  intro pins s σ H xs us Q I rel h
  rcases h with h | ⟨rfl, hq⟩
  · exact SkE.call_repr_int pins s σ H xs us Q I rel h
  · obtain ⟨u, hu, ru⟩ := vals1 rel
    subst hu
    have eu : u = Value.none := ru
    subst eu
    exact PySem.P.repr_of_none ⟨.str "None", H, I.tok _, ⟨_, rfl⟩, hq⟩
theorem cut_take (xs : List V) (m : Int) (h : 0 ≤ m) : cutV xs none (some m) = xs.take m.toNat := by
  obtain ⟨n, rfl⟩ := Int.eq_ofNat_of_zero_le h
  unfold cutV
  rw [HT.sIx_none, show HT.sIx xs.length xs.length (some ((n : Nat) : Int)) = min n xs.length from HT.sIx_nat _ _ n, List.drop_zero, Nat.sub_zero]
  show xs.take (min n xs.length) = xs.take n
  by_cases hn : n ≤ xs.length
  · rw [Nat.min_eq_left hn]
  · rw [Nat.min_eq_right (by omega), List.take_of_length_le (Nat.le_refl _), List.take_of_length_le (by omega)]
theorem flat_ints (ns : List Int) : (ns.map V.int).all flatV = true := by
  induction ns with
  | nil => rfl
  | cons n r ih => simpa [flatV] using ih
theorem inV_ints (ns : List Int) (k : Int) : inV (V.int k) (ns.map V.int) = decide (k ∈ ns) := by
  induction ns with
  | nil => rfl
  | cons n r ih =>
    have ih' : ((r.map V.int).any fun y => eqV y (V.int k)) = decide (k ∈ r) := ih
    show (eqV (V.int n) (V.int k) || (r.map V.int).any fun y => eqV y (V.int k)) = decide (k ∈ n :: r)
    rw [ih']
    by_cases h : n = k
    · subst h
      simp [eqV]
    · have h' : ¬ k = n := fun z => h z.symm
      simp [eqV, h, h']
end Lf
namespace Lf
open PySem PySem.Spec PyProof.Rows L2
/-! ### tables of code objects, kept -/
theorem tabs_fr {T : List (Addr × Str)} {H H' : Hp} (t : LamX.Tabs T H) (f : Fr H H') : LamX.Tabs T H' := fun p hp => by
  obtain ⟨ps, h1, h2, h3⟩ := t p hp
  refine ⟨ps, f.k _ _ h1 (fun _ z => by cases z), h2, fun pos cv hc => ?_⟩
  obtain ⟨c, e1, e2⟩ := h3 pos cv hc
  exact ⟨c, e1, f.k _ _ e2 fun _ z => by unfold LamX.CodeO at z; cases z⟩
theorem tabs_same {T : List (Addr × Str)} {H H' : Hp} (t : LamX.Tabs T H) (s : Same H H') : LamX.Tabs T H' := tabs_fr t (Fr.same s)
theorem Pen.extN {H H' : Hp} {a : PA} {n : Nat} (p : Pen H a n) (e : LamX.ExtN H H') : Pen H' a n := by
  obtain ⟨cs, t, r, h1, h2, h3⟩ := p.ex
  exact ⟨cs, t, r, e _ _ h1 (fun _ z => by cases z), e _ _ h2 (fun _ z => by cases z), h3⟩
theorem tup_extN {H H' : Hp} {b : Addr} {xs : List V} (e : LamX.ExtN H H') (h : H b = some (.tup xs)) : H' b = some (.tup xs) := e _ _ h fun _ z => by cases z
def spLawT (K : PySem.W.Frag) (PT : Addr) : Sp := fun vs H Q _ => ∃ (a : Addr) (ns : List Int), vs = [.ref a] ∧ SqL K H a (ns.map V.int) ∧ ns.length ≤ 63 ∧ H PT = some (.tbl #[]) ∧ ∀ H', Q (.bl true) H'
theorem iteFs {b : Bool} {A B : Prop} (h : b = false) (hB : B) : if b = true then A else B := by
  rw [h, if_neg Bool.false_ne_true]
  exact hB
theorem notin_of {ns : List Int} {k : Int} (h : k ∈ ns) : (if true = true then !inV (V.int k) (ns.map V.int) else inV (V.int k) (ns.map V.int)) = false := by
  rw [if_pos rfl, inV_ints, decide_eq_true h]
  rfl
/-- two pairs that are the same are not different -/
theorem ne2 {K : PySem.W.Frag} {H : Hp} {r1 r2 : Addr} {p q p' q' : Int} {Q : V → Hp → Prop} (e1 : H r1 = some (.tup [.int p, .int q])) (e2 : H r2 = some (.tup [.int p', .int q'])) (hp : p = p') (hq : q = q') (h : Q (.bl false) H) : rNeD K (.ref r1) (.ref r2) H Q := by
  subst hp hq
  refine ⟨.tuple [.int p, .int q], .tuple [.int p, .int q], Dp.tup (SqT.of e1) (.cons (.int p) (.cons (.int q) .nil)), Dp.tup (SqT.of e2) (.cons (.int p) (.cons (.int q) .nil)), rfl, rfl, ?_⟩
  rw [SeqAt.eqv_refl _ rfl]
  exact h
abbrev qLam : Str := (("law" : Str) ++ (".<locals>." : Str)) ++ ("<lambda>" : Str)
end Lf
namespace Lf
open PySem PySem.Spec PyProof.Rows L2
/-- two rules that are the same are not different -/
theorem ne3 {K : PySem.W.Frag} {H : Hp} {r1 r2 : Addr} {p q c p' q' c' : Int} {Q : V → Hp → Prop} (e1 : H r1 = some (.tup [.int p, .int q, .int c])) (e2 : H r2 = some (.tup [.int p', .int q', .int c'])) (hp : p = p') (hq : q = q') (hc : c = c') (h : Q (.bl false) H) : rNeD K (.ref r1) (.ref r2) H Q := by
  subst hp hq hc
  refine ⟨.tuple [.int p, .int q, .int c], .tuple [.int p, .int q, .int c], Dp.tup (SqT.of e1) (.cons (.int p) (.cons (.int q) (.cons (.int c) .nil))), Dp.tup (SqT.of e2) (.cons (.int p) (.cons (.int q) (.cons (.int c) .nil))), rfl, rfl, ?_⟩
  rw [SeqAt.eqv_refl _ rfl]
  exact h
theorem logR {k : Nat} {i : Int} (h : Bd k i) (hk : k ≤ 1920) : i.natAbs.log2 < 1920 := (h.mono hk).log (by decide)
def spLaw (K : PySem.W.Frag) : Sp := fun vs H Q _ => ∃ (a : Addr) (ns : List Int), vs = [.ref a] ∧ SqL K H a (ns.map V.int) ∧ ns.length ≤ 63 ∧ ∀ H', Q (.bl true) H'
end Lf
namespace Lf
open PySem PySem.Spec PyProof.Rows L2
/-! ### any value: how it is shown -/
mutual
theorem DvF.kp {H H' : Hp} (f : Kp H H') : ∀ (d : PyData) (v : V), DvF H v d → DvF H' v d
  | .none, _, .non => .non
  | .bool _, _, .bl b => .bl b
  | .int _, _, .int i => .int i
  | .str _, _, .str x => .str x
  | .list ds, _, .lst h hs => .lst (f.l _ _ h) (DvF.kpAll f ds _ hs)
  | .tuple ds, _, .tup h hs => .tup (f.t _ _ h) (DvF.kpAll f ds _ hs)
  | .dict [], _, .dk0 h => .dk0 (f.d0 _ h)
  | .dict [(.str _, d)], _, .dk1 h h2 => .dk1 (f.d1 _ _ _ h) (DvF.kp f d _ h2)
theorem DvF.kpAll {H H' : Hp} (f : Kp H H') : ∀ (ds : List PyData) (vs : List V), DvFAll H vs ds → DvFAll H' vs ds
  | [], _, .nil => .nil
  | d :: ds, _, .cons h hs => .cons (DvF.kp f d _ h) (DvF.kpAll f ds _ hs)
end
/-- shown in at most m signs, of nesting at most n -/
def ShN (n m : Nat) (d : PyData) : Prop := d.showable = true ∧ d.depth ≤ n ∧ d.shown.length ≤ m
theorem ShN.mono {n m n' m' : Nat} {d : PyData} (h : ShN n m d) (a : n ≤ n') (b : m ≤ m') : ShN n' m' d := ⟨h.1, by have := h.2.1; omega, by have := h.2.2; omega⟩
theorem shn_all {n m : Nat} : ∀ l : List PyData, (∀ d ∈ l, ShN n m d) → PyData.showableAll l = true ∧ PyData.depthAll l ≤ n ∧ ((PyData.shownAll l).map (·.length)).sum ≤ m * l.length ∧ (PyData.shownAll l).length = l.length := by
  intro l
  induction l with
  | nil => intro _; exact ⟨rfl, Nat.zero_le _, by simp [PyData.shownAll], rfl⟩
  | cons z r ih =>
    intro h
    obtain ⟨i1, i3, i4, i5⟩ := ih fun y hy => h y (List.mem_cons_of_mem _ hy)
    obtain ⟨z1, z2, z3⟩ := h z (List.mem_cons_self ..)
    refine ⟨?_, ?_, ?_, ?_⟩
    · simp [PyData.showableAll, z1, i1]
    · simp only [PyData.depthAll]
      omega
    · simp only [List.map_cons, PyData.shownAll, List.sum_cons, List.length_cons, Nat.mul_succ]
      omega
    · simp [PyData.shownAll, i5]
theorem shn_lst {n m k : Nat} {ds : List PyData} (h : ∀ d ∈ ds, ShN n m d) (hl : ds.length ≤ k) : ShN (n + 1) (m * k + 2 * k + 3) (.list ds) := by
  obtain ⟨k1, k3, k4, k5⟩ := shn_all ds h
  refine ⟨by simpa [PyData.showable] using k1, by simp only [PyData.depth]; omega, ?_⟩
  have := listText_len_le (PyData.shownAll ds)
  rw [k5] at this
  have h2 : m * ds.length ≤ m * k := Nat.mul_le_mul_left _ hl
  show (listText (PyData.shownAll ds)).length ≤ _
  omega
theorem shn_tup {n m k : Nat} {ds : List PyData} (h : ∀ d ∈ ds, ShN n m d) (hl : ds.length ≤ k) : ShN (n + 1) (m * k + 2 * k + 3) (.tuple ds) := by
  obtain ⟨k1, k3, k4, k5⟩ := shn_all ds h
  refine ⟨by simpa [PyData.showable] using k1, by simp only [PyData.depth]; omega, ?_⟩
  have := tupleText_len_le (PyData.shownAll ds)
  rw [k5] at this
  have h2 : m * ds.length ≤ m * k := Nat.mul_le_mul_left _ hl
  show (tupleText (PyData.shownAll ds)).length ≤ _
  omega
theorem shn_dk {n m : Nat} {d : PyData} (h : ShN n m d) : ShN (n + 1) (m + 40) (.dict [(.str "a", d)]) := by
  obtain ⟨h1, h2, h3⟩ := h
  refine ⟨?_, ?_, ?_⟩
  · simp [PyData.showable, PyData.showableKv, h1]
  · simp only [PyData.depth, PyData.depthKv]
    omega
  · have h4 := dictText_len_le (PyData.shownKv [(.str "a", d)])
    have e : PyData.shownKv [(.str "a", d)] = [(PyData.str "a").shown ++ (": " : Str) ++ d.shown] := rfl
    rw [e] at h4
    have h5 : ((PyData.str "a").shown ++ (": " : Str) ++ d.shown).length = 5 + d.shown.length := by
      rw [Str.length_append, Str.length_append]
      have : (PyData.str "a").shown.length = 3 := by decide +kernel
      have : (": " : Str).length = 2 := by decide +kernel
      omega
    show (dictText [(PyData.str "a").shown ++ (": " : Str) ++ d.shown]).length ≤ _
    simp only [List.map_cons, List.map_nil, List.sum_cons, List.sum_nil, List.length_cons, List.length_nil] at h4
    omega
end Lf
namespace Lf
open PySem PySem.Spec PyProof.Rows L2
/-- the heap without what stands at F -/
def erH (F : Addr) (H : Hp) : Hp := fun a => if a = F then none else H a
theorem erH_kp {F : Addr} {H : Hp} : Kp (erH F H) H := by
  have h : ∀ b (o : HO), erH F H b = some o → H b = some o := fun b o e => by
    unfold erH at e
    by_cases z : b = F
    · rw [if_pos z] at e
      cases e
    · rw [if_neg z] at e
      exact e
  exact ⟨fun b _ e => h b _ e, fun b _ e => h b _ e, fun b e => h b _ e, fun b _ _ e => h b _ e⟩
theorem erH_upd {F : Addr} {H : Hp} {o : HO} : erH F (upd H F o) = erH F H := by
  funext a
  unfold erH
  by_cases z : a = F
  · rw [if_pos z, if_pos z]
  · rw [if_neg z, if_neg z, upd_ne z]
theorem erH_new {F : Addr} {H : Hp} (n : H F = none) : Kp H (erH F H) := by
  have h : ∀ b (o : HO), H b = some o → erH F H b = some o := fun b o e => by
    unfold erH
    rw [if_neg (ne_of_none e n)]
    exact e
  exact ⟨fun b _ e => h b _ e, fun b _ e => h b _ e, fun b e => h b _ e, fun b _ _ e => h b _ e⟩
theorem erH_mono {F : Addr} {H H' : Hp} (k : Kp H H') : Kp (erH F H) (erH F H') := by
  have h : ∀ b (o : HO), erH F H b = some o → b ≠ F ∧ H b = some o := fun b o e => by
    unfold erH at e
    by_cases z : b = F
    · rw [if_pos z] at e
      cases e
    · rw [if_neg z] at e
      exact ⟨z, e⟩
  have g : ∀ b (o : HO), b ≠ F → H' b = some o → erH F H' b = some o := fun b o z e => by
    unfold erH
    rw [if_neg z]
    exact e
  exact ⟨fun b _ e => let ⟨z, e⟩ := h b _ e; g b _ z (k.l _ _ e), fun b _ e => let ⟨z, e⟩ := h b _ e; g b _ z (k.t _ _ e), fun b e => let ⟨z, e⟩ := h b _ e; g b _ z (k.d0 _ e), fun b _ _ e => let ⟨z, e⟩ := h b _ e; g b _ z (k.d1 _ _ _ e)⟩
theorem Kp.refl (H : Hp) : Kp H H := ⟨fun _ _ h => h, fun _ _ h => h, fun _ h => h, fun _ _ _ h => h⟩
end Lf
namespace Lf
open PySem PySem.Spec PyProof.Rows L2
/-! ### what is new since a heap -/
def kept (H : Hp) (b : Addr) : Prop := ∃ o, H b = some o ∧ ∀ q : Addr × Int × Int, o ≠ .dK (penD q.1 q.2.1 q.2.2)
open Classical in
noncomputable def nwH (H H' : Hp) : Hp := fun b => if kept H b then none else H' b
section
variable {H H1 H2 H' : Hp} {b p Y : Addr} {o : HO}
theorem kept.fr (h : kept H b) (f : Fr H H') : kept H' b := let ⟨o, e, n⟩ := h; ⟨o, f.k _ _ e n, n⟩
theorem nw_some : nwH H H' b = some o ↔ ¬ kept H b ∧ H' b = some o := by
  unfold nwH
  by_cases h : kept H b
  · rw [if_pos h]
    exact ⟨fun z => (nomatch z), fun z => absurd h z.1⟩
  · rw [if_neg h]
    exact ⟨fun z => ⟨h, z⟩, fun z => z.2⟩
theorem kp_by {A B : Hp} (h : ∀ b o, A b = some o → (B b = some o)) : Kp A B := ⟨fun b _ e => h b _ e, fun b _ e => h b _ e, fun b e => h b _ e, fun b _ _ e => h b _ e⟩
theorem nw_kp : Kp (nwH H H') H' := kp_by fun _ _ e => (nw_some.mp e).2
theorem nw_mono (f : Fr H H1) : Kp (nwH H1 H') (nwH H H') := kp_by fun _ _ e => let ⟨a, c⟩ := nw_some.mp e; nw_some.mpr ⟨fun z => a (z.fr f), c⟩
theorem er_some : erH Y H b = some o ↔ b ≠ Y ∧ H b = some o := by
  unfold erH
  by_cases h : b = Y
  · rw [if_pos h]
    exact ⟨fun z => (nomatch z), fun z => absurd h z.1⟩
  · rw [if_neg h]
    exact ⟨fun z => ⟨h, z⟩, fun z => z.2⟩
/-- new since H1, so new since H and not Y, which stood at H1 -/
theorem nw_er (f : Fr H H1) (k : kept H1 Y) : Kp (nwH H1 H') (erH Y (nwH H H')) := kp_by fun b _ e =>
  let ⟨a, c⟩ := nw_some.mp e
  er_some.mpr ⟨fun z => a (z ▸ k), nw_some.mpr ⟨fun z => a (z.fr f), c⟩⟩
theorem nw_step (k : Kp H1 H2) : Kp (nwH H H1) (nwH H H2) := by
  refine ⟨fun b _ e => ?_, fun b _ e => ?_, fun b e => ?_, fun b _ _ e => ?_⟩ <;> have h := nw_some.mp e
  · exact nw_some.mpr ⟨h.1, k.l _ _ h.2⟩
  · exact nw_some.mpr ⟨h.1, k.t _ _ h.2⟩
  · exact nw_some.mpr ⟨h.1, k.d0 _ h.2⟩
  · exact nw_some.mpr ⟨h.1, k.d1 _ _ _ h.2⟩
theorem er_nw_upd : erH Y (nwH H (upd H' Y o)) = erH Y (nwH H H') := by
  funext b
  unfold erH nwH
  by_cases h : b = Y
  · rw [if_pos h, if_pos h]
  · rw [if_neg h, if_neg h, upd_ne h]
theorem nw_at (f : Fr H H1) (n : H1 p = none) (e : H' p = some o) : nwH H H' p = some o := by
  refine nw_some.mpr ⟨fun z => ?_, e⟩
  obtain ⟨u, a, b⟩ := z
  rw [f.k _ _ a b] at n
  cases n
theorem kept_lst {xs : List V} (e : H b = some (.lst xs)) : kept H b := ⟨_, e, fun _ z => by cases z⟩
end
end Lf
namespace Lf
open PySem PySem.Spec PyProof.Rows L2
def AnyV (n m : Nat) (H : Hp) (x : V) : Prop := ∃ d, DvF H x d ∧ ShN n m d
def AnyL (n m : Nat) (H : Hp) (xs : List V) : Prop := ∀ x ∈ xs, AnyV n m H x
section
variable {n m n' m' : Nat} {H H' : Hp} {xs ys : List V} {x : V}
theorem AnyV.kp (h : AnyV n m H x) (k : Kp H H') : AnyV n m H' x := let ⟨d, a, b⟩ := h; ⟨d, DvF.kp k _ _ a, b⟩
theorem AnyV.mono (h : AnyV n m H x) (a : n ≤ n') (b : m ≤ m') : AnyV n' m' H x := let ⟨d, c, s⟩ := h; ⟨d, c, s.mono a b⟩
theorem AnyL.kp (h : AnyL n m H xs) (k : Kp H H') : AnyL n m H' xs := fun x hx => (h x hx).kp k
theorem AnyL.same (h : AnyL n m H xs) (s : Same H H') : AnyL n m H' xs := h.kp (Fr.same s).kp
theorem AnyL.mono (h : AnyL n m H xs) (a : n ≤ n') (b : m ≤ m') : AnyL n' m' H xs := fun x hx => (h x hx).mono a b
theorem AnyL.snoc (h : AnyL n m H xs) (o : AnyV n m H x) : AnyL n m H (xs ++ [x]) := fun y hy => by
  rcases List.mem_append.mp hy with hy | hy
  · exact h y hy
  · rw [List.mem_singleton.mp hy]
    exact o
theorem AnyL.app (h : AnyL n m H xs) (h2 : AnyL n m H ys) : AnyL n m H (xs ++ ys) := fun y hy => (List.mem_append.mp hy).elim (h y) (h2 y)
theorem AnyL.nil : AnyL n m H [] := fun _ z => (nomatch z)
theorem AnyL.cons (o : AnyV n m H x) (h : AnyL n m H xs) : AnyL n m H (x :: xs) := fun y hy => by
  rcases List.mem_cons.mp hy with rfl | hy
  · exact o
  · exact h y hy
end
/-- a list of such values, as data -/
theorem anyL_dv {n m : Nat} {H : Hp} : ∀ {xs : List V}, AnyL n m H xs → ∃ ds, DvFAll H xs ds ∧ (∀ d ∈ ds, ShN n m d) ∧ ds.length = xs.length
  | [], _ => ⟨[], .nil, fun _ z => (nomatch z), rfl⟩
  | x :: r, h => by
    obtain ⟨d, a, b⟩ := h x List.mem_cons_self
    obtain ⟨ds, h1, h2, h3⟩ := anyL_dv (xs := r) fun y hy => h y (List.mem_cons_of_mem _ hy)
    exact ⟨d :: ds, .cons a h1, fun e he => by
      rcases List.mem_cons.mp he with rfl | he
      · exact b
      · exact h2 e he, by rw [List.length_cons, List.length_cons, h3]⟩
theorem any_lst {n m k : Nat} {H : Hp} {a : Addr} {xs : List V} (e : H a = some (.lst xs)) (h : AnyL n m H xs) (hl : xs.length ≤ k) : AnyV (n + 1) (m * k + 2 * k + 3) H (.ref a) := by
  obtain ⟨ds, h1, h2, h3⟩ := anyL_dv h
  exact ⟨.list ds, .lst e h1, shn_lst h2 (by omega)⟩
theorem any_tup {n m k : Nat} {H : Hp} {a : Addr} {xs : List V} (e : H a = some (.tup xs)) (h : AnyL n m H xs) (hl : xs.length ≤ k) : AnyV (n + 1) (m * k + 2 * k + 3) H (.ref a) := by
  obtain ⟨ds, h1, h2, h3⟩ := anyL_dv h
  exact ⟨.tuple ds, .tup e h1, shn_tup h2 (by omega)⟩
theorem any_dk {n m : Nat} {H : Hp} {a : Addr} {x : V} (e : H a = some (.dK [(Sum.inr "a", x)])) (h : AnyV n m H x) : AnyV (n + 1) (m + 40) H (.ref a) := by
  obtain ⟨d, h1, h2⟩ := h
  exact ⟨_, .dk1 e h1, shn_dk h2⟩
theorem any_by {n m : Nat} {H : Hp} {x : V} {d : PyData} (h : DvF H x d) (s : (d.showable && (decide (d.depth ≤ n) && decide (d.shown.length ≤ m))) = true) : AnyV n m H x := by
  rw [Bool.and_eq_true, Bool.and_eq_true, decide_eq_true_iff, decide_eq_true_iff] at s
  exact ⟨d, h, s⟩
theorem at_in9 {xs : List V} {d : Int} (h0 : 0 ≤ d) (h1 : d < (xs.length : Int)) : ∃ x, atI xs d = some x ∧ x ∈ xs := by
  obtain ⟨j, rfl⟩ := Int.eq_ofNat_of_zero_le h0
  have hj : j < xs.length := by omega
  exact ⟨_, atI_nat (List.getElem?_eq_getElem hj), List.getElem_mem hj⟩
theorem mergeKa {v : V} : mergeK [] [((Sum.inr ("a" : Str) : Key), v)] = [(Sum.inr ("a" : Str), v)] := rfl
def mB : Nat → Nat
  | 0 => 60
  | k + 1 => 3 * mB k + 60
def pB : Nat → Nat
  | 0 => 1
  | k + 1 => 3 * pB k + 2
theorem mB_ge : ∀ k, 60 ≤ mB k
  | 0 => Nat.le_refl _
  | k + 1 => by
    show 60 ≤ 3 * mB k + 60
    omega
theorem pB_le : ∀ k, k ≤ 3 → pB k ≤ 1000
  | 0, _ => by decide
  | 1, _ => by decide
  | 2, _ => by decide
  | 3, _ => by decide
  | k + 4, h => by omega
section
variable {P : Program} {w : World} {K : PySem.W.Frag} {mg : Str → Option Value} {base : Heap}
def spAnyS : Nat → Sp
  | 0 => fun _ _ _ _ => False
  | k + 1 => fun vs H Q _ => ∃ (a : PA) (n : Nat), vs = [.ref a, .int ((k : Nat) : Int)] ∧ Pen H a n ∧ n + 10000 * k < 2 ^ 37 ∧ k ≤ 3 ∧ ∀ x H', AnyV (2 * k + 3) (mB k) (nwH H H') x → Pen H' a (n + pB k) → Fr H H' → Q x H'
abbrev s_l_anything : Stmt := topS 30
abbrev N_l_anything : List Str := ["_law_pen_here", "_law_deep", "_law_inner", "_law_items", "_law_k"]
abbrev P_l_anything : List Str := ["_law_pen_here", "_law_deep"]
theorem sc_l_anything : FnScope N_l_anything P_l_anything (defScope s_l_anything) := ⟨rfl, rfl, rfl, by decide +kernel, rfl, by decide +kernel, by decide +kernel⟩
theorem any_step (k : Nat) (D : Df K mg "_law_anything" s_l_anything P_l_anything) (B : Bi mg) (c_l_draw : C8.Cal P w K mg base 1 "_law_draw" spDraw []) (c_l_anything : C8.Cal P w K mg base (k + 1) "_law_anything" (spAnyS k) []) : C8.Cal P w K mg base (k + 2) "_law_anything" (spAnyS (k + 1)) [] := by
  refine cal_of D sc_l_anything (fun vs H Q E h => ?_) (fun f cdv A outer s H vs Q E hr h => ?_)
  · obtain ⟨a, n, rfl, _⟩ := h
    rfl
  · obtain ⟨a, n, rfl, hP, hn, k3, kk⟩ := h
    have hr1 := hr
    refine ⟨_, (C8.pss_cut (ps_setLc (i := 2) (own := [("_law_k", 4)]) (g := (gName 4)) (by rfl) sc_l_anything.nd rfl rfl (sw_true rfl rfl rfl (by decide +kernel)) (pi_range1 rfl B.range_ (pa_cons (pe_ifExp (pt_cmpR op_gt (pv 1) pe_int (nomark _)) (C8.pe_c c_l_draw hr (by omega) (by rfl) (pa_cons (pv 0) (pa_cons pe_int pa_nil))) pe_int) pa_nil)) (blkOk_by (own := [("_law_k", 4)]) (N := N_l_anything) (sc := defScope s_l_anything) (by decide +kernel)) (fun _ _ _ _ _ => (pg_name (i := 4) sc_l_anything.nd rfl (Or.inl rfl))) (fun _ _ _ _ _ => pts_nil) (fun _ _ _ _ _ => (C8.pe_c c_l_anything hr (by omega) (by rfl) (pa_cons (pv 0) (pa_cons (pe_op op_sub (pv 1) pe_int) pa_nil)))))
    (C8.pss_cut (ps_set (i := 3) sc_l_anything.nd rfl (Or.inl rfl) (pe_lst (pa_cons pe_non (pa_cons pe_bl (pa_cons pe_bl (pa_cons pe_int (pa_cons pe_int (pa_cons (pe_un un_neg pe_int) (pa_cons pe_int (pa_cons pe_int (pa_cons (pe_op op_pow pe_int pe_int) (pa_cons (pe_un un_neg (pe_op op_pow pe_int pe_int)) (pa_cons pe_str (pa_cons pe_str (pa_cons pe_str (pa_cons pe_str (pa_cons (pe_lst pa_nil) (pa_cons pe_dnewK (pa_cons (pe_tup pa_nil) pa_nil)))))))))))))))))))
    (pss_cons (ps_set (i := 3) sc_l_anything.nd rfl (Or.inl rfl) (pe_op op_cat (pv 3) (pe_lst (pa_cons (pe_callTy (call_tuple_of) (by rfl) B.tuple_ bt_tuple (pa_cons (pv 2) pa_nil)) (pa_cons (pe_callTy (call_tuple_of) (by rfl) B.tuple_ bt_tuple (pa_cons (pv 2) pa_nil)) (pa_cons (pe_callTy (call_list_of) (by rfl) B.list_ bt_list (pa_cons (pv 2) pa_nil)) (pa_cons (pe_disp (pps_cons pe_str (pe_callTy (call_tuple_of) (by rfl) B.tuple_ bt_tuple (pa_cons (pv 2) pa_nil)) pps_nil) (by rfl) (by rfl) (fun z => by cases z) (by decide)) (pa_cons (pe_lst (pa_cons (pe_lst pa_nil) pa_nil)) (pa_cons (pe_tup (pa_cons pe_dnewK pa_nil)) pa_nil)))))))))
    (pss_one (ps_ret (pe_ix (r := rIxL K) ix_list (pv 3) (C8.pe_c c_l_draw hr (by omega) (by rfl) (pa_cons (pv 0) (pa_cons (pe_callB (call_len_seq) (by rfl) B.len_ bt_len (pa_cons (pv 3) pa_nil)) pa_nil))) (fun _ _ => rfl))))))), ?_⟩
    refine ⟨fun σ' H' => ∃ (L : Addr) (xs : List V), σ' = [some (.ref a), some (.int ((k : Nat) : Int)), some (.ref L), none, none] ∧ H' L = some (.lst xs) ∧ AnyL (2 * k + 1) (mB (k - 1)) (nwH H H') xs ∧ xs.length ≤ 3 ∧ Pen H' a (n + (pB k - 1)) ∧ Fr H H' ∧ (k = 0 → xs = []), ?_, ?_⟩
    · cases k with
      | zero =>
        refine ⟨_, rfl, _, _, rfl, rfl, _, rfl, iteFz rfl ⟨_, rfl, by decide, by decide, fun Y nY => ?_⟩⟩
        refine lc_range (lo := 0) (n := (0 : Int).toNat) (fun j H' => H' Y = some (.lst []) ∧ H' = upd H Y (.lst [])) ⟨upd_same, rfl⟩ (fun j _ hj => absurd hj (Nat.not_lt_zero j)) ?_
        rintro H' ⟨eY, rfl⟩
        exact ⟨Y, [], rfl, eY, .nil, by simp, (hP.new nY).mono (by omega), Fr.new nY, fun _ => rfl⟩
      | succ k =>
        refine ⟨_, rfl, _, _, rfl, rfl, _, rfl, iteTs (decide_eq_true (by omega)) ?_⟩
        refine ⟨_, rfl, a, _, _, rfl, hP, by omega, by decide, Bd.small 20 (by decide) (by decide), fun g H4 g0 g1 hP4 f4 => ⟨_, rfl, by omega, by omega, fun Y nY => ?_⟩⟩
        have pk : pB k ≤ 1000 := pB_le k (by omega)
        have hpb : pB (k + 1) = 3 * pB k + 2 := rfl
        refine lc_range (lo := 0) (n := g.toNat) (fun j H' => ∃ xs : List V, H' Y = some (.lst xs) ∧ AnyL (2 * k + 3) (mB k) (erH Y (nwH H H')) xs ∧ xs.length = j ∧ Pen H' a (n + 1 + pB k * j) ∧ Fr H4 H') ⟨[], upd_same, .nil, rfl, hP4.new nY, Fr.new nY⟩ ?_ ?_
        · rintro j H7 hj ⟨xs, eY, aY, lx, hP7, f7⟩
          have jm : pB k * j ≤ 1000 * 3 := Nat.mul_le_mul pk (by omega)
          have jm2 : pB k * (j + 1) = pB k * j + pB k := Nat.mul_succ _ _
          refine ⟨rfl, _, rfl, _, rfl, _, _, rfl, rfl, a, _, ?_, hP7, by omega, by omega, fun x H8 ax hP8 f8 => ?_⟩
          · show [V.ref a.d, V.int (((k + 1 : Nat) : Int) - 1)] = _
            rw [show ((k + 1 : Nat) : Int) - 1 = ((k : Nat) : Int) by omega]
          have eY8 := f8.l _ _ eY
          refine ⟨xs, eY8, small1000 (by omega), xs ++ [x], upd_same, ?_, by rw [List.length_append, lx]; rfl, (hP4.over nY hP8).mono (by omega), (f7.trans f8).over nY⟩
          rw [er_nw_upd]
          exact (aY.kp (erH_mono (nw_step f8.kp))).snoc (ax.kp (nw_er (f4.trans f7) (kept_lst eY)))
        · rintro H7 ⟨xs, eY, aY, lx, hP7, f7⟩
          exact ⟨Y, xs, rfl, eY, aY.kp erH_kp, by omega, hP7.mono (by rw [hpb]; have : pB k * g.toNat ≤ pB k * 3 := Nat.mul_le_mul_left _ (by omega); omega), f4.trans f7, fun z => by omega⟩
    rintro σ' H1 ⟨L, xs, rfl, eL, aL, lx, hP1, f1, x0⟩
    have mg60 := mB_ge k
    have mk : ∀ {Hx : Hp} {x : V} {d : PyData}, DvF Hx x d → (d.showable && (decide (d.depth ≤ 3) && decide (d.shown.length ≤ 60))) = true → AnyV (2 * k + 3) (mB k) Hx x := fun a b => (any_by a b).mono (by omega) mg60
    refine ⟨fun σ' H' => ∃ (O : Addr) (ys : List V), σ' = [some (.ref a), some (.int ((k : Nat) : Int)), some (.ref L), some (.ref O), none] ∧ H' O = some (.lst ys) ∧ AnyL (2 * k + 3) (mB k) (nwH H H') ys ∧ ys.length = 17 ∧ Same H1 H', ?_, ?_⟩
    · refine ⟨1, rfl, _, _, rfl, rfl, ⟨by decide, by decide, by decide⟩, _, _, rfl, rfl, ⟨by decide, by decide, by decide⟩, _, rfl, ?_⟩
      refine ⟨len10 (by simp), fun o1 n1 => ?_⟩
      have z1 := sm_upd (o := .lst []) n1
      refine fun o2 n2 => ?_
      have z2 := sm_upd (o := .dK []) n2
      refine ⟨len10 (by simp), fun o3 n3 => ?_⟩
      have z3 := sm_upd (o := .tup []) n3
      refine ⟨len10 (by simp), fun O nO => ?_⟩
      have zO := sm_upd (o := .lst [.non, .bl true, .bl false, .int 0, .int 1, .int (-1), .int 2, .int 5, .int (10 ^ (40 : Int).toNat), .int (-(10 ^ (40 : Int).toNat)), .str "", .str "a", .str "0", .str "falls", .ref o1, .ref o2, .ref o3]) nO
      have s4 := z1.trans (z2.trans (z3.trans zO))
      have e1 := nw_at f1 n1 ((z2.trans (z3.trans zO)) _ _ (upd_same (H := H1) (a := o1) (o := .lst [])))
      have e2 := nw_at (f1.trans (Fr.same z1)) n2 ((z3.trans zO) _ _ (upd_same (H := upd H1 o1 (.lst [])) (a := o2) (o := .dK [])))
      have e3 := nw_at (f1.trans (Fr.same (z1.trans z2))) n3 (zO _ _ (upd_same (H := upd (upd H1 o1 (.lst [])) o2 (.dK [])) (a := o3) (o := .tup [])))
      refine ⟨O, _, rfl, upd_same, ?_, rfl, s4⟩
      refine .cons (mk .non (by decide +kernel)) (.cons (mk (.bl true) (by decide +kernel)) (.cons (mk (.bl false) (by decide +kernel)) (.cons (mk (.int 0) (by decide +kernel)) (.cons (mk (.int 1) (by decide +kernel)) (.cons (mk (.int (-1)) (by decide +kernel)) (.cons (mk (.int 2) (by decide +kernel)) (.cons (mk (.int 5) (by decide +kernel)) (.cons (mk (.int _) (by decide +kernel)) (.cons (mk (.int _) (by decide +kernel)) ?_)))))))))
      refine .cons (mk (.str "") (by decide +kernel)) (.cons (mk (.str "a") (by decide +kernel)) (.cons (mk (.str "0") (by decide +kernel)) (.cons (mk (.str "falls") (by decide +kernel)) ?_)))
      exact .cons (mk (.lst e1 .nil) (by decide +kernel)) (.cons (mk (.dk0 e2) (by decide +kernel)) (.cons (mk (.tup e3 .nil) (by decide +kernel)) .nil))
    rintro σ' H2 ⟨O, ys, rfl, eO, aO, ly, s2⟩
    have f2 := f1.trans (Fr.same s2)
    have eL2 := s2 _ _ eL
    have aL2 := aL.kp (nw_step (Fr.same s2).kp)
    have hP2 := hP1.same s2
    clear mk
    refine ⟨_, rfl, _, rfl, L, xs, rfl, .inl ⟨SqL.of eL2, fun t1 m1 => ?_⟩⟩
    have z1 := sm_upd (o := .tup xs) m1
    refine ⟨_, rfl, L, xs, rfl, .inl ⟨SqL.of (z1 _ _ eL2), fun t2 m2 => ?_⟩⟩
    have z2 := sm_upd (o := .tup xs) m2
    have z12 := z1.trans z2
    refine ⟨_, rfl, L, xs, rfl, .inl (SqL.of (z12 _ _ eL2)), fun t3 m3 => ?_⟩
    have z3 := sm_upd (o := .lst xs) m3
    have z13 := z12.trans z3
    refine fun t4 m4 => ?_
    have z4 := sm_upd (o := .dK []) m4
    have z14 := z13.trans z4
    refine ⟨_, rfl, L, xs, rfl, .inl ⟨SqL.of (z14 _ _ eL2), fun t5 m5 => ?_⟩⟩
    have z5 := sm_upd (o := .tup xs) m5
    have n45 : t4 ≠ t5 := ne_of_none upd_same m5
    refine ⟨z5 _ _ upd_same, [(Sum.inr "a", .ref t5)], rfl, by show 1 ≤ 15; decide, ?_⟩
    rw [mergeKa]
    have zG : Same H2 (upd (upd (upd (upd (upd (upd H2 t1 (.tup xs)) t2 (.tup xs)) t3 (.lst xs)) t4 (.dK [])) t5 (.tup xs)) t4 (.dK [(Sum.inr "a", .ref t5)])) := fun b x e => by
      rw [upd_ne (ne_of_none (z13 _ _ e) m4)]
      exact z5 _ _ (z14 _ _ e)
    have g1 : upd (upd (upd (upd (upd (upd H2 t1 (.tup xs)) t2 (.tup xs)) t3 (.lst xs)) t4 (.dK [])) t5 (.tup xs)) t4 (.dK [(Sum.inr "a", .ref t5)]) t1 = some (.tup xs) := by
      have e : upd (upd (upd H2 t1 (.tup xs)) t2 (.tup xs)) t3 (.lst xs) t1 = some (.tup xs) := z3 _ _ (z2 _ _ upd_same)
      rw [upd_ne (ne_of_none e m4)]
      exact z5 _ _ (z4 _ _ e)
    have g2 : upd (upd (upd (upd (upd (upd H2 t1 (.tup xs)) t2 (.tup xs)) t3 (.lst xs)) t4 (.dK [])) t5 (.tup xs)) t4 (.dK [(Sum.inr "a", .ref t5)]) t2 = some (.tup xs) := by
      have e : upd (upd (upd H2 t1 (.tup xs)) t2 (.tup xs)) t3 (.lst xs) t2 = some (.tup xs) := z3 _ _ upd_same
      rw [upd_ne (ne_of_none e m4)]
      exact z5 _ _ (z4 _ _ e)
    have g3 : upd (upd (upd (upd (upd (upd H2 t1 (.tup xs)) t2 (.tup xs)) t3 (.lst xs)) t4 (.dK [])) t5 (.tup xs)) t4 (.dK [(Sum.inr "a", .ref t5)]) t3 = some (.lst xs) := by
      rw [upd_ne (ne_of_none upd_same m4)]
      exact z5 _ _ (z4 _ _ upd_same)
    have g5 : upd (upd (upd (upd (upd (upd H2 t1 (.tup xs)) t2 (.tup xs)) t3 (.lst xs)) t4 (.dK [])) t5 (.tup xs)) t4 (.dK [(Sum.inr "a", .ref t5)]) t5 = some (.tup xs) := by
      rw [upd_ne n45.symm, upd_same]
    have g4 := upd_same (H := upd (upd (upd (upd (upd H2 t1 (.tup xs)) t2 (.tup xs)) t3 (.lst xs)) t4 (.dK [])) t5 (.tup xs)) (a := t4) (o := .dK [(Sum.inr "a", .ref t5)])
    have w1 := f2
    have w2 := f2.trans (Fr.same z1)
    have w3 := f2.trans (Fr.same z12)
    have w4 := f2.trans (Fr.same z13)
    have w5 := f2.trans (Fr.same z14)
    generalize upd (upd (upd (upd (upd (upd H2 t1 (.tup xs)) t2 (.tup xs)) t3 (.lst xs)) t4 (.dK [])) t5 (.tup xs)) t4 (.dK [(Sum.inr "a", .ref t5)]) = G at zG g1 g2 g3 g4 g5 ⊢
    have g1 := nw_at w1 m1 g1
    have g2 := nw_at w2 m2 g2
    have g3 := nw_at w3 m3 g3
    have g4 := nw_at w4 m4 g4
    have g5 := nw_at w5 m5 g5
    have fG := f2.trans (Fr.same zG)
    clear w1 w2 w3 w4 w5 z1 z2 z3 z4 z5 z12 z13 z14 n45 m1 m2 m3 m4 m5
    refine ⟨len10 (by simp), fun q1 r1 => ?_⟩
    have v1 := sm_upd (o := .lst []) r1
    refine ⟨len10 (by simp), fun q2 r2 => ?_⟩
    have v2 := sm_upd (o := .lst [.ref q1]) r2
    refine fun q3 r3 => ?_
    have v3 := sm_upd (o := .dK []) r3
    refine ⟨len10 (by simp), fun q4 r4 => ?_⟩
    have v4 := sm_upd (o := .tup [.ref q3]) r4
    refine ⟨len10 (by simp), fun W nW => ?_⟩
    have vW := sm_upd (o := .lst [.ref t1, .ref t2, .ref t3, .ref t4, .ref q2, .ref q4]) nW
    have vv := v1.trans (v2.trans (v3.trans (v4.trans vW)))
    refine ⟨O, W, ys, _, rfl, rfl, (zG.trans vv) _ _ eO, upd_same, len10 (by rw [ly]; show 17 + 6 ≤ 1000; decide), fun O2 nO2 => ?_⟩
    have vO := sm_upd (o := .lst (ys ++ [.ref t1, .ref t2, .ref t3, .ref t4, .ref q2, .ref q4])) nO2
    have q1e := nw_at fG r1 ((v2.trans (v3.trans (v4.trans (vW.trans vO)))) _ _ (upd_same (H := G) (a := q1) (o := .lst [])))
    have q2e := nw_at (fG.trans (Fr.same v1)) r2 ((v3.trans (v4.trans (vW.trans vO))) _ _ (upd_same (H := upd G q1 (.lst [])) (a := q2) (o := .lst [.ref q1])))
    have q3e := nw_at (fG.trans (Fr.same (v1.trans v2))) r3 ((v4.trans (vW.trans vO)) _ _ (upd_same (H := upd (upd G q1 (.lst [])) q2 (.lst [.ref q1])) (a := q3) (o := .dK [])))
    have q4e := nw_at (fG.trans (Fr.same (v1.trans (v2.trans v3)))) r4 ((vW.trans vO) _ _ (upd_same (H := upd (upd (upd G q1 (.lst [])) q2 (.lst [.ref q1])) q3 (.dK [])) (a := q4) (o := .tup [.ref q3])))
    have sv := vv.trans vO
    have ks := nw_step (H := H) (Fr.same sv).kp
    have aLx := (aL2.kp (nw_step (Fr.same zG).kp)).kp ks
    have bd : 2 * k + 1 + 1 ≤ 2 * k + 3 ∧ mB (k - 1) * 3 + 2 * 3 + 3 + 40 ≤ mB k ∨ k = 0 := by
      cases k with
      | zero => exact .inr rfl
      | succ k =>
        refine .inl ⟨by omega, ?_⟩
        show mB k * 3 + 2 * 3 + 3 + 40 ≤ 3 * mB k + 60
        omega
    have a6 : AnyL (2 * k + 3) (mB k) (nwH H (upd (upd (upd (upd (upd (upd G q1 (.lst [])) q2 (.lst [.ref q1])) q3 (.dK [])) q4 (.tup [.ref q3])) W (.lst [.ref t1, .ref t2, .ref t3, .ref t4, .ref q2, .ref q4])) O2 (.lst (ys ++ [.ref t1, .ref t2, .ref t3, .ref t4, .ref q2, .ref q4])))) [.ref t1, .ref t2, .ref t3, .ref t4, .ref q2, .ref q4] := by
      have b2 : AnyV (2 * k + 3) (mB k) _ (.ref q2) := (any_by (n := 3) (m := 60) (.lst q2e (.cons (.lst q1e .nil) .nil)) (by decide +kernel)).mono (by omega) mg60
      have b4 : AnyV (2 * k + 3) (mB k) _ (.ref q4) := (any_by (n := 3) (m := 60) (.tup q4e (.cons (.dk0 q3e) .nil)) (by decide +kernel)).mono (by omega) mg60
      have h1 := ks.t _ _ g1
      have h2 := ks.t _ _ g2
      have h3 := ks.l _ _ g3
      have h4 := ks.d1 _ _ _ g4
      have h5 := ks.t _ _ g5
      rcases bd with ⟨c1, c2⟩ | rfl
      · exact .cons ((any_tup h1 aLx lx).mono (by omega) (by omega)) (.cons ((any_tup h2 aLx lx).mono (by omega) (by omega)) (.cons ((any_lst h3 aLx lx).mono (by omega) (by omega)) (.cons ((any_dk h4 (any_tup h5 aLx lx)).mono (by omega) (by omega)) (.cons b2 (.cons b4 .nil)))))
      · obtain rfl := x0 rfl
        exact .cons (any_by (.tup h1 .nil) (by decide +kernel)) (.cons (any_by (.tup h2 .nil) (by decide +kernel)) (.cons (any_by (.lst h3 .nil) (by decide +kernel)) (.cons (any_by (.dk1 h4 (.tup h5 .nil)) (by decide +kernel)) (.cons b2 (.cons b4 .nil)))))
    have aF := ((aO.kp (nw_step (Fr.same zG).kp)).kp ks).app a6
    have eF := upd_same (H := upd (upd (upd (upd (upd G q1 (.lst [])) q2 (.lst [.ref q1])) q3 (.dK [])) q4 (.tup [.ref q3])) W (.lst [.ref t1, .ref t2, .ref t3, .ref t4, .ref q2, .ref q4])) (a := O2) (o := .lst (ys ++ [.ref t1, .ref t2, .ref t3, .ref t4, .ref q2, .ref q4]))
    have lF : (ys ++ [V.ref t1, .ref t2, .ref t3, .ref t4, .ref q2, .ref q4]).length = 23 := by rw [List.length_append, ly]; rfl
    have hPF := (hP2.same zG).same sv
    have fF := fG.trans (Fr.same sv)
    clear a6 aLx ks q1e q2e q3e q4e v1 v2 v3 v4 vW vO vv g1 g2 g3 g4 g5 aL2 aO
    generalize upd (upd (upd (upd (upd (upd G q1 (.lst [])) q2 (.lst [.ref q1])) q3 (.dK [])) q4 (.tup [.ref q3])) W (.lst [.ref t1, .ref t2, .ref t3, .ref t4, .ref q2, .ref q4])) O2 (.lst (ys ++ [.ref t1, .ref t2, .ref t3, .ref t4, .ref q2, .ref q4])) = GF at *
    generalize ys ++ [V.ref t1, .ref t2, .ref t3, .ref t4, .ref q2, .ref q4] = zs at aF eF lF ⊢
    have pk := pB_le k k3
    refine ⟨_, rfl, _, rfl, _, rfl, O2, _, rfl, .inl (SqL.of eF), a, _, _, rfl, hPF, by omega, by rw [lF]; decide, Bd.small 20 (by rw [lF]; decide) (by decide), fun i H7 i0 i1 hP7 f7 => ?_⟩
    obtain ⟨x, hx, mx⟩ := at_in9 (xs := zs) i0 i1
    refine ⟨O2, _, _, _, rfl, rfl, SqL.of (f7.l _ _ eF), hx, ?_⟩
    have p1 : 1 ≤ pB k := by cases k <;> simp [pB]
    exact kk x H7 ((aF x mx).kp (nw_step f7.kp)) (hP7.mono (by omega)) (fF.trans f7)
theorem ok_l_anything (D : Df K mg "_law_anything" s_l_anything P_l_anything) (B : Bi mg) (c_l_draw : C8.Cal P w K mg base 1 "_law_draw" spDraw []) : C8.Cal P w K mg base 3 "_law_anything" (spAnyS 2) [] := by
  exact  any_step 1 D B c_l_draw (any_step 0 D B c_l_draw (cal_of D sc_l_anything (fun _ _ _ _ h => h.elim) (fun _ _ _ _ _ _ _ _ _ _ h => h.elim)))
end
end Lf
namespace Lf
open PySem PySem.Spec PyProof.Rows L2
/-! ### enumerate of a tuple; of a list or a tuple -/
set_option maxHeartbeats 4000000 in
theorem meets_enum1 {v : Value} {o : Obj} {G : Heap → Prop} (B : Begins v o G) :
    Meets (Builtin.«enumerate.__new__» ⟨[.type "enumerate", v], []⟩) (fun _ R s => G s.heap ∧
      R (.ok (.ret (.ref (s.heap.push o).objs.size))) { s with heap := (s.heap.push o).push { cls := .type "enumerate", data := .fields #[.none, .bool false, .ref s.heap.objs.size, rawInt 0, .none, .none] } }) :=
  .of_wp fun prog w A R s h => by
    obtain ⟨hp, g, d, tk, os⟩ := s
    obtain ⟨h1, h⟩ := h
    have hsub := sub_enumerate
    have q1 : ∀ {A' : Around} {E : Value → Shared → Prop} {Q : Value → Shared → Prop}, Q (.ref hp.objs.size) ⟨hp.push o, g, d, tk, os⟩ → wpAny (model prog w) A' (pyIter v) Q E ⟨hp, g, d, tk, os⟩ :=
      fun q => B.iter prog w _ _ ⟨hp, g, d, tk, os⟩ _ h1 q
    wp_walk using q1
    refine wpAny_stack_any fun st => wpAny_pure ?_
    split
    · rename_i c _ _ _ _ _
      cases (c == Value.type "enumerate")
      · wp_walk using q1
        exact ⟨_, rfl, h⟩
      · wp_walk using q1
        exact ⟨_, rfl, h⟩
    · wp_walk using q1
      exact ⟨_, rfl, h⟩
theorem enum_begins1 {prog : Program} {w : World} {A : Around} {E : Value → Shared → Prop} {s : Shared} {v : Value} {o : Obj} {G : Heap → Prop} {Q : Value → Shared → Prop} (B : Begins v o G) (h1 : G s.heap)
    (h : ∀ h', IsEnum h' (s.heap.objs.size + 1) s.heap.objs.size 0 .none → h'.get? s.heap.objs.size = some o → h'.objs.size = s.heap.objs.size + 2 →
      (∀ b o, s.heap.get? b = some o → h'.get? b = some o) → Q (.ref (s.heap.objs.size + 1)) { s with heap := h' }) :
    wpAny (model prog w) A (call (.type "enumerate") [v]) Q E s := by
  refine callType_new F.called_enumerate (by decide) (F.typeCall_enumerate_1 _) (F.newCall_enumerate_1 _) (fun obj => F.args_object_init_2 obj _) F.entry_enumerate_new
    (meets_enum1 B) ⟨h1, ?_⟩
  have hz : (s.heap.push o).objs.size = s.heap.objs.size + 1 := Heap.size_push ..
  show _ ∧ _
  rw [hz]
  have he : IsEnum ((s.heap.push o).push { cls := .type "enumerate", data := .fields #[.none, .bool false, .ref s.heap.objs.size, rawInt 0, .none, .none] }) (s.heap.objs.size + 1) s.heap.objs.size 0 .none := by
    have := Heap.get?_push_size (s.heap.push o) (o := { cls := .type "enumerate", data := .fields #[.none, .bool false, .ref s.heap.objs.size, rawInt 0, .none, .none] }) rfl
    rw [hz] at this
    exact this
  exact ⟨⟨_, he, rfl⟩, h _ he (Heap.get?_push_of_some _ (Heap.get?_push_size _ B.free)) (by rw [Heap.size_push, hz]) fun b o x => Heap.get?_push_of_some _ (Heap.get?_push_of_some _ x)⟩
def IteT (K : PySem.W.Frag) (a : Addr) : It :=
  ⟨fun i H => ∃ (xs : List V) (x : V), SqT K H a xs ∧ xs[i]? = some x, fun i H v H' => ∃ T x, v = .ref T ∧ H T = none ∧ H' = upd H T (.tup [.int (i : Nat), x]) ∧ ∀ xs, SqT K H a xs → xs[i]? = some x, fun i H => ∃ xs : List V, SqT K H a xs ∧ xs.length = i⟩
theorem turn_enumT {P : Program} {w : World} {K : PySem.W.Frag} {elts : List Expr} {kk : Nat} {tpos : Pos} (a e it : Addr) (ne1 : e ≠ it) (ne2 : a ≠ it) (ne3 : e ≠ a) :
    Turn P w K (.Tuple elts kk tpos) (IteT K a) [e, it] e (fun i h => (∃ old, IsEnum h e it ((i : Nat) : Int) old) ∧ h.IsTupleIter it a i) where
  mem := by simp
  obj := fun i h st b hb => by
    obtain ⟨⟨old, he⟩, ⟨o, ho, hc, hd⟩⟩ := st
    have e' : b = e ∨ b = it := by simpa using hb
    rcases e' with z | z
    · rw [z]; exact ⟨_, he, fun v q => nomatch q⟩
    · rw [z]; exact ⟨o, ho, fun v q => by rw [hd] at q; cases q⟩
  keep := fun i h h' st k => let ⟨⟨old, he⟩, hi⟩ := st; ⟨⟨old, k e (by simp) _ he⟩, hi.at fun o q => k it (by simp) o q⟩
  item := by
    intro X hP hw hK hc i pins s σ H E I hf st hg
    subst hP hw hK
    obtain ⟨⟨old, he⟩, hit⟩ := st
    obtain ⟨xs, x, hq, hx⟩ := hg
    obtain ⟨its, rv, p, hz⟩ := I.tuple hq
    obtain ⟨u, hu, ru⟩ := rv.get hx
    have hel : e < s.heap.objs.size := Heap.lt_size he
    have hil : it < s.heap.objs.size := by obtain ⟨_, q, _⟩ := hit; exact Heap.lt_size q
    have hlt : i < its.toArray.size := by
      have := (List.getElem?_eq_some_iff.mp hu).1
      simpa using this
    have D := Draws.tuple (prog := X.prog) (w := X.w) (A := X.A.in1) (I.ok.hd hc) it a ne2 its.toArray
    refine wpAny_pyNext_enum_itemD D he ⟨hit, p⟩ hlt ne1 (by simp [ne1, ne3]) fun x' h' tk hP ho hit' hT hsz hk => ?_
    have eu : x' = u := by
      have hP : its.toArray[i]? = some x' := hP
      rw [show its.toArray[i]? = some u by simpa using hu] at hP
      exact (Option.some.inj hP).symm
    subst eu
    refine ⟨_, rfl, wpAny_letOwnedTupleGo_enum (s := { s with heap := h', toks := tk + 1 }) ho fun h'' he' sb => ?_⟩
    have hT2 : h''.get? s.heap.objs.size = some { cls := .type "tuple", data := .seq #[.int i tk, x'] } := (sb.2 _ (Nat.ne_of_gt hel)).trans hT
    have new : ObjOk X.prog X.w (upd H s.heap.objs.size (.tup [.int (i : Nat), x])) h'' s.heap.objs.size (.tup [.int (i : Nat), x]) :=
      ⟨by show 2 ≤ sizeLine; decide, [.int i tk, x'], .cons ⟨_, rfl⟩ (.cons ru .nil), ⟨_, hT2, rfl, _, rfl⟩⟩
    have I1 : Inv X pins σ (upd H s.heap.objs.size (.tup [.int (i : Nat), x])) { s with heap := h'', toks := tk + 1 } :=
      I.turnedNew (ch := [e, it]) (fun b ob hb q => (sb.2 b (fun z => hb (by simp [z]))).trans (hk b ob (fun z => hb (by simp [z])) (fun z => hb (by simp [z])) q)) hf (Nat.le_refl _) new
    refine ⟨.ref s.heap.objs.size, _, I1, rfl, ⟨_, x, rfl, I.hok.fresh (Nat.le_refl _), rfl, fun ys hy => by rw [I.tuple_inj hy hq]; exact hx⟩, ⟨⟨x', ?_⟩, hit'.1.at fun o q => (sb.2 it (Ne.symm ne1)).trans q⟩, fun b hb => ?_⟩
    · have e1 : ((i + 1 : Nat) : Int) = (i : Int) + 1 := by omega
      rw [e1]; exact he'
    · have hb' : b < s.heap.objs.size := by
        have e' : b = e ∨ b = it := by simpa using hb
        rcases e' with z | z
        · rw [z]; exact hel
        · rw [z]; exact hil
      rw [upd_ne (Nat.ne_of_lt hb')]
      exact (hf b hb).1
  done := by
    intro X hP hw hK hc i pins s σ H E I hf st hg
    subst hP hw hK
    obtain ⟨⟨old, he⟩, hit⟩ := st
    obtain ⟨xs, hq, hx⟩ := hg
    obtain ⟨its, rv, p, hz⟩ := I.tuple hq
    obtain ⟨f0, f1, f2, f3, f4, f5⟩ := hf it (by simp)
    have hl := rv.length
    have ei : i = its.toArray.size := by
      simp
      omega
    have D := Draws.tuple (prog := X.prog) (w := X.w) (A := X.A.in1) (I.ok.hd hc) it a ne2 its.toArray
    refine wpAny_pyNext_enum_endD D he ⟨ei ▸ hit, p⟩ fun h' eb => ⟨rfl, I.turned (t' := s.toks) (fun b o hb q => eb b o hb q) f0 f1 f3 f4 f5⟩
  self := fun A i s Q E st h => let ⟨⟨_, he⟩, _⟩ := st; wpAny_pyIter_enum he h
/-! ### a list or a tuple -/
def SqB (K : PySem.W.Frag) : Bool → Hp → Addr → List V → Prop
  | true => SqL K
  | false => SqT K
def sqO : Bool → List V → HO
  | true, xs => .lst xs
  | false, xs => .tup xs
theorem SqB.of {K : PySem.W.Frag} {b : Bool} {H : Hp} {a : Addr} {xs : List V} (h : H a = some (sqO b xs)) : SqB K b H a xs := by
  cases b
  · exact SqT.of h
  · exact SqL.of h
def Itb (K : PySem.W.Frag) : Bool → Addr → It
  | true => Itl K
  | false => Itt K
def IteB (K : PySem.W.Frag) : Bool → Addr → It
  | true => Ite K
  | false => IteT K
theorem walk_seq {K : PySem.W.Frag} {b : Bool} {a : Addr} {xs : List V} : Walk (Itb K b a) xs.length (fun H => SqB K b H a xs) (YAt xs) := by
  cases b
  · exact walk_tup
  · exact walk_list
theorem walk_enumT {K : PySem.W.Frag} {a : Addr} {xs : List V} : Walk (IteT K a) xs.length (fun H => SqT K H a xs) (YPair (fun i => some (.int (i : Nat))) (fun i => xs[i]?)) := by
  refine ⟨fun i _ hi q => ⟨xs, xs[i], q, by simp [hi]⟩, fun _ q => ⟨xs, q, rfl⟩, fun i H v H' _ q y => ?_⟩
  obtain ⟨T, x, h1, h2, h3, h4⟩ := y
  exact ⟨T, .int (i : Nat), x, h1, h2, h3, rfl, h4 xs q⟩
theorem walk_enumB {K : PySem.W.Frag} {b : Bool} {a : Addr} {xs : List V} : Walk (IteB K b a) xs.length (fun H => SqB K b H a xs) (YPair (fun i => some (.int (i : Nat))) (fun i => xs[i]?)) := by
  cases b
  · exact walk_enumT
  · exact walk_enum
def iSeq (K : PySem.W.Frag) (tl : TE) : TI := fun σ H R => tl σ H fun x H1 => ∃ a b xs, x = .ref a ∧ SqB K b H1 a xs ∧ R (Itb K b a) H1
theorem pi_seq {X : Cx} {tg l : Expr} {tl : TE} (hl : PE X l tl) : PI X tg l (iSeq X.K tl) := by
  refine ⟨fun pins s σ H R I h => ?_⟩
  refine thn (hl.run pins s σ H _ I h) fun v s1 ⟨x, H1, I1, r1, q1⟩ => ?_
  obtain ⟨a, b, xs, e, hq, q⟩ := q1
  subst e
  cases r1
  cases b with
  | true =>
    obtain ⟨its, rv, p, hz⟩ := I1.list hq
    refine wpAny_pyIter_list p.isList ?_
    refine ⟨s1.heap.objs.size, [s1.heap.objs.size], _, _, H1, rfl, I1.kept (t' := s1.toks) fun b o e => Heap.get?_push_of_some _ e, turn_list a _, ⟨_, Heap.get?_push_size _ rfl, rfl, rfl⟩, fun b hb => ?_, q⟩
    have e : b = s1.heap.objs.size := by simpa using hb
    subst e
    exact I1.fpOk (Nat.le_refl _) (I1.hok.fresh (Nat.le_refl _))
  | false =>
    obtain ⟨its, rv, p, hz⟩ := I1.tuple hq
    refine wpAny_pyIter_tuple (show s1.heap.IsTuple a its.toArray from p) ?_
    refine ⟨s1.heap.objs.size, [s1.heap.objs.size], _, _, H1, rfl, I1.kept (t' := s1.toks) fun b o e => Heap.get?_push_of_some _ e, turn_tuple a _, ⟨_, Heap.get?_push_size _ rfl, rfl, rfl⟩, fun b hb => ?_, q⟩
    have e : b = s1.heap.objs.size := by simpa using hb
    subst e
    exact I1.fpOk (Nat.le_refl _) (I1.hok.fresh (Nat.le_refl _))
def iEnumB (K : PySem.W.Frag) (ta : TA) : TI := fun σ H R => ta σ H fun vs H1 => ∃ a b xs, vs = [.ref a] ∧ SqB K b H1 a xs ∧ R (IteB K b a) H1
theorem pi_enumB {X : Cx} {e : Expr} {ta : TA} {p pos tpos : Pos} {elts : List Expr} {kk : Nat} (hg : Gl X "enumerate") (hm : X.mg "enumerate" = none) (ha : L2.PA X [e] ta) (hs : starEach [e] X.env = [(false, eval e X.env)] := by rfl) :
    PI X (.Tuple elts kk tpos) (.Call (.Name "enumerate" p) [e] [] pos) (iEnumB X.K ta) := by
  refine ⟨fun pins s σ H R I h => ?_⟩
  refine Call_ (ld_blt I hg hm boot_enumerate (PyProof.Rows.callWith_type1 (thn (ha.run pos pins s σ H _ I h) fun us s1 ⟨vs, H1, I1, r1, q1⟩ => ?_) hs rfl))
  obtain ⟨a, b, xs, ex, hq, q⟩ := q1
  subst ex
  cases r1 with
  | cons r rr =>
    cases rr
    cases r
    cases b with
    | true =>
      obtain ⟨its, rv, p', hz⟩ := I1.list hq
      refine call_enumerate_list p'.isList fun h' he hit hsz hk => wpAny_pyIter_enum he ?_
      have I2 : Inv X pins σ H1 { s1 with heap := h' } := I1.kept (t' := s1.toks) hk
      refine ⟨s1.heap.objs.size + 1, [s1.heap.objs.size + 1, s1.heap.objs.size], _, _, H1, rfl, I2, turn_enum a (s1.heap.objs.size + 1) s1.heap.objs.size, ⟨⟨.none, he⟩, hit, Nat.succ_ne_self _⟩, fun b hb => ?_, q⟩
      have e' : b = s1.heap.objs.size + 1 ∨ b = s1.heap.objs.size := by simpa using hb
      have hle : s1.heap.objs.size ≤ b := by
        rcases e' with z | z
        · rw [z]; exact Nat.le_add_right _ _
        · rw [z]; exact Nat.le_refl _
      exact I1.fpOk hle (I1.hok.fresh hle)
    | false =>
      obtain ⟨its, rv, p', hz⟩ := I1.tuple hq
      have hal : a < s1.heap.objs.size := by
        obtain ⟨_, q, _⟩ := p'
        exact Heap.lt_size q
      refine enum_begins1 (begins_tuple a its.toArray) p' fun h' he hit hsz hk => wpAny_pyIter_enum he ?_
      have I2 : Inv X pins σ H1 { s1 with heap := h' } := I1.kept (t' := s1.toks) hk
      refine ⟨s1.heap.objs.size + 1, [s1.heap.objs.size + 1, s1.heap.objs.size], _, _, H1, rfl, I2, turn_enumT a (s1.heap.objs.size + 1) s1.heap.objs.size (Nat.succ_ne_self _) (Nat.ne_of_lt hal) (Nat.ne_of_gt (Nat.lt_succ_of_lt hal)), ⟨⟨.none, he⟩, ⟨_, hit, rfl, rfl⟩⟩, fun b hb => ?_, q⟩
      have e' : b = s1.heap.objs.size + 1 ∨ b = s1.heap.objs.size := by simpa using hb
      have hle : s1.heap.objs.size ≤ b := by
        rcases e' with z | z
        · rw [z]; exact Nat.le_add_right _ _
        · rw [z]; exact Nat.le_refl _
      exact I1.fpOk hle (I1.hok.fresh hle)
end Lf
namespace Lf
open PySem PySem.Spec PyProof.Rows L2
theorem kit_lt {K : PySem.W.Frag} : PySem.W.kitAny K (.type "list") [.type "list", .type "tuple"] = some true :=
  kitAny_cons (b := true) (kit_ty (by decide +kernel)) (fun z => by cases z) (fun _ => rfl)
def isLT : PyData → Bool
  | .list _ => true
  | .tuple _ => true
  | _ => false
theorem kit_ltD {K : PySem.W.Frag} (d : PyData) : PySem.W.kitAny K (.type (tyN d)) [.type "list", .type "tuple"] = some (isLT d) := by
  cases d
  · exact kitAny_cons (b := false) (kit_ty (by show kitB "NoneType" "list" = some false; decide +kernel)) (fun _ => kitAny_cons (b := false) (kit_ty (by show kitB "NoneType" "tuple" = some false; decide +kernel)) (fun _ => rfl) (fun z => by cases z)) (fun z => by cases z)
  · exact kitAny_cons (b := false) (kit_ty (by show kitB "bool" "list" = some false; decide +kernel)) (fun _ => kitAny_cons (b := false) (kit_ty (by show kitB "bool" "tuple" = some false; decide +kernel)) (fun _ => rfl) (fun z => by cases z)) (fun z => by cases z)
  · exact kitAny_cons (b := false) (kit_ty (by show kitB "int" "list" = some false; decide +kernel)) (fun _ => kitAny_cons (b := false) (kit_ty (by show kitB "int" "tuple" = some false; decide +kernel)) (fun _ => rfl) (fun z => by cases z)) (fun z => by cases z)
  · exact kitAny_cons (b := false) (kit_ty (by show kitB "str" "list" = some false; decide +kernel)) (fun _ => kitAny_cons (b := false) (kit_ty (by show kitB "str" "tuple" = some false; decide +kernel)) (fun _ => rfl) (fun z => by cases z)) (fun z => by cases z)
  · exact kit_lt
  · exact kitAny_cons (b := false) (kit_ty (by show kitB "tuple" "list" = some false; decide +kernel)) (fun _ => kitAny_cons (b := true) (kit_ty ktt) (fun z => by cases z) (fun _ => rfl)) (fun z => by cases z)
  · exact kitAny_cons (b := false) (kit_ty (by show kitB "dict" "list" = some false; decide +kernel)) (fun _ => kitAny_cons (b := false) (kit_ty (by show kitB "dict" "tuple" = some false; decide +kernel)) (fun _ => rfl) (fun z => by cases z)) (fun z => by cases z)
theorem SqB.or {K : PySem.W.Frag} {b : Bool} {H : Hp} {a : Addr} {xs : List V} (h : SqB K b H a xs) : SqL K H a xs ∨ SqT K H a xs := by
  cases b
  · exact .inr h
  · exact .inl h
def rIxB (K : PySem.W.Frag) : R2 := fun x y H Q => ∃ p b xs i v, x = .ref p ∧ y = .int i ∧ SqB K b H p xs ∧ atI xs i = some v ∧ Q v H
theorem ix_B {X : Cx} : IxR X (rIxB X.K) := by
  intro value slice pins s σ H x y v u Q I rx ry h hs
  obtain ⟨p, b, xs, i, z, h1, h2, h3, h4, q⟩ := h
  cases b with
  | true => exact ix_list value slice pins s σ H x y v u Q I rx ry ⟨p, xs, i, z, h1, h2, h3, h4, q⟩ hs
  | false => exact ix_tup value slice pins s σ H x y v u Q I rx ry ⟨p, xs, i, z, h1, h2, h3, h4, q⟩ hs
theorem sq_kp {H H' : Hp} (f : Kp H H') {a : Addr} {kb : Bool} {xs : List V} (e : H a = some (sqO kb xs)) : H' a = some (sqO kb xs) := by
  cases kb
  · exact f.t _ _ e
  · exact f.l _ _ e
def sqD : Bool → List PyData → PyData
  | true, ds => .list ds
  | false, ds => .tuple ds
theorem sqD_inj {kb kc : Bool} {ds es : List PyData} (h : sqD kb ds = sqD kc es) : ds = es := by
  cases kb <;> cases kc
  · exact PyData.tuple.inj h
  · cases h
  · cases h
  · exact PyData.list.inj h
theorem ints_inj {is js : List Int} (h : is.map PyData.int = js.map PyData.int) : is = js := by
  induction is generalizing js with
  | nil =>
    cases js with
    | nil => rfl
    | cons _ _ => cases h
  | cons i r ih =>
    cases js with
    | nil => cases h
    | cons j q =>
      have h := List.cons.inj h
      cases h.1
      rw [ih h.2]
theorem dva_at {H : Hp} {vs : List V} {ds : List PyData} (h : DvAll H vs ds) : ∀ {i : Nat} {x : V}, vs[i]? = some x → ∃ d, ds[i]? = some d ∧ Dv H x d := by
  intro i x hx
  induction i generalizing vs ds with
  | zero =>
    cases h with
    | nil => cases hx
    | cons g _ =>
      cases hx
      exact ⟨_, rfl, g⟩
  | succ i ih =>
    cases h with
    | nil => cases hx
    | cons _ g => exact ih g hx
theorem dva_len9 {H : Hp} {vs : List V} {ds : List PyData} (h : DvAll H vs ds) : vs.length = ds.length := by
  induction vs generalizing ds with
  | nil =>
    cases h
    rfl
  | cons v vs ih =>
    cases h with
    | cons _ g => rw [List.length_cons, List.length_cons, ih g]
theorem dv_sq {H : Hp} {v : V} {d : PyData} (h : Dv H v d) (e : isLT d = true) : ∃ (a : Addr) (kb : Bool) (xs : List V) (es : List PyData), v = .ref a ∧ d = sqD kb es ∧ H a = some (sqO kb xs) ∧ DvAll H xs es := by
  cases h with
  | lst _ g hs => exact ⟨_, true, _, _, rfl, rfl, g, hs⟩
  | tup g hs => exact ⟨_, false, _, _, rfl, rfl, g, hs⟩
  | _ => cases e
theorem dva_ints {H : Hp} : ∀ {ns : List Int} {vs : List V}, DvAll H vs (ns.map PyData.int) → vs = ns.map V.int
  | [], _, h => by
    cases h
    rfl
  | n :: r, _, h => by
    cases h with
    | cons h0 h1 =>
      cases h0
      rw [dva_ints h1]
      rfl
theorem dv_ints {H : Hp} {v : V} {kc : Bool} {is : List Int} (h : Dv H v (sqD kc (is.map PyData.int))) : ∃ J, v = .ref J ∧ H J = some (sqO kc (is.map V.int)) := by
  obtain ⟨a, kb, xs, es, rfl, e, ea, hs⟩ := dv_sq h (by cases kc <;> rfl)
  have ek : kc = kb := by cases kc <;> cases kb <;> first | rfl | cases e
  subst ek
  have e := sqD_inj e
  subst e
  rw [dva_ints hs] at ea
  exact ⟨a, rfl, ea⟩
end Lf
namespace Lf
open PySem PySem.Spec PyProof.Rows L2
/-! ### rules whose events repeat a list -/
def pS (l : List Int) (j : Nat) : Int := (l.take j).sum
theorem pS_zero (l : List Int) : pS l 0 = 0 := rfl
theorem pS_succ {l : List Int} {j : Nat} {x : Int} (h : l[j]? = some x) : pS l (j + 1) = pS l j + x := by
  unfold pS
  rw [List.take_add_one, h, List.sum_append]
  simp
theorem pS_all (l : List Int) : pS l l.length = l.sum := by
  unfold pS
  rw [List.take_length]
theorem pS_two {l : List Int} {j : Nat} (h : j ≤ l.length) : pS (l ++ l) j = pS l j := by
  unfold pS
  rw [List.take_append_of_le_length h]
theorem pS_far {l : List Int} {j : Nat} (h : j ≤ l.length) : pS (l ++ l) (l.length + j) = l.sum + pS l j := by
  unfold pS
  rw [List.take_length_add_append, List.sum_append]
structure CycR (ns : List Int) (p q c : Int) : Prop where
  p0 : 0 ≤ p
  q1 : 1 ≤ q
  g : Int.gcd p q = 1
  sm : q * ns.sum = p * ns.length
  c0 : 0 ≤ c
  cq : c < q
  at_ : ∀ t : Nat, t ≤ ns.length → (p * t + c) / q = pS ns t
theorem CycR.far {ns : List Int} {p q c : Int} (h : CycR ns p q c) (z : Int) {t : Nat} (ht : t ≤ ns.length) : (p * (ns.length * z + t) + c) / q = ns.sum * z + pS ns t := by
  have e : p * (ns.length * z + t) + c = (p * t + c) + q * (ns.sum * z) := by
    have := h.sm
    have e1 : q * (ns.sum * z) = (q * ns.sum) * z := by rw [Int.mul_assoc]
    have e2 : p * (ns.length * z + t) = (p * ns.length) * z + p * t := by rw [Int.mul_add, Int.mul_assoc]
    rw [e1, e2, this]
    omega
  rw [e, Int.add_mul_ediv_left _ _ (by have := h.q1; omega), h.at_ t ht]
  omega
def phi (ns : List Int) (p q : Int) (t : Nat) : Int := q * pS ns t - p * t
theorem cyc_of {ns : List Int} {p q M : Int} (p0 : 0 ≤ p) (q1 : 1 ≤ q) (g : Int.gcd p q = 1) (sm : q * ns.sum = p * ns.length) (ub : ∀ t, t ≤ ns.length → phi ns p q t ≤ M) (lb : ∀ t, t ≤ ns.length → M < phi ns p q t + q) : CycR ns p q M := by
  have z0 : phi ns p q 0 = 0 := by
    unfold phi
    rw [pS_zero]
    simp
  have u0 := ub 0 (Nat.zero_le _)
  have l0 := lb 0 (Nat.zero_le _)
  refine ⟨p0, q1, g, sm, by omega, by omega, fun t ht => ?_⟩
  have u := ub t ht
  have l := lb t ht
  unfold phi at u l
  rw [show p * (t : Int) + M = (M - (q * pS ns t - p * t)) + q * pS ns t by omega, Int.add_mul_ediv_left _ _ (by omega), Int.ediv_eq_zero_of_lt (by omega) (by omega)]
  omega
theorem CycR.ub {ns : List Int} {p q c : Int} (h : CycR ns p q c) {t : Nat} (ht : t ≤ ns.length) : phi ns p q t ≤ c ∧ c < phi ns p q t + q := by
  have e := h.at_ t ht
  have q1 := h.q1
  have m := Int.emod_add_mul_ediv (p * t + c) q
  have r0 := Int.emod_nonneg (p * t + c) (show q ≠ 0 by omega)
  have r1 := Int.emod_lt_of_pos (p * t + c) (show 0 < q by omega)
  rw [e] at m
  unfold phi
  omega
theorem dvd_cop {a b c : Int} (h : a ∣ b * c) (g : Int.gcd b a = 1) : a ∣ c := by
  have n1 : a.natAbs ∣ b.natAbs * c.natAbs := by
    rw [← Int.natAbs_mul]
    exact Int.natAbs_dvd_natAbs.mpr h
  have n2 : Nat.Coprime a.natAbs b.natAbs := by
    unfold Nat.Coprime
    rw [Nat.gcd_comm]
    exact g
  exact Int.natAbs_dvd_natAbs.mp (Nat.Coprime.dvd_of_dvd_mul_left n2 n1)
theorem bez (m n : Nat) : ∃ x y : Int, (Nat.gcd m n : Int) = m * x + n * y := by
  induction m, n using Nat.gcd.induction with
  | H0 n =>
    refine ⟨0, 1, ?_⟩
    rw [Nat.gcd_zero_left]
    simp
  | H1 m n hm ih =>
    obtain ⟨x, y, e⟩ := ih
    refine ⟨y - (n / m : Nat) * x, x, ?_⟩
    rw [Nat.gcd_rec, e]
    have d := Nat.mod_add_div n m
    have d2 : ((n % m : Nat) : Int) = (n : Int) - m * ((n / m : Nat) : Int) := by
      have : ((n % m + m * (n / m) : Nat) : Int) = (n : Int) := by rw [d]
      rw [Int.natCast_add, Int.natCast_mul] at this
      omega
    rw [d2]
    grind
theorem low_uniq {p q p' q' a n : Int} (q1 : 1 ≤ q) (q'1 : 1 ≤ q') (p0 : 0 ≤ p) (p'0 : 0 ≤ p') (g : Int.gcd p q = 1) (g' : Int.gcd p' q' = 1) (n1 : 1 ≤ n) (h : q * a = p * n) (h' : q' * a = p' * n) : p = p' ∧ q = q' := by
  have e : p * q' = p' * q := by
    have e1 : n * (p * q') = n * (p' * q) := by
      have a1 : n * (p * q') = q' * (p * n) := by grind
      have a2 : n * (p' * q) = q * (p' * n) := by grind
      rw [a1, a2, ← h, ← h']
      grind
    exact Int.eq_of_mul_eq_mul_left (by omega) e1
  have d1 : q ∣ q' := by
    have : q ∣ p * q' := ⟨p', by rw [e, Int.mul_comm]⟩
    exact dvd_cop this g
  have d2 : q' ∣ q := by
    have : q' ∣ p' * q := ⟨p, by rw [← e, Int.mul_comm]⟩
    exact dvd_cop this g'
  have l1 := Int.le_of_dvd (by omega) d1
  have l2 := Int.le_of_dvd (by omega) d2
  have eq : q = q' := by omega
  subst eq
  exact ⟨Int.eq_of_mul_eq_mul_right (by omega) e, rfl⟩
/-- whether a rule repeats the list -/
def HasR (ns : List Int) : Prop := ∃ p q c, CycR ns p q c
/-- the rule that is given: its number is the greatest of the phases -/
structure CycM (ns : List Int) (p q c : Int) : Prop where
  r : CycR ns p q c
  hit : ∃ t, t ≤ ns.length ∧ phi ns p q t = c
theorem CycM.uniq {ns : List Int} {p q c p' q' c' : Int} (h : CycM ns p q c) (h' : CycM ns p' q' c') (n1 : 1 ≤ ns.length) : p = p' ∧ q = q' ∧ c = c' := by
  obtain ⟨rfl, rfl⟩ := low_uniq h.r.q1 h'.r.q1 h.r.p0 h'.r.p0 h.r.g h'.r.g (show 1 ≤ (ns.length : Int) by omega) h.r.sm h'.r.sm
  obtain ⟨t, ht, e⟩ := h.hit
  obtain ⟨t', ht', e'⟩ := h'.hit
  have := (h'.r.ub ht).1
  have := (h.r.ub ht').1
  exact ⟨rfl, rfl, by omega⟩
/-- a rule that is not given by another one -/
theorem no_rule {ns : List Int} {p q : Int} (p0 : 0 ≤ p) (q1 : 1 ≤ q) (g : Int.gcd p q = 1) (n1 : 1 ≤ ns.length) (sm : q * ns.sum = p * ns.length) {s t : Nat} (hs : s ≤ ns.length) (ht : t ≤ ns.length) (h : phi ns p q s + q ≤ phi ns p q t) : ¬ HasR ns := by
  rintro ⟨p', q', c', h'⟩
  obtain ⟨rfl, rfl⟩ := low_uniq q1 h'.q1 p0 h'.p0 g h'.g (show 1 ≤ (ns.length : Int) by omega) sm h'.sm
  have := (h'.ub hs).2
  have := (h'.ub ht).1
  omega
/-! ### windows of the list, round -/
def smN (f : Nat → Int) : Nat → Int
  | 0 => 0
  | n + 1 => smN f n + f n
theorem smN_shift (f : Nat → Int) : ∀ n, smN (fun k => f (k + 1)) n = smN f n + f n - f 0
  | 0 => by show (0 : Int) = 0 + f 0 - f 0; omega
  | n + 1 => by
    show smN (fun k => f (k + 1)) n + f (n + 1) = smN f n + f n + f (n + 1) - f 0
    rw [smN_shift f n]
    omega
theorem smN_round {f : Nat → Int} {n : Nat} (h : ∀ k, k < n → f (n + k) = f k) : ∀ w, w ≤ n → smN (fun k => f (k + w)) n = smN f n
  | 0, _ => rfl
  | w + 1, hw => by
    have e := smN_shift (fun k => f (k + w)) n
    have e2 : (fun k => f (k + 1 + w)) = fun k => f (k + (w + 1)) := funext fun k => by rw [show k + 1 + w = k + (w + 1) by omega]
    have e : smN (fun k => f (k + 1 + w)) n = smN (fun k => f (k + w)) n + f (n + w) - f (0 + w) := e
    rw [e2] at e
    rw [e, smN_round h w (by omega), h w (by omega), Nat.zero_add]
    omega
theorem smN_le {f g : Nat → Int} : ∀ {n}, (∀ k, k < n → f k ≤ g k) → smN f n ≤ smN g n
  | 0, _ => Int.le_refl _
  | n + 1, h => by
    have := smN_le (n := n) fun k hk => h k (by omega)
    have := h n (by omega)
    show smN f n + f n ≤ smN g n + g n
    omega
theorem smN_lt {f g : Nat → Int} : ∀ {n b}, b < n → (∀ k, k < n → f k ≤ g k) → f b < g b → smN f n < smN g n
  | 0, _, hb, _, _ => by omega
  | n + 1, b, hb, h, hl => by
    have l1 := smN_le (f := f) (g := g) (n := n) fun k hk => h k (by omega)
    have l2 := h n (by omega)
    show smN f n + f n < smN g n + g n
    by_cases e : b = n
    · subst e
      omega
    · have := smN_lt (n := n) (b := b) (by omega) (fun k hk => h k (by omega)) hl
      omega
theorem ex_max (f : Nat → Int) : ∀ n, ∃ t, t ≤ n ∧ ∀ s, s ≤ n → f s ≤ f t
  | 0 => ⟨0, Nat.le_refl _, fun s hs => by rw [show s = 0 by omega]; exact Int.le_refl _⟩
  | n + 1 => by
    obtain ⟨t, ht, h⟩ := ex_max f n
    by_cases c : f t ≤ f (n + 1)
    · refine ⟨n + 1, Nat.le_refl _, fun s hs => ?_⟩
      by_cases e : s = n + 1
      · rw [e]
        exact Int.le_refl _
      · exact Int.le_trans (h s (by omega)) c
    · refine ⟨t, by omega, fun s hs => ?_⟩
      by_cases e : s = n + 1
      · rw [e]
        omega
      · exact h s (by omega)
def gain (ns : List Int) (w k : Nat) : Int := pS (ns ++ ns) (k + w) - pS (ns ++ ns) k
def WinR (ns : List Int) : Prop := ∀ w, 1 ≤ w → w < ns.length → ∀ k k', k < ns.length → k' < ns.length → gain ns w k - gain ns w k' ≤ 1
theorem CycR.both {ns : List Int} {p q c : Int} (h : CycR ns p q c) {j : Nat} (hj : j ≤ 2 * ns.length) : (p * j + c) / q = pS (ns ++ ns) j := by
  by_cases le : j ≤ ns.length
  · rw [h.at_ j le, pS_two le]
  · obtain ⟨m, rfl⟩ : ∃ m, j = ns.length + m := ⟨j - ns.length, by omega⟩
    have hm : m ≤ ns.length := by omega
    rw [pS_far hm]
    have := h.far 1 hm
    rw [Int.mul_one, Int.mul_one] at this
    rw [← this]
    congr 2
theorem CycR.win {ns : List Int} {p q c : Int} (h : CycR ns p q c) : WinR ns := fun w w1 wn k k' hk hk' => by
  have q1 := h.q1
  have F : ∀ j : Nat, j ≤ 2 * ns.length → ∃ r : Int, 0 ≤ r ∧ r < q ∧ q * pS (ns ++ ns) j = p * j + c - r := fun j hj => by
    have m := Int.emod_add_mul_ediv (p * j + c) q
    rw [h.both hj] at m
    exact ⟨(p * j + c) % q, Int.emod_nonneg _ (by omega), Int.emod_lt_of_pos _ (by omega), by omega⟩
  obtain ⟨r1, a1, b1, e1⟩ := F (k + w) (by omega)
  obtain ⟨r2, a2, b2, e2⟩ := F k (by omega)
  obtain ⟨r3, a3, b3, e3⟩ := F (k' + w) (by omega)
  obtain ⟨r4, a4, b4, e4⟩ := F k' (by omega)
  have m1 : p * ((k + w : Nat) : Int) = p * k + p * w := by rw [Int.natCast_add, Int.mul_add]
  have m2 : p * ((k' + w : Nat) : Int) = p * k' + p * w := by rw [Int.natCast_add, Int.mul_add]
  unfold gain
  have key : q * (pS (ns ++ ns) (k + w) - pS (ns ++ ns) k - (pS (ns ++ ns) (k' + w) - pS (ns ++ ns) k')) < q * 2 := by
    rw [Int.mul_sub, Int.mul_sub, Int.mul_sub, e1, e2, e3, e4, m1, m2]
    omega
  have := Int.lt_of_mul_lt_mul_left key (by omega)
  omega
theorem win_cyc {ns : List Int} (n1 : 1 ≤ ns.length) (s0 : 0 ≤ ns.sum) (h : WinR ns) : HasR ns := by
  -- the numbers in lowest terms
  have n0 : (1 : Int) ≤ ns.length := by omega
  have g0 : 0 < (Int.gcd ns.sum ns.length : Int) := by
    have := Int.gcd_pos_of_ne_zero_right ns.sum (show (ns.length : Int) ≠ 0 by omega)
    omega
  obtain ⟨p, hp⟩ := Int.gcd_dvd_left ns.sum ns.length
  obtain ⟨q, hq⟩ := Int.gcd_dvd_right ns.sum ns.length
  have gp : Int.gcd p q = 1 := by
    have e := Int.gcd_mul_left (Int.gcd ns.sum ns.length : Int) p q
    rw [← hp, ← hq, Int.natAbs_natCast] at e
    exact Nat.eq_of_mul_eq_mul_left (by omega : 0 < Int.gcd ns.sum ns.length) (by omega)
  have q1 : 1 ≤ q := by
    rcases Int.lt_or_le q 1 with z | z
    · have := Int.mul_le_mul_of_nonneg_left (show q ≤ 0 by omega) (Int.le_of_lt g0)
      omega
    · exact z
  have p0 : 0 ≤ p := by
    rcases Int.lt_or_le p 0 with z | z
    · have := Int.mul_lt_mul_of_pos_left z g0
      omega
    · exact z
  have sm : q * ns.sum = p * ns.length := by
    have e1 : q * ns.sum = q * ((Int.gcd ns.sum ns.length : Int) * p) := by rw [← hp]
    have e2 : p * (ns.length : Int) = p * ((Int.gcd ns.sum ns.length : Int) * q) := by rw [← hq]
    rw [e1, e2]
    grind
  generalize (Int.gcd ns.sum ns.length : Int) = gg at hp hq g0
  clear hp hq g0 gg
  obtain ⟨a, ha, ma⟩ := ex_max (phi ns p q) ns.length
  refine ⟨p, q, phi ns p q a, cyc_of p0 q1 gp sm ma fun b hb => ?_⟩
  refine Int.not_le.mp fun le => ?_
  -- the phases, round
  let f : Nat → Int := fun j => q * pS (ns ++ ns) j - p * j
  have f1 : ∀ j, j ≤ ns.length → f j = phi ns p q j := fun j hj => by
    show q * pS (ns ++ ns) j - p * j = q * pS ns j - p * j
    rw [pS_two hj]
  have f2 : ∀ j, j ≤ ns.length → f (ns.length + j) = f j := fun j hj => by
    show q * pS (ns ++ ns) (ns.length + j) - p * ((ns.length + j : Nat) : Int) = q * pS (ns ++ ns) j - p * j
    rw [pS_far hj, pS_two hj, Int.natCast_add, Int.mul_add, Int.mul_add]
    omega
  have fw : ∀ w k, f (k + w) - f k = q * gain ns w k - p * w := fun w k => by
    show q * pS (ns ++ ns) (k + w) - p * ((k + w : Nat) : Int) - (q * pS (ns ++ ns) k - p * k) = q * (pS (ns ++ ns) (k + w) - pS (ns ++ ns) k) - p * w
    rw [Int.natCast_add, Int.mul_add, Int.mul_sub]
    omega
  have fn : f ns.length = f 0 := f2 0 (Nat.zero_le _)
  -- the same two within the list
  have low : ∀ j, j ≤ ns.length → ∃ j', j' < ns.length ∧ f j' = phi ns p q j := fun j hj => by
    by_cases e : j = ns.length
    · refine ⟨0, by omega, ?_⟩
      rw [← fn, f1 _ (Nat.le_refl _), e]
    · exact ⟨j, by omega, f1 j hj⟩
  obtain ⟨a', a'l, ea⟩ := low a ha
  obtain ⟨b', b'l, eb⟩ := low b hb
  have gap : f b' + q ≤ f a' := by omega
  have ne : a' ≠ b' := fun e => by rw [e] at gap; omega
  obtain ⟨w, w1, wn, hw⟩ : ∃ w, 1 ≤ w ∧ w < ns.length ∧ f (b' + w) = f a' := by
    by_cases c : b' < a'
    · exact ⟨a' - b', by omega, by omega, by rw [show b' + (a' - b') = a' by omega]⟩
    · refine ⟨a' + ns.length - b', by omega, by omega, ?_⟩
      rw [show b' + (a' + ns.length - b') = ns.length + a' by omega]
      exact f2 a' (by omega)
  have up : ∀ k, k < ns.length → f k ≤ f (k + w) := fun k hk => by
    have h1 := h w w1 wn b' k b'l hk
    have h2 := fw w b'
    have h3 := fw w k
    have h4 := Int.mul_le_mul_of_nonneg_left (show gain ns w b' - 1 ≤ gain ns w k by omega) (show 0 ≤ q by omega)
    rw [Int.mul_sub, Int.mul_one] at h4
    omega
  have e1 := smN_lt (f := f) (g := fun k => f (k + w)) b'l up (by show f b' < f (b' + w); omega)
  have e2 := smN_round (f := f) (n := ns.length) (fun k hk => f2 k (by omega)) w (by omega)
  omega
theorem win_iff {ns : List Int} (n1 : 1 ≤ ns.length) (s0 : 0 ≤ ns.sum) : WinR ns ↔ HasR ns :=
  ⟨win_cyc n1 s0, fun ⟨_, _, _, h⟩ => h.win⟩
/-! ### the events of a rule in several cycles -/
def evL (p q c : Int) (n : Nat) : List Int := (List.range n).map fun k : Nat => (p * ((k : Int) + 1) + c) / q - (p * k + c) / q
theorem evL_len (p q c : Int) (n : Nat) : (evL p q c n).length = n := by
  unfold evL
  rw [List.length_map, List.length_range]
theorem evL_at {p q c : Int} {n k : Nat} (h : k < n) : (evL p q c n)[k]? = some ((p * ((k : Int) + 1) + c) / q - (p * k + c) / q) := by
  unfold evL
  rw [List.getElem?_map, List.getElem?_range h]
  rfl
theorem evL_sum {p q c : Int} {n : Nat} : ∀ {t : Nat}, t ≤ n → pS (evL p q c n) t = (p * t + c) / q - c / q
  | 0, _ => by
    rw [pS_zero]
    simp
  | t + 1, h => by
    rw [pS_succ (evL_at (by omega)), evL_sum (t := t) (by omega)]
    rw [show ((t + 1 : Nat) : Int) = (t : Int) + 1 by omega]
    omega
theorem evL_nn {p q c : Int} (p0 : 0 ≤ p) (q1 : 1 ≤ q) {n : Nat} : ∀ z ∈ evL p q c n, 0 ≤ z := fun z hz => by
  obtain ⟨k, _, rfl⟩ := List.mem_map.mp hz
  have : (p * (k : Int) + c) / q ≤ (p * ((k : Int) + 1) + c) / q := Int.ediv_le_ediv (by omega) (by rw [Int.mul_add]; omega)
  omega
/-- many cycles of the rule's events are those of many times as many times -/
theorem evL_many {p q c : Int} (q1 : 1 ≤ q) (m : Nat) : (List.replicate m (evL p q c q.toNat)).flatten = evL p q c (m * q.toNat) := by
  induction m with
  | zero => simp [evL]
  | succ m ih =>
    rw [List.replicate_succ', List.flatten_append, ih]
    refine List.ext_getElem? fun k => ?_
    have l : (evL p q c (m * q.toNat)).length = m * q.toNat := evL_len ..
    rw [List.flatten_cons, List.flatten_nil, List.append_nil]
    by_cases h : k < m * q.toNat
    · rw [List.getElem?_append_left (by omega), evL_at h, evL_at (by rw [Nat.succ_mul]; omega)]
    · rw [List.getElem?_append_right (by omega), l]
      by_cases h2 : k - m * q.toNat < q.toNat
      · rw [evL_at h2, evL_at (by rw [Nat.succ_mul]; omega)]
        have ek : (k : Int) = ((k - m * q.toNat : Nat) : Int) + q * m := by
          have : ((m * q.toNat : Nat) : Int) = q * m := by
            rw [Int.natCast_mul, Int.toNat_of_nonneg (by omega), Int.mul_comm]
          omega
        have sh : ∀ x : Int, (p * (x + q * m) + c) / q = (p * x + c) / q + p * m := fun x => by
          rw [show p * (x + q * m) + c = (p * x + c) + q * (p * m) by grind, Int.add_mul_ediv_left _ _ (by omega)]
        rw [ek, show ((k - m * q.toNat : Nat) : Int) + q * m + 1 = (((k - m * q.toNat : Nat) : Int) + 1) + q * m by omega, sh, sh]
        congr 1
        omega
      · rw [List.getElem?_eq_none (by rw [evL_len]; omega), List.getElem?_eq_none (by rw [evL_len, Nat.succ_mul]; omega)]
theorem evL_cyc {p q c : Int} (p0 : 0 ≤ p) (q1 : 1 ≤ q) (g : Int.gcd p q = 1) {m : Nat} (m1 : 1 ≤ m) : CycM (evL p q c (m * q.toNat)) p q (c % q) := by
  have em := Int.emod_add_mul_ediv c q
  have r0 := Int.emod_nonneg c (show q ≠ 0 by omega)
  have r1 := Int.emod_lt_of_pos c (show 0 < q by omega)
  have ln : ((evL p q c (m * q.toNat)).length : Int) = q * m := by
    rw [evL_len, Int.natCast_mul, Int.toNat_of_nonneg (by omega), Int.mul_comm]
  have at_ : ∀ t : Nat, t ≤ (evL p q c (m * q.toNat)).length → (p * t + c % q) / q = pS (evL p q c (m * q.toNat)) t := fun t ht => by
    rw [evL_len] at ht
    rw [evL_sum ht]
    have : (p * (t : Int) + c) = (p * t + c % q) + q * (c / q) := by omega
    rw [this, Int.add_mul_ediv_left _ _ (by omega)]
    omega
  have sm : q * (evL p q c (m * q.toNat)).sum = p * (evL p q c (m * q.toNat)).length := by
    have e := at_ _ (Nat.le_refl _)
    rw [pS_all, ln, show p * (q * m) + c % q = c % q + q * (p * m) by grind, Int.add_mul_ediv_left _ _ (by omega), Int.ediv_eq_zero_of_lt r0 r1] at e
    rw [← e, ln]
    grind
  have R : CycR (evL p q c (m * q.toNat)) p q (c % q) := ⟨p0, q1, g, sm, r0, r1, at_⟩
  refine ⟨R, ?_⟩
  obtain ⟨x, y, hxy⟩ : ∃ x y : Int, (1 : Int) = p * x + q * y := by
    obtain ⟨x, y, e⟩ := bez p.natAbs q.natAbs
    have e1 : Nat.gcd p.natAbs q.natAbs = 1 := g
    rw [e1, Int.natAbs_of_nonneg p0, Int.natAbs_of_nonneg (by omega)] at e
    exact ⟨x, y, e⟩
  have t0 := Int.emod_nonneg (-(c % q) * x) (show q ≠ 0 by omega)
  have t1 := Int.emod_lt_of_pos (-(c % q) * x) (show 0 < q by omega)
  have tm := Int.emod_add_mul_ediv (-(c % q) * x) q
  obtain ⟨t, ht⟩ := Int.eq_ofNat_of_zero_le t0
  have tl : t ≤ (evL p q c (m * q.toNat)).length := by
    have : (1 : Int) * q ≤ m * q := Int.mul_le_mul_of_nonneg_right (by omega) (by omega)
    have : (m : Int) * q = q * m := Int.mul_comm ..
    omega
  refine ⟨t, tl, ?_⟩
  have d : q ∣ p * t + c % q := by
    refine ⟨c % q * y - p * (-(c % q) * x / q), ?_⟩
    rw [← ht]
    have : (-(c % q) * x) % q = -(c % q) * x - q * (-(c % q) * x / q) := by omega
    rw [this]
    generalize -(c % q) * x / q = u
    generalize c % q = v at *
    have h : v * 1 = v * (p * x + q * y) := by rw [← hxy]
    grind
  obtain ⟨u, hu⟩ := d
  have e := R.at_ t tl
  rw [hu, Int.mul_ediv_cancel_left _ (by omega)] at e
  unfold phi
  rw [← e]
  omega
end Lf
namespace Lf
open PySem PySem.Spec PyProof.Rows L2
/-! ### enumerate(xs, start=k) of a list or a tuple; min, sum of a list or a tuple -/
def IteS (K : PySem.W.Frag) (kb : Bool) (a : Addr) (k0 : Int) : It :=
  ⟨fun i H => ∃ (xs : List V) (x : V), SqB K kb H a xs ∧ xs[i]? = some x, fun i H v H' => ∃ T x, v = .ref T ∧ H T = none ∧ H' = upd H T (.tup [.int (k0 + (i : Nat)), x]) ∧ ∀ xs, SqB K kb H a xs → xs[i]? = some x, fun i H => ∃ xs : List V, SqB K kb H a xs ∧ xs.length = i⟩
theorem turn_enumS {P : Program} {w : World} {K : PySem.W.Frag} {elts : List Expr} {kk : Nat} {tpos : Pos} (kb : Bool) (k0 : Int) (a e it : Addr) (ne1 : e ≠ it) (ne2 : a ≠ it) (ne3 : e ≠ a) :
    Turn P w K (.Tuple elts kk tpos) (IteS K kb a k0) [e, it] e (fun i h => (∃ old, IsEnum h e it (k0 + (i : Nat)) old) ∧ (if kb = true then h.IsListIter it a i else h.IsTupleIter it a i)) where
  mem := by simp
  obj := fun i h st b hb => by
    obtain ⟨⟨old, he⟩, hi⟩ := st
    have e' : b = e ∨ b = it := by simpa using hb
    rcases e' with z | z
    · rw [z]; exact ⟨_, he, fun v q => nomatch q⟩
    · cases kb with
      | true =>
        obtain ⟨o, ho, hc, hd⟩ : h.IsListIter it a i := hi
        rw [z]; exact ⟨o, ho, fun v q => by rw [hd] at q; cases q⟩
      | false =>
        obtain ⟨o, ho, hc, hd⟩ : h.IsTupleIter it a i := hi
        rw [z]; exact ⟨o, ho, fun v q => by rw [hd] at q; cases q⟩
  keep := fun i h h' st k => by
    obtain ⟨⟨old, he⟩, hi⟩ := st
    refine ⟨⟨old, k e (by simp) _ he⟩, ?_⟩
    cases kb with
    | true => exact Heap.IsListIter.at hi fun o q => k it (by simp) o q
    | false => exact Heap.IsTupleIter.at hi fun o q => k it (by simp) o q
  item := by
    intro X hP hw hK hc i pins s σ H E I hf st hg
    subst hP hw hK
    obtain ⟨⟨old, he⟩, hit⟩ := st
    obtain ⟨xs, x, hq, hx⟩ := hg
    have hel : e < s.heap.objs.size := Heap.lt_size he
    have e1 : k0 + ((i + 1 : Nat) : Int) = k0 + (i : Int) + 1 := by omega
    cases kb with
    | true =>
      obtain ⟨its, rv, p, hz⟩ := I.list hq
      obtain ⟨u, hu, ru⟩ := rv.get hx
      have hit : s.heap.IsListIter it a i := hit
      have hil : it < s.heap.objs.size := by obtain ⟨_, q, _⟩ := hit; exact Heap.lt_size q
      have hlt : i < its.toArray.size := by
        have := (List.getElem?_eq_some_iff.mp hu).1
        simpa using this
      have D := Draws.list (prog := X.prog) (w := X.w) (A := X.A.in1) (I.ok.hd hc) it a ne2 its.toArray
      refine wpAny_pyNext_enum_itemC (c := k0 + (i : Int)) D he ⟨hit, p.isList⟩ hlt ne1 (by simp [ne1, ne3]) fun x' h' tk hP ho hit' hT hsz hk => ?_
      have eu : x' = u := by
        have hP : its.toArray[i]? = some x' := hP
        rw [show its.toArray[i]? = some u by simpa using hu] at hP
        exact (Option.some.inj hP).symm
      subst eu
      refine ⟨_, rfl, wpAny_letOwnedTupleGo_enum (s := { s with heap := h', toks := tk + 1 }) ho fun h'' he' sb => ?_⟩
      have hT2 : h''.get? s.heap.objs.size = some { cls := .type "tuple", data := .seq #[.int (k0 + (i : Int)) tk, x'] } := (sb.2 _ (Nat.ne_of_gt hel)).trans hT
      have new : ObjOk X.prog X.w (upd H s.heap.objs.size (.tup [.int (k0 + (i : Nat)), x])) h'' s.heap.objs.size (.tup [.int (k0 + (i : Nat)), x]) :=
        ⟨by show 2 ≤ sizeLine; decide, [.int (k0 + (i : Int)) tk, x'], .cons ⟨_, rfl⟩ (.cons ru .nil), ⟨_, hT2, rfl, _, rfl⟩⟩
      have I1 : Inv X pins σ (upd H s.heap.objs.size (.tup [.int (k0 + (i : Nat)), x])) { s with heap := h'', toks := tk + 1 } :=
        I.turnedNew (ch := [e, it]) (fun b ob hb q => (sb.2 b (fun z => hb (by simp [z]))).trans (hk b ob (fun z => hb (by simp [z])) (fun z => hb (by simp [z])) q)) hf (Nat.le_refl _) new
      refine ⟨.ref s.heap.objs.size, _, I1, rfl, ⟨_, x, rfl, I.hok.fresh (Nat.le_refl _), rfl, fun ys hy => by rw [I.list_inj hy hq]; exact hx⟩, ⟨⟨x', by rw [e1]; exact he'⟩, hit'.1.at fun o q => (sb.2 it (Ne.symm ne1)).trans q⟩, fun b hb => ?_⟩
      have hb' : b < s.heap.objs.size := by
        have e' : b = e ∨ b = it := by simpa using hb
        rcases e' with z | z
        · rw [z]; exact hel
        · rw [z]; exact hil
      rw [upd_ne (Nat.ne_of_lt hb')]
      exact (hf b hb).1
    | false =>
      obtain ⟨its, rv, p, hz⟩ := I.tuple hq
      obtain ⟨u, hu, ru⟩ := rv.get hx
      have hit : s.heap.IsTupleIter it a i := hit
      have hil : it < s.heap.objs.size := by obtain ⟨_, q, _⟩ := hit; exact Heap.lt_size q
      have hlt : i < its.toArray.size := by
        have := (List.getElem?_eq_some_iff.mp hu).1
        simpa using this
      have D := Draws.tuple (prog := X.prog) (w := X.w) (A := X.A.in1) (I.ok.hd hc) it a ne2 its.toArray
      refine wpAny_pyNext_enum_itemC (c := k0 + (i : Int)) D he ⟨hit, p⟩ hlt ne1 (by simp [ne1, ne3]) fun x' h' tk hP ho hit' hT hsz hk => ?_
      have eu : x' = u := by
        have hP : its.toArray[i]? = some x' := hP
        rw [show its.toArray[i]? = some u by simpa using hu] at hP
        exact (Option.some.inj hP).symm
      subst eu
      refine ⟨_, rfl, wpAny_letOwnedTupleGo_enum (s := { s with heap := h', toks := tk + 1 }) ho fun h'' he' sb => ?_⟩
      have hT2 : h''.get? s.heap.objs.size = some { cls := .type "tuple", data := .seq #[.int (k0 + (i : Int)) tk, x'] } := (sb.2 _ (Nat.ne_of_gt hel)).trans hT
      have new : ObjOk X.prog X.w (upd H s.heap.objs.size (.tup [.int (k0 + (i : Nat)), x])) h'' s.heap.objs.size (.tup [.int (k0 + (i : Nat)), x]) :=
        ⟨by show 2 ≤ sizeLine; decide, [.int (k0 + (i : Int)) tk, x'], .cons ⟨_, rfl⟩ (.cons ru .nil), ⟨_, hT2, rfl, _, rfl⟩⟩
      have I1 : Inv X pins σ (upd H s.heap.objs.size (.tup [.int (k0 + (i : Nat)), x])) { s with heap := h'', toks := tk + 1 } :=
        I.turnedNew (ch := [e, it]) (fun b ob hb q => (sb.2 b (fun z => hb (by simp [z]))).trans (hk b ob (fun z => hb (by simp [z])) (fun z => hb (by simp [z])) q)) hf (Nat.le_refl _) new
      refine ⟨.ref s.heap.objs.size, _, I1, rfl, ⟨_, x, rfl, I.hok.fresh (Nat.le_refl _), rfl, fun ys hy => by rw [I.tuple_inj hy hq]; exact hx⟩, ⟨⟨x', by rw [e1]; exact he'⟩, hit'.1.at fun o q => (sb.2 it (Ne.symm ne1)).trans q⟩, fun b hb => ?_⟩
      have hb' : b < s.heap.objs.size := by
        have e' : b = e ∨ b = it := by simpa using hb
        rcases e' with z | z
        · rw [z]; exact hel
        · rw [z]; exact hil
      rw [upd_ne (Nat.ne_of_lt hb')]
      exact (hf b hb).1
  done := by
    intro X hP hw hK hc i pins s σ H E I hf st hg
    subst hP hw hK
    obtain ⟨⟨old, he⟩, hit⟩ := st
    obtain ⟨xs, hq, hx⟩ := hg
    obtain ⟨f0, f1, f2, f3, f4, f5⟩ := hf it (by simp)
    cases kb with
    | true =>
      obtain ⟨its, rv, p, hz⟩ := I.list hq
      have hit : s.heap.IsListIter it a i := hit
      have hl := rv.length
      have ei : i = its.toArray.size := by
        simp
        omega
      have D := Draws.list (prog := X.prog) (w := X.w) (A := X.A.in1) (I.ok.hd hc) it a ne2 its.toArray
      refine wpAny_pyNext_enum_endD D he ⟨ei ▸ hit, p.isList⟩ fun h' eb => ⟨rfl, I.turned (t' := s.toks) (fun b o hb q => eb b o hb q) f0 f1 f3 f4 f5⟩
    | false =>
      obtain ⟨its, rv, p, hz⟩ := I.tuple hq
      have hit : s.heap.IsTupleIter it a i := hit
      have hl := rv.length
      have ei : i = its.toArray.size := by
        simp
        omega
      have D := Draws.tuple (prog := X.prog) (w := X.w) (A := X.A.in1) (I.ok.hd hc) it a ne2 its.toArray
      refine wpAny_pyNext_enum_endD D he ⟨ei ▸ hit, p⟩ fun h' eb => ⟨rfl, I.turned (t' := s.toks) (fun b o hb q => eb b o hb q) f0 f1 f3 f4 f5⟩
  self := fun A i s Q E st h => let ⟨⟨_, he⟩, _⟩ := st; wpAny_pyIter_enum he h
theorem walk_enumS {K : PySem.W.Frag} {kb : Bool} {a : Addr} {k0 : Int} {xs : List V} : Walk (IteS K kb a k0) xs.length (fun H => SqB K kb H a xs) (YPair (fun i => some (.int (k0 + (i : Nat)))) (fun i => xs[i]?)) := by
  refine ⟨fun i _ hi q => ⟨xs, xs[i], q, by simp [hi]⟩, fun _ q => ⟨xs, q, rfl⟩, fun i H v H' _ q y => ?_⟩
  obtain ⟨T, x, h1, h2, h3, h4⟩ := y
  exact ⟨T, .int (k0 + (i : Nat)), x, h1, h2, h3, rfl, h4 xs q⟩
section
variable {M : Model} {A : Around} {E : Value → Shared → Prop} {s : Shared} {env : Env}
theorem callWith_typeK {pos : Pos} {T : String} {e : Expr} {rest : List Expr} {kws : List Keyword} {Q : Value → Shared → Prop}
    (h : wpAny M A (spliced (backTo pos (starEach (e :: rest) env))) (fun vs s₁ => wpAny M A (evalAll ((backToKw pos (keywordEach kws env)).map (·.2)))
      (fun kvs s₂ => wpAny M A (call (.type T) vs (((backToKw pos (keywordEach kws env)).filterMap (·.1)).zip kvs)) Q E s₂) E s₁) E s)
    (he : backTo pos (starEach (e :: rest) env) = (false, eval e env) :: backTo pos (starEach rest env) := by rfl)
    (hplain : (backTo pos (starEach (e :: rest) env)).any (·.1) = false := by rfl)
    (hall : (backToKw pos (keywordEach kws env)).all (·.1.isSome) = true := by rfl)
    (hkw : (backToKw pos (keywordEach kws env)).any (·.1.isNone) = false := by rfl) :
    wpAny M A (callWith pos (.type T) [] (backTo pos (starEach (e :: rest) env)) (backToKw pos (keywordEach kws env))) Q E s := by
  rw [he] at h hplain ⊢
  have h1 := evalArgs_kwB (M := M) (A := A) (E := E) (s := s) (f := .type T) (x := eval e env) (rest := backTo pos (starEach rest env)) (keywords := backToKw pos (keywordEach kws env)) (Q := fun (a : Args) s₁ => wpAny M A (call (.type T) ([] ++ a.pos) a.kw) Q E s₁) hall h
  unfold callWith
  refine wpAny_bind (wpAny_holding (wpAny_mono h1 (fun a s₁ h₁ => wpAny_bind (wpAny_standAt ?_)) fun _ _ x => x))
  simp only [hplain, hkw, Bool.or_false]
  refine wpAny_bind (wpAny_pure ?_)
  exact wpAny_bind (wpAny_mono h₁ (fun r s₂ hr => wpAny_bind (wpAny_holding (wpAny_point (wpAny_pure hr)))) fun _ _ x => x)
end
def iEnumS (K : PySem.W.Frag) (ta tk : TA) : TI := fun σ H R => ta σ H fun vs H1 => tk σ H1 fun zs H2 => ∃ a kb xs, ∃ k : Int, vs = [.ref a] ∧ zs = [.int k] ∧ SqB K kb H2 a xs ∧ 0 ≤ k ∧ k ≤ 1000 ∧ R (IteS K kb a k) H2
theorem pi_enumS {X : Cx} {e e1 : Expr} {ta tk : TA} {p pos kp tpos : Pos} {elts : List Expr} {kk : Nat} (hg : Gl X "enumerate") (hm : X.mg "enumerate" = none) (ha : L2.PA X [e] ta) (hk : L2.PK X [⟨some "start", e1, kp⟩] tk)
    (hs : backTo pos (starEach [e] X.env) = (false, eval e X.env) :: backTo pos (starEach [] X.env) := by rfl) (hpl : (backTo pos (starEach [e] X.env)).any (·.1) = false := by rfl) (hall : (backToKw pos (keywordEach [⟨some "start", e1, kp⟩] X.env)).all (·.1.isSome) = true := by rfl) (hnone : (backToKw pos (keywordEach [⟨some "start", e1, kp⟩] X.env)).any (·.1.isNone) = false := by rfl)
    (hks : (backToKw pos (keywordEach [⟨some "start", e1, kp⟩] X.env)).filterMap (·.1) = [Str.ofString "start"] := by rfl) :
    PI X (.Tuple elts kk tpos) (.Call (.Name "enumerate" p) [e] [⟨some "start", e1, kp⟩] pos) (iEnumS X.K ta tk) := by
  refine ⟨fun pins s σ H R I h => ?_⟩
  refine wpAny_Call_Name_kw (ld_blt I hg hm boot_enumerate ?_)
  refine callWith_typeK (thn (ha.run pos pins s σ H _ I h) fun us s0 ⟨vs, H0, I0, r0, q0⟩ => thn (hk.run pos pins s0 σ H0 _ I0 q0) fun ws s1 ⟨zs, H1, I1, r1, q1⟩ => ?_) hs hpl hall hnone
  rw [hks]
  obtain ⟨a, kb, xs, k, ex, ez, hq, k0, k1, q⟩ := q1
  subst ex ez
  obtain ⟨u1, rfl, ru1⟩ := r1.one
  obtain ⟨t, rfl⟩ := ru1
  obtain ⟨u0, rfl, ru0⟩ := r0.one
  cases ru0
  have b0 : -(2 ^ 63) ≤ k := by omega
  have b1 : k < 2 ^ 63 := by omega
  cases kb with
  | true =>
    obtain ⟨its, rv, p', hz⟩ := I1.list hq
    have hal : a < s1.heap.objs.size := by
      obtain ⟨_, q, _⟩ := p'.isList
      exact Heap.lt_size q
    refine PySem.enum_begins_start (begins_list a its.toArray) p'.isList b0 b1 fun h' he hit hsz hk => wpAny_pyIter_enum he ?_
    have I2 : Inv X pins σ H1 { s1 with heap := h' } := I1.kept (t' := s1.toks) hk
    refine ⟨s1.heap.objs.size + 1, [s1.heap.objs.size + 1, s1.heap.objs.size], _, _, H1, rfl, I2, turn_enumS true k a (s1.heap.objs.size + 1) s1.heap.objs.size (Nat.succ_ne_self _) (Nat.ne_of_lt hal) (Nat.ne_of_gt (Nat.lt_succ_of_lt hal)), ⟨⟨.none, by rw [show k + ((0 : Nat) : Int) = k by omega]; exact he⟩, ⟨_, hit, rfl, rfl⟩⟩, fun b hb => ?_, q⟩
    have e' : b = s1.heap.objs.size + 1 ∨ b = s1.heap.objs.size := by simpa using hb
    have hle : s1.heap.objs.size ≤ b := by
      rcases e' with z | z
      · rw [z]; exact Nat.le_add_right _ _
      · rw [z]; exact Nat.le_refl _
    exact I1.fpOk hle (I1.hok.fresh hle)
  | false =>
    obtain ⟨its, rv, p', hz⟩ := I1.tuple hq
    have hal : a < s1.heap.objs.size := by
      obtain ⟨_, q, _⟩ := p'
      exact Heap.lt_size q
    refine PySem.enum_begins_start (begins_tuple a its.toArray) p' b0 b1 fun h' he hit hsz hk => wpAny_pyIter_enum he ?_
    have I2 : Inv X pins σ H1 { s1 with heap := h' } := I1.kept (t' := s1.toks) hk
    refine ⟨s1.heap.objs.size + 1, [s1.heap.objs.size + 1, s1.heap.objs.size], _, _, H1, rfl, I2, turn_enumS false k a (s1.heap.objs.size + 1) s1.heap.objs.size (Nat.succ_ne_self _) (Nat.ne_of_lt hal) (Nat.ne_of_gt (Nat.lt_succ_of_lt hal)), ⟨⟨.none, by rw [show k + ((0 : Nat) : Int) = k by omega]; exact he⟩, ⟨_, hit, rfl, rfl⟩⟩, fun b hb => ?_, q⟩
    have e' : b = s1.heap.objs.size + 1 ∨ b = s1.heap.objs.size := by simpa using hb
    have hle : s1.heap.objs.size ≤ b := by
      rcases e' with z | z
      · rw [z]; exact Nat.le_add_right _ _
      · rw [z]; exact Nat.le_refl _
    exact I1.fpOk hle (I1.hok.fresh hle)
def rSumB (K : PySem.W.Frag) : List V → Hp → VK → Prop := fun vs H Q => ∃ (a : Addr) (kb : Bool) (ns : List Int), vs = [V.ref a] ∧ SqB K kb H a (ns.map V.int) ∧ Q (.int ns.sum) H
theorem cr_sumB {X : Cx} (hc : X.calm = true) : CallR X (.builtin "sum") (rSumB X.K) := by
  intro pins s σ H vs us Q I r h
  obtain ⟨a, kb, ns, rfl, hs, q⟩ := h
  cases kb with
  | true => exact cr_sum hc pins s σ H _ us Q I r ⟨a, ns, rfl, hs, q⟩
  | false =>
    obtain ⟨its, rv, ht, _⟩ := I.tuple hs
    rw [Vals.ref1 r]
    have hi := rv.ints
    obtain ⟨xs, e⟩ := hi.allInts.items
    have hn : numsOf (intItems xs).toList = ns := by rw [← e]; exact hi.numsOf
    rw [nums_intItems] at hn
    rw [e] at ht
    refine PySem.W.ktm_sumG (I.ok.hd hc) ht fun h' tk t' hk => ?_
    rw [preSum_eq, List.take_of_length_le (by simp), hn]
    exact ⟨.int _, H, I.kept hk, ⟨_, rfl⟩, q⟩
theorem minOf_in (x : Int) : ∀ ys : List Int, PySem.W.minOf x ys ∈ x :: ys ∧ ∀ y, y ∈ x :: ys → PySem.W.minOf x ys ≤ y := by
  intro ys
  induction ys generalizing x with
  | nil => exact ⟨List.mem_cons_self, fun y hy => by rw [List.mem_singleton.mp hy]; exact Int.le_refl _⟩
  | cons z r ih =>
    have e : PySem.W.minOf x (z :: r) = PySem.W.minOf (if decide (z < x) = true then z else x) r := rfl
    obtain ⟨h1, h2⟩ := ih (if decide (z < x) = true then z else x)
    rw [e]
    by_cases c : z < x
    · rw [if_pos (decide_eq_true c)] at h1 h2 ⊢
      refine ⟨List.mem_cons_of_mem _ h1, fun y hy => ?_⟩
      rcases List.mem_cons.mp hy with rfl | hy
      · have := h2 z List.mem_cons_self
        omega
      · exact h2 y hy
    · rw [if_neg (by simpa using c)] at h1 h2 ⊢
      refine ⟨?_, fun y hy => ?_⟩
      · rcases List.mem_cons.mp h1 with h | h
        · rw [h]
          exact List.mem_cons_self
        · exact List.mem_cons_of_mem _ (List.mem_cons_of_mem _ h)
      · rcases List.mem_cons.mp hy with rfl | hy
        · exact h2 _ List.mem_cons_self
        · rcases List.mem_cons.mp hy with rfl | hy
          · have := h2 x List.mem_cons_self
            omega
          · exact h2 y (List.mem_cons_of_mem _ hy)
def rMinB (K : PySem.W.Frag) : List V → Hp → VK → Prop := fun vs H Q => ∃ (a : Addr) (kb : Bool) (ns : List Int), vs = [V.ref a] ∧ SqB K kb H a (ns.map V.int) ∧ 0 < ns.length ∧ ∀ m, m ∈ ns → (∀ y, y ∈ ns → m ≤ y) → Q (.int m) H
theorem cr_minB {X : Cx} (hc : X.calm = true) (hu : X.A.units + 64 < cLine) : CallR X (.builtin "min") (rMinB X.K) := by
  intro pins s σ H vs us Q I r h
  obtain ⟨a, kb, ns, rfl, hs, hne, q⟩ := h
  cases kb with
  | true => exact cr_min hc pins s σ H _ us Q I r ⟨a, ns, rfl, hs, hne, q⟩
  | false =>
    obtain ⟨its, rv, ht, _⟩ := I.tuple hs
    rw [Vals.ref1 r]
    cases ns with
    | nil => exact absurd hne (Nat.lt_irrefl 0)
    | cons n ns =>
      refine PySem.W.min_tuple_datum (α := Int) (x := n) (xs := ns) (I.ok.hd hc) ht (by simpa using PySem.W.HoldAll.of_ints rv.ints) (by show _ + 1 + 0 < _; omega) fun i v h' tk hv hh hk => ?_
      obtain ⟨as, hr⟩ := hh
      obtain ⟨t, rfl⟩ : ∃ t, v = Value.int (PySem.W.minOf n ns) t := by
        cases hr
        exact ⟨_, rfl⟩
      have mn := minOf_in n ns
      exact ⟨.int _, H, I.kept hk, ⟨_, rfl⟩, q _ mn.1 mn.2⟩
end Lf
namespace Lf
open PySem PySem.Spec PyProof.Rows L2
/-! ### even lists -/
def Ev (ns : List Int) : Prop := (∀ (i : Nat) (x y : Int), ns[i]? = some x → ns[i + 1]? = some y → x ≤ y) ∧
  ∀ (w i j : Nat) (a b c d : Int), ns[i]? = some a → ns[i + w]? = some b → ns[j]? = some c → ns[j + w]? = some d → (b - a) - (d - c) ≤ 1
theorem get_le {ns : List Int} {i j : Nat} {x : Int} (h : ns[j]? = some x) (le : i ≤ j) : ∃ y, ns[i]? = some y := by
  have := (List.getElem?_eq_some_iff.mp h).1
  exact ⟨_, List.getElem?_eq_getElem (show i < ns.length by omega)⟩
theorem first_at {l : List Int} {x : Int} (h : x ∈ l) : ∃ j : Nat, l[j]? = some x ∧ ∀ m : Nat, m < j → l[m]? ≠ some x := by
  induction l with
  | nil => cases h
  | cons a r ih =>
    by_cases e : a = x
    · subst e
      exact ⟨0, rfl, fun m hm => by omega⟩
    · rcases List.mem_cons.mp h with g | g
      · exact absurd g.symm e
      · obtain ⟨j, h1, h2⟩ := ih g
        refine ⟨j + 1, h1, fun m hm => ?_⟩
        cases m with
        | zero =>
          intro z
          exact e (Option.some.inj z)
        | succ m => exact h2 m (by omega)
def gns (ns : List Int) (w n : Nat) : List Int := (List.range n).map fun i => ns.getD (i + w) 0 - ns.getD i 0
theorem gns_at {ns : List Int} {w n i : Nat} {a b : Int} (hi : i < n) (ha : ns[i]? = some a) (hb : ns[i + w]? = some b) : b - a ∈ gns ns w n := by
  unfold gns
  refine List.mem_map.mpr ⟨i, List.mem_range.mpr hi, ?_⟩
  rw [List.getD_eq_getElem?_getD, List.getD_eq_getElem?_getD, ha, hb]
  rfl
theorem nf_of {H H' : Hp} (s : Same H H') {F : Addr} (n : H' F = none) : H F = none := by
  cases e : H F with
  | none => rfl
  | some o =>
    rw [s _ _ e] at n
    cases n
/-- what shows that a list is not even -/
inductive Ct (H : Hp) (ns : List Int) (r : Addr) : Prop
  | falls {i : Nat} {x y : Int} : H r = some (.tup [.str "falls", .int (i : Nat)]) → ns[i]? = some x → ns[i + 1]? = some y → y < x → Ct H ns r
  | wins {i j w : Nat} {a b c d : Int} : H r = some (.tup [.str "windows", .int (i : Nat), .int (j : Nat), .int (w : Nat)]) → 1 ≤ w → ns[i]? = some a → ns[i + w]? = some b → ns[j]? = some c → ns[j + w]? = some d → 2 ≤ (b - a) - (d - c) → Ct H ns r
theorem Ct.not {H : Hp} {ns : List Int} {r : Addr} (h : Ct H ns r) : ¬ Ev ns := fun e => by
  cases h with
  | falls _ h1 h2 h3 =>
    have := e.1 _ _ _ h1 h2
    omega
  | wins _ _ h1 h2 h3 h4 h5 =>
    have := e.2 _ _ _ _ _ _ _ h1 h2 h3 h4
    omega
theorem Ct.same {H H' : Hp} {ns : List Int} {r : Addr} (h : Ct H ns r) (s : Same H H') : Ct H' ns r := by
  cases h with
  | falls h0 h1 h2 h3 => exact .falls (s _ _ h0) h1 h2 h3
  | wins h0 h1 h2 h3 h4 h5 h6 => exact .wins (s _ _ h0) h1 h2 h3 h4 h5 h6
/-- 1 to 200 whole numbers -/
def cntP (d : PyData) : Prop := ∃ (kb : Bool) (ns : List Int), d = sqD kb (ns.map PyData.int) ∧ 1 ≤ ns.length ∧ ns.length ≤ 200
theorem cnt_lt {d : PyData} (h : isLT d = false) : ¬ cntP d := by
  rintro ⟨kb, ns, rfl, _⟩
  cases kb <;> cases h
theorem cnt_len {kb : Bool} {es : List PyData} (h : ¬ (1 ≤ es.length ∧ es.length ≤ 200)) : ¬ cntP (sqD kb es) := by
  rintro ⟨kc, ns, e, h1, h2⟩
  have e := sqD_inj e
  subst e
  rw [List.length_map] at h
  exact h ⟨h1, h2⟩
theorem all_isI : ∀ {es : List PyData}, (es.map isI).all id = true ↔ ∃ ns : List Int, es = ns.map PyData.int
  | [] => ⟨fun _ => ⟨[], rfl⟩, fun _ => rfl⟩
  | e :: r => by
    rw [List.map_cons, List.all_cons, Bool.and_eq_true, all_isI (es := r)]
    constructor
    · rintro ⟨h, ns, rfl⟩
      cases e with
      | int i => exact ⟨i :: ns, rfl⟩
      | _ => cases h
    · rintro ⟨ns, e0⟩
      cases ns with
      | nil => cases e0
      | cons n ns =>
        have e1 := List.cons.inj e0
        rw [e1.1]
        exact ⟨rfl, ns, e1.2⟩
section
variable {P : Program} {w : World} {K : PySem.W.Frag} {mg : Str → Option Value} {base : Heap} {C : Addr}
structure Be (mg : Str → Option Value) : Prop where
  items_ : ∃ t, mg "MOST_ITEMS" = some (.int 200 t)
def spIsCtD : Sp := fun vs H Q _ => ∃ (v : V) (d : PyData), vs = [v] ∧ Dv H v d ∧ ∀ b H', Same H H' → (b = true ↔ cntP d) → Q (.bl b) H'
abbrev s_is_counts : Stmt := topS 16
abbrev N_is_counts : List Str := ["value", "item"]
abbrev P_is_counts : List Str := ["value"]
theorem sc_is_counts : FnScope N_is_counts P_is_counts (defScope s_is_counts) := ⟨rfl, rfl, rfl, by decide +kernel, rfl, by decide +kernel, by decide +kernel⟩
theorem ok_is_counts (D : Df K mg "is_counts" s_is_counts P_is_counts) (B : Bi mg) (UE : Be mg) (cA_is_integer : C8.Cal P w K mg base 1 "is_integer" spIsAny []) : C8.Cal P w K mg base 2 "is_counts" spIsCtD [] := by
  refine cal_of D sc_is_counts (fun vs H Q E h => ?_) (fun f cdv A outer s H vs Q E hr h => ?_)
  · obtain ⟨v, d, rfl, _⟩ := h
    rfl
  · obtain ⟨v, d, rfl, hv, kk⟩ := h
    obtain ⟨tM, hc_MOST_ITEMS⟩ := UE.items_
    have c_is_integer := cA_is_integer
    refine ⟨_, (pss_cons (ps_if (PW.pt (pw_or (pt_not (pt_val (pe_callB (call_isiT) (by rfl) B.isinstance_ bt_isinstance (pa_cons (pv 0) (pa_cons (pe_tup (pa_cons (pe_bltn (v := .ty "list") (by rfl) B.list_ bt_list rfl) (pa_cons (pe_bltn (v := .ty "tuple") (by rfl) B.tuple_ bt_tuple rfl) pa_nil))) pa_nil))))) (pw_or1 (pt_not (pt_chain op_le op_le pe_int (pe_callB (call_len_seq) (by rfl) B.len_ bt_len (pa_cons (pv 0) pa_nil)) (pe_glob (v := .int 200) (by rfl) hc_MOST_ITEMS ⟨_, rfl⟩))))))
      (pss_one (ps_ret pe_bl))
      pss_nil)
    (pss_one (ps_ret (pe_callB (cr_all rfl) (by rfl) B.all_ bt_all (pa_cons (pe_lc (own := [("item", 1)]) (g := (gName 1)) (by rfl) sc_is_counts.nd (pi_seq (pv 0)) (blkOk_by (own := [("item", 1)]) (N := N_is_counts) (sc := defScope s_is_counts) (by decide +kernel)) (fun _ _ _ _ _ => (pg_name (i := 1) sc_is_counts.nd rfl (Or.inl rfl))) (fun _ _ _ _ _ => pts_nil) (fun _ _ _ _ _ => (C8.pe_c c_is_integer hr (by decide) (by rfl) (pa_cons (pv 1) pa_nil)))) pa_nil))))), ?_⟩
    refine ⟨_, rfl, len10 (by simp), fun tp ntp => ?_⟩
    have s1 := sm_upd (o := .tup [.ty "list", .ty "tuple"]) ntp
    have hv1 := Dv.kp (Fr.same s1).kp _ _ hv
    refine ⟨_, tp, _, _, _, isLT d, rfl, upd_same, .cons (.ty "list") (.cons (.ty "tuple") .nil), hv1.ty, kit_ltD d, isLT d, rfl, ?_⟩
    generalize upd H tp (.tup [.ty "list", .ty "tuple"]) = H1 at s1 hv1 ⊢
    cases hlt : isLT d with
    | false => exact iteT (iteT (kk false _ s1 ⟨fun z => (nomatch z), fun z => absurd z (cnt_lt hlt)⟩))
    | true =>
      refine iteF ?_
      obtain ⟨L, kb, xs, es, rfl, rfl, ea, hs⟩ := dv_sq hv1 hlt
      have lx := dva_len9 hs
      refine ⟨_, rfl, L, _, rfl, (SqB.of ea).or, _, _, rfl, rfl, _, rfl, ?_⟩
      by_cases c1 : (1 : Int) ≤ ((xs.length : Nat) : Int)
      · refine iteD c1 ⟨_, _, rfl, rfl, _, rfl, ?_⟩
        by_cases c2 : ((xs.length : Nat) : Int) ≤ 200
        · refine iteNS c2 ?_
          refine ⟨_, rfl, L, kb, xs, rfl, SqB.of ea, fun Y nY => ?_⟩
          refine lc_it (walk_seq (K := K) (b := kb) (a := L) (xs := xs)) (fun i H' => Same H1 H' ∧ H' Y = some (.lst (((es.take i).map isI).map V.bl))) ⟨sm_upd nY, upd_same⟩ ?_ ?_ ?_
          · rintro i H' _ ⟨s', _⟩
            exact SqB.of (sq_kp (Fr.same s').kp ea)
          · rintro i x _ H' hi ⟨s', eY⟩ ⟨rfl, hx⟩
            obtain ⟨dd, hd, hz⟩ := dva_at hs hx
            refine ⟨rfl, _, rfl, x, dd, rfl, Dv.kp (Fr.same s').kp _ _ hz, _, eY, ?_, ?_, ?_⟩
            · rw [List.length_map, List.length_map, List.length_take]
              exact small1000 (by omega)
            · intro b o eb
              rw [upd_ne (ne_of_none eb nY)]
              exact s' _ _ eb
            · rw [upd_same, List.take_add_one, hd, List.map_append, List.map_append]
              rfl
          rintro H' ⟨s', eY⟩
          rw [List.take_of_length_le (by omega)] at eY
          refine ⟨Y, _, rfl, SqL.of eY, ?_⟩
          refine kk _ _ (s1.trans s') ?_
          rw [all_isI]
          constructor
          · rintro ⟨ns, rfl⟩
            rw [List.length_map] at lx
            exact ⟨kb, ns, rfl, by omega, by omega⟩
          · rintro ⟨kc, ns, e, _, _⟩
            exact ⟨ns, sqD_inj e⟩
        · exact iteTs (by rw [decide_eq_false c2]; rfl) (kk false _ s1 ⟨fun z => (nomatch z), fun z => absurd z (cnt_len (by omega))⟩)
      · exact iteDn c1 ⟨_, rfl, iteT (kk false _ s1 ⟨fun z => (nomatch z), fun z => absurd z (cnt_len (by omega))⟩)⟩
/-- a def that may return, or raise -/
theorem calx_both {x : Str} {st : Stmt} {N ps : List Str} {k : Nat} {sp1 sp2 : Sp} (D : Df K mg x st ps) (S : FnScope N ps (defScope st)) (len1 : ∀ vs H Q E, sp1 vs H Q E → vs.length = ps.length) (len2 : ∀ vs H Q E, sp2 vs H Q E → vs.length = ps.length)
    (h1 : ∀ (f : Addr) (cdv : Value) (A : Around) (outer : List Env) (s : Shared) (H : Hp) (vs : List V) (Q : VK) (E : XK), Room k (A.deeper (envOfC x (defScope st) s.heap.objs.size f cdv)) → sp1 vs H Q E → ∃ t, PSs (cxOf CX0 P w K mg base N x (defScope st) f cdv A outer s H E).nox (defBody st) t ∧ t { nx := fun _ H' => Q .non H', rt := Q } (L2.start N vs) H)
    (h2 : ∀ (f : Addr) (cdv : Value) (A : Around) (outer : List Env) (s : Shared) (H : Hp) (vs : List V) (Q : VK) (E : XK), Room k (A.deeper (envOfC x (defScope st) s.heap.objs.size f cdv)) → sp2 vs H Q E → ∃ t, PSs (cxOf (L2.CX P w) P w K mg base N x (defScope st) f cdv A outer s H E) (defBody st) t ∧ t { nx := fun _ H' => Q .non H', rt := Q } (L2.start N vs) H) :
    CalX P w K mg base (k + 1) x (fun vs H Q E => sp1 vs H Q E ∨ sp2 vs H Q E) := by
  obtain ⟨f, fd, F, hm, b⟩ := D
  have F1 := F.ok S len1 (fun cdv A outer s H vs Q E hr h => h1 f cdv A outer s H vs Q E hr h)
  have F2 := F.okX S len2 (fun cdv A outer s H vs Q E hr h => h2 f cdv A outer s H vs Q E hr h)
  refine ⟨f, fd, ps, ⟨fun vs H Q E h => h.elim (len1 vs H Q E) (len2 vs H Q E), fun A outer s H args us vs Q E hr e hb r h => ?_⟩, hm, F.kp, b⟩
  rcases h with h | h
  · refine codeAny_mono (F1.run A outer s H args us vs Q E hr e hb r h) fun r s' z => ?_
    match r, z with
    | .ok (.ret u), z => exact z
    | .ok .next, z => exact False.elim z
    | .ok .brk, z => exact False.elim z
    | .ok .cont, z => exact False.elim z
    | .error e, z => exact False.elim z
  · exact F2.run A outer s H args us vs Q E hr e hb r h
def OutC (C : Addr) (v : V) (H : Hp) (E : XK) : Prop := ∀ dd, H dd = none → E (.ref C) (some dd) (upd H dd (.xd [("value", v)]))
def spUnBad (C : Addr) : Sp := fun vs H _ E => ∃ (v : V) (d : PyData), vs = [v] ∧ Dv H v d ∧ ¬ cntP d ∧ ∀ H', Same H H' → OutC C v H' E
def tNoS : TS := fun _ _ _ => False
theorem pss_no {X : Cx} {b : List Stmt} : PSs X b tNoS := ⟨fun _ _ _ _ _ _ h => h.elim⟩
end
end Lf
namespace Lf
open PySem PySem.Spec PyProof.Rows L2
section
variable {P : Program} {w : World} {K : PySem.W.Frag} {mg : Str → Option Value} {base : Heap}
/-! ### reduce_rule -/
def spReduce : Sp := fun vs H Q _ => ∃ (p q c : Int), vs = [.int p, .int q, .int c] ∧ 0 ≤ p ∧ 1 ≤ q ∧ Bd 9000 q ∧
  ∀ r H', Same H H' → H' r = some (tup3 (p / gg p q) (q / gg p q) (c / gg p q)) → Q (.ref r) H'
abbrev s_reduce_rule : Stmt := topS 13
abbrev N_reduce_rule : List Str := ["p", "q", "c", "divisor"]
abbrev P_reduce_rule : List Str := ["p", "q", "c"]
theorem sc_reduce_rule : FnScope N_reduce_rule P_reduce_rule (defScope s_reduce_rule) := ⟨rfl, rfl, rfl, by decide +kernel, rfl, by decide +kernel, by decide +kernel⟩
theorem ok_reduce_rule (D : Df K mg "reduce_rule" s_reduce_rule P_reduce_rule) (c_check_at_least : C8.Cal P w K mg base 2 "check_at_least" spCheckAL []) (c_check_integer : C8.Cal P w K mg base 2 "check_integer" spCheckInt []) (c_gcd : C8.Cal P w K mg base 1 "gcd" spGcd []) : C8.Cal P w K mg base 3 "reduce_rule" spReduce [] := by
  refine cal_of D sc_reduce_rule (fun vs H Q E h => ?_) (fun f cdv A outer s H vs Q E hr h => ?_)
  · obtain ⟨p, q, c, rfl, _⟩ := h
    rfl
  · obtain ⟨p, q, c, rfl, hp, hq, hb, k⟩ := h
    refine ⟨_, (pss_cons (ps_expr (C8.pe_c c_check_at_least hr (by decide) (by rfl) (pa_cons (pv 0) (pa_cons pe_int pa_nil))))
    (pss_cons (ps_expr (C8.pe_c c_check_at_least hr (by decide) (by rfl) (pa_cons (pv 1) (pa_cons pe_int pa_nil))))
    (pss_cons (ps_expr (C8.pe_c c_check_integer hr (by decide) (by rfl) (pa_cons (pv 2) pa_nil)))
    (pss_cons (ps_set (i := 3) sc_reduce_rule.nd rfl (Or.inl rfl) (C8.pe_c c_gcd hr (by decide) (by rfl) (pa_cons (pv 0) (pa_cons (pv 1) pa_nil))))
    (pss_one (ps_ret (pe_tup (pa_cons (pe_op op_fdivW (pv 0) (pv 3)) (pa_cons (pe_op op_fdivW (pv 1) (pv 3)) (pa_cons (pe_op op_fdivW (pv 2) (pv 3)) pa_nil)))))))))), ?_⟩
    have hg := gcd_pos (p := p) hq
    have hd : CDivW 0 (Int.gcd p q : Int) := ⟨hg, (hb.between (by omega) (gcd_le hq)).log (by decide)⟩
    refine ⟨_, rfl, p, 0, rfl, hp, _, rfl, q, 1, rfl, hq, _, rfl, c, rfl, ?_⟩
    refine ⟨_, rfl, _, rfl, p, q, rfl, hp, by omega, ?_⟩
    refine ⟨_, rfl, _, rfl, _, _, rfl, rfl, hd, _, rfl, _, rfl, _, _, rfl, rfl, hd, _, rfl, _, rfl, _, _, rfl, rfl, hd, len10 (by simp), fun r nr => ?_⟩
    exact k r _ (sm_upd nr) upd_same
end
end Lf
namespace Lf
open PySem PySem.Spec PyProof.Rows L2
/-! ### cycle_rule -/
theorem red_ex {a n : Int} (a0 : 0 ≤ a) (n1 : 1 ≤ n) : 0 ≤ a / (Int.gcd a n : Int) ∧ 1 ≤ n / (Int.gcd a n : Int) ∧ Int.gcd (a / (Int.gcd a n : Int)) (n / (Int.gcd a n : Int)) = 1 ∧ n / (Int.gcd a n : Int) * a = a / (Int.gcd a n : Int) * n ∧ a / (Int.gcd a n : Int) ≤ a ∧ n / (Int.gcd a n : Int) ≤ n := by
  have g0 : 0 < (Int.gcd a n : Int) := by
    have := Int.gcd_pos_of_ne_zero_right a (show n ≠ 0 by omega)
    omega
  obtain ⟨p, hp⟩ := Int.gcd_dvd_left a n
  obtain ⟨q, hq⟩ := Int.gcd_dvd_right a n
  have ep : a / (Int.gcd a n : Int) = p := by
    have := Int.mul_ediv_cancel_left p (show (Int.gcd a n : Int) ≠ 0 by omega)
    rw [← hp] at this
    exact this
  have eq : n / (Int.gcd a n : Int) = q := by
    have := Int.mul_ediv_cancel_left q (show (Int.gcd a n : Int) ≠ 0 by omega)
    rw [← hq] at this
    exact this
  have gp : Int.gcd p q = 1 := by
    have e := Int.gcd_mul_left (Int.gcd a n : Int) p q
    rw [← hp, ← hq, Int.natAbs_natCast] at e
    exact Nat.eq_of_mul_eq_mul_left (by omega : 0 < Int.gcd a n) (by omega)
  have la := Int.ediv_le_self (Int.gcd a n : Int) a0
  have ln := Int.ediv_le_self (Int.gcd a n : Int) (show 0 ≤ n by omega)
  have p0 : 0 ≤ a / (Int.gcd a n : Int) := Int.ediv_nonneg a0 (by omega)
  have q0 : 0 ≤ n / (Int.gcd a n : Int) := Int.ediv_nonneg (by omega) (by omega)
  rw [ep, eq] at *
  refine ⟨p0, ?_, gp, ?_, la, ln⟩
  · rcases Int.lt_or_le q 1 with z | z
    · have : q = 0 := by omega
      rw [this, Int.mul_zero] at hq
      omega
    · exact z
  · generalize (Int.gcd a n : Int) = g at hp hq
    rw [hp, hq]
    grind
theorem sum_nn : ∀ {ns : List Int}, (∀ z ∈ ns, 0 ≤ z) → 0 ≤ ns.sum
  | [], _ => Int.le_refl _
  | n :: ns, h => by
    have := h n List.mem_cons_self
    have := sum_nn (ns := ns) fun z hz => h z (List.mem_cons_of_mem _ hz)
    rw [List.sum_cons]
    omega
theorem pS_nn {ns : List Int} (h : ∀ z ∈ ns, 0 ≤ z) (j : Nat) : 0 ≤ pS ns j := sum_nn fun z hz => h z (List.mem_of_mem_take hz)
theorem pS_mono {ns : List Int} (h : ∀ z ∈ ns, 0 ≤ z) (j : Nat) : pS ns j ≤ ns.sum := by
  have e : ns.sum = pS ns j + (ns.drop j).sum := by
    unfold pS
    rw [← List.sum_append, List.take_append_drop]
  have := sum_nn (ns := ns.drop j) fun z hz => h z (List.mem_of_mem_drop hz)
  omega
theorem sum_bd {k : Nat} : ∀ {ns : List Int}, (∀ z ∈ ns, 0 ≤ z ∧ Bd k z) → ns.sum ≤ ns.length * 2 ^ k
  | [], _ => by simp
  | n :: ns, h => by
    obtain ⟨h0, h1⟩ := h n List.mem_cons_self
    have ih := sum_bd (ns := ns) fun z hz => h z (List.mem_cons_of_mem _ hz)
    have : n ≤ 2 ^ k := by
      unfold Bd at h1
      have : (n.natAbs : Int) < ((2 ^ k : Nat) : Int) := by exact_mod_cast h1
      have e : ((2 ^ k : Nat) : Int) = (2 : Int) ^ k := by simp
      omega
    rw [List.sum_cons, List.length_cons, Int.natCast_add, Int.add_mul]
    omega
theorem sum_bd8 {k : Nat} {ns : List Int} (h : ∀ z ∈ ns, 0 ≤ z ∧ Bd k z) (l : ns.length ≤ 200) : Bd (k + 9) ns.sum := by
  have h0 := sum_nn fun z hz => (h z hz).1
  have h1 := sum_bd h
  have h2 : (ns.length : Int) * 2 ^ k ≤ 200 * 2 ^ k := Int.mul_le_mul_of_nonneg_right (by omega) (Int.pow_nonneg (by decide))
  have h3 : (0 : Int) < 2 ^ k := Int.pow_pos (by decide)
  unfold Bd
  have e : ((2 ^ (k + 9) : Nat) : Int) = 512 * 2 ^ k := by
    rw [Nat.pow_add]
    simp
    omega
  have : ((ns.sum.natAbs : Nat) : Int) < ((2 ^ (k + 9) : Nat) : Int) := by
    rw [e]
    omega
  exact_mod_cast this
def phL (ns : List Int) (p q : Int) (i : Nat) : List Int := (List.range i).map fun t => phi ns p q (t + 1)
theorem phL_succ (ns : List Int) (p q : Int) (i : Nat) : phL ns p q (i + 1) = phL ns p q i ++ [phi ns p q (i + 1)] := by
  unfold phL
  rw [List.range_succ, List.map_append]
  rfl
theorem phL_len (ns : List Int) (p q : Int) (i : Nat) : (phL ns p q i).length = i := by
  unfold phL
  rw [List.length_map, List.length_range]
theorem phL_in {ns : List Int} {p q x : Int} {i : Nat} (h : x ∈ phL ns p q i) : ∃ t, t ≤ i ∧ phi ns p q t = x := by
  obtain ⟨t, ht, rfl⟩ := List.mem_map.mp h
  exact ⟨t + 1, List.mem_range.mp ht, rfl⟩
theorem phL_of {ns : List Int} {p q : Int} (n1 : 1 ≤ ns.length) (sm : q * ns.sum = p * ns.length) {t : Nat} (ht : t ≤ ns.length) : phi ns p q t ∈ phL ns p q ns.length := by
  cases t with
  | zero =>
    have e : phi ns p q 0 = phi ns p q (ns.length - 1 + 1) := by
      unfold phi
      rw [show ns.length - 1 + 1 = ns.length by omega, pS_all, pS_zero, sm]
      simp
    rw [e]
    exact List.mem_map.mpr ⟨ns.length - 1, List.mem_range.mpr (by omega), rfl⟩
  | succ t => exact List.mem_map.mpr ⟨t, List.mem_range.mpr (by omega), rfl⟩
section
variable {P : Program} {w : World} {K : PySem.W.Frag} {mg : Str → Option Value} {base : Heap} {C : Addr}
/-- is_counts of whole numbers -/
def spIsCtK : Sp := fun vs H Q _ => ∃ (L : Addr) (kb : Bool) (ns : List Int), vs = [.ref L] ∧ H L = some (sqO kb (ns.map V.int)) ∧ 1 ≤ ns.length ∧ ns.length ≤ 200 ∧ ∀ H', Same H H' → Q (.bl true) H'
theorem okA_is_counts (D : Df K mg "is_counts" s_is_counts P_is_counts) (B : Bi mg) (UE : Be mg) (c_is_integer : C8.Cal P w K mg base 1 "is_integer" spIsInt []) : C8.Cal P w K mg base 2 "is_counts" spIsCtK [] := by
  refine cal_of D sc_is_counts (fun vs H Q E h => ?_) (fun f cdv A outer s H vs Q E hr h => ?_)
  · obtain ⟨L, kb, ns, rfl, _⟩ := h
    rfl
  · obtain ⟨L, kb, ns, rfl, eL, h1, h2, kk⟩ := h
    obtain ⟨tM, hc_MOST_ITEMS⟩ := UE.items_
    refine ⟨_, (pss_cons (ps_if (PW.pt (pw_or (pt_not (pt_val (pe_callB (call_isiT) (by rfl) B.isinstance_ bt_isinstance (pa_cons (pv 0) (pa_cons (pe_tup (pa_cons (pe_bltn (v := .ty "list") (by rfl) B.list_ bt_list rfl) (pa_cons (pe_bltn (v := .ty "tuple") (by rfl) B.tuple_ bt_tuple rfl) pa_nil))) pa_nil))))) (pw_or1 (pt_not (pt_chain op_le op_le pe_int (pe_callB (call_len_seq) (by rfl) B.len_ bt_len (pa_cons (pv 0) pa_nil)) (pe_glob (v := .int 200) (by rfl) hc_MOST_ITEMS ⟨_, rfl⟩))))))
      (pss_one (ps_ret pe_bl))
      pss_nil)
    (pss_one (ps_ret (pe_callB (cr_all rfl) (by rfl) B.all_ bt_all (pa_cons (pe_lc (own := [("item", 1)]) (g := (gName 1)) (by rfl) sc_is_counts.nd (pi_seq (pv 0)) (blkOk_by (own := [("item", 1)]) (N := N_is_counts) (sc := defScope s_is_counts) (by decide +kernel)) (fun _ _ _ _ _ => (pg_name (i := 1) sc_is_counts.nd rfl (Or.inl rfl))) (fun _ _ _ _ _ => pts_nil) (fun _ _ _ _ _ => (C8.pe_c c_is_integer hr (by decide) (by rfl) (pa_cons (pv 1) pa_nil)))) pa_nil))))), ?_⟩
    refine ⟨_, rfl, len10 (by simp), fun tp ntp => ?_⟩
    have s1 := sm_upd (o := .tup [.ty "list", .ty "tuple"]) ntp
    have ea := s1 _ _ eL
    have ty : TyX K (upd H tp (.tup [.ty "list", .ty "tuple"])) (.ref L) (.type (tyN (sqD kb (ns.map PyData.int)))) := by
      cases kb with
      | true => exact .base (.lst ea)
      | false => exact .base (.tup ea)
    have lt : isLT (sqD kb (ns.map PyData.int)) = true := by cases kb <;> rfl
    refine ⟨_, tp, _, _, _, true, rfl, upd_same, .cons (.ty "list") (.cons (.ty "tuple") .nil), ty, (kit_ltD _).trans (congrArg some lt), true, rfl, ?_⟩
    generalize upd H tp (.tup [.ty "list", .ty "tuple"]) = H1 at s1 ea ⊢
    refine iteF ?_
    have lm : (ns.map V.int).length = ns.length := List.length_map ..
    refine ⟨_, rfl, L, _, rfl, (SqB.of ea).or, _, _, rfl, rfl, _, rfl, ?_⟩
    refine iteD (show (1 : Int) ≤ (((ns.map V.int).length : Nat) : Int) by omega) ⟨_, _, rfl, rfl, _, rfl, ?_⟩
    refine iteNS (show (((ns.map V.int).length : Nat) : Int) ≤ 200 by omega) ?_
    refine ⟨_, rfl, L, kb, _, rfl, SqB.of ea, fun Y nY => ?_⟩
    refine lc_it (walk_seq (K := K) (b := kb) (a := L) (xs := ns.map V.int)) (fun i H' => Same H1 H' ∧ H' Y = some (.lst ((List.replicate i true).map V.bl))) ⟨sm_upd nY, upd_same⟩ ?_ ?_ ?_
    · rintro i H' _ ⟨s', _⟩
      exact SqB.of (sq_kp (Fr.same s').kp ea)
    · rintro i x _ H' hi ⟨s', eY⟩ ⟨rfl, hx⟩
      have hx : (ns.map V.int)[i]? = some x := hx
      rw [List.getElem?_map, Option.map_eq_some_iff] at hx
      obtain ⟨z, hz, rfl⟩ := hx
      have il := (List.getElem?_eq_some_iff.mp hz).1
      refine ⟨rfl, _, rfl, z, rfl, _, eY, ?_, ?_, ?_⟩
      · rw [List.length_map, List.length_replicate]
        exact small1000 (by omega)
      · intro b o eb
        rw [upd_ne (ne_of_none eb nY)]
        exact s' _ _ eb
      · rw [upd_same, List.replicate_succ', List.map_append]
        rfl
    rintro H' ⟨s', eY⟩
    refine ⟨Y, _, rfl, SqL.of eY, ?_⟩
    have e : (List.replicate (ns.map V.int).length true).all id = true := by
      rw [List.all_eq_true]
      exact fun x hx => by rw [List.eq_of_mem_replicate hx]; rfl
    rw [e]
    exact kk _ (s1.trans s')
def CycV (ns : List Int) (k : Nat) (v : V) (H : Hp) : Prop := (v = .non ∧ ¬ HasR ns) ∨ ∃ r p q c, v = .ref r ∧ H r = some (tup3 p q c) ∧ CycM ns p q c ∧ RuleB k p q c ∧ q ≤ ns.length
def spCyc : Sp := fun vs H Q _ => ∃ (L : Addr) (kb : Bool) (ns : List Int) (k : Nat), vs = [.ref L] ∧ H L = some (sqO kb (ns.map V.int)) ∧ 1 ≤ ns.length ∧ ns.length ≤ 200 ∧ (∀ z ∈ ns, 0 ≤ z ∧ Bd k z) ∧ k ≤ 2000 ∧
  ∀ v H', Same H H' → CycV ns (k + 9) v H' → Q v H'
abbrev s_cycle_rule : Stmt := topS 17
abbrev N_cycle_rule : List Str := ["pattern", "p", "q", "c", "total", "phases", "time", "events"]
abbrev P_cycle_rule : List Str := ["pattern"]
theorem sc_cycle_rule : FnScope N_cycle_rule P_cycle_rule (defScope s_cycle_rule) := ⟨rfl, rfl, rfl, by decide +kernel, rfl, by decide +kernel, by decide +kernel⟩
theorem cy_len : ∀ vs H Q E, spCyc vs H Q E → vs.length = P_cycle_rule.length := fun vs H Q E h => by
  obtain ⟨L, kb, ns, k, rfl, _⟩ := h
  rfl
theorem cy_hb (B : Bi mg) (cA_is_counts : C8.Cal P w K mg base 2 "is_counts" spIsCtK []) (c_reduce_rule : C8.Cal P w K mg base 3 "reduce_rule" spReduce []) : ∀ (f : Addr) (cdv : Value) (A : Around) (outer : List Env) (s : Shared) (H : Hp) (vs : List V) (Q : VK) (E : XK), Room 3 (A.deeper (envOfC "cycle_rule" (defScope s_cycle_rule) s.heap.objs.size f cdv)) → spCyc vs H Q E →
    ∃ t, PSs (cxOf CX0 P w K mg base N_cycle_rule "cycle_rule" (defScope s_cycle_rule) f cdv A outer s H E).nox (defBody s_cycle_rule) t ∧ t { nx := fun _ H' => Q .non H', rt := Q } (L2.start N_cycle_rule vs) H := by
  intro f cdv A outer s H vs Q E hr h
  · obtain ⟨L, kb, ns, k, rfl, eL, h1, h2, hz, k8, kk⟩ := h
    have c_is_counts := cA_is_counts
    refine ⟨_, (pss_cons (ps_if (PW.pt (pw_or (pt_not (pt_val (C8.pe_c c_is_counts hr (by decide) (by rfl) (pa_cons (pv 0) pa_nil)))) (pw_or1 (pt_cmpR op_lt (pe_callB ((cr_minB rfl hr.units)) (by rfl) B.min_ bt_min (pa_cons (pv 0) pa_nil)) pe_int (nomark _)))))
      (pss_one ps_never)
      pss_nil)
    (pss_cons (ps_asg (C8.pe_c c_reduce_rule hr (by decide) (by rfl) (pa_cons (pe_callB ((cr_sumB rfl)) (by rfl) B.sum_ bt_sum (pa_cons (pv 0) pa_nil)) (pa_cons (pe_callB (call_len_seq) (by rfl) B.len_ bt_len (pa_cons (pv 0) pa_nil)) (pa_cons pe_int pa_nil)))) (pg_tup rfl (pgs_cons (pg_name (i := 1) sc_cycle_rule.nd rfl (Or.inl rfl)) (pgs_cons (pg_name (i := 2) sc_cycle_rule.nd rfl (Or.inl rfl)) (pgs_cons (pg_name (i := 3) sc_cycle_rule.nd rfl (Or.inl rfl)) pgs_nil)))))
    (pss_cons (ps_set (i := 4) sc_cycle_rule.nd rfl (Or.inl rfl) pe_int)
    (pss_cons (ps_set (i := 5) sc_cycle_rule.nd rfl (Or.inl rfl) (pe_lst pa_nil))
    (pss_cons (ps_for PassesOwn.never rfl (pi_enumS (by rfl) B.enumerate_ (pa_cons (pv 0) pa_nil) (pk_cons pe_int pk_nil)) (pg_tup rfl (pgs_cons (pg_name (i := 6) sc_cycle_rule.nd rfl (Or.inl rfl)) (pgs_cons (pg_name (i := 7) sc_cycle_rule.nd rfl (Or.inl rfl)) pgs_nil)))
      (pss_cons (ps_aug (i := 4) sc_cycle_rule.nd rfl (Or.inl rfl) (pv 7) ip_add)
    (pss_one (ps_expr (pe_bm PySem.F.plainAttrs_list PySem.F.slot_list_append PySem.F.type_list_append mt_append (pv 5) (pa_cons (pe_op op_sub (pe_op op_mulW (pv 2) (pv 4)) (pe_op op_mulW (pv 1) (pv 6))) pa_nil))))))
    (pss_cons (ps_if (pt_cmpR op_ge (pe_callB (cr_max rfl) (by rfl) B.max_ bt_max (pa_cons (pv 5) pa_nil)) (pe_op op_add (pe_callB (cr_min rfl) (by rfl) B.min_ bt_min (pa_cons (pv 5) pa_nil)) (pv 2)) (nomark _))
      (pss_one (ps_ret pe_non))
      pss_nil)
    (pss_one (ps_ret (pe_tup (pa_cons (pv 1) (pa_cons (pv 2) (pa_cons (pe_callB (cr_max rfl) (by rfl) B.max_ bt_max (pa_cons (pv 5) pa_nil)) pa_nil)))))))))))), ?_⟩
    have hnn : ∀ z ∈ ns, 0 ≤ z := fun z m => (hz z m).1
    have s0 := sum_nn hnn
    have bs := sum_bd8 hz h2
    obtain ⟨p0, q1, gp, sm, pl, ql⟩ := red_ex s0 (show 1 ≤ (ns.length : Int) by omega)
    refine ⟨_, rfl, L, kb, ns, rfl, eL, h1, h2, fun H1 s1 => ⟨true, rfl, ?_⟩⟩
    refine iteF ?_
    have eL1 := s1 _ _ eL
    refine ⟨_, rfl, L, kb, ns, rfl, SqB.of eL1, by omega, fun m hm lm => ?_⟩
    have m0 := hnn m hm
    refine ⟨_, _, rfl, rfl, _, rfl, iteDn (by omega) ?_⟩
    refine ⟨_, rfl, L, kb, ns, rfl, SqB.of eL1, _, rfl, L, _, rfl, (SqB.of eL1).or, ?_⟩
    rw [List.length_map]
    refine ⟨_, _, _, rfl, s0, by omega, Bd.small 20 (by omega) (by decide), fun r H2 s2 er => ?_⟩
    have bp : Bd (k + 9) (ns.sum / gg ns.sum ns.length) := bs.between p0 pl
    have bq : Bd (k + 9) ((ns.length : Int) / gg ns.sum ns.length) := (Bd.small 8 (by have : (ns.length : Int) / gg ns.sum ns.length ≤ ns.length := ql; have : (1 : Int) ≤ (ns.length : Int) / gg ns.sum ns.length := q1; omega) (by decide)).mono (show 8 ≤ k + 9 by omega)
    have ql' : (ns.length : Int) / gg ns.sum ns.length ≤ ns.length := ql
    refine ⟨r, _, rfl, SqT.of er, rfl, _, _, rfl, _, _, rfl, _, _, rfl, rfl, ?_⟩
    have q1' : 1 ≤ (ns.length : Int) / gg ns.sum ns.length := q1
    have p0' : 0 ≤ ns.sum / gg ns.sum ns.length := p0
    have gp' : Int.gcd (ns.sum / gg ns.sum ns.length) ((ns.length : Int) / gg ns.sum ns.length) = 1 := gp
    have sm' : (ns.length : Int) / gg ns.sum ns.length * ns.sum = ns.sum / gg ns.sum ns.length * ns.length := sm
    generalize ns.sum / gg ns.sum ns.length = p at bp p0' gp' sm'
    generalize (ns.length : Int) / gg ns.sum ns.length = q at bq q1' gp' sm' ql'
    generalize (0 : Int) / gg ns.sum ns.length = c0
    clear p0 q1 gp sm pl ql er
    have eL2 := s2 _ _ eL1
    refine ⟨len10 (by simp), fun F nF => ?_⟩
    have zF := sm_upd (o := .lst []) nF
    refine ⟨_, rfl, L, kb, _, 1, rfl, rfl, SqB.of (zF _ _ eL2), by decide, by decide, ?_⟩
    refine for_it (walk_enumS (K := K) (kb := kb) (a := L) (k0 := 1) (xs := ns.map V.int)) (fun i σ H' => ∃ (y6 y7 : Option V), σ = [some (.ref L), some (.int p), some (.int q), some (.int c0), some (.int (pS ns i)), some (.ref F), y6, y7] ∧ Same H2 H' ∧ H' F = some (.lst ((phL ns p q i).map V.int))) ⟨_, _, rfl, zF, upd_same⟩ ?_ ?_ ?_
    · rintro i σ H' _ ⟨_, _, _, s', _⟩
      exact SqB.of (s' _ _ eL2)
    · rintro i v σ H' H'' hi ⟨y6, y7, rfl, s', eF⟩ ⟨T, x, y, rfl, nT, rfl, hx, hy⟩
      cases hx
      have hy : (ns.map V.int)[i]? = some y := hy
      rw [List.getElem?_map, Option.map_eq_some_iff] at hy
      obtain ⟨x, hx, rfl⟩ := hy
      have il := (List.getElem?_eq_some_iff.mp hx).1
      have zT := sm_upd (o := .tup [.int (1 + (i : Int)), .int x]) nT
      refine ⟨T, _, rfl, SqT.of upd_same, rfl, _, _, rfl, _, _, rfl, rfl, ?_⟩
      refine ⟨_, rfl, _, rfl, _, _, rfl, rfl, ?_⟩
      dsimp only
      rw [← pS_succ hx]
      have bS : Bd (k + 9) (pS ns (i + 1)) := bs.between (pS_nn hnn _) (pS_mono hnn _)
      have bi : Bd (k + 9) (1 + (i : Int)) := (Bd.small 8 (by omega) (by decide)).mono (show 8 ≤ k + 9 by omega)
      refine ⟨_, rfl, .inl ⟨rfl, _, SqL.of (zT _ _ eF)⟩, _, rfl, _, rfl, _, _, rfl, rfl, mulW bq bS (by omega) (by omega) (by omega), _, rfl, _, rfl, _, _, rfl, rfl, mulW bp bi (by omega) (by omega) (by omega), _, _, rfl, rfl, F, _, _, rfl, rfl, zT _ _ eF, ?_, ?_⟩
      · rw [List.length_map, phL_len]
        exact small1000 (by omega)
      refine ⟨_, _, rfl, fun b o eb => ?_, ?_⟩
      · rw [upd_ne (fun z => by rw [z, nF] at eb; cases eb)]
        exact zT _ _ (s' _ _ eb)
      · rw [upd_same, phL_succ, List.map_append]
        have e : phi ns p q (i + 1) = q * pS ns (i + 1) - p * (1 + (i : Int)) := by
          unfold phi
          rw [show ((i + 1 : Nat) : Int) = 1 + (i : Int) by omega]
        rw [e]
        rfl
    rintro σ H3 ⟨y6, y7, rfl, s3, eF⟩
    rw [List.length_map] at eF
    have lF := phL_len ns p q ns.length
    refine ⟨_, rfl, F, _, rfl, SqL.of eF, by omega, fun mx hx lx => ?_⟩
    refine ⟨_, rfl, F, _, rfl, SqL.of eF, by omega, fun mn hn ln => ?_⟩
    refine ⟨_, rfl, _, _, rfl, rfl, _, _, rfl, rfl, _, rfl, ite2 (fun cc => ?_) (fun cc => ?_)⟩
    · have cc : mn + q ≤ mx := of_decide_eq_true cc
      obtain ⟨t1, l1, e1⟩ := phL_in hx
      obtain ⟨t2, l2, e2⟩ := phL_in hn
      exact kk _ _ (s1.trans (s2.trans s3)) (.inl ⟨rfl, no_rule p0' q1' gp' h1 sm' l2 l1 (by omega)⟩)
    · have cc : ¬ mn + q ≤ mx := fun z => cc (decide_eq_true z)
      refine ⟨_, rfl, _, rfl, _, rfl, F, _, rfl, SqL.of eF, by omega, fun mx' hx' lx' => ?_⟩
      have : mx' = mx := by
        have := lx _ hx'
        have := lx' _ hx
        omega
      subst this
      refine ⟨len10 (by simp), fun r' nr' => ?_⟩
      have R : CycR ns p q mx' := cyc_of p0' q1' gp' sm' (fun t ht => lx _ (phL_of h1 sm' ht)) (fun t ht => by have := ln _ (phL_of h1 sm' ht); omega)
      exact kk _ _ ((s1.trans (s2.trans s3)).trans (sm_upd nr')) (.inr ⟨r', p, q, mx', rfl, upd_same, ⟨R, phL_in hx⟩, ⟨p0', q1', gp', bp, bq, bq.between R.c0 (by have := R.cq; omega)⟩, ql'⟩)
theorem ok_cycle_rule (D : Df K mg "cycle_rule" s_cycle_rule P_cycle_rule) (B : Bi mg) (cA_is_counts : C8.Cal P w K mg base 2 "is_counts" spIsCtK []) (c_reduce_rule : C8.Cal P w K mg base 3 "reduce_rule" spReduce []) : C8.Cal P w K mg base 4 "cycle_rule" spCyc [] := by
  exact cal_of D sc_cycle_rule cy_len (cy_hb B cA_is_counts c_reduce_rule)
/-- a list or a tuple of 1 to 200 whole numbers from 0 on -/
def patP (d : PyData) : Prop := ∃ (kb : Bool) (ns : List Int), d = sqD kb (ns.map PyData.int) ∧ 1 ≤ ns.length ∧ ns.length ≤ 200 ∧ ∀ z ∈ ns, 0 ≤ z
def spCyBad (C : Addr) : Sp := fun vs H _ E => ∃ (v : V) (d : PyData), vs = [v] ∧ Dv H v d ∧ ¬ patP d ∧ ∀ H', Same H H' → OutC C v H' E
theorem okx_cycle_rule (D : Df K mg "cycle_rule" s_cycle_rule P_cycle_rule) (T : ValC P K mg C "InvalidCounts" "value") (B : Bi mg) (cA_is_counts : C8.Cal P w K mg base 2 "is_counts" spIsCtK []) (c_is_counts : C8.Cal P w K mg base 2 "is_counts" spIsCtD []) (c_reduce_rule : C8.Cal P w K mg base 3 "reduce_rule" spReduce []) : CalX P w K mg base 4 "cycle_rule" (fun vs H Q E => spCyc vs H Q E ∨ spCyBad C vs H Q E) := by
  refine calx_both D sc_cycle_rule cy_len (fun vs H Q E h => ?_) (cy_hb B cA_is_counts c_reduce_rule) (fun f cdv A outer s H vs Q E hr h => ?_)
  · obtain ⟨v, d, rfl, _⟩ := h
    rfl
  · obtain ⟨v, d, rfl, hv, hn, he⟩ := h
    refine ⟨_, pss_cons (ps_if (PW.pt (pw_or (pt_not (pt_val (C8.pe_c c_is_counts hr (by decide) (by rfl) (pa_cons (pv 0) pa_nil)))) (pw_or1 (pt_cmpR op_lt (pe_callB (cr_minB rfl hr.units) (by rfl) B.min_ bt_min (pa_cons (pv 0) pa_nil)) pe_int (nomark _))))) (pss_one (ps_raise rfl (takes_of rfl rfl rfl rfl) (pmk_val T hr (by decide) rfl (pv 0)))) pss_nil) pss_no, ?_⟩
    refine ⟨_, rfl, v, d, rfl, hv, fun b H1 s1 hb => ⟨b, rfl, ?_⟩⟩
    cases b with
    | false => exact iteT (iteT ⟨_, rfl, mkv (he _ s1)⟩)
    | true =>
      obtain ⟨kb, ns, rfl, q1, q2⟩ := hb.mp rfl
      obtain ⟨A', rfl, eA⟩ := dv_ints hv
      refine iteF ⟨_, rfl, A', kb, ns, rfl, SqB.of (s1 _ _ eA), by omega, fun m hm lm => ?_⟩
      have m0 : m < 0 := Int.not_le.mp fun z => hn ⟨kb, ns, rfl, q1, q2, fun y hy => Int.le_trans z (lm y hy)⟩
      exact ⟨_, _, rfl, rfl, _, rfl, iteD m0 ⟨_, rfl, mkv (he _ s1)⟩⟩
end
end Lf
namespace Lf
open PySem PySem.Spec PyProof.Rows L2
/-! ### lists of the very same items, or of other lengths -/
def SmI (xs : List V) : Prop := ∀ z ∈ xs, flatB z = true ∨ ∃ c, z = .ref c
def rNeS (K : PySem.W.Frag) : R2 := fun x y H Q => ∃ a b xs ys, x = .ref a ∧ y = .ref b ∧ SqL K H a xs ∧ SqL K H b ys ∧ ((xs.length ≠ ys.length ∧ Q (.bl true) H) ∨ (xs = ys ∧ SmI xs ∧ Q (.bl false) H))
def rEqS (K : PySem.W.Frag) : R2 := fun x y H Q => ∃ a b xs ys, x = .ref a ∧ y = .ref b ∧ SqL K H a xs ∧ SqL K H b ys ∧ ((xs.length ≠ ys.length ∧ Q (.bl false) H) ∨ (xs = ys ∧ SmI xs ∧ Q (.bl true) H))
theorem smI_at {A : Around} {s : Shared} {xs : List V} : ∀ {us ws : List Value}, SmI xs → Vals xs us → Vals xs ws → ∀ j (h1 : j < us.length) (h2 : j < ws.length), SeqAt.EqAt A s us[j] ws[j] true := by
  induction xs with
  | nil =>
    intro us ws _ r1 r2 j h1 _
    cases r1
    exact absurd h1 (Nat.not_lt_zero j)
  | cons x xs ih =>
    intro us ws hs r1 r2 j h1 h2
    cases r1 with
    | cons a1 b1 =>
      cases r2 with
      | cons a2 b2 =>
        cases j with
        | zero =>
          rcases hs x List.mem_cons_self with f | ⟨c, rfl⟩
          · exact eqAt_same a1 a2 f
          · cases a1
            cases a2
            exact SeqAt.EqAt.same _
        | succ j => exact ih (fun z hz => hs z (List.mem_cons_of_mem _ hz)) b1 b2 j (Nat.lt_of_succ_lt_succ h1) (Nat.lt_of_succ_lt_succ h2)
section
variable {X : Cx}
theorem op_neS (hu : X.A.units + 64 < cLine) : OpR X (compareOp .NotEq) (rNeS X.K) := by
  intro pins s σ H x y v u Q I rx ry h
  obtain ⟨a, b, xs, ys, rfl, rfl, ha, hb, h⟩ := h
  cases rx
  cases ry
  obtain ⟨us, r1, p1, _⟩ := I.list ha
  obtain ⟨ws, r2, p2, _⟩ := I.list hb
  have l1 := r1.length
  have l2 := r2.length
  rcases h with ⟨hne, q⟩ | ⟨rfl, hs, q⟩
  · exact SeqAt.RcNeAt.lists_lengths p1.isList p2.isList (by rw [bne_iff_ne, List.size_toArray, List.size_toArray]; omega) (by omega) _ _ _ _ ⟨.bl true, H, I, rfl, q⟩
  · have hsz : us.toArray.size = ws.toArray.size := by rw [List.size_toArray, List.size_toArray]; omega
    have R := SeqAt.RcNeAt.lists (e := fun _ => true) p1.isList p2.isList hsz (show X.A.units < cLine by omega) (fun j h1 h2 => by
      have := smI_at (A := X.A.in1) (s := s) hs r1 r2 j (by simpa using h1) (by simpa using h2)
      simpa using this)
    rw [show ((List.range us.toArray.size).all fun _ => true) = true from List.all_eq_true.mpr fun _ _ => rfl] at R
    exact R _ _ _ _ ⟨.bl false, H, I, rfl, q⟩
theorem op_eqS (hu : X.A.units + 64 < cLine) : OpR X (compareOp .Eq) (rEqS X.K) := by
  intro pins s σ H x y v u Q I rx ry h
  obtain ⟨a, b, xs, ys, rfl, rfl, ha, hb, h⟩ := h
  cases rx
  cases ry
  obtain ⟨us, r1, p1, _⟩ := I.list ha
  obtain ⟨ws, r2, p2, _⟩ := I.list hb
  have l1 := r1.length
  have l2 := r2.length
  rcases h with ⟨hne, q⟩ | ⟨rfl, hs, q⟩
  · exact SeqAt.RcAt.lists_lengths p1.isList p2.isList (by rw [bne_iff_ne, List.size_toArray, List.size_toArray]; omega) (by omega) _ _ _ _ ⟨.bl false, H, I, rfl, q⟩
  · have hsz : us.toArray.size = ws.toArray.size := by rw [List.size_toArray, List.size_toArray]; omega
    have R := SeqAt.RcAt.lists (e := fun _ => true) p1.isList p2.isList hsz (show X.A.units < cLine by omega) (fun j h1 h2 => by
      have := smI_at (A := X.A.in1) (s := s) hs r1 r2 j (by simpa using h1) (by simpa using h2)
      simpa using this)
    rw [show ((List.range us.toArray.size).all fun _ => true) = true from List.all_eq_true.mpr fun _ _ => rfl] at R
    exact R _ _ _ _ ⟨.bl true, H, I, rfl, q⟩
end
end Lf
namespace Lf
open PySem PySem.Spec PyProof.Rows L2
section
variable {P : Program} {w : World} {K : PySem.W.Frag} {mg : Str → Option Value} {base : Heap} {C : Addr}
def spIsIntL : Sp := fun vs H Q _ => ∃ (v : V) (d : PyData), vs = [v] ∧ Dv H v d ∧ Q (.bl (isI d)) H
abbrev s_l_is_int : Stmt := topS 28
abbrev N_l_is_int : List Str := ["_law_thing"]
abbrev P_l_is_int : List Str := ["_law_thing"]
theorem sc_l_is_int : FnScope N_l_is_int P_l_is_int (defScope s_l_is_int) := ⟨rfl, rfl, rfl, by decide +kernel, rfl, by decide +kernel, by decide +kernel⟩
theorem ok_l_is_int (D : Df K mg "_law_is_int" s_l_is_int P_l_is_int) (B : Bi mg) : C8.Cal P w K mg base 1 "_law_is_int" spIsIntL [] := by
  refine cal_of D sc_l_is_int (fun vs H Q E h => ?_) (fun f cdv A outer s H vs Q E hr h => ?_)
  · obtain ⟨v, d, rfl, _⟩ := h
    rfl
  · obtain ⟨v, d, rfl, dv, q⟩ := h
    refine ⟨_, (pss_one (ps_ret (pe_and (pe_callB (call_isi) (by rfl) B.isinstance_ bt_isinstance (pa_cons (pv 0) (pa_cons (pe_bltn (v := .ty "int") (by rfl) B.int_ bt_int rfl) pa_nil))) (pe_one (pe_not (pe_callB (call_isi) (by rfl) B.isinstance_ bt_isinstance (pa_cons (pv 0) (pa_cons (pe_bltn (v := .ty "bool") (by rfl) B.bool_ bt_bool rfl) pa_nil)))))))), ?_⟩
    refine ⟨_, rfl, _, _, _, _, isIB d, rfl, .ty "int", dv.ty, kit_ty (kit_int d), isIB d, rfl, ?_⟩
    cases dv with
    | int i => exact iteT ⟨_, rfl, _, _, _, _, false, rfl, .ty "bool", (Dv.int i).ty, kit_ty (kit_bool (.int i)), false, rfl, q⟩
    | bl b => exact iteT ⟨_, rfl, _, _, _, _, true, rfl, .ty "bool", (Dv.bl b).ty, kit_ty (kit_bool (.bool b)), true, rfl, q⟩
    | _ => exact iteF q
end
end Lf
namespace Lf
open PySem PySem.Spec PyProof.Rows L2
theorem at_map {cs : List Int} {i : Nat} {x : V} (h : (cs.map V.int)[i]? = some x) : ∃ c, c ∈ cs ∧ x = .int c := by
  rw [List.getElem?_map] at h
  cases e : cs[i]? with
  | none =>
    rw [e] at h
    cases h
  | some c =>
    rw [e] at h
    cases h
    exact ⟨c, List.mem_of_getElem? e, rfl⟩
theorem at_in {xs : List V} {d : Int} (h0 : 0 ≤ d) (h1 : d < (xs.length : Int)) : ∃ x, atI xs d = some x ∧ x ∈ xs := by
  obtain ⟨j, rfl⟩ := Int.eq_ofNat_of_zero_le h0
  have hj : j < xs.length := by omega
  exact ⟨_, atI_nat (List.getElem?_eq_getElem hj), List.getElem_mem hj⟩
theorem at_ints {ns : List Int} {d : Int} (h0 : 0 ≤ d) (h1 : d < (ns.length : Int)) : ∃ x, atI (ns.map V.int) d = some (.int x) ∧ x ∈ ns ∧ ns[d.toNat]? = some x := by
  obtain ⟨j, rfl⟩ := Int.eq_ofNat_of_zero_le h0
  have hj : j < ns.length := by omega
  have e : ns[j]? = some ns[j] := List.getElem?_eq_getElem hj
  exact ⟨ns[j], atI_nat (by rw [List.getElem?_map, e]; rfl), List.getElem_mem hj, e⟩
theorem ixN_in {n : Nat} {d : Int} (h0 : 0 ≤ d) (h1 : d < (n : Int)) : ixN n d = some d.toNat := by
  unfold ixN
  rw [if_pos h0, if_pos h1]
/-- a list of ints, within k bits -/
structure Row (H : Hp) (R : Addr) (k : Nat) (ns : List Int) : Prop where
  e : H R = some (.lst (ns.map V.int))
  b : ∀ z ∈ ns, Bd k z
theorem Row.fr {H H' : Hp} {R : Addr} {k : Nat} {ns : List Int} (h : Row H R k ns) (f : Fr H H') : Row H' R k ns := ⟨f.l _ _ h.e, h.b⟩
theorem Row.mono {H : Hp} {R : Addr} {k j : Nat} {ns : List Int} (h : Row H R k ns) (l : k ≤ j) : Row H R j ns := ⟨h.e, fun z hz => (h.b z hz).mono l⟩
theorem bd_count {k : Nat} {p q c t : Int} (k0 : 0 < k) (R : RuleB k p q c) (bt : Bd k t) : Bd (2 * k + 1) ((p * t + c) / q) :=
  Bd.ediv (Bd.add ((Bd.mul R.bp bt).mono (by omega : k + k ≤ 2 * k)) (R.bc.mono (by omega))) (by have := R.q1; omega)
theorem set_ints (ns : List Int) (j : Nat) (x : Int) : (ns.map V.int).set j (.int x) = (ns.set j x).map V.int := by
  rw [List.map_set]
theorem bint (b : Bool) : Bd 1 (if b = true then 1 else 0) := by
  cases b <;> exact Bd.small 1 (by decide) (by decide)
theorem row_app {k : Nat} {xs ys : List Int} (h : ∀ z ∈ xs, Bd k z) (h2 : ∀ z ∈ ys, Bd k z) : ∀ z ∈ xs ++ ys, Bd k z := fun z hz => (List.mem_append.mp hz).elim (h z) (h2 z)
theorem cut_drop (xs : List V) (m : Int) (h : 0 ≤ m) : cutV xs (some m) none = xs.drop m.toNat := by
  obtain ⟨j, rfl⟩ := Int.eq_ofNat_of_zero_le h
  unfold cutV
  rw [HT.sIx_none, HT.sIx_nat]
  rcases Nat.le_total j xs.length with q | q
  · rw [Nat.min_eq_left q]
    exact List.take_of_length_le (by rw [List.length_drop]; exact Nat.le_refl _)
  · rw [Nat.min_eq_right q, List.drop_of_length_le (Nat.le_refl _)]
    show List.take _ [] = List.drop j xs
    rw [List.take_nil, List.drop_of_length_le q]
end Lf
namespace Lf
open PySem PySem.Spec PyProof.Rows L2
/-! ### a try after which the way goes on, or that raises what is kept in a name -/
section
variable {X : Cx} {x n : Str} {c : Value} {i : Nat} {body suite rest : List Stmt} {b0 : Stmt} {np po pq : Pos} {tb : WX → TS} {ts : Addr → TS} {tr : Addr → Value → Option Addr → TS} {tn : TS}
theorem pss_keepN (stk : X.stack = X.env :: X.outer) (fr : X.env.frame = some X.env.locals) (nd : X.N.Nodup) (ni : X.N[i]? = some n) (kn : X.env.kindOf n = some .local) (hc : Names X x c)
    (hb : ∀ (W : WX) (pn : List (Addr × Obj)) (xe : Value → Shared → Prop), Takes (X.tr pn xe) W → PSs (X.tr pn xe) body (tb W))
    (hsu : ∀ (a : Addr) (oe : Obj) (pn : List (Addr × Obj)), PSs (X.suite a ((a, oe) :: pn)) (b0 :: suite) (ts a))
    (hre : ∀ (a : Addr) (oe : Obj) (cls : Value) (d : Option Addr) (pn : List (Addr × Obj)), Zc cls d oe → (∃ vs, oe.data = .fields vs) → PSs (X.tr ((a, oe) :: pn) X.xe) rest (tr a cls d)) (hn : PSs X rest tn) :
    PSs X (.Try body [.ExceptHandler (some (.Name x np)) (some n) (b0 :: suite) pq] [] [] po :: rest) (fun D σ H => tb (wKeep X.K c i ts (fun a cls d σ' H' => tr a cls d D σ' H')) { nx := fun σ H => tn D σ H, rt := D.rt } σ H) := by
  refine ⟨fun pins s σ H D I h => wpAny_execs_cons (wpAny_Try_except ?_)⟩
  have ok := I.ok
  have frm : X.A.frames = some (X.env :: X.outer) := by rw [ok.frames, stk]
  refine wpAny_mono ((hb (wKeep X.K c i ts (fun a cls d σ' H' => tr a cls d D σ' H')) (X.pn ++ pins) _ (fun u s' air => ?_)).run [] s σ H { nx := fun σ H => tn D σ H, rt := D.rt } (I.toTry _) h) (fun f s1 z => ?_) (fun e s1 he => he)
  · obtain ⟨a, B, sI, pins', σ1, H1, cls, d, rfl, J0, nb, up, sky, na, os, ag, em, go⟩ := air
    have J : Inv X pins σ1 H1 sI := J0.ofTry ok
    rw [stk] at sky
    refine Sky.land Zc.steady frm fr sky fun h3 f3 u3 => ?_
    have J3 : Inv X pins σ1 H1 { s' with heap := h3 } := J.landed nb f3.1 (up.trans u3) os ag
    obtain ⟨o3, v3, g3, z3, d3⟩ := f3.there
    have nf : a ∉ frs (X.env :: X.outer) := fun hm => by
      obtain ⟨_, o', e', hn⟩ := f3.2.2.1.mem hm
      rw [g3] at e'
      cases e'
      exact hn _ d3
    have n1 : a ≠ X.env.locals := fun z => nf (List.mem_filterMap.mpr ⟨X.env, List.mem_cons_self, by rw [fr, z]⟩)
    have n2 : a ∉ X.fs := fun hm => by
      obtain ⟨e, he, q⟩ := List.mem_filterMap.mp hm
      exact nf (List.mem_filterMap.mpr ⟨e, List.mem_cons_of_mem _ he, q⟩)
    have S3 := J3.suite g3 d3 na n1 n2
    refine wpAny_handleBy_cons (codeAny_handlers_test ?_) (by intro q; cases q)
    have lt : PySem.W.Looks (model X.prog X.w) h3 (typeOf (.ref a)) cls := fun A Q E s k q => wpAny_typeOf_ref (k _ _ g3) (by rw [z3.1]; exact q)
    have lm := PySem.W.exm_one (M := model X.prog X.w) J3.kIn lt em
    have seen : ∀ {Q : Value → Shared → Prop} {E : Value → Shared → Prop}, Q c { s' with heap := h3 } → wpAny (model X.prog X.w) (X.A.mark (some (.ref a))) (eval (.Name x np) X.env) Q E { s' with heap := h3 } := fun {Q E} q => by
      obtain ⟨hg, hd, hm | ⟨hm, hv, hw⟩⟩ := hc
      · exact ld_glob S3 hg hm q hd
      · exact ld_blt S3 hg hm hv q hw hd
    refine seen (lm.here (codeAny_handlers_suite_as (HandSPX.lands_againZ f3 fun h4 f4 u4 => ?_)))
    have J4 : Inv X pins σ1 H1 { s' with heap := h4 } := J.landed nb f4.1 ((up.trans u3).trans u4) os ag
    obtain ⟨o4, v4, g4, z4, d4⟩ := f4.there
    have S4 := J4.suite g4 d4 na n1 n2
    refine store_ok (X := X.suite a ((a, o4) :: (X.pn ++ pins))) (v := .ref a) S4 nd ni (.inl kn) rfl (fun s5 S5 => ?_) (.inr kn)
    refine wpAny_mono ((hsu a o4 (X.pn ++ pins)).run [] s5 _ H1 _ S5 (go a na)) (fun f s6 q => ?_) (fun _ _ z => False.elim z)
    cases f with
    | next =>
      obtain ⟨σ6, H6, S6, q6⟩ := q
      refine gone_ok (X := X.tr ((a, o4) :: (X.pn ++ pins)) X.xe) (out_suite ok S6) nd ni kn fun s7 J7 => ?_
      refine wpAny_mono ((hre a o4 cls d (X.pn ++ pins) z4 ⟨_, d4⟩).run [] s7 _ H6 D J7 q6) (fun f s8 r => ?_) (fun _ _ z => z)
      cases f with
      | next =>
        obtain ⟨σ8, H8, J8, q8⟩ := r
        exact ⟨σ8, H8, pin_out ok J8, q8⟩
      | brk =>
        obtain ⟨σ8, H8, J8, q8⟩ := r
        exact ⟨σ8, H8, pin_out ok J8, q8⟩
      | cont =>
        obtain ⟨σ8, H8, J8, q8⟩ := r
        exact ⟨σ8, H8, pin_out ok J8, q8⟩
      | ret u =>
        obtain ⟨v8, σ8, H8, J8, r8, q8⟩ := r
        exact ⟨v8, σ8, H8, pin_out ok J8, r8, q8⟩
    | brk =>
      obtain ⟨_, _, _, q6⟩ := q
      exact False.elim q6
    | cont =>
      obtain ⟨_, _, _, q6⟩ := q
      exact False.elim q6
    | ret u =>
      obtain ⟨_, _, _, _, _, q6⟩ := q
      exact False.elim q6
  · cases f with
    | next =>
      obtain ⟨σ8, H8, J8, q8⟩ := z
      exact wpAny_execs_nil (hn.run pins s1 σ8 H8 D (J8.ofTry ok) q8)
    | brk =>
      obtain ⟨_, _, _, q6⟩ := z
      exact False.elim q6
    | cont =>
      obtain ⟨_, _, _, q6⟩ := z
      exact False.elim q6
    | ret u =>
      obtain ⟨v8, σ8, H8, J8, r8, q8⟩ := z
      exact ⟨v8, σ8, H8, J8.ofTry ok, r8, q8⟩
end
/-! ### isinstance of a kept exception that has its dict: by a class, by a tuple of classes -/
theorem call_isKV {X : Cx} {a D dd : Addr} {oe : Obj} {pn : List (Addr × Obj)} {xe : Value → Shared → Prop} (C : ExcC X.K D) (hz : Zc (.ref D) (some dd) oe) (hf : ∃ vs, oe.data = .fields vs) : CallR (X.tr ((a, oe) :: pn) xe) (.builtin "isinstance") (rIsV X.K D a dd) := by
  intro pins s σ H xs us Q I r h
  obtain ⟨c, cv, b, fs, rfl, hcv, e, ed, q⟩ := h
  cases r with
  | cons rx rr =>
    cases rr with
    | cons rt rr =>
      cases rr
      cases rx
      obtain ⟨ge, _⟩ := I.pin (a, oe) (List.mem_append.mpr (.inl List.mem_cons_self))
      obtain ⟨vs, hv⟩ := hf
      obtain ⟨mA, hns, _⟩ := (show ObjOk X.prog X.w H s.heap dd (.xd fs) from I.hok dd _ ed)
      obtain ⟨od, _, _, ho, _⟩ := hns
      have J : PySem.W.InstAt s.heap a oe D (some od) := by
        obtain ⟨oc, od', oda, osl⟩ := oe
        obtain ⟨h1, h2⟩ := hz
        dsimp only at h1 h2 hv
        subst h1 h2 hv
        exact ⟨ge, rfl, rfl, ho⟩
      have hcl : (PySem.W.clsIn X.K D).isSome = true := by
        obtain ⟨cd, hc, _⟩ := PySem.W.any_some C.hd
        rw [hc]
        rfl
      have kx := PySem.W.kitx_exc (x := a) (ox := oe) (od := some od) hcl C.hg C.hk C.hs C.ha C.hn C.ht C.hm
      have ec := hcv _ rt
      subst ec
      exact PySem.W.kia_one kx I.kIn J e (fun z => nomatch z) fun tk => ⟨.bl b, H, I.kept (t' := tk) fun _ _ z => z, rfl, q⟩
def rIsT (K : PySem.W.Frag) (D a dd : Addr) : List V → Hp → VK → Prop := fun xs H Q => ∃ (tp : Addr) (cs : List Addr) (b : Bool) (fs : List (Str × V)), xs = [.ref a, .ref tp] ∧ SqT K H tp (cs.map V.ref) ∧ PySem.W.kitAny K (.ref D) (cs.map Value.ref) = some b ∧ H dd = some (.xd fs) ∧ Q (.bl b) H
theorem call_isKT {X : Cx} {a D dd : Addr} {oe : Obj} {pn : List (Addr × Obj)} {xe : Value → Shared → Prop} (C : ExcC X.K D) (hz : Zc (.ref D) (some dd) oe) (hf : ∃ vs, oe.data = .fields vs) : CallR (X.tr ((a, oe) :: pn) xe) (.builtin "isinstance") (rIsT X.K D a dd) := by
  intro pins s σ H xs us Q I r h
  obtain ⟨tp, cs, b, fs, rfl, hT, e, ed, q⟩ := h
  cases r with
  | cons rx rr =>
    cases rr with
    | cons rt rr =>
      cases rr
      cases rx
      obtain ⟨ge, _⟩ := I.pin (a, oe) (List.mem_append.mpr (.inl List.mem_cons_self))
      obtain ⟨vs, hv⟩ := hf
      obtain ⟨mA, hns, _⟩ := (show ObjOk X.prog X.w H s.heap dd (.xd fs) from I.hok dd _ ed)
      obtain ⟨od, _, _, ho, _⟩ := hns
      have J : PySem.W.InstAt s.heap a oe D (some od) := by
        obtain ⟨oc, od', oda, osl⟩ := oe
        obtain ⟨h1, h2⟩ := hz
        dsimp only at h1 h2 hv
        subst h1 h2 hv
        exact ⟨ge, rfl, rfl, ho⟩
      have hcl : (PySem.W.clsIn X.K D).isSome = true := by
        obtain ⟨cd, hc, _⟩ := PySem.W.any_some C.hd
        rw [hc]
        rfl
      have kx := PySem.W.kitx_exc (x := a) (ox := oe) (od := some od) hcl C.hg C.hk C.hs C.ha C.hn C.ht C.hm
      obtain ⟨its, rv, ⟨o, e1, e2, nn, e3⟩, _⟩ := I.tuple hT
      have ei := vals_refs rv
      subst ei
      cases rt
      obtain ⟨oc, od', oda, osl⟩ := o
      dsimp only at e2 e3
      subst e2 e3
      exact PySem.W.kia_tup kx I.kIn J e1 e (fun z => nomatch z) fun tk => ⟨.bl b, H, I.kept (t' := tk) fun _ _ z => z, rfl, q⟩
theorem pe_xk {Y : Cx} {a C : Addr} {oe : Obj} {cls : Value} {d : Option Addr} {e : Expr} {te : TE} {pos : Pos} {n : Str} (T : XfC Y.K C) (hno : PySem.W.findIn Y.K (.ref C) n = some none)
    (hz : Zc cls d oe) (hf : ∃ vs, oe.data = .fields vs) (hin : (a, oe) ∈ Y.pn) (he : PE Y e te) (hb : attributeBase e n Y.env (eval e Y.env) = eval e Y.env := by rfl) : PE Y (.Attribute e n pos) (tXf a cls d C n te) := by
  constructor
  intro pins s σ H Q I h
  refine attr_of hb (thn (he.run pins s σ H _ I h) fun u s1 hh => ?_)
  obtain ⟨x, H1, J1, rx, ex, ec, dd, fs, v, ed, ea, l, q⟩ := hh
  subst ex ec ed
  obtain rfl : u = Value.ref a := rx
  obtain ⟨there, _⟩ := J1.pin (a, oe) (List.mem_append_left _ hin)
  obtain ⟨vs, hd⟩ := hf
  obtain ⟨mA, hns, hr⟩ := (show ObjOk Y.prog Y.w H1 s1.heap dd (.xd fs) from J1.hok dd _ ea)
  obtain ⟨od, ho, hl⟩ := lookIn_ns hns
  obtain ⟨u, hu, ru⟩ := RelO.some_of (v := v) (o := mA n) (by rw [← l]; exact hr n)
  have inst : PySem.W.InstAt s1.heap a oe C (some od) := ⟨there, hz.1, by unfold PySem.W.notCls; rw [hd] <;> rfl, by rw [hz.2]; exact ho⟩
  have found := PySem.W.findObj_own T.hdC hno rfl (by rw [hl, hu])
  exact HandSPX.exc_get J1.kIn inst T.ga T.gg T.exC found (handed_of ru) ⟨v, H1, J1.tok _, ru, q⟩
/-- what the top tells of the classes -/
structure Cls20 (K : PySem.W.Frag) (mg : Str → Option Value) (C L N R E F : Addr) : Prop where
  gL : mg "LeapfitError" = some (.ref L)
  gN : mg "InvalidNumber" = some (.ref N)
  gR : mg "InvalidRule" = some (.ref R)
  gE : mg "NoEvents" = some (.ref E)
  gF : mg "NoRule" = some (.ref F)
  oL : PySem.W.kitOne K (.ref C) (.ref L) = some true
  oN : PySem.W.kitAny K (.ref C) [.ref N, .ref R, .ref E, .ref F] = some false
/-! ### _law_refused -/
/-- nothing caught: None is given -/
def NonE (Q : VK) (H : Hp) : Prop := tSeq (tIfS (tTest (tOp (fun x y H Q => y = V.non ∧ Q (V.bl (decide (x = V.non))) H) (tVar 1) (tC V.non))) (tRet (tC V.non)) tNext) tNoS { nx := fun _ H' => Q .non H', rt := Q } [none, some V.non, none, none] H
theorem nonE {Q : VK} {H : Hp} (h : Q .non H) : NonE Q H := ⟨_, rfl, rfl, _, rfl, iteT h⟩
def Ech20 (C : Addr) (Q : VK) : XK := fun cls d H' => cls = .ref C ∧ ∃ (dd : Addr) (v : V), d = some dd ∧ H' dd = some (.xd [("value", v)]) ∧ ∀ L H'', Same H' H'' → H'' L = some (.lst [v]) → Q (.ref L) H''
def TRef20 (C : Addr) : (XK → Hp → VK → Prop) → Hp → VK → Prop := fun tl H Q => tl (Ech20 C Q) H (fun _ H' => NonE Q H')
abbrev s_l_refused : Stmt := topS 32
abbrev N_l_refused : List Str := ["_law_asked", "_law_caught", "_law_other", "e"]
abbrev P_l_refused : List Str := ["_law_asked"]
theorem sc_l_refused : FnScope N_l_refused P_l_refused (defScope s_l_refused) := ⟨rfl, rfl, rfl, by decide +kernel, rfl, by decide +kernel, by decide +kernel⟩
theorem four20 {α : Type} {l : List α} (h : l.length = 4) : ∃ a b c d, l = [a, b, c, d] := by
  match l, h with
  | [a, b, c, d], _ => exact ⟨a, b, c, d, rfl⟩
theorem gives_20 {X : Cx} {C L N R E F g : Addr} {cdg : Value} {q : Str} (T : ValC X.prog X.K X.mg C "InvalidCounts" "value") (U : Cls20 X.K X.mg C L N R E F) (B : Bi X.mg) :
    LamX.GivesTo X N_l_refused "_law_refused" (defScope s_l_refused) g cdg (defBody s_l_refused) "_law_asked" q (TRef20 C) := by
  intro f c' s H Q tl act hc h
  have keyR : ∀ a : Addr × Addr, ∃ t : TS, (∀ (oe : Obj) (pn : List (Addr × Obj)), Zc (.ref C) (some a.2) oe → (∃ vs, oe.data = .fields vs) → PSs ((cxOf C8.CX0 X.prog X.w X.K X.mg X.base N_l_refused "_law_refused" (defScope s_l_refused) g cdg X.A X.stack s H C8.E0).nox.tr ((a.1, oe) :: pn) (fun _ _ => False)) (List.drop 2 (defBody s_l_refused)) t) ∧
      ∀ s0 s2 s3 H1 (v : V), H1 a.2 = some (.xd [("value", v)]) → (∀ L H'', Same H1 H'' → H'' L = some (.lst [v]) → Q (.ref L) H'') → t { nx := fun _ H' => Q .non H', rt := Q } [s0, some (.ref a.1), s2, s3] H1 := by
    intro a
    refine ⟨?t, fun oe pn hz hf => ?p, fun s0 s2 s3 H1 v e3 hh => ?q⟩
    case p =>
      have ci := call_isKV (X := (cxOf C8.CX0 X.prog X.w X.K X.mg X.base N_l_refused "_law_refused" (defScope s_l_refused) g cdg X.A X.stack s H C8.E0).nox) (a := a.1) (dd := a.2) (pn := pn) (xe := fun _ _ => False) T.ex hz hf
      have ct := call_isKT (X := (cxOf C8.CX0 X.prog X.w X.K X.mg X.base N_l_refused "_law_refused" (defScope s_l_refused) g cdg X.A X.stack s H C8.E0).nox) (a := a.1) (dd := a.2) (pn := pn) (xe := fun _ _ => False) T.ex hz hf
      exact pss_cons (ps_if (pt_cmpR op_isN (pv 1) pe_non (nomark _)) (pss_one (ps_ret pe_non)) pss_nil)
        (pss_cons (ps_set (i := 2) sc_l_refused.nd rfl (Or.inl rfl) (pe_callB ct (by rfl) B.isinstance_ bt_isinstance (pa_cons (pv 1) (pa_cons (pe_tup (pa_cons (pe_glob (v := .ref N) (by rfl) U.gN rfl) (pa_cons (pe_glob (v := .ref R) (by rfl) U.gR rfl) (pa_cons (pe_glob (v := .ref E) (by rfl) U.gE rfl) (pa_cons (pe_glob (v := .ref F) (by rfl) U.gF rfl) pa_nil))))) pa_nil))))
        (pss_one (ps_ret (pe_ifExp (PW.pt (pw_and (pt_val (pe_callB ci (by rfl) B.isinstance_ bt_isinstance (pa_cons (pv 1) (pa_cons (pe_glob (v := .ref L) (by rfl) U.gL rfl) pa_nil)))) (pw_and1 (pt_not (pt_val (pv 2))))))
          (pe_lst (pa_cons (pe_xk (Y := (cxOf C8.CX0 X.prog X.w X.K X.mg X.base N_l_refused "_law_refused" (defScope s_l_refused) g cdg X.A X.stack s H C8.E0).nox.tr ((a.1, oe) :: pn) (fun _ _ => False)) (a := a.1) T.xf T.no hz hf List.mem_cons_self (pv 1)) pa_nil)) pe_str))))
    case q =>
      refine ⟨_, rfl, rfl, _, rfl, iteF ?_⟩
      refine ⟨_, rfl, len10 (by simp), fun tp ntp => ?_⟩
      have z1 := sm_upd (o := .tup [.ref N, .ref R, .ref E, .ref F]) ntp
      refine ⟨tp, [N, R, E, F], false, _, rfl, SqT.of upd_same, U.oN, z1 _ _ e3, ?_⟩
      refine ⟨_, rfl, .ref L, _, true, _, rfl, fun u r => r, U.oL, z1 _ _ e3, true, rfl, iteT ⟨_, rfl, false, rfl, iteT ?_⟩⟩
      refine ⟨_, rfl, rfl, rfl, _, _, v, rfl, z1 _ _ e3, rfl, len10 (by simp), fun l nl => ?_⟩
      exact hh l _ (z1.trans (sm_upd nl)) upd_same
  obtain ⟨tR, ttR⟩ := Classical.axiomOfChoice keyR
  refine ⟨_, pss_cons (ps_set (i := 1) sc_l_refused.nd rfl (Or.inl rfl) pe_non)
    (pss_keepN (i := 3) (c := .ref C) (ts := fun _ => tAsg (tVar 3) (gName 1)) (tb := fun W D σ H => ∃ Ech : XK, (∀ cls d σ' H', Ech cls d H' → σ'.length = 4 → W cls d σ' H') ∧ σ[0]? = some (some (.ref f)) ∧ H c' = some (LamX.CodeO c' q) ∧ tl Ech H (fun _ H' => D.nx σ H'))
      (tr := fun a cls d D σ H => ∃ dd, cls = .ref C ∧ d = some dd ∧ tR (a, dd) D σ H) rfl rfl sc_l_refused.nd rfl rfl ⟨rfl, by decide, .inl T.gC⟩ (fun W pn xe tk => ?hb) (fun a oe pn => pss_one (ps_set (i := 1) sc_l_refused.nd rfl (Or.inl rfl) (pv 3))) (fun a oe cls d pn hz hf => ⟨fun pins s1 σ1 H1 D I h1 => ?hre⟩)
      (pss_cons (ps_if (pt_cmpR op_isN (pv 1) pe_non (nomark _)) (pss_one (ps_ret pe_non)) pss_nil) pss_no)), ?_⟩
  case hb =>
    constructor
    intro pins s1 σ1 H1 D I h1
    obtain ⟨Ech, hW, h2, h3, h4⟩ := h1
    exact (pss_one (ps_expr (act (fun cls d σ' H' => σ'.length = 4 → W cls d σ' H') pn xe Ech _ _ (takes_len tk) hW))).run pins s1 σ1 H1 D I ⟨h2, h3, h4⟩
  case hre =>
    obtain ⟨dd, e1, e2, hh⟩ := h1
    subst e1 e2
    exact ((ttR (a, dd)).1 oe pn hz hf).run pins s1 σ1 H1 D I hh
  refine ⟨Ech20 C Q, fun cls d σ' H' he hl => ?_, rfl, hc, h⟩
  obtain ⟨s0, s1, s2, s3, rfl⟩ := four20 hl
  obtain ⟨e1, dd, v, e2, e3, qq⟩ := he
  subst e1 e2
  exact ⟨T.meets, fun a na => ⟨_, rfl, dd, rfl, rfl, (ttR (a, dd)).2 s0 s2 _ H' v e3 qq⟩⟩
end Lf
namespace Lf
open PySem PySem.Spec PyProof.Rows L2
section
variable {P : Program} {w : World} {K : PySem.W.Frag} {mg : Str → Option Value} {base : Heap}
/-! ### _law_is_int, _law_is_rule -/
abbrev s_l_is_rule : Stmt := topS 29
abbrev N_l_is_rule : List Str := ["_law_thing", "_law_one"]
abbrev P_l_is_rule : List Str := ["_law_thing"]
theorem sc_l_is_rule : FnScope N_l_is_rule P_l_is_rule (defScope s_l_is_rule) := ⟨rfl, rfl, rfl, by decide +kernel, rfl, by decide +kernel, by decide +kernel⟩
theorem ok_l_is_rule (D : Df K mg "_law_is_rule" s_l_is_rule P_l_is_rule) (B : Bi mg) (c_l_is_int : C8.Cal P w K mg base 1 "_law_is_int" spIsIntL []) (c_l_gcd : C8.Cal P w K mg base 1 "_law_gcd" spGcd []) : C8.Cal P w K mg base 2 "_law_is_rule" spIsRule [] := by
  refine cal_of D sc_l_is_rule (fun vs H Q E h => ?_) (fun f cdv A outer s H vs Q E hr h => ?_)
  · obtain ⟨r, p, q, c, k, rfl, _⟩ := h
    rfl
  · obtain ⟨r, p, q, c, k, rfl, er, R, kk⟩ := h
    refine ⟨_, (pss_cons (ps_if (PW.pt (pw_or (pt_not (pt_val (pe_callB (call_isi) (by rfl) B.isinstance_ bt_isinstance (pa_cons (pv 0) (pa_cons (pe_bltn (v := .ty "tuple") (by rfl) B.tuple_ bt_tuple rfl) pa_nil))))) (pw_or (pt_cmpR op_ne (pe_callB (call_len_seq) (by rfl) B.len_ bt_len (pa_cons (pv 0) pa_nil)) pe_int (nomark _)) (pw_or1 (pt_cmpR (op_neD hr.units) (pe_lc (own := [("_law_one", 1)]) (g := (gName 1)) (by rfl) sc_l_is_rule.nd (pi_tup (pv 0)) (blkOk_by (own := [("_law_one", 1)]) (N := N_l_is_rule) (sc := defScope s_l_is_rule) (by decide +kernel)) (fun _ _ _ _ _ => (pg_name (i := 1) sc_l_is_rule.nd rfl (Or.inl rfl))) (fun _ _ _ _ _ => (pts_one (pt_not (pt_val (C8.pe_c c_l_is_int hr (by decide) (by rfl) (pa_cons (pv 1) pa_nil)))))) (fun _ _ _ _ _ => (pv 1))) (pe_lst pa_nil) (nomark _))))))
      (pss_one (ps_ret pe_bl))
      pss_nil)
    (pss_one (ps_ret (pe_and (pe_cmpR op_ge (pe_ix (r := rIxT K) ix_tup (pv 0) pe_int (fun _ _ => rfl)) pe_int (nomark _)) (pe_and (pe_cmpR op_ge (pe_ix (r := rIxT K) ix_tup (pv 0) pe_int (fun _ _ => rfl)) pe_int (nomark _)) (pe_one (pe_cmpR op_eq (C8.pe_c c_l_gcd hr (by decide) (by rfl) (pa_cons (pe_ix (r := rIxT K) ix_tup (pv 0) pe_int (fun _ _ => rfl)) (pa_cons (pe_ix (r := rIxT K) ix_tup (pv 0) pe_int (fun _ _ => rfl)) pa_nil))) pe_int (nomark _)))))))), ?_⟩
    refine ⟨_, rfl, _, _, _, _, true, rfl, .ty "tuple", .base (.tup er), kit_ty ktt, true, rfl, iteF ?_⟩
    refine ⟨_, rfl, r, _, rfl, .inr (SqT.of er), rfl, _, rfl, iteNS rfl ?_⟩
    refine ⟨_, rfl, r, rfl, ⟨_, SqT.of er⟩, fun L nL => ?_⟩
    refine lc_tup (K := K) (a := r) (xs := [.int p, .int q, .int c]) (fun i H' => Same H H' ∧ H' L = some (.lst [])) ?_ ?_ ?_ ?_
    · exact ⟨sm_upd nL, upd_same⟩
    · rintro i H' hi ⟨s1, _⟩
      exact SqT.of (s1 _ _ er)
    · rintro i x H' hx ⟨s1, eL⟩
      have hi : i < 3 := (List.getElem?_eq_some_iff.mp hx).1
      obtain ⟨z, rfl⟩ : ∃ z, x = V.int z := by
        match i, hi with
        | 0, _ => exact ⟨p, (Option.some.inj hx).symm⟩
        | 1, _ => exact ⟨q, (Option.some.inj hx).symm⟩
        | 2, _ => exact ⟨c, (Option.some.inj hx).symm⟩
      exact ⟨rfl, _, rfl, .int z, .int z, rfl, .int z, true, rfl, s1, eL⟩
    · rintro H' ⟨s1, eL⟩
      refine ⟨len10 (by simp), fun e ne => ?_⟩
      have s2 : Same H' (upd H' e (.lst [])) := sm_upd ne
      refine ⟨.list [], .list [], Dp.lst (SqL.of (s2 _ _ eL)) .nil, Dp.lst (SqL.of upd_same) .nil, rfl, rfl, _, rfl, iteF ?_⟩
      have er' := s2 _ _ (s1 _ _ er)
      refine ⟨_, rfl, r, _, _, _, rfl, rfl, SqT.of er', atI_nat (j := 0) rfl, _, _, rfl, rfl, _, rfl, iteD R.p0 ?_⟩
      refine ⟨_, rfl, r, _, _, _, rfl, rfl, SqT.of er', atI_nat (j := 1) rfl, _, _, rfl, rfl, _, rfl, iteD R.q1 ?_⟩
      refine ⟨_, rfl, r, _, _, _, rfl, rfl, SqT.of er', atI_nat (j := 0) rfl, _, rfl, r, _, _, _, rfl, rfl, SqT.of er', atI_nat (j := 1) rfl, p, q, rfl, R.p0, by have := R.q1; omega, rfl, ?_⟩
      rw [R.g]
      exact kk _ (s1.trans s2)
end
end Lf
namespace Lf
open PySem PySem.Spec PyProof.Rows L2
/-- the numbers of events at the times of a window -/
def patL (p q c t : Int) (n : Nat) : List Int := (List.range n).map fun k : Nat => (p * (t + (k : Int) + 1) + c) / q - (p * (t + k) + c) / q
theorem patL_succ (p q c t : Int) (n : Nat) : patL p q c t (n + 1) = patL p q c t n ++ [(p * (t + (n : Int) + 1) + c) / q - (p * (t + n) + c) / q] := by
  unfold patL
  rw [List.range_succ, List.map_append]
  rfl
theorem patL_len (p q c t : Int) (n : Nat) : (patL p q c t n).length = n := by
  unfold patL
  rw [List.length_map, List.length_range]
theorem patL_zero (p q c : Int) (n : Nat) : patL p q c 0 n = evL p q c n := by
  unfold patL evL
  refine List.map_congr_left fun k _ => ?_
  rw [Int.zero_add]
theorem CycR.pat {ns : List Int} {p q c : Int} (h : CycR ns p q c) (z : Int) : patL p q c (ns.length * z) ns.length = ns := by
  refine List.ext_getElem? fun k => ?_
  by_cases hk : k < ns.length
  · have e : ns[k]? = some ns[k] := List.getElem?_eq_getElem hk
    unfold patL
    rw [List.getElem?_map, List.getElem?_range hk, e]
    have h1 := h.far z (t := k) (by omega)
    have h2 := h.far z (t := k + 1) (by omega)
    rw [pS_succ e] at h2
    have e2 : (ns.length : Int) * z + ((k + 1 : Nat) : Int) = ns.length * z + (k : Int) + 1 := by omega
    rw [e2] at h2
    show some ((p * (ns.length * z + (k : Int) + 1) + c) / q - (p * (ns.length * z + k) + c) / q) = some ns[k]
    rw [h1, h2]
    congr 1
    omega
  · rw [List.getElem?_eq_none (by rw [patL_len]; omega), List.getElem?_eq_none (by omega)]
def sumL (l : List Int) (i : Nat) : List Int := (List.range (i + 1)).map (pS l)
theorem sumL_succ (l : List Int) (i : Nat) : sumL l (i + 1) = sumL l i ++ [pS l (i + 1)] := by
  unfold sumL
  rw [List.range_succ, List.map_append]
  rfl
theorem sumL_len (l : List Int) (i : Nat) : (sumL l i).length = i + 1 := by
  unfold sumL
  rw [List.length_map, List.length_range]
theorem sumL_at {l : List Int} {i j : Nat} (h : j ≤ i) : (sumL l i)[j]? = some (pS l j) := by
  unfold sumL
  rw [List.getElem?_map, List.getElem?_range (by omega)]
  rfl
theorem sumL_last (l : List Int) (i : Nat) : ∃ r, (sumL l i).map V.int = r ++ [V.int (pS l i)] := by
  cases i with
  | zero => exact ⟨[], rfl⟩
  | succ i =>
    rw [sumL_succ, List.map_append]
    exact ⟨_, rfl⟩
def gainL (ns : List Int) (w n : Nat) : List Int := (List.range n).map (gain ns w)
theorem gainL_succ (ns : List Int) (w n : Nat) : gainL ns w (n + 1) = gainL ns w n ++ [gain ns w n] := by
  unfold gainL
  rw [List.range_succ, List.map_append]
  rfl
theorem gainL_len (ns : List Int) (w n : Nat) : (gainL ns w n).length = n := by
  unfold gainL
  rw [List.length_map, List.length_range]
theorem gainL_of {ns : List Int} {w n k : Nat} (h : k < n) : gain ns w k ∈ gainL ns w n := List.mem_map.mpr ⟨k, List.mem_range.mpr h, rfl⟩
theorem gainL_in {ns : List Int} {w n : Nat} {x : Int} (h : x ∈ gainL ns w n) : ∃ k, k < n ∧ gain ns w k = x := by
  obtain ⟨k, hk, e⟩ := List.mem_map.mp h
  exact ⟨k, List.mem_range.mp hk, e⟩
section
variable {P : Program} {w : World} {K : PySem.W.Frag} {mg : Str → Option Value} {base : Heap}
/-! ### _law_pattern -/
def spPatE : Sp := fun vs H Q _ => ∃ (r : Addr) (p q c wd t : Int) (b : Nat), vs = [.ref r, .int wd, .int t] ∧ H r = some (tup3 p q c) ∧ RuleB b p q c ∧ 0 ≤ wd ∧ wd ≤ 500 ∧ Bd b t ∧ 20 ≤ b ∧ b ≤ 1000 ∧
  ∀ L H', H L = none → Same H H' → Row H' L (2 * b + 6) (patL p q c t wd.toNat) → Q (.ref L) H'
abbrev s_l_pattern : Stmt := topS 31
abbrev N_l_pattern : List Str := ["_law_rule_here", "_law_width", "_law_start", "_law_k"]
abbrev P_l_pattern : List Str := ["_law_rule_here", "_law_width", "_law_start"]
theorem sc_l_pattern : FnScope N_l_pattern P_l_pattern (defScope s_l_pattern) := ⟨rfl, rfl, rfl, by decide +kernel, rfl, by decide +kernel, by decide +kernel⟩
theorem ok_l_pattern (D : Df K mg "_law_pattern" s_l_pattern P_l_pattern) (B : Bi mg) (c_l_tally : C8.Cal P w K mg base 1 "_law_tally" spTally []) : C8.Cal P w K mg base 2 "_law_pattern" spPatE [] := by
  refine cal_of D sc_l_pattern (fun vs H Q E h => ?_) (fun f cdv A outer s H vs Q E hr h => ?_)
  · obtain ⟨r, p, q, c, wd, t, b, rfl, _⟩ := h
    rfl
  · obtain ⟨r, p, q, c, wd, t, b, rfl, er, R, h0, h5, bt, b2, b1, kk⟩ := h
    refine ⟨_, (pss_one (ps_ret (pe_lc (own := [("_law_k", 3)]) (g := (gName 3)) (by rfl) sc_l_pattern.nd (pi_range1 rfl B.range_ (pa_cons (pv 1) pa_nil)) (blkOk_by (own := [("_law_k", 3)]) (N := N_l_pattern) (sc := defScope s_l_pattern) (by decide +kernel)) (fun _ _ _ _ _ => (pg_name (i := 3) sc_l_pattern.nd rfl (Or.inl rfl))) (fun _ _ _ _ _ => pts_nil) (fun _ _ _ _ _ => (pe_op op_sub (C8.pe_c c_l_tally hr (by decide) (by rfl) (pa_cons (pv 0) (pa_cons (pe_op op_add (pe_op op_add (pv 2) (pv 3)) pe_int) pa_nil))) (C8.pe_c c_l_tally hr (by decide) (by rfl) (pa_cons (pv 0) (pa_cons (pe_op op_add (pv 2) (pv 3)) pa_nil)))))))), ?_⟩
    refine ⟨_, rfl, _, rfl, by omega, by omega, fun L nL => ?_⟩
    refine lc_range (lo := 0) (n := wd.toNat) (fun j H' => Same H H' ∧ Row H' L (2 * b + 6) (patL p q c t j)) ⟨sm_upd nL, ⟨upd_same, fun _ z => (nomatch z)⟩⟩ ?_ ?_
    · rintro j H' hj ⟨s1, eL⟩
      have er' := s1 _ _ er
      have bj : Bd (b + 1) (t + (0 + (j : Int))) := Bd.add bt (Bd.small 20 (by omega) b2)
      have bj2 : Bd (b + 2) (t + (0 + (j : Int)) + 1) := Bd.add bj (Bd.small 1 (by decide) (by omega))
      refine ⟨rfl, _, rfl, _, rfl, _, rfl, _, _, rfl, rfl, _, _, rfl, rfl, r, p, q, c, _, b + 2, rfl, er', R.mono (by omega), bj2, by omega, by omega, ?_⟩
      refine ⟨_, rfl, _, rfl, _, rfl, _, _, rfl, rfl, r, p, q, c, _, b + 1, rfl, er', R.mono (by omega), bj, by omega, by omega, ?_⟩
      refine ⟨_, _, rfl, rfl, _, eL.e, ?_, ?_, ⟨?_, fun z hz => ?_⟩⟩
      · rw [List.length_map, patL_len]
        exact small1000 (by omega)
      · intro b' o eb
        rw [upd_ne (ne_of_none eb nL)]
        exact s1 _ _ eb
      · rw [upd_same, patL_succ, List.map_append, Int.zero_add]
        rfl
      · rw [patL_succ] at hz
        rcases List.mem_append.mp hz with g | g
        · exact eL.b z g
        · rw [List.mem_singleton.mp g]
          rw [Int.zero_add] at bj bj2
          exact (Bd.sub (bd_count (by omega) (R.mono (by omega)) bj2) ((bd_count (by omega) (R.mono (by omega)) bj).mono (by omega))).mono (by omega)
    · rintro H' ⟨s1, eL⟩
      exact kk L H' nL s1 eL
/-! ### _law_has_rule -/
def spHas : Sp := fun vs H Q _ => ∃ (R : Addr) (ns : List Int), vs = [.ref R] ∧ H R = some (.lst (ns.map V.int)) ∧ 1 ≤ ns.length ∧ ns.length ≤ 300 ∧ ∀ b H', Same H H' → (b = true ↔ WinR ns) → Q (.bl b) H'
abbrev s_l_has_rule : Stmt := topS 33
abbrev N_l_has_rule : List Str := ["_law_row", "_law_twice", "_law_sums", "_law_one", "_law_width", "_law_gains", "_law_k"]
abbrev P_l_has_rule : List Str := ["_law_row"]
theorem sc_l_has_rule : FnScope N_l_has_rule P_l_has_rule (defScope s_l_has_rule) := ⟨rfl, rfl, rfl, by decide +kernel, rfl, by decide +kernel, by decide +kernel⟩
theorem ok_l_has_rule (D : Df K mg "_law_has_rule" s_l_has_rule P_l_has_rule) (B : Bi mg) : C8.Cal P w K mg base 1 "_law_has_rule" spHas [] := by
  refine cal_of D sc_l_has_rule (fun vs H Q E h => ?_) (fun f cdv A outer s H vs Q E hr h => ?_)
  · obtain ⟨R, ns, rfl, _⟩ := h
    rfl
  · obtain ⟨R, ns, rfl, eR, h1, h2, kk⟩ := h
    refine ⟨_, (C8.pss_cut (ps_asg (pe_tup (pa_cons (pe_op op_cat (pv 0) (pv 0)) (pa_cons (pe_lst (pa_cons pe_int pa_nil)) pa_nil))) (pg_tup rfl (pgs_cons (pg_name (i := 1) sc_l_has_rule.nd rfl (Or.inl rfl)) (pgs_cons (pg_name (i := 2) sc_l_has_rule.nd rfl (Or.inr rfl)) pgs_nil))))
    (pss_cons (ps_for PassesOwn.never rfl (pi_list (pv 1)) (pg_name (i := 3) sc_l_has_rule.nd rfl (Or.inl rfl))
      (pss_one (ps_expr (pe_bm PySem.F.plainAttrs_list PySem.F.slot_list_append PySem.F.type_list_append mt_append (pv 2) (pa_cons (pe_op op_add (pe_ix (r := rIxL K) ix_list (pv 2) (pe_un un_neg pe_int) (fun _ _ => rfl)) (pv 3)) pa_nil)))))
    (pss_cons (ps_for PassesOwn.never rfl (pi_range2 rfl B.range_ (pa_cons pe_int (pa_cons (pe_callB (call_len_seq) (by rfl) B.len_ bt_len (pa_cons (pv 0) pa_nil)) pa_nil))) (pg_name (i := 4) sc_l_has_rule.nd rfl (Or.inr rfl))
      (pss_cons (ps_setLc (i := 5) (own := [("_law_k", 6)]) (g := (gName 6)) (by rfl) sc_l_has_rule.nd rfl rfl (sw_true rfl rfl rfl (by decide +kernel)) (pi_range1 rfl B.range_ (pa_cons (pe_callB (call_len_seq) (by rfl) B.len_ bt_len (pa_cons (pv 0) pa_nil)) pa_nil)) (blkOk_by (own := [("_law_k", 6)]) (N := N_l_has_rule) (sc := defScope s_l_has_rule) (by decide +kernel)) (fun _ _ _ _ _ => (pg_name (i := 6) sc_l_has_rule.nd rfl (Or.inl rfl))) (fun _ _ _ _ _ => pts_nil) (fun _ _ _ _ _ => (pe_op op_sub (pe_ix (r := rIxL K) ix_list (pv 2) (pe_op op_add (pv 6) (pv 4)) (fun _ _ => rfl)) (pe_ix (r := rIxL K) ix_list (pv 2) (pv 6) (fun _ _ => rfl)))))
    (pss_one (ps_if (pt_cmpR op_gt (pe_op op_sub (pe_callB (cr_max rfl) (by rfl) B.max_ bt_max (pa_cons (pv 5) pa_nil)) (pe_callB (cr_min rfl) (by rfl) B.min_ bt_min (pa_cons (pv 5) pa_nil))) pe_int (nomark _))
      (pss_one (ps_ret pe_bl))
      pss_nil))))
    (pss_one (ps_ret pe_bl))))), ?_⟩
    have lm : (ns.map V.int).length = ns.length := List.length_map ..
    refine ⟨fun σ' H' => ∃ (W S : Addr), σ' = [some (.ref R), some (.ref W), some (.ref S), none, none, none, none] ∧ Same H H' ∧ H' W = some (.lst ((ns ++ ns).map V.int)) ∧ H' S = some (.lst ((sumL (ns ++ ns) 0).map V.int)) ∧ H S = none ∧ W ≠ S, ?_, ?_⟩
    · refine ⟨_, rfl, _, rfl, R, R, _, _, rfl, rfl, eR, eR, len10 (by omega), fun W nW => ?_⟩
      refine ⟨len10 (by simp), fun S nS => ?_⟩
      refine ⟨len10 (by simp), fun t nt => ⟨t, _, rfl, SqT.of upd_same, rfl, _, _, rfl, _, _, rfl, rfl, W, S, rfl, ?_, ?_, ?_, ?_, ?_⟩⟩
      · exact (sm_upd nW).trans ((sm_upd nS).trans (sm_upd nt))
      · rw [List.map_append]
        exact ((sm_upd nS).trans (sm_upd nt)) _ _ upd_same
      · exact sm_upd nt _ _ upd_same
      · by_cases e : S = W
        · rw [e, upd_same] at nS
          cases nS
        · rw [upd_ne e] at nS
          exact nS
      · intro e
        rw [← e, upd_same] at nS
        cases nS
    rintro σ H1 ⟨W, S, rfl, s1, eW, eS, nS, WS⟩
    have eR1 := s1 _ _ eR
    refine ⟨_, rfl, W, rfl, ⟨_, SqL.of eW⟩, ?_⟩
    refine for_list (K := K) (a := W) (xs := (ns ++ ns).map V.int) (fun i σ H' => ∃ y3 : Option V, σ = [some (.ref R), some (.ref W), some (.ref S), y3, none, none, none] ∧ Same H H' ∧ H' W = some (.lst ((ns ++ ns).map V.int)) ∧ H' S = some (.lst ((sumL (ns ++ ns) i).map V.int))) ⟨none, rfl, s1, eW, eS⟩ ?_ ?_ ?_
    · rintro i σ H' _ ⟨_, _, _, eW, _⟩
      exact SqL.of eW
    · rintro i v σ H' hv ⟨y3, rfl, s', eW, eS⟩
      rw [List.getElem?_map, Option.map_eq_some_iff] at hv
      obtain ⟨x, hx, rfl⟩ := hv
      have il := (List.getElem?_eq_some_iff.mp hx).1
      rw [List.length_append] at il
      obtain ⟨r, er⟩ := sumL_last (ns ++ ns) i
      refine ⟨_, rfl, .inl ⟨rfl, _, SqL.of eS⟩, _, rfl, 1, rfl, S, _, _, _, rfl, rfl, SqL.of eS, by rw [er]; exact atI_last _ _, _, rfl, _, _, rfl, rfl, S, _, _, rfl, rfl, eS, ?_, ?_⟩
      · rw [List.length_map, sumL_len]
        exact small1000 (by omega)
      refine ⟨_, rfl, fun b o eb => ?_, ?_, ?_⟩
      · rw [upd_ne (fun z => by rw [z, nS] at eb; cases eb)]
        exact s' _ _ eb
      · rw [upd_ne WS]
        exact eW
      · rw [upd_same, sumL_succ, List.map_append, pS_succ hx]
        rfl
    rintro σ H2 ⟨y3, rfl, s2, eW2, eS2⟩
    rw [List.length_map, List.length_append] at eS2
    have eR2 := s2 _ _ eR
    refine ⟨_, rfl, R, _, rfl, .inl (SqL.of eR2), ?_⟩
    rw [lm]
    refine ⟨_, _, rfl, ⟨by decide, by decide, by omega, by omega⟩, ?_⟩
    refine for_range (lo := 1) (n := ((ns.length : Int) - 1).toNat) (fun i σ H' => ∃ (y3 y4 y5 : Option V), σ = [some (.ref R), some (.ref W), some (.ref S), y3, y4, y5, none] ∧ Same H2 H' ∧ ∀ w, 1 ≤ w → w < 1 + i → ∀ k k', k < ns.length → k' < ns.length → gain ns w k - gain ns w k' ≤ 1) ⟨_, _, _, rfl, Same.refl _, fun w z1 z2 => by omega⟩ ?_ ?_
    · rintro i σ H3 hi ⟨y3, y4, y5, rfl, s3, hw⟩
      have eR3 := s3 _ _ eR2
      have eS3 := s3 _ _ eS2
      refine ⟨_, rfl, R, _, rfl, .inl (SqL.of eR3), ?_⟩
      rw [lm]
      refine ⟨_, rfl, by omega, by omega, fun G nG => ?_⟩
      refine lc_range (lo := 0) (n := ((ns.length : Int)).toNat) (fun j H' => Same H3 H' ∧ H' G = some (.lst ((gainL ns (i + 1) j).map V.int))) ⟨sm_upd nG, upd_same⟩ ?_ ?_
      · rintro j H4 hj ⟨s4, eG⟩
        have hj : j < ns.length := by omega
        have eS4 := s4 _ _ eS3
        have at_ : ∀ {m : Nat}, m ≤ ns.length + ns.length → ((sumL (ns ++ ns) (ns.length + ns.length)).map V.int)[m]? = some (.int (pS (ns ++ ns) m)) := fun {m} hm => by
          rw [List.getElem?_map, sumL_at hm]
          rfl
        refine ⟨rfl, _, rfl, _, rfl, _, rfl, _, _, rfl, rfl, S, _, _, .int (pS (ns ++ ns) (j + (i + 1))), rfl, rfl, SqL.of eS4, ?_, ?_⟩
        · rw [Int.zero_add, show ((j : Int) + (1 + (i : Int))) = ((j + (i + 1) : Nat) : Int) by omega]
          exact atI_nat (at_ (by omega))
        refine ⟨_, rfl, _, rfl, S, _, _, .int (pS (ns ++ ns) j), rfl, rfl, SqL.of eS4, ?_, ?_⟩
        · rw [Int.zero_add]
          exact atI_nat (at_ (by omega))
        refine ⟨_, _, rfl, rfl, _, eG, ?_, ?_, ?_⟩
        · rw [List.length_map, gainL_len]
          exact small1000 (by omega)
        · intro b o eb
          rw [upd_ne (ne_of_none eb nG)]
          exact s4 _ _ eb
        · rw [upd_same, gainL_succ, List.map_append]
          rfl
      rintro H4 ⟨s4, eG⟩
      rw [show ((ns.length : Int)).toNat = ns.length by omega] at eG
      have gl := gainL_len ns (i + 1) ns.length
      refine ⟨_, rfl, G, _, rfl, SqL.of eG, by omega, fun mx hx lx => ?_⟩
      refine ⟨_, rfl, G, _, rfl, SqL.of eG, by omega, fun mn hn ln => ?_⟩
      refine ⟨_, _, rfl, rfl, _, _, rfl, rfl, _, rfl, ite2 (fun cc => ?_) (fun cc => ?_)⟩
      · have cc : mx - mn > 1 := of_decide_eq_true cc
        obtain ⟨k1, l1, e1⟩ := gainL_in hx
        obtain ⟨k2, l2, e2⟩ := gainL_in hn
        refine kk _ _ (s2.trans (s3.trans s4)) ⟨fun z => (nomatch z), fun W => ?_⟩
        have := W (i + 1) (by omega) (by omega) k1 k2 l1 l2
        omega
      · have cc : ¬ mx - mn > 1 := fun z => cc (decide_eq_true z)
        refine ⟨_, _, _, rfl, s3.trans s4, fun w w1 w2 k k' hk hk' => ?_⟩
        by_cases e : w < 1 + i
        · exact hw w w1 e k k' hk hk'
        · have e : w = i + 1 := by omega
          subst e
          have := lx _ (gainL_of (ns := ns) (w := i + 1) hk)
          have := ln _ (gainL_of (ns := ns) (w := i + 1) hk')
          omega
    · rintro σ H3 ⟨y3, y4, y5, rfl, s3, hw⟩
      exact kk _ _ (s2.trans s3) ⟨fun _ w w1 w2 => hw w w1 (by omega), fun _ => rfl⟩
end
end Lf
namespace Lf
open PySem PySem.Spec PyProof.Rows L2
/-- the rule that is due, where it is known -/
def DueC (ns : List Int) (v : V) (H : Hp) : Prop := v = .non ∨ ∃ r p q c, v = .ref r ∧ H r = some (tup3 p q c) ∧ CycM ns p q c
theorem DueC.fr {ns : List Int} {v : V} {H H' : Hp} (h : DueC ns v H) (f : Fr H H') : DueC ns v H' := by
  rcases h with h | ⟨r, p, q, c, e, h, m⟩
  · exact .inl h
  · exact .inr ⟨r, p, q, c, e, f.t _ _ h, m⟩
theorem seqIx {d : Int} {n : Nat} (h0 : 0 ≤ d) (h1 : d < n) : seqIndex? d n = some d.toNat := by
  unfold seqIndex?
  simp
  omega
def rLen23 (K : PySem.W.Frag) : List V → Hp → VK → Prop := fun xs H Q => ∃ p ys, xs = [.ref p] ∧ (SqL K H p ys ∨ SqT K H p ys) ∧ Q (.int ys.length) H
theorem erase_map : ∀ (rs : List Int) (k : Nat), (rs.map V.int).eraseIdx k = (rs.eraseIdx k).map V.int
  | [], _ => rfl
  | _ :: _, 0 => rfl
  | r :: rs, k + 1 => by
    show V.int r :: (rs.map V.int).eraseIdx k = V.int r :: (rs.eraseIdx k).map V.int
    rw [erase_map rs k]
section
variable {P : Program} {w : World} {K : PySem.W.Frag} {mg : Str → Option Value} {base : Heap}
def spSome : Sp := fun vs H Q _ => ∃ (a : PA) (n : Nat), vs = [.ref a] ∧ Pen H a n ∧ n < 2 ^ 36 ∧
  ∀ T R ns v H', H' T = some (.tup [.ref R, v]) → Row H' R 100 ns → 1 ≤ ns.length → ns.length ≤ 14 → (∀ z ∈ ns, 0 ≤ z) → DueC ns v H' → Pen H' a (n + 200) → Fr H H' → Q (.ref T) H'
abbrev s_l_some_pattern : Stmt := topS 34
abbrev N_l_some_pattern : List Str := ["_law_pen_here", "_law_rule_here", "_law_road", "_law_p", "_law_q", "_law_c", "_law_row", "_law_due", "_law_many", "_law_at", "_law_k"]
abbrev P_l_some_pattern : List Str := ["_law_pen_here"]
theorem sc_l_some_pattern : FnScope N_l_some_pattern P_l_some_pattern (defScope s_l_some_pattern) := ⟨rfl, rfl, rfl, by decide +kernel, rfl, by decide +kernel, by decide +kernel⟩
theorem ok_l_some_pattern (D : Df K mg "_law_some_pattern" s_l_some_pattern P_l_some_pattern) (B : Bi mg) (c_l_draw : C8.Cal P w K mg base 1 "_law_draw" spDraw []) (c_l_pick : C8.Cal P w K mg base 2 "_law_pick" spPick []) (c_l_great : C8.Cal P w K mg base 2 "_law_great" spGreat []) (c_l_rule : C8.Cal P w K mg base 3 "_law_rule" spRule []) (c_l_pattern : C8.Cal P w K mg base 2 "_law_pattern" spPatE []) : C8.Cal P w K mg base 4 "_law_some_pattern" spSome [] := by
  refine cal_of D sc_l_some_pattern (fun vs H Q E h => ?_) (fun f cdv A outer s H vs Q E hr h => ?_)
  · obtain ⟨a, n, rfl, _⟩ := h
    rfl
  · obtain ⟨a, n, rfl, hP, hn, kk⟩ := h
    refine ⟨_, (pss_cons (ps_par (i := 1) (j := 2) rfl sc_l_some_pattern.nd rfl rfl (by decide) rfl rfl (pa_cons (C8.pe_c c_l_rule hr (by decide) (by rfl) (pa_cons (pv 0) (pa_cons pe_int pa_nil))) (pa_cons (C8.pe_c c_l_draw hr (by decide) (by rfl) (pa_cons (pv 0) (pa_cons pe_int pa_nil))) pa_nil)) rfl)
    (pss_cons (ps_asg (pv 1) (pg_tup rfl (pgs_cons (pg_name (i := 3) sc_l_some_pattern.nd rfl (Or.inl rfl)) (pgs_cons (pg_name (i := 4) sc_l_some_pattern.nd rfl (Or.inl rfl)) (pgs_cons (pg_name (i := 5) sc_l_some_pattern.nd rfl (Or.inl rfl)) pgs_nil)))))
    (C8.pss_cut (ps_asg (pe_tup (pa_cons (C8.pe_c c_l_pattern hr (by decide) (by rfl) (pa_cons (pv 1) (pa_cons (pv 4) (pa_cons pe_int pa_nil)))) (pa_cons (pe_tup (pa_cons (pv 3) (pa_cons (pv 4) (pa_cons (pe_op op_mod (pv 5) (pv 4)) pa_nil)))) pa_nil))) (pg_tup rfl (pgs_cons (pg_name (i := 6) sc_l_some_pattern.nd rfl (Or.inr rfl)) (pgs_cons (pg_name (i := 7) sc_l_some_pattern.nd rfl (Or.inl rfl)) pgs_nil))))
    (pss_cons (ps_if (pt_cmpR op_eq (pv 2) pe_int (nomark _))
      (pss_cons (ps_set (i := 8) sc_l_some_pattern.nd rfl (Or.inl rfl) (pe_op op_add pe_int (C8.pe_c c_l_draw hr (by decide) (by rfl) (pa_cons (pv 0) (pa_cons (pe_op op_fdivW pe_int (pv 4)) pa_nil)))))
    (pss_one (ps_ret (pe_tup (pa_cons (pe_op op_rep (pv 6) (pv 8)) (pa_cons (pv 7) pa_nil))))))
      pss_nil)
    (pss_cons (ps_if (pt_cmpR op_eq (pv 2) pe_int (nomark _))
      (pss_one (ps_ret (pe_tup (pa_cons (pe_lc (own := [("_law_k", 10)]) (g := (gName 10)) (by rfl) sc_l_some_pattern.nd (pi_range1 rfl B.range_ (pa_cons (pv 4) pa_nil)) (blkOk_by (own := [("_law_k", 10)]) (N := N_l_some_pattern) (sc := defScope s_l_some_pattern) (by decide +kernel)) (fun _ _ _ _ _ => (pg_name (i := 10) sc_l_some_pattern.nd rfl (Or.inl rfl))) (fun _ _ _ _ _ => pts_nil) (fun _ _ _ _ _ => (show PE _ _ (tBM K "list" rPopAt (tVar 6) (tCons (tCall spDraw [] C8.E0 (tCons (tVar 0) (tCons (tCB (rLen23 K) (tCons (tVar 6) tNil)) tNil))) tNil)) from (pe_bm PySem.F.plainAttrs_list PySem.F.slot_list_pop PySem.F.type_list_pop mt_popAt (pv 6) (pa_cons (C8.pe_c c_l_draw hr (by decide) (by rfl) (pa_cons (pv 0) (pa_cons (pe_callB (show CallR _ _ (rLen23 K) from call_len_seq) (by rfl) B.len_ bt_len (pa_cons (pv 6) pa_nil)) pa_nil))) pa_nil))))) (pa_cons pe_non pa_nil)))))
      pss_nil)
    (pss_cons (ps_if (pt_cmpR op_eq (pv 2) pe_int (nomark _))
      (pss_cons (ps_set (i := 9) sc_l_some_pattern.nd rfl (Or.inl rfl) (C8.pe_c c_l_draw hr (by decide) (by rfl) (pa_cons (pv 0) (pa_cons (pv 4) pa_nil))))
    (pss_one (ps_ret (pe_tup (pa_cons (pe_op op_cat (pe_op op_cat (pe_slice sl_list (pv 6) po_none (po_some (pv 9))) (pe_lst (pa_cons (pe_op op_add (pe_ix (r := rIxL K) ix_list (pv 6) (pv 9) (fun _ _ => rfl)) pe_int) pa_nil))) (pe_slice sl_list (pv 6) (po_some (pe_op op_add (pv 9) pe_int)) po_none)) (pa_cons pe_non pa_nil))))))
      pss_nil)
    (pss_one (ps_ret (pe_tup (pa_cons (pe_lc (own := [("_law_k", 10)]) (g := (gName 10)) (by rfl) sc_l_some_pattern.nd (pi_range1 rfl B.range_ (pa_cons (pe_op op_add pe_int (C8.pe_c c_l_draw hr (by decide) (by rfl) (pa_cons (pv 0) (pa_cons pe_int pa_nil)))) pa_nil)) (blkOk_by (own := [("_law_k", 10)]) (N := N_l_some_pattern) (sc := defScope s_l_some_pattern) (by decide +kernel)) (fun _ _ _ _ _ => (pg_name (i := 10) sc_l_some_pattern.nd rfl (Or.inl rfl))) (fun _ _ _ _ _ => pts_nil) (fun _ _ _ _ _ => (C8.pe_c c_l_pick hr (by decide) (by rfl) (pa_cons (pv 0) (pa_cons (pe_lst (pa_cons pe_int (pa_cons pe_int (pa_cons (C8.pe_c c_l_great hr (by decide) (by rfl) (pa_cons (pv 0) (pa_cons pe_int pa_nil))) pa_nil)))) pa_nil))))) (pa_cons pe_non pa_nil))))))))))), ?_⟩
    have t12 : ((12 : Int) / 6).toNat = 2 := by decide
    refine ⟨_, rfl, a, _, 12, rfl, hP, by omega, by decide, by decide, fun r p q c H1 R q12 p36 er hP1 f1 => ?_⟩
    refine ⟨_, rfl, a, _, _, rfl, hP1, by omega, by decide, Bd.small 20 (by decide) (by decide), fun rd H2 rd0 rd1 hP2 f2 => ⟨_, _, rfl, ?_⟩⟩
    have er2 := f2.t _ _ er
    have f02 := f1.trans f2
    have q1 := R.q1
    have hP2 : Pen H2 a (n + 9) := hP2.mono (by omega)
    refine ⟨_, rfl, r, _, rfl, SqT.of er2, rfl, _, _, rfl, _, _, rfl, _, _, rfl, rfl, ?_⟩
    refine ⟨fun σ' H' => ∃ (G D : Addr), σ' = [some (.ref a), some (.ref r), some (.int rd), some (.int p), some (.int q), some (.int c), some (.ref G), some (.ref D), none, none, none] ∧ Row H' G 54 (evL p q c q.toNat) ∧ H' D = some (tup3 p q (c % q)) ∧ H2 G = none ∧ Same H2 H', ?_, ?_⟩
    · refine ⟨_, rfl, _, rfl, r, p, q, c, q, 0, 24, rfl, er2, R, by omega, by omega, Bd.small 24 (by decide) (by decide), by decide, by decide, fun G H3 nG s3 rw3 => ?_⟩
      rw [patL_zero] at rw3
      refine ⟨_, rfl, _, rfl, _, rfl, _, rfl, _, _, rfl, rfl, by omega, len10 (by simp), fun D nD => ⟨len10 (by simp), fun T nT => ⟨T, _, rfl, SqT.of upd_same, rfl, _, _, rfl, _, _, rfl, rfl, G, D, rfl, ?_, ?_, nG, ?_⟩⟩⟩
      · exact (rw3.fr (Fr.same (sm_upd nD))).fr (Fr.same (sm_upd nT))
      · exact sm_upd nT _ _ upd_same
      · exact s3.trans ((sm_upd nD).trans (sm_upd nT))
    rintro σ H3 ⟨G, D, rfl, rw54, eD, nG, s3⟩
    have rw55 : ∀ z ∈ evL p q c q.toNat, Bd 55 z := fun z hz => (rw54.b z hz).mono (by decide)
    have rw3 := rw54.mono (show 54 ≤ 100 by decide)
    have evn := evL_nn (c := c) R.p0 q1 (n := q.toNat)
    have evl := evL_len p q c q.toNat
    have hP3 := hP2.same s3
    have f03 := f02.trans (Fr.same s3)
    refine ⟨_, rfl, rfl, _, rfl, ite2 (fun c0 => ?_) (fun c0 => ?_)⟩
    · -- as many cycles
      have h14 : 1 ≤ 14 / q := (Int.le_ediv_iff_mul_le (by omega)).mpr (by omega)
      have h15 : 14 / q ≤ 14 := Int.ediv_le_self _ (by decide)
      refine ⟨_, rfl, _, rfl, _, _, rfl, rfl, divW (b := 20) (by omega) (Bd.small 20 (by omega) (by decide)) (by decide), a, _, _, rfl, hP3, by omega, by omega, Bd.small 20 (by omega) (by decide), fun m H4 m0 m1 hP4 f4 => ⟨_, _, rfl, rfl, ?_⟩⟩
      have qm : q * (1 + m) ≤ 14 := by
        have h1 := Int.mul_le_mul_of_nonneg_left (show 1 + m ≤ 14 / q by omega) (show 0 ≤ q by omega)
        have h2 := Int.mul_ediv_self_le (x := 14) (k := q) (by omega)
        omega
      obtain ⟨k, hk⟩ := Int.eq_ofNat_of_zero_le (show 0 ≤ 1 + m by omega)
      rw [hk] at qm
      dsimp only
      rw [hk]
      have qn : k * q.toNat ≤ 14 := by
        have : ((k * q.toNat : Nat) : Int) ≤ 14 := by
          rw [Int.natCast_mul, Int.toNat_of_nonneg (by omega), Int.mul_comm]
          exact qm
        omega
      have rw4 := rw3.fr f4
      refine ⟨_, rfl, _, rfl, G, _, _, rfl, rfl, rw4.e, by omega, by omega, ?_, fun Z nZ => ⟨_, rfl, len10 (by simp), fun T nT => ?_⟩⟩
      · rw [List.length_map, evl, Int.toNat_natCast, Nat.mul_comm, sizeLine_eq]
        omega
      have ek : (List.replicate ((k : Int)).toNat ((evL p q c q.toNat).map V.int)).flatten = (evL p q c (k * q.toNat)).map V.int := by
        rw [Int.toNat_natCast, ← evL_many q1 k, List.map_flatten, List.map_replicate]
      rw [ek] at nT ⊢
      have zZ := sm_upd (o := .lst ((evL p q c (k * q.toNat)).map V.int)) nZ
      have zT := sm_upd (o := .tup [.ref Z, .ref D]) nT
      have k1 : 1 ≤ k := by omega
      have kq : 1 ≤ k * q.toNat := Nat.mul_le_mul k1 (show 1 ≤ q.toNat by omega)
      refine kk T Z (evL p q c (k * q.toNat)) (.ref D) _ upd_same ⟨zT _ _ upd_same, fun z hz => ?_⟩ (by rw [evL_len]; omega) (by rw [evL_len]; exact qn) (evL_nn R.p0 q1) (.inr ⟨D, p, q, c % q, rfl, zT _ _ (zZ _ _ (f4.t _ _ eD)), evL_cyc R.p0 q1 R.g k1⟩) (((hP4.same zZ).same zT).mono (by omega)) (((f03.trans f4).trans (Fr.same zZ)).trans (Fr.same zT))
      rw [← evL_many q1 k] at hz
      obtain ⟨l, hl, hx⟩ := List.mem_flatten.mp hz
      rw [List.eq_of_mem_replicate hl] at hx
      exact rw3.b z hx
    refine ⟨_, rfl, rfl, _, rfl, ite2 (fun c1 => ?_) (fun c1 => ?_)⟩
    · -- in another order
      refine ⟨_, rfl, _, rfl, by omega, by omega, fun Y nY => ?_⟩
      have nY2 : H2 Y = none := nf_of s3 nY
      have YG : Y ≠ G := fun e => by
        rw [e, rw3.e] at nY
        cases nY
      refine lc_range (lo := 0) (n := q.toNat) (fun j H' => ∃ rs ys : List Int, H' G = some (.lst (rs.map V.int)) ∧ H' Y = some (.lst (ys.map V.int)) ∧ ys.length = j ∧ rs.length + j = q.toNat ∧ (∀ z ∈ rs, 0 ≤ z ∧ Bd 100 z) ∧ (∀ z ∈ ys, 0 ≤ z ∧ Bd 100 z) ∧ Pen H' a (n + 9 + j) ∧ Fr H2 H') ⟨_, [], by rw [upd_ne YG.symm]; exact rw3.e, upd_same, rfl, by rw [evl]; rfl, fun z hz => ⟨evn z hz, rw3.b z hz⟩, fun z hz => (nomatch hz), hP3.new nY, (Fr.same s3).over nY2⟩ ?_ ?_
      · rintro j H4 hj ⟨rs, ys, eG, eY, lY, lG, bG, bY, hP4, f4⟩
        have lr : 0 < rs.length := by omega
        refine ⟨rfl, _, rfl, .inl ⟨rfl, _, SqL.of eG⟩, _, rfl, _, rfl, G, _, rfl, .inl (SqL.of eG), a, _, _, rfl, hP4, by omega, by rw [List.length_map]; omega, Bd.small 20 (by rw [List.length_map]; omega) (by decide), fun d H5 d0 d1 hP5 f5 => ?_⟩
        rw [List.length_map] at d1
        have eG5 := f5.l _ _ eG
        have eY5 := f5.l _ _ eY
        have dl : d.toNat < rs.length := by omega
        have hx : rs[d.toNat]? = some (rs[d.toNat]'dl) := List.getElem?_eq_getElem dl
        generalize rs[d.toNat]'dl = x at hx
        have mx := List.mem_of_getElem? hx
        refine ⟨G, _, d, d.toNat, .int x, rfl, rfl, eG5, by omega, by omega, seqIx d0 (by rw [List.length_map]; exact d1), by rw [List.getElem?_map, hx]; rfl, ?_⟩
        refine ⟨ys.map V.int, by rw [upd_ne YG]; exact eY5, small1000 (by rw [List.length_map]; omega), rs.eraseIdx d.toNat, ys ++ [x], ?_, ?_, ?_, ?_, ?_, ?_, ?_, ?_⟩
        · rw [upd_ne YG.symm, upd_same, erase_map]
        · rw [upd_same, List.map_append]
          rfl
        · rw [List.length_append, lY]
          rfl
        · rw [List.length_eraseIdx_of_lt dl]
          omega
        · exact fun z hz => bG z (List.mem_of_mem_eraseIdx hz)
        · intro z hz
          rcases List.mem_append.mp hz with hz | hz
          · exact bY z hz
          · rw [List.mem_singleton.mp hz]
            exact bG x mx
        · exact (hP2.over nY2 (hP2.over nG hP5)).mono (by omega)
        · exact ((f4.trans f5).over nG).over nY2
      rintro H4 ⟨rs, ys, eG, eY, lY, lG, bG, bY, hP4, f4⟩
      refine ⟨len10 (by simp), fun T nT => ?_⟩
      have zT := sm_upd (o := .tup [.ref Y, .non]) nT
      exact kk T Y ys .non _ upd_same ⟨zT _ _ eY, fun z hz => (bY z hz).2⟩ (by omega) (by omega) (fun z hz => (bY z hz).1) (.inl rfl) ((hP4.same zT).mono (by omega)) ((f02.trans f4).trans (Fr.same zT))
    refine ⟨_, rfl, rfl, _, rfl, ite2 (fun c2 => ?_) (fun c2 => ?_)⟩
    · -- with a change
      refine ⟨_, rfl, _, rfl, a, _, _, rfl, hP3, by omega, by omega, Bd.small 20 (by omega) (by decide), fun at_ H4 a0 a1 hP4 f4 => ?_⟩
      have rw4 := rw3.fr f4
      obtain ⟨x, hx, mx, hx2⟩ := at_ints (ns := evL p q c q.toNat) a0 (by rw [evl]; omega)
      refine ⟨_, rfl, _, rfl, _, rfl, G, _, rfl, SqL.of rw4.e, fun l1 n1 => ?_⟩
      have z1 := sm_upd (o := .lst (cutV ((evL p q c q.toNat).map V.int) none (some at_))) n1
      refine ⟨_, rfl, _, rfl, G, _, _, _, rfl, rfl, SqL.of (z1 _ _ rw4.e), hx, _, _, rfl, rfl, len10 (by simp), fun l2 n2 => ?_⟩
      have z2 := sm_upd (o := .lst [.int (x + 1)]) n2
      have cl1 := cutV_length ((evL p q c q.toNat).map V.int) none (some at_)
      have cl2 := cutV_length ((evL p q c q.toNat).map V.int) (some (at_ + 1)) none
      rw [List.length_map, evl] at cl1 cl2
      refine ⟨l1, l2, _, _, rfl, rfl, z2 _ _ upd_same, upd_same, len10 (by simp; omega), fun l3 n3 => ?_⟩
      have z3 := sm_upd (o := .lst (cutV ((evL p q c q.toNat).map V.int) none (some at_) ++ [.int (x + 1)])) n3
      refine ⟨_, rfl, _, rfl, _, _, rfl, rfl, _, rfl, G, _, rfl, SqL.of (z3 _ _ (z2 _ _ (z1 _ _ rw4.e))), fun l4 n4 => ?_⟩
      have z4 := sm_upd (o := .lst (cutV ((evL p q c q.toNat).map V.int) (some (at_ + 1)) none)) n4
      refine ⟨l3, l4, _, _, rfl, rfl, z4 _ _ upd_same, upd_same, len10 (by simp; omega), fun Z nZ => ?_⟩
      have eL : cutV ((evL p q c q.toNat).map V.int) none (some at_) ++ [V.int (x + 1)] ++ cutV ((evL p q c q.toNat).map V.int) (some (at_ + 1)) none = ((evL p q c q.toNat).take at_.toNat ++ [x + 1] ++ (evL p q c q.toNat).drop (at_ + 1).toNat).map V.int := by
        rw [cut_take _ _ a0, cut_drop _ _ (by omega), List.map_append, List.map_append, List.map_take, List.map_drop]
        rfl
      have bE : ∀ z ∈ (evL p q c q.toNat).take at_.toNat ++ [x + 1] ++ (evL p q c q.toNat).drop (at_ + 1).toNat, 0 ≤ z ∧ Bd 100 z := fun z hz => by
        have old : ∀ z ∈ evL p q c q.toNat, 0 ≤ z ∧ Bd 55 z := fun z hz => ⟨evn z hz, by
          have := rw55 z hz
          exact this⟩
        rcases List.mem_append.mp hz with hz | hz
        · rcases List.mem_append.mp hz with hz | hz
          · have := old z (List.mem_of_mem_take hz)
            exact ⟨this.1, this.2.mono (by decide)⟩
          · rw [List.mem_singleton.mp hz]
            have := old x mx
            exact ⟨by omega, (Bd.add this.2 (Bd.small 1 (by decide) (by decide))).mono (by decide)⟩
        · have := old z (List.mem_of_mem_drop hz)
          exact ⟨this.1, this.2.mono (by decide)⟩
      have lE : ((evL p q c q.toNat).take at_.toNat ++ [x + 1] ++ (evL p q c q.toNat).drop (at_ + 1).toNat).length = q.toNat := by
        rw [List.length_append, List.length_append, List.length_take, List.length_drop, evl]
        show min at_.toNat q.toNat + 1 + (q.toNat - (at_ + 1).toNat) = q.toNat
        omega
      have zZ := sm_upd (o := .lst (cutV ((evL p q c q.toNat).map V.int) none (some at_) ++ [V.int (x + 1)] ++ cutV ((evL p q c q.toNat).map V.int) (some (at_ + 1)) none)) nZ
      refine ⟨len10 (by simp), fun T nT => ?_⟩
      have zT := sm_upd (o := .tup [.ref Z, .non]) nT
      have s4 := z1.trans (z2.trans (z3.trans (z4.trans (zZ.trans zT))))
      exact kk T Z ((evL p q c q.toNat).take at_.toNat ++ [x + 1] ++ (evL p q c q.toNat).drop (at_ + 1).toNat) .non _ upd_same ⟨(zT _ _ upd_same).trans (congrArg (fun l => some (HO.lst l)) eL), fun z hz => (bE z hz).2⟩ (by rw [lE]; omega) (by rw [lE]; omega) (fun z hz => (bE z hz).1) (.inl rfl) ((hP4.same s4).mono (by omega)) ((f03.trans f4).trans (Fr.same s4))
    · -- any numbers
      refine ⟨_, rfl, a, _, _, rfl, hP3, by omega, by decide, Bd.small 20 (by decide) (by decide), fun m H4 m0 m1 hP4 f4 => ⟨_, _, rfl, rfl, _, rfl, by omega, by omega, fun Y nY => ?_⟩⟩
      refine lc_range (lo := 0) (n := (1 + m).toNat) (fun j H' => ∃ ys : List Int, H' Y = some (.lst (ys.map V.int)) ∧ ys.length = j ∧ (∀ z ∈ ys, 0 ≤ z ∧ Bd 100 z) ∧ Pen H' a (n + 10 + 4 * j) ∧ Fr H4 H') ⟨[], upd_same, rfl, fun z hz => (nomatch hz), hP4.new nY, Fr.new nY⟩ ?_ ?_
      · rintro j H5 hj ⟨ys, eY, lY, bY, hP5, f5⟩
        refine ⟨rfl, _, rfl, _, rfl, a, _, 12, rfl, hP5, by omega, by decide, by decide, fun g H6 g0 bg hP6 f6 => ⟨len10 (by simp), fun l nl => ?_⟩⟩
        rw [t12] at hP6 bg
        refine ⟨a, l, _, _, rfl, hP6.new nl, by omega, upd_same, by simp, by simp, fun x H7 hx hP7 f7 => ?_⟩
        obtain ⟨z, rfl, z0, zb⟩ : ∃ z : Int, x = .int z ∧ 0 ≤ z ∧ Bd 100 z := by
          simp only [List.mem_cons, List.not_mem_nil, or_false] at hx
          rcases hx with rfl | rfl | rfl
          · exact ⟨_, rfl, by decide, Bd.small 20 (by decide) (by decide)⟩
          · exact ⟨_, rfl, by decide, Bd.small 20 (by decide) (by decide)⟩
          · exact ⟨_, rfl, g0, bg.mono (by decide)⟩
        have f57 := (f6.trans (Fr.new nl)).trans f7
        refine ⟨_, f57.l _ _ eY, small1000 (by rw [List.length_map]; omega), ys ++ [z], ?_, ?_, ?_, (hP4.over nY hP7).mono (by omega), (f5.trans f57).over nY⟩
        · rw [upd_same, List.map_append]
          rfl
        · rw [List.length_append, lY]
          rfl
        · intro y hy
          rcases List.mem_append.mp hy with hy | hy
          · exact bY y hy
          · rw [List.mem_singleton.mp hy]
            exact ⟨z0, zb⟩
      rintro H5 ⟨ys, eY, lY, bY, hP5, f5⟩
      refine ⟨len10 (by simp), fun T nT => ?_⟩
      have zT := sm_upd (o := .tup [.ref Y, .non]) nT
      exact kk T Y ys .non _ upd_same ⟨zT _ _ eY, fun z hz => (bY z hz).2⟩ (by omega) (by omega) (fun z hz => (bY z hz).1) (.inl rfl) ((hP5.same zT).mono (by omega)) (((f03.trans f4).trans f5).trans (Fr.same zT))
end
end Lf
namespace Lf
open PySem PySem.Spec PyProof.Rows L2
theorem evL_one {p q c : Int} (p0 : 0 ≤ p) (q1 : 1 ≤ q) (g : Int.gcd p q = 1) : CycM (evL p q c q.toNat) p q (c % q) := by
  have := evL_cyc (c := c) p0 q1 g (m := 1) (Nat.le_refl 1)
  rw [Nat.one_mul] at this
  exact this
theorem set_row {k : Nat} {ns : List Int} {j : Nat} {x : Int} (h : ∀ z ∈ ns, 0 ≤ z ∧ Bd k z) (hx : x ∈ ns) : ∀ z ∈ ns.set j x, 0 ≤ z ∧ Bd k z := fun z hz => by
  rcases List.mem_or_eq_of_mem_set hz with hz | rfl
  · exact h z hz
  · exact h _ hx
theorem smI_ints (ns : List Int) : SmI (ns.map V.int) := fun z hz => by
  obtain ⟨x, _, rfl⟩ := List.mem_map.mp hz
  exact .inl rfl
section
variable {P : Program} {w : World} {K : PySem.W.Frag} {mg : Str → Option Value} {base : Heap}
def spLong : Sp := fun vs H Q _ => ∃ (a : PA) (n : Nat), vs = [.ref a] ∧ Pen H a n ∧ n < 2 ^ 36 ∧ ∀ H', Q (.bl true) H'
abbrev s_l_long_right : Stmt := topS 35
abbrev N_l_long_right : List Str := ["_law_pen_here", "_law_q", "_law_p", "_law_c", "_law_row", "_law_at", "_law_to", "_law_kept", "_law_found", "_law_k"]
abbrev P_l_long_right : List Str := ["_law_pen_here"]
theorem sc_l_long_right : FnScope N_l_long_right P_l_long_right (defScope s_l_long_right) := ⟨rfl, rfl, rfl, by decide +kernel, rfl, by decide +kernel, by decide +kernel⟩
theorem ok_l_long_right (D : Df K mg "_law_long_right" s_l_long_right P_l_long_right) (B : Bi mg) (c_l_draw : C8.Cal P w K mg base 1 "_law_draw" spDraw []) (c_l_pick : C8.Cal P w K mg base 2 "_law_pick" spPick []) (c_l_great : C8.Cal P w K mg base 2 "_law_great" spGreat []) (c_l_lowest : C8.Cal P w K mg base 2 "_law_lowest" spLowest []) (c_l_pattern : C8.Cal P w K mg base 2 "_law_pattern" spPatE []) (c_l_tally : C8.Cal P w K mg base 1 "_law_tally" spTally []) (c_l_has_rule : C8.Cal P w K mg base 1 "_law_has_rule" spHas []) (c_cycle_rule : C8.Cal P w K mg base 4 "cycle_rule" spCyc []) : C8.Cal P w K mg base 5 "_law_long_right" spLong [] := by
  refine cal_of D sc_l_long_right (fun vs H Q E h => ?_) (fun f cdv A outer s H vs Q E hr h => ?_)
  · obtain ⟨a, n, rfl, _⟩ := h
    rfl
  · obtain ⟨a, n, rfl, hP, hn, kk⟩ := h
    refine ⟨_, (pss_cons (ps_set (i := 1) sc_l_long_right.nd rfl (Or.inr rfl) (pe_op op_add pe_int (C8.pe_c c_l_draw hr (by decide) (by rfl) (pa_cons (pv 0) (pa_cons pe_int pa_nil)))))
    (pss_cons (ps_asg (C8.pe_c c_l_lowest hr (by decide) (by rfl) (pa_cons (C8.pe_c c_l_pick hr (by decide) (by rfl) (pa_cons (pv 0) (pa_cons (pe_lst (pa_cons (C8.pe_c c_l_draw hr (by decide) (by rfl) (pa_cons (pv 0) (pa_cons (pv 1) pa_nil))) (pa_cons (C8.pe_c c_l_great hr (by decide) (by rfl) (pa_cons (pv 0) (pa_cons pe_int pa_nil))) pa_nil))) pa_nil))) (pa_cons (pv 1) (pa_cons (C8.pe_c c_l_draw hr (by decide) (by rfl) (pa_cons (pv 0) (pa_cons (pv 1) pa_nil))) pa_nil)))) (pg_tup rfl (pgs_cons (pg_name (i := 2) sc_l_long_right.nd rfl (Or.inl rfl)) (pgs_cons (pg_name (i := 1) sc_l_long_right.nd rfl (Or.inr rfl)) (pgs_cons (pg_name (i := 3) sc_l_long_right.nd rfl (Or.inl rfl)) pgs_nil)))))
    (C8.pss_cut (ps_set (i := 4) sc_l_long_right.nd rfl (Or.inl rfl) (C8.pe_c c_l_pattern hr (by decide) (by rfl) (pa_cons (pe_tup (pa_cons (pv 2) (pa_cons (pv 1) (pa_cons (pv 3) pa_nil)))) (pa_cons (pv 1) (pa_cons pe_int pa_nil)))))
    (pss_cons (ps_if (pt_cmpR (op_neD hr.units) (C8.pe_c c_cycle_rule hr (by decide) (by rfl) (pa_cons (pv 4) pa_nil)) (pe_tup (pa_cons (pv 2) (pa_cons (pv 1) (pa_cons (pe_op op_mod (pv 3) (pv 1)) pa_nil)))) (nomark _))
      (pss_one (ps_ret pe_bl))
      pss_nil)
    (C8.pss_cut (ps_asg (pe_lc (own := [("_law_k", 9)]) (g := (gName 9)) (by rfl) sc_l_long_right.nd (pi_range1 rfl B.range_ (pa_cons pe_int pa_nil)) (blkOk_by (own := [("_law_k", 9)]) (N := N_l_long_right) (sc := defScope s_l_long_right) (by decide +kernel)) (fun _ _ _ _ _ => (pg_name (i := 9) sc_l_long_right.nd rfl (Or.inl rfl))) (fun _ _ _ _ _ => pts_nil) (fun _ _ _ _ _ => (C8.pe_c c_l_draw hr (by decide) (by rfl) (pa_cons (pv 0) (pa_cons (pv 1) pa_nil))))) (pg_unl rfl (pgs_cons (pg_name (i := 5) sc_l_long_right.nd rfl (Or.inl rfl)) (pgs_cons (pg_name (i := 6) sc_l_long_right.nd rfl (Or.inl rfl)) pgs_nil))))
    (pss_cons (ps_set (i := 7) sc_l_long_right.nd rfl (Or.inl rfl) (pe_ix (r := rIxL K) ix_list (pv 4) (pv 5) (fun _ _ => rfl)))
    (pss_cons (ps_asg (pe_ix (r := rIxL K) ix_list (pv 4) (pv 6) (fun _ _ => rfl)) (pg_sub (pv 4) (pv 5) set_list))
    (pss_cons (ps_asg (pv 7) (pg_sub (pv 4) (pv 6) set_list))
    (pss_cons (ps_set (i := 8) sc_l_long_right.nd rfl (Or.inl rfl) (C8.pe_c c_cycle_rule hr (by decide) (by rfl) (pa_cons (pv 4) pa_nil)))
    (pss_cons (ps_if (pt_cmpR op_ne (pe_cmpR op_notN (pv 8) pe_non (nomark _)) (C8.pe_c c_l_has_rule hr (by decide) (by rfl) (pa_cons (pv 4) pa_nil)) (nomark _))
      (pss_one (ps_ret pe_bl))
      pss_nil)
    (pss_one (ps_ret (pe_or (pe_cmpR op_isN (pv 8) pe_non (nomark _)) (pe_one (pe_and (pe_cmpR (op_eqS hr.units) (C8.pe_c c_l_pattern hr (by decide) (by rfl) (pa_cons (pv 8) (pa_cons (pv 1) (pa_cons pe_int pa_nil)))) (pv 4) (nomark _)) (pe_one (pe_cmpR op_eq (C8.pe_c c_l_tally hr (by decide) (by rfl) (pa_cons (pv 8) (pa_cons pe_int pa_nil))) pe_int (nomark _)))))))))))))))))), ?_⟩
    have t12 : ((12 : Int) / 6).toNat = 2 := by decide
    refine ⟨_, rfl, a, _, _, rfl, hP, by omega, by decide, Bd.small 20 (by decide) (by decide), fun d H1 d0 d1 hP1 f1 => ⟨_, _, rfl, rfl, ?_⟩⟩
    have lo : 15 ≤ 15 + d := by omega
    have hi : 15 + d ≤ 200 := by omega
    dsimp only
    generalize 15 + d = q0 at lo hi ⊢
    refine ⟨_, rfl, _, rfl, _, rfl, a, _, _, rfl, hP1, by omega, by omega, Bd.small 20 (by omega) (by decide), fun x1 H2 x10 x11 hP2 f2 => ?_⟩
    refine ⟨_, rfl, a, _, 12, rfl, hP2, by omega, by decide, by decide, fun g H3 g0 bg hP3 f3 => ⟨len10 (by simp), fun l nl => ?_⟩⟩
    rw [t12] at hP3 bg
    refine ⟨a, l, _, _, rfl, hP3.new nl, by omega, upd_same, by simp, by simp, fun x H4 hx hP4 f4 => ?_⟩
    obtain ⟨p0, rfl, p00, bp0⟩ : ∃ p : Int, x = .int p ∧ 0 ≤ p ∧ Bd 60 p := by
      simp only [List.mem_cons, List.not_mem_nil, or_false] at hx
      rcases hx with rfl | rfl
      · exact ⟨_, rfl, x10, Bd.small 20 (by omega) (by decide)⟩
      · exact ⟨_, rfl, g0, bg.mono (by decide)⟩
    refine ⟨_, rfl, _, rfl, _, rfl, a, _, _, rfl, hP4, by omega, by omega, Bd.small 20 (by omega) (by decide), fun c0 H5 c00 c01 hP5 f5 => ?_⟩
    have bq0 : Bd 60 q0 := Bd.small 20 (by omega) (by decide)
    have bc0 : Bd 60 c0 := Bd.small 20 (by omega) (by decide)
    refine ⟨p0, q0, c0, rfl, p00, by omega, bq0.mono (by decide), fun r H6 s6 er => ?_⟩
    refine ⟨r, _, rfl, SqT.of er, rfl, _, _, rfl, _, _, rfl, _, _, rfl, rfl, ?_⟩
    obtain ⟨P0, Q1, gP, _, pl, ql⟩ := red_ex p00 (show 1 ≤ q0 by omega)
    have R : RuleB 60 (p0 / (Int.gcd p0 q0 : Int)) (q0 / (Int.gcd p0 q0 : Int)) (c0 / (Int.gcd p0 q0 : Int)) := ⟨P0, Q1, gP, bp0.between P0 pl, bq0.between (by omega) ql, Bd.ediv bc0 (by have := gcd_pos (p := p0) (show 1 ≤ q0 by omega); omega)⟩
    have q200 : q0 / (Int.gcd p0 q0 : Int) ≤ 200 := by omega
    have hP6 : Pen H6 a (n + 10) := (hP5.same s6).mono (by omega)
    generalize p0 / (Int.gcd p0 q0 : Int) = p at R
    generalize q0 / (Int.gcd p0 q0 : Int) = q at R q200
    generalize c0 / (Int.gcd p0 q0 : Int) = c at R
    clear er s6 P0 Q1 gP pl ql hx bp0 bq0 bc0 f5 f4 f3 f2 f1 hP5 hP4 hP3 hP2 hP1 lo hi nl bg g0 x10 x11 c00 c01 p00
    have q1 := R.q1
    refine ⟨fun σ' H' => ∃ G : Addr, σ' = [some (.ref a), some (.int q), some (.int p), some (.int c), some (.ref G), none, none, none, none, none] ∧ Row H' G 126 (evL p q c q.toNat) ∧ Pen H' a (n + 10), ?_, ?_⟩
    · refine ⟨_, rfl, _, rfl, _, rfl, len10 (by simp), fun t nt => ⟨_, rfl, t, p, q, c, q, 0, 60, rfl, upd_same, R, by omega, by omega, Bd.small 20 (by decide) (by decide), by decide, by decide, fun G H7 nG s7 rw7 => ?_⟩⟩
      rw [patL_zero] at rw7
      exact ⟨G, rfl, rw7, (hP6.same (sm_upd nt)).same s7⟩
    rintro σ H7 ⟨G, rfl, rw7, hP7⟩
    have evn := evL_nn (c := c) R.p0 q1 (n := q.toNat)
    have evl := evL_len p q c q.toNat
    have one := evL_one (c := c) R.p0 q1 R.g
    have l1 : 1 ≤ (evL p q c q.toNat).length := by omega
    refine ⟨_, rfl, G, true, _, 126, rfl, rw7.e, l1, by omega, fun z hz => ⟨evn z hz, rw7.b z hz⟩, by decide, fun v H8 s8 cv => ?_⟩
    rcases cv with ⟨rfl, no⟩ | ⟨r1, p1, q1', c1, rfl, er1, cm, R1, _⟩
    · exact absurd ⟨_, _, _, one.r⟩ no
    obtain ⟨rfl, rfl, rfl⟩ := cm.uniq one l1
    refine ⟨_, rfl, _, rfl, _, rfl, _, rfl, _, _, rfl, rfl, by omega, len10 (by simp), fun t2 nt2 => ?_⟩
    have z2 := sm_upd (o := .tup [.int p1, .int q1', .int (c % q1')]) nt2
    refine ne3 (z2 _ _ er1) upd_same rfl rfl rfl ⟨_, rfl, iteF ?_⟩
    have rw9 := (rw7.fr (Fr.same s8)).fr (Fr.same z2)
    have hP9 := (hP7.same s8).same z2
    generalize upd H8 t2 (.tup [.int p1, .int q1', .int (c % q1')]) = H9 at rw9 hP9 ⊢
    clear z2 er1 rw7 hP7 s8 nt2 R1 cm
    refine ⟨fun σ' H' => ∃ at_ to : Int, σ' = [some (.ref a), some (.int q1'), some (.int p1), some (.int c), some (.ref G), some (.int at_), some (.int to), none, none, none] ∧ 0 ≤ at_ ∧ at_ < q1' ∧ 0 ≤ to ∧ to < q1' ∧ Row H' G 126 (evL p1 q1' c q1'.toNat), ?_, ?_⟩
    · refine ⟨_, rfl, by decide, by decide, fun Y nY => ?_⟩
      refine lc_range (lo := 0) (n := (2 : Int).toNat) (fun j H' => ∃ ys : List Int, H' Y = some (.lst (ys.map V.int)) ∧ ys.length = j ∧ (∀ y ∈ ys, 0 ≤ y ∧ y < q1') ∧ Pen H' a (n + 10 + j) ∧ Fr H9 H') ⟨[], upd_same, rfl, fun z hz => (nomatch hz), hP9.new nY, Fr.new nY⟩ ?_ ?_
      · rintro j H' hj ⟨ys, eY, lY, bY, hP', f'⟩
        have hj : j < 2 := hj
        refine ⟨rfl, _, rfl, _, rfl, a, _, _, rfl, hP', by omega, by omega, Bd.small 20 (by omega) (by decide), fun d H'' d0 d1 hP'' f'' => ?_⟩
        refine ⟨_, f''.l _ _ eY, small1000 (by rw [List.length_map]; omega), ys ++ [d], ?_, ?_, ?_, (hP9.over nY hP'').mono (by omega), (f'.trans f'').over nY⟩
        · rw [upd_same, List.map_append]
          rfl
        · rw [List.length_append, lY]
          rfl
        · intro y hy
          rcases List.mem_append.mp hy with hy | hy
          · exact bY y hy
          · rw [List.mem_singleton.mp hy]
            exact ⟨d0, d1⟩
      rintro H' ⟨ys, eY, lY, bY, hP', f'⟩
      match ys, lY, bY, eY with
      | [y1, y2], _, bY, eY =>
        have b1 := bY y1 (by simp)
        have b2 := bY y2 (by simp)
        exact ⟨Y, _, rfl, SqL.of eY, rfl, _, _, rfl, _, _, rfl, rfl, y1, y2, rfl, b1.1, b1.2, b2.1, b2.2, rw9.fr f'⟩
    rintro σ H10 ⟨at_, to, rfl, at0, at1, to0, to1, rw10⟩
    obtain ⟨x1, hx1, mx1, _⟩ := at_ints (ns := evL p1 q1' c q1'.toNat) at0 (by omega)
    obtain ⟨x2, hx2, mx2, _⟩ := at_ints (ns := evL p1 q1' c q1'.toNat) to0 (by omega)
    refine ⟨_, rfl, _, rfl, G, _, _, _, rfl, rfl, SqL.of rw10.e, hx1, ?_⟩
    refine ⟨_, rfl, _, rfl, G, _, _, _, rfl, rfl, SqL.of rw10.e, hx2, ?_⟩
    refine ⟨_, rfl, _, rfl, G, _, _, _, rfl, rfl, rw10.e, ixN_in at0 (by rw [List.length_map]; omega), ?_⟩
    rw [set_ints]
    refine ⟨_, rfl, _, rfl, _, rfl, G, _, _, _, rfl, rfl, upd_same, ixN_in to0 (by rw [List.length_map, List.length_set]; omega), ?_⟩
    rw [set_ints]
    have eN := upd_same (H := upd H10 G (.lst (((evL p1 q1' c q1'.toNat).set at_.toNat x2).map V.int))) (a := G) (o := .lst ((((evL p1 q1' c q1'.toNat).set at_.toNat x2).set to.toNat x1).map V.int))
    have b0 : ∀ z ∈ evL p1 q1' c q1'.toNat, 0 ≤ z ∧ Bd 126 z := fun z hz => ⟨evn z hz, rw10.b z hz⟩
    have bN : ∀ z ∈ ((evL p1 q1' c q1'.toNat).set at_.toNat x2).set to.toNat x1, 0 ≤ z ∧ Bd 126 z := fun z hz => by
      rcases List.mem_or_eq_of_mem_set hz with hz | rfl
      · exact set_row b0 mx2 z hz
      · exact b0 _ mx1
    have lN : (((evL p1 q1' c q1'.toNat).set at_.toNat x2).set to.toNat x1).length = q1'.toNat := by rw [List.length_set, List.length_set, evl]
    generalize ((evL p1 q1' c q1'.toNat).set at_.toNat x2).set to.toNat x1 = ns at eN bN lN
    generalize upd (upd H10 G (.lst (((evL p1 q1' c q1'.toNat).set at_.toNat x2).map V.int))) G (.lst (ns.map V.int)) = H11 at eN ⊢
    have sN := sum_nn fun z hz => (bN z hz).1
    refine ⟨_, rfl, G, true, ns, 126, rfl, eN, by omega, by omega, bN, by decide, fun v H12 s12 cv => ?_⟩
    have eN12 := s12 _ _ eN
    rcases cv with ⟨rfl, no⟩ | ⟨r1, p2, q2, c2, rfl, er1, cm, R1, _⟩
    · refine ⟨_, rfl, rfl, _, rfl, G, ns, rfl, eN12, by omega, by omega, fun b H13 s13 hb => ?_⟩
      obtain rfl : b = false := by
        cases b
        · rfl
        · exact absurd ((win_iff (by omega) sN).mp (hb.mp rfl)) no
      refine ⟨rfl, _, rfl, iteNS rfl ?_⟩
      exact ⟨_, rfl, rfl, _, rfl, iteT (kk _)⟩
    · refine ⟨_, rfl, rfl, _, rfl, G, ns, rfl, eN12, by omega, by omega, fun b H13 s13 hb => ?_⟩
      obtain rfl : b = true := hb.mpr ((win_iff (by omega) sN).mpr ⟨_, _, _, cm.r⟩)
      refine ⟨rfl, _, rfl, iteNS rfl ?_⟩
      have er13 := s13 _ _ er1
      have eN13 := s13 _ _ eN12
      refine ⟨_, rfl, rfl, _, rfl, iteF ?_⟩
      refine ⟨_, rfl, _, rfl, r1, p2, q2, c2, q1', 0, 135, rfl, er13, R1, by omega, by omega, Bd.small 20 (by decide) (by decide), by decide, by decide, fun L H14 nL s14 rwL => ?_⟩
      have pe := cm.r.pat 0
      rw [Int.mul_zero, lN] at pe
      rw [pe] at rwL
      refine ⟨_, rfl, L, G, _, _, rfl, rfl, SqL.of rwL.e, SqL.of (s14 _ _ eN13), .inr ⟨rfl, smI_ints ns, _, rfl, iteT ?_⟩⟩
      have ct := cm.r.at_ 0 (Nat.zero_le _)
      rw [pS_zero] at ct
      have ct : (p2 * 0 + c2) / q2 = 0 := ct
      refine ⟨_, rfl, r1, p2, q2, c2, 0, 135, rfl, s14 _ _ er13, R1, Bd.small 20 (by decide) (by decide), by decide, by decide, ?_⟩
      rw [ct]
      exact ⟨rfl, kk _⟩
end
end Lf
namespace Lf
open PySem PySem.Spec PyProof.Rows L2
theorem ps_n1 {X : Cx} {st : Stmt} {t : TS} (h1 : ∃ o, X.base.get? 1 = some o) (h : PS X st t) : PS X st (fun D σ H => H 1 = none → t D σ H) :=
  ⟨fun pins s σ H D I ht => h.run pins s σ H D I (ht (let ⟨o, ho⟩ := h1; (I.bs 1 o ho).2))⟩
abbrev qLam20 : Str := (("law" : Str) ++ (".<locals>." : Str)) ++ ("<lambda>" : Str)
theorem dvfA_ints {H : Hp} (ns : List Int) : DvFAll H (ns.map V.int) (ns.map PyData.int) := dvf_ints ns
theorem dvf_sqI {H : Hp} {X : Addr} {kb : Bool} {is : List Int} (h : H X = some (sqO kb (is.map V.int))) : DvF H (.ref X) (sqD kb (is.map PyData.int)) := by
  cases kb with
  | true => exact .lst h (dvf_ints is)
  | false => exact .tup h (dvf_ints is)
theorem shn_int {i : Int} (h : Bd 1900 i) : ShN 0 2000 (.int i) := by
  have hz : i.natAbs.log2 < 1920 := (h.mono (show 1900 ≤ 1920 by decide)).log (by decide)
  refine ⟨by simpa [PyData.showable] using hz, Nat.le_refl _, ?_⟩
  have := PyProof.Rows.int_text_len_1921 hz
  show (toString i : Str).length ≤ 2000
  omega
theorem any_int {H : Hp} {i : Int} (h : Bd 1900 i) : AnyV 0 2000 H (.int i) := ⟨_, .int i, shn_int h⟩
theorem any_ints {H : Hp} {ns : List Int} (h : ∀ i ∈ ns, Bd 1900 i) : AnyL 0 2000 H (ns.map V.int) := fun x hx => by
  obtain ⟨i, hi, rfl⟩ := List.mem_map.mp hx
  exact any_int (h i hi)
theorem dp_intl {K : PySem.W.Frag} {H : Hp} {a : Addr} {ns : List Int} (h : H a = some (.lst (ns.map V.int))) : Dp K H (.ref a) (.list (ns.map PyData.int)) := Dp.lst (SqL.of h) (dp_ints ns)
theorem lay_ints (ns : List Int) : (PyData.list (ns.map PyData.int)).canLay0 = true := by
  have h : (PyData.canLay0 (.list (ns.map PyData.int)) && decide _) = true := sh_ints ns
  exact (Bool.and_eq_true _ _ ▸ h).1
theorem flat_mem {xs : List V} {n : Nat} {x : V} (h : x ∈ (List.replicate n xs).flatten) : x ∈ xs := by
  obtain ⟨l, hl, hx⟩ := List.mem_flatten.mp h
  rw [List.eq_of_mem_replicate hl] at hx
  exact hx
theorem smI_nil {zs : List V} (h : zs = []) : SmI zs := by
  subst h
  intro z hz
  cases hz
theorem flat_len {xs : List V} {n : Nat} : (List.replicate n xs).flatten.length = n * xs.length := by
  rw [List.length_flatten, List.map_replicate, List.sum_replicate_nat]
theorem cut_mem {xs : List V} {lo hi : Option Int} {x : V} (h : x ∈ cutV xs lo hi) : x ∈ xs := by
  unfold cutV at h
  exact List.mem_of_mem_drop (List.mem_of_mem_take h)
theorem all_take {es : List PyData} {i : Nat} {d : PyData} (h : es[i]? = some d) : (es.take (i + 1)).all isI = ((es.take i).all isI && isI d) := by
  rw [List.take_add_one, h, List.all_append]
  simp
theorem pb1 (i : Nat) : 1000 * i + 410 + pB 1 ≤ 1000 * i + 480 := by
  have : pB 1 ≤ 70 := by decide
  omega
structure St20 (Rw : Addr) (ns : List Int) (a : PA) (n : Nat) (T : List (Addr × Str)) (H : Hp) : Prop where
  rw : Row H Rw 400 ns
  pn : Pen H a n
  tb : LamX.Tabs T H
section
variable {Rw : Addr} {ns : List Int} {a : PA} {n m : Nat} {T : List (Addr × Str)} {H H' : Hp}
theorem St20.same (h : St20 Rw ns a n T H) (s : Same H H') : St20 Rw ns a n T H' := ⟨h.rw.fr (Fr.same s), h.pn.same s, tabs_same h.tb s⟩
theorem St20.fr (h : St20 Rw ns a n T H) (f : Fr H H') (g : Pen H' a m) : St20 Rw ns a m T H' := ⟨h.rw.fr f, g, tabs_fr h.tb f⟩
theorem St20.mono (h : St20 Rw ns a n T H) (l : n ≤ m) : St20 Rw ns a m T H := ⟨h.rw, h.pn.mono l, h.tb⟩
end
end Lf
namespace Lf
open PySem PySem.Spec PyProof.Rows L2
theorem cyc_zero : CycM (List.replicate 200 0) 0 1 0 := by
  have z : ∀ t, pS (List.replicate 200 (0 : Int)) t = 0 := fun t => by
    unfold pS
    rw [List.take_replicate]
    generalize min t 200 = m
    induction m with
    | zero => rfl
    | succ m ih =>
      rw [List.replicate_succ, List.sum_cons, ih]
      rfl
  refine ⟨⟨Int.le_refl _, Int.le_refl _, by decide, ?_, Int.le_refl _, by decide, fun t _ => ?_⟩, 0, Nat.zero_le _, rfl⟩
  · have := pS_all (List.replicate 200 (0 : Int))
    rw [z] at this
    rw [← this]
    simp
  · rw [z]
    simp
def okI : PyData → Bool
  | .int i => decide (0 ≤ i)
  | _ => false
theorem all_takeK {es : List PyData} {i : Nat} {d : PyData} (h : es[i]? = some d) : (es.take (i + 1)).all okI = ((es.take i).all okI && okI d) := by
  rw [List.take_add_one, h, List.all_append]
  simp
theorem all_okI : ∀ {es : List PyData}, es.all okI = true ↔ ∃ js : List Int, es = js.map PyData.int ∧ ∀ z ∈ js, 0 ≤ z
  | [] => ⟨fun _ => ⟨[], rfl, fun z hz => (nomatch hz)⟩, fun _ => rfl⟩
  | e :: r => by
    rw [List.all_cons, Bool.and_eq_true, all_okI (es := r)]
    constructor
    · rintro ⟨h, js, rfl, h2⟩
      cases e with
      | int i =>
        refine ⟨i :: js, rfl, fun z hz => ?_⟩
        rcases List.mem_cons.mp hz with rfl | hz
        · exact of_decide_eq_true h
        · exact h2 z hz
      | _ => cases h
    · rintro ⟨js, e0, h2⟩
      cases js with
      | nil => cases e0
      | cons n js =>
        have e1 := List.cons.inj e0
        rw [e1.1]
        exact ⟨decide_eq_true (h2 n List.mem_cons_self), js, e1.2, fun z hz => h2 z (List.mem_cons_of_mem _ hz)⟩
theorem sh_bd {kb : Bool} {js : List Int} (h : (sqD kb (js.map PyData.int)).showable = true) : ∀ z ∈ js, Bd 1921 z := fun z hz => by
  have h : PyData.showableAll (js.map PyData.int) = true := by
    cases kb
    · exact h
    · exact h
  have key : ∀ js : List Int, PyData.showableAll (js.map PyData.int) = true → ∀ z ∈ js, z.natAbs.log2 < 1920 := by
    intro js
    induction js with
    | nil => exact fun _ z hz => (nomatch hz)
    | cons n r ih =>
      intro h z hz
      have h : ((PyData.int n).showable && PyData.showableAll (r.map PyData.int)) = true := h
      rw [Bool.and_eq_true] at h
      rcases List.mem_cons.mp hz with rfl | hz
      · have := h.1
        simpa [PyData.showable] using this
      · exact ih h.2 z hz
  have l := key js h z hz
  unfold Bd
  have := Nat.lt_log2_self (n := z.natAbs)
  exact Nat.lt_of_lt_of_le this (Nat.pow_le_pow_right (by decide) (by omega))
theorem pby (i : Nat) : 1000 * i + 230 + pB 1 ≤ 1000 * i + 480 := by
  have : pB 1 ≤ 70 := by decide
  omega
theorem pbx (i : Nat) : 1000 * i + 410 + pB 1 ≤ 1000 * i + 480 := by
  have : pB 1 ≤ 70 := by decide
  omega
section
variable {P : Program} {w : World} {K : PySem.W.Frag} {mg : Str → Option Value} {base : Heap} {C L N R E F cE PT : Addr}
abbrev s_law : Stmt := topS 36
abbrev N_law : List Str := ["_law_script", "_law_pen_here", "_law_turn", "_law_row", "_law_due", "_law_found", "_law_start", "_law_odd", "_law_is_valid", "_law_one"]
abbrev P_law : List Str := ["_law_script"]
theorem sc_law : FnScope N_law P_law (defScope s_law) := ⟨rfl, rfl, rfl, by decide +kernel, rfl, by decide +kernel, by decide +kernel⟩
theorem ok_law {f : Addr} {oc kV doc pm ct : Value} {od an : Option Addr} {osl : Array (Option Value)} (lkQ : K.lookup f = some ⟨oc, od, .func (PySem.W.fnOf "law" "law" (defArgs s_law) (defBody s_law) (defScope s_law) .none kV doc pm an (.ref cE) ct), osl⟩) (hcQ : PySem.W.codeIn K (.ref cE) "law" = true) (TB : LamX.TabB base mg cE PT) (o1 : ∃ o, base.get? 1 = some o)
    (T : ValC P K mg C "InvalidCounts" "value") (U : Cls20 K mg C L N R E F) (B : Bi mg) (D_l_refused : Df K mg "_law_refused" s_l_refused P_l_refused) (c_l_pen : C8.Cal P w K mg base 1 "_law_pen" (spPen K) []) (c_l_draw : C8.Cal P w K mg base 1 "_law_draw" spDraw []) (c_l_pick : C8.Cal P w K mg base 2 "_law_pick" spPick []) (c_l_signed : C8.Cal P w K mg base 3 "_law_signed" spSigned []) (c_l_some_pattern : C8.Cal P w K mg base 4 "_law_some_pattern" spSome []) (c_l_long_right : C8.Cal P w K mg base 5 "_law_long_right" spLong [])
    (c_l_anything : C8.Cal P w K mg base 3 "_law_anything" (spAnyS 2) []) (c_l_is_int : C8.Cal P w K mg base 1 "_law_is_int" spIsIntL []) (c_l_is_rule : C8.Cal P w K mg base 2 "_law_is_rule" spIsRule []) (c_l_tally : C8.Cal P w K mg base 1 "_law_tally" spTally []) (c_l_pattern : C8.Cal P w K mg base 2 "_law_pattern" spPatE []) (c_l_has_rule : C8.Cal P w K mg base 1 "_law_has_rule" spHas []) (c_cycle_rule : C8.Cal P w K mg base 4 "cycle_rule" spCyc []) (cx_cycle_rule : CalX P w K mg base 4 "cycle_rule" (fun vs H Q E => spCyc vs H Q E ∨ spCyBad C vs H Q E)) : FnG P w K mg base 9 f (PySem.W.fnOf "law" "law" (defArgs s_law) (defBody s_law) (defScope s_law) .none kV doc pm an (.ref cE) ct) P_law (spLawT K PT) := by
  refine fnG_lk lkQ hcQ sc_law (fun vs H Q E h => ?_) (fun A outer s H vs Q E hr gd h => ?_)
  · obtain ⟨a, ns, rfl, _⟩ := h
    rfl
  · obtain ⟨sc, ns, rfl, hS, hlen, hPT, kk⟩ := h
    obtain ⟨g, fdN, FN, hmN, bN⟩ := D_l_refused
    have kpN := FN.kp
    obtain ⟨ocN, odN, kVN, dcN, pmN, anN, cdN, ctN, slN, rfl, lkN, hcN⟩ := FN.ex
    have hT1 : (PT, (cxOf CX0 P w K mg base N_law "law" (defScope s_law) f (.ref cE) A outer s H E).nox.env.qual ++ ("<lambda>" : Str)) ∈ [(PT, qLam20)] := List.mem_singleton.mpr rfl
    have hT2 : ∀ p ∈ [(PT, qLam20)], p.1 = PT → p.2 = (cxOf CX0 P w K mg base N_law "law" (defScope s_law) f (.ref cE) A outer s H E).nox.env.qual ++ ("<lambda>" : Str) := fun p hp _ => by
      rw [List.mem_singleton.mp hp]
      rfl
    have hu0 : (A.deeper (envOfC "law" (defScope s_law) s.heap.objs.size f (.ref cE))).units + 70 < cLine := by
      have := hr.un
      omega
    refine ⟨_, (pss_cons (ps_set (i := 1) sc_law.nd rfl (Or.inl rfl) (C8.pe_c c_l_pen hr (by decide) (by rfl) (pa_cons (pv 0) pa_nil)))
    (pss_cons (ps_for PassesOwn.never rfl (pi_range1 rfl B.range_ (pa_cons pe_int pa_nil)) (pg_name (i := 2) sc_law.nd rfl (Or.inl rfl))
      (pss_cons (ps_asg (C8.pe_c c_l_some_pattern hr (by decide) (by rfl) (pa_cons (pv 1) pa_nil)) (pg_tup rfl (pgs_cons (pg_name (i := 3) sc_law.nd rfl (Or.inl rfl)) (pgs_cons (pg_name (i := 4) sc_law.nd rfl (Or.inl rfl)) pgs_nil))))
    (pss_cons (ps_set (i := 5) sc_law.nd rfl (Or.inl rfl) (C8.pe_c c_cycle_rule hr (by decide) (by rfl) (pa_cons (C8.pe_c c_l_pick hr (by decide) (by rfl) (pa_cons (pv 1) (pa_cons (pe_lst (pa_cons (pe_callTy (call_list_of) (by rfl) B.list_ bt_list (pa_cons (pv 3) pa_nil)) (pa_cons (pe_callTy (call_tuple_of) (by rfl) B.tuple_ bt_tuple (pa_cons (pv 3) pa_nil)) pa_nil))) pa_nil))) pa_nil)))
    (C8.pss_cut (ps_if (PW.pt (pw_or (pt_cmpR op_ne (pe_cmpR op_notN (pv 5) pe_non (nomark _)) (C8.pe_c c_l_has_rule hr (by decide) (by rfl) (pa_cons (pv 3) pa_nil)) (nomark _)) (pw_or1 (PW.pt (pw_and (pt_cmpR op_notN (pv 4) pe_non (nomark _)) (pw_and1 (pt_cmpR (op_neD hr.units) (pv 5) (pv 4) (nomark _))))))))
      (pss_one (ps_ret pe_bl))
      pss_nil)
    (C8.pss_cut (ps_if (pt_cmpR op_notN (pv 5) pe_non (nomark _))
      (pss_cons (ps_if (PW.pt (pw_or (pt_not (pt_val (C8.pe_c c_l_is_rule hr (by decide) (by rfl) (pa_cons (pv 5) pa_nil)))) (pw_or1 (pt_cmpR op_ne (C8.pe_c c_l_tally hr (by decide) (by rfl) (pa_cons (pv 5) (pa_cons pe_int pa_nil))) pe_int (nomark _)))))
      (pss_one (ps_ret pe_bl))
      pss_nil)
    (pss_one (ps_for PassesOwn.never rfl (pi_list (pe_lst (pa_cons pe_int (pa_cons (pe_op op_mulW (pe_callB (call_len_seq) (by rfl) B.len_ bt_len (pa_cons (pv 3) pa_nil)) (C8.pe_c c_l_signed hr (by decide) (by rfl) (pa_cons (pv 1) (pa_cons pe_int pa_nil)))) pa_nil)))) (pg_name (i := 6) sc_law.nd rfl (Or.inl rfl))
      (pss_one (ps_if (pt_cmpR (op_neS hr.units) (C8.pe_c c_l_pattern hr (by decide) (by rfl) (pa_cons (pv 5) (pa_cons (pe_callB (call_len_seq) (by rfl) B.len_ bt_len (pa_cons (pv 3) pa_nil)) (pa_cons (pv 6) pa_nil)))) (pv 3) (nomark _))
      (pss_one (ps_ret pe_bl))
      pss_nil)))))
      pss_nil)
    (C8.pss_cut (ps_set (i := 7) sc_law.nd rfl (Or.inr rfl) (C8.pe_c c_l_pick hr (by decide) (by rfl) (pa_cons (pv 1) (pa_cons (pe_lst (pa_cons (pe_lst pa_nil) (pa_cons (pe_op op_cat (pv 3) (pe_lst (pa_cons (pe_un un_neg pe_int) pa_nil))) (pa_cons (pe_op op_cat (pe_lst (pa_cons pe_non pa_nil)) (pv 3)) (pa_cons (pe_op op_cat (pv 3) (pe_lst (pa_cons pe_bl pa_nil))) (pa_cons pe_non (pa_cons pe_str (pa_cons (pe_op op_rep (pe_lst (pa_cons pe_int pa_nil)) pe_int) (pa_cons (C8.pe_c c_l_anything hr (by decide) (by rfl) (pa_cons (pv 1) (pa_cons pe_int pa_nil))) pa_nil))))))))) pa_nil))))
    (C8.pss_cut (ps_n1 o1 (ps_set (i := 8) sc_law.nd rfl (Or.inl rfl) (pe_and (pe_callB (call_isiT) (by rfl) B.isinstance_ bt_isinstance (pa_cons (pv 7) (pa_cons (pe_tup (pa_cons (pe_bltn (v := .ty "list") (by rfl) B.list_ bt_list rfl) (pa_cons (pe_bltn (v := .ty "tuple") (by rfl) B.tuple_ bt_tuple rfl) pa_nil))) pa_nil))) (pe_one (pe_chain op_lt op_lt pe_int (pe_callB (call_len_seq) (by rfl) B.len_ bt_len (pa_cons (pv 7) pa_nil)) pe_int)))))
    (C8.pss_cut (ps_set (i := 8) sc_law.nd rfl (Or.inl rfl) (pe_and (pv 8) (pe_one (pe_cmpR (op_eqS hr.units) (pe_lc (own := [("_law_one", 9)]) (g := (gName 9)) (by rfl) sc_law.nd (pi_seq (pv 7)) (blkOk_by (own := [("_law_one", 9)]) (N := N_law) (sc := defScope s_law) (by decide +kernel)) (fun _ _ _ _ _ => (pg_name (i := 9) sc_law.nd rfl (Or.inl rfl))) (fun _ _ _ _ _ => (pts_one (PW.pt (pw_or (pt_not (pt_val (C8.pe_c c_l_is_int hr (by decide) (by rfl) (pa_cons (pv 9) pa_nil)))) (pw_or1 (pt_cmpR op_lt (pv 9) pe_int (nomark _))))))) (fun _ _ _ _ _ => (pv 9))) (pe_lst pa_nil) (nomark _)))))
    (pss_one (ps_if (pt_cmpR op_ne (pe_callB ((repr_any1 o1 gd hu0)) (by rfl) B.repr_ bt_repr (pa_cons (LamX.pe_lamcall (T := [(PT, qLam20)]) (k := 5) (by rfl) hmN kpN lkN hcN bN sc_l_refused rfl (Or.inl rfl) (gives_20 T U B) TB rfl hT1 hT2 (hr.mono (by decide)) (LamX.lamS_by (sc := defScope s_law) (by decide +kernel)) rfl (fun _ _ _ _ _ => rfl) (fun A outer s H E f c' hr2 => pe_cx cx_cycle_rule hr2 (by decide) (takes_of rfl rfl rfl rfl) (by rfl) (pa_cons (pe_var (i := 7) rfl (Or.inr (Or.inr rfl))) pa_nil))) pa_nil)) (pe_callB ((repr_any1 o1 gd hu0)) (by rfl) B.repr_ bt_repr (pa_cons (pe_ifExp (pt_truth (pv 8) (fun _ => rfl)) pe_non (pe_lst (pa_cons (pv 7) pa_nil))) pa_nil)) (nomark _))
      (pss_one (ps_ret pe_bl))
      pss_nil))))))))))
    (pss_one (ps_ret (pe_and (C8.pe_c c_l_long_right hr (by decide) (by rfl) (pa_cons (pv 1) pa_nil)) (pe_one (pe_cmpR (op_eqD hr.units) (C8.pe_c c_cycle_rule hr (by decide) (by rfl) (pa_cons (pe_op op_rep (pe_lst (pa_cons pe_int pa_nil)) pe_int) pa_nil)) (pe_tup (pa_cons pe_int (pa_cons pe_int (pa_cons pe_int pa_nil)))) (nomark _)))))))), ?_⟩
    refine ⟨_, rfl, sc, ns, rfl, hS, fun a H0 hP0 s0 => ?_⟩
    have t0 : LamX.Tabs [(PT, qLam20)] H0 := fun p hp => by
      rw [List.mem_singleton.mp hp]
      exact LamX.TabS.nil (s0 _ _ hPT)
    refine ⟨5, rfl, by decide, by decide, ?_⟩
    refine for_range (lo := 0) (n := 5) (fun i σ H1 => ∃ (y2 y3 y4 y5 y6 y7 y8 : Option V), σ = [some (.ref sc), some (.ref a), y2, y3, y4, y5, y6, y7, y8, none] ∧ Pen H1 a (1000 * i) ∧ LamX.Tabs [(PT, qLam20)] H1) ⟨_, _, _, _, _, _, _, rfl, hP0, t0⟩ ?_ ?_
    · rintro i σ H1 hi ⟨y2, y3, y4, y5, y6, y7, y8, rfl, hP1, t1⟩
      refine ⟨_, rfl, a, _, rfl, hP1, by omega, fun T0 Rw ms v H2 eT rw l1 l14 nn due hP2 f2 => ?_⟩
      refine ⟨T0, _, rfl, SqT.of eT, rfl, _, _, rfl, _, _, rfl, rfl, ?_⟩
      have st : St20 Rw ms a (1000 * i + 200) [(PT, qLam20)] H2 := ⟨rw.mono (by decide), hP2, tabs_fr t1 f2⟩
      have lm : (ms.map V.int).length = ms.length := List.length_map ..
      have bz : ∀ z ∈ ms, 0 ≤ z ∧ Bd 100 z := fun z hz => ⟨nn z hz, rw.b z hz⟩
      have sN := sum_nn nn
      clear hP1 t1 f2 hP2 eT
      -- found
      refine ⟨_, rfl, _, rfl, Rw, _, rfl, .inl (SqL.of rw.e), fun q1 n1 => ?_⟩
      have z1 := sm_upd (o := .lst (ms.map V.int)) n1
      refine ⟨_, rfl, Rw, _, rfl, .inl ⟨SqL.of (z1 _ _ rw.e), fun q2 n2 => ?_⟩⟩
      have z2 := sm_upd (o := .tup (ms.map V.int)) n2
      refine ⟨len10 (by simp), fun q3 n3 => ?_⟩
      have z3 := sm_upd (o := .lst [.ref q1, .ref q2]) n3
      have zz := z1.trans (z2.trans z3)
      refine ⟨a, q3, _, _, rfl, st.pn.same zz, by omega, upd_same, by simp, by simp, fun X H3 hX hP3 f3 => ?_⟩
      obtain ⟨h, kb, rfl, eh⟩ : ∃ h kb, X = .ref h ∧ H3 h = some (sqO kb (ms.map V.int)) := by
        simp only [List.mem_cons, List.not_mem_nil, or_false] at hX
        rcases hX with rfl | rfl
        · exact ⟨q1, true, rfl, f3.l _ _ (z3 _ _ (z2 _ _ upd_same))⟩
        · exact ⟨q2, false, rfl, f3.t _ _ (z3 _ _ upd_same)⟩
      have st := (st.fr ((Fr.same zz).trans f3) hP3).mono (m := 1000 * i + 202) (by omega)
      have due := (due.fr (Fr.same zz)).fr f3
      clear zz z1 z2 z3 n1 n2 n3 hP3 f3 hX rw
      refine ⟨h, kb, ms, 100, rfl, eh, l1, by omega, bz, by decide, fun v5 H4 s4 cv => ?_⟩
      have st := st.same s4
      have due := due.fr (Fr.same s4)
      clear s4 eh
      refine ⟨fun σ' H' => σ' = [some (.ref sc), some (.ref a), some (.int ((0 : Int) + i)), some (.ref Rw), some v, some v5, y6, y7, y8, none] ∧ St20 Rw ms a (1000 * i + 202) [(PT, qLam20)] H' ∧ CycV ms 109 v5 H', ?_, ?_⟩
      · rcases cv with ⟨rfl, no⟩ | ⟨r1, p, q, c, rfl, er, cm, R1, ql⟩
        · refine ⟨_, rfl, rfl, _, rfl, Rw, ms, rfl, st.rw.e, l1, by omega, fun b H5 s5 hb => ?_⟩
          obtain rfl : b = false := by
            cases b
            · rfl
            · exact absurd ((win_iff l1 sN).mp (hb.mp rfl)) no
          refine ⟨rfl, _, rfl, iteNS rfl ?_⟩
          rcases due with rfl | ⟨r2, p2, q2, c2, rfl, e2, m2⟩
          · exact ⟨_, rfl, rfl, _, rfl, iteFs rfl (iteF ⟨rfl, st.same s5, .inl ⟨rfl, no⟩⟩)⟩
          · exact absurd ⟨_, _, _, m2.r⟩ no
        · refine ⟨_, rfl, rfl, _, rfl, Rw, ms, rfl, st.rw.e, l1, by omega, fun b H5 s5 hb => ?_⟩
          obtain rfl : b = true := hb.mpr ((win_iff l1 sN).mpr ⟨_, _, _, cm.r⟩)
          refine ⟨rfl, _, rfl, iteNS rfl ?_⟩
          have er5 := s5 _ _ er
          rcases due with rfl | ⟨r2, p2, q2, c2, rfl, e2, m2⟩
          · exact ⟨_, rfl, rfl, _, rfl, iteFs rfl (iteF ⟨rfl, st.same s5, .inr ⟨r1, p, q, c, rfl, er5, cm, R1, ql⟩⟩)⟩
          · obtain ⟨h1, h2, h3⟩ := cm.uniq m2 l1
            exact ⟨_, rfl, rfl, _, rfl, iteTs rfl ⟨_, rfl, _, rfl, ne3 er5 (s5 _ _ e2) h1 h2 h3 ⟨_, rfl, iteF ⟨rfl, st.same s5, .inr ⟨r1, p, q, c, rfl, er5, cm, R1, ql⟩⟩⟩⟩⟩
      clear st due cv
      rintro σ' H5 ⟨rfl, st, cv⟩
      -- the rule that was found
      refine ⟨fun σ' H' => ∃ y6' : Option V, σ' = [some (.ref sc), some (.ref a), some (.int ((0 : Int) + i)), some (.ref Rw), some v, some v5, y6', y7, y8, none] ∧ St20 Rw ms a (1000 * i + 230) [(PT, qLam20)] H', ?_, ?_⟩
      · rcases cv with ⟨rfl, no⟩ | ⟨r1, p, q, c, rfl, er, cm, R1, ql⟩
        · exact ⟨_, rfl, rfl, _, rfl, iteFs rfl ⟨_, rfl, st.mono (by omega)⟩⟩
        · refine ⟨_, rfl, rfl, _, rfl, iteTs rfl ?_⟩
          refine ⟨_, rfl, r1, p, q, c, 109, rfl, er, R1, fun H6 s6 => ⟨true, rfl, iteF ?_⟩⟩
          have er6 := s6 _ _ er
          have st := st.same s6
          have ct := cm.r.at_ 0 (Nat.zero_le _)
          rw [pS_zero] at ct
          have ct : (p * 0 + c) / q = 0 := ct
          refine ⟨_, rfl, r1, p, q, c, 0, 109, rfl, er6, R1, Bd.small 20 (by decide) (by decide), by decide, by decide, ?_⟩
          rw [ct]
          refine ⟨rfl, _, rfl, iteNS rfl ?_⟩
          refine ⟨_, rfl, Rw, _, rfl, .inl (SqL.of st.rw.e), _, rfl, a, _, 20, rfl, st.pn, by omega, by decide, by decide, fun g H7 bg hP7 f7 => ?_⟩
          have t20 : ((20 : Int) / 6).toNat = 3 := by decide
          rw [t20] at bg hP7
          rw [lm]
          have bl : Bd 20 (ms.length : Int) := Bd.small 20 (by omega) (by decide)
          refine ⟨_, _, rfl, rfl, mulW bl bg (by decide) (by decide) (by decide), len10 (by simp), fun O nO => ⟨O, rfl, ⟨_, SqL.of upd_same⟩, ?_⟩⟩
          have zO := sm_upd (o := .lst [.int 0, .int ((ms.length : Int) * g)]) nO
          have st7 := ((st.fr f7 hP7).same zO).mono (m := 1000 * i + 230) (by omega)
          have er7 := zO _ _ (f7.t _ _ er6)
          have eO := upd_same (H := H7) (a := O) (o := .lst ([(ms.length : Int) * 0, (ms.length : Int) * g].map V.int))
          have e0 : (HO.lst [.int 0, .int ((ms.length : Int) * g)]) = HO.lst ([(ms.length : Int) * 0, (ms.length : Int) * g].map V.int) := by
            rw [Int.mul_zero]
            rfl
          rw [← e0] at eO
          rw [e0] at eO
          refine for_list (K := K) (a := O) (xs := [(ms.length : Int) * 0, (ms.length : Int) * g].map V.int) (fun j σ H' => ∃ y6' : Option V, σ = [some (.ref sc), some (.ref a), some (.int ((0 : Int) + i)), some (.ref Rw), some v, some (.ref r1), y6', y7, y8, none] ∧ St20 Rw ms a (1000 * i + 230) [(PT, qLam20)] H' ∧ H' r1 = some (tup3 p q c) ∧ H' O = some (.lst ([(ms.length : Int) * 0, (ms.length : Int) * g].map V.int))) ⟨_, rfl, st7, er7, by rw [← e0]; exact upd_same⟩ ?_ ?_ ?_
          · rintro j σ H' _ ⟨_, _, _, _, e⟩
            exact SqL.of e
          · rintro j x σ H8 hx ⟨y6', rfl, st8, er8, eO8⟩
            rw [List.getElem?_map, Option.map_eq_some_iff] at hx
            obtain ⟨x, hx, rfl⟩ := hx
            obtain ⟨w, rfl, bw⟩ : ∃ w, x = (ms.length : Int) * w ∧ Bd 120 ((ms.length : Int) * w) := by
              have := List.mem_of_getElem? hx
              simp only [List.mem_cons, List.not_mem_nil, or_false] at this
              rcases this with rfl | rfl
              · exact ⟨0, rfl, by rw [Int.mul_zero]; exact Bd.small 20 (by decide) (by decide)⟩
              · exact ⟨g, rfl, (Bd.mul bl bg).mono (by decide)⟩
            refine ⟨_, rfl, _, rfl, Rw, _, rfl, .inl (SqL.of st8.rw.e), _, rfl, ?_⟩
            rw [lm]
            refine ⟨r1, p, q, c, (ms.length : Int), (ms.length : Int) * w, 120, rfl, er8, R1.mono (by decide), by omega, by omega, bw, by decide, by decide, fun Lp H9 nL s9 rw9 => ?_⟩
            rw [Int.toNat_natCast, cm.r.pat w] at rw9
            have st9 := st8.same s9
            exact ⟨_, rfl, Lp, Rw, _, _, rfl, rfl, SqL.of rw9.e, SqL.of st9.rw.e, .inr ⟨rfl, smI_ints ms, _, rfl, iteF ⟨_, rfl, st9, s9 _ _ er8, s9 _ _ eO8⟩⟩⟩
          · rintro σ H8 ⟨y6', rfl, st8, _, _⟩
            exact ⟨_, rfl, st8⟩
      clear st cv
      rintro σ' H6 ⟨y6', rfl, st⟩
      -- odd
      refine ⟨fun σ' H' => ∃ (y7 : V), σ' = [some (.ref sc), some (.ref a), some (.int ((0 : Int) + i)), some (.ref Rw), some v, some v5, y6', some y7, y8, none] ∧ AnyV 5 6438435 H' y7 ∧ St20 Rw ms a (1000 * i + 500) [(PT, qLam20)] H', ?_, ?_⟩
      · have aR : ∀ {Hx : Hp}, AnyL 0 2000 Hx (ms.map V.int) := fun {Hx} => any_ints fun z hz => (bz z hz).2.mono (by decide)
        refine ⟨_, rfl, len10 (by simp), fun p0 n0 => ?_⟩
        have z0 := sm_upd (o := .lst []) n0
        refine ⟨_, rfl, 1, rfl, len10 (by simp), fun p1 n1 => ?_⟩
        have z1 := sm_upd (o := .lst [.int (-1)]) n1
        refine ⟨Rw, p1, _, _, rfl, rfl, z1 _ _ (z0 _ _ st.rw.e), upd_same, len10 (by rw [lm]; show ms.length + 1 ≤ 1000; omega), fun p2 n2 => ?_⟩
        have z2 := sm_upd (o := .lst (ms.map V.int ++ [.int (-1)])) n2
        refine ⟨len10 (by simp), fun p3 n3 => ?_⟩
        have z3 := sm_upd (o := .lst [.non]) n3
        have s3 := z0.trans (z1.trans (z2.trans z3))
        refine ⟨_, rfl, p3, Rw, _, _, rfl, rfl, upd_same, s3 _ _ st.rw.e, len10 (by rw [lm]; show 1 + ms.length ≤ 1000; omega), fun p4 n4 => ?_⟩
        have z4 := sm_upd (o := .lst ([.non] ++ ms.map V.int)) n4
        refine ⟨_, rfl, len10 (by simp), fun p5 n5 => ?_⟩
        have z5 := sm_upd (o := .lst [.bl true]) n5
        have s5 := s3.trans (z4.trans z5)
        refine ⟨Rw, p5, _, _, rfl, rfl, s5 _ _ st.rw.e, upd_same, len10 (by rw [lm]; show ms.length + 1 ≤ 1000; omega), fun p6 n6 => ?_⟩
        have z6 := sm_upd (o := .lst (ms.map V.int ++ [.bl true])) n6
        refine ⟨len10 (by simp), fun p7 n7 => ?_⟩
        have z7 := sm_upd (o := .lst [.int 0]) n7
        refine ⟨p7, _, _, rfl, rfl, upd_same, by decide, by decide, show 1 * 201 ≤ sizeLine by decide, fun p8 n8 => ?_⟩
        have z8 := sm_upd (o := .lst (List.replicate (201 : Int).toNat [V.int 0]).flatten) n8
        have s8 := s5.trans (z6.trans (z7.trans z8))
        have st8 := st.same s8
        refine ⟨_, rfl, a, 1000 * i + 230, rfl, st8.pn, by show 1000 * i + 230 + 10000 * 1 < 2 ^ 37; omega, by decide, fun x H8 ax hP8 f8 => ?_⟩
        have hP8 : Pen H8 a (1000 * i + 230 + pB 1) := hP8
        have ax := ax.kp nw_kp
        have st9 := (st8.fr f8 hP8).mono (m := 1000 * i + 480) (pby i)
        refine ⟨len10 (by simp), fun p9 n9 => ?_⟩
        have z9 := sm_upd (o := .lst [.ref p0, .ref p2, .ref p4, .ref p6, .non, .str "1", .ref p8, x]) n9
        refine ⟨a, p9, _, _, rfl, st9.pn.same z9, by omega, upd_same, by simp, by simp, fun x2 H9 hx2 hP9 f9 => ?_⟩
        refine ⟨x2, rfl, ?_, (st9.fr ((Fr.same z9).trans f9) hP9).mono (by omega)⟩
        have kp := ((Fr.same z9).trans f9).kp
        have f89 := f8.trans ((Fr.same z9).trans f9)
        simp only [List.mem_cons, List.not_mem_nil, or_false] at hx2
        rcases hx2 with rfl | rfl | rfl | rfl | rfl | rfl | rfl | rfl
        · exact (any_lst (n := 0) (m := 0) (k := 0) (f89.l _ _ ((z1.trans (z2.trans (z3.trans (z4.trans (z5.trans (z6.trans (z7.trans z8))))))) _ _ upd_same)) .nil (by simp)).mono (by decide) (by decide)
        · exact (any_lst (n := 0) (m := 2000) (k := 100) (f89.l _ _ ((z3.trans (z4.trans (z5.trans (z6.trans (z7.trans z8))))) _ _ upd_same)) (AnyL.app aR (.cons (any_int (Bd.small 20 (by decide) (by decide))) .nil)) (by rw [List.length_append, lm]; show ms.length + 1 ≤ 100; omega)).mono (by decide) (by decide)
        · exact (any_lst (n := 0) (m := 2000) (k := 100) (f89.l _ _ ((z5.trans (z6.trans (z7.trans z8))) _ _ upd_same)) (AnyL.app (.cons ((any_by (n := 0) (m := 60) .non (by decide +kernel)).mono (by decide) (by decide)) .nil) aR) (by rw [List.length_append, lm]; show 1 + ms.length ≤ 100; omega)).mono (by decide) (by decide)
        · exact (any_lst (n := 0) (m := 2000) (k := 100) (f89.l _ _ ((z7.trans z8) _ _ upd_same)) (AnyL.app aR (.cons ((any_by (n := 0) (m := 60) (.bl true) (by decide +kernel)).mono (by decide) (by decide)) .nil)) (by rw [List.length_append, lm]; show ms.length + 1 ≤ 100; omega)).mono (by decide) (by decide)
        · exact (any_by (n := 1) (m := 60) .non (by decide +kernel)).mono (by decide) (by decide)
        · exact (any_by (n := 1) (m := 60) (.str _) (by decide +kernel)).mono (by decide) (by decide)
        · refine (any_lst (n := 0) (m := 2000) (k := 201) (f89.l _ _ upd_same) (fun y hy => ?_) ?_).mono (by decide) (by decide)
          · have := flat_mem hy
            rw [List.mem_singleton.mp this]
            exact any_int (Bd.small 20 (by decide) (by decide))
          · rw [flat_len]
            exact Nat.le_refl _
        · exact (ax.kp kp).mono (by decide) (by decide)
      clear st
      rintro σ' H8 ⟨y7, rfl, ⟨d, dvf, sh⟩, st⟩
      -- is_valid, first
      refine ⟨fun σ' H' => ∃ (b : Bool), σ' = [some (.ref sc), some (.ref a), some (.int ((0 : Int) + i)), some (.ref Rw), some v, some v5, y6', some y7, some (.bl b), none] ∧ (b = true ↔ ∃ kb es, d = sqD kb es ∧ 1 ≤ es.length ∧ es.length ≤ 200) ∧ Dv H' y7 d ∧ DvF H' y7 d ∧ St20 Rw ms a (1000 * i + 500) [(PT, qLam20)] H', ?_, ?_⟩
      · refine fun h1 => ?_
        have dv := DvF.dv h1 _ _ dvf
        refine ⟨_, rfl, len10 (by simp), fun tp ntp => ?_⟩
        have zt := sm_upd (o := .tup [.ty "list", .ty "tuple"]) ntp
        have dv := Dv.kp (Fr.same zt).kp _ _ dv
        have dvf := DvF.kp (Fr.same zt).kp _ _ dvf
        have st := st.same zt
        refine ⟨_, tp, _, _, [.type "list", .type "tuple"], isLT d, rfl, upd_same, .cons (.ty "list") (.cons (.ty "tuple") .nil), dv.ty, kit_ltD d, isLT d, rfl, ?_⟩
        cases hl : isLT d with
        | false =>
          refine iteFs rfl ⟨false, rfl, ⟨fun z => (nomatch z), ?_⟩, dv, dvf, st⟩
          rintro ⟨kb, es, rfl, _⟩
          cases kb <;> cases hl
        | true =>
          obtain ⟨A, kc, xs, es, rfl, rfl, eA, dva⟩ := dv_sq dv hl
          have le := dva_len9 dva
          refine iteTs rfl ⟨_, rfl, A, xs, rfl, (SqB.of eA).or, _, _, rfl, rfl, _, rfl, ?_⟩
          have key : ∀ b : Bool, (b = true ↔ 1 ≤ es.length ∧ es.length ≤ 200) → (b = true ↔ ∃ kb es', sqD kc es = sqD kb es' ∧ 1 ≤ es'.length ∧ es'.length ≤ 200) := fun b hb => by
            rw [hb]
            constructor
            · exact fun z => ⟨kc, es, rfl, z⟩
            · rintro ⟨kb, es', e, z⟩
              rw [sqD_inj e]
              exact z
          refine ite2 (fun c1 => ?_) (fun c1 => ?_)
          · have c1 := of_decide_eq_true c1
            refine ⟨_, _, rfl, rfl, _, rfl, key _ ?_, dv, dvf, st⟩
            rw [decide_eq_true_iff]
            omega
          · refine ⟨false, rfl, key _ ⟨fun z => (nomatch z), fun z => ?_⟩, dv, dvf, st⟩
            exact absurd (decide_eq_true (show (0 : Int) < (xs.length : Nat) by omega)) c1
      clear dvf st
      rintro σ' H9 ⟨b0, rfl, hb0, dv, dvf, st⟩
      -- is_valid, last
      refine ⟨fun σ' H' => ∃ (b : Bool), σ' = [some (.ref sc), some (.ref a), some (.int ((0 : Int) + i)), some (.ref Rw), some v, some v5, y6', some y7, some (.bl b), none] ∧ (b = true ↔ patP d) ∧ Dv H' y7 d ∧ DvF H' y7 d ∧ St20 Rw ms a (1000 * i + 500) [(PT, qLam20)] H', ?_, ?_⟩
      · refine ⟨_, rfl, b0, rfl, ?_⟩
        cases b0 with
        | false =>
          refine iteFs rfl ⟨false, rfl, ⟨fun z => (nomatch z), ?_⟩, dv, dvf, st⟩
          rintro ⟨kb, js, rfl, q1, q2, _⟩
          exact absurd (hb0.mpr ⟨kb, _, rfl, by rw [List.length_map]; exact q1, by rw [List.length_map]; exact q2⟩) (by simp)
        | true =>
          obtain ⟨kc, es, rfl, q1, q2⟩ := hb0.mp rfl
          have hl : isLT (sqD kc es) = true := by cases kc <;> rfl
          obtain ⟨A, kd, xs, es', rfl, e, eA, dva⟩ := dv_sq dv hl
          obtain rfl := sqD_inj e
          have le := dva_len9 dva
          refine iteTs rfl ⟨_, rfl, A, kd, xs, rfl, SqB.of eA, fun Y nY => ?_⟩
          refine lc_it (walk_seq (K := K) (b := kd) (a := A) (xs := xs)) (fun j H' => ∃ zs, H' Y = some (.lst zs) ∧ zs.length ≤ j ∧ (zs = [] ↔ (es.take j).all okI = true) ∧ Same H9 H') ⟨[], upd_same, Nat.le_refl _, by simp, sm_upd nY⟩ ?_ ?_ ?_
          · rintro j H' _ ⟨_, _, _, _, s'⟩
            exact SqB.of (sq_kp (Fr.same s').kp eA)
          · rintro j x _ H' hj ⟨zs, eY, lz, hz, s'⟩ ⟨rfl, hx⟩
            obtain ⟨dd, hd, dx⟩ := dva_at dva hx
            have ta := all_takeK hd
            have put : okI dd = false → ∃ acc : List V, H' Y = some (.lst acc) ∧ acc.length < sizeLine ∧ ∃ zs, (upd H' Y (.lst (acc ++ [x]))) Y = some (.lst zs) ∧ zs.length ≤ j + 1 ∧ (zs = [] ↔ (es.take (j + 1)).all okI = true) ∧ Same H9 (upd H' Y (.lst (acc ++ [x]))) := fun ho => by
              refine ⟨zs, eY, small1000 (by omega), zs ++ [x], upd_same, by rw [List.length_append]; show zs.length + 1 ≤ j + 1; omega, ?_, fun b o eb => ?_⟩
              · rw [ta, ho, Bool.and_false]
                simp
              · rw [upd_ne (ne_of_none eb nY)]
                exact s' _ _ eb
            have leave : okI dd = true → ∃ zs, H' Y = some (.lst zs) ∧ zs.length ≤ j + 1 ∧ (zs = [] ↔ (es.take (j + 1)).all okI = true) ∧ Same H9 H' := fun ho => by
              refine ⟨zs, eY, by omega, ?_, s'⟩
              rw [ta, ho, Bool.and_true]
              exact hz
            refine ⟨rfl, _, rfl, x, dd, rfl, Dv.kp (Fr.same s').kp _ _ dx, _, rfl, ?_⟩
            cases dx with
            | int z =>
              refine iteFs rfl ⟨_, rfl, _, _, rfl, rfl, _, rfl, ite2 (fun c1 => ?_) (fun c1 => ?_)⟩
              · have c1 : z < 0 := of_decide_eq_true c1
                exact ⟨_, rfl, put (decide_eq_false (by omega))⟩
              · have c1 : ¬ z < 0 := fun y => c1 (decide_eq_true y)
                exact leave (decide_eq_true (by omega))
            | _ => exact iteTs rfl ⟨_, rfl, put rfl⟩
          · rintro H' ⟨zs, eY, lz, hz, s'⟩
            rw [le, List.take_of_length_le (Nat.le_refl _)] at hz
            have al := all_okI (es := es)
            rw [al] at hz
            refine ⟨len10 (by simp), fun p0 np => ?_⟩
            have zp := sm_upd (o := .lst []) np
            have s9 := s'.trans zp
            refine ⟨Y, p0, zs, [], rfl, rfl, SqL.of (zp _ _ eY), SqL.of upd_same, ?_⟩
            have fin : ∀ b : Bool, (b = true ↔ zs = []) → (b = true ↔ patP (sqD kc es)) := fun b hb => by
              rw [hb, hz]
              constructor
              · rintro ⟨js, rfl, q3⟩
                rw [List.length_map] at q1 q2
                exact ⟨kc, js, rfl, q1, q2, q3⟩
              · rintro ⟨kb, js, e, _, _, q3⟩
                exact ⟨js, sqD_inj e, q3⟩
            by_cases hzs : zs = []
            · exact .inr ⟨hzs, smI_nil hzs, true, rfl, fin true ⟨fun _ => hzs, fun _ => rfl⟩, Dv.kp (Fr.same s9).kp _ _ dv, DvF.kp (Fr.same s9).kp _ _ dvf, st.same s9⟩
            · refine .inl ⟨fun z => hzs (List.eq_nil_of_length_eq_zero z), false, rfl, fin false ⟨fun z => (nomatch z), fun z => absurd z hzs⟩, Dv.kp (Fr.same s9).kp _ _ dv, DvF.kp (Fr.same s9).kp _ _ dvf, st.same s9⟩
      clear st dv dvf hb0
      rintro σ' H9 ⟨b0, rfl, hb0, dv, dvf, st⟩
      -- refused
      refine ⟨st.tb, fun H10 x10 t10 => ?_⟩
      have k10 := ext_kp x10
      have dv := Dv.kp k10 _ _ dv
      have dvf := DvF.kp k10 _ _ dvf
      have st : St20 Rw ms a (1000 * i + 500) [(PT, qLam20)] H10 := ⟨⟨k10.l _ _ st.rw.e, st.rw.b⟩, st.pn.extN x10, t10⟩
      cases b0 with
      | true =>
        obtain ⟨kc, js, rfl, q1, q2, q3⟩ := hb0.mp rfl
        obtain ⟨A, rfl, eA⟩ := dv_ints dv
        refine ⟨_, rfl, .inl ⟨A, kc, js, 1921, rfl, eA, q1, q2, fun z hz => ⟨q3 z hz, sh_bd sh.1 z hz⟩, by decide, fun v H11 s11 _ => nonE ?_⟩⟩
        refine ⟨.non, .none, rfl, .non, by decide +kernel, by decide +kernel, by decide +kernel, ?_⟩
        refine ⟨_, rfl, true, rfl, iteTs rfl ⟨.non, .none, rfl, .non, by decide +kernel, by decide +kernel, by decide +kernel, ?_⟩⟩
        exact ⟨rfl, _, rfl, iteFs (by simp) ⟨_, _, _, _, _, _, _, rfl, (st.pn.same s11).mono (by omega), tabs_same t10 s11⟩⟩
      | false =>
        have nb : ¬ patP d := fun z => by
          have := hb0.mpr z
          cases this
        refine ⟨_, rfl, .inr ⟨y7, d, rfl, dv, nb, fun H11 s11 dd ndd => ⟨rfl, dd, y7, rfl, upd_same, fun L H12 s12 eL => ?_⟩⟩⟩
        have zd := sm_upd (o := .xd [("value", y7)]) ndd
        have s1 := s11.trans (zd.trans s12)
        have dvf := DvF.kp (Fr.same s1).kp _ _ dvf
        have st := st.same s1
        have shl := shn_lst (k := 1) (ds := [d]) (fun e he => by rw [List.mem_singleton.mp he]; exact sh) (Nat.le_refl _)
        have sd : (5 + 1 : Nat) ≤ 60 := by decide
        have sl : (6438435 * 1 + 2 * 1 + 3 : Nat) ≤ sizeLine := by decide
        refine ⟨.ref L, .list [d], rfl, .lst eL (.cons dvf .nil), shl.1, Nat.le_trans shl.2.1 sd, Nat.le_trans shl.2.2 sl, ?_⟩
        refine ⟨_, rfl, false, rfl, iteFs rfl ⟨_, rfl, len10 (by simp), fun p0 np => ?_⟩⟩
        have zp := sm_upd (o := .lst [y7]) np
        refine ⟨.ref p0, .list [d], rfl, .lst upd_same (.cons (DvF.kp (Fr.same zp).kp _ _ dvf) .nil), shl.1, Nat.le_trans shl.2.1 sd, Nat.le_trans shl.2.2 sl, ?_⟩
        exact ⟨rfl, _, rfl, iteFs (by simp) ⟨_, _, _, _, _, _, _, rfl, (st.pn.same zp).mono (by omega), tabs_same st.tb zp⟩⟩
    · rintro σ H1 ⟨y2, y3, y4, y5, y6, y7, y8, rfl, hP1, t1⟩
      refine ⟨_, rfl, a, _, rfl, hP1, by omega, fun H2 => ⟨_, rfl, iteT ?_⟩⟩
      refine ⟨len10 (by simp), fun p1 n1 => ⟨p1, _, _, rfl, rfl, upd_same, by decide, by decide, show 1 * 200 ≤ sizeLine by decide, fun p2 n2 => ?_⟩⟩
      have e2 : upd (upd H2 p1 (.lst [.int 0])) p2 (.lst (List.replicate (200 : Int).toNat [V.int 0]).flatten) p2 = some (sqO true ((List.replicate 200 (0 : Int)).map V.int)) := by
        rw [upd_same]
        rfl
      refine ⟨p2, true, List.replicate 200 0, 20, rfl, e2, by simp, by simp, fun z hz => ?_, by decide, fun v5 H4 s4 cv => ?_⟩
      · rw [List.eq_of_mem_replicate hz]
        exact ⟨Int.le_refl _, Bd.small 20 (by decide) (by decide)⟩
      rcases cv with ⟨rfl, no⟩ | ⟨r1, p, q, c, rfl, er, cm, R1, ql⟩
      · exact absurd ⟨_, _, _, cyc_zero.r⟩ no
      obtain ⟨rfl, rfl, rfl⟩ := cm.uniq cyc_zero (by simp)
      refine ⟨len10 (by simp), fun t nt => ?_⟩
      have zt := sm_upd (o := .tup [.int 0, .int 1, .int 0]) nt
      refine ⟨.tuple [.int 0, .int 1, .int 0], .tuple [.int 0, .int 1, .int 0], Dp.tup (SqT.of (zt _ _ er)) (.cons (.int _) (.cons (.int _) (.cons (.int _) .nil))), Dp.tup (SqT.of upd_same) (.cons (.int _) (.cons (.int _) (.cons (.int _) .nil))), rfl, rfl, ?_⟩
      rw [SeqAt.eqv_refl _ rfl]
      exact kk _
end
/-! ### what the top has written -/
abbrev sI_InvalidCounts : Stmt := (C8.clsBody (topS 4)).getD 0 (.Pass ⟨0, 0, 0, 0⟩)
theorem iniT_InvalidCounts : IniT "value" (defArgs sI_InvalidCounts) (defBody sI_InvalidCounts) (defScope sI_InvalidCounts) := ⟨⟨_, rfl, rfl⟩, ⟨_, _, _, _, _, _, _, _, _, _, _, _, rfl, _, fun env => rfl⟩, rfl, rfl, rfl, rfl, by decide +kernel, by decide +kernel, rfl, rfl, rfl, by decide +kernel, by decide +kernel, by decide +kernel⟩
theorem all_mk {l : PySem.W.OpenLaw} {w : World} {K : PySem.W.Frag} {h : Heap} {mg : Str → Option Value} {fa : Addr} (X : K.In h) (G : h.Ns mainGlobals mg) (hfa : mg "law" = some (.ref fa))
    {f0 f1 f2 f3 f4 f5 f6 f7 f8 f9 f10 f11 f12 f13 f14 f15 f16 f17 f18 f19 f20 f21 f22 f23 f24 : Addr} {od0 an0 od1 an1 od2 an2 od3 an3 od4 an4 od5 an5 od6 an6 od7 an7 od8 an8 od9 an9 od10 an10 od11 an11 od12 an12 od13 an13 od14 an14 od15 an15 od16 an16 od17 an17 od18 an18 od19 an19 od20 an20 od21 an21 od22 an22 od23 an23 od24 an24 : Option Addr} {sl0 sl1 sl2 sl3 sl4 sl5 sl6 sl7 sl8 sl9 sl10 sl11 sl12 sl13 sl14 sl15 sl16 sl17 sl18 sl19 sl20 sl21 sl22 sl23 sl24 : Array (Option Value)} {oc0 kV0 dc0 pm0 cd0 ct0 oc1 kV1 dc1 pm1 cd1 ct1 oc2 kV2 dc2 pm2 cd2 ct2 oc3 kV3 dc3 pm3 cd3 ct3 oc4 kV4 dc4 pm4 cd4 ct4 oc5 kV5 dc5 pm5 cd5 ct5 oc6 kV6 dc6 pm6 cd6 ct6 oc7 kV7 dc7 pm7 cd7 ct7 oc8 kV8 dc8 pm8 cd8 ct8 oc9 kV9 dc9 pm9 cd9 ct9 oc10 kV10 dc10 pm10 cd10 ct10 oc11 kV11 dc11 pm11 cd11 ct11 oc12 kV12 dc12 pm12 cd12 ct12 oc13 kV13 dc13 pm13 cd13 ct13 oc14 kV14 dc14 pm14 cd14 ct14 oc15 kV15 dc15 pm15 cd15 ct15 oc16 kV16 dc16 pm16 cd16 ct16 oc17 kV17 dc17 pm17 cd17 ct17 oc18 kV18 dc18 pm18 cd18 ct18 oc19 kV19 dc19 pm19 cd19 ct19 oc20 kV20 dc20 pm20 cd20 ct20 oc21 kV21 dc21 pm21 cd21 ct21 oc22 kV22 dc22 pm22 cd22 ct22 oc23 kV23 dc23 pm23 cd23 ct23 oc24 kV24 dc24 pm24 cd24 ct24 : Value}
    (a0 : PySem.W.nsIn K mainGlobals "_law_pen" = some (some (.ref f0))) (l0 : K.lookup f0 = some ⟨oc0, od0, .func (PySem.W.fnOf "_law_pen" "_law_pen" (defArgs s_l_pen) (defBody s_l_pen) (defScope s_l_pen) .none kV0 dc0 pm0 an0 cd0 ct0), sl0⟩) (c0 : PySem.W.codeIn K cd0 "_law_pen" = true) (k0 : PySem.W.keepIn K (.ref f0) = true)
    (a1 : PySem.W.nsIn K mainGlobals "_law_draw" = some (some (.ref f1))) (l1 : K.lookup f1 = some ⟨oc1, od1, .func (PySem.W.fnOf "_law_draw" "_law_draw" (defArgs s_l_draw) (defBody s_l_draw) (defScope s_l_draw) .none kV1 dc1 pm1 an1 cd1 ct1), sl1⟩) (c1 : PySem.W.codeIn K cd1 "_law_draw" = true) (k1 : PySem.W.keepIn K (.ref f1) = true)
    (a2 : PySem.W.nsIn K mainGlobals "_law_pick" = some (some (.ref f2))) (l2 : K.lookup f2 = some ⟨oc2, od2, .func (PySem.W.fnOf "_law_pick" "_law_pick" (defArgs s_l_pick) (defBody s_l_pick) (defScope s_l_pick) .none kV2 dc2 pm2 an2 cd2 ct2), sl2⟩) (c2 : PySem.W.codeIn K cd2 "_law_pick" = true) (k2 : PySem.W.keepIn K (.ref f2) = true)
    (a3 : PySem.W.nsIn K mainGlobals "_law_great" = some (some (.ref f3))) (l3 : K.lookup f3 = some ⟨oc3, od3, .func (PySem.W.fnOf "_law_great" "_law_great" (defArgs s_l_great) (defBody s_l_great) (defScope s_l_great) .none kV3 dc3 pm3 an3 cd3 ct3), sl3⟩) (c3 : PySem.W.codeIn K cd3 "_law_great" = true) (k3 : PySem.W.keepIn K (.ref f3) = true)
    (a4 : PySem.W.nsIn K mainGlobals "_law_signed" = some (some (.ref f4))) (l4 : K.lookup f4 = some ⟨oc4, od4, .func (PySem.W.fnOf "_law_signed" "_law_signed" (defArgs s_l_signed) (defBody s_l_signed) (defScope s_l_signed) .none kV4 dc4 pm4 an4 cd4 ct4), sl4⟩) (c4 : PySem.W.codeIn K cd4 "_law_signed" = true) (k4 : PySem.W.keepIn K (.ref f4) = true)
    (a5 : PySem.W.nsIn K mainGlobals "_law_gcd" = some (some (.ref f5))) (l5 : K.lookup f5 = some ⟨oc5, od5, .func (PySem.W.fnOf "_law_gcd" "_law_gcd" (defArgs s_l_gcd) (defBody s_l_gcd) (defScope s_l_gcd) .none kV5 dc5 pm5 an5 cd5 ct5), sl5⟩) (c5 : PySem.W.codeIn K cd5 "_law_gcd" = true) (k5 : PySem.W.keepIn K (.ref f5) = true)
    (a6 : PySem.W.nsIn K mainGlobals "_law_lowest" = some (some (.ref f6))) (l6 : K.lookup f6 = some ⟨oc6, od6, .func (PySem.W.fnOf "_law_lowest" "_law_lowest" (defArgs s_l_lowest) (defBody s_l_lowest) (defScope s_l_lowest) .none kV6 dc6 pm6 an6 cd6 ct6), sl6⟩) (c6 : PySem.W.codeIn K cd6 "_law_lowest" = true) (k6 : PySem.W.keepIn K (.ref f6) = true)
    (a7 : PySem.W.nsIn K mainGlobals "_law_rule" = some (some (.ref f7))) (l7 : K.lookup f7 = some ⟨oc7, od7, .func (PySem.W.fnOf "_law_rule" "_law_rule" (defArgs s_l_rule) (defBody s_l_rule) (defScope s_l_rule) .none kV7 dc7 pm7 an7 cd7 ct7), sl7⟩) (c7 : PySem.W.codeIn K cd7 "_law_rule" = true) (k7 : PySem.W.keepIn K (.ref f7) = true)
    (a8 : PySem.W.nsIn K mainGlobals "is_integer" = some (some (.ref f8))) (l8 : K.lookup f8 = some ⟨oc8, od8, .func (PySem.W.fnOf "is_integer" "is_integer" (defArgs s_is_integer) (defBody s_is_integer) (defScope s_is_integer) .none kV8 dc8 pm8 an8 cd8 ct8), sl8⟩) (c8 : PySem.W.codeIn K cd8 "is_integer" = true) (k8 : PySem.W.keepIn K (.ref f8) = true)
    (a9 : PySem.W.nsIn K mainGlobals "check_integer" = some (some (.ref f9))) (l9 : K.lookup f9 = some ⟨oc9, od9, .func (PySem.W.fnOf "check_integer" "check_integer" (defArgs s_check_integer) (defBody s_check_integer) (defScope s_check_integer) .none kV9 dc9 pm9 an9 cd9 ct9), sl9⟩) (c9 : PySem.W.codeIn K cd9 "check_integer" = true) (k9 : PySem.W.keepIn K (.ref f9) = true)
    (a10 : PySem.W.nsIn K mainGlobals "check_at_least" = some (some (.ref f10))) (l10 : K.lookup f10 = some ⟨oc10, od10, .func (PySem.W.fnOf "check_at_least" "check_at_least" (defArgs s_check_at_least) (defBody s_check_at_least) (defScope s_check_at_least) .none kV10 dc10 pm10 an10 cd10 ct10), sl10⟩) (c10 : PySem.W.codeIn K cd10 "check_at_least" = true) (k10 : PySem.W.keepIn K (.ref f10) = true)
    (a11 : PySem.W.nsIn K mainGlobals "gcd" = some (some (.ref f11))) (l11 : K.lookup f11 = some ⟨oc11, od11, .func (PySem.W.fnOf "gcd" "gcd" (defArgs s_gcd) (defBody s_gcd) (defScope s_gcd) .none kV11 dc11 pm11 an11 cd11 ct11), sl11⟩) (c11 : PySem.W.codeIn K cd11 "gcd" = true) (k11 : PySem.W.keepIn K (.ref f11) = true)
    (a12 : PySem.W.nsIn K mainGlobals "_law_tally" = some (some (.ref f12))) (l12 : K.lookup f12 = some ⟨oc12, od12, .func (PySem.W.fnOf "_law_tally" "_law_tally" (defArgs s_l_tally) (defBody s_l_tally) (defScope s_l_tally) .none kV12 dc12 pm12 an12 cd12 ct12), sl12⟩) (c12 : PySem.W.codeIn K cd12 "_law_tally" = true) (k12 : PySem.W.keepIn K (.ref f12) = true)
    (a13 : PySem.W.nsIn K mainGlobals "_law_anything" = some (some (.ref f13))) (l13 : K.lookup f13 = some ⟨oc13, od13, .func (PySem.W.fnOf "_law_anything" "_law_anything" (defArgs s_l_anything) (defBody s_l_anything) (defScope s_l_anything) .none kV13 dc13 pm13 an13 cd13 ct13), sl13⟩) (c13 : PySem.W.codeIn K cd13 "_law_anything" = true) (k13 : PySem.W.keepIn K (.ref f13) = true)
    (a14 : PySem.W.nsIn K mainGlobals "is_counts" = some (some (.ref f14))) (l14 : K.lookup f14 = some ⟨oc14, od14, .func (PySem.W.fnOf "is_counts" "is_counts" (defArgs s_is_counts) (defBody s_is_counts) (defScope s_is_counts) .none kV14 dc14 pm14 an14 cd14 ct14), sl14⟩) (c14 : PySem.W.codeIn K cd14 "is_counts" = true) (k14 : PySem.W.keepIn K (.ref f14) = true)
    (a15 : PySem.W.nsIn K mainGlobals "reduce_rule" = some (some (.ref f15))) (l15 : K.lookup f15 = some ⟨oc15, od15, .func (PySem.W.fnOf "reduce_rule" "reduce_rule" (defArgs s_reduce_rule) (defBody s_reduce_rule) (defScope s_reduce_rule) .none kV15 dc15 pm15 an15 cd15 ct15), sl15⟩) (c15 : PySem.W.codeIn K cd15 "reduce_rule" = true) (k15 : PySem.W.keepIn K (.ref f15) = true)
    (a16 : PySem.W.nsIn K mainGlobals "cycle_rule" = some (some (.ref f16))) (l16 : K.lookup f16 = some ⟨oc16, od16, .func (PySem.W.fnOf "cycle_rule" "cycle_rule" (defArgs s_cycle_rule) (defBody s_cycle_rule) (defScope s_cycle_rule) .none kV16 dc16 pm16 an16 cd16 ct16), sl16⟩) (c16 : PySem.W.codeIn K cd16 "cycle_rule" = true) (k16 : PySem.W.keepIn K (.ref f16) = true)
    (a17 : PySem.W.nsIn K mainGlobals "_law_is_int" = some (some (.ref f17))) (l17 : K.lookup f17 = some ⟨oc17, od17, .func (PySem.W.fnOf "_law_is_int" "_law_is_int" (defArgs s_l_is_int) (defBody s_l_is_int) (defScope s_l_is_int) .none kV17 dc17 pm17 an17 cd17 ct17), sl17⟩) (c17 : PySem.W.codeIn K cd17 "_law_is_int" = true) (k17 : PySem.W.keepIn K (.ref f17) = true)
    (a18 : PySem.W.nsIn K mainGlobals "_law_refused" = some (some (.ref f18))) (l18 : K.lookup f18 = some ⟨oc18, od18, .func (PySem.W.fnOf "_law_refused" "_law_refused" (defArgs s_l_refused) (defBody s_l_refused) (defScope s_l_refused) .none kV18 dc18 pm18 an18 cd18 ct18), sl18⟩) (c18 : PySem.W.codeIn K cd18 "_law_refused" = true) (k18 : PySem.W.keepIn K (.ref f18) = true)
    (a19 : PySem.W.nsIn K mainGlobals "_law_is_rule" = some (some (.ref f19))) (l19 : K.lookup f19 = some ⟨oc19, od19, .func (PySem.W.fnOf "_law_is_rule" "_law_is_rule" (defArgs s_l_is_rule) (defBody s_l_is_rule) (defScope s_l_is_rule) .none kV19 dc19 pm19 an19 cd19 ct19), sl19⟩) (c19 : PySem.W.codeIn K cd19 "_law_is_rule" = true) (k19 : PySem.W.keepIn K (.ref f19) = true)
    (a20 : PySem.W.nsIn K mainGlobals "_law_pattern" = some (some (.ref f20))) (l20 : K.lookup f20 = some ⟨oc20, od20, .func (PySem.W.fnOf "_law_pattern" "_law_pattern" (defArgs s_l_pattern) (defBody s_l_pattern) (defScope s_l_pattern) .none kV20 dc20 pm20 an20 cd20 ct20), sl20⟩) (c20 : PySem.W.codeIn K cd20 "_law_pattern" = true) (k20 : PySem.W.keepIn K (.ref f20) = true)
    (a21 : PySem.W.nsIn K mainGlobals "_law_has_rule" = some (some (.ref f21))) (l21 : K.lookup f21 = some ⟨oc21, od21, .func (PySem.W.fnOf "_law_has_rule" "_law_has_rule" (defArgs s_l_has_rule) (defBody s_l_has_rule) (defScope s_l_has_rule) .none kV21 dc21 pm21 an21 cd21 ct21), sl21⟩) (c21 : PySem.W.codeIn K cd21 "_law_has_rule" = true) (k21 : PySem.W.keepIn K (.ref f21) = true)
    (a22 : PySem.W.nsIn K mainGlobals "_law_some_pattern" = some (some (.ref f22))) (l22 : K.lookup f22 = some ⟨oc22, od22, .func (PySem.W.fnOf "_law_some_pattern" "_law_some_pattern" (defArgs s_l_some_pattern) (defBody s_l_some_pattern) (defScope s_l_some_pattern) .none kV22 dc22 pm22 an22 cd22 ct22), sl22⟩) (c22 : PySem.W.codeIn K cd22 "_law_some_pattern" = true) (k22 : PySem.W.keepIn K (.ref f22) = true)
    (a23 : PySem.W.nsIn K mainGlobals "_law_long_right" = some (some (.ref f23))) (l23 : K.lookup f23 = some ⟨oc23, od23, .func (PySem.W.fnOf "_law_long_right" "_law_long_right" (defArgs s_l_long_right) (defBody s_l_long_right) (defScope s_l_long_right) .none kV23 dc23 pm23 an23 cd23 ct23), sl23⟩) (c23 : PySem.W.codeIn K cd23 "_law_long_right" = true) (k23 : PySem.W.keepIn K (.ref f23) = true)
    (a24 : PySem.W.nsIn K mainGlobals "law" = some (some (.ref f24))) (l24 : K.lookup f24 = some ⟨oc24, od24, .func (PySem.W.fnOf "law" "law" (defArgs s_law) (defBody s_law) (defScope s_law) .none kV24 dc24 pm24 an24 cd24 ct24), sl24⟩) (c24 : PySem.W.codeIn K cd24 "law" = true) (k24 : PySem.W.keepIn K (.ref f24) = true)
    (z0 : PySem.W.nsIn K mainGlobals "len" = some none) (z1 : PySem.W.nsIn K mainGlobals "abs" = some none) (z2 : PySem.W.nsIn K mainGlobals "list" = some none) (z3 : PySem.W.nsIn K mainGlobals "range" = some none) (z4 : PySem.W.nsIn K mainGlobals "sum" = some none) (z5 : PySem.W.nsIn K mainGlobals "repr" = some none) (z6 : PySem.W.nsIn K mainGlobals "max" = some none) (z7 : PySem.W.nsIn K mainGlobals "min" = some none) (z8 : PySem.W.nsIn K mainGlobals "reversed" = some none) (z9 : PySem.W.nsIn K mainGlobals "divmod" = some none) (z10 : PySem.W.nsIn K mainGlobals "isinstance" = some none) (z11 : PySem.W.nsIn K mainGlobals "all" = some none) (z12 : PySem.W.nsIn K mainGlobals "int" = some none) (z13 : PySem.W.nsIn K mainGlobals "bool" = some none) (z14 : PySem.W.nsIn K mainGlobals "tuple" = some none) (z15 : PySem.W.nsIn K mainGlobals "sorted" = some none) (z16 : PySem.W.nsIn K mainGlobals "zip" = some none) (z17 : PySem.W.nsIn K mainGlobals "enumerate" = some none) (z18 : PySem.W.nsIn K mainGlobals "set" = some none) (z19 : PySem.W.nsIn K mainGlobals "str" = some none)
    {vC0 vI0 vD0 vX0 vN0 : Addr} {vnm0 vqn0 : Str} {vbs0 vbm0 vsb0 : List Value} {vsn0 : List Str} {vab0 : Bool} {vcl0 : Option Bool} {vdd0 von0 vcd0 vce0 van0 : Option Addr} {vk00 vk10 vk20 vk30 vk50 : Option Value} {voc0 vkV0 vdc0 vpm0 vct0 vcc0 vce20 : Value} {vsl0 vcs0 vcs20 : Array (Option Value)} {vvs0 : Array Value} {vfl0 : Str} {vtf0 : Tok} (v0_0 : PySem.W.nsIn K mainGlobals "InvalidCounts" = some (some (.ref vC0))) (v0_1 : K.lookup vC0 = some (excClassObj vnm0 vqn0 vC0 vN0 vbs0 vbm0 true vsn0 vsb0 vab0 vcl0 vdd0 vk00 vk10 vk20 vk30 vk50 "ValueError.__new__")) (v0_2 : PySem.HandSPX.refsVE vbm0 = true) (v0_3 : PySem.W.findIn K (.ref vC0) "__setattr__" = some (some (.builtin "object.__setattr__"))) (v0_4 : PySem.W.subIn K (.ref vC0) (.type "BaseException") = some true) (v0_5 : PySem.W.typeIn K (.ref vC0) = some (.type "type")) (v0_6 : PySem.W.keepIn K (.ref vC0) = true) (v0_7 : PySem.W.findIn K (.ref vC0) "__init__" = some (some (.ref vI0))) (v0_8 : K.lookup vI0 = some ⟨voc0, von0, .func (PySem.W.ksFn "__init__" "InvalidCounts.__init__" (defArgs sI_InvalidCounts) (defBody sI_InvalidCounts) (defScope sI_InvalidCounts) .none vkV0 vdc0 vpm0 van0 (.ref vD0) vct0 vX0), vsl0⟩) (v0_9 : PySem.W.codeIn K (.ref vD0) "InvalidCounts.__init__" = true) (v0_10 : K.lookup vD0 = some ⟨vcc0, vcd0, .fields vvs0, vcs0⟩) (v0_11 : vvs0[2]? = some (.str vfl0 vtf0)) (v0_12 : ((l.prog.main.file : Str) == vfl0) = true) (v0_13 : K.lookup vX0 = some ⟨vce20, vce0, .cell (some (.ref vC0)), vcs20⟩) (v0_14 : PySem.W.mroIn K vC0 (.ref vC0) = some true) (v0_15 : PySem.W.ks_superIn K vC0 vC0 "__init__" = some (some (.builtin "ValueError.__init__"))) (v0_16 : PySem.W.subIn K (.ref vC0) (.type "ValueError") = some true) (v0_17 : PySem.W.findIn K (.ref vC0) "value" = some none) (v0_18 : PySem.W.typeIn K (.ref vI0) = some (.type "function")) (v0_19 : PySem.W.findIn K (.ref vC0) "__getattribute__" = some (some (.builtin "BaseException.__getattribute__"))) (v0_20 : PySem.W.findIn K (.ref vC0) "__getattr__" = some none) (v0_21 : PySem.W.hasDictIn K vC0 = true) (v0_22 : PySem.W.findIn K (.ref vC0) "__class__" = some (some (.builtin "object.__class__"))) (v0_23 : PySem.W.mroIn K vC0 (.type "object") = some true) (v0_24 : PySem.W.subIn K (.ref vC0) (.ref vC0) = some true) (vu0 : PySem.W.nsIn K cStatics "thirdparty.any" = some none) (vu1 : PySem.W.specialIn K (.builtin "object.__class__") "__get__" = some (some (.builtin "getset_descriptor.__get__"))) (vu2 : PySem.W.takesIn K (.builtin "object.__class__") = some true) (vu3 : (l.prog.main.scope.names.lookup ("super" : Str)).isSome = false) (vu4 : PySem.W.nsIn K mainGlobals "super" = some none)
    {cL PT : Addr} {eL : Value} {dL : Option Addr} {vL : Array Value} {sL : Array (Option Value)}
    {tM : Tok} (xM : PySem.W.nsIn K mainGlobals "MOST_ITEMS" = some (some (.int 200 tM)))
    {Lc Nc Rc Ec Fc : Addr} (x7 : PySem.W.nsIn K mainGlobals "LeapfitError" = some (some (.ref Lc))) (x8 : PySem.W.nsIn K mainGlobals "InvalidNumber" = some (some (.ref Nc))) (x9 : PySem.W.nsIn K mainGlobals "InvalidRule" = some (some (.ref Rc))) (x10 : PySem.W.nsIn K mainGlobals "NoEvents" = some (some (.ref Ec))) (x11 : PySem.W.nsIn K mainGlobals "NoRule" = some (some (.ref Fc)))
    (x12 : PySem.W.kitOne K (.ref vC0) (.ref Lc) = some true) (x13 : PySem.W.kitAny K (.ref vC0) [.ref Nc, .ref Rc, .ref Ec, .ref Fc] = some false)
    (v0 : cd24 = .ref cL) (v1 : K.lookup cL = some ⟨eL, dL, .fields vL, sL⟩) (v2 : vL[11]? = some (.ref PT)) (v3 : K.lookup PT = none) (v4 : PySem.W.codeHdIn K cL PT = true) (v5 : h.get? PT = some { cls := .none, data := .fields #[] }) :
    LawGT1 l w K 9 "_law_script" mg fa h := by
  have e := hfa.symm.trans (PySem.W.mg_of X G a24)
  cases e
  subst v0
  have B : Bi mg := ⟨PySem.W.mg_none_of X G z0, PySem.W.mg_none_of X G z1, PySem.W.mg_none_of X G z2, PySem.W.mg_none_of X G z3, PySem.W.mg_none_of X G z4, PySem.W.mg_none_of X G z5, PySem.W.mg_none_of X G z6, PySem.W.mg_none_of X G z7, PySem.W.mg_none_of X G z8, PySem.W.mg_none_of X G z9, PySem.W.mg_none_of X G z10, PySem.W.mg_none_of X G z11, PySem.W.mg_none_of X G z12, PySem.W.mg_none_of X G z13, PySem.W.mg_none_of X G z14, PySem.W.mg_none_of X G z15, PySem.W.mg_none_of X G z16, PySem.W.mg_none_of X G z17, PySem.W.mg_none_of X G z18, PySem.W.mg_none_of X G z19⟩
  have UE : Be mg := ⟨⟨tM, PySem.W.mg_of X G xM⟩⟩
  have V_InvalidCounts : ValC l.prog K mg vC0 "InvalidCounts" "value" := ⟨PySem.W.mg_of X G v0_0, ⟨vI0, vD0, vX0, "InvalidCounts.__init__", defArgs sI_InvalidCounts, defBody sI_InvalidCounts, defScope sI_InvalidCounts, vkV0, vdc0, vpm0, vct0, voc0, van0, von0, vsl0, v0_8, v0_9, iniT_InvalidCounts, ⟨⟨⟨vnm0, vqn0, vN0, vbs0, vbm0, vsn0, vsb0, vab0, vcl0, vdd0, vk00, vk10, vk20, vk30, vk50, v0_1, v0_2⟩, v0_3, v0_4, v0_5, v0_6⟩, ⟨_, _, _, _, _, _, v0_10, v0_11, v0_12⟩, ⟨_, _, _, v0_13⟩, v0_14, vu0, v0_15, v0_16, v0_17, vu3⟩, v0_7, v0_18, .all fun us hl => match us, hl with | [_, _], _ => rfl⟩, PySem.W.mg_none_of X G vu4, ⟨v0_19, v0_20, v0_4, v0_21, v0_22, vu1, vu2, v0_23⟩, v0_24⟩
  have F0 := fun_mk (st := s_l_pen) l0 c0 k0
  have D_l_pen : Df K mg "_law_pen" s_l_pen P_l_pen := ⟨f0, _, F0, PySem.W.mg_of X G a0, F0.binds fun _ _ _ _ _ _ us hl => match us, hl with | [_], _ => rfl⟩
  have F1 := fun_mk (st := s_l_draw) l1 c1 k1
  have D_l_draw : Df K mg "_law_draw" s_l_draw P_l_draw := ⟨f1, _, F1, PySem.W.mg_of X G a1, F1.binds fun _ _ _ _ _ _ us hl => match us, hl with | [_, _], _ => rfl⟩
  have F2 := fun_mk (st := s_l_pick) l2 c2 k2
  have D_l_pick : Df K mg "_law_pick" s_l_pick P_l_pick := ⟨f2, _, F2, PySem.W.mg_of X G a2, F2.binds fun _ _ _ _ _ _ us hl => match us, hl with | [_, _], _ => rfl⟩
  have F3 := fun_mk (st := s_l_great) l3 c3 k3
  have D_l_great : Df K mg "_law_great" s_l_great P_l_great := ⟨f3, _, F3, PySem.W.mg_of X G a3, F3.binds fun _ _ _ _ _ _ us hl => match us, hl with | [_, _], _ => rfl⟩
  have F4 := fun_mk (st := s_l_signed) l4 c4 k4
  have D_l_signed : Df K mg "_law_signed" s_l_signed P_l_signed := ⟨f4, _, F4, PySem.W.mg_of X G a4, F4.binds fun _ _ _ _ _ _ us hl => match us, hl with | [_, _], _ => rfl⟩
  have F5 := fun_mk (st := s_l_gcd) l5 c5 k5
  have D_l_gcd : Df K mg "_law_gcd" s_l_gcd P_l_gcd := ⟨f5, _, F5, PySem.W.mg_of X G a5, F5.binds fun _ _ _ _ _ _ us hl => match us, hl with | [_, _], _ => rfl⟩
  have F6 := fun_mk (st := s_l_lowest) l6 c6 k6
  have D_l_lowest : Df K mg "_law_lowest" s_l_lowest P_l_lowest := ⟨f6, _, F6, PySem.W.mg_of X G a6, F6.binds fun _ _ _ _ _ _ us hl => match us, hl with | [_, _, _], _ => rfl⟩
  have F7 := fun_mk (st := s_l_rule) l7 c7 k7
  have D_l_rule : Df K mg "_law_rule" s_l_rule P_l_rule := ⟨f7, _, F7, PySem.W.mg_of X G a7, F7.binds fun _ _ _ _ _ _ us hl => match us, hl with | [_, _], _ => rfl⟩
  have F8 := fun_mk (st := s_is_integer) l8 c8 k8
  have D_is_integer : Df K mg "is_integer" s_is_integer P_is_integer := ⟨f8, _, F8, PySem.W.mg_of X G a8, F8.binds fun _ _ _ _ _ _ us hl => match us, hl with | [_], _ => rfl⟩
  have F9 := fun_mk (st := s_check_integer) l9 c9 k9
  have D_check_integer : Df K mg "check_integer" s_check_integer P_check_integer := ⟨f9, _, F9, PySem.W.mg_of X G a9, F9.binds fun _ _ _ _ _ _ us hl => match us, hl with | [_], _ => rfl⟩
  have F10 := fun_mk (st := s_check_at_least) l10 c10 k10
  have D_check_at_least : Df K mg "check_at_least" s_check_at_least P_check_at_least := ⟨f10, _, F10, PySem.W.mg_of X G a10, F10.binds fun _ _ _ _ _ _ us hl => match us, hl with | [_, _], _ => rfl⟩
  have F11 := fun_mk (st := s_gcd) l11 c11 k11
  have D_gcd : Df K mg "gcd" s_gcd P_gcd := ⟨f11, _, F11, PySem.W.mg_of X G a11, F11.binds fun _ _ _ _ _ _ us hl => match us, hl with | [_, _], _ => rfl⟩
  have F12 := fun_mk (st := s_l_tally) l12 c12 k12
  have D_l_tally : Df K mg "_law_tally" s_l_tally P_l_tally := ⟨f12, _, F12, PySem.W.mg_of X G a12, F12.binds fun _ _ _ _ _ _ us hl => match us, hl with | [_, _], _ => rfl⟩
  have F13 := fun_mk (st := s_l_anything) l13 c13 k13
  have D_l_anything : Df K mg "_law_anything" s_l_anything P_l_anything := ⟨f13, _, F13, PySem.W.mg_of X G a13, F13.binds fun _ _ _ _ _ _ us hl => match us, hl with | [_, _], _ => rfl⟩
  have F14 := fun_mk (st := s_is_counts) l14 c14 k14
  have D_is_counts : Df K mg "is_counts" s_is_counts P_is_counts := ⟨f14, _, F14, PySem.W.mg_of X G a14, F14.binds fun _ _ _ _ _ _ us hl => match us, hl with | [_], _ => rfl⟩
  have F15 := fun_mk (st := s_reduce_rule) l15 c15 k15
  have D_reduce_rule : Df K mg "reduce_rule" s_reduce_rule P_reduce_rule := ⟨f15, _, F15, PySem.W.mg_of X G a15, F15.binds fun _ _ _ _ _ _ us hl => match us, hl with | [_, _, _], _ => rfl⟩
  have F16 := fun_mk (st := s_cycle_rule) l16 c16 k16
  have D_cycle_rule : Df K mg "cycle_rule" s_cycle_rule P_cycle_rule := ⟨f16, _, F16, PySem.W.mg_of X G a16, F16.binds fun _ _ _ _ _ _ us hl => match us, hl with | [_], _ => rfl⟩
  have F17 := fun_mk (st := s_l_is_int) l17 c17 k17
  have D_l_is_int : Df K mg "_law_is_int" s_l_is_int P_l_is_int := ⟨f17, _, F17, PySem.W.mg_of X G a17, F17.binds fun _ _ _ _ _ _ us hl => match us, hl with | [_], _ => rfl⟩
  have F18 := fun_mk (st := s_l_refused) l18 c18 k18
  have D_l_refused : Df K mg "_law_refused" s_l_refused P_l_refused := ⟨f18, _, F18, PySem.W.mg_of X G a18, F18.binds fun _ _ _ _ _ _ us hl => match us, hl with | [_], _ => rfl⟩
  have F19 := fun_mk (st := s_l_is_rule) l19 c19 k19
  have D_l_is_rule : Df K mg "_law_is_rule" s_l_is_rule P_l_is_rule := ⟨f19, _, F19, PySem.W.mg_of X G a19, F19.binds fun _ _ _ _ _ _ us hl => match us, hl with | [_], _ => rfl⟩
  have F20 := fun_mk (st := s_l_pattern) l20 c20 k20
  have D_l_pattern : Df K mg "_law_pattern" s_l_pattern P_l_pattern := ⟨f20, _, F20, PySem.W.mg_of X G a20, F20.binds fun _ _ _ _ _ _ us hl => match us, hl with | [_, _, _], _ => rfl⟩
  have F21 := fun_mk (st := s_l_has_rule) l21 c21 k21
  have D_l_has_rule : Df K mg "_law_has_rule" s_l_has_rule P_l_has_rule := ⟨f21, _, F21, PySem.W.mg_of X G a21, F21.binds fun _ _ _ _ _ _ us hl => match us, hl with | [_], _ => rfl⟩
  have F22 := fun_mk (st := s_l_some_pattern) l22 c22 k22
  have D_l_some_pattern : Df K mg "_law_some_pattern" s_l_some_pattern P_l_some_pattern := ⟨f22, _, F22, PySem.W.mg_of X G a22, F22.binds fun _ _ _ _ _ _ us hl => match us, hl with | [_], _ => rfl⟩
  have F23 := fun_mk (st := s_l_long_right) l23 c23 k23
  have D_l_long_right : Df K mg "_law_long_right" s_l_long_right P_l_long_right := ⟨f23, _, F23, PySem.W.mg_of X G a23, F23.binds fun _ _ _ _ _ _ us hl => match us, hl with | [_], _ => rfl⟩
  have F24 := fun_mk (st := s_law) l24 c24 k24
  refine ⟨PySem.W.fnOf "law" "law" (defArgs s_law) (defBody s_law) (defScope s_law) .none kV24 dc24 pm24 an24 (.ref cL) ct24, cL, PT, spLawT K PT, v5, v3, PySem.W.codeHd_of_K X v4, fun s v => .of_eq rfl, fun H a ns hl ht hS => ⟨a, ns, rfl, hS, hl, ht, fun _ => rfl⟩, fun base _ _ o1 TB => ?_⟩
  have T := V_InvalidCounts
  have c_l_pen := ok_l_pen (P := l.prog) (w := w) (base := base) D_l_pen B
  have c_l_draw := ok_l_draw (P := l.prog) (w := w) (base := base) D_l_draw B
  have c_l_pick := ok_l_pick (P := l.prog) (w := w) (base := base) D_l_pick B c_l_draw
  have c_l_great := ok_l_great (P := l.prog) (w := w) (base := base) D_l_great B c_l_draw
  have c_l_signed := ok_l_signed (P := l.prog) (w := w) (base := base) D_l_signed B c_l_draw c_l_pick c_l_great
  have c_l_gcd := ok_l_gcd (P := l.prog) (w := w) (base := base) D_l_gcd
  have c_l_lowest := ok_l_lowest (P := l.prog) (w := w) (base := base) D_l_lowest c_l_gcd
  have c_l_rule := ok_l_rule (P := l.prog) (w := w) (base := base) D_l_rule B c_l_draw c_l_pick c_l_lowest
  have cA_is_integer := okA_is_integer (P := l.prog) (w := w) (base := base) D_is_integer B
  have c_is_integer := ok_is_integer (P := l.prog) (w := w) (base := base) D_is_integer B
  have c_check_integer := ok_check_integer (P := l.prog) (w := w) (base := base) D_check_integer c_is_integer
  have c_check_at_least := ok_check_at_least (P := l.prog) (w := w) (base := base) D_check_at_least c_is_integer
  have c_gcd := ok_gcd (P := l.prog) (w := w) (base := base) D_gcd
  have c_l_tally := ok_l_tally (P := l.prog) (w := w) (base := base) D_l_tally
  have c_l_anything := ok_l_anything (P := l.prog) (w := w) (base := base) D_l_anything B c_l_draw
  have cA_is_counts := okA_is_counts (P := l.prog) (w := w) (base := base) D_is_counts B UE c_is_integer
  have c_is_counts := ok_is_counts (P := l.prog) (w := w) (base := base) D_is_counts B UE cA_is_integer
  have c_reduce_rule := ok_reduce_rule (P := l.prog) (w := w) (base := base) D_reduce_rule c_check_at_least c_check_integer c_gcd
  have cx_cycle_rule := okx_cycle_rule (P := l.prog) (w := w) (base := base) D_cycle_rule V_InvalidCounts B cA_is_counts c_is_counts c_reduce_rule
  have c_cycle_rule := ok_cycle_rule (P := l.prog) (w := w) (base := base) D_cycle_rule B cA_is_counts c_reduce_rule
  have c_l_is_int := ok_l_is_int (P := l.prog) (w := w) (base := base) D_l_is_int B
  have c_l_is_rule := ok_l_is_rule (P := l.prog) (w := w) (base := base) D_l_is_rule B c_l_is_int c_l_gcd
  have c_l_pattern := ok_l_pattern (P := l.prog) (w := w) (base := base) D_l_pattern B c_l_tally
  have c_l_has_rule := ok_l_has_rule (P := l.prog) (w := w) (base := base) D_l_has_rule B
  have c_l_some_pattern := ok_l_some_pattern (P := l.prog) (w := w) (base := base) D_l_some_pattern B c_l_draw c_l_pick c_l_great c_l_rule c_l_pattern
  have c_l_long_right := ok_l_long_right (P := l.prog) (w := w) (base := base) D_l_long_right B c_l_draw c_l_pick c_l_great c_l_lowest c_l_pattern c_l_tally c_l_has_rule c_cycle_rule
  have U : Cls20 K mg vC0 Lc Nc Rc Ec Fc := ⟨PySem.W.mg_of X G x7, PySem.W.mg_of X G x8, PySem.W.mg_of X G x9, PySem.W.mg_of X G x10, PySem.W.mg_of X G x11, x12, x13⟩
  exact ok_law (P := l.prog) (w := w) (base := base) l24 c24 TB o1 V_InvalidCounts U B D_l_refused c_l_pen c_l_draw c_l_pick c_l_signed c_l_some_pattern c_l_long_right c_l_anything c_l_is_int c_l_is_rule c_l_tally c_l_pattern c_l_has_rule c_cycle_rule cx_cycle_rule
end Lf
open PySem PySem.W PyProof.Rows
set_option maxRecDepth 100000 in
set_option maxHeartbeats 0 in
theorem PySem.Challenge.cw_leapfit_k23_whole_cycle_rules_holds : PySem.Challenge.rw_leapfit_k23_whole_cycle_rules.Holds := by
  w_on; o_law; k_head; (case hw => w_witness2)
  k_fill
  refine Lf.walkGT1 (l := PySem.Challenge.rw_leapfit_k23_whole_cycle_rules) (k := 9) (x := "_law_script") rfl rfl rfl ⟨rfl, by decide, by decide⟩ (fun w h Y => PySem.W.km_in_of Y) ?F
  case F =>
    intro w mg fa h Y KX G hmg
    refine' Lf.all_mk KX G hmg ?a0 ?l0 ?c0 ?k0 ?a1 ?l1 ?c1 ?k1 ?a2 ?l2 ?c2 ?k2 ?a3 ?l3 ?c3 ?k3 ?a4 ?l4 ?c4 ?k4 ?a5 ?l5 ?c5 ?k5 ?a6 ?l6 ?c6 ?k6 ?a7 ?l7 ?c7 ?k7 ?a8 ?l8 ?c8 ?k8 ?a9 ?l9 ?c9 ?k9 ?a10 ?l10 ?c10 ?k10 ?a11 ?l11 ?c11 ?k11 ?a12 ?l12 ?c12 ?k12 ?a13 ?l13 ?c13 ?k13 ?a14 ?l14 ?c14 ?k14 ?a15 ?l15 ?c15 ?k15 ?a16 ?l16 ?c16 ?k16 ?a17 ?l17 ?c17 ?k17 ?a18 ?l18 ?c18 ?k18 ?a19 ?l19 ?c19 ?k19 ?a20 ?l20 ?c20 ?k20 ?a21 ?l21 ?c21 ?k21 ?a22 ?l22 ?c22 ?k22 ?a23 ?l23 ?c23 ?k23 ?a24 ?l24 ?c24 ?k24 ?z0 ?z1 ?z2 ?z3 ?z4 ?z5 ?z6 ?z7 ?z8 ?z9 ?z10 ?z11 ?z12 ?z13 ?z14 ?z15 ?z16 ?z17 ?z18 ?z19 ?v0_0 ?v0_1 ?v0_2 ?v0_3 ?v0_4 ?v0_5 ?v0_6 ?v0_7 ?v0_8 ?v0_9 ?v0_10 ?v0_11 ?v0_12 ?v0_13 ?v0_14 ?v0_15 ?v0_16 ?v0_17 ?v0_18 ?v0_19 ?v0_20 ?v0_21 ?v0_22 ?v0_23 ?v0_24 ?vu0 ?vu1 ?vu2 ?vu3 ?vu4 ?xM ?x7 ?x8 ?x9 ?x10 ?x11 ?x12 ?x13 ?v0 ?v1 ?v2 ?v3 ?v4 ?v5
    (case a0 => k_is); (case l0 => k_is); (case c0 => k_is); (case k0 => k_is)
    (case a1 => k_is); (case l1 => k_is); (case c1 => k_is); (case k1 => k_is)
    (case a2 => k_is); (case l2 => k_is); (case c2 => k_is); (case k2 => k_is)
    (case a3 => k_is); (case l3 => k_is); (case c3 => k_is); (case k3 => k_is)
    (case a4 => k_is); (case l4 => k_is); (case c4 => k_is); (case k4 => k_is)
    (case a5 => k_is); (case l5 => k_is); (case c5 => k_is); (case k5 => k_is)
    (case a6 => k_is); (case l6 => k_is); (case c6 => k_is); (case k6 => k_is)
    (case a7 => k_is); (case l7 => k_is); (case c7 => k_is); (case k7 => k_is)
    (case a8 => k_is); (case l8 => k_is); (case c8 => k_is); (case k8 => k_is)
    (case a9 => k_is); (case l9 => k_is); (case c9 => k_is); (case k9 => k_is)
    (case a10 => k_is); (case l10 => k_is); (case c10 => k_is); (case k10 => k_is)
    (case a11 => k_is); (case l11 => k_is); (case c11 => k_is); (case k11 => k_is)
    (case a12 => k_is); (case l12 => k_is); (case c12 => k_is); (case k12 => k_is)
    (case a13 => k_is); (case l13 => k_is); (case c13 => k_is); (case k13 => k_is)
    (case a14 => k_is); (case l14 => k_is); (case c14 => k_is); (case k14 => k_is)
    (case a15 => k_is); (case l15 => k_is); (case c15 => k_is); (case k15 => k_is)
    (case a16 => k_is); (case l16 => k_is); (case c16 => k_is); (case k16 => k_is)
    (case a17 => k_is); (case l17 => k_is); (case c17 => k_is); (case k17 => k_is)
    (case a18 => k_is); (case l18 => k_is); (case c18 => k_is); (case k18 => k_is)
    (case a19 => k_is); (case l19 => k_is); (case c19 => k_is); (case k19 => k_is)
    (case a20 => k_is); (case l20 => k_is); (case c20 => k_is); (case k20 => k_is)
    (case a21 => k_is); (case l21 => k_is); (case c21 => k_is); (case k21 => k_is)
    (case a22 => k_is); (case l22 => k_is); (case c22 => k_is); (case k22 => k_is)
    (case a23 => k_is); (case l23 => k_is); (case c23 => k_is); (case k23 => k_is)
    (case a24 => k_is); (case l24 => k_is); (case c24 => k_is); (case k24 => k_is)
    (case z0 => k_is); (case z1 => k_is); (case z2 => k_is); (case z3 => k_is); (case z4 => k_is); (case z5 => k_is); (case z6 => k_is); (case z7 => k_is); (case z8 => k_is); (case z9 => k_is); (case z10 => k_is); (case z11 => k_is); (case z12 => k_is); (case z13 => k_is); (case z14 => k_is); (case z15 => k_is); (case z16 => k_is); (case z17 => k_is); (case z18 => k_is); (case z19 => k_is)
    (case v0_0 => k_is)
    (case v0_1 => k_is)
    (case v0_2 => first | rfl | decide +kernel)
    (case v0_3 => k_is)
    (case v0_4 => k_is)
    (case v0_5 => k_is)
    (case v0_6 => k_is)
    (case v0_7 => k_is)
    (case v0_8 => k_is)
    (case v0_9 => k_is)
    (case v0_10 => k_is)
    (case v0_11 => first | rfl | k_is)
    (case v0_12 => first | rfl | decide +kernel)
    (case v0_13 => k_is)
    (case v0_14 => first | k_is | kernel_rfl)
    (case v0_15 => kernel_rfl)
    (case v0_16 => k_is)
    (case v0_17 => k_is)
    (case v0_18 => k_is)
    (case v0_19 => k_is)
    (case v0_20 => k_is)
    (case v0_21 => k_is)
    (case v0_22 => k_is)
    (case v0_23 => k_is)
    (case v0_24 => first | rfl | k_is)
    (case vu0 => k_is)
    (case vu1 => k_is)
    (case vu2 => k_is)
    (case vu3 => first | rfl | decide +kernel)
    (case vu4 => k_is)
    (case xM => k_is); (case x7 => k_is); (case x8 => k_is); (case x9 => k_is); (case x10 => k_is); (case x11 => k_is); (case x12 => first | kernel_rfl | k_is); (case x13 => first | kernel_rfl | k_is)
    (case v0 => first | rfl | k_is); (case v1 => k_is); (case v2 => first | rfl | k_is); (case v3 => kernel_rfl); (case v4 => kernel_rfl); (case v5 => exact PySem.W.km_tabs_of Y _ (by decide))
